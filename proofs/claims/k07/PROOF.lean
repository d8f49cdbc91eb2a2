import PyProof.Rows.All
import Wide.All
import OpenK.AllK
import Wide.FinOn
import Lean
import PyProof.EqAt
import PyProof.EqKinds
import PyProof.TupleCall
import PyProof.CompFree
import PyProof.CompUse
import PySem.SetOps
import PyProof.SetScanFacts
import PyProof.TupleKey
import PyProof.SetKind
import PyProof.Rows.SetFrom
import PyProof.IsRules
import PyProof.P3Eq
import PyProof.NeKinds
import KE.KSortTup
import KE.KTupSum
import PySem.Challenge.RW_threewards_k07_cuts_looked_at
set_option Elab.async false
set_option linter.all false
set_option maxRecDepth 100000
set_option compiler.extract_closed false
set_option Elab.async false
set_option linter.all false
set_option maxRecDepth 100000
noncomputable section
theorem J{p:Prop}(h:p:=by lia):p:=h
theorem z9{p:Prop}(h:p:=by grind):p:=h
theorem AAA{p:Prop}(h:p:=by omega):p:=h
theorem AAB{p:Prop}(h:p:=by simp):p:=h
theorem AAC{p:Prop}(h:p:=by decide):p:=h
theorem AAD{p:Prop}(h:p:=by decide +kernel):p:=h
theorem AAE{p:Prop}(h:p:=by assumption):p:=h
def AAF:=@Int.emod_eq_of_lt
def AAG:=@if_neg
def AAH:=@if_pos
def AAI:=@Int.le_of_lt
def AAJ:=@Bool.and_eq_true
def AAK:=@Int.mul_nonneg
def AAL:=@List.getElem?_eq_some_iff
def AAM:=@Int.mul_eq_zero
def AAN:=@Int.mul_pos
def AAO:=@List.length_map
def AAP:=@List.mem_range
def AAQ:=@Int.mul_nonpos_of_nonneg_of_nonpos
def AAR:=@List.size_toArray
def AAS:=@Nat.le_refl
def AAT:=@List.map_cons
def AAU:=@Int.mul_le_mul_of_nonneg_left
def AAV:=@List.getElem?_eq_getElem
def AAW:=@Int.toNat_of_nonneg
def AAX:=@List.mem_cons_of_mem
def AAY:=@Int.emod_lt_of_pos
def AAZ:=@Nat.ne_of_lt
def AAa:=@decide_eq_true_eq
def AAb:=@Int.mul_le_mul_of_nonneg_right
def AAc:=@List.length_cons
def AAd:=@beq_eq_false_iff_ne
def AAe:=@Nat.lt_of_lt_of_le
def AAf:=@List.mem_cons_self
def AAg:=@List.getElem?_set_ne
def AAh:=@List.mem_singleton
def AAi:=@List.mem_cons
def AAj:=@Int.emod_nonneg
def AAk:=@Int.lt_or_gt_of_ne
def AAl:=@Option.bind_some
def AAm:=@Int.add_zero
def AAn:=@List.length_append
def AAo:=@Option.some.inj
def AAp:=@List.mem_append
def AAq:=@List.getElem?_append_left
def AAr:=@Int.emod_emod_of_dvd
def AAs:=@List.getElem?_append_right
def AAt:=@Bool.or_eq_false_iff
def AAu:=@Array.getElem?_eq_getElem
def AAv:=@Int.lt_trichotomy
def AAw:=@Int.zero_mul
def AAx:=@Option.some.injEq
def AAy:=@Bool.not_eq_true'
def AAz:=@Classical.byContradiction
def AA0:=@List.getD_eq_getElem?_getD
def AA1:=@List.mem_append_right
def AA2:=@List.map_map
def AA3:=@Ne.symm
def AA4:=@Int.mul_zero
def AA5:=@Option.map_some
def AA6:=@List.map_append
def AA7:=@Int.not_le
def AA8:=@PySem.mem_of_lookup
def AA9:=@Int.add_mul_emod_self_left
def ABA:=@List.getElem?_replicate
def ABB:=@Int.mul_nonneg_of_nonpos_of_nonpos
def ABC:=@List.pairwise_iff_getElem
def ABD:=@Prod.ext
def ABE:=@Int.le_of_mul_le_mul_left
def ABF:=@Nat.le_trans
def ABG:=@List.mem_map
def ABH:=@List.all_eq_true
def ABI:=@Int.zero_add
def ABJ:=@Array.getElem?_toList
def ABK:=@List.getElem?_map
def ABL:=@List.getElem?_cons_succ
def ABM:=@List.any_cons
def ABN:=@decide_eq_false
def ABO:=@Bool.false_ne_true
def ABP:=@List.mem_of_getElem?
def ABQ:=@List.pairwise_append
def ABR:=@Int.dvd_refl
def ABS:=@Int.sub_emod
def ABT:=@Int.le_refl
def ABU:=@Int.mul_nonpos_of_nonpos_of_nonneg
def ABV:=@Bool.true_and
def ABW:=@Int.le_total
def ABX:=@Int.add_emod
def ABY:=@PySem.W.kia_one
def ABZ:=@List.nil_append
def ABa:=@Int.mul_lt_mul_of_pos_right
def ABb:=@PySem.F.plainAttrs_list
def ABc:=@List.mem_append_left
def ABd:=@List.length_take
def ABe:=@List.lookup_cons
def ABf:=@Int.sub_self
def ABg:=@List.length_range
def ABh:=@Array.length_toList
def ABi:=@List.length_nil
def ABj:=@Int.eq_of_mul_eq_mul_left
def ABk:=@List.length_replicate
def ABl:=@Int.mul_ediv_add_emod
def ABm:=@List.cons_append
def ABn:=@decide_eq_true
def ABo:=@decide_eq_false_iff_not
def ABp:=@List.any_eq_false
def ABq:=@Bool.or_eq_true
def ABr:=@List.getElem?_set_self
def ABs:=@Nat.zero_le
def ABt:=@beq_iff_eq
def ABu:=@Int.mul_lt_mul_of_pos_left
def ABv:=@Bool.false_eq_true
def ABw:=@List.set_cons_zero
def ABx:=@List.mem_filter
def ABy:=@congrArg
def ABz:=@List.nodup_cons
def AB0:=@if_true
def AB1:=@List.getElem_of_mem
def AB2:=@List.getElem_mem
def AB3:=@List.mem_reverse
def AB4:=@Int.emod_eq_emod_iff_emod_sub_eq_zero
def AB5:=@PyProof.Rows.F.plain_set_update_loop
def AB6:=@Int.mul_comm
def AB7:=@List.append_nil
def AB8:=@List.length_singleton
def AB9:=@Bool.eq_iff_iff
def ACA:=@List.range_succ
def ACB:=@Nat.lt_irrefl
def ACC:=@List.pairwise_map
def ACD:=@List.getElem?_of_mem
def ACE:=@Int.mul_neg_of_pos_of_neg
def ACF:=@Nat.le_of_lt
def ACG:=@List.map_nil
def ACH:=@List.length_drop
def ACI:=@List.any_map
def ACJ:=@Int.sub_zero
def ACK:=@List.not_mem_nil
def ACL:=@List.getElem_append_left
def ACN:=@List.filterMap_cons
def ACO:=@Int.emod_eq_zero_of_dvd
def ACP:=@Int.dvd_of_emod_eq_zero
def ACQ:=@Prod.mk.injEq
def ACR:=@Bool.or_false
def ACS:=@List.length_set
def ACT:=@List.find?_cons
def ACU:=@Int.mul_emod_right
def ACV:=@if_false
def ACW:=@List.getElem_cons_succ
def ACX:=@Int.mul_sub
def ACY:=@Nat.lt_succ_of_lt
def ACZ:=@Int.sub_nonneg
def ACa:=@Nat.le_of_ble_eq_true
def ACb:=@PyProof.Rows.callWith_type1
def ACc:=@List.mem_of_mem_drop
def ACd:=@List.mem_of_mem_take
def ACe:=@Array.getElem?_eq_some_iff
def ACf:=@Array.perm_iff_toList_perm
def ACg:=@Int.emod_self
def ACh:=@Bool.beq_comm
def ACi:=@Int.sub_pos
def ACj:=@List.length_reverse
def ACk:=@List.map_congr_left
def ACl:=@List.drop_eq_getElem_cons
def ACm:=@Int.lt_of_mul_lt_mul_left
def ACn:=@Bool.decide_and
def ACo:=@List.mem_filterMap
def ACp:=@Nat.lt_of_le_of_lt
def ACq:=@List.pairwise_cons
def ACr:=@PyProof.Rows.F.entry_set_update_loop
def ACs:=@Nat.zero_add
def ACt:=@Int.le_of_eq
def ACu:=@Int.lt_of_le_of_lt
def ACv:=@Int.pos_of_mul_pos_right
def ACw:=@List.set_cons_succ
def ACx:=@Bool.false_and
def ACy:=@List.reverse_cons
def ACz:=@PySem.W.cellsFrom_some
def AC0:=@List.length_pos_of_mem
def AC1:=@List.take_of_length_le
def AC2:=@List.filter_eq_nil_iff
def AC3:=@Int.neg_mul
def AC4:=@Int.mul_neg
def AC5:=@List.getElem_inj
def AC6:=@List.eraseIdxIfInBounds_toArray
def AC7:=@Array.getElem?_setIfInBounds_ne
def AC8:=@List.of_mem_zip
def AC9:=@List.any_nil
def ADA:=@Int.mul_ne_zero
def ADB:=@Int.mul_le_mul_of_nonpos_left
def ADC:=@Nat.le_succ
def ADD:=@Int.one_mul
def ADE:=@Int.neg_neg
def ADF:=@List.lookup_append
def ADG:=@List.zip_cons_cons
def ADH:=@Array.getD_eq_getD_getElem?
def ADI:=@Bool.not_eq_false'
def ADJ:=@List.take_sublist
def ADK:=@Int.toNat_natCast
def ADL:=@Bool.eq_false_iff
def ADM:=@List.foldl_append
def ADN:=@List.mem_take_iff_getElem
def ADO:=@List.getElem?_take_of_lt
def ADP:=@Nat.succ_pos
def ADQ:=@List.nodup_range
def ADR:=@List.filterMap_cons_some
def ADS:=@List.drop_length
def ADT:=@List.all_map
def ADU:=@PySem.F.slot_list_insert
def ADV:=@List.any_eq_true
def ADW:=@Bool.or_comm
def ADX:=@Int.le_trans
def ADY:=@or_false
def ADZ:=@List.length_eq_zero_iff
def ADa:=@Int.eq_ofNat_of_zero_le
def ADb:=@List.cons.injEq
def ADc:=@List.sum_append
def ADd:=@Option.map_eq_some_iff
def ADe:=@Int.mul_add
def ADf:=@Int.sub_mul
def ADg:=@Int.dvd_neg
def ADh:=@List.nodup_nil
def ADi:=@List.take_append_drop
def ADj:=@PySem.F.slot_list_pop
def ADk:=@PySem.F.type_list_pop
def ADl:=@List.dropLast_eq_take
def ADm:=@Bool.not_false
def ADo:=@Nat.mod_lt
def ADq:=@PySem.W.hideAll_get
def ADr:=@List.getElem?_range
def ADs:=@List.filter_eq_self
def ADy:=@Nat.lt_trans
def AD3:=@Int.lt_trans
def AD4:=@Bool.not_and
def AEA:=@Int.mul_one
namespace L2
open PySem PySem.Spec PyProof.Rows
abbrev Key:=Sum Int Str
noncomputable def Ky:Key->Value->Bool
 |.inl k,v=>Value.isInt k v
 |.inr x,v=>Value.isStrOf x v
noncomputable def mD(w:World):Key->Int
 |.inl k=>hashInt k
 |.inr x=>hashStr w x
theorem HZ:∀{k:Key}{v:Value},Ky k v=true->(∃i t,k=Sum.inl i/\v=Value.int i t)\/(∃x t,k=Sum.inr x/\v=Value.str x t)
 |.inl i,v,h=>by
  obtain⟨t,e⟩:=Value.isInt_shape (k:=i) (v:=v) h;exact .inl ⟨i,t,rfl,e⟩
 |.inr x,v,h=>by
  obtain⟨t,e⟩:=Value.isStrOf_shape (x:=x) (v:=v) h;exact .inr ⟨x,t,rfl,e⟩
theorem mE(i:Int)(t:Tok):Ky (.inl i) (.int i t)=true:=by simp[Ky,Value.isInt]
theorem mF(x:Str)(t:Tok):Ky (.inr x) (.str x t)=true:=by simp[Ky,Value.isStrOf]
theorem mG(a b:Int):decide ((Sum.inl a:Key)=Sum.inl b)=(a==b):=by
 by_cases e:a=b
 .subst e;simp
 .have h:¬ (Sum.inl a:Key)=Sum.inl b:=λq=>e<|Sum.inl.inj q;rw[ABN h];exact(AAd.mpr e).symm
theorem mJ(a b:Str):decide ((Sum.inr a:Key)=Sum.inr b)=decide (a=b):=by
 by_cases e:a=b
 .subst e;simp
 .have h:¬ (Sum.inr a:Key)=Sum.inr b:=λq=>e<|Sum.inr.inj q;rw[ABN h,ABN e]
theorem mH(a:Int)(b:Str):decide ((Sum.inl a:Key)=Sum.inr b)=false:=ABN λq=>nomatch q
theorem mI(a:Str)(b:Int):decide ((Sum.inr a:Key)=Sum.inl b)=false:=ABN λq=>nomatch q
def Ew(prog:Program)(w:World):PySem.KeyKind prog w Key where
 is:=Ky
 hash:=mD w
 inj:=λv a b ha hb=>by
  rcases HZ ha with⟨i,t,rfl,rfl⟩|⟨x,t,rfl,rfl⟩
  .rcases HZ hb with⟨j,u,rfl,e⟩|⟨y,u,rfl,e⟩
   .injection e with e1 _;rw[e1]
   .exact nomatch e
  .rcases HZ hb with⟨j,u,rfl,e⟩|⟨y,u,rfl,e⟩
   .exact nomatch e
   .injection e with e1 _;rw[e1]
 byValue:=λk v h=>by
  rcases HZ h with⟨i,t,rfl,rfl⟩|⟨x,t,rfl,rfl⟩<;>rfl
 pyHash:=λhv h=>by
  rcases HZ hv with⟨i,t,rfl,rfl⟩|⟨x,t,rfl,rfl⟩
  .exact wpAny_pyHash_int h
  .exact wpAny_pyHash_str h
 eqBool:=λhu hv h=>by
  rcases HZ hu with⟨i,t,rfl,rfl⟩|⟨x,t,rfl,rfl⟩
  .rcases HZ hv with⟨j,u,rfl,rfl⟩|⟨y,u,rfl,rfl⟩
   .rw[mG]at h;exact wpAny_eqBool_int h
   .rw[mH]at h;exact SeqAt.EqAt.int_str i t y u _ _ _ _ h
  .rcases HZ hv with⟨j,u,rfl,rfl⟩|⟨y,u,rfl,rfl⟩
   .rw[mI]at h;exact SeqAt.EqAt.str_int x t j u _ _ _ _ h
   .rw[mJ]at h;exact wpAny_eqBool_str h
 «strs»:=λk x t v h=>by
  rcases HZ h with⟨i,u,rfl,e⟩|⟨y,u,rfl,e⟩
  .exact nomatch e
  .injection e with e1 _
   subst e1;cases v<;>rfl
theorem nC(prog:Program)(w:World)(i:Int)(t:Tok):(Ew prog w).is (.inl i) (.int i t)=true:=mE i t
theorem nD(prog:Program)(w:World)(x:Str)(t:Tok):(Ew prog w).is (.inr x) (.str x t)=true:=mF x t
inductive V where
 |A4|bl (b:Bool)|int (i:Int)|str (x:Str)|Q8 (b:Array UInt8)|Kh (b:UInt64)|ref (a:Addr)|ty (n:String)
def RelV:V->Value->Prop
 |.A4,u=>u=Value.none
 |.bl b,u=>u=Value.bool b
 |.int i,u=>∃t,u=Value.int i t
 |.str x,u=>∃t,u=Value.str x t
 |.Q8 b,u=>∃t,u=Value.bytes b t
 |.Kh b,u=>∃t,u=Value.float b t
 |.ref a,u=>u=Value.ref a
 |.ty n,u=>u=Value.type n
abbrev An:List V->List Value->Prop:=Paired RelV
theorem An.length{xs:List V}{us:List Value}(r:An xs us):xs.length=us.length:=Paired.length r
theorem An.get:∀{xs:List V}{us:List Value}{i:Nat}{x:V},An xs us->xs[i]? = some x->∃u,us[i]? = some u/\RelV x u
 |_,_,_,_,.nil,e=>by simp at e
 |_,_,0,_,.cons r _,e=>by simp at e;subst e;exact⟨_,rfl,r⟩
 |_,_,i+1,x,.cons _ t,e=>by
  obtain⟨u,h1,h2⟩:=An.get (i:=i) (x:=x) t (by simpa using e);exact⟨u,by simpa using h1,h2⟩
theorem An.set{x:V}{u:Value}(r:RelV x u):∀{xs:List V}{us:List Value}(i:Nat),An xs us->An (xs.set i x) (us.set i u)
 |_,_,_,.nil=>.nil
 |_,_,0,.cons _ t=>.cons r t
 |_,_,i+1,.cons q t=>.cons q<|An.set r i t
theorem An.append:∀{xs ys:List V}{us ws:List Value},An xs us->An ys ws->An (xs++ys) (us++ws)
 |_,_,_,_,.nil,s=>s
 |_,_,_,_,.cons r t,s=>.cons r<|An.append t s
theorem An.take:∀{xs:List V}{us:List Value}(n:Nat),An xs us->An (xs.take n) (us.take n)
 |_,_,0,_=>.nil
 |_,_,_+1,.nil=>.nil
 |_,_,n+1,.cons r t=>.cons r<|An.take n t
theorem An.drop:∀{xs:List V}{us:List Value}(n:Nat),An xs us->An (xs.drop n) (us.drop n)
 |_,_,0,r=>r
 |_,_,_+1,.nil=>.nil
 |_,_,n+1,.cons _ t=>An.drop n t
def FV:Option V->Option Value->Prop
 |some v,some u=>RelV v u
 |none,none=>True
 |_,_=>False
def KV{κ:Type}:List (κ×V)->List (κ×Value)->Prop:=Paired λ(p:κ×V)(q:κ×Value)=>p.1=q.1/\RelV p.2 q.2
noncomputable def kV:Key->V
 |.inl i=>.int i
 |.inr x=>.str x
inductive HO where
 |lst (xs:List V)
 |tup (xs:List V)
 |dK (AR:List<|Key×V)|dT (AR:List<|List Key×V)
 |set (S:Int->Bool) (n:Nat)
 |ins (C dx:Addr) (fs:List<|Str×V)
 |own (x:Addr)
 |xd (fs:List<|Str×V)
 |met (f x:Addr)
 |Pn (lo hi:Int)
 |Dz (o:Obj) (u:HO)
 |Iy (ps:Array Value)
 |ext (φ:Heap->Prop)
abbrev Hp:=Addr->Option HO
noncomputable def upd(H:Hp)(a:Addr)(o:HO):Hp:=λb=>if b=a then some o else H b
theorem C0{H:Hp}{a:Addr}{o:HO}:upd H a o a=some o:=by unfold upd;rw[AAH rfl]
theorem BK{H:Hp}{a b:Addr}{o:HO}(h:b≠a):upd H a o b=H b:=by unfold upd;rw[AAG h]
theorem nO{H:Hp}{a b:Addr}{o u:HO}(h:H a=some o)(h':H b=some u)(d:o≠u):a≠b:=by
 intro e;subst e;rw[h]at h';exact d<|AAo h'
theorem DN{H:Hp}{a b:Addr}{o:HO}(h:H a=some o)(h':H b=none):a≠b:=by
 intro e;subst e;rw[h]at h';cases h'
section
variable(P:Program)(w:World)
def Bx(H:Hp)(h:Heap)(a:Addr):HO->Prop
 |.lst xs=>xs.length<=sizeLine/\∃(its:List Value)(n:Nat),An xs its/\h.get? a=some { cls:=.type "list",data:=.seq its.toArray n }
 |.tup xs=>xs.length<=sizeLine/\∃its:List Value,An xs its/\IsTup h a its.toArray
 |.dK AR=>AR.length<=sizeLine/\(a==sysModules)=false/\∃vs,KV AR vs/\h.DictOf (Ew P w) a vs
 |.dT AR=>AR.length<=sizeLine/\(a==sysModules)=false/\∃xs:List<|List Key×Addr×Value,
  Paired (λ(p:List Key×V)(q:List Key×Addr×Value)=>p.1=q.1/\H q.2.1=some (.tup<|p.1.map kV)/\RelV p.2 q.2.2) AR xs/\
  ∃o es ep,h.get? a=some o/\o.ExactDict/\o.data=.dict es ep/\es.toList=xs.map (entryOfKey<|tupleKind<|Ew P w)/\(xs.map (·.1)).Nodup
 |.set S n=>h.SetOf (intKind P w) a S n
 |.ins C dx fs=>H dx=some (.own a)/\fs.length<=1000/\dx≠a/\h.get? a=some (PySem.W.instObj C dx)/\
  ∃mA,h.Ns1 dx mA/\(∀f,FV (fs.lookup f)<|mA f)/\PySem.Within mA (fs.map (·.1))
 |.own _=>∃o,h.get? a=some o
 |.xd fs=>∃mA,h.Ns1 a mA/\∀f,FV (fs.lookup f)<|mA f
 |.Pn lo hi=>∃t u v,h.get? a=some { cls:=.type "range",data:=.fields #[.int lo t,.int hi u,.int 1 v] }
 |.Dz o u=>h.get? a=some o/\Bx H h a u
 |.Iy ps=>h.get? a=some { cls:=.none,data:=.fields ps }
 |.met f x=>h.get? a=some (PySem.W.methodObj (.ref f)<|.ref x)
 |.ext φ=>φ h/\(∃o,h.get? a=some o)/\∀h1 h2:Heap,φ h1->(∀o,h1.get? a=some o->h2.get? a=some o)->φ h2
def Bp(H:Hp)(h:Heap):Prop:=∀a o,H a=some o->Bx P w H h a o
end
section
variable{P:Program}{w:World}{H H':Hp}{h h':Heap}{a:Addr}{o:HO}
theorem Bx.lt(x:Bx P w H h a o):a<h.objs.size:=by
 cases o with
 |lst xs=>obtain⟨_,_,_,_,e⟩:=x;exact Heap.lt_size e
 |tup xs=>obtain⟨_,_,_,p⟩:=x;exact p.lt
 |dK AR=>obtain⟨_,_,_,_,o,_,_,e,_⟩:=x;exact Heap.lt_size e
 |dT AR=>obtain⟨_,_,_,_,o,_,_,e,_⟩:=x;exact Heap.lt_size e
 |set S n=>obtain⟨o,_,_,_,e,_⟩:=x;exact Heap.lt_size e
 |ins C dx fs=>obtain⟨_,_,_,e,_⟩:=x;exact Heap.lt_size e
 |own y=>obtain⟨_,e⟩:=x;exact Heap.lt_size e
 |xd fs=>obtain⟨_,⟨_,_,_,e,_⟩,_⟩:=x;exact Heap.lt_size e
 |Pn lo hi=>obtain⟨_,_,_,e⟩:=x;exact Heap.lt_size e
 |Dz ob u=>obtain⟨e,_⟩:=x;exact Heap.lt_size e
 |Iy ps=>exact Heap.lt_size (show h.get? a=some _ from x)
 |met f y=>exact Heap.lt_size (show h.get? a=some _ from x)
 |ext φ=>obtain⟨_,⟨_,e⟩,_⟩:=x;exact Heap.lt_size e
theorem Paired.PC{α β:Type}{F G:α->β->Prop}:∀{l₁:List α}{l₂:List β},Paired F l₁ l₂->(∀a b,F a b->G a b)->Paired G l₁ l₂
 |_,_,.nil,_=>.nil
 |_,_,.cons r t,f=>.cons (f _ _ r)<|Paired.PC t f
theorem Bx.Hh(x:Bx P w H h a o)(k:∀b u,(b=a\/H b=some (.own a))->h.get? b=some u->h'.get? b=some u) (ho:∀b,H b=some (.own a)->H' b=some (.own a)) (ht:∀b xs,H b=some (.tup xs)->H' b=some (.tup xs)):Bx P w H' h' a o:=by
 induction o with
 |lst xs=>obtain⟨z,its,n,r,e⟩:=x;exact⟨z,its,n,r,k _ _ (.inl rfl) e⟩
 |tup xs=>obtain⟨z,its,r,ob,e,c⟩:=x;exact⟨z,its,r,ob,k _ _ (.inl rfl) e,c⟩
 |dK AR=>obtain⟨z,y,vs,r,ob,es,ep,e,c⟩:=x;exact⟨z,y,vs,r,ob,es,ep,k _ _ (.inl rfl) e,c⟩
 |dT AR=>
  obtain⟨z,y,xs,r,ob,es,ep,e,c⟩:=x;exact⟨z,y,xs,Paired.PC r λp q z=>⟨z.1,ht _ _ z.2.1,z.2.2⟩,ob,es,ep,k _ _ (.inl rfl) e,c⟩
 |set S n=>obtain⟨ob,es,ep,t,e,c⟩:=x;exact⟨ob,es,ep,t,k _ _ (.inl rfl) e,c⟩
 |ins C dx fs=>
  obtain⟨d,z,ne,e,mA,⟨od,es,ep,e2,c⟩,r⟩:=x;exact⟨ho _ d,z,ne,k _ _ (.inl rfl) e,mA,⟨od,es,ep,k _ _ (.inr d) e2,c⟩,r⟩
 |own y=>obtain⟨ob,e⟩:=x;exact⟨ob,k _ _ (.inl rfl) e⟩
 |xd fs=>obtain⟨mA,⟨od,es,ep,e,c⟩,r⟩:=x;exact⟨mA,⟨od,es,ep,k _ _ (.inl rfl) e,c⟩,r⟩
 |Pn lo hi=>obtain⟨t,u,v,e⟩:=x;exact⟨t,u,v,k _ _ (.inl rfl) e⟩
 |Dz ob u ih=>obtain⟨e,q⟩:=x;exact⟨k _ _ (.inl rfl) e,ih q⟩
 |Iy ps=>
  have e:h.get? a=some { cls:=.none,data:=.fields ps }:=x;show h'.get? a=some { cls:=.none,data:=.fields ps };exact k a _ (.inl rfl) e
 |met f y=>
  have e:h.get? a=some (PySem.W.methodObj (.ref f)<|.ref y):=x;show h'.get? a=some (PySem.W.methodObj (.ref f)<|.ref y);exact k a _ (.inl rfl) e
 |ext φ=>obtain⟨p,⟨o,e⟩,st⟩:=x;exact⟨st _ _ p λo q=>k _ _ (.inl rfl) q,⟨o,k _ _ (.inl rfl) e⟩,st⟩
theorem Bp.lt(x:Bp P w H h)(e:H a=some o):a<h.objs.size:=(x a o e).lt
theorem Bp.fresh(x:Bp P w H h)(e:h.objs.size<=a):H a=none:=by
 cases q:H a with
 |none=>rfl
 |some u=>exact absurd (AAe (x.lt q) e) (ACB _)
theorem Bp.kept(x:Bp P w H h)(k:∀b u,h.get? b=some u->h'.get? b=some u):Bp P w H h':=λa o e=>
 (x a o e).Hh (λb u _ q=>k b u q) (λ_ q=>q) λ_ _ q=>q
theorem Bp.laid(x:Bp P w H h)(k:∀b u,h.get? b=some u->h'.get? b=some u)(hp:h.objs.size<=a)(new:Bx P w (upd H a o) h' a o):Bp P w (upd H a o) h':=λb u e=>by
 have hn:=x.fresh hp;by_cases hb:b=a
 .subst hb;rw[C0]at e;cases e;exact new
 .rw[BK hb]at e;exact(x b u e).Hh (λc v _ q=>k c v q) (λc q=>by rw[BK<|DN q hn];exact q) λc xs q=>by rw[BK<|DN q hn];exact q
end
def Rd(H:Hp)(a:Addr)(u:HO):Prop:=H a=some u\/∃o,H a=some (.Dz o u)
theorem Rd.ok{P:Program}{w:World}{H:Hp}{h:Heap}{a:Addr}{u:HO}(r:Rd H a u)(x:Bp P w H h):Bx P w H h a u:=by
 rcases r with r|⟨o,r⟩
 .exact x a u r
 .obtain⟨_,q⟩:=x a _ r;exact q
def Lh:Option HO->Prop
 |some (.lst _)=>True
 |some (.dK _)=>True
 |some (.dT _)=>True
 |some (.set _ _)=>True
 |some (.ins _ _ _)=>True
 |some (.ext _)=>True
 |_=>False
section
variable{P:Program}{w:World}{H:Hp}{h h':Heap}{x e:Addr}{o':HO}
theorem Bp.write(ok:Bp P w H h)(mu:Lh<|H x)(he:e=x\/H e=some (.own x))(k:∀b u,b≠e->h.get? b=some u->h'.get? b=some u)(Kn:∃u,h'.get? e=some u) (new:Bx P w (upd H x o') h' x o'):Bp P w (upd H x o') h':=λb u q=>by
 have Io:∀c y,H c=some (.own y)->c≠x:=λc y r z=>by subst z;rw[r]at mu;exact mu
 have nW:∀c xs,H c=some (.tup xs)->c≠x:=λc xs r z=>by subst z;rw[r]at mu;exact mu
 by_cases hb:b=x
 .subst hb;rw[C0]at q;cases q;exact new
 .rw[BK hb]at q;by_cases Jd:b=e
  .have q':H b=some (.own x):=by
    rcases he with z|z
    .exact absurd (Jd.trans z) hb
    .rw[Jd];exact z
   rw[q]at q';cases q';obtain⟨v,hv⟩:=Kn;exact⟨v,by rw[Jd];exact hv⟩
  .refine(ok b u q).Hh (λc v hc r=>k c v ?_ r) (λc r=>by rw[BK<|Io c b r];exact r) λc xs r=>by rw[BK<|nW c xs r];exact r
   rcases hc with rfl|hc
   .exact Jd
   .rintro rfl;rcases he with z|z
    .exact Io c b hc z
    .rw[hc]at z;cases z;exact hb rfl
end
structure Un(fs ex:List Addr)(H H':Hp)(h h':Heap):Prop where
 keep:∀b o,h.get? b=some o->H b=none->b∉fs->b∉ex->h'.get? b=some o
 slot:∀b o,h.get? b=some o->H b=none->b∈fs->b∉ex->∃sl,h'.get? b=some { o with slots:=sl }
 free:∀b o,h.get? b=some o->H b=none->b∉ex->H' b=none
 there:∀b o,h.get? b=some o->b∉ex->∃o',h'.get? b=some o'
 DQ:∀b xs,H b=some (.tup xs)->H' b=some (.tup xs)
 D1:∀b o u,H b=some (.Dz o u)->H' b=some (.Dz o u)
 Eh:∀b ps,H b=some (.Iy ps)->∃more,H' b=some (.Iy<|ps++more)
section
variable{fs jB ex zD:List Addr}{H H1 H2:Hp}{h h1 h2 h':Heap}{a x e:Addr}{o:HO}
theorem Un.any(u:Un fs ex H H1 h h1){b:Addr}{ob:Obj}(q:h.get? b=some ob)(n:H b=none)(hx:b∉ex):∃sl,h1.get? b=some { ob with slots:=sl }:=by
 by_cases hb:b∈fs
 .exact u.slot b ob q n hb hx
 .exact⟨ob.slots,u.keep b ob q n hb hx⟩
theorem Un.kept(k:∀b u,h.get? b=some u->h'.get? b=some u):Un fs ex H H h h':=
 ⟨λb ob q _ _ _=>k b ob q,λb ob q _ _ _=>⟨ob.slots,k b ob q⟩,λ_ _ _ n _=>n,λb ob q _=>⟨ob,k b ob q⟩,λ_ _ q=>q,λ_ _ _ q=>q,λ_ ps q=>⟨#[],by rw[q];simp⟩⟩
theorem Un.refl:Un fs ex H H h h:=Un.kept λ_ _ q=>q
theorem Un.laid(k:∀b u,h.get? b=some u->h'.get? b=some u)(hp:h.objs.size<=a)(hn:H a=none):Un fs ex H (upd H a o) h h' where
 keep:=λb u q _ _ _=>k b u q
 slot:=λb u q _ _ _=>⟨u.slots,k b u q⟩
 free:=λb u q n _=>by rw[BK<|AAZ<|AAe (Heap.lt_size q) hp];exact n
 there:=λb u q _=>⟨u,k b u q⟩
 DQ:=λb xs q=>by rw[BK<|DN q hn];exact q
 D1:=λb u xs q=>by rw[BK<|DN q hn];exact q
 Eh:=λb ps q=>⟨#[],by rw[BK<|DN q hn,q];simp⟩
theorem Un.write(mu:Lh<|H x)(he:e=x\/H e=some (.own x))(k:∀b u,b≠e->h.get? b=some u->h'.get? b=some u)(Kn:∃u,h'.get? e=some u):Un fs ex H (upd H x o) h h':=by
 have hx:∀b,H b=none->b≠x:=λb n z=>by subst z;rw[n]at mu;exact mu
 have hb:∀b,H b=none->b≠e:=λb n z=>by
  subst z;rcases he with r|r
  .exact hx b n r
  .rw[n]at r;cases r
 have hm:∀b u,H b=some u->¬ Lh (some u)->b≠x:=λb u q nm z=>by subst z;rw[q]at mu;exact nm mu
 refine⟨λb u q n _ _=>k b u (hb b n) q,λb u q n _ _=>⟨u.slots,k b u (hb b n) q⟩,λb u q n _=>by rw[BK<|hx b n];exact n,λb u q _=>?_,
  λb xs q=>by rw[BK<|hm b _ q λz=>z];exact q,λb u xs q=>by rw[BK<|hm b _ q λz=>z];exact q,λb ps q=>⟨#[],by rw[BK<|hm b _ q λz=>z,q];simp⟩⟩
 by_cases Jd:b=e
 .subst Jd;exact Kn
 .exact⟨u,k b u Jd q⟩
end
noncomputable def J7(h:Heap)(H:Hp):List Addr:=(List.range h.objs.size).filter λa=>(H a).isSome
def HR(h:Heap)(H:Hp):Heap:=PySem.W.hideAll h<|J7 h H
theorem kQ(h:Heap)(H:Hp):(HR h H).objs.size=h.objs.size:=PySem.W.hideAll_size _ _
theorem kP{h:Heap}{H:Hp}{b:Addr}{o:Obj}(e:h.get? b=some o)(n:H b=none):(HR h H).get? b=some o:=
 ADq _ e λhm=>by
  have q:(H b).isSome=true:=(ABx.mp hm).2;rw[n]at q;simp at q
theorem ng{h:Heap}{H:Hp}{b:Addr}{o:Obj}(e:(HR h H).get? b=some o):h.get? b=some o/\H b=none:=by
 have e':h.get? b=some o:=PySem.W.of_hideAll (J7 h H) e;refine⟨e',?_⟩;cases q:H b with
 |none=>rfl
 |some x=>
  have hm:b∈J7 h H:=ABx.mpr ⟨AAP.mpr<|Heap.lt_size e',by simp[q]⟩;have z:(HR h H).get? b=none:=PySem.W.hideAll_none (J7 h H) hm;rw[z]at e;cases e
structure Mod(K:PySem.W.Frag)(mg:Str->Option Value)(base:Heap):Prop where
 Me:K.In base
 glob:base.Ns mainGlobals mg
 blt:∃mb,base.Ns builtinsNs mb/\∀x:Str,x≠"__name__"->mb x=bootBuiltins x
 nolimit:base.NoLimit
structure Cx where
 prog:Program
 w:World
 K:PySem.W.Frag
 mg:Str->Option Value
 base:Heap
 A:Around
 N:List Str
 B2:Shared
 AS:Hp
 env:Env
 outer:List Env
 stack:List Env
 ex:List Addr
 fn:Str->Bool
 calm:Bool
 pn:List<|Addr×Obj
 xe:Value->Shared->Prop
noncomputable def Cm(l:List Env):List Addr:=l.filterMap (·.frame)
abbrev Cx.fs(X:Cx):List Addr:=Cm X.outer
def DZ(sc:Scope)(x:Str):Prop:=sc.names.lookup x=some .local\/sc.names.lookup x=some .cell\/sc.names.lookup x=some .free
def Loc(sc:Scope)(x:Str):Prop:=sc.names.lookup x=some .local\/sc.names.lookup x=some .cell
def Look(env:Env)(h:Heap)(m:Str->Option Value)(x:Str)(u:Value):Prop:=
 (env.kindOf x=some .local/\m x=some u)\/((env.kindOf x=some .cell\/env.kindOf x=some .free)/\∃c,env.cells.lookup x=some c/\h.IsCell c (some u))
structure Cx.Ok(X:Cx):Prop where
 mod:Mod X.K X.mg X.base
 kind:X.env.scope.kind=.function
 glob:X.env.globals=mainGlobals
 blt:X.env.builtins=builtinsNs
 above:X.B2.heap.objs.size<=X.env.locals
 inj:∀x y c,X.env.cells.lookup x=some c->X.env.cells.lookup y=some c->x=y
 has:∀x,(X.env.kindOf x=some .cell\/X.env.kindOf x=some .free)->∃c,X.env.cells.lookup x=some c
 G8:∀x c,X.fn x=true->X.env.cells.lookup x=some c->X.B2.heap.objs.size<=c
 hd:X.calm=true->X.A.handled=none
 frames:X.A.frames=some X.stack
 EJ:X.stack=X.outer\/(X.stack=X.env::X.outer/\X.env.frame=some X.env.locals)
 IJ:∀b∈X.ex,b≠X.env.locals/\∀x c,X.env.cells.lookup x=some c->c≠b
 bs:∀b o,X.base.get? b=some o->X.B2.heap.get? b=some o/\X.AS b=none
 Em:X.base.objs.size<=X.B2.heap.objs.size
 Hc:∀b o,X.base.get? b=some o->b∉X.ex
 HK:∀b∈X.ex,b∉X.fs
 Di:X.B2.heap.FunFrames X.base X.outer
 Ff:∀b∈X.fs,X.AS b=none
structure Inv(X:Cx)(AE:List (Addr×Obj))(σ:List (Option V))(H:Hp)(s:Shared):Prop where
 ok:X.Ok
 os:s.os=X.B2.os
 bare:AllBare s.gens
 base:Un X.fs X.ex X.AS H X.B2.heap s.heap
 loc:∃m,s.heap.Ns X.env.locals m/\∀(i:Nat)(x:Str)(v:V),X.N[i]? = some x->σ[i]? = some (some v)->DZ X.env.scope x->∃u,RelV v u/\Look X.env s.heap m x u
 cell:∀x c,X.env.cells.lookup x=some c->∃v,s.heap.IsCell c v
 free:H X.env.locals=none
 Dh:∀x c,X.env.cells.lookup x=some c->H c=none
 pin:∀p∈X.pn++AE,s.heap.get? p.1=some p.2/\H p.1=none/\p.1≠X.env.locals/\p.1∉X.fs/\∀v,p.2.data≠.cell v
 Ae:Bp X.prog X.w H s.heap
 len:σ.length=X.N.length
section
variable{X:Cx}{AE:List (Addr×Obj)}{σ:List (Option V)}{H H':Hp}{s:Shared}{h':Heap}
theorem Cx.Ok.nP(ok:X.Ok){b:Addr}{o:Obj}(e:X.base.get? b=some o):b∉X.fs:=λhb=>by
 have:=(ok.Di.mem hb).1;rw[e]at this;cases this
theorem Inv.bs(I:Inv X AE σ H s):∀b o,X.base.get? b=some o->s.heap.get? b=some o/\H b=none:=λb o e=>
 ⟨I.base.keep b o (I.ok.bs b o e).1 (I.ok.bs b o e).2 (I.ok.nP e)<|I.ok.Hc b o e,I.base.free b o (I.ok.bs b o e).1 (I.ok.bs b o e).2<|I.ok.Hc b o e⟩
theorem Inv.bk(I:Inv X AE σ H s):∀b o,X.base.get? b=some o->s.heap.get? b=some o:=λb o e=>(I.bs b o e).1
theorem Inv.mod(I:Inv X AE σ H s):Mod X.K X.mg X.base:=I.ok.mod
theorem Inv.BB(I:Inv X AE σ H s):X.K.In s.heap:=I.ok.mod.Me.keeps I.bk
theorem Inv.lt(I:Inv X AE σ H s):X.env.locals<s.heap.objs.size:=let ⟨_,hn,_⟩:=I.loc;hn.lt
theorem Inv.sz(I:Inv X AE σ H s):X.B2.heap.objs.size<=s.heap.objs.size:=ABF I.ok.above<|ACF I.lt
theorem Inv.nR(I:Inv X AE σ H s){a:Addr}(h:s.heap.objs.size<=a):a∉X.fs:=λhb=>by
 obtain⟨_,o,ho,_⟩:=I.ok.Di.mem hb;exact absurd (AAe (Heap.lt_size ho)<|ABF I.sz h) (ACB _)
theorem Inv.HB(I:Inv X AE σ H s):∀x c,X.env.cells.lookup x=some c->c≠X.env.locals:=λx c e z=>by
 obtain⟨v,o,ho,hd⟩:=I.cell x c e;obtain⟨m,⟨o',es,ep,Bz,IU,_⟩,_⟩:=I.loc;rw[z,Bz]at ho;cases ho;rw[IU]at hd;cases hd
theorem Inv.Di(I:Inv X AE σ H s):s.heap.FunFrames X.base X.outer:=by
 have all:∀(l:List Env),(∀b∈Cm l,b∈X.fs)->X.B2.heap.FunFrames X.base l->s.heap.FunFrames X.base l:=by
  intro l
  induction l with
  |nil=>intro _ _;trivial
  |cons env r ih=>
   intro hs hl;obtain⟨hk,⟨L,o,hf,hn,ho,hd⟩,hr⟩:=hl;have hL:L∈X.fs:=hs L (by unfold Cm;rw[ACN,hf];exact AAf);obtain⟨sl,e⟩:=I.base.slot L o ho (I.ok.Ff L hL) hL λz=>I.ok.HK L z hL
   exact⟨hk,⟨L,_,hf,hn,e,hd⟩,ih (λb hb=>hs b (by unfold Cm;rw[ACN,hf];exact AAX _ hb)) hr⟩
 exact all X.outer (λ_ hb=>hb) I.ok.Di
theorem Inv.stack(I:Inv X AE σ H s):s.heap.FunFrames X.base X.stack:=by
 rcases I.ok.EJ with e|⟨e,hf⟩
 .rw[e];exact I.Di
 .rw[e];obtain⟨m,hn,_⟩:=I.loc;refine .cons (by rw[I.ok.kind];decide) hf hn ?_ I.Di;exact Heap.get?_none_of_le (ABF I.ok.Em I.ok.above)
theorem Inv.NA(I:Inv X AE σ H s):∀b∈Cm X.stack,b∈X.env.locals::X.fs:=λb hb=>by
 rcases I.ok.EJ with e|⟨e,hf⟩
 .rw[e]at hb;exact AAX _ hb
 .rw[e]at hb;unfold Cm at hb;rw[ACN,hf]at hb;exact hb
theorem Inv.UU(I:Inv X AE σ H s):∀b∈Cm X.stack,H b=none:=λb hb=>by
 rcases AAi.mp (I.NA b hb)with e|hb
 .rw[e];exact I.free
 .obtain⟨_,o,ho,_⟩:=I.ok.Di.mem hb;exact I.base.free b o ho (I.ok.Ff b hb) λz=>I.ok.HK b z hb
theorem Inv.step{g':Array GenState}{t':Nat}{d':Drawn}{ch:List Addr}(I:Inv X AE σ H s) (GP:∀b∈ch,(b∈X.ex\/X.B2.heap.objs.size<=b)/\b≠X.env.locals/\(∀x c,X.env.cells.lookup x=some c->c≠b)/\∀p∈X.pn++AE,p.1≠b) (keep:∀b o,b≠X.env.locals->b∉X.fs->b∉ch->s.heap.get? b=some o->H b=none->h'.get? b=some o) (slot:∀b o,b≠X.env.locals->b∈X.fs->b∉ch->s.heap.get? b=some o->H b=none->∃sl,h'.get? b=some { o with slots:=sl }) (free:∀b o,b∉ch->s.heap.get? b=some o->H b=none->H' b=none) (there:∀b o,b∉ch->s.heap.get? b=some o->∃o',h'.get? b=some o') (DQ:∀b xs,H b=some (.tup xs)->H' b=some (.tup xs)) (D1:∀b o u,H b=some (.Dz o u)->H' b=some (.Dz o u)) (Eh:∀b ps,H b=some (.Iy ps)->∃more,H' b=some (.Iy<|ps++more)) (ns:∀m,s.heap.Ns X.env.locals m->h'.Ns X.env.locals m) (Ae:Bp X.prog X.w H' h') (hg:AllBare g') : Inv X AE σ H' { s with heap:=h',gens:=g',drawn:=d',toks:=t' }:=by
 have ZF:∀b o,X.B2.heap.get? b=some o->b≠X.env.locals:=λb o e=>AAZ<|AAe (Heap.lt_size e) I.ok.above;have PN:∀b o,X.B2.heap.get? b=some o->b∉X.ex->b∉ch:=λb o e hx hb=>by
  rcases(GP b hb).1 with z|z
  .exact hx z
  .exact absurd (AAe (Heap.lt_size e) z) (ACB _)
 have cellK:∀x c,X.env.cells.lookup x=some c->∀v,s.heap.IsCell c v->h'.IsCell c v:=λx c e v ⟨o,ho,hd⟩=>by
  have Mr:c∉ch:=λz=>(GP c z).2.2.1 x c e rfl;by_cases hc:c∈X.fs
  .obtain⟨sl,q⟩:=slot c o (I.HB x c e) hc Mr ho<|I.Dh x c e;exact⟨_,q,hd⟩
  .exact⟨o,keep c o (I.HB x c e) hc Mr ho<|I.Dh x c e,hd⟩
 refine⟨I.ok,I.os,hg,⟨λb o e n hb hx=>?_,λb o e n hb hx=>?_,λb o e n hx=>?_,λb o e hx=>?_,λb xs e=>DQ b xs<|I.base.DQ b xs e,λb o xs e=>D1 b o xs<|I.base.D1 b o xs e,λb ps e=>?_⟩,?_,λx c e=>?_,?_,λx c e=>?_,λp hp=>?_,Ae,I.len⟩
 .exact keep b o (ZF b o e) hb (PN b o e hx) (I.base.keep b o e n hb hx)<|I.base.free b o e n hx
 .obtain⟨sl,e1⟩:=I.base.slot b o e n hb hx;obtain⟨Hg,e2⟩:=slot b _ (ZF b o e) hb (PN b o e hx) e1<|I.base.free b o e n hx;exact⟨Hg,e2⟩
 .obtain⟨o',e1⟩:=I.base.there b o e hx;exact free b o' (PN b o e hx) e1<|I.base.free b o e n hx
 .obtain⟨o',e1⟩:=I.base.there b o e hx;exact there b o' (PN b o e hx) e1
 .obtain⟨m1,e1⟩:=I.base.Eh b ps e;obtain⟨m2,e2⟩:=Eh b _ e1;exact⟨m1++m2,by rw[e2,Array.append_assoc]⟩
 .obtain⟨m,hn,hl⟩:=I.loc;refine⟨m,ns m hn,λi x v e1 e2 e3=>?_⟩;obtain⟨u,r,l⟩:=hl i x v e1 e2 e3;refine⟨u,r,?_⟩;rcases l with l|⟨k,c,e,z⟩
  .exact .inl l
  .exact .inr ⟨k,c,e,cellK x c e _ z⟩
 .obtain⟨v,z⟩:=I.cell x c e;exact⟨v,cellK x c e v z⟩
 .obtain⟨m,⟨o,_,_,ho,_⟩,_⟩:=I.loc;exact free _ o (λz=>(GP _ z).2.1 rfl) ho I.free
 .obtain⟨v,o,ho,hd⟩:=I.cell x c e;exact free c o (λz=>(GP c z).2.2.1 x c e rfl) ho<|I.Dh x c e
 .obtain⟨e,n,ne,nf,d⟩:=I.pin p hp;have Mr:p.1∉ch:=λz=>(GP p.1 z).2.2.2 p hp rfl;exact⟨keep p.1 p.2 ne nf Mr e n,free p.1 p.2 Mr e n,ne,nf,d⟩
theorem Inv.un{t':Nat}(I:Inv X AE σ H s)(u:Un X.fs [] H H' s.heap h')(Ae:Bp X.prog X.w H' h'):Inv X AE σ H' { s with heap:=h',toks:=t' }:=by
 obtain⟨m,⟨o,es,ep,ho,r⟩,_⟩:=id I.loc;obtain⟨sl,hL⟩:=u.any ho I.free AAB;exact I.step (g':=s.gens) (d':=s.drawn) (ch:=[]) (λ_ z=>nomatch z) (λb o _ hb _ e n=>u.keep b o e n hb AAB) (λb o _ hb _ e n=>u.slot b o e n hb AAB) (λb o _ e n=>u.free b o e n AAB) (λb o _ e=>u.there b o e AAB) u.DQ u.D1 u.Eh (λm' hm=>by
  obtain⟨o',es',RP,Bz,r'⟩:=hm;rw[ho]at Bz;cases Bz;exact⟨_,es',RP,hL,r'⟩) Ae I.bare
theorem Inv.call{g':Array GenState}{t':Nat}{d':Drawn}{ch:List Addr}(I:Inv X AE σ H s)(u:Un (Cm X.stack) ch H H' s.heap h')(Ae:Bp X.prog X.w H' h')(hg:AllBare g') (GP:∀b∈ch,(b∈X.ex\/X.B2.heap.objs.size<=b)/\b≠X.env.locals/\(∀x c,X.env.cells.lookup x=some c->c≠b)/\∀p∈X.pn++AE,p.1≠b) : Inv X AE σ H' { s with heap:=h',gens:=g',drawn:=d',toks:=t' }:=by
 obtain⟨m,⟨o,es,ep,ho,r⟩,_⟩:=id I.loc;obtain⟨sl,hL⟩:=u.any ho I.free λz=>(GP _ z).2.1 rfl
 exact I.step (ch:=ch) GP (λb o hL hb hc e n=>u.keep b o e n (λz=>(AAi.mp<|I.NA b z).elim hL hb) hc) (λb o _ _ hc e n=>u.any e n hc) (λb o hc e n=>u.free b o e n hc) (λb o hc e=>u.there b o e hc) u.DQ u.D1 u.Eh (λm' hm=>by
  obtain⟨o',es',RP,Bz,r'⟩:=hm;rw[ho]at Bz;cases Bz;exact⟨_,es',RP,hL,r'⟩) Ae hg
theorem Inv.turned{t':Nat}{it:Addr}(I:Inv X AE σ H s)(k:∀b o,b≠it->s.heap.get? b=some o->h'.get? b=some o)(hn:H it=none)(hL:it≠X.env.locals) (h1:it∈X.ex\/X.B2.heap.objs.size<=it) (h2:∀x c,X.env.cells.lookup x=some c->c≠it) (h3:∀p∈X.pn++AE,p.1≠it):Inv X AE σ H { s with heap:=h',toks:=t' }:=by
 have ZG:∀b u,H b=some u->b≠it:=λb u e z=>by rw[z,hn]at e;cases e
 refine I.step (g':=s.gens) (d':=s.drawn) (ch:=[it]) (λb hb=>?_) (λb o _ _ hc e _=>k b o (λz=>hc<|by simp[z]) e) (λb o _ _ hc e _=>⟨o.slots,k b o (λz=>hc<|by simp[z]) e⟩) (λ_ _ _ _ n=>n)
  (λb o hc e=>⟨o,k b o (λz=>hc<|by simp[z]) e⟩) (λ_ _ e=>e) (λ_ _ _ e=>e) (λb ps e=>⟨#[],by rw[e];simp⟩) (λm hm=>?_) (λb u e=>?_) I.bare
 .have e:b=it:=by simpa using hb
  subst e;exact⟨h1,hL,h2,h3⟩
 .obtain⟨o,es,ep,ho,r⟩:=hm;exact⟨o,es,ep,k _ o (AA3 hL) ho,r⟩
 .refine(I.Ae b u e).Hh (λc v hc q=>k c v ?_ q) (λ_ q=>q) λ_ _ q=>q;rcases hc with z|z
  .rw[z];exact ZG b u e
  .exact ZG c _ z
theorem Inv.tok(I:Inv X AE σ H s)(t:Nat):Inv X AE σ H { s with toks:=t }:=I.un (h':=s.heap) (t':=t) Un.refl I.Ae
theorem Inv.kept{t':Nat}(I:Inv X AE σ H s)(k:∀b u,s.heap.get? b=some u->h'.get? b=some u):Inv X AE σ H { s with heap:=h',toks:=t' }:=I.un (Un.kept k)<|I.Ae.kept k
theorem Inv.laid{a:Addr}{o:HO}{t':Nat}(I:Inv X AE σ H s)(k:∀b u,s.heap.get? b=some u->h'.get? b=some u)(hp:s.heap.objs.size<=a)(new:Bx X.prog X.w (upd H a o) h' a o) : Inv X AE σ (upd H a o) { s with heap:=h',toks:=t' }:=I.un (Un.laid k hp<|I.Ae.fresh hp)<|I.Ae.laid k hp new
theorem Inv.write{x e:Addr}{o:HO}{t':Nat}(I:Inv X AE σ H s)(mu:Lh<|H x)(he:e=x\/H e=some (.own x))(k:∀b u,b≠e->s.heap.get? b=some u->h'.get? b=some u)(Kn:∃u,h'.get? e=some u) (new:Bx X.prog X.w (upd H x o) h' x o):Inv X AE σ (upd H x o) { s with heap:=h',toks:=t' }:=I.un (Un.write mu he k Kn)<|I.Ae.write mu he k Kn new
theorem Inv.Zp{Mz:List (Addr×Obj)}(I:Inv X AE σ H s)(h:∀p∈Mz,s.heap.get? p.1=some p.2/\H p.1=none/\p.1≠X.env.locals/\p.1∉X.fs/\∀v,p.2.data≠.cell v):Inv X Mz σ H s:=
 ⟨I.ok,I.os,I.bare,I.base,I.loc,I.cell,I.free,I.Dh,λp hp=>(AAp.mp hp).elim (λz=>I.pin p<|ABc _ z)<|h p,I.Ae,I.len⟩
theorem TY{N:List Str}(hN:N.Nodup){i j:Nat}{x:Str}(a:N[i]? = some x)(b:N[j]? = some x):i=j:=by
 obtain⟨h1,e1⟩:=AAL.mp a;obtain⟨h2,e2⟩:=AAL.mp b;exact(AC5 hN).mp (e1.trans e2.symm)
theorem af{M:Model}{A:Around}{E:Value->Shared->Prop}{i:Nat}{x:Str}{v:V}{u:Value}{Q:Unit->Shared->Prop}(I:Inv X AE σ H s)(hN:X.N.Nodup)(hi:X.N[i]? = some x)(hx:Loc X.env.scope x)(r:RelV v u) (h:∀s',Inv X AE (σ.set i<|some v) H s'->(∃a,Heap.SameBut a s.heap s'.heap/\(a=X.env.locals\/X.env.cells.lookup x=some a))->Q () s') (hf:X.fn x=true\/X.env.scope.names.lookup x=some .local:=by first|exact .inl rfl|exact .inr rfl|assumption):wpAny M A (storeName X.env x u) Q E s:=by
 obtain⟨m,hn,hl⟩:=id I.loc;have Rt:(X.env.scope.kind == .class||(X.env.scope.kind == .module&&X.env.locals != X.env.globals))=false:=by rw[I.ok.kind];rfl
 have Ko:i<σ.length:=by rw[I.len];exact(AAL.mp hi).1
 have HB:=I.HB;have tracked:∀{a:Addr}{h':Heap},(∃o,s.heap.get? a=some o/\H a=none)->Heap.SameBut a s.heap h'->Bp X.prog X.w H h':=λ{a h'} ha hs b ob e=>by
  obtain⟨_,_,IW⟩:=ha;refine(I.Ae b ob e).Hh (λc w' hc q=>(hs.2 c ?_).trans q) (λ_ q=>q) λ_ _ q=>q;rintro rfl;rcases hc with rfl|hc
  .rw[IW]at e;cases e
  .rw[IW]at hc;cases hc
 rcases hx with hk|hk
 .refine wpAny_storeName_local hk hn (λh' SE hs=>?_) Rt;obtain⟨oL,_,_,Ob,_⟩:=id hn;refine h _ ⟨I.ok,I.os,I.bare,⟨λb o e n hb hx=>?_,λb o e n hb hx=>?_,I.base.free,λb o e hx=>?_,I.base.DQ,I.base.D1,I.base.Eh⟩,⟨_,SE,λj y v' e1 e2 e3=>?_⟩,λy c e=>?_,I.free,I.Dh,λp hp=>?_,tracked ⟨oL,Ob,I.free⟩ hs,by simpa using I.len⟩ ⟨_,hs,.inl rfl⟩
  .exact(hs.2 b<|AAZ<|AAe (Heap.lt_size e) I.ok.above).trans (I.base.keep b o e n hb hx)
  .obtain⟨sl,e1⟩:=I.base.slot b o e n hb hx;exact⟨sl,(hs.2 b<|AAZ<|AAe (Heap.lt_size e) I.ok.above).trans e1⟩
  .obtain⟨o',e1⟩:=I.base.there b o e hx;exact⟨o',(hs.2 b<|AAZ<|AAe (Heap.lt_size e) I.ok.above).trans e1⟩
  .by_cases hj:j=i
   .subst hj;rw[hi]at e1;cases e1;rw[ABr Ko]at e2;cases e2;exact⟨u,r,.inl ⟨hk,AAB⟩⟩
   .rw[AAg<|AA3 hj]at e2;obtain⟨u',r',q⟩:=hl j y v' e1 e2 e3;refine⟨u',r',?_⟩;rcases q with⟨k,e⟩|⟨k,c,e,z⟩
    .refine .inl ⟨k,?_⟩;have:y≠x:=λe=>hj<|TY hN e1<|e ▸ hi;simp[this,e]
    .exact .inr ⟨k,c,e,z.sameBut hs<|HB y c e⟩
  .obtain⟨w',z⟩:=I.cell y c e;exact⟨w',z.sameBut hs<|HB y c e⟩
  .obtain⟨e,n,ne,nf,d⟩:=I.pin p hp;exact⟨(hs.2 p.1 ne).trans e,n,ne,nf,d⟩
 .have Ry:X.fn x=true:=by
   rcases hf with z|z
   .exact z
   .rw[z]at hk;cases hk
  obtain⟨c,hc⟩:=I.ok.has x<|.inl hk;obtain⟨w',z⟩:=I.cell x c hc;refine wpAny_storeName_cell I.ok.kind hk hc z λh' GO hs=>?_;obtain⟨oc,YA,kx⟩:=id z;refine h { s with heap:=h' } ⟨I.ok,I.os,I.bare,⟨λb o e n hb hx=>?_,λb o e n hb hx=>?_,I.base.free,λb o e hx=>?_,I.base.DQ,I.base.D1,I.base.Eh⟩,⟨m,hn.sameBut hs<|AA3<|HB x c hc,λj y v' e1 e2 e3=>?_⟩,λy c' e=>?_,I.free,I.Dh,λp hp=>?_,tracked ⟨oc,YA,I.Dh x c hc⟩ hs,by simpa using I.len⟩ ⟨c,hs,.inr hc⟩
  .exact(hs.2 b<|AAZ<|AAe (Heap.lt_size e)<|I.ok.G8 x c Ry hc).trans (I.base.keep b o e n hb hx)
  .obtain⟨sl,e1⟩:=I.base.slot b o e n hb hx;exact⟨sl,(hs.2 b<|AAZ<|AAe (Heap.lt_size e)<|I.ok.G8 x c Ry hc).trans e1⟩
  .obtain⟨o',e1⟩:=I.base.there b o e hx;exact⟨o',(hs.2 b<|AAZ<|AAe (Heap.lt_size e)<|I.ok.G8 x c Ry hc).trans e1⟩
  .by_cases hj:j=i
   .subst hj;rw[hi]at e1;cases e1;rw[ABr Ko]at e2;cases e2;exact⟨u,r,.inr ⟨.inl hk,c,hc,GO⟩⟩
   .rw[AAg<|AA3 hj]at e2;obtain⟨u',r',q⟩:=hl j y v' e1 e2 e3;refine⟨u',r',?_⟩;rcases q with q|⟨k,c',e,z'⟩
    .exact .inl q
    .refine .inr ⟨k,c',e,z'.sameBut hs ?_⟩;rintro rfl;exact hj<|TY hN e1<|I.ok.inj _ _ _ e hc ▸ hi
  .by_cases EU:c'=c
   .subst EU;exact⟨_,GO⟩
   .obtain⟨w2,z2⟩:=I.cell y c' e;exact⟨w2,z2.sameBut hs EU⟩
  .obtain⟨e,n,ne,nf,d⟩:=I.pin p hp;refine⟨(hs.2 p.1 ?_).trans e,n,ne,nf,d⟩;intro q;rw[q,YA]at e;have q':oc=p.2:=AAo e;exact d w' (by rw[<-q'];exact kx)
theorem LJ{M:Model}{A:Around}{E:Value->Shared->Prop}{i:Nat}{x:Str}{v:V}{u:Value}{Q:Unit->Shared->Prop}(I:Inv X AE σ H s)(hN:X.N.Nodup)(hi:X.N[i]? = some x)(hx:Loc X.env.scope x)(r:RelV v u) (h:∀s',Inv X AE (σ.set i<|some v) H s'->Q () s') (hf:X.fn x=true\/X.env.scope.names.lookup x=some .local:=by first|exact .inl rfl|exact .inr rfl|assumption):wpAny M A (storeName X.env x u) Q E s:=
 af I hN hi hx r (λs' I' _=>h s' I') hf
theorem Inv.Vr{s':Shared}{ch:List Addr}(I:Inv X AE σ H s)(ho:s'.os=s.os)(u:Un (Cm X.stack) ch H H' s.heap s'.heap)(Ae:Bp X.prog X.w H' s'.heap)(hg:AllBare s'.gens) (GP:∀b∈ch,(b∈X.ex\/X.B2.heap.objs.size<=b)/\b≠X.env.locals/\(∀x c,X.env.cells.lookup x=some c->c≠b)/\∀p∈X.pn++AE,p.1≠b):Inv X AE σ H' s':=by
 obtain⟨h',g',d',t',o'⟩:=s';have e:o'=s.os:=ho;subst e;exact I.call (g':=g') (t':=t') (d':=d') u Ae hg GP
end
abbrev XK:=Value->Option Addr->Hp->Prop
abbrev St:=List<|Option V
abbrev VK:=V->Hp->Prop
abbrev TE:=St->Hp->VK->Prop
abbrev TT:=St->Hp->(Bool->Hp->Prop)->Prop
abbrev TA:=St->Hp->(List V->Hp->Prop)->Prop
structure Ends where
 nx:St->Hp->Prop
 rt:VK
 bk:St->Hp->Prop:=λ_ _=>False
 ct:St->Hp->Prop:=λ_ _=>False
abbrev TS:=Ends->St->Hp->Prop
def EP(X:Cx)(AE:List<|Addr×Obj)(σ:St)(Q:VK)(u:Value)(s':Shared):Prop:=∃v H',Inv X AE σ H' s'/\RelV v u/\Q v H'
def TP(X:Cx)(AE:List<|Addr×Obj)(σ:St)(Q:Bool->Hp->Prop)(b:Bool)(s':Shared):Prop:=∃H',Inv X AE σ H' s'/\Q b H'
def AP(X:Cx)(AE:List<|Addr×Obj)(σ:St)(Q:List V->Hp->Prop)(us:List Value)(s':Shared):Prop:=∃vs H',Inv X AE σ H' s'/\An vs us/\Q vs H'
def SP(X:Cx)(AE:List<|Addr×Obj)(D:Ends)(f:Flow)(s':Shared):Prop:=
 match f with
 |.next=>∃AY H',Inv X AE AY H' s'/\D.nx AY H'
 |.brk=>∃AY H',Inv X AE AY H' s'/\D.bk AY H'
 |.cont=>∃AY H',Inv X AE AY H' s'/\D.ct AY H'
 |.ret u=>∃v AY H',Inv X AE AY H' s'/\RelV v u/\D.rt v H'
def PE(X:Cx)(e:Expr)(t:TE):Prop:=
 ∀(AE:List<|Addr×Obj)(s:Shared)(σ:St)(H:Hp)(Q:VK),Inv X AE σ H s->t σ H Q->wpAny (model X.prog X.w) X.A (eval e X.env) (EP X AE σ Q) X.xe s
def PT(X:Cx)(e:Expr)(t:TT):Prop:=
 ∀(AE:List<|Addr×Obj)(s:Shared)(σ:St)(H:Hp)(Q:Bool->Hp->Prop),Inv X AE σ H s->t σ H Q->wpAny (model X.prog X.w) X.A (isTrue e X.env<|eval e X.env) (TP X AE σ Q) X.xe s
def PW(X:Cx)(e:Expr)(t:TT):Prop:=
 ∀(JF:Sem Value)(AE:List<|Addr×Obj)(s:Shared)(σ:St)(H:Hp)(Q:Bool->Hp->Prop),Inv X AE σ H s->t σ H Q->wpAny (model X.prog X.w) X.A (isTrue e X.env JF) (TP X AE σ Q) X.xe s
theorem PW.pt{X:Cx}{e:Expr}{t:TT}(h:PW X e t):PT X e t:=h _
def PA(X:Cx)(es:List Expr)(t:TA):Prop:=
 ∀(pos:Pos)(AE:List<|Addr×Obj)(s:Shared)(σ:St)(H:Hp)(Q:List V->Hp->Prop),Inv X AE σ H s->t σ H Q->wpAny (model X.prog X.w) X.A (spliced<|backTo pos<|starEach es X.env) (AP X AE σ Q) X.xe s
def PS(X:Cx)(st:Stmt)(t:TS):Prop:=
 ∀(AE:List<|Addr×Obj)(s:Shared)(σ:St)(H:Hp)(D:Ends),Inv X AE σ H s->t D σ H->wpAny (model X.prog X.w) X.A (exec st X.env) (SP X AE D) X.xe s
def CV(X:Cx)(st:List Stmt)(t:TS):Prop:=
 ∀(AE:List<|Addr×Obj)(s:Shared)(σ:St)(H:Hp)(D:Ends),Inv X AE σ H s->t D σ H->wpAny (model X.prog X.w) X.A (execs st X.env) (SP X AE D) X.xe s
theorem Aj{α:Type}{t:Sem α}{Q Q':α->Shared->Prop}{M:Model}{A:Around}{E:Value->Shared->Prop}{s:Shared}(h:wpAny M A t Q E s)(hQ:∀a s,Q a s->Q' a s):wpAny M A t Q' E s:=wpAny_mono h hQ λ_ _ x=>x
section
variable{X:Cx}
def P4(i:Nat):TE:=λσ H Q=>∃v,σ[i]? = some (some v)/\Q v H
def tC(v:V):TE:=λ_ H Q=>Q v H
theorem Ex{i:Nat}{x:Str}{pos:Pos}(hN:X.N[i]? = some x)(hv:DZ X.env.scope x)(hd:(x==("__debug__" : Str))=false:=by decide)(BI:(x==("__classdict__" : Str))=false:=by decide):PE X (.Name x pos)<|P4 i:=by
 intro AE s σ H Q I h;obtain⟨v,e,h⟩:=h;obtain⟨m,hn,hl⟩:=I.loc;obtain⟨u,r,l⟩:=hl i x v hN e hv;have fin:EP X AE σ Q u s:=⟨v,H,I,r,h⟩;rcases l with⟨hk,hm⟩|⟨hk,c,hc,OQ⟩
 .exact wpAny_Name (wpAny_loadName_local I.ok.kind hk hn hm fin) hd
 .rcases hk with hk|hk
  .exact wpAny_Name (wpAny_loadName_cell I.ok.kind hk hc OQ fin) hd
  .exact wpAny_Name (wpAny_loadName_free I.ok.kind hk hc OQ fin BI) hd
theorem Zm{i j pos}:PE X (.Constant (.int i) j pos)<|tC<|.int i:=λ_ _ _ H _ I h=>wpAny_Constant_int ⟨.int i,H,I.tok _,⟨_,rfl⟩,h⟩
theorem pD{b j pos}:PE X (.Constant (.bool b) j pos)<|tC<|.bl b:=λ_ _ _ H _ I h=>Constant_bool ⟨.bl b,H,I,rfl,h⟩
theorem Zn{x j pos}:PE X (.Constant (.str x) j pos)<|tC<|.str x:=λ_ _ _ H _ I h=>Calls.Constant_str ⟨.str x,H,I.tok _,⟨_,rfl⟩,h⟩
def Gl(X:Cx)(x:Str):Prop:=X.env.kindOf x=some .globalImplicit
theorem Mh{E:Value->Shared->Prop}{AE:List (Addr×Obj)}{s:Shared}{σ:St}{H:Hp}{x:Str}{u:Value}{pos:Pos}{Q:Value->Shared->Prop}(I:Inv X AE σ H s)(hg:Gl X x)(hm:X.mg x=some u)(h:Q u s) (hd:(x==("__debug__" : Str))=false:=by decide):wpAny (model X.prog X.w) X.A (eval (.Name x pos) X.env) Q E s:=
 Calls.Name_function_global I.ok.kind hg (Calls.loadGlobal_global (by rw[I.ok.glob];exact I.mod.glob.keeps I.bk) hm h) hd
theorem Mg{E:Value->Shared->Prop}{AE:List (Addr×Obj)}{s:Shared}{σ:St}{H:Hp}{x:Str}{u:Value}{pos:Pos}{Q:Value->Shared->Prop}(I:Inv X AE σ H s)(hg:Gl X x)(hm:X.mg x=none)(hv:bootBuiltins x=some u)(h:Q u s) (hn:x≠"__name__":=by decide) (hd:(x==("__debug__" : Str))=false:=by decide):wpAny (model X.prog X.w) X.A (eval (.Name x pos) X.env) Q E s:=by
 obtain⟨mb,h1,h2⟩:=I.mod.blt;exact Calls.Name_function_global I.ok.kind hg (Calls.loadGlobal_builtin (by rw[I.ok.glob];exact I.mod.glob.keeps I.bk) hm (by rw[I.ok.blt];exact h1.keeps I.bk) ((h2 x hn).trans hv) h) hd
theorem Ts{x:Str}{v:V}{u:Value}{pos:Pos}(hg:Gl X x)(hm:X.mg x=some u)(r:RelV v u)(hd:(x==("__debug__" : Str))=false:=by decide):PE X (.Name x pos)<|tC v:=
 λ_ _ _ H _ I h=>Mh I hg hm ⟨v,H,I,r,h⟩ hd
theorem Zi{x:Str}{v:V}{u:Value}{pos:Pos}(hg:Gl X x)(hm:X.mg x=none)(hv:bootBuiltins x=some u)(r:RelV v u)(hn:x≠"__name__":=by decide)(hd:(x==("__debug__" : Str))=false:=by decide):PE X (.Name x pos)<|tC v:=
 λ_ _ _ H _ I h=>Mg I hg hm hv ⟨v,H,I,r,h⟩ hn hd
variable{a b:Expr}{ta tb:TE}{pos:Pos}
def tB(t:TE):TT:=λσ H Q=>t σ H λx H1=>∃c,x=.bl c/\Q c H1
theorem qV{e:Expr}{t:TE}(h:PE X e t)(he:∀JF,isTrue e X.env JF=(do let v<-JF;standAt e.pos;holding [v] (truthy v)):=by intro _;rfl):PT X e<|tB t:=by
 intro AE s σ H Q I hw;refine isTrue_plain (Aj (h AE s σ H _ I hw) λv s1 ⟨x,H1,I1,r1,q1⟩=>?_)<|he _;obtain⟨d,rfl,q⟩:=q1;cases r1;exact wpAny_truthy_bool ⟨H1,I1,q⟩
variable{tA P2:TT}{A7:List Expr}
def av(t u:TT):TT:=λσ H Q=>t σ H λc H1=>if c=true then u σ H1 Q else Q false H1
def bE(t u:TT):TT:=λσ H Q=>t σ H λc H1=>if c=true then Q true H1 else u σ H1 Q
def vh(t:TT):TT:=λσ H Q=>t σ H λc H1=>Q (!c) H1
theorem qc(ha:PT X a tA):PW X (.BoolOp .And [a] pos) tA:=by
 intro wh AE s σ H Q I h;refine isTrue_and<|Aj (ha AE s σ H Q I h) λc s1 e=>?_;cases c with
 |true=>exact isTrue_and_nil e
 |false=>exact e
theorem qe(ha:PT X a tA):PW X (.BoolOp .Or [a] pos) tA:=by
 intro wh AE s σ H Q I h;refine isTrue_or<|Aj (ha AE s σ H Q I h) λc s1 e=>?_;cases c with
 |false=>exact isTrue_or_nil e
 |true=>exact e
theorem qb(ha:PT X a tA)(hb:PW X (.BoolOp .And (b::A7) pos) P2):PW X (.BoolOp .And (a::b::A7) pos)<|av tA P2:=by
 intro wh AE s σ H Q I h;refine isTrue_and<|Aj (ha AE s σ H _ I h) λc s1 ⟨H1,I1,q1⟩=>?_;cases c with
 |true=>exact hb wh AE s1 σ H1 Q I1 q1
 |false=>exact⟨H1,I1,q1⟩
theorem qd(ha:PT X a tA)(hb:PW X (.BoolOp .Or (b::A7) pos) P2):PW X (.BoolOp .Or (a::b::A7) pos)<|bE tA P2:=by
 intro wh AE s σ H Q I h;refine isTrue_or<|Aj (ha AE s σ H _ I h) λc s1 ⟨H1,I1,q1⟩=>?_;cases c with
 |true=>exact⟨H1,I1,q1⟩
 |false=>exact hb wh AE s1 σ H1 Q I1 q1
theorem qU(ha:PT X a tA):PT X (.UnaryOp .Not a pos)<|vh tA:=by
 intro AE s σ H Q I h;exact isTrue_not<|ha AE s σ H (λc H1=>Q (!c) H1) I h
def vP(ta tb:TE):TE:=λσ H Q=>ta σ H λx H1=>∃c,x=.bl c/\if c=true then tb σ H1 Q else Q (.bl false) H1
def vj(ta tb:TE):TE:=λσ H Q=>ta σ H λx H1=>∃c,x=.bl c/\if c=true then Q (.bl true) H1 else tb σ H1 Q
def vi(ta:TE):TE:=λσ H Q=>ta σ H λx H1=>∃c,x=.bl c/\Q (.bl (!c)) H1
theorem pQ{op}{t:TE}(h:PE X a t):PE X (.BoolOp op [a] pos) t:=λAE s σ H Q I hw=>BoolOp_one<|h AE s σ H Q I hw
theorem pC(ha:PE X a ta)(hb:PE X (.BoolOp .And (b::A7) pos) tb):PE X (.BoolOp .And (a::b::A7) pos)<|vP ta tb:=by
 intro AE s σ H Q I h;refine BoolOp_and<|Aj (ha AE s σ H _ I h) λv s1 ⟨x,H1,I1,r1,q1⟩=>?_;obtain⟨c,rfl,q1⟩:=q1;cases r1;refine wpAny_truthy_bool ?_;cases c with
 |true=>exact hb AE s1 σ H1 Q I1 q1
 |false=>exact⟨.bl false,H1,I1,rfl,q1⟩
theorem pS(ha:PE X a ta)(hb:PE X (.BoolOp .Or (b::A7) pos) tb):PE X (.BoolOp .Or (a::b::A7) pos)<|vj ta tb:=by
 intro AE s σ H Q I h;refine BoolOp_or<|Aj (ha AE s σ H _ I h) λv s1 ⟨x,H1,I1,r1,q1⟩=>?_;obtain⟨c,rfl,q1⟩:=q1;cases r1;refine wpAny_truthy_bool ?_;cases c with
 |false=>exact hb AE s1 σ H1 Q I1 q1
 |true=>exact⟨.bl true,H1,I1,rfl,q1⟩
theorem pP(ha:PE X a ta):PE X (.UnaryOp .Not a pos)<|vi ta:=by
 intro AE s σ H Q I h;refine UnaryOp_<|Aj (ha AE s σ H _ I h) λv s1 ⟨x,H1,I1,r1,q1⟩=>?_;obtain⟨c,rfl,q1⟩:=q1;cases r1;exact not_of<|wpAny_truthy_bool ⟨.bl (!c),H1,I1,rfl,q1⟩
def vX(t:TT)(ta tb:TE):TE:=λσ H Q=>t σ H λc H1=>if c=true then ta σ H1 Q else tb σ H1 Q
theorem pM{c:Expr}(hc:PT X c tA)(ha:PE X a ta)(hb:PE X b tb):PE X (.IfExp c a b pos)<|vX tA ta tb:=by
 intro AE s σ H Q I h;refine wpAny_IfExp<|Aj (hc AE s σ H _ I h) λd s1 ⟨H1,I1,q1⟩=>?_;cases d with
 |true=>exact ha AE s1 σ H1 Q I1 q1
 |false=>exact hb AE s1 σ H1 Q I1 q1
end
def CO(K:PySem.W.Frag)(H:Hp)(a:Addr)(xs:List V):Prop:=
 Rd H a (.lst xs)\/∃(o:Obj)(its:Array Value)(n:Nat),K.lookup a=some o/\o.cls=.type "list"/\o.dict=none/\o.data=.seq its n/\its.size<=sizeLine/\An xs its.toList
def CB(K:PySem.W.Frag)(H:Hp)(a:Addr)(xs:List V):Prop:=
 Rd H a (.tup xs)\/∃(o:Obj)(its:Array Value)(n:Nat),K.lookup a=some o/\o.cls=.type "tuple"/\o.data=.seq its n/\its.size<=sizeLine/\An xs its.toList
noncomputable def dU:Value->Option V
 |.none=>some .A4
 |.bool b=>some<|.bl b
 |.int i _=>some<|.int i
 |.str x _=>some<|.str x
 |.bytes b _=>some<|.Q8 b
 |.float b _=>some<|.Kh b
 |.ref a=>some<|.ref a
 |.type n=>some<|.ty n
 |_=>none
theorem RelV.abs{x:V}{u:Value}(r:RelV x u):dU u=some x:=by
 cases x with
 |A4=>cases r;rfl
 |bl _=>cases r;rfl
 |int _=>obtain⟨t,rfl⟩:=r;rfl
 |str _=>obtain⟨t,rfl⟩:=r;rfl
 |Q8 _=>obtain⟨t,rfl⟩:=r;rfl
 |Kh _=>obtain⟨t,rfl⟩:=r;rfl
 |ref _=>cases r;rfl
 |ty _=>cases r;rfl
theorem RelV.inj{x y:V}{u:Value}(r:RelV x u)(q:RelV y u):x=y:=AAo<|r.abs.symm.trans q.abs
theorem An.inj:∀{xs ys:List V}{us:List Value},An xs us->An ys us->xs=ys
 |_,_,_,.nil,.nil=>rfl
 |_,_,_,.cons r t,.cons r' t'=>by rw[r.inj r',An.inj t t']
section
variable{X:Cx}{AE:List (Addr×Obj)}{σ:St}{H:Hp}{s:Shared}{a:Addr}{xs ys:List V}
theorem Inv.list(I:Inv X AE σ H s)(h:CO X.K H a xs):∃its:List Value,An xs its/\PlainL s.heap a its.toArray/\xs.length<=sizeLine:=by
 rcases h with h|⟨o,its,n,hk,hc,hd,hs,hz,r⟩
 .obtain⟨z,its,n,r,e⟩:=h.ok I.Ae;exact⟨its,r,⟨_,n,e,rfl,rfl,rfl⟩,z⟩
 .refine⟨its.toList,r,⟨o,n,I.BB a o hk,hc,hd,by simpa using hs⟩,?_⟩;have e:=r.length;simp only[ABh]at e;omega
theorem Inv.tuple(I:Inv X AE σ H s)(h:CB X.K H a xs):∃its:List Value,An xs its/\IsTup s.heap a its.toArray/\xs.length<=sizeLine:=by
 rcases h with h|⟨o,its,n,hk,hc,hs,hz,r⟩
 .obtain⟨z,its,r,p⟩:=h.ok I.Ae;exact⟨its,r,p,z⟩
 .refine⟨its.toList,r,⟨o,I.BB a o hk,hc,n,by simpa using hs⟩,?_⟩;have e:=r.length;simp only[ABh]at e;omega
theorem Inv.mY(I:Inv X AE σ H s)(h:CO X.K H a xs)(h':CO X.K H a ys):xs=ys:=by
 obtain⟨its,r,⟨o,n,e,_,_,d⟩,_⟩:=I.list h;obtain⟨its',r',⟨o',n',e',_,_,d'⟩,_⟩:=I.list h';rw[e]at e';cases e';rw[d]at d';injection d' with d1 _
 have:its=its':=by simpa using ABy Array.toList d1
 subst this;exact r.inj r'
end
noncomputable abbrev Cx.Gj(X:Cx)(E:Value->Shared->Prop):Cx:={ X with xe:=E }
abbrev Cx.Jq(X:Cx):Cx:=X.Gj λ_ _=>False
theorem Cx.Ok.Gj{X:Cx}(ok:X.Ok)(E:Value->Shared->Prop):(X.Gj E).Ok:=
 ⟨ok.mod,ok.kind,ok.glob,ok.blt,ok.above,ok.inj,ok.has,ok.G8,ok.hd,ok.frames,ok.EJ,ok.IJ,ok.bs,ok.Em,ok.Hc,ok.HK,ok.Di,ok.Ff⟩
theorem Cx.Ok.JD{X:Cx}{E:Value->Shared->Prop}(ok:(X.Gj E).Ok):X.Ok:=
 ⟨ok.mod,ok.kind,ok.glob,ok.blt,ok.above,ok.inj,ok.has,ok.G8,ok.hd,ok.frames,ok.EJ,ok.IJ,ok.bs,ok.Em,ok.Hc,ok.HK,ok.Di,ok.Ff⟩
section
variable{X:Cx}{AE:List (Addr×Obj)}{σ:St}{H:Hp}{s:Shared}{E:Value->Shared->Prop}
theorem Inv.Gj(I:Inv X AE σ H s)(E:Value->Shared->Prop):Inv (X.Gj E) AE σ H s:=⟨I.ok.Gj E,I.os,I.bare,I.base,I.loc,I.cell,I.free,I.Dh,I.pin,I.Ae,I.len⟩
theorem Inv.JD(I:Inv (X.Gj E) AE σ H s):Inv X AE σ H s:=⟨I.ok.JD,I.os,I.bare,I.base,I.loc,I.cell,I.free,I.Dh,I.pin,I.Ae,I.len⟩
theorem SP.JD{D:Ends}{f:Flow}{s':Shared}(h:SP (X.Gj E) AE D f s'):SP X AE D f s':=by
 cases f with
 |next=>obtain⟨AY,H',I,q⟩:=h;exact⟨AY,H',I.JD,q⟩
 |brk=>obtain⟨AY,H',I,q⟩:=h;exact⟨AY,H',I.JD,q⟩
 |cont=>obtain⟨AY,H',I,q⟩:=h;exact⟨AY,H',I.JD,q⟩
 |ret u=>obtain⟨v,AY,H',I,r,q⟩:=h;exact⟨v,AY,H',I.JD,r,q⟩
theorem CV.Jq{st:List Stmt}{t:TS}(h:CV X.Jq st t):CV X st t:=λAE s σ H D I hw=>
 wpAny_mono (h AE s σ H D (I.Gj _) hw) (λ_ _ q=>q.JD) λ_ _ z=>False.elim z
end
section
variable{X:Cx}{st:Stmt}{A7:List Stmt}{t u:TS}{e:Expr}{te:TE}{pos:Pos}
def ve:TS:=λD σ H=>D.nx σ H
def vq(t u:TS):TS:=λD σ H=>t { D with nx:=u D } σ H
theorem qQ:CV X [] ve:=λ_ _ σ H _ I h=>wpAny_execs_nil ⟨σ,H,I,h⟩
theorem Zz(h1:PS X st t)(h2:CV X A7 u):CV X (st::A7)<|vq t u:=by
 intro AE s σ H D I h;refine wpAny_execs_cons<|Aj (h1 AE s σ H { D with nx:=u D } I h) λf s1 q=>?_;cases f with
 |next=>
  obtain⟨AY,H',I',q⟩:=q;exact h2 AE s1 AY H' D I' q
 |ret v=>exact q
 |brk=>exact q
 |cont=>exact q
theorem Z0(h1:PS X st t):CV X [st] t:=by
 intro AE s σ H D I h;refine wpAny_execs_cons<|Aj (h1 AE s σ H D I h) λf s1 q=>?_;cases f with
 |next=>exact wpAny_execs_nil q
 |ret v=>exact q
 |brk=>exact q
 |cont=>exact q
theorem Inv.quiet{AE:List (Addr×Obj)}{σ:St}{H:Hp}{s:Shared}(I:Inv X AE σ H s):interactive X.env=false:=by simp[interactive,I.ok.kind]
def Uh(te:TE):TS:=λD σ H=>te σ H λ_ H1=>D.nx σ H1
theorem M3(he:PE X e te)(hs:swapsWith e none pos.line X.env=pure false:=by rfl):PS X (.Expr e pos)<|Uh te:=by
 intro AE s σ H D I h;exact wpAny_Expr_any (Aj (he AE s σ H _ I h) λv s1 ⟨x,H1,I1,r1,q1⟩=>⟨σ,H1,I1,q1⟩) I.quiet hs
def vo(te:TE):TS:=λD σ H=>te σ H D.rt
theorem Tw(he:PE X e te):PS X (.Return (some e) pos)<|vo te:=by
 intro AE s σ H D I h;exact wpAny_Return_some<|Aj (he AE s σ H _ I h) λv s1 ⟨x,H1,I1,r1,q1⟩=>⟨x,σ,H1,I1,r1,q1⟩
def vY(c:TT)(t u:TS):TS:=λD σ H=>c σ H λb H1=>if b=true then t D σ H1 else u D σ H1
theorem Zy{c:Expr}{a b:List Stmt}{tc:TT}(hc:PT X c tc)(ha:CV X a t)(hb:CV X b u):PS X (.If c a b pos)<|vY tc t u:=by
 intro AE s σ H D I h;refine wpAny_If<|Aj (hc AE s σ H _ I h) λd s1 ⟨H1,I1,q1⟩=>?_;cases d with
 |true=>exact ha AE s1 σ H1 D I1 q1
 |false=>exact hb AE s1 σ H1 D I1 q1
def vd:TS:=λ_ _ _=>False
theorem qK:PS X st vd:=λ_ _ _ _ _ _ h=>h.elim
end
abbrev TG:=V->St->Hp->(St->Hp->Prop)->Prop
abbrev Gy:=List V->St->Hp->(St->Hp->Prop)->Prop
def PG(X:Cx)(LL:Expr)(t:TG):Prop:=
 ∀(AE:List<|Addr×Obj)(s:Shared)(σ:St)(H:Hp)(v:V)(u:Value)(Q:St->Hp->Prop),Inv X AE σ H s->RelV v u->t v σ H Q->wpAny (model X.prog X.w) X.A (assign LL X.env u) (λ_ s'=>∃AY H',Inv X AE AY H' s'/\Q AY H') X.xe s
def GA(X:Cx)(ts:List Expr)(t:Gy):Prop:=
 ∀(AE:List<|Addr×Obj)(s:Shared)(σ:St)(H:Hp)(vs:List V)(us:List Value)(Q:St->Hp->Prop),Inv X AE σ H s->An vs us->t vs σ H Q->wpAny (model X.prog X.w) X.A (assignInOrder ((assignEach ts X.env).map (·.2)) us) (λ_ s'=>∃AY H',Inv X AE AY H' s'/\Q AY H') X.xe s
abbrev Qn:=V->V->V->Hp->(Hp->Prop)->Prop
def VO(X:Cx)(t:Qn):Prop:=
 ∀(AE:List<|Addr×Obj)(s:Shared)(σ:St)(H:Hp)(o i v:V)(ov iv u:Value)(Q:Hp->Prop),Inv X AE σ H s->RelV o ov->RelV i iv->RelV v u->t o i v H Q->wpAny (model X.prog X.w) X.A (setItem ov iv u) (λ_ s'=>∃H',Inv X AE σ H' s'/\Q H') X.xe s
section
variable{X:Cx}{pos:Pos}
def L7(i:Nat):TG:=λv σ H Q=>Q (σ.set i<|some v) H
theorem pW{i:Nat}{x:Str}(hN:X.N.Nodup)(hi:X.N[i]? = some x)(hx:Loc X.env.scope x)(hf:X.fn x=true\/X.env.scope.names.lookup x=some .local:=by first|exact .inl rfl|exact .inr rfl|assumption):PG X (.Name x pos)<|L7 i:=by
 intro AE s σ H v u Q I r h;exact wpAny_assign_Name<|LJ I hN hi hx r (λs' I'=>⟨_,H,I',h⟩) hf
def jG:Gy:=λvs σ H Q=>vs=[]/\Q σ H
def jE(t:TG)(u:Gy):Gy:=λvs σ H Q=>∃v r,vs=v::r/\t v σ H λAY H'=>u r AY H' Q
theorem pd:GA X [] jG:=by
 intro AE s σ H vs us Q I r h;obtain⟨e,h⟩:=h;subst e;cases r;exact assignInOrder_nil ⟨σ,H,I,h⟩
theorem pZ{e:Expr}{es:List Expr}{t:TG}{u:Gy}(h1:PG X e t)(h2:GA X es u) (hs:(assignEach (e::es) X.env).map (·.2)=assign e X.env::(assignEach es X.env).map (·.2):=by rfl):GA X (e::es)<|jE t u:=by
 intro AE s σ H vs us Q I r h;obtain⟨v,vr,e1,h⟩:=h;subst e1;cases r with
 |cons r rr=>
  rw[hs];refine assignInOrder_cons<|Aj (h1 AE s σ H _ _ _ I r h) λ_ s1 ⟨Du,H1,I1,q1⟩=>?_;exact h2 AE s1 Du H1 _ _ Q I1 rr q1
def jI(K:PySem.W.Frag)(n:Nat)(t:Gy):TG:=λv σ H Q=>∃a xs,v=.ref a/\CB K H a xs/\xs.length=n/\t xs σ H Q
theorem pY{es:List Expr}{k:Nat}{t:Gy}{n:Nat}(hc:X.calm=true)(h:GA X es t) (hn:(assignEach es X.env).length=n:=by rfl) (Fo:(assignEach es X.env).findIdx? (·.1)=none:=by rfl):PG X (.Tuple es k pos)<|jI X.K n t:=by
 intro AE s σ H v u Q I r hw;obtain⟨a,xs,e1,hq,hl,hw⟩:=hw;subst e1;cases r;obtain⟨its,rv,ht,hz⟩:=I.tuple hq;refine assign_Tuple_tuple (I.ok.hd hc) ht (by simp[hn,<-hl,rv.length]) Fo λh' hx=>?_;have I1:Inv X AE σ H { s with heap:=h' }:=I.kept (t':=s.toks) λb o e=>hx b o (AAZ<|Heap.lt_size e) e;exact h AE _ σ H xs _ Q I1 (by simpa using rv) hw
def jH(to ti:TE)(t:Qn):TG:=λv σ H Q=>to σ H λo H1=>ti σ H1 λi H2=>t o i v H2 λH3=>Q σ H3
theorem pX{o i:Expr}{to ti:TE}{t:Qn}(ho:PE X o to)(hi:PE X i ti)(hs:VO X t) (ha:∀v,assign (.Subscript o i pos) X.env v=(do
  let ov<-holding [v]<|eval o X.env
  let iv<-holding [v,ov]<|eval i X.env
  standAt pos
  holding [v,ov,iv] (setItem ov iv v)
  release [v,ov,iv] []):=by intro _;rfl):PG X (.Subscript o i pos)<|jH to ti t:=by
 intro AE s σ H v u Q I r h;rw[ha];refine wpAny_bind<|wpAny_holding<|Aj (ho AE s σ H _ I h) λov s1 ⟨x,H1,I1,r1,q1⟩=>?_;refine wpAny_bind<|wpAny_holding<|Aj (hi AE s1 σ H1 _ I1 q1) λiv s2 ⟨y,H2,I2,r2,q2⟩=>?_;refine wpAny_bind<|wpAny_standAt<|wpAny_bind<|wpAny_holding<|Aj (hs AE s2 σ H2 x y v ov iv u _ I2 r1 r2 r q2) λ_ s3 ⟨H3,I3,q3⟩=>?_;exact wpAny_release ⟨σ,H3,I3,q3⟩
def NF(te:TE)(g:TG):TS:=λD σ H=>te σ H λx H1=>g x σ H1 D.nx
theorem Tv{tg e:Expr}{te:TE}{g:TG}(he:PE X e te)(hg:PG X tg g)(hs:swapsWithSole [tg] e pos.line X.env=pure false:=by rfl)(hw:swappedStores [tg] e X.env=pure none:=by rfl) (h1:(assignEach [tg] X.env).map (·.2)=[assign tg X.env]:=by rfl):PS X (.Assign [tg] e pos)<|NF te g:=by
 intro AE s σ H D I h;refine wpAny_Assign_stores (Aj (he AE s σ H _ I h) λv s1 ⟨x,H1,I1,r1,q1⟩=>?_) hs hw;rw[h1];exact Aj (hg AE s1 σ H1 x v _ I1 r1 q1) λ_ s2 q=>q
theorem Ph{i:Nat}{x:Str}{e:Expr}{te:TE}{pos':Pos}(hN:X.N.Nodup)(hi:X.N[i]? = some x)(hx:Loc X.env.scope x)(he:PE X e te)(hs:swapsWith e (some<|.Name x pos') pos.line X.env=pure false:=by rfl)(hf:X.fn x=true\/X.env.scope.names.lookup x=some .local:=by first|exact .inl rfl|exact .inr rfl|assumption) : PS X (.Assign [.Name x pos'] e pos)<|NF te<|L7 i:=by
 intro AE s σ H D I h;refine wpAny_Assign_Name (Aj (he AE s σ H _ I h) λv s1 ⟨y,H1,I1,r1,q1⟩=>?_) hs;exact LJ I1 hN hi hx r1 (λs2 I2=>⟨_,H1,I2,q1⟩) hf
def vk(i j:Nat)(ta:TA):TS:=λD σ H=>ta σ H λvs H1=>∃v w,vs=[v,w]/\D.nx ((σ.set i<|some v).set j<|some w) H1
theorem qL{i j:Nat}{x y:Str}{a b:Expr}{ta:TA}{px py pt:Pos}{kt k2 Jv}(hc:X.calm=true)(hN:X.N.Nodup)(hi:X.N[i]? = some x)(hj:X.N[j]? = some y)(Br:i≠j) (hx:X.env.scope.names.lookup x=some .local) (hy:X.env.scope.names.lookup y=some .local) (ha:PA X [a,b] ta) (hw:swappedStores [.Tuple [.Name x px,.Name y py] kt pt] (.Tuple [a,b] k2 Jv) X.env=pure (some [x,y])) (hs:swapsWithSole [.Tuple [.Name x px,.Name y py] kt pt] (.Tuple [a,b] k2 Jv) pos.line X.env=pure false:=by rfl) : PS X (.Assign [.Tuple [.Name x px,.Name y py] kt pt] (.Tuple [a,b] k2 Jv) pos)<|vk i j ta:=by
 intro AE s σ H D I h;rw[exec_Assign_arm];refine wpAny_bind<|wpAny_standAt ?_;rw[hs];refine wpAny_bind<|wpAny_pure ?_;rw[AAG AAC];refine wpAny_bind<|Tuple_<|Aj (ha _ AE s σ H _ I h) λus s1 ⟨vs,H1,I1,r1,q1⟩=>?_;obtain⟨v,w,e1,q1⟩:=q1;subst e1;obtain⟨u1,u2,rfl,rv,CM⟩:∃u1 u2,us=[u1,u2]/\RelV v u1/\RelV w u2:=by
  cases r1 with
  |cons p q=>
   cases q with
   |cons p' q'=>
    cases q';exact⟨_,_,rfl,p,p'⟩
 refine wpAny_newObj_type ?_ (by show 2<=sizeLine;decide);have I2:Inv X AE σ H1 { s1 with heap:=s1.heap.push { cls:=.type "tuple",data:=.seq [u1,u2].toArray } }:=I1.kept (t':=s1.toks) λb o e=>Heap.get?_push_of_some _ e;rw[hw];refine wpAny_bind<|wpAny_pure ?_;show wpAny (model X.prog X.w) X.A (do rule "assign.swapped-stores";let items<-unpackItems (.ref s1.heap.objs.size) 2 none;assignInOrder [λv=>bindName X.env y v,λv=>bindName X.env x v] items.reverse;pure Flow.next) _ _ _;refine wpAny_bind<|wpAny_rule<|wpAny_bind<|unpackItems_tuple (items:=#[u1,u2]) (I.ok.hd hc) (IsTup.new s1.heap _) λh' GR=>?_;have I3:=I2.kept (h':=h') (t':=s1.toks) λb o e=>GR b o (AAZ<|Heap.lt_size e) e;show wpAny _ _ (assignInOrder [λv=>bindName X.env y v,λv=>bindName X.env x v] [u2,u1] >>= λ_=>pure Flow.next) _ _ _;refine wpAny_bind<|assignInOrder_cons<|wpAny_bindName<|LJ I3 hN hj (.inl hy) CM (λs2 I4=>?_)<|.inr hy;refine assignInOrder_cons<|wpAny_bindName<|LJ I4 hN hi (.inl hx) rv (λs3 I5=>assignInOrder_nil<|wpAny_pure ?_)<|.inr hx;rw[List.set_comm _ _<|AA3 Br]at I5;exact⟨_,H1,I5,q1⟩
end
section
variable{X:Cx}{pos:Pos}
def v8(c:TT)(tb:TS):TS:=λD σ H=>∃W:Nat->St->Hp->Prop,(∃m,W m σ H)/\∀m σ H,W m σ H->
 c σ H λb H1=>if b=true then ∃N:St->Hp->Prop,(∀AY H',N AY H'->∃m',m'<m/\W m' AY H')/\tb { D with nx:=N,ct:=N,bk:=D.nx } σ H1 else D.nx σ H1
theorem qP{c:Expr}{body:List Stmt}{tc:TT}{tb:TS}(hp:PassesOwn (model X.prog X.w) X.A X.env X.xe)(hc:PT X c tc)(hb:CV X body tb):PS X (.While c body [] pos)<|v8 tc tb:=by
 intro AE s σ H D I h;obtain⟨W,⟨m0,w0⟩,turn⟩:=h;refine wpAny_While<|codeAny_whileLoop (λn s'=>∃AY H',Inv X AE AY H' s'/\W n AY H') ?_ m0 ⟨σ,H,I,w0⟩;rintro n s1 ⟨Du,H1,I1,w1⟩;refine wpAny_passesOwn hp<|Aj (hc AE s1 Du H1 _ I1<|turn n Du H1 w1) λb s2 ⟨H2,I2,q2⟩=>?_;cases b with
 |true=>
  obtain⟨N,hN,q2⟩:=q2;rw[AAH rfl];refine wpAny_passesOwn hp<|Aj (hb AE s2 Du H2 _ I2 q2) λf s3 q3=>?_;cases f with
  |next=>
   obtain⟨D5,H3,I3,n3⟩:=q3;obtain⟨m',hm,w3⟩:=hN D5 H3 n3;exact⟨m',hm,D5,H3,I3,w3⟩
  |cont=>
   obtain⟨D5,H3,I3,n3⟩:=q3;obtain⟨m',hm,w3⟩:=hN D5 H3 n3;exact⟨m',hm,D5,H3,I3,w3⟩
  |brk=>exact q3
  |ret v=>exact q3
 |false=>
  rw[AAG ABO];exact wpAny_execs_nil ⟨Du,H2,I2,q2⟩
end
structure It where
 go:Nat->Hp->Prop
 QH:Nat->Hp->V->Hp->Prop
 stop:Nat->Hp->Prop
def FR(X:Cx)(AE:List<|Addr×Obj)(H:Hp)(b:Addr):Prop:=
 H b=none/\b≠X.env.locals/\b∉X.fs/\(b∈X.ex\/X.B2.heap.objs.size<=b)/\(∀x c,X.env.cells.lookup x=some c->c≠b)/\∀p∈X.pn++AE,p.1≠b
theorem Inv.Rf{X:Cx}{AE:List (Addr×Obj)}{σ:St}{H H':Hp}{s:Shared}{b:Addr}(I:Inv X AE σ H s)(hb:s.heap.objs.size<=b)(hn:H' b=none):FR X AE H' b:=by
 refine⟨hn,Nat.ne_of_gt<|AAe I.lt hb,I.nR hb,.inr<|ABF I.sz hb,λx c e z=>?_,λp hp z=>?_⟩
 .obtain⟨v,q⟩:=I.cell x c e;exact absurd (AAe q.lt (by rw[z];exact hb)) (ACB _)
 .exact absurd (AAe (Heap.lt_size (I.pin p hp).1) (by rw[z];exact hb)) (ACB _)
structure Turn(P:Program)(w:World)(K:PySem.W.Frag)(tg:Expr)(z7:It)(fp:List Addr)(it:Addr)(tn:Nat->Heap->Prop):Prop where
 mem:it∈fp
 obj:∀i h,tn i h->∀b∈fp,∃o,h.get? b=some o/\∀v,o.data≠.cell v
 keep:∀i h h',tn i h->(∀b∈fp,∀o,h.get? b=some o->h'.get? b=some o)->tn i h'
 item:∀(X:Cx),X.prog=P->X.w=w->X.K=K->X.calm=true->∀(i:Nat)(AE:List<|Addr×Obj)(s:Shared)(σ:St)(H:Hp)(E:Value->Shared->Prop),Inv X AE σ H s->(∀b∈fp,FR X AE H b)->tn i s.heap->z7.go i H->wpAny (model P w) X.A (pyNext<|.ref it) (λr s1=>∃u,r=some u/\
   wpAny (model P w) X.A (letOwnedTupleGo tg (.ref it) u) (λ_ s2=>∃x H',Inv X AE σ H' s2/\RelV x u/\z7.QH i H x H'/\tn (i+1) s2.heap/\∀b∈fp,H' b=none) E s1) E s
 done:∀(X:Cx),X.prog=P->X.w=w->X.K=K->X.calm=true->∀(i:Nat)(AE:List<|Addr×Obj)(s:Shared)(σ:St)(H:Hp)(E:Value->Shared->Prop),Inv X AE σ H s->(∀b∈fp,FR X AE H b)->tn i s.heap->z7.stop i H->wpAny (model P w) X.A (pyNext<|.ref it) (λr s1=>r=none/\Inv X AE σ H s1) E s
 self:∀(A:Around)(i:Nat)(s:Shared)(Q:Value->Shared->Prop)(E:Value->Shared->Prop),tn i s.heap->Q (.ref it) s->wpAny (model P w) A (pyIter<|.ref it) Q E s
abbrev TI:=St->Hp->(It->Hp->Prop)->Prop
def VN(X:Cx)(AE:List<|Addr×Obj)(σ:St)(tg:Expr)(R:It->Hp->Prop)(Ow:Value)(s2:Shared):Prop:=
 ∃(it:Addr)(fp:List Addr)(tn:Nat->Heap->Prop)(z7:It)(H':Hp),Ow=.ref it/\Inv X AE σ H' s2/\Turn X.prog X.w X.K tg z7 fp it tn/\tn 0 s2.heap/\(∀b∈fp,FR X AE H' b)/\R z7 H'
def PI(X:Cx)(tg iter:Expr)(wi:TI):Prop:=
 ∀(AE:List<|Addr×Obj)(s:Shared)(σ:St)(H:Hp)(R:It->Hp->Prop),Inv X AE σ H s->wi σ H R->wpAny (model X.prog X.w) X.A (eval iter X.env) (λv s1=>wpAny (model X.prog X.w) X.A (pyIter v) (VN X AE σ tg R) X.xe s1) X.xe s
theorem Xe{M:Model}{A:Around}{E:Value->Shared->Prop}{s:Shared}{tg:Expr}{it:Addr}{u:Value}{o:Obj}{n:String}{vs:Array Value}{Q:Unit->Shared->Prop}(ho:s.heap.get? it=some o)(hc:o.cls=.type n)(hd:o.data=.fields vs) (hn:["enumerate","zip","dict_itemiterator","dict_reverseitemiterator","odict_iterator","itertools.zip_longest","itertools.pairwise"].contains n=false) (hQ:Q () s):wpAny M A (letOwnedTupleGo tg (.ref it) u) Q E s:=by
 unfold letOwnedTupleGo;cases tg<;>first
  |exact wpAny_pure hQ
  |(cases u<;>first
   |exact wpAny_pure hQ
   |(
    refine wpAny_bind<|wpAny_load ho ?_;rw[hc,hd];show wpAny M A (if(["enumerate","zip","dict_itemiterator","dict_reverseitemiterator","odict_iterator","itertools.zip_longest","itertools.pairwise"].contains n&&vs[0]? == some (rawInt _))=true then _ else _) Q E s;rw[AAG (by intro h;rw[hn,ACx]at h;cases h)];exact wpAny_pure hQ))
noncomputable def Qi(K:PySem.W.Frag)(a:Addr):It:=
 ⟨λi H=>∃xs x,CO K H a xs/\xs[i]? = some x,λi H x H'=>H'=H/\∀xs,CO K H a xs->xs[i]? = some x,λi H=>∃xs,CO K H a xs/\xs.length<=i⟩
noncomputable def Lf(lo:Int)(n:Nat):It:=⟨λi _=>i<n,λi H x H'=>H'=H/\x=.int (lo+i),λi _=>n<=i⟩
theorem wk{P:Program}{w:World}{K:PySem.W.Frag}{tg:Expr}(a it:Addr):Turn P w K tg (Qi K a) [it] it (λi h=>h.IsListIter it a i) where
 mem:=AAB
 obj:=λi h st b hb=>by
  have e:b=it:=by simpa using hb
  subst e;obtain⟨o,e,c,d⟩:=st;exact⟨o,e,λv z=>by rw[d]at z;cases z⟩
 keep:=λi h h' st k=>st.at λo e=>k it AAB o e
 item:=by
  intro X hP hw hK hc i AE s σ H E I hf st hg;subst hP hw hK;obtain⟨xs,x,hq,hx⟩:=hg;obtain⟨its,rv,p,hz⟩:=I.list hq;obtain⟨u,hu,ru⟩:=rv.get hx;obtain⟨f0,f1,f2,f3,f4,f5⟩:=hf it AAB;refine wpAny_pyNext_list_item st p.isList (x:=u) (by simpa using hu) λh' Gg sb=>?_;have I1:Inv X AE σ H { s with heap:=h' }:=I.turned (t':=s.toks) (λb o hb e=>(sb.2 b hb).trans e) f0 f1 f3 f4 f5;obtain⟨o,e,c,d⟩:=id Gg;exact⟨u,rfl,Xe (s:={ s with heap:=h' }) e c d AAC ⟨x,H,I1,ru,⟨rfl,λys hy=>by rw[I.mY hy hq];exact hx⟩,Gg,λb hb=>(hf b hb).1⟩⟩
 done:=by
  intro X hP hw hK hc i AE s σ H E I hf st hg;subst hP hw hK;obtain⟨xs,hq,hx⟩:=hg;obtain⟨its,rv,p,hz⟩:=I.list hq;obtain⟨f0,f1,f2,f3,f4,f5⟩:=hf it AAB;have hl:=rv.length;exact wpAny_pyNext_list_end (I.ok.hd hc) st p.isList (by simp;omega) λh' eb=>⟨rfl,I.turned (t':=s.toks) (λb o hb e=>eb b o hb e) f0 f1 f3 f4 f5⟩
 self:=λ_ _ _ _ _ st h=>wpAny_pyIter_listiter st h
theorem wm{P:Program}{w:World}{K:PySem.W.Frag}{tg:Expr}(it:Addr)(lo:Int)(n:Nat):Turn P w K tg (Lf lo n) [it] it (λi h=>IsRangeIter h it (lo+(i:Nat)*1) ((n:Int)-(i:Nat)) 1) where
 mem:=AAB
 obj:=λi h st b hb=>by
  have e:b=it:=by simpa using hb
  subst e;exact⟨_,st,λv z=>by
   have z':Data.fields _=Data.cell v:=z;cases z'⟩
 keep:=λi h h' st k=>k it AAB _ st
 item:=by
  intro X hP hw hK hc i AE s σ H E I hf st hg;subst hP hw hK;obtain⟨f0,f1,f2,f3,f4,f5⟩:=hf it AAB;have W:=Walks.range (prog:=X.prog) (w:=X.w) (I.ok.hd hc) it lo 1 n;refine W.item i s _ _ hg st λv h' tk hv Gg kk=>?_;obtain⟨t,rfl⟩:=hv;have I1:Inv X AE σ H { s with heap:=h',toks:=tk }:=I.turned (λb o hb e=>kk b o (by simpa using hb) e) f0 f1 f3 f4 f5;refine⟨_,rfl,Xe (s:={ s with heap:=h',toks:=tk }) (n:="range_iterator") Gg rfl rfl AAC ⟨.int<|lo+i,H,I1,⟨t,?_⟩,⟨rfl,rfl⟩,Gg,λb hb=>(hf b hb).1⟩⟩;rw[AEA]
 done:=by
  intro X hP hw hK hc i AE s σ H E I hf st hg;subst hP hw hK;obtain⟨f0,f1,f2,f3,f4,f5⟩:=hf it AAB;exact wpAny_pyNext_range_end (I.ok.hd hc) st (by have:n<=i:=hg;omega) λh' eb=>⟨rfl,I.turned (t':=s.toks) (λb o hb e=>eb b o hb e) f0 f1 f3 f4 f5⟩
 self:=λ_ _ _ _ _ st h=>wpAny_pyIter_rangeiter st h
section
variable{X:Cx}{tg:Expr}
def lQ(K:PySem.W.Frag)(tl:TE):TI:=λσ H R=>tl σ H λx H1=>∃a,x=.ref a/\(∃xs,CO K H1 a xs)/\R (Qi K a) H1
theorem pe{l:Expr}{tl:TE}(hl:PE X l tl):PI X tg l<|lQ X.K tl:=by
 intro AE s σ H R I h;refine Aj (hl AE s σ H _ I h) λv s1 ⟨x,H1,I1,r1,q1⟩=>?_;obtain⟨a,e,⟨xs,hq⟩,q⟩:=q1;subst e;cases r1;obtain⟨its,rv,p,hz⟩:=I1.list hq;refine wpAny_pyIter_list p.isList ?_;refine⟨s1.heap.objs.size,[s1.heap.objs.size],_,_,H1,rfl,I1.kept (t':=s1.toks) λb o e=>Heap.get?_push_of_some _ e,wk a _,⟨_,Heap.get?_push_size _ rfl,rfl,rfl⟩,λb hb=>?_,q⟩;have e:b=s1.heap.objs.size:=by simpa using hb
 subst e;exact I1.Rf (AAS _)<|I1.Ae.fresh<|AAS _
theorem aB{AE:List (Addr×Obj)}{σ:St}{H:Hp}{s:Shared}{R:It->Hp->Prop}{E:Value->Shared->Prop}{lo hi:Int}{t u v:Tok}{tk:Nat}(I:Inv X AE σ H s)(h1 : -(2 ^ 62)<=lo)(h2:lo<2 ^ 62)(h3 : -(2 ^ 62)<=hi)(h4:hi<2 ^ 62) (q:R (Lf lo (hi-lo).toNat) H):wpAny (model X.prog X.w) X.A (pyIter<|.ref s.heap.objs.size) (VN X AE σ tg R) E { s with heap:=s.heap.push { cls:=.type "range",data:=.fields #[.int lo t,.int hi u,.int 1 v] },toks:=tk }:=by
 refine wpAny_pyIter_range (IsRange.new ..) (small_one h1 h2 h3 h4) ?_;have I1:Inv X AE σ H { s with heap:=s.heap.push { cls:=.type "range",data:=.fields #[.int lo t,.int hi u,.int 1 v] },toks:=tk }:=I.kept λb o e=>Heap.get?_push_of_some _ e;refine⟨(s.heap.push { cls:=.type "range",data:=.fields #[.int lo t,.int hi u,.int 1 v] }).objs.size,[(s.heap.push { cls:=.type "range",data:=.fields #[.int lo t,.int hi u,.int 1 v] }).objs.size],_,_,H,rfl,I1.kept (t':=tk) λb o e=>Heap.get?_push_of_some _ e,wm _ lo (hi-lo).toNat,?_,λb hb=>?_,q⟩
 .have e1:lo+((0:Nat):Int)*1=lo:=AAB
  have e2:(((hi-lo).toNat:Nat):Int)-((0:Nat):Int)=Builtin.Range.rangeSize lo hi 1:=by rw[rangeSize_one];split<;>omega
  show IsRangeIter _ _ (lo+((0:Nat):Int)*1) ((((hi-lo).toNat:Nat):Int)-((0:Nat):Int)) 1;rw[e1,e2];exact Heap.get?_push_size _ rfl
 .have e:b=(s.heap.push { cls:=.type "range",data:=.fields #[.int lo t,.int hi u,.int 1 v] }).objs.size:=by simpa using hb
  subst e;exact I1.Rf (AAS _)<|I1.Ae.fresh<|AAS _
def lR(ta:TA):TI:=λσ H R=>ta σ H λvs H1=>∃j:Int,vs=[.int j]/\-(2 ^ 62)<=j/\j<2 ^ 62/\R (Lf 0 j.toNat) H1
def lS(ta:TA):TI:=λσ H R=>ta σ H λvs H1=>∃i j:Int,vs=[.int i,.int j]/\(-(2 ^ 62)<=i/\i<2 ^ 62/\-(2 ^ 62)<=j/\j<2 ^ 62)/\R (Lf i (j-i).toNat) H1
theorem pf{a:Expr}{ta:TA}{p pos:Pos}(hg:Gl X "range")(hm:X.mg "range" = none)(ha:PA X [a] ta)(hs:starEach [a] X.env=[(false,eval a X.env)]:=by rfl):PI X tg (.Call (.Name "range" p) [a] [] pos)<|lR ta:=by
 intro AE s σ H R I h;refine Call_<|Mg I hg hm boot_range<|ACb (Aj (ha pos AE s σ H _ I h) λus s1 ⟨vs,H1,I1,r1,q1⟩=>?_) hs rfl;obtain⟨j,e,q1,q2,q⟩:=q1;subst e;cases r1 with
 |cons r rr=>
  cases rr;obtain⟨t,rfl⟩:=r;exact call_range_1<|aB I1 AAA AAA q1 q2<|by simpa using q
theorem ph{a b:Expr}{ta:TA}{p pos:Pos}(hg:Gl X "range")(hm:X.mg "range" = none)(ha:PA X [a,b] ta)(hs:starEach [a,b] X.env=[(false,eval a X.env),(false,eval b X.env)]:=by rfl)(Oh:starEach [b] X.env=[(false,eval b X.env)]:=by rfl) : PI X tg (.Call (.Name "range" p) [a,b] [] pos)<|lS ta:=by
 intro AE s σ H R I h;refine Call_ (Mg I hg hm boot_range<|ACb (Aj (ha pos AE s σ H _ I h) λus s1 ⟨vs,H1,I1,r1,q1⟩=>?_) (by rw[hs,Oh]) (by rw[Oh];rfl));obtain⟨i,j,e,⟨q1,q2,q3,q4⟩,q⟩:=q1;subst e;cases r1 with
 |cons r rr=>
  cases rr with
  |cons r' rr=>
   cases rr;obtain⟨t,rfl⟩:=r;obtain⟨t',rfl⟩:=r';exact call_range_2<|aB I1 q1 q2 q3 q4 q
def vW(wi:TI)(g:TG)(tb:TS):TS:=λD σ H=>wi σ H λz7 H1=>∃W:Nat->Nat->St->Hp->Prop,(∃m,W 0 m σ H1)/\∀i m σ H,W i m σ H->
 (z7.stop i H/\D.nx σ H)\/(z7.go i H/\∃N:St->Hp->Prop,(∀AY H',N AY H'->∃m',m'<m/\W (i+1) m' AY H')/\∀x H',z7.QH i H x H'->g x σ H' λC6 H2=>tb { D with nx:=N,ct:=N,bk:=D.nx } C6 H2)
noncomputable def M1(fp:List Addr)(h:Heap):List<|Addr×Obj:=fp.filterMap λb=>(h.get? b).map λo=>(b,o)
theorem PF{fp:List Addr}{h:Heap}{b:Addr}{o:Obj}(hb:b∈fp)(e:h.get? b=some o):(b,o)∈M1 fp h:=ACo.mpr ⟨b,hb,by rw[e];rfl⟩
theorem nh{fp:List Addr}{h:Heap}{p:Addr×Obj}(hp:p∈M1 fp h):p.1∈fp/\h.get? p.1=some p.2:=by
 obtain⟨b,hb,e⟩:=ACo.mp hp;cases q:h.get? b with
 |none=>rw[q]at e;cases e
 |some o=>
  rw[q]at e;have e':(b,o)=p:=AAo e;subst e';exact⟨hb,q⟩
theorem Inv.pinned{AE:List (Addr×Obj)}{σ:St}{H:Hp}{s:Shared}{fp:List Addr}(I:Inv X AE σ H s)(hf:∀b∈fp,FR X AE H b)(ho:∀b∈fp,∃o,s.heap.get? b=some o/\∀v,o.data≠.cell v):Inv X (AE++M1 fp s.heap) σ H s:=
 I.Zp λp hp=>(AAp.mp hp).elim (λz=>I.pin p<|AA1 _ z) λz=>by
  obtain⟨hb,e⟩:=nh z;obtain⟨f0,f1,f2,_⟩:=hf p.1 hb;obtain⟨o,e',d⟩:=ho p.1 hb;rw[e]at e';cases e';exact⟨e,f0,f1,f2,d⟩
theorem Inv.QB{AE pl:List (Addr×Obj)}{σ:St}{H:Hp}{s:Shared}(I:Inv X (AE++pl) σ H s):Inv X AE σ H s:=I.Zp λp hp=>I.pin p<|AA1 _<|ABc _ hp
theorem qJ{iter:Expr}{body:List Stmt}{wi:TI}{g:TG}{tb:TS}{pos:Pos}(hp:PassesOwn (model X.prog X.w) X.A X.env X.xe)(hc:X.calm=true)(hi:PI X tg iter wi)(hg:PG X tg g)(hb:CV X body tb) (hs:∀x,foldedSetIterable iter X.env x=pure x:=by intro _;rfl):PS X (.For tg iter body [] pos)<|vW wi g tb:=by
 intro AE s σ H D I h;refine wpAny_For (Aj (hi AE s σ H _ I h) λv s1 h1=>Aj h1 λOw s2 h2=>?_) hs;obtain⟨it,fp,tn,z7,H2,e,I2,T,Iu,f2,W,⟨m0,w0⟩,turn⟩:=h2;subst e;have US:∀{H':Hp},(∀b∈fp,H' b=none)->∀b∈fp,FR X AE H' b:=λhn b hb=>⟨hn b hb,(f2 b hb).2⟩;refine codeAny_forLoop_any (λn s'=>∃i AY H',Inv X AE AY H' s'/\tn i s'.heap/\(∀b∈fp,H' b=none)/\W i n AY H') ?_ m0 ⟨0,σ,H2,I2,Iu,λb hb=>(f2 b hb).1,w0⟩;rintro n s3 ⟨i,D5,H3,I3,Ef,L6,w3⟩;rcases turn i n D5 H3 w3 with⟨stop,qn⟩|⟨go,N,hN,step⟩
 .refine wpAny_passesOwn hp<|Aj (T.done X rfl rfl rfl hc i AE s3 D5 H3 X.xe I3 (US L6) Ef stop) λr s4 ⟨hr,I4⟩=>?_;subst hr;exact wpAny_execs_nil ⟨D5,H3,I4,qn⟩
 .refine wpAny_passesOwn hp<|Aj (T.item X rfl rfl rfl hc i AE s3 D5 H3 X.xe I3 (US L6) Ef go) λr s4 ⟨u,hr,h4⟩=>?_;subst hr;refine wpAny_passesOwn hp<|Aj h4 λ_ s5 ⟨x,H5,I5,r5,y5,FP,Rg⟩=>?_;have Qg:=I5.pinned (US Rg)<|T.obj _ _ FP;refine wpAny_passesOwn hp<|Aj (hg _ s5 D5 H5 x u _ Qg r5<|step x H5 y5) λ_ s6 ⟨LS,H6,I6,q6⟩=>?_;refine wpAny_passesOwn hp<|Aj (hb _ s6 LS H6 _ I6 q6) λf s7 q7=>?_;have again:∀{F5:St}{H7:Hp},Inv X (AE++M1 fp s5.heap) F5 H7 s7->N F5 H7->∃m,m<n/\∃i AY H',Inv X AE AY H' s7/\tn i s7.heap/\(∀b∈fp,H' b=none)/\W i m AY H':=λ{F5 H7} I7 n7=>by
   obtain⟨m',hm,w7⟩:=hN F5 H7 n7;refine⟨m',hm,i+1,F5,H7,I7.QB,T.keep _ _ _ FP λb hb o e=>(I7.pin (b,o)<|AA1 _<|AA1 _<|PF hb e).1,λb hb=>?_,w7⟩;obtain⟨o,e,d⟩:=T.obj _ _ FP b hb;exact(I7.pin (b,o)<|AA1 _<|AA1 _<|PF hb e).2.1
  cases f with
  |next=>obtain⟨F5,H7,I7,n7⟩:=q7;exact again I7 n7
  |cont=>obtain⟨F5,H7,I7,n7⟩:=q7;exact again I7 n7
  |brk=>obtain⟨F5,H7,I7,q7⟩:=q7;exact⟨F5,H7,I7.QB,q7⟩
  |ret v=>obtain⟨x7,F5,H7,I7,r7,q7⟩:=q7;exact⟨x7,F5,H7,I7.QB,r7,q7⟩
end
abbrev R2:=V->V->Hp->VK->Prop
def Ba(X:Cx)(f:Value->Value->Sem Value)(r:R2):Prop:=
 ∀(AE:List<|Addr×Obj)(s:Shared)(σ:St)(H:Hp)(x y:V)(v u:Value)(Q:VK),Inv X AE σ H s->RelV x v->RelV y u->r x y H Q->wpAny (model X.prog X.w) X.A (f v u) (EP X AE σ Q) X.xe s
def Qq(X:Cx)(f:Value->Sem Value)(r:V->Hp->VK->Prop):Prop:=
 ∀(AE:List<|Addr×Obj)(s:Shared)(σ:St)(H:Hp)(x:V)(v:Value)(Q:VK),Inv X AE σ H s->RelV x v->r x H Q->wpAny (model X.prog X.w) X.A (f v) (EP X AE σ Q) X.xe s
def DT(X:Cx)(f:Value)(r:List V->Hp->VK->Prop):Prop:=
 ∀(AE:List<|Addr×Obj)(s:Shared)(σ:St)(H:Hp)(xs:List V)(us:List Value)(Q:VK),Inv X AE σ H s->An xs us->r xs H Q->wpAny (model X.prog X.w) X.A (call f us) (EP X AE σ Q) X.xe s
def NG(r:R2)(ta tb:TE):TE:=λσ H Q=>ta σ H λx H1=>tb σ H1 λy H2=>r x y H2 Q
def v3(r:V->Hp->VK->Prop)(ta:TE):TE:=λσ H Q=>ta σ H λx H1=>r x H1 Q
def rI(C:Int->Int->Prop)(g:Int->Int->V):R2:=λx y H Q=>∃i j,x=.int i/\y=.int j/\C i j/\Q (g i j) H
def Hf(g:Int->Int->V):R2:=λx y H Q=>∃i j,x=.int i/\y=.int j/\Q (g i j) H
def rU(g:Int->V):V->Hp->VK->Prop:=λx H Q=>∃i,x=.int i/\Q (g i) H
section
variable{X:Cx}{a b c:Expr}{ta tb tc:TE}{pos:Pos}
theorem Q3(ha:PE X a ta)(hb:PE X b tb){AE:List (Addr×Obj)}{s:Shared}{σ:St}{H:Hp}{R:V->V->Hp->Prop}(I:Inv X AE σ H s) (h:ta σ H λx H1=>tb σ H1 λy H2=>R x y H2) {Q:Value->Shared->Prop} {f:Value->Value->Sem Value}
 (hf:∀v u s2 x y H2,Inv X AE σ H2 s2->RelV x v->RelV y u->R x y H2->wpAny (model X.prog X.w) X.A (f v u) Q X.xe s2) :
 wpAny (model X.prog X.w) X.A (eval a X.env) (λv BJ=>wpAny (model X.prog X.w) X.A (eval b X.env) (λu F2=>wpAny (model X.prog X.w) X.A (f v u) Q X.xe F2) X.xe BJ) X.xe s:=by
 refine Aj (ha AE s σ H _ I h) λv s1 ⟨x,H1,I1,r1,q1⟩=>?_;refine Aj (hb AE s1 σ H1 _ I1 q1) λu s2 ⟨y,H2,I2,r2,q2⟩=>?_;exact hf v u s2 x y H2 I2 r1 r2 q2
theorem pR{op:Operator}{r:R2}(ho:Ba X (binaryOp op) r)(ha:PE X a ta)(hb:PE X b tb):PE X (.BinOp a op b pos)<|NG r ta tb:=by
 intro AE s σ H Q I h;exact wpAny_BinOp<|Q3 ha hb I h λv u s2 x y H2 I2 rx ry q=>ho AE s2 σ H2 x y v u Q I2 rx ry q
theorem Zo{op:UnaryOp}{r:V->Hp->VK->Prop}(ho:Qq X (unaryOp op) r)(ha:PE X a ta):PE X (.UnaryOp op a pos)<|v3 r ta:=by
 intro AE s σ H Q I h;exact UnaryOp_<|Aj (ha AE s σ H _ I h) λv s1 ⟨x,H1,I1,r1,q1⟩=>ho AE s1 σ H1 x v Q I1 r1 q1
theorem Th{f:Value->Value->Sem Value}{C:Int->Int->Prop}{g:Int->Int->Int} (rule:∀(i j:Int)(t u:Tok)(s:Shared)(Q:Value->Shared->Prop)(E:Value->Shared->Prop),C i j->Q (.int (g i j) s.toks) { s with toks:=s.toks+1 }->wpAny (model X.prog X.w) X.A (f (.int i t)<|.int j u) Q E s) : Ba X f<|rI C λi j=>.int<|g i j:=by
 intro AE s σ H x y v u Q I rx ry h;obtain⟨i,j,rfl,rfl,hc,q⟩:=h;obtain⟨t,rfl⟩:=rx;obtain⟨t',rfl⟩:=ry;exact rule i j t t' s _ _ hc ⟨.int<|g i j,H,I.tok _,⟨_,rfl⟩,q⟩
theorem ZV{f:Value->Value->Sem Value}{g:Int->Int->Int} (rule:∀(i j:Int)(t u:Tok)(s:Shared)(Q:Value->Shared->Prop)(E:Value->Shared->Prop),Q (.int (g i j) s.toks) { s with toks:=s.toks+1 }->wpAny (model X.prog X.w) X.A (f (.int i t)<|.int j u) Q E s) : Ba X f<|Hf λi j=>.int<|g i j:=by
 intro AE s σ H x y v u Q I rx ry h;obtain⟨i,j,rfl,rfl,q⟩:=h;obtain⟨t,rfl⟩:=rx;obtain⟨t',rfl⟩:=ry;exact rule i j t t' s _ _ ⟨.int<|g i j,H,I.tok _,⟨_,rfl⟩,q⟩
theorem Tg{f:Value->Value->Sem Value}{g:Int->Int->Bool} (rule:∀(i j:Int)(t u:Tok)(s:Shared)(Q:Value->Shared->Prop)(E:Value->Shared->Prop),Q (.bool<|g i j) s->wpAny (model X.prog X.w) X.A (f (.int i t)<|.int j u) Q E s) : Ba X f<|Hf λi j=>.bl<|g i j:=by
 intro AE s σ H x y v u Q I rx ry h;obtain⟨i,j,rfl,rfl,q⟩:=h;obtain⟨t,rfl⟩:=rx;obtain⟨t',rfl⟩:=ry;exact rule i j t t' s _ _ ⟨.bl<|g i j,H,I,rfl,q⟩
def LU(i j:Int):Prop:=0<j/\j<1073741824
def Ei(i j:Int):Prop:=(-(2 ^ 64)<i/\i<2 ^ 64)\/(-(2 ^ 64)<j/\j<2 ^ 64)
theorem Ei.ok{i j:Int}(h:Ei i j):IntMulOk i j:=by
 rcases h with⟨h1,h2⟩|⟨h1,h2⟩
 .exact .of_left<|intBits_le_64 h1 h2
 .exact .of_right<|intBits_le_64 h1 h2
theorem oC:Ba X (binaryOp .Add)<|Hf λi j=>.int<|i+j:=ZV λ_ _ _ _ _ _ _ q=>add_int q
theorem oU:Ba X (binaryOp .Sub)<|Hf λi j=>.int<|i-j:=ZV λ_ _ _ _ _ _ _ q=>sub_int q
theorem oP:Ba X (binaryOp .Mult)<|rI Ei λi j=>.int<|i*j:=Th λ_ _ _ _ _ _ _ hc q=>mul_int q hc.ok
theorem oF:Ba X (binaryOp .FloorDiv)<|rI LU λi j=>.int<|i / j:=Th λi j _ _ _ _ _ hc q=>by
 have h1:(0:Int)<j:=hc.1;have h2:j<1073741824:=hc.2;exact floordiv_int AAA (by rw[Int.fdiv_eq_ediv_of_nonneg i AAA];exact q)<|.inl<|PyProof.noPylong_small AAA
theorem oO:Ba X (binaryOp .Mod)<|rI (λ_ j=>0<j) λi j=>.int<|i%j:=Th λi j _ _ _ _ _ hc q=>by
 have h1:(0:Int)<j:=hc;exact mod_int' AAA (by rw[Int.fmod_eq_emod_of_nonneg i AAA];exact q)
theorem wu{f:Value->Sem Value}{g:Int->Int} (rule:∀(i:Int)(t:Tok)(s:Shared)(Q:Value->Shared->Prop)(E:Value->Shared->Prop),Q (.int (g i) s.toks) { s with toks:=s.toks+1 }->wpAny (model X.prog X.w) X.A (f<|.int i t) Q E s) : Qq X f<|rU λi=>.int<|g i:=by
 intro AE s σ H x v Q I rx h;obtain⟨i,rfl,q⟩:=h;obtain⟨t,rfl⟩:=rx;exact rule i t s _ _ ⟨.int<|g i,H,I.tok _,⟨_,rfl⟩,q⟩
theorem bX:Qq X (unaryOp .USub)<|rU λi=>.int (-i):=wu λ_ _ _ _ _ q=>neg_int q
end
section
variable{X:Cx}{a b c:Expr}{ta tb tc:TE}{pos:Pos}
theorem oM:Ba X (compareOp .Lt)<|Hf λi j=>.bl<|decide (i<j):=Tg λ_ _ _ _ _ _ _ q=>lt_int q
theorem oK:Ba X (compareOp .LtE)<|Hf λi j=>.bl<|decide (i<=j):=Tg λ_ _ _ _ _ _ _ q=>le_int q
theorem oH:Ba X (compareOp .Gt)<|Hf λi j=>.bl<|decide (j<i):=Tg λ_ _ _ _ _ _ _ q=>gt_int q
theorem Ba.or{f:Value->Value->Sem Value}{r r':R2}(h:Ba X f r)(h':Ba X f r'):Ba X f (λx y H Q=>r x y H Q\/r' x y H Q):=by
 intro AE s σ H x y v u Q I rx ry q;rcases q with q|q
 .exact h AE s σ H x y v u Q I rx ry q
 .exact h' AE s σ H x y v u Q I rx ry q
theorem ZK(b:Expr){op:CmpOp}(h:op≠.In:=by decide)(h2:op≠.NotIn:=by decide):behindInMarks op b=false:=by
 have e1:(op==CmpOp.In)=false:=by cases op<;>first|rfl|exact absurd rfl h
 have e2:(op==CmpOp.NotIn)=false:=by cases op<;>first|rfl|exact absurd rfl h2
 cases b<;>simp[behindInMarks,e1,e2]
theorem pI{op:CmpOp}{r:R2}(ho:Ba X (compareOp op) r)(ha:PE X a ta)(hb:PE X b tb)(hm:behindInMarks op b=false):PE X (.Compare a [op] [b] pos)<|NG r ta tb:=by
 intro AE s σ H Q I h;exact wpAny_Compare1 (Q3 ha hb I h λv u s2 x y H2 I2 rx ry q=>ho AE s2 σ H2 x y v u Q I2 rx ry q) hm
def Uj(t:TE):TT:=λσ H Q=>t σ H λx H'=>∃k,x=.bl k/\Q k H'
theorem qT{op:CmpOp}{r:R2}(ho:Ba X (compareOp op) r)(ha:PE X a ta)(hb:PE X b tb)(hm:behindInMarks op b=false):PT X (.Compare a [op] [b] pos)<|Uj<|NG r ta tb:=by
 intro AE s σ H Q I h;refine wpAny_isTrue_Compare1 (Aj (ha AE s σ H _ I h) λv s1 ⟨x,H1,I1,r1,q1⟩=>Aj (hb AE s1 σ H1 _ I1 q1) λu s2 ⟨y,H2,I2,r2,q2⟩=>
  Aj (ho AE s2 σ H2 x y v u _ I2 r1 r2 q2) λc s3 ⟨z,H3,I3,r3,k,e,q3⟩=>?_) hm
 subst e;cases r3;exact wpAny_truthy_bool ⟨H3,I3,q3⟩
def Ud(r r':R2)(ta tb tc:TE):TE:=λσ H Q=>ta σ H λx H1=>tb σ H1 λy H2=>r x y H2 λz H3=>∃k,z=.bl k/\
 (if k=true then tc σ H3 λw' H4=>r' y w' H4 Q else Q (.bl false) H3)
theorem pG{op B1:CmpOp}{r r':R2}(ho:Ba X (compareOp op) r)(Bz:Ba X (compareOp B1) r')(ha:PE X a ta)(hb:PE X b tb)(hc:PE X c tc) (hm:lastMarks [op,B1] [b,c]=false:=by with_unfolding_all rfl):PE X (.Compare a [op,B1] [b,c] pos)<|Ud r r' ta tb tc:=by
 intro AE s σ H Q I h;refine Compare_chain (Aj (ha AE s σ H _ I h) λv s1 ⟨x,H1,I1,r1,q1⟩=>chain_link (Aj (hb AE s1 σ H1 _ I1 q1) λu s2 ⟨y,H2,I2,r2,q2⟩=>
  Aj (ho AE s2 σ H2 x y v u _ I2 r1 r2 q2) λd s3 ⟨z,H3,I3,r3,k,e,q3⟩=>?_)) hm
 subst e;cases r3;refine wpAny_truthy_bool ?_;cases k with
 |false=>exact ite_ff ⟨.bl false,H3,I3,rfl,q3⟩
 |true=>exact ite_tt<|chain_last<|Aj (hc AE s3 σ H3 _ I3 q3) λw' s4 ⟨z',H4,I4,r4,q4⟩=>Bz AE s4 σ H4 y z' u w' Q I4 r2 r4 q4
theorem qR{op B1:CmpOp}{r r':R2}(ho:Ba X (compareOp op) r)(Bz:Ba X (compareOp B1) r')(ha:PE X a ta)(hb:PE X b tb)(hc:PE X c tc) (hm:lastMarks [op,B1] [b,c]=false:=by with_unfolding_all rfl):PT X (.Compare a [op,B1] [b,c] pos)<|Uj<|Ud r r' ta tb tc:=by
 intro AE s σ H Q I h;refine isTrue_chain (Aj (ha AE s σ H _ I h) λv s1 ⟨x,H1,I1,r1,q1⟩=>test_link (Aj (hb AE s1 σ H1 _ I1 q1) λu s2 ⟨y,H2,I2,r2,q2⟩=>
  Aj (ho AE s2 σ H2 x y v u _ I2 r1 r2 q2) λd s3 ⟨z,H3,I3,r3,k,e,q3⟩=>?_)) hm
 subst e;cases r3;refine wpAny_truthy_bool ?_;cases k with
 |false=>
  obtain⟨k',e',q'⟩:=q3;cases e';exact ite_ff ⟨H3,I3,q'⟩
 |true=>
  refine ite_tt<|test_last<|Aj (hc AE s3 σ H3 _ I3 q3) λw' s4 ⟨z',H4,I4,r4,q4⟩=>Aj (Bz AE s4 σ H4 y z' u w' _ I4 r2 r4 q4) λd' s5 ⟨z2,H5,I5,r5,k2,e2,q5⟩=>?_;subst e2;cases r5;exact wpAny_truthy_bool ⟨H5,I5,q5⟩
theorem O8:(sizeLine:Nat)<2 ^ 63:=by rw[sizeLine_eq];decide
theorem vals1{x:V}{us:List Value}(r:An [x] us):∃u,us=[u]/\RelV x u:=by
 cases r with
 |cons r1 r2=>cases r2;exact⟨_,rfl,r1⟩
theorem vals2{x y:V}{us:List Value}(r:An [x,y] us):∃u w',us=[u,w']/\RelV x u/\RelV y w':=by
 cases r with
 |cons r1 r2=>
  cases r2 with
  |cons r3 r4=>cases r4;exact⟨_,_,rfl,r1,r3⟩
theorem eY:DT X (.builtin "abs") (λxs H Q=>∃i,xs=[.int i]/\Q (.int (if i<0 then -i else i)) H):=by
 intro AE s σ H xs us Q I r h;obtain⟨i,rfl,q⟩:=h;obtain⟨u,rfl,t,rfl⟩:=vals1 r;exact call_abs_int λu tk=>⟨.int (if i<0 then -i else i),H,I.tok _,⟨_,rfl⟩,q⟩
theorem fG(hc:X.calm=true):DT X (.builtin "max") (λxs H Q=>∃i j,xs=[.int i,.int j]/\Q (.int (if j>i then j else i)) H):=by
 intro AE s σ H xs us Q I r h;obtain⟨i,j,rfl,q⟩:=h;obtain⟨u,w',rfl,⟨t,rfl⟩,⟨t',rfl⟩⟩:=vals2 r;refine max_two_ints (I.ok.hd hc) λh' tk k=>⟨_,H,I.kept k,?_,q⟩;by_cases hj:j>i
 .rw[AAH hj,AAH hj];exact⟨_,rfl⟩
 .rw[AAG hj,AAG hj];exact⟨_,rfl⟩
theorem fH(hc:X.calm=true):DT X (.builtin "min") (λxs H Q=>∃i j,xs=[.int i,.int j]/\Q (.int (if j<i then j else i)) H):=by
 intro AE s σ H xs us Q I r h;obtain⟨i,j,rfl,q⟩:=h;obtain⟨u,w',rfl,⟨t,rfl⟩,⟨t',rfl⟩⟩:=vals2 r;refine min_two_ints (I.ok.hd hc) λh' tk k=>⟨_,H,I.kept k,?_,q⟩;by_cases hj:j<i
 .rw[AAH hj,AAH hj];exact⟨_,rfl⟩
 .rw[AAG hj,AAG hj];exact⟨_,rfl⟩
end
structure Qk(h:Heap)(x dx C:Addr)(mA:Str->Option Value):Prop where
 obj:h.get? x=some (PySem.W.instObj C dx)
 ns:h.Ns1 dx mA
 ne:dx≠x
theorem mf{h:Heap}{dx:Addr}{mA:Str->Option Value}(n:h.Ns1 dx mA):∃od,h.get? dx=some od/\∀name,PySem.W.lookIn name od=some (mA name):=by
 obtain⟨o,es,ep,ho,hd,hk,_,hm⟩:=n;refine⟨o,ho,λname=>?_⟩;have e:=hm name;unfold nsFind findBy at e;rw[<-Array.find?_toList]at e;unfold PySem.W.lookIn;rw[hd];dsimp only;split
 .rename_i y q;rw[q]at e;exact ABy some e
 .rename_i q;rw[q]at e;have a:es.toList.any (·.refKey)=false:=by
   rw[ABp];intro y hy;obtain⟨z,t,R4⟩:=hk y<|Array.mem_toList_iff.mp hy;simp[DictEntry.refKey,R4]
  have a':¬ es.toList.any (·.refKey)=true:=by rw[a];exact ABO
  rw[AAG a'];exact ABy some e
theorem Qk.look{h:Heap}{x dx C:Addr}{mA:Str->Option Value}(I:Qk h x dx C mA):∃od,PySem.W.InstAt h x (PySem.W.instObj C dx) C (some od)/\∀name,PySem.W.lookIn name od=some (mA name):=
 let ⟨od,ho,hl⟩:=mf I.ns
 ⟨od,⟨I.obj,rfl,rfl,ho⟩,hl⟩
section
variable{prog:Program}{w:World}{A:Around}{E:Value->Shared->Prop}{s:Shared}{K:PySem.W.Frag}{x dx C f:Addr}{mA:Str->Option Value}{name:Str}{v:Value}
end
theorem FV.some_of{v:V}{o:Option Value}(r:FV (some v) o):∃u,o=some u/\RelV v u:=by
 cases o with
 |none=>exact(show False from r).elim
 |some u=>exact⟨u,rfl,r⟩
section
variable{P:Program}{w:World}{H H':Hp}{h h':Heap}{a C dx:Addr}{fs jB:List (Str×V)}
theorem lW(Ae:Bp P w H h)(e:H a=some (.ins C dx fs)):∃mA,Qk h a dx C mA/\(∀f,FV (fs.lookup f)<|mA f)/\PySem.Within mA (fs.map (·.1))/\fs.length<=1000/\H dx=some (.own a):=by
 obtain⟨d,z,ne,ob,mA,n,r,q⟩:=(show Bx P w H h a (.ins C dx fs)from Ae a _ e);exact⟨mA,⟨ob,n,ne⟩,r,q,z,d⟩
end
structure QK(K:PySem.W.Frag)(C:Addr):Prop where
 pg:PySem.W.plainGet K C Str.empty=true
 hd:PySem.W.hasDictIn K C=true
 po:PySem.W.plainOver K C=true
 sa:PySem.W.findIn K (.ref C) "__setattr__" = some (some<|.builtin "object.__setattr__")
theorem QK.get{K:PySem.W.Frag}{C:Addr}(c:QK K C)(f:Str):PySem.W.plainGet K C f=true:=c.pg
structure xX(K:PySem.W.Frag)(C:Addr)(f:Str)(v:V)(u:Value):Prop where
 at_:PySem.W.findIn K (.ref C) f=some (some u)
 rel:RelV v u
 get:PySem.W.specialIn K u "__get__" = some none
 cp:PySem.W.copiedNames.contains f=false
structure Meth(K:PySem.W.Frag)(C:Addr)(m:Str)(f:Addr):Prop where
 at_:PySem.W.findIn K (.ref C) m=some (some<|.ref f)
 fn:PySem.W.isFn K (.ref f)=true
 kp:PySem.W.keepIn K (.ref f)=true
section
variable{X:Cx}{AE:List (Addr×Obj)}{σ:St}{H:Hp}{s:Shared}{a C dx:Addr}{fs:List (Str×V)}{f:Str}{v:V}{A:Around}{E:Value->Shared->Prop}
end
section
variable{X:Cx}{o e value:Expr}{f:Str}{pos pos' J6:Pos}{ta tv:TE}
end
section
variable{X:Cx}{AE:List (Addr×Obj)}{σ:St}{H:Hp}{s:Shared}{A:Around}{E:Value->Shared->Prop}{Q:Value->Shared->Prop}{c:Value}{b:Bool}
inductive El(K:PySem.W.Frag)(H:Hp):V->Value->Prop where
 |A4:El K H .A4<|.type "NoneType"
 |bl (x:Bool):El K H (.bl x)<|.type "bool"
 |int (i:Int):El K H (.int i)<|.type "int"
 |str (x:Str):El K H (.str x)<|.type "str"
 |Kh (x:UInt64):El K H (.Kh x)<|.type "float"
 |lst {a:Addr} {xs:List V} (e:H a=some (.lst xs)):El K H (.ref a)<|.type "list"
 |Dz {a:Addr} {o:Obj} {xs:List V} (e:H a=some (.Dz o<|.lst xs)):El K H (.ref a)<|.type "list"
 |tup {a:Addr} {xs:List V} (e:H a=some (.tup xs)):El K H (.ref a)<|.type "tuple"
 |dK {a:Addr} {AR:List (Key×V)} (e:H a=some (.dK AR)):El K H (.ref a)<|.type "dict"
 |dT {a:Addr} {AR:List (List Key×V)} (e:H a=some (.dT AR)):El K H (.ref a)<|.type "dict"
 |ins {a C dx:Addr} {fs:List (Str×V)} (e:H a=some (.ins C dx fs)) (cl:QK K C) (ha:PySem.W.findIn K (.ref C) "__class__" = some (some<|.builtin "object.__class__")) (hn:PySem.W.specialIn K (.builtin "object.__class__") "__get__" = some (some<|.builtin "getset_descriptor.__get__")) (Kt:PySem.W.takesIn K (.builtin "object.__class__")=some true) (hm:PySem.W.mroIn K C (.type "object")=some true):El K H (.ref a)<|.ref C
theorem lg{x:V}{u t:Value}(I:Inv X AE σ H s)(rx:RelV x u)(ty:El X.K H x t)(e:PySem.W.kitOne X.K t c=some b)(h:∀tk,Q (.bool b) { s with toks:=tk }) : wpAny (model X.prog X.w) A (call (.builtin "isinstance") [u,c]) Q E s:=by
 cases ty with
 |A4=>cases (show u=Value.none from rx);exact ABY PySem.W.kitx_none I.BB True.intro e (λz=>nomatch z) h
 |bl y=>cases (show u=Value.bool y from rx);exact ABY PySem.W.kitx_bool I.BB True.intro e (λz=>nomatch z) h
 |int i=>obtain⟨t,q⟩:=(show ∃t,u=Value.int i t from rx);cases q;exact ABY PySem.W.kitx_int I.BB True.intro e (λz=>nomatch z) h
 |str y=>obtain⟨t,q⟩:=(show ∃t,u=Value.str y t from rx);cases q;exact ABY PySem.W.kitx_str I.BB True.intro e (λz=>nomatch z) h
 |Kh y=>obtain⟨t,q⟩:=(show ∃t,u=Value.float y t from rx);cases q;exact ABY PySem.W.kitx_float I.BB True.intro e (λz=>nomatch z) h
 |@lst a xs ea=>
  cases (show u=Value.ref a from rx);obtain⟨_,_,n,_,h1⟩:=(show Bx X.prog X.w H s.heap a (.lst xs)from I.Ae a _ ea);exact ABY PySem.W.kitx_list I.BB ⟨_,h1,rfl⟩ e (λz=>nomatch z) h
 |@Dz a ob xs ea=>
  cases (show u=Value.ref a from rx);obtain⟨_,_,_,n,_,h1⟩:=(show Bx X.prog X.w H s.heap a (.Dz ob<|.lst xs)from I.Ae a _ ea);exact ABY PySem.W.kitx_list I.BB ⟨_,h1,rfl⟩ e (λz=>nomatch z) h
 |@tup a xs ea=>
  cases (show u=Value.ref a from rx);obtain⟨_,_,_,p⟩:=(show Bx X.prog X.w H s.heap a (.tup xs)from I.Ae a _ ea);obtain⟨o,h1,h2,_⟩:=p;exact ABY PySem.W.kitx_tuple I.BB ⟨o,h1,h2⟩ e (λz=>nomatch z) h
 |@dK a AR ea=>
  cases (show u=Value.ref a from rx);obtain⟨_,_,vs,_,p⟩:=(show Bx X.prog X.w H s.heap a (.dK AR)from I.Ae a _ ea);obtain⟨o,es,ep,h1,h2,_⟩:=p;exact ABY PySem.W.kitx_dict I.BB ⟨o,h1,h2.1⟩ e (λz=>nomatch z) h
 |@dT a AR ea=>
  cases (show u=Value.ref a from rx);obtain⟨_,_,xs,_,o,es,ep,h1,h2,_⟩:=(show Bx X.prog X.w H s.heap a (.dT AR)from I.Ae a _ ea);exact ABY PySem.W.kitx_dict I.BB ⟨o,h1,h2.1⟩ e (λz=>nomatch z) h
 |@ins a C dx fs ea cl ha hn Kt hm=>
  cases (show u=Value.ref a from rx);obtain⟨mA,O,_⟩:=lW I.Ae ea;obtain⟨od,z7,_⟩:=O.look;exact ABY (PySem.W.kitx_own (cl.get _) cl.hd ha hn Kt hm) I.BB z7 e (λz=>nomatch z) h
end
structure B4(k:Nat)(A:Around):Prop where
 hd:A.handled=none
 dp:A.depth+3*k+5<recursionLimit
 un:A.units+16*k+200<cLine
theorem B4.mono{j k:Nat}{A:Around}(r:B4 k A)(h:j<=k):B4 j A:=⟨r.hd,by have:=r.dp;omega,by have:=r.un;omega⟩
theorem B4.deeper{k:Nat}{A:Around}(r:B4 (k+1) A)(env:Env):B4 k<|A.deeper env:=
 ⟨r.hd,by have:=r.dp;show A.depth+1+3*k+5<_;omega,by have:=r.un;show A.units+3+16*k+200<_;omega⟩
theorem B4.depth{k:Nat}{A:Around}(r:B4 k A):A.depth<recursionLimit:=by have:=r.dp;omega
theorem B4.units{k:Nat}{A:Around}(r:B4 k A):A.units+64<cLine:=by have:=r.un;omega
def vf:TA:=λ_ H Q=>Q [] H
def vT(ta:TE)(tr:TA):TA:=λσ H Q=>ta σ H λx H1=>tr σ H1 λxs H2=>Q (x::xs) H2
section
variable{X:Cx}{e:Expr}{es:List Expr}{te:TE}{t:TA}{pos:Pos}
theorem Hd:PA X [] vf:=λ_ _ _ _ H Q I h=>Calls.spliced_nil ⟨[],H,I,.nil,h⟩
theorem Fv(ha:PE X e te)(hr:PA X es t)(hs:starEach (e::es) X.env=(false,eval e X.env)::starEach es X.env:=by rfl):PA X (e::es)<|vT te t:=by
 intro pos AE s σ H Q I h;rw[hs];show wpAny _ _ (spliced ((false,eval e X.env)::backTo pos (starEach es X.env))) _ _ s;refine Calls.spliced_cons<|Aj (ha AE s σ H _ I h) λu s1 ⟨x,H1,I1,r1,q1⟩=>?_;exact Aj (hr pos AE s1 σ H1 _ I1 q1) λus s2 ⟨xs,H2,I2,r2,q2⟩=>⟨x::xs,H2,I2,.cons r1 r2,q2⟩
def vz(t:TA):TE:=λσ H Q=>t σ H λxs H1=>xs.length<=sizeLine/\∀p,H1 p=none->Q (.ref p) (upd H1 p<|.tup xs)
def vZ(t:TA):TE:=λσ H Q=>t σ H λxs H1=>xs.length<=sizeLine/\∀p,H1 p=none->Q (.ref p) (upd H1 p<|.lst xs)
theorem Tt{x1}(h:PA X es t):PE X (.Tuple es x1 pos)<|vz t:=by
 intro AE s σ H Q I hq;refine wpAny_Tuple_spliced (Aj (h pos AE s σ H _ I hq) λus s1 ⟨xs,H1,I1,r,z,q⟩=>⟨by rw[<-r.length];exact z,?_⟩);have hf:H1 s1.heap.objs.size=none:=I1.Ae.fresh<|AAS _;refine⟨.ref s1.heap.objs.size,upd H1 s1.heap.objs.size<|.tup xs,I1.laid (t':=s1.toks) (λb u e=>Heap.get?_push_of_some _ e) (AAS _) ?_,rfl,q _ hf⟩;exact⟨z,us,r,⟨_,Heap.get?_push_size _ rfl,rfl,_,rfl⟩⟩
theorem pO(h:PA X es t):PE X (.List es pos)<|vZ t:=by
 intro AE s σ H Q I hq;refine wpAny_List_spliced (Aj (h pos AE s σ H _ I hq) λus s1 ⟨xs,H1,I1,r,z,q⟩=>⟨by rw[<-r.length];exact z,?_⟩);have hf:H1 s1.heap.objs.size=none:=I1.Ae.fresh<|AAS _;refine⟨.ref s1.heap.objs.size,upd H1 s1.heap.objs.size<|.lst xs,I1.laid (t':=s1.toks) (λb u e=>Heap.get?_push_of_some _ e) (AAS _) ?_,rfl,q _ hf⟩;exact⟨z,us,0,r,Heap.get?_push_size _ rfl⟩
end
abbrev Sp:=List V->Hp->VK->XK->Prop
abbrev D6:=List Env->Hp->Shared->XK->Value->Shared->Prop
structure JG(P:Program)(w:World)(K:PySem.W.Frag)(mg:Str->Option Value)(base:Heap)(A:Around)(outer:List Env)(s:Shared)(H:Hp):Prop where
 frames:A.frames=some outer
 mod:Mod K mg base
 bs:∀b o,base.get? b=some o->s.heap.get? b=some o/\H b=none
 Em:base.objs.size<=s.heap.objs.size
 Di:s.heap.FunFrames base outer
 Ff:∀b∈Cm outer,H b=none
 Ae:Bp P w H s.heap
 bare:AllBare s.gens
def CE(outer:List Env)(P:Program)(w:World)(H:Hp)(s:Shared)(Q:VK)(u:Value)(s':Shared):Prop:=
 ∃v H',s'.os=s.os/\AllBare s'.gens/\Un (Cm outer) [] H H' s.heap s'.heap/\Bp P w H' s'.heap/\RelV v u/\Q v H'
def CR(CX:D6)(outer:List Env)(P:Program)(w:World)(H:Hp)(s:Shared)(Q:VK)(E:XK)(r:Result)(s':Shared):Prop:=
 match r with
 |.ok (.ret u)=>CE outer P w H s Q u s'
 |.ok _=>False
 |.error e=>CX outer H s E e s'
structure Co(P:Program)(w:World)(K:PySem.W.Frag)(mg:Str->Option Value)(base:Heap)(CX:D6)(k:Nat)(f:Addr)(fd:FuncData)(ps:List Str)(sp:Sp):Prop where
 len:∀vs H Q E,sp vs H Q E->vs.length=ps.length
 run:∀(A:Around)(outer:List Env)(s:Shared)(H:Hp)(args:Args)(us:List Value)(vs:List V)(Q:VK)(E:XK),B4 k A->JG P w K mg base A outer s H->BindsTo s fd args (ps.zip us)->An vs us->sp vs H Q E->codeAny (model P w) A (.call (.ref f) args) (CR CX outer P w H s Q E) s
theorem Co.mono{P:Program}{w:World}{K:PySem.W.Frag}{mg:Str->Option Value}{base:Heap}{CX:D6}{j k:Nat}{f:Addr}{fd:FuncData}{ps:List Str}{sp:Sp}(F:Co P w K mg base CX j f fd ps sp)(h:j<=k) : Co P w K mg base CX k f fd ps sp:=⟨F.len,λA outer s H args us vs Q E hr=>F.run A outer s H args us vs Q E<|hr.mono h⟩
theorem Co.imp{P:Program}{w:World}{K:PySem.W.Frag}{mg:Str->Option Value}{base:Heap}{CX:D6}{k:Nat}{f:Addr}{fd:FuncData}{ps:List Str}{sp aZ:Sp}(F:Co P w K mg base CX k f fd ps sp) (h:∀vs H Q E,aZ vs H Q E->sp vs H Q E):Co P w K mg base CX k f fd ps aZ:=
 ⟨λvs H Q E q=>F.len vs H Q E<|h _ _ _ _ q,λA outer s H args us vs Q E hr he hb hv hs=>F.run A outer s H args us vs Q E hr he hb hv<|h _ _ _ _ hs⟩
section
variable{X:Cx}{AE:List (Addr×Obj)}{σ:St}{H:Hp}{s s':Shared}
theorem Inv.Wv(I:Inv X AE σ H s):JG X.prog X.w X.K X.mg X.base X.A X.stack s H:=
 ⟨I.ok.frames,I.ok.mod,I.bs,ABF I.ok.Em I.sz,I.stack,I.UU,I.Ae,I.bare⟩
theorem Inv.after{Q:VK}{u:Value}(I:Inv X AE σ H s)(h:CE X.stack X.prog X.w H s Q u s'):EP X AE σ Q u s':=by
 obtain⟨v,H',os,bare,un,Ae,r,q⟩:=h;obtain⟨hh,g,d,t,ot⟩:=s';obtain rfl:ot=s.os:=os;exact⟨v,H',I.call (h':=hh) (g':=g) (d':=d) (t':=t) (ch:=[]) un Ae bare λb z=>absurd z AAB,r,q⟩
end
def vR(sp:Sp)(ID:List V)(E:XK)(t:TA):TE:=λσ H Q=>t σ H λvs H1=>sp (vs++ID) H1 Q E
def Binds(K:PySem.W.Frag)(fd:FuncData)(ps:List Str)(ds:List Value):Prop:=
 ∀(s:Shared)(us:List Value),K.In s.heap->(us++ds).length=ps.length->BindsTo s fd ⟨us,[]⟩ (ps.zip<|us++ds)
theorem Binds.all{K:PySem.W.Frag}{fd:FuncData}{ps:List Str}(h:∀us:List Value,us.length=ps.length->bindArgs fd ⟨us,[]⟩=pure (ps.zip us)):Binds K fd ps []:=λs us _ hl=>by
 rw[AB7]at hl ⊢;exact .of_eq<|h us hl
def Passes(CX:D6)(X:Cx)(E:XK):Prop:=∀(AE:List<|Addr×Obj)(σ:St)(H:Hp)(s:Shared)(e:Value)(s':Shared),Inv X AE σ H s->CX X.stack H s E e s'->X.xe e s'
section
variable{X:Cx}{CX:D6}{k:Nat}{f C:Addr}{fd:FuncData}{ps:List Str}{sp:Sp}{ID:List V}{ds:List Value}{E:XK}{x m:Str}{p pos apos:Pos}{e o:Expr}{es:List Expr}{ta:TE}{t:TA}
theorem uX{AE:List (Addr×Obj)}{σ:St}{H:Hp}{s:Shared}{Q:VK}{us:List Value}{vs:List V}(F:Co X.prog X.w X.K X.mg X.base CX k f fd ps sp)(hr:B4 k X.A)(hb:Binds X.K fd ps ds)(hd:An ID ds)(hx:Passes CX X E) (I:Inv X AE σ H s) (r:An vs us) (h:sp (vs++ID) H Q E):wpAny (model X.prog X.w) X.A (call (.ref f) us) (EP X AE σ Q) X.xe s:=by
 have r2:An (vs++ID)<|us++ds:=r.append hd;have hl:(us++ds).length=ps.length:=by rw[<-r2.length];exact F.len _ _ _ _ h
 refine wpAny_call<|codeAny_mono (F.run X.A X.stack s H ⟨us,[]⟩ (us++ds) (vs++ID) Q E hr I.Wv (hb s us I.BB hl) r2 h) λr s' hq=>?_;cases r with
 |error e=>exact hx AE σ H s e s' I hq
 |ok fl=>
  cases fl with
  |ret u=>exact I.after hq
  |next=>exact False.elim hq
  |brk=>exact False.elim hq
  |cont=>exact False.elim hq
theorem Zk(F:Co X.prog X.w X.K X.mg X.base CX k f fd ps sp)(hr:B4 k X.A)(hg:Gl X x)(hm:X.mg x=some (.ref f))(hk:PySem.W.keepIn X.K (.ref f)=true)(hb:Binds X.K fd ps ds)(hd:An ID ds)(hx:Passes CX X E) (ha:PA X (e::es) t) (Ca:(x==("__debug__" : Str))=false:=by decide) (he:starEach (e::es) X.env=(false,eval e X.env)::starEach es X.env:=by rfl) (BM:(backTo pos<|starEach es X.env).any (·.1)=false:=by rfl) : PE X (.Call (.Name x p) (e::es) [] pos)<|vR sp ID E t:=by
 intro AE s σ H Q I h;refine wpAny_Call_Name_kw<|Mh I hg hm ?_ Ca;refine PySem.W.callWith_K (h₀:=X.base) I.ok.mod.Me hk (Aj (ha pos AE s σ H _ I h) λus s1 ⟨vs,H1,I1,r,q⟩=>⟨I1.BB,?_⟩) he BM;exact uX F hr hb hd hx I1 r q
structure Mk(K:PySem.W.Frag)(C f:Addr):Prop where
 makes:PySem.W.makesIn K C=true
 init:PySem.W.findIn K (.ref C) "__init__" = some (some<|.ref f)
 fn:PySem.W.isFn K (.ref f)=true
 kp:PySem.W.keepIn K (.ref C)=true
end
section
variable{X:Cx}{CX:D6}{k:Nat}{f C:Addr}{fd:FuncData}{ps ks:List Str}{sp:Sp}{E:XK}{x m:Str}{p pos apos zb:Pos}{e o:Expr}{es:List Expr}{zc:List Keyword}{te ta:TE}{t tk:TA}{nm:Option Str}
structure xY(K:PySem.W.Frag)(fd:FuncData)(ps ks:List Str)(g:List Value->List Value->List Value)(gV:List V->List V->List V):Prop where
 to:∀(s:Shared)(us ws:List Value),K.In s.heap->(g us ws).length=ps.length->BindsTo s fd ⟨us,ks.zip ws⟩ (ps.zip<|g us ws)
 rel:∀{vs:List V}{us:List Value}{zs:List V}{ws:List Value},An vs us->An zs ws->An (gV vs zs) (g us ws)
variable{g:List Value->List Value->List Value}{gV:List V->List V->List V}
end
structure Gp(N P:List Str)(sc:Scope):Prop where
 kind:sc.kind=.function
 co:sc.isCoroutine=false
 gen:sc.isGenerator=false
 nd:N.Nodup
 pre:N.take P.length=P
 par:∀x∈P,sc.names.lookup x=some .local\/sc.names.lookup x=some .cell
 nQ:∀y∈sc.names,y.2≠.free
theorem Vi{kindOf:Str->Option NameKind}{x:Str}:∀{binds:List (Str×Value)}{m:Str->Option Value},(∀v,(x,v)∉binds)->bindL kindOf binds m x=m x
 |[],_,_=>rfl
 |(n,v)::r,m,h=>by
  unfold bindL;rw[Vi λw hw=>h w<|AAX _ hw];split
  .have:x≠n:=by rintro rfl;exact h v AAf
   simp[this]
  .rfl
theorem Vg{kindOf:Str->Option NameKind}{x:Str}:∀{binds:List (Str×Value)}{m:Str->Option Value},(∀v,(x,v)∉binds)->bindC kindOf binds m x=m x
 |[],_,_=>rfl
 |(n,v)::r,m,h=>by
  unfold bindC;rw[Vg λw hw=>h w<|AAX _ hw];split
  .rfl
  .have:x≠n:=by rintro rfl;exact h v AAf
   simp[this]
theorem Vh{kindOf:Str->Option NameKind}{x:Str}{v:Value}:∀{P:List Str}{vs:List Value}{i:Nat}{m:Str->Option Value},P.Nodup->P[i]? = some x->vs[i]? = some v->kindOf x=some .local->bindL kindOf (P.zip vs) m x=some v
 |[],_,_,_,_,h,_,_=>by simp at h
 |_::_,[],_,_,_,_,h,_=>by simp at h
 |p::P,w::vs,0,m,nd,h1,h2,hk=>by
  simp at h1 h2;subst h1;subst h2;show bindL kindOf ((p,w)::P.zip vs) m p=_;unfold bindL;rw[Vi λv hv=>(ABz.mp nd).1 (AC8 hv).1,AAH hk];simp
 |p::P,w::vs,i+1,m,nd,h1,h2,hk=>by
  show bindL kindOf ((p,w)::P.zip vs) m x=_;unfold bindL;exact Vh (i:=i) (ABz.mp nd).2 (by simpa using h1) (by simpa using h2) hk
theorem Vf{kindOf:Str->Option NameKind}{x:Str}{v:Value}:∀{P:List Str}{vs:List Value}{i:Nat}{m:Str->Option Value},P.Nodup->P[i]? = some x->vs[i]? = some v->kindOf x≠some .local->bindC kindOf (P.zip vs) m x=some v
 |[],_,_,_,_,h,_,_=>by simp at h
 |_::_,[],_,_,_,_,h,_=>by simp at h
 |p::P,w::vs,0,m,nd,h1,h2,hk=>by
  simp at h1 h2;subst h1;subst h2;show bindC kindOf ((p,w)::P.zip vs) m p=_;unfold bindC;rw[Vg λv hv=>(ABz.mp nd).1 (AC8 hv).1,AAG hk];simp
 |p::P,w::vs,i+1,m,nd,h1,h2,hk=>by
  show bindC kindOf ((p,w)::P.zip vs) m x=_;unfold bindC;exact Vf (i:=i) (ABz.mp nd).2 (by simpa using h1) (by simpa using h2) hk
noncomputable def start(N:List Str)(vs:List V):St:=vs.map some++List.replicate (N.length-vs.length) none
noncomputable def Fb(CX:D6)(P:Program)(w:World)(K:PySem.W.Frag)(mg:Str->Option Value)(base:Heap)(N:List Str)(qual:Str)(scope:Scope)(f:Addr)(cd:Value)(A:Around)(outer:List Env)(s:Shared)(H:Hp)(E:XK):Cx where
 prog:=P
 w:=w
 K:=K
 mg:=mg
 base:=base
 A:=A.deeper<|envOfC qual scope s.heap.objs.size f cd
 N:=N
 B2:=s
 AS:=H
 env:=envOfC qual scope s.heap.objs.size f cd
 outer:=outer
 stack:=envOfC qual scope s.heap.objs.size f cd::outer
 ex:=[]
 calm:=true
 fn:=λ_=>true
 pn:=[]
 xe:=λe s'=>wpAny (model P w) (A.deeper<|envOfC qual scope s.heap.objs.size f cd) (leaving (envOfC qual scope s.heap.objs.size f cd) e) (λ_ Ir=>CX outer H s E e Ir) (λe' Ir=>CX outer H s E e' Ir) s'
theorem Nt{sc:Scope}{n:Nat}{x:Str}(h:sc.names.lookup x=some .cell):∃c,(cellsFrom n sc.names []).lookup x=some c:=by
 have q:=ACz sc.names n []<|.inl h;exact Option.isSome_iff_exists.mp q
theorem YX{CX:D6}{P:Program}{w:World}{K:PySem.W.Frag}{mg:Str->Option Value}{base:Heap}{N ps:List Str}{qual:Str}{scope:Scope}{f:Addr}{cd:Value}{A:Around}{outer:List Env}{s s1:Shared}{H:Hp}{E:XK}{us:List Value}{vs:List V} (S:Gp N ps scope) (hd:A.handled=none) (e0:JG P w K mg base A outer s H) (hl:vs.length=ps.length) (r:An vs us) (x:InCallC s s.heap.objs.size (bindL (envOfC qual scope s.heap.objs.size f cd).kindOf (ps.zip us) λ_=>none) (cellsFrom (s.heap.objs.size+1) scope.names []) (bindC (envOfC qual scope s.heap.objs.size f cd).kindOf (ps.zip us) λ_=>none) s1) :
 Inv (Fb CX P w K mg base N qual scope f cd A outer s H E) [] (start N vs) H s1:=by
 have BM:ps.length<=N.length:=by have:=ABy List.length S.pre;rw[ABd]at this;omega
 obtain⟨h1,tk,rfl,hk⟩:=x.done;have Ms:∀b:Addr,b∉(Fb CX P w K mg base N qual scope f cd A outer s H E).ex:=λb z=>absurd (show b∈([]:List Addr)from z) AAB;refine⟨⟨e0.mod,S.kind,rfl,rfl,AAS _,λy z c h1 h2=>?_,λy hy=>?_,λy c _ h=>?_,λ_=>hd,Around.frames_deeper e0.frames,.inr ⟨rfl,rfl⟩,λb z=>absurd z (Ms b),e0.bs,e0.Em,λb _ _=>Ms b,λb z=>absurd z (Ms b),e0.Di,e0.Ff⟩,
  rfl,e0.bare,Un.kept hk,⟨_,x.toInCall.ns,λi y v h1 h2 h3=>?_⟩,λy c h=>⟨_,x.cell y c h⟩,e0.Ae.fresh<|AAS _,λy c h=>?_,λp hp=>absurd (show p∈([]:List<|Addr×Obj)from hp) AAB,e0.Ae.kept hk,?_⟩
 .exact name_of_addr x.apart (AA8 h1)<|AA8 h2
 .have hy:scope.names.lookup y=some .cell\/scope.names.lookup y=some .free:=hy;rcases hy with hy|hy
  .exact Nt hy
  .exact absurd rfl (S.nQ _<|AA8 hy)
 .exact ACF<|x.above y c<|AA8 h
 .have hi:i<vs.length:=by
   unfold start at h2;by_cases hi:i<vs.length
   .exact hi
   .rw[AAs<|by simpa using hi]at h2;rw[ABA]at h2;split at h2<;>cases h2
  have ha:vs[i]? = some v:=by
   unfold start at h2;rw[AAq (by simpa using hi),ABK]at h2;cases e:vs[i]? with
   |none=>rw[e]at h2;cases h2
   |some a=>rw[e]at h2;cases h2;rfl
  obtain⟨u,hu,rv⟩:=r.get ha;have hp:ps[i]? = some y:=by
   rw[<-S.pre,ADO AAA];exact h1
  have ZE:ps.Nodup:=by rw[<-S.pre];exact S.nd.sublist<|ADJ _ _
  refine⟨u,rv,?_⟩;rcases S.par y (ABP hp)with k|k
  .exact .inl ⟨k,Vh ZE hp hu k⟩
  .obtain⟨c,e⟩:=Nt (n:=s.heap.objs.size+1) k;refine .inr ⟨.inl k,c,e,?_⟩;have q:=x.cell y c e;rw[Vf ZE hp hu (by show scope.names.lookup y≠_;rw[k];decide)]at q;exact q
 .exact e0.Ae.fresh<|ACF<|x.above y c<|AA8 h
 .unfold start;show _=N.length;rw[AAn,AAO,ABk];omega
theorem XS{CX:D6}{P:Program}{w:World}{K:PySem.W.Frag}{mg:Str->Option Value}{base:Heap}{k:Nat}{f:Addr}{name qual:Str}{params:Arguments}{body:List Stmt}{scope:Scope}{dV kV doc pm A1 ct oc:Value}{an od:Option Addr} {Fu:Array (Option Value)} {N ps:List Str} {sp:Sp} (lk:K.lookup f=some ⟨oc,od,.func<|PySem.W.fnOf name qual params body scope dV kV doc pm an A1 ct,Fu⟩) (BI:PySem.W.codeIn K A1 qual=true) (S:Gp N ps scope) (len:∀vs H Q E,sp vs H Q E->vs.length=ps.length) (Fh:∀(A:Around)(outer:List Env)(s:Shared)(H:Hp)(vs:List V)(Q:VK)(E:XK),B4 k (A.deeper<|envOfC qual scope s.heap.objs.size f A1)->sp vs H Q E->
  ∃t,CV (Fb CX P w K mg base N qual scope f A1 A outer s H E) body t/\t { nx:=λ_ H'=>Q .A4 H',rt:=Q } (start N vs) H) :
 Co P w K mg base CX (k+1) f (PySem.W.fnOf name qual params body scope dV kV doc pm an A1 ct) ps sp:=by
 refine⟨len,λA outer s H args us vs Q E hr e0 hb r EE=>?_⟩;have hl:=len _ _ _ _ EE;have KX:K.In s.heap:=e0.mod.Me.keeps λb o e=>(e0.bs b o e).1;have lim:s.heap.NoLimit:=e0.mod.nolimit.keeps λb o e=>(e0.bs b o e).1;have R5:∀y∈ps.zip us,scope.names.lookup y.1=some .local\/(scope.names.lookup y.1=some .cell/\((cellsFrom (s.heap.objs.size+1) scope.names []).lookup y.1).isSome=true):=λ⟨n,v⟩ hy=>by
  rcases S.par n (AC8 hy).1 with q|q
  .exact .inl q
  .exact .inr ⟨q,ACz _ _ _<|.inl q⟩
 refine codeAny_call_function hr.depth (KX _ _ lk) rfl S.co S.gen rfl (PySem.W.codeRec_of KX BI)<|hb _ _ _ _ ?_;refine wpAny_newFunctionEnv_cells S.kind R5 λenv he s1 x=>?_;subst he;refine⟨lim.keeps x.toInCall.keep,codeAny_func ?_⟩;obtain⟨t,ht,hq⟩:=Fh A outer s H vs Q E (hr.deeper _) EE;have I:Inv (Fb CX P w K mg base N qual scope f A1 A outer s H E) [] (start N vs) H s1:=YX S hr.hd e0 hl r x;refine wpAny_mono (ht [] s1 (start N vs) H _ I hq) (λfl s' hs=>?_) λe s' hs=>hs;have fin:∀{AY:St}{H':Hp}{v:V}{u:Value},Inv (Fb CX P w K mg base N qual scope f A1 A outer s H E) [] AY H' s'->RelV v u->Q v H'->CE outer P w H s Q u s':=
  λ{AY H' v u} z7 rv q=>⟨v,H',z7.os,z7.bare,z7.base,z7.Ae,rv,q⟩
 cases fl with
 |ret u=>
  obtain⟨v,AY,H',z7,rv,q⟩:=hs;exact fin z7 rv q
 |next=>
  obtain⟨AY,H',z7,q⟩:=hs;exact fin (v:=V.A4) (u:=Value.none) z7 rfl q
 |brk=>
  obtain⟨_,_,_,q⟩:=hs;exact False.elim q
 |cont=>
  obtain⟨_,_,_,q⟩:=hs;exact False.elim q
section
variable{X:Cx}{x:Str}{p pos:Pos}{e:Expr}{es:List Expr}{t:TA}{id T:String}{r:List V->Hp->VK->Prop}
def Uc(r:List V->Hp->VK->Prop)(t:TA):TE:=λσ H Q=>t σ H λvs H1=>r vs H1 Q
theorem Pd(hc:DT X (.builtin id) r)(hg:Gl X x)(hm:X.mg x=none)(hv:bootBuiltins x=some (.builtin id))(ha:PA X (e::es) t)(hn:x≠"__name__":=by decide)(Ca:(x==("__debug__" : Str))=false:=by decide) (he:starEach (e::es) X.env=(false,eval e X.env)::starEach es X.env:=by rfl) (BM:(backTo pos<|starEach es X.env).any (·.1)=false:=by rfl):PE X (.Call (.Name x p) (e::es) [] pos)<|Uc r t:=by
 intro AE s σ H Q I h;refine wpAny_Call_Name_kw<|Mg I hg hm hv ?_ hn Ca;exact PyProof.Rows.callWith_builtin1 (Aj (ha pos AE s σ H _ I h) λus s1 ⟨vs,H1,I1,r1,q1⟩=>hc AE s1 σ H1 vs us Q I1 r1 q1) he BM
theorem Zl(hc:DT X (.type T) r)(hg:Gl X x)(hm:X.mg x=none)(hv:bootBuiltins x=some (.type T))(ha:PA X (e::es) t)(hn:x≠"__name__":=by decide)(Ca:(x==("__debug__" : Str))=false:=by decide) (he:starEach (e::es) X.env=(false,eval e X.env)::starEach es X.env:=by rfl) (BM:(backTo pos<|starEach es X.env).any (·.1)=false:=by rfl):PE X (.Call (.Name x p) (e::es) [] pos)<|Uc r t:=by
 intro AE s σ H Q I h;refine wpAny_Call_Name_kw<|Mg I hg hm hv ?_ hn Ca;exact ACb (Aj (ha pos AE s σ H _ I h) λus s1 ⟨vs,H1,I1,r1,q1⟩=>hc AE s1 σ H1 vs us Q I1 r1 q1) he BM
end
end L2
namespace HT
open PySem PyProof.Rows
section
open PySem.SeqAt
open PySem.AutoSeq1 (wpAny_loadPart')
open PySem.MeetsSeq PySem.MeetsSeq2 PySem.MeetsSeq3
end
section
variable{prog:Program}{w:World}{A:Around}{E:Value->Shared->Prop}{s:Shared}
noncomputable def C4(n d:Nat):Option Int->Nat
 |none=>d
 |some v=>if v<0 then(v+(n:Int)).toNat else min v.toNat n
theorem aN(n d:Nat):C4 n d none=d:=rfl
theorem aM(n d k:Nat):C4 n d (some (k:Int))=min k n:=by
 show(if(k:Int)<0 then((k:Int)+(n:Int)).toNat else min (k:Int).toNat n)=min k n;rw[AAG AAA,ADK]
end
end HT
namespace L2
open PySem PySem.Spec PyProof.Rows
abbrev TO:=St->Hp->(Option Int->Hp->Prop)->Prop
def PO(X:Cx)(e:Option Expr)(t:TO):Prop:=
 ∀(AE:List<|Addr×Obj)(s:Shared)(σ:St)(H:Hp)(Q:Option Int->Hp->Prop),Inv X AE σ H s->t σ H Q->wpAny (model X.prog X.w) X.A (evalPart e X.env) (λu s'=>∃o H',Inv X AE σ H' s'/\IsPart u o/\Q o H') X.xe s
def vg:TO:=λ_ H Q=>Q none H
def vm(t:TE):TO:=λσ H Q=>t σ H λx H1=>∃i,x=.int i/\Q (some i) H1
theorem intsAre_of{ns:List Int}:∀{us:List Value},An (ns.map V.int) us->IntsAre us ns:=by
 induction ns with
 |nil=>intro us r;rw[ACG]at r;cases r;exact .nil
 |cons n ns ih=>
  intro us r;rw[AAT]at r;cases r with
  |cons r1 r2=>
   obtain⟨t,e⟩:=r1;subst e;exact .cons n t<|ih r2
section
variable{X:Cx}{e:Expr}{te:TE}{lo hi:Option Expr}{tl th:TO}{pos p2:Pos}
theorem qC:PO X none vg:=by
 intro AE s σ H Q I h;rw[evalPart_none];exact wpAny_pure ⟨none,H,I,.none,h⟩
theorem qD(h:PE X e te):PO X (some e)<|vm te:=by
 intro AE s σ H Q I hw;rw[evalPart_some];refine Aj (h AE s σ H _ I hw) λu s1 ⟨x,H1,I1,r1,q1⟩=>?_;obtain⟨i,rfl,q⟩:=q1;obtain⟨t,rfl⟩:=r1;exact⟨some i,H1,I1,.int i t,q⟩
def VT(X:Cx)(r:V->Option Int->Option Int->Hp->VK->Prop):Prop:=
 ∀(AE:List<|Addr×Obj)(s:Shared)(σ:St)(H:Hp)(x:V)(v vl vu:Value)(lo hi:Option Int)(sl:Addr)(Q:VK),Inv X AE σ H s->RelV x v->s.heap.IsSliceOf sl vl vu .none->IsPart vl lo->IsPart vu hi->r x lo hi H Q->∃T id,typeLookup (.type T) "__getitem__" = pure (some<|.builtin id)/\s.TypeIs v T/\wpAny (model X.prog X.w) X.A (getItem v<|.ref sl) (EP X AE σ Q) X.xe s
def vt(r:V->Option Int->Option Int->Hp->VK->Prop)(te:TE)(tl th:TO):TE:=λσ H Q=>te σ H λx H1=>tl σ H1 λl H2=>th σ H2 λu H3=>r x l u H3 Q
theorem pU{r:V->Option Int->Option Int->Hp->VK->Prop}(hr:VT X r)(he:PE X e te)(hl:PO X lo tl)(hu:PO X hi th):PE X (.Subscript e (.Slice lo hi none p2) pos)<|vt r te tl th:=by
 intro AE s σ H Q I h;refine Subscript_<|Aj (he AE s σ H _ I h) λv s1 ⟨x,H1,I1,r1,q1⟩=>?_;refine wpAny_Slice<|Aj (hl AE s1 σ H1 _ I1 q1) λvl s2 ⟨l,H2,I2,pl,q2⟩=>Aj (hu AE s2 σ H2 _ I2 q2) λvu s3 ⟨u,H3,I3,pu,q3⟩=>?_;rw[evalPart_none];refine wpAny_pure ?_;have I4:Inv X AE σ H3 { s3 with heap:=s3.heap.push { cls:=.type "slice",data:=.fields #[vl,vu,.none] } }:=I3.kept (t':=s3.toks) λb ob q=>Heap.get?_push_of_some _ q;obtain⟨T,id,hT,ht,hg⟩:=hr AE { s3 with heap:=s3.heap.push { cls:=.type "slice",data:=.fields #[vl,vu,.none] } } σ H3 x v vl vu l u s3.heap.objs.size Q I4 r1 (Heap.IsSliceOf.new ..) pl pu q3;show wpAny (model X.prog X.w) X.A (subscriptTail e (.Slice lo hi none p2) v<|.ref s3.heap.objs.size) (EP X AE σ Q) X.xe { s3 with heap:=s3.heap.push { cls:=.type "slice",data:=.fields #[vl,vu,.none] } };exact tail_any (ops:=[.ref s3.heap.objs.size,v]) ht hT hg<|by with_unfolding_all rfl
def Lu(xs:List V)(lo hi:Option Int):List V:=(xs.drop<|HT.C4 xs.length 0 lo).take<|HT.C4 xs.length xs.length hi-HT.C4 xs.length 0 lo
theorem gC(xs:List V)(lo hi:Option Int):(Lu xs lo hi).length<=xs.length:=by
 unfold Lu;rw[ABd,ACH];omega
end
noncomputable def Dl(n:Nat)(i:Int):Option Nat:=if 0<=i then(if i<n then some i.toNat else none)else if -(n:Int)<=i then some (i+n).toNat else none
def CH{α:Type}(xs:List α)(i:Int):Option α:=(Dl xs.length i).bind λj=>xs[j]?
theorem S0{n:Nat}{i:Int}{j:Nat}(h:Dl n i=some j):seqIndex? i n=some j/\j<n/\-(n:Int)<=i/\i<n:=by
 unfold Dl at h;by_cases h0:0<=i
 .rw[AAH h0]at h;by_cases h1:i<n
  .rw[AAH h1]at h;have e:i.toNat=j:=AAo h;exact⟨by rw[seqIndex_of h0 h1,e],AAA,AAA,h1⟩
  .rw[AAG h1]at h;cases h
 .rw[AAG h0]at h;by_cases h1 : -(n:Int)<=i
  .rw[AAH h1]at h;have e:(i+n).toNat=j:=AAo h;exact⟨by rw[seqIndex_neg AAA h1,e],AAA,h1,AAA⟩
  .rw[AAG h1]at h;cases h
theorem Vb{α:Type}{xs:List α}{i:Int}{v:α}(h:CH xs i=some v):∃j,seqIndex? i xs.length=some j/\xs[j]? = some v/\j<xs.length/\-(xs.length:Int)<=i/\i<xs.length:=by
 unfold CH at h;cases e:Dl xs.length i with
 |none=>rw[e]at h;cases h
 |some j=>
  rw[e]at h;obtain⟨h1,h2,h3,h4⟩:=S0 e;exact⟨j,h1,h,h2,h3,h4⟩
def VP(b:Expr):Prop:=∀o i,subscripted b false o i=operate [o,i] (getItem o i)
def Hu(X:Cx)(r:R2):Prop:=
 ∀(value slice:Expr)(AE:List<|Addr×Obj)(s:Shared)(σ:St)(H:Hp)(x y:V)(v u:Value)(Q:VK),Inv X AE σ H s->RelV x v->RelV y u->r x y H Q->subscripted slice false v u=operate [v,u] (getItem v u)->wpAny (model X.prog X.w) X.A (subscriptTail value slice v u) (EP X AE σ Q) X.xe s
def VM(X:Cx)(id:String)(r:V->List V->Hp->VK->Prop):Prop:=
 ∀(AE:List<|Addr×Obj)(s:Shared)(σ:St)(H:Hp)(x:V)(xs:List V)(v:Value)(us:List Value)(Q:VK),Inv X AE σ H s->RelV x v->An xs us->r x xs H Q->wpAny (model X.prog X.w) X.A (call (.builtin id) (v::us)) (EP X AE σ Q) X.xe s
section
variable{X:Cx}{a b:Expr}{ta tb:TE}{pos:Pos}
theorem Hu.or{r r':R2}(h:Hu X r)(h':Hu X r'):Hu X (λx y H Q=>r x y H Q\/r' x y H Q):=by
 intro value slice AE s σ H x y v u Q I rx ry q hs;rcases q with q|q
 .exact h value slice AE s σ H x y v u Q I rx ry q hs
 .exact h' value slice AE s σ H x y v u Q I rx ry q hs
theorem pN{r:R2}(hr:Hu X r)(ha:PE X a ta)(hb:PE X b tb)(hs:VP b):PE X (.Subscript a b pos)<|NG r ta tb:=by
 intro AE s σ H Q I h;exact Subscript_<|Q3 ha hb I h λv u s2 x y H2 I2 rx ry q=>hr a b AE s2 σ H2 x y v u Q I2 rx ry q<|hs _ _
def Z5(K:PySem.W.Frag):R2:=λx y H Q=>∃p xs i v,x=.ref p/\y=.int i/\CO K H p xs/\CH xs i=some v/\Q v H
def Z7(K:PySem.W.Frag):R2:=λx y H Q=>∃p xs i v,x=.ref p/\y=.int i/\CB K H p xs/\CH xs i=some v/\Q v H
theorem ll:Hu X<|Z5 X.K:=by
 intro value slice AE s σ H x y v u Q I rx ry h hs;obtain⟨p,xs,i,z,rfl,rfl,hq,he,q⟩:=h;cases rx;obtain⟨t,rfl⟩:=ry;obtain⟨its,r,pl,hz⟩:=I.list hq;obtain⟨j,h1,h2,h3,h4,h5⟩:=Vb he;obtain⟨w,ew,CM⟩:=r.get h2;have hl:=r.length;have hn:=O8;have fin:EP X AE σ Q w s:=⟨z,H,I,CM,q⟩;by_cases h0:0<=i
 .have hj:i.toNat=j:=by
   rw[seqIndex_of h0 h5]at h1;exact AAo h1
  exact item_listR pl.isList h0 AAA (by rw[hj];simpa using ew) fin hs
 .have hj:(i+(its.toArray.size:Int)).toNat=j:=by
   rw[seqIndex_neg AAA h4]at h1;rw[AAR,<-hl];exact AAo h1
  exact subscriptTail_builtinR (x:=w) pl.isList.typeIs slot_list_getitem.lookup (wpAny_getItem_list_neg (Q:=λr s'=>r=w/\EP X AE σ Q r s') pl.isList AAA (by rw[AAR]<;>omega) AAA (by rw[hj];simpa using ew) ⟨rfl,fin⟩) hs
theorem lq:Hu X<|Z7 X.K:=by
 intro value slice AE s σ H x y v u Q I rx ry h hs;obtain⟨p,xs,i,z,rfl,rfl,hq,he,q⟩:=h;cases rx;obtain⟨t,rfl⟩:=ry;obtain⟨its,r,pl,hz⟩:=I.tuple hq;obtain⟨j,h1,h2,h3,h4,h5⟩:=Vb he;obtain⟨w,ew,CM⟩:=r.get h2;have hl:=r.length;have hn:=O8;have fin:EP X AE σ Q w s:=⟨z,H,I,CM,q⟩;exact subscriptTail_builtinR (x:=w) pl.typeIs slot_tuple_getitem.lookup (getItem_tuple (j:=j) (Q:=λr s'=>r=w/\EP X AE σ Q r s') pl AAA AAA (by rw[AAR,<-hl];exact h1) (by simpa using ew) ⟨rfl,fin⟩) hs
theorem mn(its:List Value)(n j:Nat)(u:Value):Obj.mapSeq (·.setIfInBounds j u) { cls:=.type "list",data:=.seq its.toArray n }={ cls:=.type "list",data:=.seq (its.set j u).toArray n }:=by
 simp[Obj.mapSeq]
theorem Inv.lst{AE:List (Addr×Obj)}{σ:St}{H:Hp}{s:Shared}{p:Addr}{xs:List V}(I:Inv X AE σ H s)(h:H p=some (.lst xs)) : ∃(its:List Value)(n:Nat),An xs its/\s.heap.get? p=some { cls:=.type "list",data:=.seq its.toArray n }/\xs.length<=sizeLine:=by
 obtain⟨z,its,n,r,e⟩:=I.Ae p _ h;exact⟨its,n,r,e,z⟩
theorem Inv.mh{AE:List (Addr×Obj)}{σ:St}{H:Hp}{s:Shared}{p:Addr}{xs ys:List V}{its its':List Value}{n n':Nat}{f:Obj->Obj}(I:Inv X AE σ H s)(h:H p=some (.lst xs)) (ho:s.heap.get? p=some { cls:=.type "list",data:=.seq its.toArray n }) (hf:f { cls:=.type "list",data:=.seq its.toArray n }={ cls:=.type "list",data:=.seq its'.toArray n' }) (r:An ys its') (hz:ys.length<=sizeLine) (t:Nat) : Inv X AE σ (upd H p<|.lst ys) { s with heap:=s.heap.update p f,toks:=t }:=by
 have e:(s.heap.update p f).get? p=some { cls:=.type "list",data:=.seq its'.toArray n' }:=by
  rw[Heap.get?_update_self f ho (by rw[hf]<;>rfl),hf]
 refine I.write (x:=p) (e:=p) (by rw[h];trivial) (.inl rfl) (λb u hb q=>(Heap.get?_update_other _ _ (AA3 hb)).trans q) ⟨_,e⟩ ?_;exact⟨hz,its',n',r,e⟩
def t8:V->V->V->Hp->(Hp->Prop)->Prop:=λo i v H Q=>∃p xs k j,o=.ref p/\i=.int k/\H p=some (.lst xs)/\Dl xs.length k=some j/\Q (upd H p<|.lst<|xs.set j v)
theorem set_list:VO X t8:=by
 intro AE s σ H o i v ov iv u Q I ro ri rv h;obtain⟨p,xs,k,j,rfl,rfl,hp,hj,q⟩:=h;cases ro;obtain⟨t,rfl⟩:=ri;obtain⟨its,n,r,ho,hz⟩:=I.lst hp;obtain⟨h1,h2,h3,h4⟩:=S0 hj;have hl:=r.length;have hn:=O8;have I':Inv X AE σ (upd H p<|.lst<|xs.set j v) { s with heap:=s.heap.update p (Obj.mapSeq (·.setIfInBounds j u)) }:=
  I.mh hp ho (mn its n j u) (r.set rv j) (by rw[ACS];exact hz) s.toks
 by_cases h0:0<=k
 .have hk:k.toNat=j:=by
   rw[seqIndex_of h0 h4]at h1;exact AAo h1
  exact PySem.W.ki_setAt ho h0 AAA (by rw[AAR,<-hl];exact h4) (by rw[hk];exact⟨_,I',q⟩)
 .have hk:(k+(its.toArray.size:Int)).toNat=j:=by
   rw[seqIndex_neg AAA h3]at h1;rw[AAR,<-hl];exact AAo h1
  exact PySem.W.ki_setBack ho AAA (by rw[AAR,<-hl];exact h3) AAA (by rw[hk];exact⟨_,I',q⟩)
theorem u9(lo hi:Option Int)(n:Nat):(sliceBounds lo hi none n).1=((HT.C4 n 0 lo:Nat):Int)/\(sliceBounds lo hi none n).2.1=((HT.C4 n n hi:Nat):Int)/\(sliceBounds lo hi none n).2.2=1:=by
 refine⟨?_,?_,rfl⟩
 .cases lo with
  |none=>simp[sliceBounds,HT.C4]
  |some i=>
   simp only[sliceBounds,HT.C4,Option.getD_none,show(1:Int)>0 by decide,AB0];by_cases h:i<0
   .simp only[h,AB0]<;>omega
   .simp only[h,ACV]<;>omega
 .cases hi with
  |none=>simp[sliceBounds,HT.C4]
  |some i=>
   simp only[sliceBounds,HT.C4,Option.getD_none,show(1:Int)>0 by decide,AB0];by_cases h:i<0
   .simp only[h,AB0]<;>omega
   .simp only[h,ACV]<;>omega
theorem u7(its:List Value)(lo hi:Option Int):slicePick its.toArray lo hi none=((its.drop<|HT.C4 its.length 0 lo).take<|HT.C4 its.length its.length hi-HT.C4 its.length 0 lo).toArray:=by
 obtain⟨h1,h2,h3⟩:=u9 lo hi its.toArray.size;unfold slicePick;rw[h1,h2,h3];simp only[sliceRange_one,pick_run,AAR]<;>rfl
def t9(K:PySem.W.Frag):V->Option Int->Option Int->Hp->VK->Prop:=λx lo hi H Q=>∃a xs,x=.ref a/\CO K H a xs/\∀p,H p=none->Q (.ref p) (upd H p<|.lst<|Lu xs lo hi)
theorem u5:VT X<|t9 X.K:=by
 intro AE s σ H x v vl vu lo hi sl Q I rx hs pl pu h;obtain⟨a,xs,rfl,hx,q⟩:=h;cases rx;obtain⟨its,r,ht,hz⟩:=I.list hx;have Bj:=r.length;refine⟨"list",_,slot_list_getitem.lookup,ht.isList.typeIs,?_⟩;refine wpAny_getItem_list_slice ht.isList hs pl pu .none AAB ?_ (by rw[AAR]<;>omega);rw[u7,<-Bj];refine⟨.ref s.heap.objs.size,_,I.laid (t':=s.toks) (o:=.lst<|Lu xs lo hi) (λb ob q=>Heap.get?_push_of_some _ q) (AAS _) ?_,rfl,q _<|I.Ae.fresh<|AAS _⟩;exact⟨ABF (gC xs lo hi) hz,_,0,(r.drop<|HT.C4 xs.length 0 lo).take<|HT.C4 xs.length xs.length hi-HT.C4 xs.length 0 lo,Heap.get?_push_size _ rfl⟩
noncomputable def IP:V->Bool
 |.A4=>true
 |.bl _=>true
 |.int _=>true
 |.str _=>true
 |_=>false
noncomputable def IE:V->V->Bool
 |.A4,.A4=>true
 |.bl a,.bl b=>a==b
 |.bl a,.int b=>(if a then 1 else 0)==b
 |.int a,.bl b=>a==(if b then 1 else 0)
 |.int a,.int b=>a==b
 |.str a,.str b=>a==b
 |_,_=>false
theorem iM{A:Around}{s:Shared}{y x:V}{u v:Value}(ry:RelV y u)(rx:RelV x v)(fy:IP y=true)(fx:IP x=true):SeqAt.EqAt A s u v<|IE y x:=by
 cases y with
 |A4=>
  cases ry;cases x with
  |A4=>cases rx;exact SeqAt.EqAt.same _
  |bl b=>cases rx;exact SeqAt.EqAt.none_bool b
  |int b=>obtain⟨t,rfl⟩:=rx;exact SeqAt.EqAt.none_int b t
  |str b=>obtain⟨t,rfl⟩:=rx;exact SeqAt.EqAt.none_str b t
  |_=>exact absurd (show false=true from fx) ABO
 |bl a=>
  cases ry;cases x with
  |A4=>cases rx;exact SeqAt.EqAt.bool_none a
  |bl b=>cases rx;exact SeqAt.EqAt.bool_bool a b
  |int b=>obtain⟨t,rfl⟩:=rx;exact SeqAt.EqAt.bool_int a b t
  |str b=>obtain⟨t,rfl⟩:=rx;exact SeqAt.EqAt.bool_str a b t
  |_=>exact absurd (show false=true from fx) ABO
 |int a=>
  obtain⟨t',rfl⟩:=ry;cases x with
  |A4=>cases rx;exact SeqAt.EqAt.int_none a t'
  |bl b=>cases rx;exact SeqAt.EqAt.int_bool a t' b
  |int b=>obtain⟨t,rfl⟩:=rx;exact SeqAt.EqAt.int_int a t' b t
  |str b=>obtain⟨t,rfl⟩:=rx;exact SeqAt.EqAt.int_str a t' b t
  |_=>exact absurd (show false=true from fx) ABO
 |str a=>
  obtain⟨t',rfl⟩:=ry;cases x with
  |A4=>cases rx;exact SeqAt.EqAt.str_none a t'
  |bl b=>cases rx;exact SeqAt.EqAt.str_bool a t' b
  |int b=>obtain⟨t,rfl⟩:=rx;exact SeqAt.EqAt.str_int a t' b t
  |str b=>obtain⟨t,rfl⟩:=rx;exact SeqAt.EqAt.str_str a t' b t
  |_=>exact absurd (show false=true from fx) ABO
 |_=>exact absurd (show false=true from fy) ABO
def D9(x:V)(u:Value):Bool:=match u with
 |.none=>IE .A4 x
 |.bool b=>IE (.bl b) x
 |.int i _=>IE (.int i) x
 |.str z _=>IE (.str z) x
 |_=>false
theorem Wx{x y:V}{u:Value}(r:RelV y u)(f:IP y=true):D9 x u=IE y x:=by
 cases y with
 |A4=>cases r;rfl
 |bl b=>cases r;rfl
 |int i=>obtain⟨t,rfl⟩:=r;rfl
 |str z=>obtain⟨t,rfl⟩:=r;rfl
 |_=>exact absurd (show false=true from f) ABO
theorem Lk{x:V}:∀{xs:List V}{us:List Value},An xs us->xs.all IP=true->us.any (D9 x)=xs.any λy=>IE y x
 |_,_,.nil,_=>rfl
 |y::xs,u::us,.cons r t,f=>by
  rw[List.all_cons,AAJ]at f;rw[ABM,ABM,Wx r f.1,Lk t f.2]
theorem Mo{A:Around}{s:Shared}{x:V}{v:Value}(rx:RelV x v)(fx:IP x=true):∀{xs:List V}{us:List Value},An xs us->xs.all IP=true->∀u∈us,SeqAt.EqAt A s u v (D9 x u)
 |_,_,.nil,_=>λu hu=>by cases hu
 |y::xs,u::us,.cons r t,f=>λu' hu=>by
  rw[List.all_cons,AAJ]at f;rcases AAi.mp hu with rfl|hu
  .rw[Wx r f.1];exact iM r rx f.1 fx
  .exact Mo rx fx t f.2 u' hu
def Ou(x:V)(xs:List V):Bool:=xs.any λy=>IE y x
def T3(K:PySem.W.Frag)(neg:Bool):R2:=λx y H Q=>∃p xs,y=.ref p/\(CO K H p xs\/CB K H p xs)/\IP x=true/\xs.all IP=true/\Q (.bl (if neg then !Ou x xs else Ou x xs)) H
theorem oJ:Ba X (compareOp .In)<|T3 X.K false:=by
 intro AE s σ H x y v u Q I rx ry h;obtain⟨p,xs,rfl,hq,fx,fs,q⟩:=h;cases ry;rcases hq with hq|hq
 .obtain⟨its,r,pl,hz⟩:=I.list hq;refine SeqAt.in_listAt (D9 x) pl.isList (λw hw=>Mo rx fx r fs w<|by simpa using hw) ⟨.bl _,H,I,rfl,?_⟩;rw[show its.toArray.any (D9 x)=its.any (D9 x)by simp,Lk r fs];exact q
 .obtain⟨its,r,pl,hz⟩:=I.tuple hq;refine SeqAt.in_tupleAt (D9 x) pl (λw hw=>Mo rx fx r fs w<|by simpa using hw) ⟨.bl _,H,I,rfl,?_⟩;rw[show its.toArray.any (D9 x)=its.any (D9 x)by simp,Lk r fs];exact q
theorem oS:Ba X (compareOp .NotIn)<|T3 X.K true:=by
 intro AE s σ H x y v u Q I rx ry h;obtain⟨p,xs,rfl,hq,fx,fs,q⟩:=h;cases ry;rcases hq with hq|hq
 .obtain⟨its,r,pl,hz⟩:=I.list hq;refine SeqAt.notIn_listAt (D9 x) pl.isList (λw hw=>Mo rx fx r fs w<|by simpa using hw) ⟨.bl _,H,I,rfl,?_⟩;rw[show its.toArray.any (D9 x)=its.any (D9 x)by simp,Lk r fs];exact q
 .obtain⟨its,r,pl,hz⟩:=I.tuple hq;refine SeqAt.notIn_tupleAt (D9 x) pl (λw hw=>Mo rx fx r fs w<|by simpa using hw) ⟨.bl _,H,I,rfl,?_⟩;rw[show its.toArray.any (D9 x)=its.any (D9 x)by simp,Lk r fs];exact q
theorem fE:DT X (.builtin "len") (λxs H Q=>∃p ys,xs=[.ref p]/\(CO X.K H p ys\/CB X.K H p ys)/\Q (.int ys.length) H):=by
 intro AE s σ H xs us Q I r h;obtain⟨p,ys,rfl,hq,q⟩:=h;obtain⟨u,rfl,rx⟩:=vals1 r;cases rx;have hn:=O8;rcases hq with hq|hq
 .obtain⟨its,r',pl,hz⟩:=I.list hq;have Bj:=r'.length;exact Calls.call_len_list pl.isList (by simp only[AAR]<;>omega) ⟨.int ys.length,H,I.tok _,⟨s.toks+1,by rw[AAR,Bj]⟩,q⟩
 .obtain⟨its,r',pl,hz⟩:=I.tuple hq;have Bj:=r'.length;exact len_tuple pl (by simp only[AAR]<;>omega) ⟨.int ys.length,H,I.tok _,⟨s.toks+1,by rw[AAR,Bj]⟩,q⟩
theorem fF:DT X (.type "list") (λxs H Q=>∃p ys,xs=[.ref p]/\(CO X.K H p ys\/CB X.K H p ys)/\∀l,H l=none->Q (.ref l) (upd H l<|.lst ys)):=by
 intro AE s σ H xs us Q I r h;obtain⟨p,ys,rfl,hq,q⟩:=h;obtain⟨u,rfl,rx⟩:=vals1 r;cases rx;have fin:∀(its:List Value),An ys its->ys.length<=sizeLine->∀(h':Heap)(c':Nat),(∀b o',s.heap.get? b=some o'->h'.get? b=some o')->h'.get? s.heap.objs.size=some { cls:=.type "list",dict:=none,data:=.seq its.toArray c',slots:=#[] }->EP X AE σ Q (.ref s.heap.objs.size) { s with heap:=h' }:=λits r' hz h' c' kp e=>
  ⟨.ref s.heap.objs.size,_,I.laid (t':=s.toks) kp (AAS _) (show Bx X.prog X.w _ h' _ (.lst ys)from⟨hz,its,c',r',e⟩),rfl,q _<|I.Ae.fresh<|AAS _⟩
 rcases hq with hq|hq
 .obtain⟨its,r',pl,hz⟩:=I.list hq;have Bj:=r'.length;obtain⟨o,ho,hc,n,hd⟩:=pl.isList;exact call_list_seq p (.inl rfl) ho hc hd (λh' c' kp e=>fin its r' hz h' c' kp e) (by simp only[AAR]<;>omega)
 .obtain⟨its,r',pl,hz⟩:=I.tuple hq;have Bj:=r'.length;obtain⟨o,ho,hc,n,hd⟩:=pl;exact call_list_seq p (.inr rfl) ho hc hd (λh' c' kp e=>fin its r' hz h' c' kp e) (by simp only[AAR]<;>omega)
def Uq(K:PySem.W.Frag)(T:String)(x:V)(H:Hp):Prop:=match x with
 |.str _=>T = "str"
 |.int _=>T = "int"
 |.ref p=>(T = "list"/\∃xs,CO K H p xs)\/(T = "tuple"/\∃o,K.lookup p=some o/\o.cls=.type "tuple"/\o.dict=none)\/
  (T = "dict"/\((∃AR,H p=some (.dK AR))\/∃AR,H p=some (.dT AR)))\/(T = "set"/\∃S n,H p=some (.set S n))
 |_=>False
theorem bQ{AE:List (Addr×Obj)}{σ:St}{H:Hp}{s:Shared}{T:String}{x:V}{v:Value}(I:Inv X AE σ H s)(r:RelV x v)(ty:Uq X.K T x H) : s.TypeIs v T/\∀a,v=.ref a->∃ob,s.heap.get? a=some ob/\ob.dict=none:=by
 cases x with
 |str z=>
  obtain⟨t,rfl⟩:=r;cases (show T = "str" from ty);exact⟨typeIs_str s z t,λ_ e=>nomatch e⟩
 |int i=>
  obtain⟨t,rfl⟩:=r;cases (show T = "int" from ty);exact⟨typeIs_int s i t,λ_ e=>nomatch e⟩
 |ref p=>
  cases r;rcases ty with⟨rfl,xs,hq⟩|⟨rfl,o,hk,hc,hd⟩|⟨rfl,hk⟩|⟨rfl,S,n,hk⟩
  .obtain⟨its,_,pl,_⟩:=I.list hq;refine⟨pl.isList.typeIs,λa e=>?_⟩;cases e;obtain⟨o,n,e,c,hd,_⟩:=pl;exact⟨o,e,hd⟩
  .refine⟨⟨o,I.BB p o hk,hc⟩,λa e=>?_⟩;cases e;exact⟨o,I.BB _ o hk,hd⟩
  .have z:∃o,s.heap.get? p=some o/\o.ExactDict:=by
    rcases hk with⟨AR,hk⟩|⟨AR,hk⟩
    .obtain⟨_,_,_,_,o,_,_,e,ex,_⟩:=I.Ae p _ hk;exact⟨o,e,ex⟩
    .obtain⟨_,_,_,_,o,_,_,e,ex,_⟩:=I.Ae p _ hk;exact⟨o,e,ex⟩
   obtain⟨o,e,ex⟩:=z;refine⟨⟨o,e,ex.1⟩,λa e2=>?_⟩;cases e2;exact⟨o,e,ex.2.1⟩
  .obtain⟨o,_,_,_,e,ex,_⟩:=I.Ae p _ hk;refine⟨⟨o,e,ex.1⟩,λa e2=>?_⟩;cases e2;exact⟨o,e,ex.2.1⟩
 |_=>exact False.elim ty
def bC(K:PySem.W.Frag)(T:String)(r:V->List V->Hp->VK->Prop)(to:TE):TE:=λσ H Q=>to σ H λx H1=>Uq K T x H1/\r x [] H1 Q
def ay(K:PySem.W.Frag)(T:String)(r:V->List V->Hp->VK->Prop)(to:TE)(t:TA):TE:=λσ H Q=>to σ H λx H1=>Uq K T x H1/\t σ H1 λxs H2=>r x xs H2 Q
variable{o e:Expr}{es:List Expr}{to:TE}{t:TA}{name:Str}{apos Au:Pos}{T id:String}{r:V->List V->Hp->VK->Prop}
theorem Zj(pa:PlainAttrs T)(slot:Slot T name id)(Se:typeOf (.builtin id)=pure (.type "method_descriptor"))(hm:VM X id r)(ho:PE X o to) (Dj:attributeBase o name X.env (eval o X.env)=eval o X.env:=by rfl) (Dk:(apos.endLine==Au.line)=true:=by rfl):PE X (.Call (.Attribute o name apos) [] [] Au)<|bC X.K T r to:=by
 intro AE s σ H Q I h;refine wpAny_Call_method0_late Dj Dk<|Aj (ho AE s σ H _ I h) λv s1 ⟨x,H1,I1,r1,ty,q1⟩=>?_;obtain⟨h1,h2⟩:=bQ I1 r1 ty;exact⟨T,id,pa,slot,Se,h1,h2,Calls.callWith_builtin rfl<|PySem.evalArgs_none<|hm AE s1 σ H1 x [] v [] Q I1 r1 .nil q1⟩
theorem My(pa:PlainAttrs T)(slot:Slot T name id)(Se:typeOf (.builtin id)=pure (.type "method_descriptor"))(hm:VM X id r)(ho:PE X o to)(ha:PA X (e::es) t) (Dj:attributeBase o name X.env (eval o X.env)=eval o X.env:=by rfl) (EX:((backTo Au<|starEach (e::es) X.env).all (λx=>!x.1)&&(backToKw Au<|keywordEach [] X.env).all (λx=>x.1.isSome)
  && decide ((e::es).length+([]:List Keyword).length+(if([]:List Keyword).isEmpty then 0 else 1)<30))=true:=by rfl)
 (Dk:(apos.endLine==Au.line)=true:=by rfl) (hs:starEach (e::es) X.env=(false,eval e X.env)::starEach es X.env:=by rfl) (Fm:(backTo Au<|starEach es X.env).any (·.1)=false:=by rfl) :
 PE X (.Call (.Attribute o name apos) (e::es) [] Au) (ay X.K T r to t):=by
 intro AE s σ H Q I h;refine wpAny_Call_method_late Dj EX Dk rfl<|Aj (ho AE s σ H _ I h) λv s1 ⟨x,H1,I1,r1,ty,q1⟩=>?_;obtain⟨h1,h2⟩:=bQ I1 r1 ty;refine⟨T,id,pa,slot,Se,h1,h2,?_⟩;have hA:=ha Au AE s1 σ H1 _ I1 q1;rw[hs]at hA ⊢;refine Calls.callWith_builtin (by show(false||(backTo Au<|starEach es X.env).any (·.1))=false;rw[Fm]<;>rfl)<|Calls.evalArgs_plain ?_;exact Aj hA λus s2 ⟨vs,H2,I2,r2,q2⟩=>hm AE s2 σ H2 x vs v us Q I2 r1 r2 q2
end
def JJ(X:Cx)(id:String)(r:V->List V->Hp->VK->Prop):Prop:=
 ∀(AE:List<|Addr×Obj)(s:Shared)(σ:St)(H:Hp)(x:V)(xs:List V)(v:Value)(us:List Value)(Q:VK),Inv X AE σ H s->RelV x v->An xs us->r x xs H Q->wpAny (model X.prog X.w) X.A (call (.builtin id) (v::us)) (EP X AE σ Q) X.xe s
theorem An.one:∀{x:V}{us:List Value},An [x] us->∃u,us=[u]/\RelV x u
 |_,_,.cons r .nil=>⟨_,rfl,r⟩
theorem An.two:∀{x y:V}{us:List Value},An [x,y] us->∃u v,us=[u,v]/\RelV x u/\RelV y v
 |_,_,_,.cons r (.cons q .nil)=>⟨_,_,rfl,r,q⟩
theorem An.zero:∀{us:List Value},An [] us->us=[]
 |_,.nil=>rfl
theorem An.dropLast{xs:List V}{us:List Value}(h:An xs us):An xs.dropLast us.dropLast:=by
 induction h with
 |nil=>exact .nil
 |cons r t ih=>
  cases t with
  |nil=>exact .nil
  |cons q t'=>exact .cons r ih
theorem An.eraseIdx:∀{xs:List V}{us:List Value}(i:Nat),An xs us->An (xs.eraseIdx i) (us.eraseIdx i)
 |_,_,_,.nil=>.nil
 |_,_,0,.cons _ t=>t
 |_,_,i+1,.cons r t=>.cons r<|An.eraseIdx i t
theorem An.reverse{xs:List V}{us:List Value}(h:An xs us):An xs.reverse us.reverse:=by
 induction h with
 |nil=>exact .nil
 |cons r t ih=>rw[ACy,ACy];exact An.append ih<|.cons r .nil
theorem iO{α:Type}(l:List α):l.eraseIdx (l.length-1)=l.dropLast:=by
 induction l with
 |nil=>rfl
 |cons a r ih=>
  cases r with
  |nil=>rfl
  |cons b r=>
   have e:(a::b::r).length-1=((b::r).length-1)+1:=by
    have h1:(a::b::r).length=r.length+2:=rfl;have h2:(b::r).length=r.length+1:=rfl;omega
   rw[e,List.eraseIdx_cons_succ,ih]
   all_goals rfl
theorem Yt{α:Type}:∀(l:List α)(i:Nat),(l.eraseIdx i).length<=l.length
 |[],_=>AAS _
 |_::_,0=>ADC _
 |_::r,i+1=>Nat.succ_le_succ<|Yt r i
section
variable{X:Cx}{AE:List (Addr×Obj)}{σ:St}{H:Hp}{s:Shared}{l b:Addr}{xs ys zs:List V}
theorem Inv.Mj{its its':List Value}{n:Nat}{f:Array Value->Array Value}{t':Nat}(I:Inv X AE σ H s)(hH:H l=some (.lst xs)) (e:s.heap.get? l=some { cls:=.type "list",data:=.seq its.toArray n }) (hf:f its.toArray=its'.toArray) (hv:An ys its') (hz:ys.length<=sizeLine) : Inv X AE σ (upd H l<|.lst ys) { s with heap:=s.heap.update l<|Obj.mapSeq f,toks:=t' }:=by
 have q:=PySem.IsL.update e f;rw[hf]at q;refine I.write (x:=l) (e:=l) (by rw[hH];exact trivial) (.inl rfl) (λb' u hb hu=>(Heap.get?_update_other s.heap (Obj.mapSeq f) (AA3 hb)).trans hu) ⟨_,q⟩ ?_;exact⟨hz,its',_,hv,q⟩
theorem Inv.ma{its:List Value}{t':Nat}(I:Inv X AE σ H s)(hv:An ys its)(hz:ys.length<=sizeLine) : Inv X AE σ (upd H s.heap.objs.size<|.lst ys) { s with heap:=s.heap.push { cls:=.type "list",data:=.seq its.toArray },toks:=t' }:=
 I.laid (λ_ _ q=>Heap.get?_push_of_some _ q) (AAS _) ⟨hz,its,0,hv,Heap.get?_push_size _ rfl⟩
theorem Inv.fresh(I:Inv X AE σ H s):H s.heap.objs.size=none:=I.Ae.fresh<|AAS _
theorem Inv.Ml(I:Inv X AE σ H s)(hH:H l=some (.lst xs)):xs.length<=sizeLine/\∃(its:List Value)(n:Nat),An xs its/\xs.length=its.length/\s.heap.get? l=some { cls:=.type "list",data:=.seq its.toArray n }:=by
 obtain⟨z,its,n,r,e⟩:=I.Ae l _ hH;exact⟨z,its,n,r,r.length,e⟩
end
section
variable{X:Cx}
def Z2:V->List V->Hp->VK->Prop:=λx vs H Q=>∃l xs y,x=.ref l/\vs=[y]/\H l=some (.lst xs)/\xs.length<sizeLine/\Q .A4 (upd H l<|.lst<|xs ++ [y])
theorem Y9:JJ X "list.append" Z2:=by
 intro AE s σ H x vs v us Q I rx rv h;obtain⟨l,xs,y,rfl,rfl,hH,hz,q⟩:=h;cases rx;obtain⟨u,rfl,ru⟩:=rv.one;obtain⟨z,its,n,r,hl,e⟩:=I.Ml hH;refine call_meets F.slot_list_append ⟨_,e,rfl⟩ F.entry_list_append (F.args_list_append_2 _ _) (PySem.list_append l its.toArray n u (by rw[AAR];omega)) ⟨e,?_⟩;refine⟨.A4,_,I.Mj (its':=its ++ [u]) hH e AAB (r.append<|.cons ru .nil) ?_,rfl,q⟩;rw[AAn,AB8];omega
def t7:V->List V->Hp->VK->Prop:=λx vs H Q=>∃l xs y,x=.ref l/\vs=[]/\H l=some (.lst xs)/\xs[xs.length-1]? = some y/\Q y (upd H l<|.lst xs.dropLast)
theorem nJ:JJ X "list.pop" t7:=by
 intro AE s σ H x vs v us Q I rx rv h;obtain⟨l,xs,y,rfl,rfl,hH,hy,q⟩:=h;cases rx;have Sh:=rv.zero;subst Sh;obtain⟨z,its,n,r,hl,e⟩:=I.Ml hH;obtain⟨u,hu,ru⟩:=r.get hy;have Sl:its.toArray[its.toArray.size-1]? = some u:=by
  show its.toArray[its.length-1]? = some u;rw[<-ABJ,<-hl];exact hu
 refine call_meets F.slot_list_pop ⟨_,e,rfl⟩ F.entry_list_pop (F.args_list_pop_1 _) (MeetsSeq.list_pop_last l its.toArray n u Sl (by rw[AAR];omega)) ⟨e,?_⟩;refine⟨y,_,I.Mj (its':=its.dropLast) hH e ?_ r.dropLast ?_,ru,q⟩
 .show its.toArray.eraseIdxIfInBounds (its.toArray.size-1)=its.dropLast.toArray;rw[AAR,AC6,iO]
 .rw[List.length_dropLast];omega
def Z8:V->List V->Hp->VK->Prop:=λx vs H Q=>∃l xs i k y,x=.ref l/\vs=[.int i]/\H l=some (.lst xs)/\-(2 ^ 63)<=i/\i<2 ^ 63/\seqIndex? i xs.length=some k/\xs[k]? = some y/\Q y (upd H l<|.lst<|xs.eraseIdx k)
theorem nK:JJ X "list.pop" Z8:=by
 intro AE s σ H x vs v us Q I rx rv h;obtain⟨l,xs,i,k,y,rfl,rfl,hH,h1,h2,hk,hy,q⟩:=h;cases rx;obtain⟨u,rfl,ru⟩:=rv.one;obtain⟨t,rfl⟩:=ru;obtain⟨z,its,n,r,hl,e⟩:=I.Ml hH;obtain⟨w,hw,CM⟩:=r.get hy;refine call_meets F.slot_list_pop ⟨_,e,rfl⟩ F.entry_list_pop (F.args_list_pop_2 _ _) (MeetsSeq.list_pop_at l its.toArray n i t k w (fitsIndex_both h1 h2) (by rw[AAR,<-hl];exact hk) (by rw[<-ABJ];exact hw) (by rw[AAR];omega)) ⟨e,?_⟩
 refine⟨y,_,I.Mj (its':=its.eraseIdx k) hH e ?_ (r.eraseIdx k) ?_,CM,q⟩
 .show its.toArray.eraseIdxIfInBounds k=(its.eraseIdx k).toArray;rw[AC6]
 .have:=Yt xs k;omega
def Z9:V->List V->Hp->VK->Prop:=λx vs H Q=>∃l xs,x=.ref l/\vs=[]/\H l=some (.lst xs)/\Q .A4 (upd H l<|.lst xs.reverse)
theorem nL:JJ X "list.reverse" Z9:=by
 intro AE s σ H x vs v us Q I rx rv h;obtain⟨l,xs,rfl,rfl,hH,q⟩:=h;cases rx;have Sh:=rv.zero;subst Sh;obtain⟨z,its,n,r,hl,e⟩:=I.Ml hH;refine call_meets F.slot_list_reverse ⟨_,e,rfl⟩ F.entry_list_reverse (F.args_list_reverse_1 _) (AutoSeq1.list_reverse_list_0 l its.toArray n (by rw[AAR];omega)) ⟨e,?_⟩;refine⟨.A4,_,I.Mj (its':=its.reverse) hH e AAB r.reverse ?_,rfl,q⟩;rw[ACj];omega
end
section
variable{prog:Program}{w:World}{A:Around}{E:Value->Shared->Prop}{s:Shared}
end
section
variable{X:Cx}
end
end L2
namespace U4
open PySem PySem.W PySem.Calls PyProof.Rows
theorem lZ{P:Params}{h:Heap}:∀(ns:List Int)(vs:List Value),WellAll P h vs (ns.map WData.int)->IntsAre vs ns:=by
 intro ns
 induction ns with
 |nil=>
  intro vs w;rw[ACG]at w;cases w;exact .nil
 |cons n ns ih=>
  intro vs w;rw[AAT]at w;cases w with
  |cons a b=>
   cases a;exact .cons _ _<|ih _ b
theorem um{l:OpenLaw}{n:Nat}(hn:l.most=some n){P:Params}{h:Heap}{args:List WData}{vals:List Value} (Of:l.row.toRowW.claim.pre args=true) (Ep:WellAll P h vals args) : ∃a vs ns,vals=[Value.ref a]/\args=[WData.list<|ns.map WData.int]/\h.get? a=some { cls:=.type "list",data:=.seq vs.toArray }/\IntsAre vs ns/\ns.length<=n:=by
 have BD:WShape.hasAll [] args [.list .int]=true:=(pre_splitW Of).1;have hc:l.pre.holds [] { args:=args }=true:=(pre_splitW Of).2;obtain⟨d,r,rfl,h1,h2⟩:=hasAllW_cons BD;obtain rfl:=hasAllW_nil h2;obtain⟨xs,rfl,h3⟩:=hasW_list h1;obtain⟨ns,rfl⟩:=items_int h3;have Bj:ns.length<=n:=by
  unfold OpenLaw.pre at hc;have h4:(WTm.not<|.lt (.lit<|.int (n:Int))<|.len<|.arg 0).holds [] { args:=[.list<|ns.map .int] }=true:=by
   have h4:=(holds_andW hc).1;rw[hn]at h4;exact h4
  have h5:=condW_of h4<|w_not<|w_lt w_lit<|w_len_list<|w_arg rfl;rw[AAO]at h5;refine Nat.le_of_not_lt λq=>?_;have q':(n:Int)<((ns.length:Nat):Int):=AAA
  first
   |(rw[ABn q']at h5;exact absurd h5 AAC)
   |(simp at h5;omega)
 cases Ep with
 |cons w1 w2=>
  cases w2;cases w1 with
  |list ho Bf=>exact⟨_,_,ns,rfl,rfl,ho,lZ ns _ Bf,Bj⟩
theorem qF(l:OpenLaw)(args:List WData):l.row.toRowW.claim.post args (.bool true) args=true:=
 postW_of (r:=l.row.toRowW) (X:=(true==true)) (show WShape.has [] (.bool true) .bool=true by first|rfl|decide|simp[WShape.has,WShape.arms,WShape.armsAll]) (show(WTm.eq .res<|.lit<|.bool true).value [] { args:=args,res:=some<|.bool true,after:=args }=some (.bool<|true==true)from w_eq_bool (w_res rfl) w_lit) rfl
theorem dk{l:OpenLaw}{n:Nat}{q:Program}{loose:List Str}{XP:(Str->Option Value)->Heap->Prop}{YP:World->Heap->Prop}{d:DefRec} (hn:l.most=some n) (MC:d.params.defaults=[]) (call:∀(w:World)(B2 BJ:Shared)(mg mb:Str->Option Value)(fa:Addr)(o:Obj)(pm cd doc:Value)(a:Addr)(vs:List Value)(ns:List Int),
  Ground q loose [] XP w B2 mg mb BJ.heap->YP w BJ.heap->
  BJ.heap.get? fa=some o->o.data=.func (docDef d.name d.params d.body d.scope pm cd doc)->BJ.heap.CodeRec cd d.name->mg d.name=some (.ref fa)->
  BJ.heap.get? a=some { cls:=.type "list",data:=.seq vs.toArray }->IntsAre vs ns->ns.length<=n->BJ.gens=#[]->
  codeAny (model l.prog w) callerA (.call (.ref fa) ⟨[.ref a],[]⟩) (λr s'=>r=.ok (.ret<|.bool true)/\OldK BJ.heap s'.heap/\s'.os=BJ.os/\AllBare s'.gens) BJ) :
 WalkO q loose XP YP l.row.toRowW d [] (λf vs=>PySem.call f vs):=by
 intro w B2 BJ mg mb G Y fa o pm cd doc dV kV ho hd BI hD hmg hg args vals as Of zP zT Ep OW;obtain rfl:dV=.none:=Dflts.none hD MC;obtain rfl:kV=.none:=Dflts.noKw hD;obtain⟨a,vs,ns,rfl,rfl,SJ,hints,Bj⟩:=um hn Of Ep;refine enter_call<|codeAny_mono (call w B2 BJ mg mb fa o pm cd doc a vs ns G Y ho (fd_plain hd) BI hmg SJ hints Bj hg) λr s' hq=>?_;obtain⟨rfl,h2,h3,h4⟩:=hq;exact⟨.inl ⟨.bool true,.bool true,[],rfl,λ_=>rfl,.bool true,qF l _,λ_=>⟨List.Pairwise.nil,λ_ hm=>(nomatch hm)⟩⟩,h2,h3,h4⟩
section
variable{prog:Program}{w:World}{A:Around}{E:Value->Shared->Prop}{s:Shared}{K:Frag}
end
end U4
namespace L2
open PySem PySem.Spec PyProof.Rows
theorem bp:∀{vs:List Value}{ns:List Int},IntsAre vs ns->An (ns.map V.int) vs
 |_,_,.nil=>.nil
 |_,_,.cons n t h=>.cons ⟨t,rfl⟩<|bp h
def Ql(H:Hp):Prop:=∀b,H b=none\/∃o xs,H b=some (.Dz o<|.lst xs)
theorem mR{P:Program}{w:World}{K:PySem.W.Frag}{mg mb:Str->Option Value}{CX:D6}{k:Nat}{fa a:Addr}{fd:FuncData}{x:Str}{sp:Sp}{BJ:Shared}{vs:List Value}{ns:List Int} (KX:K.In BJ.heap) (SH:BJ.heap.Ns mainGlobals mg) (hb:BJ.heap.Ns builtinsNs mb) (jz:∀x:Str,x≠"__name__"->mb x=bootBuiltins x) (kb:BJ.heap.NoLimit) (hg:BJ.gens=#[]) (ha:BJ.heap.get? a=some { cls:=.type "list",data:=.seq vs.toArray }) (hi:IntsAre vs ns) (hl:ns.length<=sizeLine) (hr:B4 k callerA) (F:∀base:Heap,K.In base->base.Ns mainGlobals mg->Co P w K mg base CX k fa fd [x] sp) (j0:∀(s:Shared)(u:Value),BindsTo s fd ⟨[u],[]⟩ [(x,u)]) (EE:∀H:Hp,Ql H->CO K H a (ns.map V.int)->sp [.ref a] H (λv _=>v=.bl true) λ_ _ _=>False)
 (Rl:∀H e s',CX [] H BJ (λ_ _ _=>False) e s'->False) :
 codeAny (model P w) callerA (.call (.ref fa) ⟨[.ref a],[]⟩) (λr s'=>r=.ok (.ret<|.bool true)/\OldK BJ.heap s'.heap/\s'.os=BJ.os/\AllBare s'.gens) BJ:=by
 have rv:=bp hi;have mT:=hi.length;have core:∀H:Hp,Ql H->CO K H a (ns.map V.int)->Bp P w H BJ.heap->(∀b,H b≠none->b=a)->(H a≠none->K.lookup a=none)->codeAny (model P w) callerA (.call (.ref fa) ⟨[.ref a],[]⟩) (λr s'=>r=.ok (.ret<|.bool true)/\OldK BJ.heap s'.heap/\s'.os=BJ.os/\AllBare s'.gens) BJ:=by
  intro H hO hS Ae hA hK;have Ve:∀{b:Addr}{o:Obj},BJ.heap.get? b=some o->H b=none->(HR BJ.heap H).get? b=some o:=λe n=>kP e n;have Ms:∀{b:Addr}{o:Obj}{es:Array DictEntry}{ep:Nat},BJ.heap.get? b=some o->o.data=.dict es ep->H b=none:=λ{b o es ep} e d=>by
   cases q:H b with
   |none=>rfl
   |some u=>
    have e':b=a:=hA b (by rw[q];simp);subst e';rw[ha]at e;cases e;have d':Data.seq vs.toArray _=Data.dict es ep:=d;cases d'
  have PR:∀{b:Addr}{m:Str->Option Value},BJ.heap.Ns b m->(HR BJ.heap H).Ns b m:=λ{b m} ⟨o,es,ep,e,d,r⟩=>⟨o,es,ep,Ve e<|Ms e d,d,r⟩;have Xh:K.In<|HR BJ.heap H:=λb o e=>Ve (KX b o e) (by
   cases q:H b with
   |none=>rfl
   |some u=>
    have e':b=a:=hA b (by rw[q];simp);subst e';rw[hK (by rw[q];simp)]at e;cases e)
  have hM:Mod K mg<|HR BJ.heap H:=⟨Xh,PR SH,⟨mb,PR hb,jz⟩,let ⟨mc,h1,h2⟩:=kb;⟨mc,PR h1,h2⟩⟩;have e0:JG P w K mg (HR BJ.heap H) callerA [] BJ H:=⟨rfl,hM,λb o e=>ng e,Nat.le_of_eq<|kQ _ _,trivial,λb hb=>absurd (show b∈([]:List Addr)from hb) AAB,Ae,.of_eq hg⟩;refine codeAny_mono ((F _ Xh<|PR SH).run callerA [] BJ H ⟨[.ref a],[]⟩ [.ref a] [.ref a] _ _ hr e0 (j0 BJ<|.ref a) (.cons rfl .nil)<|EE H hO hS) λr s' h=>?_;cases r with
  |error e=>exact(Rl H e s' h).elim
  |ok fl=>
   cases fl with
   |next=>exact False.elim h
   |brk=>exact False.elim h
   |cont=>exact False.elim h
   |ret u=>
    obtain⟨v,H',os,bare,un,SK,r',q⟩:=h;have q':v=.bl true:=q;subst q';obtain rfl:u=Value.bool true:=r';refine⟨rfl,OldK.of_keep λb o e=>?_,os,bare⟩;cases q:H b with
    |none=>exact un.keep b o e q (by intro z;exact absurd (show b∈([]:List Addr)from z) AAB) AAB
    |some u=>
     rcases hO b with z|⟨ob,xs,z⟩
     .rw[q]at z;cases z
     .have z2:=un.D1 b ob _ z;obtain⟨e1,_⟩:=Ae b _ z;obtain⟨e2,_⟩:=SK b _ z2;rw[e]at e1;cases e1;exact e2
 cases hk:K.lookup a with
 |some o=>
  have e:=KX a o hk;rw[ha]at e;cases e;refine core (λ_=>none) (λ_=>.inl rfl) (.inr ⟨_,vs.toArray,_,hk,rfl,rfl,rfl,by rw[AAR,mT];exact hl,by simpa using rv⟩) (λb u z=>by have z':(none:Option HO)=some u:=z;cases z') (λb z=>absurd rfl z) λz=>absurd rfl z
 |none=>
  refine core (λb=>if b=a then some (.Dz { cls:=.type "list",data:=.seq vs.toArray }<|.lst<|ns.map V.int)else none) (λb=>?_) (.inl<|.inr ⟨{ cls:=.type "list",data:=.seq vs.toArray },AAH rfl⟩) (λb u z=>?_) (λb z=>?_) λ_=>hk
  .by_cases hb:b=a
   .exact .inr ⟨_,_,AAH hb⟩
   .exact .inl<|AAG hb
  .by_cases hb:b=a
   .have z':=(AAH hb).symm.trans z;cases z';subst hb;exact⟨ha,by rw[AAO];exact hl,vs,_,rv,ha⟩
   .have z':=(AAG hb).symm.trans z;cases z'
  .by_cases hb:b=a
   .exact hb
   .exact absurd (AAG hb) z
theorem xF{l:PySem.W.OpenLaw}{n k:Nat}{q:Program}{loose:List Str}{XP:(Str->Option Value)->Heap->Prop}{YP:World->Heap->Prop}{d:DefRec}{K:Params->PySem.W.Frag}{CX:World->D6}{sp:World->Sp}{x:Str} (hn:l.most=some n) (OX:n<=sizeLine) (MC:d.params.defaults=[]) (hr:B4 k callerA) (hY:∀(w:World)(h:Heap),YP w h->(K w.params).In h) (F:∀(w:World)(mg:Str->Option Value)(fa:Addr)(h:Heap),(K w.params).In h->h.Ns mainGlobals mg->mg d.name=some (.ref fa)->
  ∃fd:FuncData,(∀(s:Shared)(u:Value),BindsTo s fd ⟨[u],[]⟩ [(x,u)])/\∀base:Heap,(K w.params).In base->base.Ns mainGlobals mg->Co l.prog w (K w.params) mg base (CX w) k fa fd [x] (sp w))
 (EE:∀(w:World)(H:Hp)(a:Addr)(ns:List Int),ns.length<=n->Ql H->CO (K w.params) H a (ns.map V.int)->sp w [.ref a] H (λv _=>v=.bl true) λ_ _ _=>False)
 (Rl:∀(w:World)(H:Hp)(s:Shared)(e:Value)(s':Shared),CX w [] H s (λ_ _ _=>False) e s'->False) :
 PySem.W.WalkO q loose XP YP l.row.toRowW d [] (λf vs=>PySem.call f vs):=by
 refine U4.dk hn MC λw B2 BJ mg mb fa o pm cd doc a vs ns G Y ho hd BI hmg SJ hints Bj hg=>?_;have KX:=hY w _ Y;obtain⟨fd,hb,hF⟩:=F w mg fa _ KX G.T.g hmg;exact mR KX G.T.g G.T.b G.T.builtins G.T.nolimit hg SJ hints (ABF Bj OX) hr hF hb (λH hO hS=>EE w H a ns Bj hO hS) λH e s'=>Rl w H BJ e s'
noncomputable def HC(s:Stmt):Arguments:=match s with
 |.FunctionDef _ a _ _ _ _ _ _ _ _=>a
 |_=>{ posonlyargs:=[],args:=[],vararg:=none,kwonlyargs:=[],kw_defaults:=[],kwarg:=none,defaults:=[] }
noncomputable def Dy(s:Stmt):List Stmt:=match s with
 |.FunctionDef _ _ b _ _ _ _ _ _ _=>b
 |_=>[]
noncomputable def BR(s:Stmt):Scope:=match s with
 |.FunctionDef _ _ _ _ _ _ sc _ _ _=>sc
 |_=>{ kind:=.function,names:=[],isGenerator:=false,isCoroutine:=false }
abbrev Dv:D6:=λ_ _ _ _ _ _=>False
abbrev E0:XK:=λ_ _ _=>False
theorem o5{X:Cx}:Passes Dv X E0:=λ_ _ _ _ _ _ _ h=>h.elim
structure EL(K:PySem.W.Frag)(x qual:Str)(st:Stmt)(f:Addr)(fd:FuncData):Prop where
 ex:∃(oc:Value)(od:Option Addr)(kV doc pm:Value)(an:Option Addr)(A1 ct:Value)(Fu:Array<|Option Value),fd=PySem.W.fnOf x qual (HC st) (Dy st) (BR st) .none kV doc pm an A1 ct/\K.lookup f=some ⟨oc,od,.func fd,Fu⟩/\PySem.W.codeIn K A1 qual=true
 kp:PySem.W.keepIn K (.ref f)=true
section
variable{P:Program}{w:World}{K:PySem.W.Frag}{mg:Str->Option Value}{base:Heap}
theorem EL.ok{x qual:Str}{st:Stmt}{f:Addr}{fd:FuncData}{N ps:List Str}{k:Nat}{sp:Sp}(F:EL K x qual st f fd)(S:Gp N ps<|BR st)(len:∀vs H Q E,sp vs H Q E->vs.length=ps.length) (Fh:∀(A1:Value)(A:Around)(outer:List Env)(s:Shared)(H:Hp)(vs:List V)(Q:VK)(E:XK),B4 k (A.deeper<|envOfC qual (BR st) s.heap.objs.size f A1)->sp vs H Q E->
  ∃t,CV (Fb Dv P w K mg base N qual (BR st) f A1 A outer s H E).Jq (Dy st) t/\t { nx:=λ_ H'=>Q .A4 H',rt:=Q } (start N vs) H):Co P w K mg base Dv (k+1) f fd ps sp:=by
 obtain⟨oc,od,kV,doc,pm,an,A1,ct,Fu,rfl,lk,BI⟩:=F.ex;refine XS lk BI S len λA outer s H vs Q E hr EE=>?_;obtain⟨t,h,q⟩:=Fh A1 A outer s H vs Q E hr EE;exact⟨t,h.Jq,q⟩
theorem EL.binds{x qual:Str}{st:Stmt}{f:Addr}{fd:FuncData}{ps:List Str}(F:EL K x qual st f fd) (h:∀(kV doc pm:Value)(an:Option Addr)(A1 ct:Value)(us:List Value),us.length=ps.length->bindArgs (PySem.W.fnOf x qual (HC st) (Dy st) (BR st) .none kV doc pm an A1 ct) ⟨us,[]⟩=pure (ps.zip us)):Binds K fd ps []:=by
 obtain⟨oc,od,kV,doc,pm,an,A1,ct,Fu,rfl,lk,BI⟩:=F.ex;exact .all<|h kV doc pm an A1 ct
theorem jC{x qual:Str}{st:Stmt}{f:Addr}{oc:Value}{od an:Option Addr}{Fu:Array (Option Value)}{kV doc pm A1 ct:Value}(l:K.lookup f=some ⟨oc,od,.func<|PySem.W.fnOf x qual (HC st) (Dy st) (BR st) .none kV doc pm an A1 ct,Fu⟩) (c:PySem.W.codeIn K A1 qual=true) (k:PySem.W.keepIn K (.ref f)=true):EL K x qual st f<|PySem.W.fnOf x qual (HC st) (Dy st) (BR st) .none kV doc pm an A1 ct:=⟨⟨oc,od,kV,doc,pm,an,A1,ct,Fu,rfl,l,c⟩,k⟩
end
theorem UN{n:Nat}(h:n<=1000):n<sizeLine:=ACp h AAC
section
variable{X:Cx}
theorem pv(i:Nat){x:Str}{pos:Pos}(hN:X.N[i]? = some x:=by rfl)(hv:DZ X.env.scope x:=by first|exact Or.inl rfl|exact Or.inr (Or.inl rfl)|exact Or.inr<|Or.inr rfl)(hd:(x==("__debug__" : Str))=false:=by decide) (BI:(x==("__classdict__" : Str))=false:=by decide):PE X (.Name x pos)<|P4 i:=Ex hN hv hd BI
end
theorem YY{A B:Prop}(h:B):if false=true then A else B:=by
 rw[AAG ABO];exact h
theorem YZ{A B:Prop}(h:A):if true=true then A else B:=by
 rw[AAH rfl];exact h
def As(H H':Hp):Prop:=∀b o,H b=some o->H' b=some o
theorem As.refl(H:Hp):As H H:=λ_ _ h=>h
theorem As.trans{H H1 H2:Hp}(a:As H H1)(b:As H1 H2):As H H2:=λc o h=>b c o<|a c o h
theorem As.free{H H':Hp}(e:As H H'){l:Addr}(h:H' l=Option.none):H l=Option.none:=by
 cases q:H l with
 |none=>rfl
 |some o=>
  rw[e l o q]at h;cases h
theorem As.seq{K:PySem.W.Frag}{H H':Hp}{a:Addr}{xs:List V}(e:As H H')(h:CO K H a xs):CO K H' a xs:=by
 rcases h with(h|⟨o,h⟩)|h
 .exact .inl<|.inl<|e _ _ h
 .exact .inl<|.inr ⟨o,e _ _ h⟩
 .exact .inr h
section
variable{κ:Type}[DecidableEq κ]
noncomputable def F3(AR:List<|κ×V)(k:κ):Option V:=(AR.find? λkv=>decide (kv.1=k)).map (·.2)
noncomputable def Ez(AR:List<|κ×V)(k:κ)(v:V):List<|κ×V:=
 if(AR.any λkv=>decide (kv.1=k))=true then AR.map (λkv=>if kv.1=k then(kv.1,v)else kv)else AR ++ [(k,v)]
theorem QE{p:κ×V}{r:List (κ×V)}{k:κ}(e:p.1=k):F3 (p::r) k=some p.2:=by simp[F3,ACT,e]
theorem QD{p:κ×V}{r:List (κ×V)}{k:κ}(e:¬ p.1=k):F3 (p::r) k=F3 r k:=by simp[F3,ACT,e]
theorem bj(k:κ):∀AR:List<|κ×V,(AR.any λkv=>decide (kv.1=k))=(F3 AR k).isSome
 |[]=>rfl
 |p::r=>by
  rw[ABM];by_cases e:p.1=k
  .simp only[QE e,ABn e,Bool.true_or,Option.isSome_some]
  .rw[QD e,ABN e,Bool.false_or];exact bj k r
theorem Yu(AR:List<|κ×V)(k:κ)(v:V):(Ez AR k v).length<=AR.length+1:=by
 unfold Ez;split
 .rw[AAO];omega
 .rw[AAn,AAc,ABi];omega
theorem FV.lb{o:Option V}{u:Option Value}(r:FV o u):o.isSome=u.isSome:=by
 cases o with
 |none=>cases u with
  |none=>rfl
  |some _=>exact(show False from r).elim
 |some _=>cases u with
  |none=>exact(show False from r).elim
  |some _=>rfl
theorem KV.val{AR:List (κ×V)}{vs:List (κ×Value)}(r:KV AR vs)(k:κ):FV (F3 AR k)<|valueAt vs k:=by
 unfold KV at r
 induction r with
 |nil=>exact True.intro
 |@cons p q ps qs h t ih=>
  obtain⟨h1,h2⟩:=h;by_cases e:p.1=k
  .have e':q.1=k:=h1.symm.trans e;have b:valueAt (q::qs) k=some q.2:=by simp[valueAt,ACT,e']
   rw[QE e,b];exact h2
  .have e':¬ q.1=k:=λz=>e<|h1.trans z;have b:valueAt (q::qs) k=valueAt qs k:=by simp[valueAt,ACT,e']
   rw[QD e,b];exact ih
theorem KV.any{AR:List (κ×V)}{vs:List (κ×Value)}(r:KV AR vs)(k:κ):(AR.any λkv=>decide (kv.1=k))=vs.any λkv=>decide (kv.1=k):=by
 unfold KV at r
 induction r with
 |nil=>rfl
 |cons h t ih=>rw[ABM,ABM,ih,h.1]
theorem KV.T6{AR:List (κ×V)}{vs:List (κ×Value)}(r:KV AR vs)(k:κ){y:V}{u:Value}(ry:RelV y u) : KV (AR.map λkv=>if kv.1=k then(kv.1,y)else kv) (vs.map λkv=>if kv.1=k then(kv.1,u)else kv):=by
 unfold KV at r ⊢
 induction r with
 |nil=>exact .nil
 |@cons p q ps qs h t ih=>
  rw[AAT,AAT];refine .cons ?_ ih;obtain⟨h1,h2⟩:=h;by_cases e:p.1=k
  .rw[AAH e,AAH<|h1.symm.trans e];exact⟨h1,ry⟩
  .rw[AAG e,AAG λz=>e<|h1.trans z];exact⟨h1,h2⟩
theorem KV.put{AR:List (κ×V)}{vs:List (κ×Value)}(r:KV AR vs)(k:κ){y:V}{u:Value}(ry:RelV y u):KV (Ez AR k y)<|stored vs k u:=by
 unfold Ez stored;rw[r.any k];by_cases e:(vs.any λkv=>decide (kv.1=k))=true
 .rw[AAH e,AAH e];exact r.T6 k ry
 .rw[AAG e,AAG e];exact Paired.snoc r ⟨rfl,ry⟩
theorem KV.length{AR:List (κ×V)}{vs:List (κ×Value)}(r:KV AR vs):AR.length=vs.length:=Paired.length r
end
theorem S7{P:Program}{w:World}{k:Key}{u:Value}(r:RelV (kV k) u):(Ew P w).is k u=true:=by
 cases k with
 |inl i=>obtain⟨t,e⟩:=(show ∃t,u=Value.int i t from r);subst e;exact nC P w i t
 |inr x=>obtain⟨t,e⟩:=(show ∃t,u=Value.str x t from r);subst e;exact nD P w x t
theorem Yb{P:Program}{w:World}:∀{ks:List Key}{us:List Value},An (ks.map kV) us->ItemsAre (Ew P w) ks us
 |[],_,r=>by rw[ACG]at r;cases r;exact .nil
 |k::ks,_,r=>by
  rw[AAT]at r;cases r with
  |cons h t=>exact .cons (S7 h)<|Yb t
abbrev KT(H:Hp):List (List Key×V)->List (List Key×Addr×Value)->Prop:=Paired λp q=>p.1=q.1/\H q.2.1=some (.tup<|p.1.map kV)/\RelV p.2 q.2.2
theorem KT.val{H:Hp}{AR:List (List Key×V)}{xs:List (List Key×Addr×Value)}(r:KT H AR xs)(k:List Key):FV (F3 AR k) ((atKey xs k).map (·.2)):=by
 induction r with
 |nil=>exact True.intro
 |@cons p q ps qs h t ih=>
  obtain⟨h1,_,h2⟩:=h;by_cases e:p.1=k
  .have e':q.1=k:=h1.symm.trans e;have b:atKey (q::qs) k=some q.2:=by simp[atKey,ACT,e']
   rw[QE e,b];exact h2
  .have e':¬ q.1=k:=λz=>e<|h1.trans z;have b:atKey (q::qs) k=atKey qs k:=by simp[atKey,ACT,e']
   rw[QD e,b];exact ih
theorem KT.T6{H:Hp}{AR:List (List Key×V)}{xs:List (List Key×Addr×Value)}(r:KT H AR xs)(k:List Key){y:V}{u:Value}(ry:RelV y u) : KT H (AR.map λkv=>if kv.1=k then(kv.1,y)else kv)<|xs.map<|putAt k u:=by
 induction r with
 |nil=>exact .nil
 |@cons p q ps qs h t ih=>
  rw[AAT,AAT];refine .cons ?_ ih;obtain⟨h1,h2,h3⟩:=h;unfold putAt;by_cases e:p.1=k
  .rw[AAH e,AAH<|h1.symm.trans e];exact⟨h1,h2,ry⟩
  .rw[AAG e,AAG λz=>e<|h1.trans z];exact⟨h1,h2,h3⟩
theorem KT.put{H:Hp}{AR:List (List Key×V)}{xs:List (List Key×Addr×Value)}(r:KT H AR xs)(k:List Key){b:Addr}{y:V}{u:Value}(hb:H b=some (.tup<|k.map kV))(ry:RelV y u) : KT H (Ez AR k y)<|storedH xs k b u:=by
 have e:(AR.any λkv=>decide (kv.1=k))=(atKey xs k).isSome:=by
  rw[bj,(r.val k).lb,Option.isSome_map]
 unfold Ez storedH;rw[e];by_cases q:(atKey xs k).isSome=true
 .rw[AAH q,AAH q];exact r.T6 k ry
 .rw[AAG q,AAG q];exact Paired.snoc r ⟨rfl,hb,ry⟩
theorem KT.keeps{H H':Hp}{AR:List (List Key×V)}{xs:List (List Key×Addr×Value)}(r:KT H AR xs)(ht:∀b ys,H b=some (.tup ys)->H' b=some (.tup ys)):KT H' AR xs:=
 Paired.PC r λ_ _ z=>⟨z.1,ht _ _ z.2.1,z.2.2⟩
section
variable{P:Program}{w:World}{H:Hp}{h:Heap}{a:Addr}
theorem aE{u:HO}(ok:Bp P w H h)(e:Rd H a u):Bx P w H h a u:=e.ok ok
theorem RK{AR:List (Key×V)}(ok:Bp P w H h)(e:Rd H a<|.dK AR):AR.length<=sizeLine/\(a==sysModules)=false/\∃vs,KV AR vs/\h.DictOf (Ew P w) a vs:=
 show Bx P w H h a (.dK AR)from aE ok e
theorem gw{AR:List (Key×V)}(ok:Bp P w H h)(e:H a=some (.dK AR)):AR.length<=sizeLine/\(a==sysModules)=false/\∃vs,KV AR vs/\h.DictOf (Ew P w) a vs:=RK ok<|.inl e
theorem S9{ks:List Key}(ok:Bp P w H h)(e:H a=some (.tup<|ks.map kV)):(tupleKind<|Ew P w).is h ks a:=by
 obtain⟨_,its,r,o,h1,h2,n,h3⟩:=(show Bx P w H h a (.tup<|ks.map kV)from ok a _ e);exact⟨o,its.toArray,n,h1,h2,h3,by simpa using Yb r⟩
theorem RL{AR:List (List Key×V)}(ok:Bp P w H h)(e:Rd H a<|.dT AR):AR.length<=sizeLine/\(a==sysModules)=false/\∃xs,KT H AR xs/\h.DictOfH (tupleKind<|Ew P w) a xs:=by
 obtain⟨z,y,xs,r,o,es,ep,h1,h2,h3,h4,h5⟩:=(show Bx P w H h a (.dT AR)from aE ok e);refine⟨z,y,xs,r,o,es,ep,h1,h2,h3,h4,λx hx=>?_,h5⟩;have all:∀{l:List (List Key×V)}{m:List (List Key×Addr×Value)},KT H l m->∀x∈m,(tupleKind<|Ew P w).is h x.1 x.2.1:=by
  intro l m q
  induction q with
  |nil=>intro x hx;exact nomatch hx
  |@cons p q ps qs hq t ih=>
   intro x hx;rcases AAi.mp hx with e|hx
   .subst e;exact S9 ok (by rw[<-hq.1];exact hq.2.1)
   .exact ih x hx
 exact all r x hx
theorem g7{AR:List (List Key×V)}(ok:Bp P w H h)(e:H a=some (.dT AR)):AR.length<=sizeLine/\(a==sysModules)=false/\∃xs,KT H AR xs/\h.DictOfH (tupleKind<|Ew P w) a xs:=RL ok<|.inl e
end
def QM(H:Hp)(a:Addr)(y:V)(r:Option V):Prop:=
 (∃AR k,Rd H a (.dK AR)/\y=kV k/\r=F3 AR k)\/∃AR k b,Rd H a (.dT AR)/\y=.ref b/\H b=some (.tup<|k.map kV)/\r=F3 AR k
def U5(H:Hp)(a:Addr)(y v:V)(H':Hp):Prop:=
 (∃AR k,H a=some (.dK AR)/\y=kV k/\AR.length<sizeLine/\H'=upd H a (.dK<|Ez AR k v))\/
 ∃AR k b,H a=some (.dT AR)/\y=.ref b/\H b=some (.tup<|k.map kV)/\AR.length<sizeLine/\H'=upd H a (.dT<|Ez AR k v)
section
variable{X:Cx}{AE:List (Addr×Obj)}{σ:St}{H:Hp}{s:Shared}{a:Addr}{y v:V}{u r:Value}{o:Option V}{A:Around}{E:Value->Shared->Prop}
theorem Inv.big(I:Inv X AE σ H s):sysModules<s.heap.objs.size:=by
 have h:mainGlobals<s.heap.objs.size:=(I.mod.glob.keeps I.bk).lt;exact ADy AAC h
theorem gN{Q:Value->Shared->Prop}(hu:A.units+1<cLine)(I:Inv X AE σ H s)(g:QM H a y<|some v)(ry:RelV y u)(h:∀w' s',Inv X AE σ H s'->RelV v w'->Q w' s') : wpAny (model X.prog X.w) A (getItem (.ref a) u) Q E s:=by
 rcases g with⟨AR,k,e,ey,l⟩|⟨AR,k,b,e,ey,eb,l⟩
 .subst ey;obtain⟨z,hd,vs,rel,dd⟩:=RK I.Ae e;obtain⟨w',hw,CM⟩:=FV.some_of (v:=v) (o:=valueAt vs k) (by rw[l];exact rel.val k);exact wpAny_getItem_of (S7 ry) dd.mapOf hw<|h w' _ (I.tok _) CM
 .subst ey;cases (show u=Value.ref b from ry);obtain⟨z,hd,xs,rel,dd⟩:=RL I.Ae e;obtain⟨w',hw,CM⟩:=FV.some_of (v:=v) (o:=(atKey xs k).map (·.2)) (by rw[l];exact rel.val k);obtain⟨p,hp,SN⟩:=ADd.mp hw;refine wpAny_getItem_heap (tupleKind_room_in1 hu) (S9 I.Ae eb) dd hp ?_;rw[SN];exact h w' _ (I.tok _) CM
theorem WB{h':Heap}{t':Nat}{ob:HO}(I:Inv X AE σ H s)(mu:Lh<|H a)(hs:Heap.SameBut a s.heap h')(he:∃q,h'.get? a=some q)(new:Bx X.prog X.w (upd H a ob) h' a ob) : Inv X AE σ (upd H a ob) { s with heap:=h',toks:=t' }:=
 I.write (x:=a) (e:=a) mu (.inl rfl) (λb q hb z=>(hs.2 b hb).trans z) he new
theorem gv{P:Program}{w:World}{H':Hp}{h':Heap}{AR:List (Key×V)}{vs:List (Key×Value)}(z:AR.length<=sizeLine)(hd:(a==sysModules)=false)(rel:KV AR vs)(dd:h'.DictOf (Ew P w) a vs) : Bx P w H' h' a<|.dK AR:=⟨z,hd,vs,rel,dd⟩
theorem gO{H':Hp}{Q:Unit->Shared->Prop}(hu:A.units+1<cLine)(I:Inv X AE σ H s)(g:U5 H a y v H')(ry:RelV y u)(rv:RelV v r)(h:∀s',Inv X AE σ H' s'->Q () s') : wpAny (model X.prog X.w) A (setItem (.ref a) u r) Q E s:=by
 rcases g with⟨AR,k,e,ey,l,eH⟩|⟨AR,k,b,e,ey,eb,l,eH⟩
 .subst ey eH;obtain⟨z,hd,vs,rel,dd⟩:=gw I.Ae e;have hz:vs.length<=sizeLine:=by rw[<-rel.length];exact z
  have hl:(Ez AR k v).length<=sizeLine:=by have:=Yu AR k v;omega
  refine wpAny_setItem_pairs (hsz:=hz) (S7 ry) dd λh' Ny hs=>h _ ?_;have he:∃q,h'.get? a=some q:=let ⟨q,_,_,hq,_⟩:=Ny;⟨q,hq⟩
  exact WB I (by rw[e];exact True.intro) hs he<|gv hl hd (rel.put k rv) Ny
 .subst ey eH;cases (show u=Value.ref b from ry);obtain⟨z,hd,xs,rel,dd⟩:=g7 I.Ae e;have hz:xs.length<=sizeLine:=by rw[<-Paired.length rel];exact z
  have hl:(Ez AR k v).length<=sizeLine:=by have:=Yu AR k v;omega
  refine wpAny_setItem_heap (hsz:=hz) (tupleKind_room_in1 hu) (S9 I.Ae eb) dd λh' Ny hs=>h _ ?_;obtain⟨q,es,ep,hq,h2,h3,h4,_,h5⟩:=Ny;refine WB I (by rw[e];exact True.intro) hs ⟨q,hq⟩ ⟨hl,hd,_,(rel.put k eb rv).keeps λc ys ec=>?_,q,es,ep,hq,h2,h3,h4,h5⟩;rw[BK<|nO ec e λz=>nomatch z];exact ec
end
section
variable{X:Cx}{AE:List (Addr×Obj)}{σ:St}{H:Hp}{s:Shared}{a:Addr}{AR:List (Key×V)}{k:Key}{u:Value}{A:Around}{E:Value->Shared->Prop}
end
def Qj(i:Expr):Prop:=∀ov iv,subscripted i false ov iv=operate [ov,iv] (getItem ov iv)
theorem vO{prog:Program}{w:World}{A:Around}{E:Value->Shared->Prop}{s:Shared}{env:Env}{value slice:Expr}{pos:Pos}{T id:String}{Q:Value->Shared->Prop} (hl:typeLookup (.type T) "__getitem__" = pure (some<|.builtin id)) (hs:Qj slice) (h:wpAny (model prog w) A (eval value env) (λo BJ=>wpAny (model prog w) A (eval slice env) (λi F2=>F2.TypeIs o T/\wpAny (model prog w) A (getItem o i) Q E F2) E BJ) E s) :
 wpAny (model prog w) A (eval (.Subscript value slice pos) env) Q E s:=by
 refine Subscript_<|wpAny_mono h (λo BJ Ig=>wpAny_mono Ig (λi F2 Ku=>?_) λ_ _ x=>x) λ_ _ x=>x;obtain⟨hT,Ku⟩:=Ku;unfold subscriptTail;refine wpAny_bind ?_;rw[getitemInPython_of_ne hT.not_modules];refine wpAny_bind<|wpAny_specialOf hT hl ?_;have fin:wpAny (model prog w) A (subscripted slice false o i) (λr Iw=>wpAny (model prog w) A (letTemporaryGo value o r >>= λ_=>pure r) Q E Iw) E F2:=by
  rw[hs o i];exact wpAny_operating<|wpAny_mono Ku (λr Iw Ot=>wpAny_bind<|wpAny_letTemporaryGo<|wpAny_pure Ot) λ_ _ x=>x
 first
  |exact wpAny_pure<|wpAny_bind fin
  |exact wpAny_bind<|wpAny_pure<|wpAny_bind fin
  |exact wpAny_bind fin
theorem gu{X:Cx}{AE:List (Addr×Obj)}{σ:St}{H:Hp}{s:Shared}{a:Addr}{y:V}{o:Option V}(I:Inv X AE σ H s)(g:QM H a y o):s.TypeIs (.ref a) "dict":=by
 rcases g with⟨AR,k,e,_,_⟩|⟨AR,k,b,e,_,_,_⟩
 .obtain⟨_,_,vs,_,dd⟩:=RK I.Ae e;exact dd.typeIs
 .obtain⟨_,_,xs,_,dd⟩:=RL I.Ae e;exact dd.typeIs
def vU(td ty:TE):TE:=λσ H Q=>td σ H λx H1=>ty σ H1 λy H2=>∃a v,x=.ref a/\QM H2 a y (some v)/\Q v H2
def uc(td ty tv:TE):TS:=λD σ H=>tv σ H λv H1=>td σ H1 λx H2=>ty σ H2 λy H3=>∃a H4,x=.ref a/\U5 H3 a y v H4/\D.nx σ H4
section
variable{X:Cx}{o i e value:Expr}{pos pos' J6:Pos}{td ty tv:TE}
theorem pK(hu:X.A.units+1<cLine)(ho:PE X o td)(hi:PE X i ty)(hs:Qj i):PE X (.Subscript o i pos)<|vU td ty:=by
 intro AE s σ H Q I h;refine vO PySem.F.slot_dict_getitem.lookup hs<|Aj (ho AE s σ H _ I h) λu s1 ⟨x,H1,I1,rx,q1⟩=>Aj (hi AE s1 σ H1 _ I1 q1) λiv s2 ⟨y,H2,I2,ry,a,v,ex,g,q2⟩=>?_;subst ex;obtain rfl:u=Value.ref a:=rx;exact⟨gu I2 g,gN hu I2 g ry λw' s3 I3 CM=>⟨v,H2,I3,CM,q2⟩⟩
theorem qI(hu:X.A.units+1<cLine)(ho:PE X o td)(hi:PE X i ty)(hv:PE X value tv)(hs:swapsWith value (some<|.Subscript o i pos') pos.line X.env=pure false) : PS X (.Assign [.Subscript o i pos'] value pos)<|uc td ty tv:=by
 intro AE s σ H D I h;refine wpAny_Assign_Subscript (Aj (hv AE s σ H _ I h) λr s1 ⟨v,H1,I1,rv,q1⟩=>Aj (ho AE s1 σ H1 _ I1 q1) λu s2 ⟨x,H2,I2,rx,q2⟩=>Aj (hi AE s2 σ H2 _ I2 q2) λiv s3 ⟨y,H3,I3,ry,a,H4,ex,g,q3⟩=>?_) hs;subst ex;obtain rfl:u=Value.ref a:=rx;exact gO hu I3 g ry rv λs4 I4=>⟨σ,H4,I4,q3⟩
end
theorem g6{P:Program}{w:World}{H:Hp}(h:Heap)(hb:sysModules<h.objs.size):Bx P w H (h.push { cls:=.type "dict",data:=.dict #[] }) h.objs.size<|.dT []:=
 ⟨ABs _,AAd.mpr<|AA3<|AAZ hb,[],.nil,_,#[],0,Heap.get?_push_size _ rfl,⟨rfl,rfl,rfl⟩,rfl,rfl,ADh⟩
def vV:TE:=λ_ H Q=>∀p,H p=none->Q (.ref p) (upd H p<|.dT [])
section
variable{X:Cx}{pos:Pos}
theorem pL:PE X (.Dict [] [] pos) vV:=λAE s σ H Q I h=>
 wpAny_Dict_empty ⟨.ref s.heap.objs.size,_,I.laid (a:=s.heap.objs.size) (o:=.dT []) (t':=s.toks) (λ_ _ q=>Heap.get?_push_of_some _ q) (AAS _)<|g6 s.heap I.big,rfl,h _<|I.Ae.fresh<|AAS _⟩
end
end L2
set_option linter.all false
namespace L2
open PySem
noncomputable def Dc(cells:List<|Str×Addr):List (Str×NameKind)->List (Str×Addr)->List (Str×Addr)
 |[],acc=>acc
 |(n,k)::r,acc=>if(k==NameKind.free)=true then(match cells.lookup n with|some c=>Dc cells r ((n,c)::acc)|none=>Dc cells r acc)else Dc cells r acc
theorem Vx{scope:Scope}{env:Env}(h:∀y∈scope.names,y.2=.free->∃c,env.cells.lookup y.1=some c):closureFor scope env=pure (Dc env.cells scope.names []):=by
 simp only[closureFor];generalize ([]:List<|Str×Addr)=acc;revert h acc;generalize scope.names=l
 induction l with
 |nil=>intro h acc;simp[Dc]
 |cons x r ih=>
  intro h acc;obtain⟨n,k⟩:=x;rw[List.forIn_cons];by_cases hk:(k==NameKind.free)=true
  .have Bi:k=.free:=by simpa using hk
   obtain⟨c,hc⟩:=h (n,k) (AAf) Bi;have GO:cellOf env n=pure c:=by unfold cellOf;rw[show env.cells.lookup n=some c from hc]
   simp only[Dc,hk,AB0,GO,pure_bind];rw[show List.lookup n env.cells=some c from hc];exact ih (λy hy=>h y<|AAX _ hy) _
  .simp only[Dc,hk,ACV,pure_bind,ABv];exact ih (λy hy=>h y<|AAX _ hy) _
theorem HA{cells:List (Str×Addr)}:∀{l:List (Str×NameKind)}{acc:List (Str×Addr)}{x:Str}{c:Addr},(∀y d,acc.lookup y=some d->cells.lookup y=some d)->(Dc cells l acc).lookup x=some c->cells.lookup x=some c
 |[],acc,x,c,ha,h=>ha x c h
 |(n,k)::r,acc,x,c,ha,h=>by
  unfold Dc at h;split at h
  .split at h
   .rename_i d hd;refine HA (l:=r) (acc:=(n,d)::acc) (λy e hy=>?_) h;rw[ABe]at hy;split at hy
    .rename_i Sn;have:y=n:=by simpa using Sn
     subst this;rw[hd];exact hy
    .exact ha y e hy
   .exact HA (l:=r) ha h
  .exact HA (l:=r) ha h
theorem fu{prog:Program}{w:World}{A:Around}{R:Result->Shared->Prop}{s:Shared}{elt LL iter:Expr}{ifs:List Expr}{scope:Scope}{pos:Pos}{it acc:Value}{env:Env}(I:Nat->Shared->Prop) (turn:∀n s,I n s->wpAny (model prog w) A (pyNext it) (λr BJ=>match r with
  |none=>R (.ok .next) BJ
  |some v=>wpAny (model prog w) A (letOwnedTupleGo LL it v) (λ_ ar=>wpAny (model prog w) A (assign LL env v) (λ_ F2=>
   wpAny (model prog w) A (forIn ifs true λc r=>if r=true then do let ok<-isTrue c env<|eval c env;pure (ForInStep.yield ok)else pure (ForInStep.yield r)) (λok Iw=>
    if ok=true then wpAny (model prog w) A (eval elt env) (λx P1=>
     wpAny (model prog w) A (call (.builtin "list.append") [acc,x]) (λ_ au=>∃m,m<n/\I m au) (λ_ _=>False) P1) (λ_ _=>False) Iw
    else ∃m,m<n/\I m Iw) (λ_ _=>False) F2) (λ_ _=>False) ar) (λ_ _=>False) BJ) (λ_ _=>False) s)
 (n:Nat) (h:I n s) :
 codeAny (model prog w) A (.compLoop (.ListComp elt [⟨LL,iter,ifs,0⟩] scope pos) 0 it acc env) R s:=by
 refine codeAny_loop rfl I (λn s hI=>?_) n h;show wpAny _ A ((compTurn (.ListComp elt [⟨LL,iter,ifs,0⟩] scope pos) 0 it acc env).onRaise (λx=>do noteFrame x env;theTreesLotGoes x)) _ _ s;refine wpAny_noted ?_;rw[compTurn_list];refine wpAny_bind<|wpAny_standAt<|wpAny_bind<|wpAny_mono (turn n s hI) (λr BJ Ig=>?_) λ_ _ h'=>False.elim h';cases r with
 |none=>exact wpAny_pure Ig
 |some v=>
  refine wpAny_bind<|wpAny_mono Ig (λ_ ar lP=>?_) λ_ _ h'=>False.elim h';refine wpAny_bind<|wpAny_mono lP (λ_ F2 Ku=>wpAny_bind<|wpAny_mono Ku (λok Iw Ot=>?_) λ_ _ h'=>False.elim h') λ_ _ h'=>False.elim h';cases ok with
  |false=>exact wpAny_pure ⟨rfl,Ot⟩
  |true=>
   exact wpAny_bind<|wpAny_bind<|wpAny_mono Ot (λx P1 YS=>wpAny_bind<|wpAny_mono YS (λ_ au MT=>wpAny_pure<|wpAny_pure ⟨rfl,MT⟩) λ_ _ h'=>False.elim h') λ_ _ h'=>False.elim h'
end L2
set_option linter.all false
namespace ST
open PySem PySem.SetTable
theorem V0(l:List Nat)(j:Nat):l.countP (· < j)<=l.length:=List.countP_le_length
theorem M9:∀(l:List Nat)(j:Nat),l.Pairwise (· < ·)->∀i (h:i<l.length),(l[i]<j↔i<l.countP (· < j))
 |[],_,_,i,h=>by simp at h
 |x::r,j,hs,i,h=>by
  obtain⟨h1,h2⟩:=ACq.mp hs;by_cases hx:x<j
  .rw[List.countP_cons_of_pos<|by simpa using hx];cases i with
   |zero=>simp[hx]
   |succ i=>
    have:=M9 r j h2 i (by simpa using h);simp only[ACW];lia
  .have Bf:∀y∈r,¬ y<j:=λy hy=>by have:=h1 y hy;lia
   have h0:r.countP (· < j)=0:=List.countP_eq_zero.mpr λy hy=>by simpa using Bf y hy
   rw[List.countP_cons_of_neg (by simpa using hx),h0];cases i with
   |zero=>simp[hx]
   |succ i=>
    simp only[ACW];have:=Bf _ (AB2<|by simpa using h);lia
theorem Q1(xs:Array Nat)(j:Nat)(hs:xs.toList.Pairwise (· < ·)):∀(f lo hi:Nat),hi-lo<=f->hi<=xs.size->lo<=xs.toList.countP (· < j)->xs.toList.countP (· < j)<=hi->below.go xs j f lo hi=xs.toList.countP (· < j)
 |0,lo,hi,h1,h2,h3,h4=>by unfold below.go;lia
 |f+1,lo,hi,h1,h2,h3,h4=>by
  unfold below.go;by_cases BH:lo<hi
  .rw[AAH BH];have hm:(lo+hi) / 2<xs.size:=J
   have hg:xs.getD ((lo+hi) / 2) j=xs.toList[(lo+hi) / 2]'(by simpa using hm):=by simp[Array.getD,hm]
   have:=M9 xs.toList j hs ((lo+hi) / 2) (by simpa using hm);dsimp only;rw[hg];by_cases hc:xs.toList[(lo+hi) / 2]'(by simpa using hm)<j
   .rw[AAH hc];exact Q1 xs j hs f _ hi J h2 J h4
   .rw[AAG hc];exact Q1 xs j hs f lo _ J J h3 (by have:=λz=>hc<|this.mpr z;lia)
  .rw[AAG BH];lia
theorem Q0(xs:Array Nat)(j:Nat)(hs:xs.toList.Pairwise (· < ·)):below xs j=xs.toList.countP (· < j):=by
 exact Q1 xs j hs xs.size 0 xs.size J (AAS _) (ABs _) (by have:=V0 xs.toList j;simpa using this)
theorem Lo(xs:Array Nat)(j:Nat)(hs:xs.toList.Pairwise (· < ·))(i:Nat)(h:xs[i]? = some j):below xs j=i:=by
 obtain⟨hi,e⟩:=ACe.mp h;rw[Q0 xs j hs];have h1:=M9 xs.toList j hs i (by simpa using hi);have e':xs.toList[i]'(by simpa using hi)=j:=by simpa using e
 rw[e']at h1;by_cases h3:xs.toList.countP (· < j)=i
 .exact h3
 .have hl:xs.toList.countP (· < j)<xs.toList.length:=by rw[ABh];lia
  have h4:=M9 xs.toList j hs _ hl;have h5:=ABC.mp hs _ _ hl (by simpa using hi) J;rw[e']at h5;lia
theorem aY{t:SetTable}(hs:t.place.toList.Pairwise (· < ·)){i j:Nat}(h:t.place[i]? = some j):t.slot j=.live i:=by
 unfold slot;dsimp only;rw[Lo _ _ hs i h,h];simp
theorem vC{t:SetTable}(hd:t.dummies=#[]){j:Nat}(h:j∉t.place.toList):t.slot j=.empty:=by
 unfold slot;have h1:¬ (t.place[below t.place j]? == some j)=true:=by
  intro z;rw[ABt]at z;have:=Array.mem_of_getElem? z;exact h<|by simpa using this
 rw[AAG h1];have h2:has t.dummies j=false:=by rw[hd];simp[has]
 rw[h2];simp
theorem lX(xs:Array Nat)(j:Nat)(hs:xs.toList.Pairwise (· < ·))(hj:j∉xs.toList):(insertAt xs (below xs j) j).toList.Pairwise (· < ·):=by
 rw[SetTable.toList_insertAt,Q0 xs j hs];have EE:=M9 xs.toList j hs;rw[ABQ];refine⟨hs.sublist<|ADJ _ _,?_,?_⟩
 .rw[ACq];refine⟨λy hy=>?_,hs.sublist<|List.drop_sublist _ _⟩;obtain⟨k,hk,e⟩:=AB1 hy;rw[List.getElem_drop]at e;rw[ACH]at hk;have:=EE (xs.toList.countP (· < j)+k) J;have Aq:y≠j:=λz=>hj<|z ▸ ACc hy;rw[e]at this;lia
 .intro a ha b hb;obtain⟨k,hk,e⟩:=AB1 ha;rw[List.getElem_take]at e;rw[ABd]at hk;have h1:=EE k J;rw[e]at h1;have IS:=h1.mpr J;rcases AAi.mp hb with rfl|hb
  .exact IS
  .obtain⟨k',Bi,e'⟩:=AB1 hb;rw[List.getElem_drop]at e';rw[ACH]at Bi;have:=EE (xs.toList.countP (· < j)+k') J;rw[e']at this;lia
noncomputable def CA(mask i:Nat):Nat:=runEnd mask i-i
theorem uW(mask i:Nat):CA mask i<=9:=by unfold CA runEnd;split<;>lia
def Gz(mask:Nat)(p:Probe):Probe:=
 if p.more>0 then { p with j:=p.j+1,more:=p.more-1 }else
 { p with j:=(leap mask p.i p.perturb).1,more:=CA mask (leap mask p.i p.perturb).1,i:=(leap mask p.i p.perturb).1,perturb:=(leap mask p.i p.perturb).2 }
def vM(mask:Nat)(h:Int):Probe:={ j:=bits h%(mask+1),more:=CA mask<|bits h%(mask+1),i:=bits h%(mask+1),perturb:=bits h,dummy:=none }
def road(mask:Nat)(h:Int):Nat->Probe
 |0=>vM mask h
 |n+1=>Gz mask<|road mask h n
theorem aJ(mask:Nat)(h:Int):∀n,(road mask h n).dummy=none
 |0=>rfl
 |n+1=>by
  have:=aJ mask h n;unfold road Gz;split<;>simpa using this
noncomputable def BN(mask:Nat):Nat->Nat×Nat->Nat×Nat
 |0,x=>x
 |n+1,x=>leap mask (BN mask n x).1 (BN mask n x).2
noncomputable def L0(mask:Nat)(h:Int):Nat×Nat:=(bits h%(mask+1),bits h)
theorem Pq(mask:Nat)(h:Int)(r i pt:Nat)(hr:road mask h r=⟨i,CA mask i,i,pt,none⟩):∀k,k<=CA mask i->road mask h (r+k)=⟨i+k,CA mask i-k,i,pt,none⟩
 |0,_=>by simpa using hr
 |k+1,hk=>by
  have ih:=Pq mask h r i pt hr k J;show Gz mask (road mask h<|r+k)=_;rw[ih];unfold Gz;rw[AAH (by show CA mask i-k>0;lia)];simp only[and_true];lia
theorem aK(mask:Nat)(h:Int):∀n,∃r,r<=10*n/\road mask h r=⟨(BN mask n<|L0 mask h).1,CA mask (BN mask n<|L0 mask h).1,(BN mask n<|L0 mask h).1,(BN mask n<|L0 mask h).2,none⟩
 |0=>⟨0,AAS _,rfl⟩
 |n+1=>by
  obtain⟨r,hr,e⟩:=aK mask h n;have h1:=Pq mask h r _ _ e _<|AAS _;have hl:=uW mask (BN mask n<|L0 mask h).1;refine⟨r+CA mask (BN mask n<|L0 mask h).1+1,J,?_⟩;show Gz mask (road mask h<|r+CA mask (BN mask n<|L0 mask h).1)=_;rw[h1];unfold Gz;rw[AAG (by show ¬ (CA mask _-CA mask _>0);lia)]
  rfl
theorem du(h:Int):bits h<2 ^ 64:=by
 unfold bits;lia
theorem Yr(mask:Nat)(x:Nat×Nat):∀n,(BN mask n x).2=x.2 / 32 ^ n
 |0=>by simp[BN]
 |n+1=>by
  unfold BN leap;dsimp only;rw[Yr mask x n,Nat.div_div_eq_div_mul,Nat.pow_succ]
theorem pV(mask:Nat)(h:Int)(n:Nat)(hn:13<=n):(BN mask n<|L0 mask h).2=0:=by
 rw[Yr];have h1:=du h;have h2:2 ^ 64<=32 ^ n:=ABF AAC<|Nat.pow_le_pow_right AAC hn;exact Nat.div_eq_of_lt<|AAe h1 h2
noncomputable def AA(mask:Nat):Nat->Nat->Nat
 |0,i=>i
 |n+1,i=>(AA mask n i*5+1)%(mask+1)
theorem Yq(mask:Nat)(h:Int):∀n,(BN mask (13+n)<|L0 mask h).1=AA mask n (BN mask 13<|L0 mask h).1
 |0=>rfl
 |n+1=>by
  show(leap mask (BN mask (13+n)<|L0 mask h).1 (BN mask (13+n)<|L0 mask h).2).1=_;rw[pV mask h (13+n) J,Yq mask h n];show(AA mask n _*5+1+0 / 32)%(mask+1)=(AA mask n _*5+1)%(mask+1);simp
theorem mS(mask:Nat)(h:Int):∀n,(BN mask n<|L0 mask h).1<mask+1
 |0=>ADo _<|ADP _
 |n+1=>ADo _<|ADP _
theorem gI:∀i<8,∀j<8,∃n<8,AA 7 n i=j:=AAC
theorem gH:∀i<32,∀j<32,∃n<32,AA 31 n i=j:=AAD
def Good(mask:Nat):Prop:=mask=7\/mask=31
theorem Ys{mask:Nat}(hm:Good mask)(h:Int){j:Nat}(hj:j<=mask):∃n,n<turns mask-1/\(BN mask n<|L0 mask h).1=j:=by
 have hl:=mS mask h 13;have:∃n<mask+1,AA mask n (BN mask 13<|L0 mask h).1=j:=by
  rcases hm with rfl|rfl
  .exact gI _ hl j J
  .exact gH _ hl j J
 obtain⟨n,hn,e⟩:=this;exact⟨13+n,by unfold turns;lia,by rw[Yq];exact e⟩
theorem uQ{mask:Nat}(hm:Good mask)(h:Int){j:Nat}(hj:j<=mask):∃n,n<10*turns mask/\(road mask h n).j=j:=by
 obtain⟨n,hn,e⟩:=Ys hm h hj;obtain⟨r,hr,er⟩:=aK mask h n;exact⟨r,by unfold turns at *;lia,by rw[er];exact e⟩
theorem ZI:∀(l1 l2:List Nat),l1.Nodup->(∀x∈l1,x∈l2)->l1.length<=l2.length
 |[],_,_,_=>ABs _
 |x::r,l2,hn,hs=>by
  obtain⟨h1,h2⟩:=ABz.mp hn;have hx:=hs x AAf;have:=ZI r (l2.erase x) h2 λy hy=>(List.mem_erase_of_ne (show y≠x from λz=>h1<|z ▸ hy)).mpr<|hs y<|AAX _ hy;rw[List.length_erase_of_mem hx]at this;have hp:=AC0 hx;rw[AAc];lia
theorem XZ(mask:Nat)(L:List Nat)(hn:L.Nodup)(hl:L.length<=mask)(hle:∀j∈L,j<=mask):∃j,j<=mask/\j∉L:=by
 refine AAz λh=>?_;have Bf:∀j,j∈List.range (mask+1)->j∈L:=λj hj=>AAz λz=>h ⟨j,by have:=AAP.mp hj;lia,z⟩;have:=ZI _ _ (ADQ ) Bf;rw[ABg]at this;lia
theorem iy{mask:Nat}(hm:Good mask)(h:Int)(L:List Nat)(hn:L.Nodup)(hl:L.length<=mask)(hle:∀j∈L,j<=mask):∃n,n<10*turns mask/\(road mask h n).j∉L/\∀m<n,(road mask h m).j∈L:=by
 obtain⟨j,hj,kU⟩:=XZ mask L hn hl hle;obtain⟨n,hn,e⟩:=uQ hm h hj;have key:∀k,(∃n,n<k/\(road mask h n).j∉L)->∃n,n<k/\(road mask h n).j∉L/\∀m<n,(road mask h m).j∈L:=by
  intro k
  induction k with
  |zero=>rintro⟨n,hn,_⟩;lia
  |succ k ih=>
   rintro⟨n,hn,e⟩;by_cases hex:∃n,n<k/\(road mask h n).j∉L
   .obtain⟨n',h1,h2,h3⟩:=ih hex;exact⟨n',J,h2,h3⟩
   .have ko:n=k:=by
     by_cases z:n<k
     .exact absurd ⟨n,z,e⟩ hex
     .lia
    subst ko;exact⟨n,hn,e,λm hm=>AAz λz=>hex ⟨m,hm,z⟩⟩
 exact key _ ⟨n,hn,by rw[e];exact kU⟩
end ST
set_option linter.all false
namespace ST
open PySem PySem.SetTable
theorem Zw{t:SetTable}(hs:t.place.toList.Pairwise (· < ·))(hd:t.dummies=#[])(hashAt:Nat->Int)(h:Int)(N:Nat)(hN:(road t.mask h N).j∉t.place.toList):∀(f n:Nat),n<=N->N-n<f->(∀m,n<=m->m<N->(road t.mask h m).j∈t.place.toList)->(∃m i,n<=m/\m<N/\t.place[i]? = some (road t.mask h m).j/\hashAt i=h/\(∀k,n<=k->k<m->∀i',t.place[i']? = some (road t.mask h k).j->hashAt i'≠h)/\probe.go t hashAt h f (road t.mask h n)=some (.candidate (road t.mask h m).j i<|road t.mask h<|m+1))\/((∀k,n<=k->k<N->∀i',t.place[i']? = some (road t.mask h k).j->hashAt i'≠h)/\probe.go t hashAt h f (road t.mask h n)=some (.empty (road t.mask h N).j none))
 |0,n,_,hf,_=>J
 |f+1,n,hn,hf,Bf=>by
  by_cases he:n=N
  .subst he;right;refine⟨λk h1 h2=>J,?_⟩;unfold probe.go;rw[vC hd hN];rw[aJ]
  .have GQ:=Bf n (AAS _) J;obtain⟨i,hi⟩:=ACD GQ;have CQ:=by simpa using hi
   have Oi:=aY hs CQ;have inj:∀i',t.place[i']? = some (road t.mask h n).j->i'=i:=λi' e=>by rw[<-Lo _ _ hs i' e,Lo _ _ hs i CQ]
   by_cases hh:hashAt i=h
   .left;refine⟨n,i,AAS _,J,CQ,hh,λk h1 h2=>J,?_⟩;unfold probe.go;rw[Oi];dsimp only;rw[AAH<|by simpa using hh]
    rfl
   .have step:probe.go t hashAt h (f+1) (road t.mask h n)=probe.go t hashAt h f (road t.mask h<|n+1):=by
     conv=>lhs;unfold probe.go
     rw[Oi];dsimp only;rw[AAG<|by simpa using hh]
     rfl
    rw[step];have Aq:∀i',t.place[i']? = some (road t.mask h n).j->hashAt i'≠h:=λi' e=>by rw[inj i' e];exact hh
    rcases Zw hs hd hashAt h N hN f (n+1) J J (λm h1 h2=>Bf m J h2)with⟨m,i2,h1,h2,h3,h4,h5,h6⟩|⟨h5,h6⟩
    .left;refine⟨m,i2,J,h2,h3,h4,λk k1 k2=>?_,h6⟩;by_cases kn:k=n
     .subst kn;exact Aq
     .exact h5 k J k2
    .right;refine⟨λk k1 k2=>?_,h6⟩;by_cases kn:k=n
     .subst kn;exact Aq
     .exact h5 k J k2
section
variable{prog:Program}{w:World}{A:Around}{E:Value->Shared->Prop}{s:Shared}
abbrev Cf(prog:Program)(w:World):=intKind prog w
noncomputable abbrev BD(prog:Program)(w:World)(k:List Int):Int:=tupleKeyHash (Cf prog w) k
structure Ek(prog:Program)(w:World)(h:Heap)(es:Array (Int×Value))(t:SetTable)(kk:List (List Int)):Prop where
 JS:t.dummies=#[]
 K6:Good t.mask
 C5:t.place.toList.Pairwise (· < ·)
 le:∀j∈t.place.toList,j<=t.mask
 sz:t.place.size=es.size
 N7:es.size*5<t.mask*3
 len:kk.length=es.size
 ent:∀(i:Nat)(hh:Int)(v:Value),es[i]? = some (hh,v)->∃k b,kk[i]? = some k/\v=.ref b/\IsTupleKey (Cf prog w) h k b/\hh=BD prog w k
 nd:kk.Nodup
 reach:∀(i j:Nat)(k:List Int),t.place[i]? = some j->kk[i]? = some k->∃n,(road t.mask (BD prog w k) n).j=j/\∀m<n,(road t.mask (BD prog w k) m).j∈t.place.toList
theorem Ek.fits{h:Heap}{es:Array (Int×Value)}{t:SetTable}{kk:List (List Int)}(T:Ek prog w h es t kk):t.fits es.size=true:=by
 unfold SetTable.fits SetTable.fill;rw[T.JS,T.sz];have:=T.N7;simp;lia
theorem Ek.jK{h:Heap}{es:Array (Int×Value)}{t:SetTable}{kk:List (List Int)}(T:Ek prog w h es t kk):t.gaveWay=false:=by
 unfold SetTable.gaveWay;rcases T.K6 with e|e<;>rw[e]<;>rfl
theorem nZ(n:Nat){v:Value}(h:carriedByValue v=true):ofAClassStatement n v=pure false:=by
 cases v with
 |ref a=>simp[carriedByValue]at h
 |_=>first|rfl|(cases n<;>rfl)
theorem b9{ks:List Int}{b:Addr}{Q:Bool->Shared->Prop}(hk:IsTupleKey (Cf prog w) s.heap ks b)(h:Q false s):wpAny (model prog w) A (ofAClassStatement 8<|.ref b) Q E s:=by
 have hT:=hk.typeIs;obtain⟨o,items,n,ho,hc,hd,hi⟩:=hk;unfold ofAClassStatement;refine wpAny_bind<|wpAny_typeOf hT ?_;refine wpAny_bind<|wpAny_pure ?_;refine wpAny_bind<|wpAny_seqItems ho hd ?_;refine wpAny_bind ?_;rw[<-Array.forIn_toList];refine wpAny_forIn_list _ (λA7 r s'=>r.1=none/\s'=s/\∀v∈A7,carriedByValue v=true) _ ?_ ?_ _ _ ⟨rfl,rfl,hi.byValue⟩
 .rintro v A7 r s' ⟨hr,rfl,Bf⟩;rw[nZ _<|Bf v AAf];exact wpAny_pure ⟨rfl,rfl,λu Sf=>Bf u<|AAX _ Sf⟩
 .rintro⟨r1,r2⟩ s' ⟨hr,rfl,_⟩;subst hr;exact wpAny_pure h
theorem xM{k:List Int}{b:Addr}{l:List Value}{Q:Bool->Shared->Prop}(hx:IsTupleKey (Cf prog w) s.heap k b)(hl:∀v∈l,∃k' b',v=.ref b'/\IsTupleKey (Cf prog w) s.heap k' b')(h:Q false s):wpAny (model prog w) A (searchCouldBeSeen (.ref b) l) Q E s:=by
 refine wpAny_bind ?_;refine wpAny_forIn_list _ (λA7 r s'=>r.1=none/\s'=s/\∀v∈A7,∃k' b',v=.ref b'/\IsTupleKey (Cf prog w) s.heap k' b') _ ?_ ?_ _ _ ⟨rfl,rfl,hl⟩
 .rintro v A7 r s' ⟨hr,rfl,Bf⟩;obtain⟨k',b',rfl,Bi⟩:=Bf v AAf;have YH:=λu hu=>Bf u<|AAX _ hu;refine wpAny_ite_split (λ_=>wpAny_pure ⟨rfl,rfl,YH⟩) λ_=>?_;refine wpAny_bind<|wpAny_eqIsQuiet_tuple hx ?_;refine wpAny_bind<|wpAny_eqIsQuiet_tuple Bi ?_;refine wpAny_bind<|b9 hx ?_;refine wpAny_bind<|b9 Bi ?_;exact wpAny_pure ⟨rfl,rfl,YH⟩
 .rintro⟨r1,r2⟩ s' ⟨hr,rfl,_⟩;subst hr;exact wpAny_pure h
theorem cA{a:Addr}{o:Obj}{es:Array (Int×Value)}{ep:Nat}{t:SetTable}{kk:List (List Int)}{k:List Int}{b:Addr}{N:Nat}{Q:SetFound->Shared->Prop} (ho:s.heap.get? a=some o) (hd:o.data=.set es ep t) (T:Ek prog w s.heap es t kk) (hu:A.units<cLine) (hx:IsTupleKey (Cf prog w) s.heap k b) (MA:N<10*turns t.mask) (hN:(road t.mask (BD prog w k) N).j∉t.place.toList) (Bf:∀m<N,(road t.mask (BD prog w k) m).j∈t.place.toList) (h1:k∈kk->Q (.there none) s) (h2:k∉kk->Q (.free (road t.mask (BD prog w k) N).j false) s) : ∀(f n:Nat)(UR:Option Probe),UR.getD (t.probeStart<|BD prog w k)=road t.mask (BD prog w k) n->n<=N->N-n<f->(∀(i j:Nat),kk[i]? = some k->t.place[i]? = some j->∀m<n,(road t.mask (BD prog w k) m).j≠j)->
  wpAny (model prog w) A (setSearchFrom a (.ref b) (BD prog w k) true f UR) Q E s
 |0,n,_,_,_,hf,_=>J
 |f+1,n,UR,Fo,hn,hf,X7=>by
  refine wpAny_bind<|wpAny_setState_of ho hd T.fits ?_;dsimp only;rw[T.jK];simp only[ABv,ACV];rw[Fo];have SQ:=Zw T.C5 T.JS (λi=>(es[i]?.map (·.1)).getD 0) (BD prog w k) N hN (10*turns t.mask) n hn J λm _ hm=>Bf m hm;rcases SQ with⟨m,i,m1,m2,m3,m4,m5,m6⟩|⟨m5,m6⟩
  .generalize SO:SetTable.probe t _ _ _=pr;have MO:=SO.symm.trans m6;subst MO;dsimp only;have hi:i<es.size:=by rw[<-T.sz];exact(ACe.mp m3).1
   obtain⟨⟨hh,v⟩,ev⟩:∃x,es[i]? = some x:=⟨es[i],AAu hi⟩;obtain⟨k',b',ek,rfl,Bi,rfl⟩:=T.ent i hh v ev;have kA:∀u∈(es.filter λx=>x.1==BD prog w k).toList.map (λx=>x.2),∃k' b',u=Value.ref b'/\IsTupleKey (Cf prog w) s.heap k' b':=λu hu=>by
    obtain⟨⟨h',u'⟩,hm,rfl⟩:=ABG.mp hu;have CK:=by
     have:=ABx.mp (by simpa using hm:(h',u')∈es.toList.filter (λx=>x.1==BD prog w k));simpa using this.1
    obtain⟨i',iH⟩:=Array.getElem?_of_mem CK;obtain⟨k2,b2,_,e2,Jf,_⟩:=T.ent i' h' u' iH;exact⟨k2,b2,e2,Jf⟩
   refine wpAny_ite_split (λ_=>wpAny_bind<|xM hx kA ?_) λ_=>?_
   all_goals
    rw[ev];refine wpAny_bind<|wpAny_holding<|wpAny_eqBool_tuple hu Bi hx ?_;refine wpAny_bind<|wpAny_setState_of ho hd T.fits ?_;dsimp only;by_cases HS:k'=k
    .subst HS;simp only[decide_true];exact wpAny_pure<|h1<|ABP ek
    .rw[ABN HS];have Sa:t.sameMemory t.moves t.mask=some true:=by unfold SetTable.sameMemory;simp
     rw[Sa];dsimp only;rw[AAH rfl,aY T.C5 m3];dsimp only;rw[ev];refine wpAny_bind<|wpAny_isSame_ref_self ?_;refine cA ho hd T hu hx MA hN Bf h1 h2 f (m+1) _ rfl J J λi2 j2 e2 p2 m' CK=>?_;by_cases kf:m'<n
     .exact X7 i2 j2 e2 p2 m' kf
     .by_cases Fj:m'=m
      .subst Fj;intro z;have:i2=i:=by rw[<-Lo _ _ T.C5 i2 p2,<-z,Lo _ _ T.C5 i m3]
       subst this;rw[ek]at e2;exact HS<|AAo e2
      .intro z;have Aq:=m5 m' J J i2 (by rw[z];exact p2);have IZ:i2<es.size:=by rw[<-T.sz];exact(ACe.mp p2).1
       obtain⟨⟨R0,v2⟩,IG⟩:∃x,es[i2]? = some x:=⟨es[i2],AAu IZ⟩;obtain⟨k3,b3,Ly,_,_,e3⟩:=T.ent i2 R0 v2 IG;rw[e2]at Ly;cases Ly;apply Aq;rw[IG];exact e3
  .generalize SO:SetTable.probe t _ _ _=pr;have MO:=SO.symm.trans m6;subst MO;refine wpAny_pure<|h2 λGQ=>?_;obtain⟨i,ei⟩:=ACD GQ;have hi:i<t.place.size:=by
    rw[T.sz,<-T.len];exact(AAL.mp ei).1
   have hp:=AAu hi;obtain⟨n1,e1,hb⟩:=T.reach i _ k hp ei;have X5:n1<N:=by
    by_cases z:n1<N
    .exact z
    .exfalso;by_cases z2:n1=N
     .subst z2;apply hN;rw[e1];exact ABP  (by rw[ABJ];exact hp)
     .exact hN<|hb N J
   by_cases SG:n1<n
   .exact X7 i _ ei hp n1 SG e1
   .have Aq:=m5 n1 J X5 i (by rw[e1];exact hp);have IZ:i<es.size:=by rw[<-T.sz];exact hi
    obtain⟨⟨R0,v2⟩,IG⟩:∃x,es[i]? = some x:=⟨es[i],AAu IZ⟩;obtain⟨k3,b3,Ly,_,_,e3⟩:=T.ent i R0 v2 IG;rw[ei]at Ly;cases Ly;apply Aq;rw[IG];exact e3
end
end ST
set_option linter.all false
namespace ST
open PySem PySem.SetTable
def rI(mask:Nat)(h:Int):Nat->Nat
 |0=>0
 |n+1=>rI mask h n+CA mask (BN mask n<|L0 mask h).1+1
theorem Pp(mask:Nat)(h:Int):∀n,road mask h (rI mask h n)=⟨(BN mask n<|L0 mask h).1,CA mask (BN mask n<|L0 mask h).1,(BN mask n<|L0 mask h).1,(BN mask n<|L0 mask h).2,none⟩
 |0=>rfl
 |n+1=>by
  have h1:=Pq mask h (rI mask h n) _ _ (Pp mask h n) _<|AAS _;show Gz mask (road mask h<|rI mask h n+CA mask (BN mask n<|L0 mask h).1)=_;rw[h1];unfold Gz;rw[AAG (by show ¬ (CA mask _-CA mask _>0);lia)]
  rfl
def FT(Ao:Array<|Option Nat)(j:Nat):Prop:=(Ao.getD j<|some 0).isSome=true
theorem aL(mask i:Nat):runEnd mask i+1-i=CA mask i+1:=by unfold CA runEnd;split<;>lia
theorem XN(p:Nat->Bool):∀(n:Nat),match (List.range n).find? p with|some k=>k<n/\p k=true/\∀m<k,p m=false|none=>∀m<n,p m=false:=by
 intro n;cases h:(List.range n).find? p with
 |none=>
  intro m hm;have:=List.find?_eq_none.mp h m (AAP.mpr hm);simpa using this
 |some k=>
  obtain⟨h1,as,bs,e,h2⟩:=List.find?_eq_some_iff_append.mp h;have hk:k∈List.range n:=by rw[e];simp
  refine⟨AAP.mp hk,h1,λm hm=>?_⟩;have Bj:as.length=k:=by
   have hg:(List.range n)[as.length]? = some k:=by rw[e];simp
   obtain⟨hl,hv⟩:=AAL.mp hg;rw[List.getElem_range]at hv;exact hv
  have CK:=by
   have hg:(List.range n)[m]? = some m:=by
    rw[ADr (by have:=AAP.mp hk;lia)]
   rw[e,AAq J]at hg;exact ABP hg
  simpa using h2 m CK
theorem i9{mask:Nat}(Ao:Array<|Option Nat)(h:Int)(ns:Nat)(IW:¬ FT Ao (BN mask ns<|L0 mask h).1):∀(d n f:Nat),n+d=ns->d<f->(∀m<rI mask h n,FT Ao (road mask h m).j)->∃N,(∀m<N,FT Ao (road mask h m).j)/\¬ FT Ao (road mask h N).j/\layClean.free mask Ao f (BN mask n<|L0 mask h).1 (BN mask n<|L0 mask h).2=some (road mask h N).j:=by
 intro d
 induction d with
 |zero=>
  intro n f hn hf Bf;obtain⟨f,rfl⟩:∃g,f=g+1:=⟨f-1,J⟩;have SE:n=ns:=J
  subst SE;refine⟨rI mask h n,Bf,by rw[Pp];exact IW,?_⟩;unfold layClean.free;rw[aL];have:=XN (λk=>(Ao.getD ((BN mask n<|L0 mask h).1+k)<|some 0).isNone)<|CA mask (BN mask n<|L0 mask h).1+1;have h0:(Ao.getD ((BN mask n<|L0 mask h).1+0)<|some 0).isNone=true:=by
   unfold FT at IW;simpa using IW
  cases ME:(List.range<|CA mask (BN mask n<|L0 mask h).1+1).find? (λk=>(Ao.getD ((BN mask n<|L0 mask h).1+k)<|some 0).isNone)with
  |none=>
   rw[ME]at this;have z:=this 0 J;rw[h0]at z;cases z
  |some k=>
   rw[ME]at this;obtain⟨k1,k2,k3⟩:=this;by_cases hk:k=0
   .subst hk;rw[Pp];simp
   .have z:=k3 0 J;rw[h0]at z;cases z
 |succ d ih=>
  intro n f hn hf Bf;obtain⟨f,rfl⟩:∃g,f=g+1:=⟨f-1,J⟩;unfold layClean.free;rw[aL];have:=XN (λk=>(Ao.getD ((BN mask n<|L0 mask h).1+k)<|some 0).isNone)<|CA mask (BN mask n<|L0 mask h).1+1;have Og:∀k,k<=CA mask (BN mask n<|L0 mask h).1->(road mask h<|rI mask h n+k).j=(BN mask n<|L0 mask h).1+k:=λk hk=>by
   rw[Pq mask h (rI mask h n) _ _ (Pp mask h n) k hk]
  cases ME:(List.range<|CA mask (BN mask n<|L0 mask h).1+1).find? (λk=>(Ao.getD ((BN mask n<|L0 mask h).1+k)<|some 0).isNone)with
  |some k=>
   rw[ME]at this;obtain⟨k1,k2,k3⟩:=this;refine⟨rI mask h n+k,λm hm=>?_,?_,by rw[Og k J]⟩
   .by_cases SD:m<rI mask h n
    .exact Bf m SD
    .have z:=k3 (m-rI mask h n) J;have e:=Og (m-rI mask h n) J;rw[show rI mask h n+(m-rI mask h n)=m by lia]at e;rw[e];unfold FT;cases hq:Ao.getD ((BN mask n<|L0 mask h).1+(m-rI mask h n)) (some 0)with
     |none=>rw[hq]at z;cases z
     |some _=>rfl
   .rw[Og k J];unfold FT;intro z;cases hq:Ao.getD ((BN mask n<|L0 mask h).1+k) (some 0)with
    |none=>rw[hq]at z;cases z
    |some _=>rw[hq]at k2;cases k2
  |none=>
   rw[ME]at this;have jr:=λm hm=>by
    by_cases SD:m<rI mask h n
    .exact Bf m SD
    .have CK:m<rI mask h n+CA mask (BN mask n<|L0 mask h).1+1:=hm;have z:=this (m-rI mask h n) J;have e:=Og (m-rI mask h n) J;rw[show rI mask h n+(m-rI mask h n)=m by lia]at e;rw[e];unfold FT;cases hq:Ao.getD ((BN mask n<|L0 mask h).1+(m-rI mask h n)) (some 0)with
     |none=>rw[hq]at z;cases z
     |some _=>rfl
   exact ih (n+1) f J J jr
structure Laid(mask:Nat)(hs:List Int)(Ao:Array (Option Nat))(js:List Nat):Prop where
 sz:Ao.size=mask+1
 len:js.length=hs.length
 nd:js.Nodup
 le:∀j∈js,j<=mask
 own:∀(k j:Nat),js[k]? = some j->Ao[j]? = some (some k)
 A4:∀j,j<=mask->j∉js->Ao[j]? = some none
 reach:∀(k j:Nat)(h:Int),js[k]? = some j->hs[k]? = some h->∃n,(road mask h n).j=j/\∀m<n,(road mask h m).j∈js
theorem Laid.Ta{mask:Nat}{hs:List Int}{Ao:Array (Option Nat)}{js:List Nat}(L:Laid mask hs Ao js){j:Nat}(hj:j<=mask):FT Ao j↔j∈js:=by
 unfold FT;constructor
 .intro z;refine AAz λhn=>?_;have e:=L.A4 j hj hn;have BH:j<Ao.size:=by rw[L.sz];lia
  rw[AAu BH]at e;simp only[BH,dif_pos]at z;have e':=AAo e;rw[show Ao.getInternal j BH=Ao[j]from rfl,e']at z;cases z
 .intro hm;obtain⟨k,hk⟩:=ACD hm;have e:=L.own k j hk;have BH:j<Ao.size:=by rw[L.sz];lia
  rw[AAu BH]at e;simp only[BH,dif_pos];have e':=AAo e;rw[show Ao.getInternal j BH=Ao[j]from rfl,e']
  rfl
theorem Po{mask:Nat}(h:Int):∀n,(road mask h n).j<=mask/\(road mask h n).j+(road mask h n).more<=mask/\(road mask h n).i<=mask
 |0=>by
  have h1:bits h%(mask+1)<mask+1:=ADo _<|ADP _;show bits h%(mask+1)<=mask/\bits h%(mask+1)+CA mask (bits h%(mask+1))<=mask/\bits h%(mask+1)<=mask;unfold CA runEnd;split<;>lia
 |n+1=>by
  obtain⟨h1,h2,h3⟩:=Po (mask:=mask) h n;unfold road Gz;split
  .dsimp only;lia
  .dsimp only;have h4:(leap mask (road mask h n).i (road mask h n).perturb).1<mask+1:=ADo _<|ADP _;unfold CA runEnd;split<;>lia
theorem Yp{mask:Nat}(hm:Good mask):∀(A7 hs:List Int)(Ao:Array<|Option Nat)(js:List Nat),Laid mask hs Ao js->hs.length+A7.length<=mask->∃Pb S3,Laid mask (hs++A7) Pb S3/\(A7.foldl (init:=some (Ao,hs.length)) λacc h=>(do
  let (Ao,k)<-acc
  let j<-layClean.free mask Ao (turns mask) (bits h%(mask+1))<|bits h
  pure (Ao.setIfInBounds j<|some k,k+1)))=some (Pb,(hs++A7).length)
 |[],hs,Ao,js,L,_=>⟨Ao,js,by simpa using L,AAB⟩
 |h::A7,hs,Ao,js,L,Bj=>by
  have hl:js.length<=mask:=by rw[L.len];lia
  obtain⟨j,hj,FG⟩:=XZ mask js L.nd hl L.le;obtain⟨ns,SH,iL⟩:=Ys hm h hj;have IW:¬ FT Ao (BN mask ns<|L0 mask h).1:=by rw[iL,L.Ta hj];exact FG
  obtain⟨N,jZ,ja,jb⟩:=i9 Ao h ns IW ns 0 (turns mask) J (by unfold turns at *;lia) (λm hm=>by simp[rI]at hm);have hle:=(Po (mask:=mask) h N).1;have Xi:=λz=>ja<|(L.Ta hle).mpr z;have hsz:(road mask h N).j<Ao.size:=by rw[L.sz];lia
  have L':Laid mask (hs ++ [h]) (Ao.setIfInBounds (road mask h N).j<|some hs.length)<|js ++ [(road mask h N).j]:=by
   refine⟨by simpa using L.sz,by simp[L.len],?_,λx hx=>?_,λk x hk=>?_,λx hx Oq=>?_,λk x h' hk hh=>?_⟩
   .rw[List.nodup_append];exact⟨L.nd,AAB,λa ha b hb=>by rw[AAh]at hb;subst hb;intro z;exact Xi<|z ▸ ha⟩
   .rcases AAp.mp hx with hx|hx
    .exact L.le x hx
    .rw[AAh]at hx;subst hx;exact hle
   .by_cases Fi:k<js.length
    .rw[AAq Fi]at hk;have Oq:(road mask h N).j≠x:=λz=>Xi<|z ▸ ABP hk;rw[AC7 Oq];exact L.own k x hk
    .rw[AAs J]at hk;have MK:k=js.length:=by
      have:=(AAL.mp hk).1;simp at this;lia
     subst MK;simp at hk;subst hk;rw[Array.getElem?_setIfInBounds_self_of_lt hsz,L.len]
   .have h1:=λz=>Oq<|ABc _ z;have h2:(road mask h N).j≠x:=λz=>Oq (AA1 _<|by simp[z]);rw[AC7 h2];exact L.A4 x hx h1
   .by_cases Fi:k<js.length
    .rw[AAq Fi]at hk;rw[AAq (by rw[<-L.len];exact Fi)]at hh;obtain⟨n,e,hb⟩:=L.reach k x h' hk hh;exact⟨n,e,λm hm=>ABc _<|hb m hm⟩
    .rw[AAs J]at hk;have MK:k=js.length:=by
      have:=(AAL.mp hk).1;simp at this;lia
     subst MK;simp at hk;subst hk;rw[AAs (by rw[L.len];exact AAS _),L.len]at hh;simp at hh;subst hh;exact⟨N,rfl,λm hm=>ABc _<|(L.Ta (Po _ m).1).mp<|jZ m hm⟩
  obtain⟨Pb,S3,L2,e2⟩:=Yp hm A7 (hs ++ [h]) _ _ L' (by simp at Bj ⊢;lia);refine⟨Pb,S3,by simpa using L2,?_⟩;rw[List.foldl_cons];have lF:(do
   let (Ao,k)<-(some (Ao,hs.length))
   let j<-layClean.free mask Ao (turns mask) (bits h%(mask+1))<|bits h
   pure (Ao.setIfInBounds j<|some k,k+1))=some (Ao.setIfInBounds (road mask h N).j<|some hs.length,(hs ++ [h]).length):=by
   show(layClean.free mask Ao (turns mask) (bits h%(mask+1))<|bits h).bind _=_;have:layClean.free mask Ao (turns mask) (bits h%(mask+1)) (bits h)=some (road mask h N).j:=jb;rw[this];simp
  rw[lF,e2];simp
theorem mQ{mask:Nat}(hm:Good mask)(hs:Array Int)(hl:hs.size<=mask):∃Ao js,Laid mask hs.toList Ao js/\layClean mask hs=some Ao:=by
 have L0:Laid mask [] (Array.replicate (mask+1) none) []:=by
  refine⟨AAB,rfl,ADh,AAB,AAB,λj hj _=>?_,AAB⟩;rw[Array.getElem?_replicate,AAH J]
 obtain⟨Ao,js,L,e⟩:=Yp hm hs.toList [] _ _ L0 (by simpa using hl);refine⟨Ao,js,by simpa using L,?_⟩;unfold layClean;rw[<-Array.foldl_toList];have e':=e;simp only[ABi]at e';rw[e']
 rfl
end ST
set_option linter.all false
namespace ST
open PySem PySem.SetTable
theorem N9{α β:Type}(f:α->Option β):∀(l:List α)(_:∀x∈l,∃y,f x=some y)(i:Nat),(l.filterMap f)[i]? = (l[i]?).bind f
 |[],_,i=>AAB
 |x::r,h,i=>by
  obtain⟨y,hy⟩:=h x AAf;rw[ADR hy];cases i with
  |zero=>simp[hy]
  |succ i=>
   exact N9 f r (λz hz=>h z<|AAX _ hz) i
noncomputable def live(mask:Nat)(Ao:Array<|Option Nat):List<|Nat×Nat:=(List.range<|mask+1).filterMap λj=>(Ao.getD j none).map (j,·)
theorem K1{mask:Nat}{hs:List Int}{Ao:Array (Option Nat)}{js:List Nat}(L:Laid mask hs Ao js)(j k:Nat):(j,k)∈live mask Ao↔js[k]? = some j:=by
 unfold live;rw[ACo];constructor
 .rintro⟨j',CJ,e⟩;have kT:j'<=mask:=by have:=AAP.mp CJ;lia
  have BH:j'<Ao.size:=by rw[L.sz];lia
  cases ho:Ao.getD j' none with
  |none=>rw[ho]at e;cases e
  |some k'=>
   rw[ho]at e;simp only[AA5,AAx,ACQ]at e;obtain⟨rfl,rfl⟩:=e;simp only[Array.getD,BH]at ho;have Bz:Ao[j']? = some (some k'):=by rw[AAu BH];exact ABy some ho
   by_cases hm:j'∈js
   .obtain⟨k2,Jf⟩:=ACD hm;have:=L.own k2 j' Jf;rw[Bz]at this;simp only[AAx]at this;subst this;exact Jf
   .have:=L.A4 j' kT hm;rw[Bz]at this;cases this
 .intro h;have hj:=L.le j<|ABP h;have BH:j<Ao.size:=by rw[L.sz];lia
  refine⟨j,AAP.mpr J,?_⟩;have:=L.own k j h;rw[AAu BH]at this;have e:Ao.getD j none=some k:=by
   simp only[Array.getD,BH];exact AAo this
  rw[e];rfl
theorem Yx(mask:Nat)(Ao:Array<|Option Nat):(live mask Ao).Pairwise (λa b=>a.1<b.1):=by
 unfold live;rw[List.pairwise_filterMap];refine List.pairwise_lt_range.imp ?_;intro a b D3 x hx y hy;cases ha:Ao.getD a none with
 |none=>rw[ha]at hx;cases hx
 |some k=>
  cases hb:Ao.getD b none with
  |none=>rw[hb]at hy;cases hy
  |some l=>
   rw[ha]at hx;rw[hb]at hy;cases hx;cases hy;exact D3
theorem mZ{mask:Nat}{hs:List Int}{Ao:Array (Option Nat)}{js:List Nat}(L:Laid mask hs Ao js):((live mask Ao).map (·.2)).Perm<|List.range hs.length:=by
 have Fl:((live mask Ao).map (·.2)).Nodup:=by
  show List.Pairwise _ _;rw[ACC];have Ji:=Yx mask Ao;have GQ:∀x∈live mask Ao,js[x.2]? = some x.1:=λx hx=>(K1 L x.1 x.2).mp hx;refine(List.Pairwise.and_mem.mp Ji).imp ?_;rintro a b ⟨ha,hb,D3⟩ z;have h1:=GQ a ha;have h2:=GQ b hb;rw[z,h2]at h1;lia
 refine(List.perm_ext_iff_of_nodup Fl ADQ).mpr λk=>?_;rw[ABG,AAP];constructor
 .rintro⟨⟨j,k'⟩,hm,rfl⟩;have:=(K1 L j k').mp hm;rw[<-L.len];exact(AAL.mp this).1
 .intro hk;rw[<-L.len]at hk;exact⟨(js[k],k),(K1 L _ _).mpr<|AAV hk,rfl⟩
section
variable{prog:Program}{w:World}{A:Around}{E:Value->Shared->Prop}{s:Shared}
structure Qo(prog:Program)(w:World)(h:Heap)(es:Array (Int×Value))(kk:List (List Int)):Prop where
 len:kk.length=es.size
 ent:∀(i:Nat)(hh:Int)(v:Value),es[i]? = some (hh,v)->∃k b,kk[i]? = some k/\v=.ref b/\IsTupleKey (Cf prog w) h k b/\hh=BD prog w k
 nd:kk.Nodup
theorem uM{h:Heap}{es:Array (Int×Value)}{t:SetTable}{kk:List (List Int)}(T:Qo prog w h es kk)(hw:sizeAbove n=32)(hsz:es.size*5<93) : ∃t' order Ha,t.relaid (es.map (·.1)) n=some (t',order)/\(order.filterMap (es[·]?)).size=es.size/\Ek prog w h (order.filterMap (es[·]?)) t' Ha/\Ha.Perm kk:=by
 have hm:Good 31:=.inr rfl;obtain⟨Ao,js,L,e⟩:=mQ hm (es.map (·.1)) (by simp;lia);have ED:=mZ L;have kL:((es.map (·.1)).toList).length=es.size:=AAB
 rw[kL]at ED;have BH:∀k∈(live 31 Ao).map (·.2),k<es.size:=λk hk=>AAP.mp<|ED.mem_iff.mp hk;have kB:∀k∈(live 31 Ao).map (·.2),∃y,es[k]? = some y:=λk hk=>⟨es[k]'(BH k hk),AAu _⟩;have HS:∀k∈(live 31 Ao).map (·.2),∃y,kk[k]? = some y:=λk hk=>⟨kk[k]'(by rw[T.len];exact BH k hk),AAV _⟩;have kc:=by
  have:=ED.length_eq;simpa using this
 have el:(((live 31 Ao).map (·.2)).toArray.filterMap (es[·]?)).toList=((live 31 Ao).map (·.2)).filterMap (λk=>es[k]?):=by
  rw[Array.toList_filterMap]
 have HU:(((live 31 Ao).map (·.2)).toArray.filterMap (es[·]?)).size=es.size:=by
  rw[<-ABh,el];have h1:=(ED.filterMap λk=>es[k]?).length_eq;rw[h1,filterMap_getElem?_range];simp
 have R6:=by
  have h1:=ED.filterMap λk=>kk[k]?;rw[<-T.len,List.filterMap_getElem?_range_length]at h1;exact h1
 refine⟨{ mask:=31,place:=((live 31 Ao).map (·.1)).toArray,dummies:=#[],finger:=t.finger,led:=t.led,moves:=t.movedTo<|sizeAbove n-1,plain:=t.plain },((live 31 Ao).map (·.2)).toArray,((live 31 Ao).map (·.2)).filterMap λk=>kk[k]?,?_,HU,?_,R6⟩
 .unfold relaid laid;rw[hw,e]
  rfl
 .refine⟨rfl,hm,?_,λj hj=>?_,by rw[HU];simpa using kc,by rw[HU];exact hsz,?_,λi hh v hv=>?_,R6.nodup_iff.mpr T.nd,λi j k hp hk=>?_⟩
  .rw[ACC];exact Yx 31 Ao
  .have CJ:j∈(live 31 Ao).map (·.1):=by simpa using hj
   obtain⟨⟨j',k⟩,CK,rfl⟩:=ABG.mp CJ;exact L.le _<|ABP<|(K1 L j' k).mp CK
  .rw[HU,<-T.len];exact R6.length_eq
  .rw[<-ABJ,el,N9 _ _ kB]at hv;rw[N9 _ _ HS];cases ho:((live 31 Ao).map (·.2))[i]? with
   |none=>rw[ho]at hv;cases hv
   |some k=>
    rw[ho]at hv;exact T.ent k hh v hv
  .rw[N9 _ _ HS]at hk;have FH:((live 31 Ao).map (·.1))[i]? = some j:=by simpa using hp
   rw[ABK]at FH hk;cases hl:(live 31 Ao)[i]? with
   |none=>rw[hl]at FH;cases FH
   |some x=>
    obtain⟨j',k'⟩:=x;rw[hl]at FH hk;simp only[AA5,AAx]at FH;subst FH;have kX:=(K1 L j' k').mp<|ABP hl;have Bi:=by simpa using hk
    have Fi:k'<es.size:=by rw[<-T.len];exact(AAL.mp Bi).1
    obtain⟨⟨hh,v⟩,ev⟩:∃x,es[k']? = some x:=⟨es[k'],AAu Fi⟩;obtain⟨k2,b2,e2,_,_,e3⟩:=T.ent k' hh v ev;rw[Bi]at e2;cases e2;have kK:((es.map (·.1)).toList)[k']? = some (BD prog w k):=by
     rw[ABJ,Array.getElem?_map,ev,e3]
     rfl
    obtain⟨n1,r1,r2⟩:=L.reach k' j' _ kX kK;refine⟨n1,r1,λm CK=>?_⟩;have:=r2 m CK;obtain⟨q,hq⟩:=ACD this;have:=(K1 L _ q).mpr hq;have:(road 31 (BD prog w k) m).j∈(live 31 Ao).map (·.1):=ABG.mpr ⟨_,this,rfl⟩;simpa using this
end
end ST
set_option linter.all false
namespace ST
open PySem PySem.SetTable
section
variable{prog:Program}{w:World}{A:Around}{E:Value->Shared->Prop}{s:Shared}
theorem Yn{h h':Heap}{ks:List Int}{a d:Addr}{o:Obj}{es ep}{t:SetTable}(x:IsTupleKey (Cf prog w) h ks a)(ho:h.get? d=some o)(hd:o.data=.set es ep t)(hs:Heap.SameBut d h h'):IsTupleKey (Cf prog w) h' ks a:=by
 obtain⟨o',items,n,Bz,hc,IU,hi⟩:=x;have Aq:a≠d:=by
  rintro rfl;obtain rfl:o'=o:=AAo<|Bz.symm.trans ho;rw[hd]at IU;exact nomatch IU
 exact⟨o',items,n,(hs.2 a Aq).trans Bz,hc,IU,hi⟩
theorem Ek.move{h h':Heap}{es:Array (Int×Value)}{t:SetTable}{kk:List (List Int)}(T:Ek prog w h es t kk)(m:∀k b,IsTupleKey (Cf prog w) h k b->IsTupleKey (Cf prog w) h' k b):Ek prog w h' es t kk:=
 ⟨T.JS,T.K6,T.C5,T.le,T.sz,T.N7,T.len,λi hh v e=>let ⟨k,b,e1,e2,e3,e4⟩:=T.ent i hh v e;⟨k,b,e1,e2,m k b e3,e4⟩,T.nd,T.reach⟩
theorem xN{k:List Int}{b:Addr}{Q:Bool->Shared->Prop}(hx:IsTupleKey (Cf prog w) s.heap k b)(h:Q true s):wpAny (model prog w) A (hashByValue 8<|.ref b) Q E s:=by
 have hT:=hx.typeIs;obtain⟨o,items,n,ho,hc,hd,hi⟩:=hx;unfold hashByValue;refine wpAny_bind<|wpAny_specialOf hT F.slot_tuple_hash.lookup ?_;dsimp only;refine wpAny_bind<|wpAny_seqItems ho hd ?_;refine wpAny_bind ?_;show wpAny _ _ (forIn items _ _) _ _ s;rw[<-Array.forIn_toList];have Bf:∀{x:List Int}{vs:List Value},ItemsAre (Cf prog w) x vs->∀v∈vs,∃i t,v=Value.int i t:=by
  intro x vs hx
  induction hx with
  |nil=>intro v hv;simp at hv
  |@cons k v' ks vs h1 _ ih=>
   intro v hv;rcases AAi.mp hv with rfl|hv
   .obtain⟨t,e⟩:=Value.isInt_shape h1;exact⟨_,t,e⟩
   .exact ih v hv
 refine wpAny_forIn_list _ (λA7 r s'=>r.1=none/\s'=s/\∀v∈A7,∃i t,v=Value.int i t) _ ?_ ?_ _ _ ⟨rfl,rfl,Bf hi⟩
 .rintro v A7 r s' ⟨hr,rfl,Bf⟩;obtain⟨i,t,rfl⟩:=Bf v AAf;show wpAny _ _ (pure true >>= _) _ _ _;refine wpAny_bind<|wpAny_pure ?_;simp only[Bool.not_true,ABv,ACV];exact wpAny_pure ⟨rfl,rfl,λu Sf=>Bf u<|AAX _ Sf⟩
 .rintro⟨r1,r2⟩ s' ⟨hr,rfl,_⟩;simp only at hr;subst hr;exact wpAny_pure h
theorem Sr{α:Type}(xs:Array α)(p:Nat)(x:α)(hp:p<=xs.size)(i:Nat):(insertAt xs p x)[i]? = if i<p then xs[i]? else if i=p then some x else xs[i-1]?:=by
 rw[<-ABJ,SetTable.toList_insertAt];by_cases h1:i<p
 .rw[AAH h1,AAq (by rw[ABd];simp;lia),ADO h1,ABJ]
 .rw[AAG h1,AAs (by rw[ABd];simp;lia)];have e:(List.take p xs.toList).length=p:=by rw[ABd];simp;lia
  rw[e];by_cases h2:i=p
  .subst h2;simp
  .rw[AAG h2];obtain⟨d,hd⟩:∃d,i-p=d+1:=⟨i-p-1,J⟩;rw[hd,ABL,List.getElem?_drop,ABJ]
   congr 1
   lia
theorem YW{α:Type}(xs:List α)(p:Nat)(x:α)(hp:p<=xs.length)(i:Nat):(xs.take p++x::xs.drop p)[i]? = if i<p then xs[i]? else if i=p then some x else xs[i-1]?:=by
 have:=Sr xs.toArray p x (by simpa using hp) i;rw[<-ABJ,SetTable.toList_insertAt]at this;simpa using this
theorem qa{h:Heap}{es:Array (Int×Value)}{t:SetTable}{kk:List (List Int)}{k:List Int}{b:Addr}{N:Nat}(T:Ek prog w h es t kk)(hx:IsTupleKey (Cf prog w) h k b)(hk:k∉kk) (hN:(road t.mask (BD prog w k) N).j∉t.place.toList) (Bf:∀m<N,(road t.mask (BD prog w k) m).j∈t.place.toList) (t1:SetTable) (Fq:t1.mask=t.mask/\t1.dummies=t.dummies/\t1.place=(t.put (road t.mask (BD prog w k) N).j).1.place) : ∃Ha,Ha.Perm (k::kk)/\Qo prog w h (insertAt es (t.put (road t.mask (BD prog w k) N).j).2 (BD prog w k,.ref b)) Ha/\(insertAt es (t.put (road t.mask (BD prog w k) N).j).2 (BD prog w k,Value.ref b)).size=es.size+1/\t1.place.size=es.size+1/\
  ((es.size+1)*5<t.mask*3->Ek prog w h (insertAt es (t.put (road t.mask (BD prog w k) N).j).2 (BD prog w k,.ref b)) t1 Ha):=by
 obtain⟨m1,m2,m3⟩:=Fq;have hp:(t.put (road t.mask (BD prog w k) N).j).2=below t.place (road t.mask (BD prog w k) N).j:=rfl;have BM:(t.put (road t.mask (BD prog w k) N).j).1.place=insertAt t.place (below t.place (road t.mask (BD prog w k) N).j) (road t.mask (BD prog w k) N).j:=rfl;rw[BM]at m3;rw[hp];have OO:below t.place (road t.mask (BD prog w k) N).j<=t.place.size:=by
  rw[Q0 _ _ T.C5];have:=V0 t.place.toList (road t.mask (BD prog w k) N).j;simpa using this
 generalize Xz:(road t.mask (BD prog w k) N).j=jj at *
 generalize lA:below t.place jj=p at *
 have Fi:kk.length=t.place.size:=by rw[T.sz];exact T.len
 have hsz:(insertAt es p (BD prog w k,Value.ref b)).size=es.size+1:=by
  rw[<-ABh,SetTable.toList_insertAt];simp;have:=T.sz;lia
 have hsz2:t1.place.size=es.size+1:=by
  rw[m3,<-ABh,SetTable.toList_insertAt];simp;have:=T.sz;lia
 have ED:(kk.take p++k::kk.drop p).Perm (k::kk):=by
  have:=List.perm_middle (a:=k) (l₁:=kk.take p) (l₂:=kk.drop p)
  rwa [ADi]at this
 have T0:Qo prog w h (insertAt es p (BD prog w k,.ref b)) (kk.take p++k::kk.drop p):=by
  refine⟨?_,λi hh v e=>?_,ED.nodup_iff.mpr<|ABz.mpr ⟨hk,T.nd⟩⟩
  .rw[hsz,ED.length_eq,AAc,T.len]
  .rw[Sr es p _ (by rw[<-T.sz];exact OO)]at e;rw[YW kk p k (by rw[Fi];exact OO)];by_cases h1:i<p
   .rw[AAH h1]at e ⊢;exact T.ent i hh v e
   .rw[AAG h1]at e ⊢;by_cases h2:i=p
    .rw[AAH h2]at e ⊢;cases e;exact⟨k,b,rfl,rfl,hx,rfl⟩
    .rw[AAG h2]at e ⊢;exact T.ent (i-1) hh v e
 refine⟨_,ED,T0,hsz,hsz2,λEX=>?_⟩;have GQ:∀x∈t.place.toList,x∈t1.place.toList:=λx GR=>by
  rw[m3];exact(SetTable.insertAt_perm t.place p jj).mem_iff.mpr (by simpa using Or.inl (by simpa using GR))
 refine⟨by rw[m2,T.JS],by rw[m1];exact T.K6,?_,λj hj=>?_,by rw[hsz2,hsz],by rw[hsz,m1];exact EX,T0.len,T0.ent,T0.nd,λi j k' Ie Ia=>?_⟩
 .rw[m3,<-lA];exact lX t.place jj T.C5 hN
 .rw[m3]at hj;have:=(SetTable.insertAt_perm t.place p jj).mem_iff.mp hj;rw[m1];rw[Array.toList_push]at this;rcases AAp.mp this with z|z
  .exact T.le j z
  .rw[AAh]at z;rw[z,<-Xz];exact(Po _ N).1
 .rw[m3,Sr t.place p jj OO]at Ie;rw[YW kk p k (by rw[Fi];exact OO)]at Ia;rw[m1];by_cases h1:i<p
  .rw[AAH h1]at Ie Ia;obtain⟨n,r1,r2⟩:=T.reach i j k' Ie Ia;exact⟨n,r1,λm hm=>GQ _<|r2 m hm⟩
  .rw[AAG h1]at Ie Ia;by_cases h2:i=p
   .rw[AAH h2]at Ie Ia;cases Ie;cases Ia;exact⟨N,Xz,λm hm=>GQ _<|Bf m hm⟩
   .rw[AAG h2]at Ie Ia;obtain⟨n,r1,r2⟩:=T.reach (i-1) j k' Ie Ia;exact⟨n,r1,λm hm=>GQ _<|r2 m hm⟩
def Gw(prog:Program)(w:World)(h:Heap)(a:Addr)(ks:List<|List Int):Prop:=
 ∃o es ep t kk,h.get? a=some o/\o.ExactSet/\o.data=.set es ep t/\Ek prog w h es t kk/\kk.Perm ks
theorem Xd{h:Heap}{a:Addr}{o:Obj}{es:Array (Int×Value)}{ep:Nat}{t:SetTable}{es':Array (Int×Value)}{t':SetTable}(ho:h.get? a=some o)(hd:o.data=.set es ep t) : (h.update a<|Obj.putSet es' t').get? a=some { o with data:=.set es' (ep+1) t' }:=by
 have:=Heap.get?_update_self (Obj.putSet es' t') ho (by rw[putSet_of es' t' hd];rfl);rw[putSet_of es' t' hd]at this;exact this
theorem xJ{a:Addr}{ks:List (List Int)}{k:List Int}{b:Addr}{Q:Bool->Shared->Prop}(hS:Gw prog w s.heap a ks)(hx:IsTupleKey (Cf prog w) s.heap k b)(hu:A.units<cLine)(EX:ks.length+1<=18) (h:∀h' r,Heap.SameBut a s.heap h'->Gw prog w h' a (if k∈ks then ks else k::ks)->Q r { s with heap:=h' }):wpAny (model prog w) A (setAddHashed a (.ref b)<|BD prog w k) Q E s:=by
 obtain⟨o,es,ep,t,kk,ho,hex,hd,T,ED⟩:=hS;unfold setAddHashed setAddHashedIn;refine wpAny_holding<|wpAny_bind<|wpAny_setState_of ho hd T.fits ?_;dsimp only;rw[show byScan (.ref b) es=false from rfl];simp only[ABv,ACV];have Fl:t.place.toList.Nodup:=T.C5.imp λh=>AAZ h;have Bj:t.place.toList.length<=t.mask:=by
  have h1:=T.sz;have h2:=T.N7;simp;lia
 obtain⟨N,MA,hN,Bf⟩:=iy T.K6 (BD prog w k) t.place.toList Fl Bj T.le;have Fi:kk.length=ks.length:=ED.length_eq;unfold setSearch;refine wpAny_bind (cA ho hd T hu hx MA hN Bf ?_ ?_ 100000 0 none rfl (ABs _) (by have:=T.K6;unfold turns at MA;rcases this with e|e<;>rw[e]at MA<;>lia) (λ_ _ _ _ m hm=>J))
 .intro hk;dsimp only;refine wpAny_pure ?_;have:=h s.heap false<|Heap.SameBut.refl a s.heap;rw[AAH<|ED.mem_iff.mp hk]at this;exact this ⟨o,es,ep,t,kk,ho,hex,hd,T,ED⟩
 .intro hk;dsimp only;have X1:k∉ks:=λz=>hk<|ED.mem_iff.mpr z;refine wpAny_bind<|wpAny_setState_of ho hd T.fits ?_;dsimp only;have fin:∀t1:SetTable,(t1.mask=t.mask/\t1.dummies=t.dummies/\t1.place=(t.put (road t.mask (BD prog w k) N).j).1.place)->wpAny (model prog w) A (do
    storeSet a (insertAt es (t.put (road t.mask (BD prog w k) N).j).2 (BD prog w k,.ref b)) t1
    if(
     !false&&t1.tooFull)=true then do
     setRelay a (grown<|es.size+1)
     pure true
     else pure true) Q E s:=by
   intro t1 Fq;obtain⟨Ha,FH,T0,hsz,hsz2,hT⟩:=qa T hx hk hN Bf t1 Fq;have Rx:t1.fill=es.size+1:=by
    unfold SetTable.fill;rw[hsz2,Fq.2.1,T.JS]
    rfl
   have zX:es.size=ks.length:=by rw[<-T.len,Fi]
   refine wpAny_bind (wpAny_storeSet_of ho hd ?_ (by rw[hsz,sizeLine_eq];lia));have hg:=Xd (es':=insertAt es (t.put (road t.mask (BD prog w k) N).j).2 (BD prog w k,Value.ref b)) (t':=t1) ho hd;have MR:=Heap.SameBut.update s.heap a<|Obj.putSet (insertAt es (t.put (road t.mask (BD prog w k) N).j).2 (BD prog w k,Value.ref b)) t1;generalize zN:insertAt es (t.put (road t.mask (BD prog w k) N).j).2 (BD prog w k,Value.ref b)=L1 at *
   have mv:∀k2 b2,IsTupleKey (Cf prog w) s.heap k2 b2->IsTupleKey (Cf prog w) (s.heap.update a<|Obj.putSet L1 t1) k2 b2:=λ_ _ z=>Yn z ho hd MR;have YD:Ha.Perm (k::ks):=FH.trans<|ED.cons k;by_cases IX:t1.tooFull=true
   .rw[AAH (by rw[IX];rfl)];have hf:(es.size+1)*5>=t.mask*3:=by
     unfold SetTable.tooFull at IX;rw[Rx,Fq.1]at IX;simpa using IX
    have MM:t.mask=7/\es.size=4:=by
     have h1:=T.N7;rcases T.K6 with e|e
     .rw[e]at h1 hf;exact⟨e,J⟩
     .rw[e]at hf;lia
    have Xt:sizeAbove (grown<|es.size+1)=32:=by rw[MM.2];rfl
    obtain⟨t',order,mO,lC,YN,T',SN⟩:=uM (t:=t1) T0 Xt (by rw[hsz,MM.2];decide);have kF:t1.fits L1.size=true:=by
     unfold SetTable.fits;rw[Rx,hsz2,hsz,Fq.1,MM.1,MM.2]
     rfl
    refine wpAny_bind ?_;unfold setRelay;refine wpAny_bind<|wpAny_setState_of hg rfl kF ?_;dsimp only;rw[Xt,AAG (by rw[sizeLine_eq];decide)];refine wpAny_bind (wpAny_of_eq (a:=(order.filterMap (L1[·]?),t')) ?_ ?_)
    .rw[lC];show(if(_ != _)=true then _ else _)=_;rw[YN];simp
    .dsimp only;refine wpAny_storeSet_of hg rfl ?_ (by rw[YN,hsz,MM.2,sizeLine_eq];decide);have YJ:=Heap.SameBut.update (s.heap.update a<|Obj.putSet L1 t1) a (Obj.putSet (order.filterMap (L1[·]?)) t');refine wpAny_pure ?_;have:=h _ true<|MR.trans YJ;rw[AAG X1]at this;refine this ⟨_,_,_,_,mO,Xd hg rfl,hex,rfl,T'.move λ_ _ z=>Yn (mv _ _ z) hg rfl YJ,SN.trans YD⟩
   .rw[AAG<|by simpa using IX];refine wpAny_pure ?_;have:=h _ true MR;rw[AAG X1]at this;refine this ⟨_,_,_,_,Ha,hg,hex,rfl,(hT ?_).move mv,YD⟩;unfold SetTable.tooFull at IX;rw[Rx,Fq.1]at IX;simp at IX;lia
  by_cases BM:(t.put (road t.mask (BD prog w k) N).j).1.plain=true
  .rw[AAH BM];refine wpAny_bind<|xN hx ?_;simp only[AB0];refine fin _ ⟨rfl,?_,rfl⟩;show(if has t.dummies _=true then _ else t.dummies)=t.dummies;rw[T.JS];simp[has]
  .rw[AAG BM];refine wpAny_bind<|wpAny_pure ?_;simp only[AB0];refine fin _ ⟨rfl,?_,rfl⟩;show(if has t.dummies _=true then _ else t.dummies)=t.dummies;rw[T.JS];simp[has]
end
end ST
set_option linter.all false
set_option maxRecDepth 100000
namespace ST
open PySem PySem.SetTable
section
variable{prog:Program}{w:World}{A:Around}{E:Value->Shared->Prop}{s:Shared}
noncomputable def Dt:List (List Int)->List (List Int)->List (List Int)
 |acc,[]=>acc
 |acc,k::r=>Dt (if k∈acc then acc else k::acc) r
theorem bY:∀(l acc:List<|List Int),(Dt acc l).length<=acc.length+l.length
 |[],acc=>by unfold Dt;simp
 |k::r,acc=>by
  unfold Dt;refine ABF (bY r _) ?_;split<;>simp<;>lia
theorem Md{h h':Heap}{k:List Int}{b:Addr}(z:IsTupleKey (Cf prog w) h k b)(m:∀o,h.get? b=some o->h'.get? b=some o):IsTupleKey (Cf prog w) h' k b:=by
 obtain⟨o',items,n,Bz,hc,IU,hi⟩:=z;exact⟨o',items,n,m o' Bz,hc,IU,hi⟩
def dJ(S I:Addr)(h h':Heap):Prop:=∀b o,b≠S->b≠I->h.get? b=some o->h'.get? b=some o
theorem w6{l S I:Addr}{items:Array Value}{kks:List (List Int)}(hh:A.in1.handled=none)(hu:A.in1.units<cLine)(MB:S≠I)(OV:l≠S)(R7:l≠I){R:Result->Shared->Prop}(Bj:kks.length=items.size)(X4:items.size<=17) : ∀(k i:Nat)(s:Shared)(acc:List<|List Int),items.size-i=k->i<=items.size->acc.length<=i->s.heap.IsList l items->s.heap.IsListIter I l i->Gw prog w s.heap S acc->
  (∀(j:Nat)(v:Value),items[j]? = some v->∃q b,kks[j]? = some q/\v=.ref b/\b≠S/\b≠I/\IsTupleKey (Cf prog w) s.heap q b)->
  (∀h' tk,dJ S I s.heap h'->Gw prog w h' S (Dt acc<|kks.drop i)->R (.ok<|.ret .none) { s with heap:=h',toks:=tk })->
  codeAny (model prog w) A (.builtin "set.update.loop" ⟨[.ref S,.ref I],[]⟩) R s:=by
 intro k
 induction k with
 |zero=>
  intro i s acc hk hi jq hl hI hS hit hR;have Xv:i=items.size:=J
  refine codeAny_builtin ACr ?_;rw[Around.under_plainId AB5 _];show wpAny _ A.in1 (pyNext (.ref I) >>= _) _ _ s;refine wpAny_bind (wpAny_pyNext_list_end hh hI hl (by simp;lia) λh' eb=>?_);dsimp only;have je:Gw prog w h' S acc:=by
   obtain⟨o,es,ep,t,kk,ho,hex,hd,T,hp⟩:=hS;refine⟨o,es,ep,t,kk,eb S o MB ho,hex,hd,T.move λk' b z=>?_,hp⟩;obtain⟨oI,SI,j4,Rv⟩:=hI;refine Md z λo' e=>eb b o' (λzz=>?_) e;subst zz;obtain⟨o2,lh,n2,Jh,j3,hd2,_⟩:=z;rw[SI]at Jh;cases Jh;rw[Rv]at hd2;cases hd2
  refine wpAny_pure ?_;have:=hR h' s.toks λb o h1 h2 e=>eb b o h2 e;rw[List.drop_of_length_le (J:kks.length<=i)]at this;exact this je
 |succ k ih=>
  intro i s acc hk hi jq hl hI hS hit hR;have BH:i<items.size:=J
  have hv:items[i]? = some items[i]:=AAu BH;obtain⟨q,b,eq,ev,zM,jy,R4⟩:=hit i _ hv;refine codeAny_builtin ACr ?_;rw[Around.under_plainId AB5 _];show wpAny _ A.in1 (pyNext (.ref I) >>= _) _ _ s;refine wpAny_bind<|wpAny_pyNext_list_item hI hl hv λh1 jX sb=>?_;have moved:∀c o,c≠I->s.heap.get? c=some o->h1.get? c=some o:=λc o hc e=>(sb.2 c hc).trans e;rw[ev];dsimp only;refine wpAny_bind<|wpAny_holding ?_;unfold setAdd;refine wpAny_holding ?_;have X0:IsTupleKey (Cf prog w) h1 q b:=Md R4 λo e=>moved b o jy e;have jf:Gw prog w h1 S acc:=by
   obtain⟨o,es,ep,t,kk,ho,hex,hd,T,hp⟩:=hS;refine⟨o,es,ep,t,kk,moved S o MB ho,hex,hd,T.move λk' c z=>?_,hp⟩;obtain⟨oI,SI,j4,Rv⟩:=hI;refine Md z λo' e=>moved c o' (λzz=>?_) e;subst zz;obtain⟨o2,lh,n2,Jh,j3,hd2,_⟩:=z;rw[SI]at Jh;cases Jh;rw[Rv]at hd2;cases hd2
  refine wpAny_bind<|wpAny_pyHash_tuple (s:={ s with heap:=h1 }) hu X0 ?_;refine xJ (s:={ s with heap:=h1,toks:=s.toks+(q.length+1) }) jf X0 hu J λh2 r ud Kl=>?_;refine wpAny_pure ⟨plainId_quiet AB5 _,?_⟩;have PK:∀c o,c≠S->h1.get? c=some o->h2.get? c=some o:=λc o hc e=>(ud.2 c hc).trans e;refine ih (i+1) _ _ J BH ?_ ?_ ?_ Kl (λj v hj=>?_) λh3 tk ht jg=>?_
  .split
   .lia
   .simp;lia
  .exact hl.at λo e=>PK l o OV<|moved l o R7 e
  .exact jX.at λo e=>PK I o (AA3 MB) e
  .obtain⟨q',b',e1,e2,e3,e4,e5⟩:=hit j v hj;exact⟨q',b',e1,e2,e3,e4,Md e5 λo e=>PK b' o e3<|moved b' o e4 e⟩
  .have MD:kks.drop i=q::kks.drop (i+1):=by
    have Kq:i<kks.length:=J
    rw[ACl Kq];rw[AAV Kq]at eq;rw[AAo eq]
   refine hR h3 tk (λc o c1 c2 e=>ht c o c1 c2<|PK c o c1<|moved c o c2 e) ?_;rw[MD];exact jg
end
end ST
set_option linter.all false
set_option maxRecDepth 100000
namespace ST
open PySem PySem.SetTable
section
variable{prog:Program}{w:World}{A:Around}{E:Value->Shared->Prop}{s:Shared}
noncomputable abbrev HE(led:Bool):Obj:={ cls:=.type "set",dict:=none,data:=.set #[] 0 (.fresh 0 0 led) }
theorem jA{h:Heap}(led:Bool):Ek prog w h #[] (.fresh 0 0 led) []:=
 by
 refine⟨rfl,.inl rfl,.nil,(λj hj=>by cases hj),rfl,(AAC:0*5<7*3),rfl,λi hh v e=>?_,ADh,λi j k e _=>?_⟩
 .simp at e
 .simp[SetTable.fresh]at e
set_option maxHeartbeats 3200000 in
theorem fJ{l:Addr}{items:Array Value}{kks:List (List Int)}{Q:Value->Shared->Prop}(hh:A.handled=none)(hu:A.units+8<cLine)(hl:s.heap.IsList l items)(Bj:kks.length=items.size)(X4:items.size<=17) (hit:∀(j:Nat)(v:Value),items[j]? = some v->∃q b,kks[j]? = some q/\v=.ref b/\IsTupleKey (Cf prog w) s.heap q b) (h:∀(h':Heap)(tk:Nat),Gw prog w h' s.heap.objs.size (Dt [] kks)->(∀b o,s.heap.get? b=some o->h'.get? b=some o)->Q (.ref s.heap.objs.size) { s with heap:=h',toks:=tk }) : wpAny (model prog w) A (call (.type "set") [.ref l]) Q E s:=by
 obtain⟨c0,zv,zQ⟩:=F.called_set.mro;have zj:=F.called_set.made;have zr:=F.called_set.sub;refine wpAny_call<|codeAny_of_tree ?_;show wpAny _ _ (callAny (.type "set") _) _ _ _;refine wpAny_pure ⟨Code.quiet_builtin _ AAD,codeAny_builtin F.entry_type_call ?_⟩;rw[Around.under_plain (weight_type_call_type "set" [.ref l] []) rfl];have zl:=F.called_set.notType;have yD:=F.called_set.canCreate;have yE:=F.typeCall_set_1<|.ref l
 repeat (any_goals (first|assumption|wp_step))
 let made (led:Bool):Shared:={ s with heap:=s.heap.push (HE led) }
 refine codeAny_mono (code_set_new_1 (.ref l) (E:=E) (Q₁:=λob st=>∃led:Bool,ob=.ref s.heap.objs.size/\st=made led) λled=>⟨led,rfl,rfl⟩) λr1 zq SU=>?_;cases r1 with
 |error e=>exact SU
 |ok fl=>
  cases fl with
  |ret ob=>
   obtain⟨led,rfl,rfl⟩:=SU;have Xc:(s.heap.push<|HE led).get? s.heap.objs.size=some (HE led):=Heap.get?_push_size _ rfl;have wt:Shared.TypeIs (made led) (.ref s.heap.objs.size) "set":=⟨_,Xc,rfl⟩;have zd:=F.called_set.init.lookup;have yC:=F.called_set.init.bind<|.ref s.heap.objs.size;show wpAny _ _ _ _ _ (made led)
   repeat (any_goals (first|assumption|wp_step))
   refine codeAny_mono (codeAny_call_builtin (R:=wants (λrv Iu=>rv=.none/\∃h2 tk,Iu={ s with heap:=h2,toks:=tk }/\Gw prog w h2 s.heap.objs.size (Dt [] kks)/\(∀b o,s.heap.get? b=some o->h2.get? b=some o)) E)
    F.called_set.init.plain F.entry_set_init (check_set_init_1 wt ?_)) λr2 Iu SW=>?_
   .obtain⟨ol,Oc,OR,nl,Eo⟩:=id hl;obtain⟨zo,nY,zp,ow⟩:=ol;simp only at OR Eo;subst OR;subst Eo;have kz:(s.heap.push<|HE led).get? l=some { cls:=.type "list",dict:=nY,data:=.seq items nl,slots:=ow }:=Heap.get?_push_of_some _ Oc;have zW:=F.sub_list_set;have zV:=F.sub_list_frozenset;have Aq:(Value.type "list" == Value.type "dict")=false:=AAC
    have HU:(s.heap.push<|HE led).IsList l items:=⟨_,kz,rfl,nl,rfl⟩;unfold Builtin.«set.__init__» noKeywords Builtin.Frozenset.updateFrom;generalize jc:pyIter=PI
    wp_walk
    subst jc;refine wpAny_pyIter_list HU ?_;refine wpAny_bind<|wpAny_runValue ?_;have OV:l<s.heap.objs.size:=Heap.lt_size Oc;have Ol:(s.heap.push<|HE led).objs.size=s.heap.objs.size+1:=Heap.size_push ..;have MB:s.heap.objs.size≠(s.heap.push<|HE led).objs.size:=by rw[Ol];exact AAZ<|Nat.lt_succ_self _
    have R7:l≠(s.heap.push<|HE led).objs.size:=by rw[Ol];exact AAZ<|ACY OV
    refine w6 (l:=l) (items:=items) (kks:=kks) (S:=s.heap.objs.size) (I:=(s.heap.push<|HE led).objs.size) (by simp[hh]) (by simp;lia) MB (AAZ OV) R7 Bj X4 (items.size-0) 0 _ [] J (ABs _) (ABs _) (HU.push _) ⟨_,Heap.get?_push_size _ rfl,rfl,rfl⟩ ?hS0 ?hit ?hR
    case hS0=>exact⟨_,_,_,_,[],Heap.get?_push_of_some _ Xc,⟨rfl,rfl,rfl⟩,rfl,jA led,.nil⟩
    case hit=>
     intro j v hj;obtain⟨q,b,e1,e2,e3⟩:=hit j v hj;have hb:b<s.heap.objs.size:=by
      obtain⟨o2,_,_,e4,_⟩:=e3;exact Heap.lt_size e4
     exact⟨q,b,e1,e2,AAZ hb,by rw[Ol];exact AAZ<|ACY hb,Md e3 λo e=>Heap.get?_push_of_some _ (Heap.get?_push_of_some _ e)⟩
    case hR=>
     intro h2 tk ht Kl;rw[List.drop_zero]at Kl;refine wpAny_pure ?_;show wpAny _ _ (ret Value.none) _ _ _;refine wpAny_pure ⟨rfl,h2,tk,rfl,Kl,λb o e=>?_⟩;have hb:=Heap.lt_size e;exact ht b o (AAZ hb) (by rw[Ol];exact AAZ<|ACY hb)<|Heap.get?_push_of_some _ (Heap.get?_push_of_some _ e)
   .cases r2 with
    |error e=>exact SW
    |ok iz=>
     cases iz with
     |ret rv=>
      obtain⟨rfl,h2,tk,rfl,Kl,Jf⟩:=SW
      repeat (any_goals (first|assumption|wp_step))
      exact h _ _ Kl Jf
     |_=>exact SW.elim
  |_=>exact SU.elim
end
end ST
namespace L2
open PySem PySem.Spec PyProof.Rows
noncomputable def Fy(env:Env):Str×NameKind->Str×NameKind:=λ(n,k)=>if(k==NameKind.free&&env.scope.kind == .function&&env.kindOf n==some .cell)then(n,NameKind.cell)else(n,k)
theorem aG(env:Env)(y:Str×NameKind):(Fy env y).1=y.1:=by unfold Fy;dsimp only;split<;>rfl
theorem aH(env:Env)(y:Str×NameKind):((Fy env y).2=.cell/\y.2=.free)\/(Fy env y).2=y.2:=by
 unfold Fy;dsimp only;split
 .rename_i h;simp only[AAJ,ABt]at h;exact .inl ⟨rfl,h.1.1⟩
 .exact .inr rfl
theorem Y1{env:Env}:∀{names:List (Str×NameKind)}{x:Str},names.lookup x=some .free->(names.map<|Fy env).lookup x=some .cell\/(names.map<|Fy env).lookup x=some .free
 |[],_,h=>by simp at h
 |(n,k)::r,x,h=>by
  have ih:=@Y1 env r x;have e1:=aG env (n,k);have e2:=aH env (n,k);rw[AAT];generalize Fy env (n,k)=y at e1 e2;obtain⟨m,j⟩:=y;obtain rfl:m=n:=e1;cases hx:x==m with
  |true=>
   simp only[ABe,hx]at h ⊢;cases h;rcases e2 with⟨z,_⟩|z
   .exact .inl<|ABy some z
   .exact .inr<|ABy some z
  |false=>
   simp only[ABe,hx]at h ⊢;exact ih h
theorem Xa{env:Env}:∀{names:List (Str×NameKind)}{x:Str},((names.map<|Fy env).lookup x=some .cell\/(names.map<|Fy env).lookup x=some .free)->(x,NameKind.free)∈names\/names.lookup x=some .cell
 |[],_,h=>by simp at h
 |(n,k)::r,x,h=>by
  have ih:=@Xa env r x;have e1:=aG env (n,k);have e2:=aH env (n,k);rw[AAT]at h;generalize Fy env (n,k)=y at e1 e2 h;obtain⟨m,j⟩:=y;obtain rfl:m=n:=e1;cases hx:x==m with
  |true=>
   obtain rfl:x=m:=by simpa using hx
   simp only[ABe,hx,AAx]at h ⊢;rcases e2 with⟨_,rfl⟩|rfl
   .exact .inl AAf
   .rcases h with rfl|rfl
    .exact .inr rfl
    .exact .inl AAf
  |false=>
   simp only[ABe,hx]at h ⊢;rcases ih h with e|e
   .exact .inl<|AAX _ e
   .exact .inr e
theorem Nu:∀(names:List<|Str×NameKind)(n:Nat)(acc:List<|Str×Addr),cellsFrom n names acc=cellsFrom n names []++acc
 |[],_,_=>rfl
 |(x,k)::r,n,acc=>by
  unfold cellsFrom;split
  .rw[Nu r (n+1) ((x,n)::acc),Nu r (n+1) [(x,n)],List.append_assoc];rfl
  .exact Nu r n acc
theorem RA:∀(names:List<|Str×NameKind)(n:Nat)(acc:List<|Str×Addr){x:Str}{c:Addr},(x,c)∈cellsFrom n names acc->(x,c)∈acc\/(x,NameKind.cell)∈names
 |[],_,_,_,_,h=>.inl h
 |(y,k)::r,n,acc,x,c,h=>by
  unfold cellsFrom at h;split at h
  .rename_i hk;rcases RA r _ _ h with z|z
   .rcases AAi.mp z with e|e
    .right;have e1:x=y:=ABy Prod.fst e;have e2:=by simpa using hk
     rw[e1,e2];exact AAf
    .exact .inl e
   .exact .inr<|AAX _ z
  .rcases RA r _ _ h with z|z
   .exact .inl z
   .exact .inr<|AAX _ z
theorem K2{l m:List (Str×Addr)}{x:Str}{c:Addr}(h:(l++m).lookup x=some c):l.lookup x=some c\/(l.lookup x=none/\m.lookup x=some c):=by
 rw[ADF]at h;cases e:l.lookup x with
 |none=>rw[e]at h;exact .inr ⟨rfl,h⟩
 |some d=>rw[e]at h;exact .inl h
theorem xK{M:Model}{A:Around}{E:Value->Shared->Prop}{s:Shared}{scope:Scope}{globals:Addr}{closure:List (Str×Addr)}{qual:Str}{outer:Env}{Q:Env->Shared->Prop} (hQ:Q { scope:=scope,locals:=s.heap.objs.size,globals:=globals,cells:=cellsFrom (s.heap.objs.size+1) scope.names []++closure,qual:=qual,func:=none,code:=outer.code,frame:=outer.frame,builtins:=outer.builtins } { s with heap:=pushCells (s.heap.push { cls:=.type "dict",data:=.dict #[] }) scope.names }) : wpAny M A (newFunctionEnv scope globals closure [] qual none .none<|some outer) Q E s:=by
 simp only[newFunctionEnv,Option.isSome_some,AB0];refine wpAny_bind<|wpAny_alloc ?_;refine wpAny_bind (wpAny_layCells _ (λname kind cells=>by cases kZ:kind==NameKind.cell<;>simp[kZ]) _ _ _ _ ?_);rw[show({ s with heap:=s.heap.push { cls:=.type "dict",data:=.dict #[] } }:Shared).heap.objs.size=s.heap.objs.size+1 from Heap.size_push ..,Nu];exact wpAny_bind<|wpAny_pure<|wpAny_pure hQ
theorem KZ{cells:List (Str×Addr)}{x:Str}{c:Addr}(hc:cells.lookup x=some c):∀{l:List (Str×NameKind)}{acc:List (Str×Addr)},((x,NameKind.free)∈l\/acc.lookup x=some c)->(Dc cells l acc).lookup x=some c
 |[],acc,h=>by
  rcases h with h|h
  .cases h
  .exact h
 |(n,k)::r,acc,h=>by
  unfold Dc;by_cases hk:(k==NameKind.free)=true
  .rw[AAH hk];by_cases hn:x=n
   .subst hn;rw[hc];exact KZ hc<|.inr<|by simp[ABe]
   .have hx:(x==n)=false:=by simpa using hn
    have h':(x,NameKind.free)∈r\/acc.lookup x=some c:=by
     rcases h with h|h
     .rcases AAi.mp h with e|e
      .exact absurd (ABy Prod.fst e) hn
      .exact .inl e
     .exact .inr h
    cases hd:cells.lookup n with
    |none=>exact KZ hc h'
    |some d=>
     refine KZ hc ?_;rcases h' with e|e
     .exact .inl e
     .right;rw[ABe,hx];exact e
  .rw[AAG hk];refine KZ hc ?_;rcases h with h|h
   .rcases AAi.mp h with e|e
    .have:k=.free:=(ABy Prod.snd e).symm;rw[this]at hk;exact absurd rfl hk
    .exact .inl e
   .exact .inr h
def CI(X:Cx)(Nb:List Str)(scope:Scope)(C:Addr)(s:Shared)(H:Hp)(fp:List Addr)(AE:List<|Addr×Obj):Cx:=
 { X with N:=Nb,B2:=s,AS:=H,env:=compEnvC scope (cellsFrom (C+1) scope.names []++Dc X.env.cells scope.names []) C X.env,outer:=X.stack,stack:=X.stack,ex:=fp,fn:=λx=>scope.names.lookup x==some NameKind.cell,pn:=X.pn++AE,xe:=λ_ _=>False }
def GB(X:Cx)(ifs:List Expr)(t:TT):Prop:=
 ∀(AE:List<|Addr×Obj)(s:Shared)(σ:St)(H:Hp)(Q:Bool->Hp->Prop),Inv X AE σ H s->t σ H Q->wpAny (model X.prog X.w) X.A (forIn ifs true λc r=>if r=true then do let ok<-isTrue c X.env<|eval c X.env;pure (ForInStep.yield ok)else pure (ForInStep.yield r)) (TP X AE σ Q) X.xe s
theorem p0{X:Cx}:GB X [] (λ_ H Q=>Q true H):=λ_ _ _ H _ I h=>wpAny_tests_nil ⟨H,I,h⟩
theorem p7{X:Cx}{c:Expr}{t:TT}(h:PT X c t):GB X [c] t:=λAE s σ H Q I q=>wpAny_tests_one<|h AE s σ H Q I q
structure F6(X:Cx)(scope:Scope)(Nb:List Str)(own:Nat)(cap:List Nat):Prop where
 kind:scope.kind=.function
 cell:∀y∈scope.names,y.2=.cell->scope.names.lookup y.1=some .cell
 loc:∀x∈scope.names,x.2=.local->scope.names.lookup x.1=some .local
 free:∀y∈scope.names,y.2=.free->X.env.kindOf y.1=some .cell\/X.env.kindOf y.1=some .free
 len:Nb.length=own+cap.length
 cap:∀k j,cap[k]? = some j->∃x,Nb[own+k]? = some x/\X.N[j]? = some x/\scope.names.lookup x=some .free
noncomputable def FX(own:Nat)(cap:List Nat)(σ:St):St:=List.replicate own none++cap.map λj=>(σ[j]?).join
theorem fO{own:Nat}{cap:List Nat}{σ:St}{i:Nat}{v:V}(h:(FX own cap σ)[i]? = some (some v)):∃k j,i=own+k/\cap[k]? = some j/\σ[j]? = some (some v):=by
 unfold FX at h;by_cases hi:i<own
 .rw[AAq (by simpa using hi),ABA]at h;split at h<;>simp at h
 .rw[AAs (by simpa using hi),ABK]at h;simp only[ABk]at h;cases hj:cap[i-own]? with
  |none=>rw[hj]at h;simp at h
  |some j=>
   rw[hj]at h;simp only[AA5,AAx]at h;refine⟨i-own,j,AAA,hj,?_⟩;cases hs:σ[j]? with
   |none=>rw[hs]at h;simp at h
   |some o=>rw[hs]at h;simp at h;rw[h]
section
variable{X:Cx}{tg iter elt:Expr}{ifs:List Expr}{scope:Scope}{pos:Pos}{Nb:List Str}{own:Nat}{cap:List Nat}{wi:TI}{g:TG}{ti:TT}{te:TE}
def bD(own:Nat)(cap:List Nat)(g:TG)(ti:TT)(te:TE)(z7:It)(σ:St)(H1:Hp)(Q:VK):Prop:=∀D,H1 D=none->∃W:Nat->Nat->St->Hp->Prop,(∃m,W 0 m (FX own cap σ)<|upd H1 D<|.lst [])/\∀i m AY H',W i m AY H'->(z7.stop i H'/\Q (.ref D) H')\/(z7.go i H'/\∃N:St->Hp->Prop,(∀DS Cp,N DS Cp->∃m',m'<m/\W (i+1) m' DS Cp)/\
  ∀x Cp,z7.QH i H' x Cp->g x AY Cp λC6 H2=>ti C6 H2 λb H3=>if b=true then te C6 H3 λv H4=>∃ys,H4 D=some (.lst ys)/\ys.length<sizeLine/\N C6 (upd H4 D<|.lst<|ys ++ [v])else N C6 H3)
theorem Mw{C:Addr}{x:Str}{c:Addr}(h:(cellsFrom (C+1) scope.names []).lookup x=some c):C<c:=by
 let h0:Heap:={ objs:=Array.replicate (C+1) default }
 have ok:=cellsFrom_ok scope.names h0 (C+1) [] ⟨λ_ _ hm=>(nomatch hm),List.Pairwise.nil⟩ (by simp[h0]);rw[show h0.objs.size=C+1 by simp[h0]]at ok;exact(ok.empty x c<|AA8 h).2
theorem own_apart{C:Addr}:(cellsFrom (C+1) scope.names []).Pairwise λx y=>x.2≠y.2:=by
 let h0:Heap:={ objs:=Array.replicate (C+1) default }
 have ok:=cellsFrom_ok scope.names h0 (C+1) [] ⟨λ_ _ hm=>(nomatch hm),List.Pairwise.nil⟩ (by simp[h0]);rw[show h0.objs.size=C+1 by simp[h0]]at ok;exact ok.apart
theorem Vw{AE:List (Addr×Obj)}{s:Shared}{σ:St}{H:Hp}(I:Inv X AE σ H s){l:List (Str×NameKind)}{x:Str}{c:Addr}(h:(Dc X.env.cells l []).lookup x=some c):c<s.heap.objs.size:=by
 obtain⟨v,o,ho,_⟩:=I.cell x c (HA (λ_ _ z=>by cases z) h);exact Heap.lt_size ho
theorem gF{C:Addr}{s:Shared}{H:Hp}{fp:List Addr}{AE:List (Addr×Obj)}{σ:St}(O:F6 X scope Nb own cap)(I:Inv X AE σ H s)(f:∀b∈fp,FR X AE H b)(hC:s.heap.objs.size<=C)(MF:∀b∈fp,b<s.heap.objs.size) : (CI X Nb scope C s H fp AE).Ok:=by
 refine⟨I.ok.mod,O.kind,I.ok.glob,I.ok.blt,hC,λx y c h1 h2=>?_,λx hx=>?_,λx c h h2=>?_,I.ok.hd,I.ok.frames,.inl rfl,λb hb=>⟨?_,λx c h=>?_⟩,I.bs,ABF I.ok.Em I.sz,λb o e hb=>?_,λb hb z=>?_,I.stack,I.UU⟩
 .rcases K2 h1 with z1|⟨_,z1⟩<;>rcases K2 h2 with z2|⟨_,z2⟩
  .exact name_of_addr own_apart (AA8 z1)<|AA8 z2
  .exact absurd (Mw z1) (Nat.not_lt.mpr<|ABF (ACF<|Vw I z2) hC)
  .exact absurd (Mw z2) (Nat.not_lt.mpr<|ABF (ACF<|Vw I z1) hC)
  .exact I.ok.inj x y c (HA (λ_ _ z=>by cases z) z1)<|HA (λ_ _ z=>by cases z) z2
 .show ∃c,(cellsFrom (C+1) scope.names []++Dc X.env.cells scope.names []).lookup x=some c;rw[ADF];rcases Xa hx with hm|hm
  .obtain⟨c,hc⟩:=I.ok.has x<|O.free _ hm rfl;cases (cellsFrom (C+1) scope.names []).lookup x with
   |none=>exact⟨c,KZ hc<|.inl hm⟩
   |some d=>exact⟨d,rfl⟩
  .obtain⟨c,hc⟩:=Nt  hm;exact⟨c,by rw[hc];rfl⟩
 .have hx:=by simpa[CI]using h
  obtain⟨c',GO⟩:=Nt  hx;rcases K2 h2 with z|⟨z,_⟩
  .exact ABF hC<|ACF<|Mw z
  .rw[GO]at z;cases z
 .exact AAZ<|AAe (MF b hb) hC
 .rcases K2 h with z|⟨_,z⟩
  .exact AA3<|AAZ<|ADy (AAe (MF b hb) hC)<|Mw z
  .exact(f b hb).2.2.2.2.1 x c (HA (λ_ _ z=>by cases z) z)
 .rcases(f b hb).2.2.2.1 with z|z
  .exact I.ok.Hc b o e z
  .exact absurd (AAe (Heap.lt_size e)<|ABF I.ok.Em z) (ACB _)
 .rcases AAi.mp (I.NA b z)with e|e
  .exact(f b hb).2.1 e
  .exact(f b hb).2.2.1 e
theorem gE{C:Addr}{s s':Shared}{H H':Hp}{fp:List Addr}{AE:List (Addr×Obj)}{σ:St}{m:Str->Option Value}(O:F6 X scope Nb own cap)(I:Inv X AE σ H s)(ok:(CI X Nb scope C s H fp AE).Ok) (k6:s'.os=s.os) (hg:AllBare s'.gens) (u:Un (Cm X.stack) fp H H' s.heap s'.heap) (k:∀b o,s.heap.get? b=some o->s'.heap.get? b=some o) (hC:s.heap.objs.size<=C) (hn:s'.heap.Ns C m) (hf:H' C=none) (X6:∀b o,s.heap.get? b=some o->H b=none->H' b=none) (Ae:Bp X.prog X.w H' s'.heap) (YC:∀x c,(cellsFrom (C+1) scope.names []).lookup x=some c->s'.heap.IsCell c none/\H' c=none) : Inv (CI X Nb scope C s H fp AE) [] (FX own cap σ) H' s':=by
 refine⟨ok,k6,hg,u,⟨m,hn,λi x v h1 h2 h3=>?_⟩,λx c h=>?_,hf,λx c h=>?_,λp hp=>?_,Ae,?_⟩
 .obtain⟨kk,j,rfl,hj,hs⟩:=fO h2;obtain⟨y,e1,e2,e3⟩:=O.cap kk j hj;have lO:=by
   have IS:Nb[own+kk]? = some x:=h1;rw[e1]at IS;exact AAo IS
  subst lO;have hm:=AA8 e3;have hk:=O.free _ hm rfl;have hv:DZ X.env.scope y:=by
   rcases hk with z|z
   .exact .inr<|.inl z
   .exact .inr<|.inr z
  obtain⟨m0,MN,hl⟩:=I.loc;obtain⟨u0,r,l⟩:=hl j y v e2 hs hv;refine⟨u0,r,?_⟩;rcases l with⟨l,_⟩|⟨_,c,hc,OQ⟩
  .rcases hk with z|z<;>(rw[l]at z;cases z)
  .refine .inr ⟨Y1 e3,c,?_,OQ.keeps k⟩;show(cellsFrom (C+1) scope.names []++Dc X.env.cells scope.names []).lookup y=some c;rw[ADF];cases eo:(cellsFrom (C+1) scope.names []).lookup y with
   |none=>exact KZ hc<|.inl hm
   |some d=>
    rcases RA _ _ _ (AA8 eo)with z|z
    .exact nomatch z
    .have:=O.cell _ z rfl;rw[e3]at this;cases this
 .rcases K2 h with z|⟨_,z⟩
  .exact⟨_,(YC x c z).1⟩
  .obtain⟨v,z⟩:=I.cell x c (HA (λ_ _ z=>by cases z) z);exact⟨v,z.keeps k⟩
 .rcases K2 h with z|⟨_,z⟩
  .exact(YC x c z).2
  .have hc:=HA (λ_ _ z=>by cases z) z;obtain⟨v,o,ho,_⟩:=I.cell x c hc;exact X6 c o ho<|I.Dh x c hc
 .have FH:p∈X.pn++AE:=by
   have:p∈(X.pn++AE) ++ []:=hp;simpa using this
  obtain⟨e,n,ne,nf,d⟩:=I.pin p FH;refine⟨k _ _ e,X6 _ _ e n,AAZ<|AAe (Heap.lt_size e) hC,λz=>?_,d⟩;rcases AAi.mp (I.NA p.1 z)with q|q
  .exact ne q
  .exact nf q
 .show(FX own cap σ).length=Nb.length;rw[O.len];simp[FX]
theorem V4{AE:List (Addr×Obj)}{s:Shared}{σ:St}{H:Hp}{Q:VK}{it:Addr}{fp:List Addr}{tn:Nat->Heap->Prop}{z7:It}{E:Value->Shared->Prop}{RR:Value->Addr->Result->Shared->Prop}(hc:X.calm=true)(O:F6 X scope Nb own cap) (hg:∀C s H fp AE,PG (CI X Nb scope C s H fp AE) tg g) (ht:∀C s H fp AE,GB (CI X Nb scope C s H fp AE) ifs ti) (he:∀C s H fp AE,PE (CI X Nb scope C s H fp AE) elt te) (I:Inv X AE σ H s) (T:Turn X.prog X.w X.K tg z7 fp it tn) (st:tn 0 s.heap) (f:∀b∈fp,FR X AE H b) (hW:bD own cap g ti te z7 σ H Q) (jd:∀(D C:Addr)(s':Shared)(H':Hp)(m:Str->Option Value),Inv X AE σ H' s'->s'.heap.Ns C m->FR X AE H' C->Q (.ref D) H'->RR (.ref D) C (.ok .next) s') : wpAny (model X.prog X.w) X.A (newList []) (λacc Iw=>wpAny (model X.prog X.w) X.A (newFunctionEnv scope X.env.globals (Dc X.env.cells scope.names []) [] X.env.qual none .none<|some X.env) (λVu P1=>
  codeAny (model X.prog X.w) X.A (.compStart (.ListComp elt [⟨tg,iter,ifs,0⟩] scope pos) 0 (.ref it) acc { Vu with scope:=relabel scope X.env }) (RR acc Vu.locals) P1) E Iw) E s:=by
 have MF:∀b∈fp,b<s.heap.objs.size:=λb hb=>by
  obtain⟨o,e,_⟩:=T.obj _ _ st b hb;exact Heap.lt_size e
 refine wpAny_newObj_type<|xK ?_;dsimp only;have hD:=I.Ae.fresh<|AAS _;obtain⟨W,⟨m0,w0⟩,turn⟩:=hW s.heap.objs.size hD;generalize Rn:s.heap.push { cls:=.type "list",dict:=none,data:=.seq ([]).toArray }=H2;have X8:=(Heap.Ns.new H2<|.type "dict").keeps<|pushCells_keeps scope.names _;have Ru:=cellsFrom_ok scope.names (H2.push { cls:=.type "dict",data:=.dict #[] }) (H2.objs.size+1) [] ⟨λ_ _ hm=>(nomatch hm),List.Pairwise.nil⟩ (by rw[Heap.size_push];exact AAS _);rw[Heap.size_push]at Ru;have Te:∀b o,H2.get? b=some o->(pushCells (H2.push { cls:=.type "dict",data:=.dict #[] }) scope.names).get? b=some o:=λb o e=>pushCells_keeps _ _ b o<|Heap.get?_push_of_some _ e;generalize zO:pushCells (H2.push { cls:=.type "dict",data:=.dict #[] }) scope.names=Ig at X8 Ru Te ⊢;have hC:H2.objs.size=s.heap.objs.size+1:=by rw[<-Rn,Heap.size_push]
 have Kk:s.heap.objs.size<=H2.objs.size:=by rw[hC];exact ADC _
 have jW:s.heap.objs.size≠H2.objs.size:=by rw[hC];exact AAZ<|Nat.lt_succ_self _
 have old:=λb o e=>Te b o<|Rn ▸ Heap.get?_push_of_some _ e;have dW:=Te _ _<|Rn ▸ Heap.get?_push_size _ rfl;have ky:Bp X.prog X.w (upd H s.heap.objs.size<|.lst []) Ig:=I.Ae.laid old (AAS _) ⟨ABs _,[],0,.nil,dW⟩;have ok:=gF  O I f Kk MF;have fC:∀{H':Hp},H' H2.objs.size=none->FR X AE H' H2.objs.size:=λhn=>I.Rf Kk hn;have Ib:∀tk:Nat,Inv (CI X Nb scope H2.objs.size s H fp AE) [] (FX own cap σ) (upd H s.heap.objs.size<|.lst []) { s with heap:=Ig,toks:=tk }:=λtk=>
  gE O I ok rfl I.bare (Un.laid old (AAS _) hD) old Kk X8 (by rw[BK<|AA3 jW];exact I.Ae.fresh Kk) (λb o e n=>by rw[BK<|AAZ<|Heap.lt_size e];exact n) ky (λx c e=>⟨(Ru.empty x c<|AA8 e).1,by
   have BH:=Mw e;rw[BK<|AA3<|AAZ<|ACp Kk BH];exact I.Ae.fresh<|ABF Kk<|ACF BH⟩)
 have i8:∀b∈fp,(upd H s.heap.objs.size<|.lst []) b=none:=λb hb=>by rw[BK<|AAZ<|MF b hb];exact(f b hb).1
 have UT:∀{H':Hp},(∀b∈fp,H' b=none)->∀b∈fp,FR (CI X Nb scope H2.objs.size s H fp AE) [] H' b:=λhn b hb=>by
  refine⟨hn b hb,(ok.IJ b hb).1,ok.HK b hb,.inl hb,(ok.IJ b hb).2,λp hp=>?_⟩;have FH:p∈X.pn++AE:=by
   have:p∈(X.pn++AE) ++ []:=hp;simpa using this
  exact(f b hb).2.2.2.2.2 p FH
 have j6:∀b∈fp,(b∈X.ex\/X.B2.heap.objs.size<=b)/\b≠X.env.locals/\(∀x c,X.env.cells.lookup x=some c->c≠b)/\∀p∈X.pn++AE,p.1≠b:=λb hb=>by
  obtain⟨_,f1,_,f3,f4,f5⟩:=f b hb;exact⟨f3,f1,f4,f5⟩
 have loop:∀tk:Nat,codeAny (model X.prog X.w) X.A (.compLoop (.ListComp elt [⟨tg,iter,ifs,0⟩] scope pos) 0 (.ref it) (.ref s.heap.objs.size)<|compEnvC scope (cellsFrom (H2.objs.size+1) scope.names []++Dc X.env.cells scope.names []) H2.objs.size X.env) (RR (.ref s.heap.objs.size) H2.objs.size) { s with heap:=Ig,toks:=tk }:=λtk=>by
  refine fu (λn s'=>∃i AY H',Inv (CI X Nb scope H2.objs.size s H fp AE) [] AY H' s'/\tn i s'.heap/\(∀b∈fp,H' b=none)/\W i n AY H') ?_ m0 ⟨0,_,_,Ib tk,T.keep _ _ _ st λb _ o e=>old b o e,i8,w0⟩;rintro n s3 ⟨i,D5,H3,I3,Ef,L6,w3⟩;rcases turn i n D5 H3 w3 with⟨stop,qn⟩|⟨go,N,hN,step⟩
  .refine Aj (T.done (CI X Nb scope H2.objs.size s H fp AE) rfl rfl rfl hc i [] s3 D5 H3 _ I3 (UT L6) Ef stop) λr s4 ⟨hr,I4⟩=>?_;subst hr;obtain⟨m4,km,_⟩:=I4.loc;exact jd _ _ s4 H3 m4 (I.Vr   I4.os I4.base I4.Ae I4.bare j6) km (fC I4.free) qn
  .refine Aj (T.item (CI X Nb scope H2.objs.size s H fp AE) rfl rfl rfl hc i [] s3 D5 H3 _ I3 (UT L6) Ef go) λr s4 ⟨u,hr,h4⟩=>?_;subst hr;refine Aj h4 λ_ s5 ⟨x,H5,I5,r5,y5,FP,Rg⟩=>?_;have Qg:=I5.pinned (UT Rg)<|T.obj _ _ FP;refine Aj (hg H2.objs.size s H fp AE _ s5 D5 H5 x u _ Qg r5<|step x H5 y5) λ_ s6 ⟨LS,H6,I6,q6⟩=>?_;refine Aj (ht H2.objs.size s H fp AE _ s6 LS H6 _ I6 q6) λb s7 ⟨H7,I7,q7⟩=>?_;have again:∀{NL:St}{H8:Hp}{s8:Shared},Inv (CI X Nb scope H2.objs.size s H fp AE) ([]++M1 fp s5.heap) NL H8 s8->N NL H8->∃m,m<n/\∃i AY H',Inv (CI X Nb scope H2.objs.size s H fp AE) [] AY H' s8/\tn i s8.heap/\(∀b∈fp,H' b=none)/\W i m AY H':=λ{NL H8 s8} I8 n8=>by
    obtain⟨m',hm,w8⟩:=hN NL H8 n8;refine⟨m',hm,i+1,NL,H8,I8.QB,T.keep _ _ _ FP λb hb o e=>(I8.pin (b,o)<|AA1 _<|AA1 _<|PF hb e).1,λb hb=>?_,w8⟩;obtain⟨o,e,d⟩:=T.obj _ _ FP b hb;exact(I8.pin (b,o)<|AA1 _<|AA1 _<|PF hb e).2.1
   cases b with
   |false=>
    exact again I7 q7
   |true=>
    refine Aj (he H2.objs.size s H fp AE _ s7 LS H7 _ I7 q7) λy s8 ⟨v,H8,I8,r8,ys,e8,z8,n8⟩=>?_;refine Aj (Y9  _ s8 LS H8 (.ref s.heap.objs.size) [v] (.ref s.heap.objs.size) [y] (λ_ H9=>N LS H9) I8 rfl (.cons r8 .nil) ⟨_,ys,v,rfl,rfl,e8,z8,n8⟩) (by rintro _ s9 ⟨_,H9,I9,_,n9⟩;exact again I9 n9)
 refine codeAny_compStart_list (loop _) ?_;exact T.self _ 0 _ _ _ (T.keep _ _ _ st λb _ o e=>old b o e)<|loop _
def Ug(own:Nat)(cap:List Nat)(wi:TI)(g:TG)(ti:TT)(te:TE):TE:=λσ H Q=>wi σ H λz7 H1=>bD own cap g ti te z7 σ H1 Q
theorem pJ(hc:X.calm=true)(O:F6 X scope Nb own cap)(hi:PI X tg iter wi)(hg:∀C s H fp AE,PG (CI X Nb scope C s H fp AE) tg g)(ht:∀C s H fp AE,GB (CI X Nb scope C s H fp AE) ifs ti)(he:∀C s H fp AE,PE (CI X Nb scope C s H fp AE) elt te) (hs:∀x,foldedSetIterable iter X.env x=pure x:=by intro _;rfl):PE X (.ListComp elt [⟨tg,iter,ifs,0⟩] scope pos)<|Ug own cap wi g ti te:=by
 intro AE s σ H Q I h;refine wpAny_comprehension_free   rfl hs (Vx λy hy hk=>I.ok.has _<|O.free y hy hk) O.kind O.loc<|Aj (hi AE s σ H _ I h) λxv s1 h1=>Aj h1 λOw s2 h2=>?_;obtain⟨it,fp,tn,z7,H2,rfl,I2,T,Iu,f2,hW⟩:=h2;refine V4  hc O hg ht he I2 T Iu f2 hW λD C s' H' m I' hn fC q=>?_;refine⟨m,hn,λh' Ji=>⟨.ref D,H',I'.turned  (λb o hb e=>Ji.extBut b o hb e) fC.1 fC.2.1 fC.2.2.2.1 fC.2.2.2.2.1 fC.2.2.2.2.2,rfl,q⟩⟩
theorem qN{y:Str}{py aa:Pos}{i:Nat}(hN:X.N.Nodup)(CQ:X.N[i]? = some y)(hx:Loc X.env.scope y)(hc:X.calm=true)(O:F6 X scope Nb own cap)(hi:PI X tg iter wi)(hg:∀C s H fp AE,PG (CI X Nb scope C s H fp AE) tg g)(ht:∀C s H fp AE,GB (CI X Nb scope C s H fp AE) ifs ti)(he:∀C s H fp AE,PE (CI X Nb scope C s H fp AE) elt te) (Fp:swapsWith (.ListComp elt [⟨tg,iter,ifs,0⟩] scope pos) (some<|.Name y py) aa.line X.env=pure true:=by rfl) (hs:∀x,foldedSetIterable iter X.env x=pure x:=by intro _;rfl) (hf:X.fn y=true\/X.env.scope.names.lookup y=some .local:=by first|exact .inl rfl|exact .inr rfl|assumption) : PS X (.Assign [.Name y py] (.ListComp elt [⟨tg,iter,ifs,0⟩] scope pos) aa)<|NF (Ug own cap wi g ti te)<|L7 i:=by
 intro AE s σ H D I h;rw[exec_Assign_Name_used _ _ _ _ Fp];refine wpAny_bind<|wpAny_standAt<|wpAny_bind ?_;refine wpAny_bind (wpAny_mono (wpAny_comprehension_free    rfl hs (Vx λy hy hk=>I.ok.has _<|O.free y hy hk) O.kind O.loc
  (Aj (hi AE s σ H _ I h) λxv s1 h1=>Aj h1 λOw s2 h2=>?_)) (λ_ s' hq=>wpAny_pure<|wpAny_pure hq) λ_ _ e=>e)
 obtain⟨it,fp,tn,z7,H2,rfl,I2,T,Iu,f2,hW⟩:=h2;refine V4  hc O hg ht he I2 T Iu f2 hW λD' C s' H' m I' hn fC q=>?_;refine wpAny_assign_Name<|af I' hN CQ hx (v:=.ref D') rfl (λIr dD ⟨a,MR,ha⟩=>?_) hf;have jV:C≠a:=by
  rcases ha with rfl|ha
  .exact fC.2.1
  .exact AA3<|fC.2.2.2.2.1 y a ha
 refine⟨m,hn.sameBut MR jV,λh' Ji=>?_⟩;exact⟨_,H',dD.turned  (λb o hb e=>Ji.extBut b o hb e) fC.1 fC.2.1 fC.2.2.2.1 fC.2.2.2.2.1 fC.2.2.2.2.2,q⟩
end
theorem Bx.has{P:Program}{w:World}{H:Hp}{h:Heap}{a:Addr}{o:HO}(x:Bx P w H h a o):∃ob,h.get? a=some ob:=by
 cases o with
 |lst xs=>obtain⟨_,_,_,_,e⟩:=x;exact⟨_,e⟩
 |tup xs=>obtain⟨_,_,_,ob,e,_⟩:=x;exact⟨_,e⟩
 |dK AR=>obtain⟨_,_,_,_,o,_,_,e,_⟩:=x;exact⟨_,e⟩
 |dT AR=>obtain⟨_,_,_,_,o,_,_,e,_⟩:=x;exact⟨_,e⟩
 |set S n=>obtain⟨o,_,_,_,e,_⟩:=x;exact⟨_,e⟩
 |ins C dx fs=>obtain⟨_,_,_,e,_⟩:=x;exact⟨_,e⟩
 |own y=>obtain⟨_,e⟩:=x;exact⟨_,e⟩
 |xd fs=>obtain⟨_,⟨_,_,_,e,_⟩,_⟩:=x;exact⟨_,e⟩
 |Pn lo hi=>obtain⟨_,_,_,e⟩:=x;exact⟨_,e⟩
 |Dz ob u=>obtain⟨e,_⟩:=x;exact⟨_,e⟩
 |Iy ps=>exact⟨_,(show h.get? a=some _ from x)⟩
 |met f y=>exact⟨_,(show h.get? a=some _ from x)⟩
 |ext φ=>obtain⟨_,⟨_,e⟩,_⟩:=x;exact⟨_,e⟩
structure Ng(P:Program)(w:World)(outer:List Env)(H:Hp)(s:Shared)(ea:Addr)(cls:Value)(B:Heap)(H':Hp)(s':Shared):Prop where
 os:s'.os=s.os
 bare:AllBare s'.gens
 un:Un (Cm outer) [] H H' s.heap s'.heap
 Ae:Bp P w H' s'.heap
 N8:∃a0,Heap.FlyingW B outer ea cls a0 s'.heap
 nw:s.heap.get? ea=none
 he:H' ea=none
 b1:∀b o,s.heap.get? b=some o->b∉Cm outer->∃o',B.get? b=some o'/\(H b=none->o'=o)
 b2:∀b o,(H' b).isSome=true->s'.heap.get? b=some o->B.get? b=some o
def Gm(P:Program)(w:World):D6:=λouter H s E e s'=>∃ea cls B H',e=.ref ea/\Ng P w outer H s ea cls B H' s'/\E cls none H'
section
variable{P:Program}{w:World}{outer:List Env}{H H':Hp}{s s':Shared}{ea:Addr}{cls:Value}{B EC:Heap}
theorem Ng.then(F:Ng P w outer H s ea cls B H' s')(st:B.StaysIn EC)(us:s'.heap.UpToSlots EC):Un (Cm outer) [] H H' s.heap EC/\Bp P w H' EC:=by
 have slot:∀b o,s.heap.get? b=some o->H b=none->b∈Cm outer->∃sl,EC.get? b=some { o with slots:=sl }:=λb o e n hb=>by
  obtain⟨sl,e1⟩:=F.un.slot b o e n hb AAB;obtain⟨a0,fl⟩:=F.N8;obtain⟨_,o',e2,nf⟩:=fl.2.2.1.mem hb;rw[e1]at e2;cases e2;obtain⟨Hg,e3⟩:=us b _ e1 nf;exact⟨Hg,e3⟩
 refine⟨⟨λb o e n hb _=>?_,λb o e n hb _=>slot b o e n hb,λb o e n _=>F.un.free b o e n AAB,λb o e _=>?_,F.un.DQ,F.un.D1,F.un.Eh⟩,λa o e=>?_⟩
 .obtain⟨o',e1,e2⟩:=F.b1 b o e hb;have:=e2 n;subst this;exact st _ _ e1
 .by_cases hb:b∈Cm outer
  .obtain⟨a0,fl⟩:=F.N8;obtain⟨_,o',e2,nf⟩:=fl.2.2.1.mem hb;obtain⟨Hg,e3⟩:=us b _ e2 nf;exact⟨_,e3⟩
  .obtain⟨o',e1,_⟩:=F.b1 b o e hb;exact⟨_,st _ _ e1⟩
 .refine(F.Ae a o e).Hh (λb u hb q=>st _ _<|F.b2 b u ?_ q) (λ_ q=>q) λ_ _ q=>q;rcases hb with rfl|hb
  .rw[e];rfl
  .rw[hb];rfl
end
section
variable{X:Cx}{AE:List (Addr×Obj)}{σ:St}{H H':Hp}{s s':Shared}{ea:Addr}{cls:Value}{B h':Heap}{vs:List Value}{M:Model}
structure Le(X:Cx):Prop where
 EJ:X.stack=X.env::X.outer
 fr:X.env.frame=some X.env.locals
 ex:X.ex=[]
theorem Inv.Mt(I:Inv X AE σ H s){b:Addr}{o:Obj}(e:X.B2.heap.get? b=some o)(hb:b∉X.fs):b∉Cm X.stack:=λz=>by
 rcases AAi.mp (I.NA b z)with q|q
 .exact absurd (AAe (Heap.lt_size e) I.ok.above) (by rw[q];exact ACB _)
 .exact hb q
theorem Inv.old(I:Inv X AE σ H s)(d:X.ex=[]){b:Addr}(e:s.heap.get? b=none):X.B2.heap.get? b=none:=by
 cases q:X.B2.heap.get? b with
 |none=>rfl
 |some o=>
  obtain⟨o',z⟩:=I.base.there b o q (by rw[d];simp);rw[e]at z;cases z
theorem uJ{E:XK}{E':Value->Shared->Prop}(d:Le X)(I:Inv X AE σ H s)(hm:Heap.MadeExcOf s.heap h' ea cls vs)(hE:E cls none H) : wpAny M X.A (leaving X.env<|.ref ea) (λ_ Ir=>Gm X.prog X.w X.outer X.AS X.B2 E (.ref ea) Ir) E' { s with heap:=h' }:=by
 have fm:∀env∈X.stack,∀a,env.frame=some a->a∈Cm X.stack:=λenv he a ha=>ACo.mpr ⟨env,he,ha⟩;have MG:X.A.frames=some (X.env::X.outer):=by rw[<-d.EJ];exact I.ok.frames
 have hx:∀b,b∉X.ex:=λb z=>by rw[d.ex]at z;cases z
 have J7:∀b,(H b).isSome=true->b∉Cm X.stack:=λb z q=>by rw[I.UU b q]at z;cases z
 have hl:s.heap.FunFrames (PySem.W.hideAll s.heap<|Cm X.stack) (X.env::X.outer):=by
  rw[<-d.EJ];exact PySem.W.funFrames_hide I.stack fm
 refine wpAny_leaves_madeW   MG d.fr (λb o q=>PySem.W.of_hideAll _ q) hl hm λEC t x1 x2 x3 x4=>?_;have Er:∀b o,s.heap.get? b=some o->b∉Cm X.stack->(PySem.W.hideAll s.heap<|Cm X.stack).get? b=some o:=λb o e hb=>ADq _ e hb;have slot:∀b o,s.heap.get? b=some o->b∈X.fs->∃sl,EC.get? b=some { o with slots:=sl }:=λb o e hb=>by
  obtain⟨_,o',e2,nf⟩:=I.Di.mem hb;rw[e]at e2;cases e2;exact x4 b _ (hm.keeps _ _ e) nf
 have Sb:∀b,(H b).isSome=true->∃o,s.heap.get? b=some o:=λb z=>by
  cases q:H b with
  |none=>rw[q]at z;cases z
  |some o=>exact(I.Ae b o q).has
 refine⟨ea,cls,_,H,rfl,⟨I.os,I.bare,⟨λb o e n hb _=>?_,λb o e n hb _=>?_,λb o e n _=>I.base.free b o e n<|hx b,λb o e _=>?_,I.base.DQ,I.base.D1,I.base.Eh⟩,λa o e=>?_,⟨_,x1⟩,I.old d.ex hm.new,?_,λb o e hb=>?_,λb o z e=>?_⟩,hE⟩
 .exact x1.1 _ _<|Er b o (I.base.keep b o e n hb<|hx b)<|I.Mt e hb
 .obtain⟨sl,e1⟩:=I.base.slot b o e n hb<|hx b;obtain⟨Hg,e2⟩:=slot b _ e1 hb;exact⟨Hg,e2⟩
 .obtain⟨o',e1⟩:=I.base.there b o e<|hx b;by_cases hb:b∈X.fs
  .obtain⟨Hg,e2⟩:=slot b _ e1 hb;exact⟨_,e2⟩
  .exact⟨_,x1.1 _ _<|Er b o' e1<|I.Mt e hb⟩
 .refine(I.Ae a o e).Hh (λb u hb q=>x1.1 _ _<|Er b u q<|J7 b ?_) (λ_ q=>q) λ_ _ q=>q;rcases hb with rfl|hb
  .rw[e];rfl
  .rw[hb];rfl
 .cases q:H ea with
  |none=>rfl
  |some o=>
   obtain⟨ob,z⟩:=(I.Ae ea o q).has;rw[hm.new]at z;cases z
 .obtain⟨o',e1⟩:=I.base.there b o e<|hx b;refine⟨o',Er b o' e1<|I.Mt e hb,λn=>?_⟩;have:=I.base.keep b o e n hb<|hx b;rw[e1]at this;exact AAo this
 .obtain⟨o1,e1⟩:=Sb b z;have e2:=Er b o1 e1<|J7 b z;have e3:=x1.1 _ _ e2;rw[show EC.get? b=some o from e]at e3;rw[e2];exact e3.symm
theorem o6{E:XK}{E':Value->Shared->Prop}(d:Le X)(I:Inv X AE σ H s)(F:Ng X.prog X.w X.stack H s ea cls B H' s')(hE:E cls none H') : wpAny M X.A (leaving X.env<|.ref ea) (λ_ Ir=>Gm X.prog X.w X.outer X.AS X.B2 E (.ref ea) Ir) E' s':=by
 have MG:X.A.frames=some (X.env::X.outer):=by rw[<-d.EJ];exact I.ok.frames
 have hx:∀b,b∉X.ex:=λb z=>by rw[d.ex]at z;cases z
 obtain⟨a0,fl⟩:=F.N8;refine wpAny_leaves_onW MG d.fr (by rw[<-d.EJ];exact fl) λEC Ra us=>?_;obtain⟨u,ok⟩:=F.then Ra.1 us
 have Sb:∀b,(H' b).isSome=true->∃o,s'.heap.get? b=some o:=λb z=>by
  cases q:H' b with
  |none=>rw[q]at z;cases z
  |some o=>exact(F.Ae b o q).has
 refine⟨ea,cls,B,H',rfl,⟨F.os.trans I.os,F.bare,⟨λb o e n hb _=>?_,λb o e n hb _=>?_,λb o e n _=>?_,λb o e _=>?_,λb xs q=>u.DQ b xs<|I.base.DQ b xs q,λb o xs q=>u.D1 b o xs<|I.base.D1 b o xs q,λb ps q=>?_⟩,ok,⟨a0,Ra⟩,I.old d.ex F.nw,F.he,λb o e hb=>?_,λb o z e=>?_⟩,hE⟩
 .exact u.keep b o (I.base.keep b o e n hb<|hx b) (I.base.free b o e n<|hx b) (I.Mt e hb) AAB
 .obtain⟨sl,e1⟩:=I.base.slot b o e n hb<|hx b;obtain⟨Hg,e2⟩:=u.any e1 (I.base.free b o e n<|hx b) AAB;exact⟨Hg,e2⟩
 .obtain⟨o',e1⟩:=I.base.there b o e<|hx b;exact u.free b o' e1 (I.base.free b o e n<|hx b) AAB
 .obtain⟨o',e1⟩:=I.base.there b o e<|hx b;exact u.there b o' e1 AAB
 .obtain⟨m1,e1⟩:=I.base.Eh b ps q;obtain⟨m2,e2⟩:=u.Eh b _ e1;exact⟨m1++m2,by rw[e2,Array.append_assoc]⟩
 .obtain⟨o1,e1⟩:=I.base.there b o e<|hx b;obtain⟨o',e2,e3⟩:=F.b1 b o1 e1<|I.Mt e hb;refine⟨o',e2,λn=>?_⟩;have z:=I.base.keep b o e n hb<|hx b;rw[e1]at z;exact(e3<|I.base.free b o e n<|hx b).trans (AAo z)
 .obtain⟨o1,e1⟩:=Sb b z;have e2:=F.b2 b o1 z e1;have e3:=Ra.1 _ _ e2;rw[show EC.get? b=some o from e]at e3;rw[e2];exact e3.symm
end
theorem oz{K:PySem.W.Frag}{h₀:Heap}{mg:Str->Option Value}{x:Str}{C:Addr}{Hz:List Value}{Im:String}(X:K.In h₀)(G:mg x=some (.ref C))(q:PySem.W.excIn K C Hz Im=true):OwnCls x C Hz Im mg h₀:=by
 refine⟨G,?_⟩;unfold PySem.W.excIn at q;split at q
 .rename_i dd cd sl ho;split at q
  .rename_i C' bm k0 k1 k2 k3 n k5 hm hs;simp only[AAJ,ABt,AAy]at q;obtain⟨⟨⟨⟨⟨rfl,rfl⟩,Xs⟩,ht⟩,Ae⟩,OZ⟩:=q;obtain⟨nm,bs,mro,ns,qn,hd,sn,sub,ab,col,del⟩:=cd;dsimp only at hm Xs Ae OZ;subst hm Xs;have Oi:sl=#[k0,k1,k2,k3,some<|.builtin n,k5]:=by
    obtain⟨l⟩:=sl;simp only at hs;rw[hs]
   subst Oi;exact⟨bm,ns,nm,qn,bs,hd,sn,sub,ab,col,dd,k0,k1,k2,k3,k5,_,X _ _ ho,.of_isNs<|PySem.W.isNs_of_in X Ae,PySem.W.nsMap_none_of_in X Ae OZ,PySem.W.tail_of_in X ht⟩
  .cases q
 .cases q
section
variable{X:Cx}{E:XK}{x:Str}{C:Addr}{Hz:List Value}{B Im So:String}{np Au pos:Pos}{N4:Expr}{A7:List Expr}{ta:TA}
def Raises(X:Cx)(E:XK):Prop:=∀(AE:List<|Addr×Obj)(σ:St)(H:Hp)(s:Shared)(h':Heap)(e:Addr)(cls:Value)(vs:List Value),Inv X AE σ H s->Heap.MadeExcOf s.heap h' e cls vs->E cls none H->X.xe (.ref e) { s with heap:=h' }
def vn(E:XK)(C:Addr)(ta:TA):TS:=λ_ σ H=>ta σ H λvs H1=>vs.length<=sizeLine/\E (.ref C) none H1
theorem qM(O:OwnCls x C Hz Im X.mg X.base)(FB:ExcBaseFacts B Im So Hz)(hc:X.calm=true)(hg:Gl X x)(ha:PA X (N4::A7) ta)(hx:Raises X E)(hd:(x==("__debug__"))=false:=by decide) (he:starEach (N4::A7) X.env=(false,eval N4 X.env)::starEach A7 X.env:=by rfl) (BM:(backTo Au<|starEach A7 X.env).any (·.1)=false:=by rfl) : PS X (.Raise (some<|.Call (.Name x np) (N4::A7) [] Au) none pos)<|vn E C ta:=by
 intro AE s σ H D I h;obtain⟨tl,N,nm,q,bs,hdct,sn,sub,ab,col,dd,k0,k1,k2,k3,k5,mN,hC,hN,OZ,T⟩:=O.obj;refine wpAny_Raise_call_subT  (nm:=nm) (q:=q) (N:=N) (bs:=bs)  (hdct:=hdct) (sn:=sn) (sub:=sub) (ab:=ab) (col:=col) (dd:=dd) (k0:=k0) (k1:=k1) (k2:=k2) (k3:=k3) (k5:=k5) FB  (T.hasType FB.hasBase) (I.ok.hd hc) (by rw[he];show(false||(backTo Au<|starEach A7 X.env).any (·.1))=false;rw[BM];rfl) OZ<|Mh I hg O.bound ⟨rfl,?_⟩ hd
 have h2:=ha Au AE s σ H _ I h;rw[he]at h2 ⊢;refine Calls.evalArgs_plain<|wpAny_mono h2 (λus F2 ⟨vs,H1,I1,r1,q1,q2⟩=>⟨rfl,?_,I1.bk _ _ hC,hN.keeps I1.bk,T.keeps I1.bk,λh' e hm=>hx AE σ H1 F2 h' e _ _ I1 hm q2⟩) λ_ _ y=>y;rw[<-r1.length];exact q1
end
section
variable{P:Program}{w:World}{K:PySem.W.Frag}{mg:Str->Option Value}{base:Heap}{N:List Str}{qual:Str}{scope:Scope}{f:Addr}{cd:Value}{A:Around}{outer:List Env}{s:Shared}{H:Hp}{E E':XK}
abbrev Lv(P:Program)(w:World)(K:PySem.W.Frag)(mg:Str->Option Value)(base:Heap)(N:List Str)(qual:Str)(scope:Scope)(f:Addr)(cd:Value)(A:Around)(outer:List Env)(s:Shared)(H:Hp)(E:XK):Cx:=Fb (Gm P w) P w K mg base N qual scope f cd A outer s H E
theorem Sx:Le<|Lv P w K mg base N qual scope f cd A outer s H E:=⟨rfl,rfl,rfl⟩
theorem uK:Raises (Lv P w K mg base N qual scope f cd A outer s H E) E:=λ_ _ _ _ _ _ _ _ I hm hE=>uJ Sx I hm hE
theorem o7(hE:∀cls H',E' cls none H'->E cls none H'):Passes (Gm P w) (Lv P w K mg base N qual scope f cd A outer s H E) E':=by
 intro AE σ H1 s1 e s' I h;obtain⟨ea,cls,B,H',rfl,F,q⟩:=h;exact o6 Sx I F<|hE _ _ q
end
section
variable{X:Cx}{AE:List (Addr×Obj)}{σ:St}{H:Hp}{s:Shared}
noncomputable def Cx.re(X:Cx)(F4:Value->Shared->Prop)(Jt:List<|Addr×Obj):Cx:={ X with xe:=F4,pn:=Jt }
theorem Inv.re{F4:Value->Shared->Prop}(I:Inv X AE σ H s):Inv (X.re F4<|X.pn++AE) [] σ H s:=
 ⟨⟨I.ok.mod,I.ok.kind,I.ok.glob,I.ok.blt,I.ok.above,I.ok.inj,I.ok.has,I.ok.G8,I.ok.hd,I.ok.frames,I.ok.EJ,I.ok.IJ,I.ok.bs,I.ok.Em,I.ok.Hc,I.ok.HK,I.ok.Di,I.ok.Ff⟩,I.os,I.bare,I.base,I.loc,I.cell,I.free,I.Dh,λp hp=>I.pin p (by
  have:p∈(X.pn++AE) ++ []:=hp;simpa using this),I.Ae,I.len⟩
theorem Inv.NH{F4:Value->Shared->Prop}{Mz:List (Addr×Obj)}(I:Inv (X.re F4<|X.pn++AE) Mz σ H s):Inv X AE σ H s:=
 ⟨⟨I.ok.mod,I.ok.kind,I.ok.glob,I.ok.blt,I.ok.above,I.ok.inj,I.ok.has,I.ok.G8,I.ok.hd,I.ok.frames,I.ok.EJ,I.ok.IJ,I.ok.bs,I.ok.Em,I.ok.Hc,I.ok.HK,I.ok.Di,I.ok.Ff⟩,I.os,I.bare,I.base,I.loc,I.cell,I.free,I.Dh,λp hp=>I.pin p<|ABc _ hp,I.Ae,I.len⟩
noncomputable def Cx.Eo(X:Cx)(ea:Addr):Cx:={ X with A:=X.A.mark<|some<|.ref ea,calm:=false,xe:=λ_ _=>False }
theorem Inv.Eo{ea:Addr}(I:Inv X AE σ H s):Inv (X.Eo ea) AE σ H s:=
 ⟨⟨I.ok.mod,I.ok.kind,I.ok.glob,I.ok.blt,I.ok.above,I.ok.inj,I.ok.has,I.ok.G8,(λz=>by cases z),I.ok.frames,I.ok.EJ,I.ok.IJ,I.ok.bs,I.ok.Em,I.ok.Hc,I.ok.HK,I.ok.Di,I.ok.Ff⟩,I.os,I.bare,I.base,I.loc,I.cell,I.free,I.Dh,I.pin,I.Ae,I.len⟩
theorem Inv.QA{ea:Addr}(ok:X.Ok)(I:Inv (X.Eo ea) AE σ H s):Inv X AE σ H s:=
 ⟨ok,I.os,I.bare,I.base,I.loc,I.cell,I.free,I.Dh,I.pin,I.Ae,I.len⟩
def EM(ea C:Addr)(h:Heap):Prop:=∃o,h.get? ea=some o/\o.cls=.ref C
theorem Inv.wQ{ea C:Addr}(I:Inv X AE σ H s)(hn:H ea=none)(hs:X.B2.heap.get? ea=none)(hx:EM ea C s.heap)(hL:ea≠X.env.locals)(hC:∀x c,X.env.cells.lookup x=some c->c≠ea)(hp:∀p∈X.pn++AE,p.1≠ea) : Inv X AE σ (upd H ea<|.ext<|EM ea C) s:=by
 have ne:∀b o,H b=some o->b≠ea:=λb o e z=>by rw[z,hn]at e;cases e
 refine⟨I.ok,I.os,I.bare,⟨I.base.keep,I.base.slot,λb o e n hx=>?_,I.base.there,λb xs e=>?_,λb o u e=>?_,λb ps e=>?_⟩,I.loc,I.cell,?_,λx c e=>?_,λp q=>?_,λb o e=>?_,I.len⟩
 .rw[BK (λz=>by rw[z,hs]at e;cases e)];exact I.base.free b o e n hx
 .rw[BK<|ne _ _<|I.base.DQ b xs e];exact I.base.DQ b xs e
 .rw[BK<|ne _ _<|I.base.D1 b o u e];exact I.base.D1 b o u e
 .obtain⟨m,q⟩:=I.base.Eh b ps e;exact⟨m,by rw[BK<|ne _ _ q];exact q⟩
 .rw[BK<|AA3 hL];exact I.free
 .rw[BK<|hC x c e];exact I.Dh x c e
 .obtain⟨a,b,c,d,f⟩:=I.pin p q;exact⟨a,by rw[BK<|hp p q];exact b,c,d,f⟩
 .by_cases z:b=ea
  .subst z;rw[C0]at e;cases e;refine⟨hx,?_,(by rintro h1 h2 ⟨o,a,b⟩ k;exact⟨o,k o a,b⟩)⟩;obtain⟨o,q,_⟩:=hx;exact⟨o,q⟩
  .rw[BK z]at e;exact(I.Ae b o e).Hh (λc u _ q=>q) (λc q=>by rw[BK<|ne _ _ q];exact q) λc xs q=>by rw[BK<|ne _ _ q];exact q
theorem name_goes{M:Model}{A:Around}{E:Value->Shared->Prop}{i:Nat}{n:Str}{pos:Pos}{Q:Unit->Shared->Prop}(I:Inv X AE σ H s)(hN:X.N.Nodup)(hi:X.N[i]? = some n)(hl:X.env.scope.names.lookup n=some .local) (h:∀s',Inv X AE (σ.set i none) H s'->Q () s'):wpAny M A (do bindName X.env n .none;unbindBehindTheSuite X.env n pos) Q E s:=by
 have Rt:(X.env.scope.kind == .class||(X.env.scope.kind == .module&&X.env.locals != X.env.globals))=false:=by rw[I.ok.kind];rfl
 refine wpAny_bind<|wpAny_bindName<|LJ I hN hi (.inl hl) (v:=.A4)  rfl (λs1 I1=>?_)<|.inr hl;refine wpAny_onRaise ?_;refine wpAny_bind<|wpAny_point<|wpAny_bind ?_;unfold deleteName;have Ic:X.env.kindOf n=some .local:=hl;simp only[Ic,Rt];obtain⟨m,hn,OW⟩:=id I1.loc;have hm:(m n).isSome=true:=by
  have Ko:i<σ.length:=by rw[I.len];exact(AAL.mp hi).1
  obtain⟨u,_,l⟩:=OW i n .A4 hi (by rw[ABr Ko])<|.inl hl;rcases l with⟨_,l⟩|⟨l,_⟩
  .rw[l];rfl
  .rcases l with l|l<;>(rw[Ic]at l;cases l)
 refine wpAny_bind<|wpAny_nsDel_keeps hn λKu v kq Jj=>?_;rw[hm];refine wpAny_pure<|wpAny_point<|h _ ?_;have old:∀b o,X.B2.heap.get? b=some o->b≠X.env.locals:=λb o e=>AAZ<|AAe (Heap.lt_size e) I.ok.above;refine⟨I1.ok,I1.os,I1.bare,⟨λb o e n hb hx=>?_,λb o e n hb hx=>?_,I1.base.free,λb o e hx=>?_,I1.base.DQ,I1.base.D1,I1.base.Eh⟩,⟨_,kq,λj y v' e1 e2 e3=>?_⟩,λy c e=>?_,I1.free,I1.Dh,λp hp=>?_,λb ob e=>?_,by simpa using I.len⟩
 .exact(Jj.2 b<|old b o e).trans (I1.base.keep b o e n hb hx)
 .obtain⟨sl,e1⟩:=I1.base.slot b o e n hb hx;exact⟨sl,(Jj.2 b<|old b o e).trans e1⟩
 .obtain⟨o',e1⟩:=I1.base.there b o e hx;exact⟨o',(Jj.2 b<|old b o e).trans e1⟩
 .have hj:j≠i:=λz=>by
   subst z;have Ko:j<σ.length:=by rw[I.len];exact(AAL.mp hi).1
   rw[ABr Ko]at e2;cases e2
  rw[AAg<|AA3 hj]at e2;have Sn:y≠n:=λz=>hj<|TY hN (z ▸ e1) hi;obtain⟨u,r,l⟩:=OW j y v' e1 (by rw[AAg<|AA3 hj];exact e2) e3;refine⟨u,r,?_⟩;rcases l with⟨l1,l2⟩|⟨k,c,e,z⟩
  .exact .inl ⟨l1,(AAG Sn).trans l2⟩
  .exact .inr ⟨k,c,e,z.sameBut Jj<|I1.HB y c e⟩
 .obtain⟨w',z⟩:=I1.cell y c e;exact⟨w',z.sameBut Jj<|I1.HB y c e⟩
 .obtain⟨e,n,ne,nf,d⟩:=I1.pin p hp;exact⟨(Jj.2 p.1 ne).trans e,n,ne,nf,d⟩
 .refine(I1.Ae b ob e).Hh (λc w' hc q=>(Jj.2 c ?_).trans q) (λ_ q=>q) λ_ _ q=>q;rintro rfl;rcases hc with rfl|hc
  .rw[I1.free]at e;cases e
  .rw[I1.free]at hc;cases hc
end
section
variable{X:Cx}{body Iv:List Stmt}{KW:Stmt}{x n:Str}{np Oe pos:Pos}{Wc:Addr}{i:Nat}{tb:XK->TS}{ts:TS}
def vv(X:Cx)(Wc:Addr)(i:Nat)(tb:XK->TS)(ts:TS):TS:=λD σ H=>∃E:XK,tb E D σ H/\
 ∀cls H',E cls none H'->∃C,cls=.ref C/\PySem.W.exmOne X.K cls (.ref Wc)=some true/\∀ea (AY:St),AY.length=X.N.length->H' ea=none->ts { nx:=λDS Cp=>D.nx (DS.set i none) Cp,rt:=D.rt,bk:=λDS Cp=>D.bk (DS.set i none) Cp,ct:=λDS Cp=>D.ct (DS.set i none) Cp } (AY.set i<|some<|.ref ea) (upd H' ea<|.ext<|EM ea C)
theorem qO(d:Le X)(hN:X.N.Nodup)(hi:X.N[i]? = some n)(hl:X.env.scope.names.lookup n=some .local)(hg:Gl X x)(hm:X.mg x=some (.ref Wc)) (hb:∀(E:XK)(F4:Value->Shared->Prop)(Jt:List<|Addr×Obj),Passes (Gm X.prog X.w) (X.re F4 Jt) E->CV (X.re F4 Jt) body (tb E)) (hs:∀ea,CV (X.Eo ea) (KW::Iv) ts) (Ca:(x==("__debug__"))=false:=by decide) : PS X (.Try body [.ExceptHandler (some<|.Name x np) (some n) (KW::Iv) Oe] [] [] pos)<|vv X Wc i tb ts:=by
 intro AE s σ H D I h;obtain⟨E,jv,hh⟩:=h;have MG:X.A.frames=some (X.env::X.outer):=by rw[<-d.EJ];exact I.ok.frames
 refine wpAny_Try_except<|wpAny_mono (hb E _ (X.pn++AE) ?_ [] s σ H D I.re jv) (λf s1 q=>?_) λe s1 q=>q
 .-- Iz exception is met
  intro Mz Du H1 s1 e s' I1 hc;obtain⟨ea,cls,B,H',rfl,F,hE⟩:=hc;obtain⟨C,rfl,kh,lJ⟩:=hh _ _ hE;obtain⟨a0,fl⟩:=F.N8;have fl:Heap.FlyingW B (X.env::X.outer) ea (.ref C) a0 s'.heap:=by rw[<-d.EJ];exact fl
  have Ld:=I1.NH;have after:∀EC,B.StaysIn EC->s'.heap.UpToSlots EC->Inv X AE Du H' { s' with heap:=EC }:=λEC st us=>by
   obtain⟨u,ok⟩:=F.then st us
   exact Ld.Vr   F.os u ok F.bare λb z=>nomatch z
  refine wpAny_looks_onW MG d.fr fl λYS kJ YK=>?_;refine wpAny_landsW kJ λMT Rb YL=>?_;have I5:=after MT Rb.1<|YK.trans YL;obtain⟨ob,kr,ku⟩:=Rb.there;refine wpAny_handleBy_cons (codeAny_handlers_test<|Mh  I5.Eo hg hm ?_ Ca) (by intro q;cases q);have LT:PySem.W.Looks (model X.prog X.w) MT (typeOf<|.ref ea)<|.ref C:=ku ▸ (PySem.W.Looks.ld kr).andThen .now;refine PySem.W.Looks.here (s:={ s' with heap:=MT }) (PySem.W.exm_one  I5.BB LT kh) ?_;refine codeAny_handlers_suite_as ?_;refine lands_againW Rb λYT XQ lD=>?_;have I6:=after YT XQ.1<|(YK.trans YL).trans lD;have Aq:∀b o,s1.heap.get? b=some o->b≠ea:=λb o e z=>by rw[z,F.nw]at e;cases e
  have I7:Inv X AE Du (upd H' ea<|.ext<|EM ea C) { s' with heap:=YT }:=by
   refine I6.wQ F.he (Ld.old d.ex F.nw) ?_ (λz=>?_) (λy c e=>?_) λp hp=>?_
   .obtain⟨_,_,_,oe,vs,T,oT,ts,he,hc,hd,_⟩:=XQ;exact⟨oe,he,hc.1⟩
   .obtain⟨m,⟨o,_,_,ho,_⟩,_⟩:=Ld.loc;exact Aq _ _ ho z.symm
   .obtain⟨v,o,ho,_⟩:=Ld.cell y c e;exact Aq _ _ ho
   .exact Aq _ _ (Ld.pin p hp).1
  refine LJ (X:=X.Eo ea) I7.Eo hN hi (.inl hl) (v:=.ref ea) rfl (λs8 I8=>?_)<|.inr hl;refine wpAny_mono (hs ea AE s8 _ _ _ I8<|lJ ea Du I6.len F.he) (λf s9 q=>?_) λ_ _ z=>z.elim;cases f with
  |next=>
   obtain⟨AY,H2,I',q⟩:=q;exact name_goes (I'.QA I.ok) hN hi hl λUG JI=>⟨_,H2,JI,q⟩
  |brk=>
   obtain⟨AY,H2,I',q⟩:=q;exact name_goes (I'.QA I.ok) hN hi hl λUG JI=>⟨_,H2,JI,q⟩
  |cont=>
   obtain⟨AY,H2,I',q⟩:=q;exact name_goes (I'.QA I.ok) hN hi hl λUG JI=>⟨_,H2,JI,q⟩
  |ret u=>
   obtain⟨v,AY,H2,I',r,q⟩:=q;exact name_goes (I'.QA I.ok) hN hi hl λUG JI=>⟨v,_,H2,JI,r,q⟩
 .cases f with
  |next=>
   obtain⟨AY,H',I',q⟩:=q;exact wpAny_execs_nil ⟨AY,H',I'.NH,q⟩
  |brk=>
   obtain⟨AY,H',I',q⟩:=q;exact⟨AY,H',I'.NH,q⟩
  |cont=>
   obtain⟨AY,H',I',q⟩:=q;exact⟨AY,H',I'.NH,q⟩
  |ret u=>
   obtain⟨v,AY,H',I',r,q⟩:=q;exact⟨v,AY,H',I'.NH,r,q⟩
end
open PySem PySem.Spec PyProof.Rows PySem.W PySem.Builtin PySem.Builtin.ObjectAttr PySem.Builtin.Getset_descriptor
section
variable{K:Frag}{x D:Addr}{M:Model}{h:Heap}{prog:Program}{w:World}{A:Around}{E:Value->Shared->Prop}{s:Shared}
theorem iX{n:Str}{a g:Value}(X:K.In h)(ha:findIn K (.ref D) n=some (some a))(hn:specialIn K a "__get__" = some (some g))(Kt:takesIn K a=some true):Looks M h (find (.ref x) (.ref D) n)<|.bind g a:=
 (looks_findIn X ha).andThen ((show Looks M h (getOf<|some a) (some g)from looks_specialIn X hn).andThen ((show Looks M h (dataDescriptor? (some a) (some g)) (some (g,a))from(looks_takesIn X Kt).andThen .now).andThen<|Looks.tag .now))
theorem iW{Q:Option Value->Shared->Prop}(X:K.In s.heap)(p:EM x D s.heap)(kH:findIn K (.ref D) "__getattribute__" = some (some<|.builtin "BaseException.__getattribute__"))(hk:findIn K (.ref D) "__getattr__" = some none) (ha:findIn K (.ref D) "__class__" = some (some<|.builtin "object.__class__")) (hn:specialIn K (.builtin "object.__class__") "__get__" = some (some<|.builtin "getset_descriptor.__get__")) (Kt:takesIn K (.builtin "object.__class__")=some true) (hm:mroIn K D (.type "object")=some true) (hb:mroIn K D (.type "BaseException")=some true) (h:Q (some<|.ref D) { s with toks:=s.toks+1 }):wpAny (model prog w) A (getAttr? (.ref x) "__class__") Q E s:=by
 obtain⟨o,ho,hc⟩:=p;obtain⟨hp,g,d,t,os⟩:=s;have ty:Looks (model prog w) hp (typeOf<|.ref x)<|.ref D:=hc ▸ (Looks.ld ho).andThen .now;have f0:=looks_findIn (M:=model prog w) X kH;have f1:=iX (M:=model prog w) (x:=x) X ha hn Kt;have f2:=looks_findIn (M:=model prog w) X hk;have f3:=looks_mroIn (M:=model prog w) X hm;have f4:=looks_mroIn (M:=model prog w) X hb;have lE:splitId "BaseException.__getattribute__" = some ("BaseException","__getattribute__"):=AAD
 refine wpAny_bind<|wpAny_mkText<|wpAny_bind<|wpAny_attempt<|wpAny_holding<|wpAny_bind<|ty.at<|wpAny_bind<|f0.at ?_;dsimp only;have bd:=F.excAttr_ValueError.ga.bind<|.ref x;have pl:=F.excAttr_ValueError.ga.plain;have ag:=F.args_bexc_ga (.ref x)<|.str "__class__" t;refine wpAny_bind ?_;refine f2.at<|wpAny_bind<|wpAny_attempt<|wpAny_holding ?_;refine wpAny_bind<|wpAny_of_eq bd<|wpAny_call ?_;refine codeAny_call_builtin pl F.entry_bexc_ga ?_;simp only[lE];refine wpAny_bind<|wpAny_bind<|ty.at<|f4.at ?_;refine wpAny_of_eq  ag ?_;refine wpAny_bind<|wpAny_pure ?_;refine wpAny_bind<|wpAny_pure ?_;refine wpAny_bind<|ty.at<|wpAny_bind<|f1.at ?_;unfold bindTo
 repeat (first|with_reducible refine wpAny_bind ?_|with_reducible refine wpAny_holding ?_|with_reducible refine wpAny_rule ?_)
 refine wpAny_call<|codeAny_call_builtin KF.slot_gs.plain KF.entry_gs<|KF.slot_gs.check _ _ _ _ _ _ _ _ KF.type_class (KF.args_gs _ _ _) ?_;refine wpAny_bind<|wpAny_pure ?_;unfold descrGetter descrCheckInstance descrNameAndClass isInstance;simp only[KF.owner_class]
 repeat lk
 refine⟨Code.quiet_builtin _ AAD,codeAny_builtin KF.entry_class ?_⟩
 repeat lk
 exact h
structure LV(K:Frag)(D:Addr):Prop where
 ga:findIn K (.ref D) "__getattribute__" = some (some<|.builtin "BaseException.__getattribute__")
 gn:findIn K (.ref D) "__getattr__" = some none
 cl:findIn K (.ref D) "__class__" = some (some<|.builtin "object.__class__")
 sp:specialIn K (.builtin "object.__class__") "__get__" = some (some<|.builtin "getset_descriptor.__get__")
 tk:takesIn K (.builtin "object.__class__")=some true
 mr:mroIn K D (.type "object")=some true
 mb:mroIn K D (.type "BaseException")=some true
 hd:hasDictIn K D=true
theorem mM(Z:LV K D):KitX K (.ref x) (.ref D) (EM x D) where
 ty:=(by rintro _ _ _ ⟨_,ho,hc⟩;exact hc ▸ (Looks.ld ho).andThen .now)
 it:=λ_ _ X _=>by
  obtain⟨c,hc,_⟩:=any_some Z.hd;unfold clsIn at hc;split at hc
  .rename_i ho;exact λ_ _ _ _ k q=>wpAny_bind<|wpAny_loadPart (k _ _<|X _ _ ho)<|wpAny_pure q
  .cases hc
 ne:=λh tp dd its n sl X lH=>by
  obtain⟨c,hc,_⟩:=any_some Z.hd;refine ADL.mpr λq=>?_;obtain rfl:D=tp:=Value.ref.inj<|ABt.mp q;unfold clsIn at hc;split at hc
  .rename_i ho;cases (X _ _ ho).symm.trans lH
  .cases hc
 ca:=λX p k=>iW X p Z.ga Z.gn Z.cl Z.sp Z.tk Z.mr Z.mb k
end
structure Dw(k:Nat)(A:Around):Prop where
 dp:A.depth+3*k+5<recursionLimit
 un:A.units+16*k+200<cLine
theorem Dw.deeper{k:Nat}{A:Around}(r:Dw (k+1) A)(env:Env):Dw k<|A.deeper env:=by
 have h:=(B4.deeper (A:={ A with handled:=none })  ⟨rfl,r.dp,r.un⟩ env);exact⟨h.dp,h.un⟩
structure Lb(P:Program)(w:World)(K:PySem.W.Frag)(mg:Str->Option Value)(base:Heap)(k:Nat)(f:Addr)(fd:FuncData)(ps:List Str)(sp:List V->Hp->VK->Prop):Prop where
 len:∀vs H Q,sp vs H Q->vs.length=ps.length
 run:∀(A:Around)(outer:List Env)(s:Shared)(H:Hp)(args:Args)(us:List Value)(vs:List V)(Q:VK),Dw k A->JG P w K mg base A outer s H->BindsTo s fd args (ps.zip us)->An vs us->sp vs H Q->codeAny (model P w) A (.call (.ref f) args) (λr s'=>match r with|.ok (.ret u)=>CE outer P w H s Q u s'|_=>False) s
def Nv(P:Program)(w:World)(K:PySem.W.Frag)(mg:Str->Option Value)(base:Heap)(N:List Str)(qual:Str)(scope:Scope)(f:Addr)(cd:Value)(A:Around)(outer:List Env)(s:Shared)(H:Hp):Cx:=
 { Fb Dv P w K mg base N qual scope f cd A outer s H E0 with calm:=false,xe:=λ_ _=>False }
theorem la{P:Program}{w:World}{K:PySem.W.Frag}{mg:Str->Option Value}{base:Heap}{N ps:List Str}{qual:Str}{scope:Scope}{f:Addr}{cd:Value}{A:Around}{outer:List Env}{s s1:Shared}{H:Hp}{us:List Value}{vs:List V} (S:Gp N ps scope) (e0:JG P w K mg base A outer s H) (hl:vs.length=ps.length) (r:An vs us) (x:InCallC s s.heap.objs.size (bindL (envOfC qual scope s.heap.objs.size f cd).kindOf (ps.zip us) λ_=>none) (cellsFrom (s.heap.objs.size+1) scope.names []) (bindC (envOfC qual scope s.heap.objs.size f cd).kindOf (ps.zip us) λ_=>none) s1) :
 Inv (Nv P w K mg base N qual scope f cd A outer s H) [] (start N vs) H s1:=by
 have e1:JG P w K mg base { A with handled:=none } outer s H:=⟨e0.frames,e0.mod,e0.bs,e0.Em,e0.Di,e0.Ff,e0.Ae,e0.bare⟩;have I:=YX (CX:=Dv) (E:=E0) S rfl e1 hl r x;exact⟨⟨I.ok.mod,I.ok.kind,I.ok.glob,I.ok.blt,I.ok.above,I.ok.inj,I.ok.has,I.ok.G8,(λz=>by cases z),I.ok.frames,I.ok.EJ,I.ok.IJ,I.ok.bs,I.ok.Em,I.ok.Hc,I.ok.HK,I.ok.Di,I.ok.Ff⟩,I.os,I.bare,I.base,I.loc,I.cell,I.free,I.Dh,I.pin,I.Ae,I.len⟩
theorem i6{P:Program}{w:World}{K:PySem.W.Frag}{mg:Str->Option Value}{base:Heap}{k:Nat}{f:Addr}{x qual:Str}{st:Stmt}{fd:FuncData}{N ps:List Str}{sp:List V->Hp->VK->Prop}(F:EL K x qual st f fd)(S:Gp N ps<|BR st) (len:∀vs H Q,sp vs H Q->vs.length=ps.length) (Fh:∀(A1:Value)(A:Around)(outer:List Env)(s:Shared)(H:Hp)(vs:List V)(Q:VK),Dw k (A.deeper<|envOfC qual (BR st) s.heap.objs.size f A1)->sp vs H Q->
  ∃t,CV (Nv P w K mg base N qual (BR st) f A1 A outer s H) (Dy st) t/\t { nx:=λ_ H'=>Q .A4 H',rt:=Q } (start N vs) H):Lb P w K mg base (k+1) f fd ps sp:=by
 obtain⟨oc,od,kV,doc,pm,an,A1,ct,Fu,rfl,lk,BI⟩:=F.ex;refine⟨len,λA outer s H args us vs Q hr e0 hb r EE=>?_⟩;have KX:=e0.mod.Me.keeps λb o e=>(e0.bs b o e).1;have R5:∀y∈ps.zip us,(BR st).names.lookup y.1=some .local\/((BR st).names.lookup y.1=some .cell/\((cellsFrom (s.heap.objs.size+1) (BR st).names []).lookup y.1).isSome=true):=(by rintro⟨n,v⟩ hy;exact(S.par n (AC8 hy).1).elim .inl λq=>.inr ⟨q,ACz _ _ _<|.inl q⟩);refine codeAny_call_function (by have:=hr.dp;omega) (KX _ _ lk) rfl S.co S.gen rfl (PySem.W.codeRec_of KX BI)<|hb _ _ _ _<|wpAny_newFunctionEnv_cells S.kind R5 λenv he s1 x=>?_;subst he;refine⟨(e0.mod.nolimit.keeps λb o e=>(e0.bs b o e).1).keeps x.toInCall.keep,codeAny_func ?_⟩;obtain⟨t,ht,hq⟩:=Fh A1 A outer s H vs Q (hr.deeper _) EE;refine wpAny_mono (ht [] s1 (start N vs) H _ (la S e0 (len _ _ _ EE) r x) hq) (λfl s' hs=>?_) λe s' z=>z.elim;cases fl with
 |ret u=>
  obtain⟨v,AY,H',z7,rv,q⟩:=hs;exact⟨v,H',z7.os,z7.bare,z7.base,z7.Ae,rv,q⟩
 |next=>
  obtain⟨AY,H',z7,q⟩:=hs;exact⟨.A4,H',z7.os,z7.bare,z7.base,z7.Ae,rfl,q⟩
 |brk=>obtain⟨_,_,_,q⟩:=hs;exact q.elim
 |cont=>obtain⟨_,_,_,q⟩:=hs;exact q.elim
section
variable{X:Cx}{k:Nat}{f:Addr}{fd:FuncData}{ps:List Str}{sp:List V->Hp->VK->Prop}{x:Str}{p pos:Pos}{e:Expr}{es:List Expr}{t:TA}
def vS(sp:List V->Hp->VK->Prop)(t:TA):TE:=λσ H Q=>t σ H λvs H1=>sp vs H1 Q
theorem pE(F:Lb X.prog X.w X.K X.mg X.base k f fd ps sp)(hr:Dw k X.A)(hg:Gl X x)(hm:X.mg x=some (.ref f))(hk:PySem.W.keepIn X.K (.ref f)=true)(hb:Binds X.K fd ps []) (ha:PA X (e::es) t) (Ca:(x==("__debug__"))=false:=by decide) (he:starEach (e::es) X.env=(false,eval e X.env)::starEach es X.env:=by rfl) (BM:(backTo pos<|starEach es X.env).any (·.1)=false:=by rfl) : PE X (.Call (.Name x p) (e::es) [] pos)<|vS sp t:=by
 intro AE s σ H Q I h;refine wpAny_Call_Name_kw<|Mh I hg hm ?_ Ca;refine PySem.W.callWith_K  I.ok.mod.Me hk (Aj (ha pos AE s σ H _ I h) λus s1 ⟨vs,H1,I1,r,q⟩=>⟨I1.BB,?_⟩) he BM;have hl:us.length=ps.length:=by rw[<-r.length];exact F.len _ _ _ q
 have hB:=hb s1 us I1.BB (by simpa using hl);rw[AB7]at hB;refine wpAny_call<|codeAny_mono (F.run X.A X.stack s1 H1 ⟨us,[]⟩ us vs Q hr I1.Wv hB r q) λr s' hq=>?_;cases r with
 |error e=>exact hq.elim
 |ok fl=>
  cases fl with
  |ret u=>exact I1.after hq
  |next=>exact hq.elim
  |brk=>exact hq.elim
  |cont=>exact hq.elim
end
end L2
set_option genInjectivity false
set_option genSizeOf false
namespace L2.PL
open PySem PySem.Spec PyProof.Rows
inductive PV where
 |A4|bl (b:Bool)|int (i:Int)|str (x:Str)|tup (xs:List PV)|lst (xs:List PV)
 |rd (xs:List PV)
 |Cv (ks:List<|List Int) (xs:List PV)
inductive RV where
 |cl (p:PV)|bo (ps:List PV)|fr (ps:List PV)
 |bd (ks:List<|List Int) (xs:List PV)|fd (ks:List<|List Int) (xs:List PV)
 |tf (p:PV) (ps:List PV)
inductive SV where
 |im (p:PV)|own (ps:List PV)
 |Dq (t:Option Addr) (ks:List<|List Int) (xs:List PV)
 |exc (nm:Str)
abbrev AX:=List<|Option SV
noncomputable def Ce(k:List Int):List Key:=k.map Sum.inl
mutual
def Rep(K:W.Frag)(H:Hp):PV->V->Prop
 |.A4,v=>v=.A4
 |.bl b,v=>v=.bl b
 |.int i,v=>v=.int i
 |.str x,v=>v=.str x
 |.tup xs,v=>∃a vs,v=.ref a/\CB K H a vs/\Ac K H xs vs
 |.lst xs,v=>∃a vs,v=.ref a/\Rd H a (.lst vs)/\Ac K H xs vs
 |.rd xs,v=>∃a vs,v=.ref a/\CO K H a vs/\Ac K H xs vs
 |.Cv ks xs,v=>∃a AR,v=.ref a/\Rd H a (.dT AR)/\AR.map (·.1)=ks.map Ce/\Ac K H xs (AR.map (·.2))
def Ac(K:W.Frag)(H:Hp):List PV->List V->Prop
 |[],vs=>vs=[]
 |x::xs,vs=>∃v r,vs=v::r/\Rep K H x v/\Ac K H xs r
end
theorem Rd.same{H H':Hp}{a:Addr}{o:HO}(s:As H H')(h:Rd H a o):Rd H' a o:=by
 rcases h with h|⟨ob,h⟩
 .exact .inl<|s _ _ h
 .exact .inr ⟨ob,s _ _ h⟩
theorem CB.same{K:W.Frag}{H H':Hp}{a:Addr}{xs:List V}(s:As H H')(h:CB K H a xs):CB K H' a xs:=by
 rcases h with h|h
 .exact .inl<|Rd.same s h
 .exact .inr h
mutual
theorem Rep.same{K:W.Frag}{H H':Hp}(s:As H H'):∀{p:PV}{v:V},Rep K H p v->Rep K H' p v
 |.A4,_,h=>h
 |.bl _,_,h=>h
 |.int _,_,h=>h
 |.str _,_,h=>h
 |.tup _,_,h=>by
  unfold Rep at h ⊢;obtain⟨a,vs,e,q,r⟩:=h;exact⟨a,vs,e,CB.same s q,Ac.same s r⟩
 |.lst _,_,h=>by
  unfold Rep at h ⊢;obtain⟨a,vs,e,q,r⟩:=h;exact⟨a,vs,e,Rd.same s q,Ac.same s r⟩
 |.rd _,_,h=>by
  unfold Rep at h ⊢;obtain⟨a,vs,e,q,r⟩:=h;exact⟨a,vs,e,As.seq s q,Ac.same s r⟩
 |.Cv _ _,_,h=>by
  unfold Rep at h ⊢;obtain⟨a,vs,e,q,k,r⟩:=h;exact⟨a,vs,e,Rd.same s q,k,Ac.same s r⟩
theorem Ac.same{K:W.Frag}{H H':Hp}(s:As H H'):∀{ps:List PV}{vs:List V},Ac K H ps vs->Ac K H' ps vs
 |[],_,h=>h
 |_::_,_,h=>by
  unfold Ac at h ⊢;obtain⟨v,r,e,q,t⟩:=h;exact⟨v,r,e,Rep.same s q,Ac.same s t⟩
end
theorem Ac.paired{K:W.Frag}{H:Hp}:∀{ps:List PV}{vs:List V},Ac K H ps vs->Paired (Rep K H) ps vs
 |[],_,h=>by subst h;exact .nil
 |_::_,_,h=>by
  obtain⟨v,r,e,q,t⟩:=h;subst e;exact .cons q<|Ac.paired t
theorem Ac.of{K:W.Frag}{H:Hp}:∀{ps:List PV}{vs:List V},Paired (Rep K H) ps vs->Ac K H ps vs
 |_,_,.nil=>by rfl
 |_,_,.cons q t=>by exact⟨_,_,rfl,q,Ac.of t⟩
section
variable{α β:Type}{F:α->β->Prop}
theorem Js:∀{xs:List α}{us:List β}{i:Nat}{x:α},Paired F xs us->xs[i]? = some x->∃u,us[i]? = some u/\F x u
 |_,_,_,_,.nil,e=>by simp at e
 |_,_,0,_,.cons r _,e=>by simp at e;subst e;exact⟨_,rfl,r⟩
 |_,_,i+1,x,.cons _ t,e=>by
  obtain⟨u,h1,h2⟩:=Js   t (by simpa using e);exact⟨u,by simpa using h1,h2⟩
theorem Tq:∀{xs:List α}{us:List β}{i:Nat}{u:β},Paired F xs us->us[i]? = some u->∃x,xs[i]? = some x/\F x u
 |_,_,_,_,.nil,e=>by simp at e
 |_,_,0,_,.cons r _,e=>by simp at e;subst e;exact⟨_,rfl,r⟩
 |_,_,i+1,x,.cons _ t,e=>by
  obtain⟨u,h1,h2⟩:=Tq   t (by simpa using e);exact⟨u,by simpa using h1,h2⟩
theorem ZZ{x:α}{u:β}(r:F x u):∀{xs:List α}{us:List β}(i:Nat),Paired F xs us->Paired F (xs.set i x) (us.set i u)
 |_,_,_,.nil=>.nil
 |_,_,0,.cons _ t=>.cons r t
 |_,_,i+1,.cons q t=>.cons q<|ZZ r i t
theorem Jr:∀{xs ys:List α}{us ws:List β},Paired F xs us->Paired F ys ws->Paired F (xs++ys) (us++ws)
 |_,_,_,_,.nil,s=>s
 |_,_,_,_,.cons r t,s=>.cons r<|Jr t s
theorem Pc:∀{xs:List α}{us:List β}(n:Nat),Paired F xs us->Paired F (xs.take n) (us.take n)
 |_,_,0,_=>.nil
 |_,_,_+1,.nil=>.nil
 |_,_,n+1,.cons r t=>.cons r<|Pc n t
theorem Tp:∀{xs:List α}{us:List β}(n:Nat),Paired F xs us->Paired F (xs.drop n) (us.drop n)
 |_,_,0,r=>r
 |_,_,_+1,.nil=>.nil
 |_,_,n+1,.cons _ t=>Tp n t
theorem ZY{xs:List α}{us:List β}(h:Paired F xs us):Paired F xs.reverse us.reverse:=by
 induction h with
 |nil=>exact .nil
 |cons r t ih=>rw[ACy,ACy];exact Jr ih<|.cons r .nil
theorem ZX:∀{xs:List α}{us:List β}(i:Nat),Paired F xs us->Paired F (xs.eraseIdx i) (us.eraseIdx i)
 |_,_,_,.nil=>.nil
 |_,_,0,.cons _ t=>t
 |_,_,i+1,.cons r t=>.cons r<|ZX i t
end
inductive Mu(H:Hp)(a:Addr):Prop
 |l {xs:List V} (h:H a=some (.lst xs)):Mu H a
 |d {AR:List (List Key×V)} (h:H a=some (.dT AR)):Mu H a
theorem Mu.same{H H':Hp}{a:Addr}(s:As H H'):Mu H a->Mu H' a
 |.l h=>.l<|s _ _ h
 |.d h=>.d<|s _ _ h
theorem Mu.get{H:Hp}{a:Addr}:Mu H a->∃o,H a=some o
 |.l h=>⟨_,h⟩
 |.d h=>⟨_,h⟩
structure A0(G H G' H':Hp):Prop where
 gg:As G G'
 hh:As H H'
 sub:As G' H'
 ex:∀a,Mu H a->G a=none->G' a=none
theorem A0.refl{G H:Hp}(h:As G H):A0 G H G H:=⟨As.refl _,As.refl _,h,λ_ _ n=>n⟩
theorem A0.trans{G H G1 H1 G2 H2:Hp}(a:A0 G H G1 H1)(b:A0 G1 H1 G2 H2):A0 G H G2 H2:=
 ⟨a.gg.trans b.gg,a.hh.trans b.hh,b.sub,λc h n=>b.ex c (h.same a.hh)<|a.ex c h n⟩
noncomputable def D2(G' H H':Hp):Hp:=λa=>match G' a with|some o=>some o|none=>match H a with|some _=>none|none=>H' a
theorem JZ{G' H H':Hp}:As G'<|D2 G' H H':=λa o h=>by unfold D2;rw[h]
theorem Rk{G' H H':Hp}{a:Addr}{o:HO}(s:As G' H')(h:H a=none)(h':H' a=some o):D2 G' H H' a=some o:=by
 unfold D2;cases e:G' a with
 |some o'=>rw[s _ _ e]at h';exact h'
 |none=>rw[h];exact h'
theorem A0.all{G H G' H':Hp}(s:A0 G H G' H'):A0 G H (D2 G' H H') H':=by
 refine⟨s.gg.trans JZ,s.hh,λa o h=>?_,λa h n=>?_⟩
 .unfold D2 at h;cases e:G' a with
  |some o'=>rw[e]at h;cases h;exact s.sub _ _ e
  |none=>
   rw[e]at h;cases e2:H a with
   |some _=>rw[e2]at h;cases h
   |none=>rw[e2]at h;exact h
 .unfold D2;obtain⟨o,ho⟩:=h.get;rw[s.ex a h n,ho]
theorem A0.new{G H:Hp}(s:As G H){a:Addr}(o:HO)(h:H a=none):A0 G H (upd G a o)<|upd H a o:=by
 have g:=s.free h;refine⟨λb u q=>by rw[BK<|DN q g];exact q,λb u q=>by rw[BK<|DN q h];exact q,λb u q=>?_,λb q n=>?_⟩
 .by_cases e:b=a
  .subst e;rw[C0]at q ⊢;exact q
  .rw[BK e]at q ⊢;exact s _ _ q
 .obtain⟨o,ho⟩:=q.get;rw[BK<|DN ho h];exact n
theorem A0.Gb{G H:Hp}(s:As G H){a:Addr}(o:HO)(h:H a=none):A0 G H G<|upd H a o:=by
 have g:=s.free h;exact⟨As.refl _,λb u q=>by rw[BK<|DN q h];exact q,λb u q=>by rw[BK<|DN q g];exact s _ _ q,λ_ _ n=>n⟩
def Bt(K:W.Frag)(H G' H':Hp):RV->V->Prop
 |.cl p,v=>Rep K G' p v
 |.bo ps,v=>∃a vs,v=.ref a/\G' a=none/\H' a=some (.lst vs)/\Ac K G' ps vs
 |.fr ps,v=>∃a vs,v=.ref a/\H a=none/\G' a=none/\H' a=some (.lst vs)/\Ac K G' ps vs
 |.bd ks xs,v=>∃a AR,v=.ref a/\G' a=none/\H' a=some (.dT AR)/\AR.map (·.1)=ks.map Ce/\Ac K G' xs (AR.map (·.2))
 |.fd ks xs,v=>∃a AR,v=.ref a/\H a=none/\G' a=none/\H' a=some (.dT AR)/\AR.map (·.1)=ks.map Ce/\Ac K G' xs (AR.map (·.2))
 |.tf p ps,v=>∃a l x vs,v=.ref a/\CB K G' a [x,.ref l]/\Rep K G' p x/\H l=none/\G' l=none/\H' l=some (.lst vs)/\Ac K G' ps vs
theorem Bt.step{K:W.Frag}{H G1 H1 G2 H2:Hp}{r:RV}{v:V}(s:A0 G1 H1 G2 H2)(h:Bt K H G1 H1 r v):Bt K H G2 H2 r v:=by
 cases r with
 |cl p=>exact Rep.same s.gg h
 |bo ps=>
  obtain⟨a,vs,e,g,q,r⟩:=h;exact⟨a,vs,e,s.ex a (.l q) g,s.hh _ _ q,Ac.same s.gg r⟩
 |fr ps=>
  obtain⟨a,vs,e,n,g,q,r⟩:=h;exact⟨a,vs,e,n,s.ex a (.l q) g,s.hh _ _ q,Ac.same s.gg r⟩
 |bd ks xs=>
  obtain⟨a,vs,e,g,q,k,r⟩:=h;exact⟨a,vs,e,s.ex a (.d q) g,s.hh _ _ q,k,Ac.same s.gg r⟩
 |fd ks xs=>
  obtain⟨a,vs,e,n,g,q,k,r⟩:=h;exact⟨a,vs,e,n,s.ex a (.d q) g,s.hh _ _ q,k,Ac.same s.gg r⟩
 |tf p ps=>
  obtain⟨a,l,x,vs,e,t,rx,n,g,q,r⟩:=h;exact⟨a,l,x,vs,e,CB.same s.gg t,Rep.same s.gg rx,n,s.ex l (.l q) g,s.hh _ _ q,Ac.same s.gg r⟩
theorem Bt.back{K:W.Frag}{H0 H G' H':Hp}{r:RV}{v:V}(s:As H0 H)(h:Bt K H G' H' r v):Bt K H0 G' H' r v:=by
 cases r with
 |cl p=>exact h
 |bo ps=>exact h
 |fr ps=>
  obtain⟨a,vs,e,n,g,q,r⟩:=h;exact⟨a,vs,e,s.free n,g,q,r⟩
 |bd ks xs=>exact h
 |fd ks xs=>
  obtain⟨a,vs,e,n,g,q,r⟩:=h;exact⟨a,vs,e,s.free n,g,q,r⟩
 |tf p ps=>
  obtain⟨a,l,x,vs,e,t,rx,n,q⟩:=h;exact⟨a,l,x,vs,e,t,rx,s.free n,q⟩
noncomputable def RV.list:RV->Option (List PV)
 |.cl (.lst ps)=>some ps
 |.bo ps=>some ps
 |.fr ps=>some ps
 |_=>none
theorem Bt.list{K:W.Frag}{H G' H':Hp}{r:RV}{v:V}{ps:List PV}(sub:As G' H')(h:Bt K H G' H' r v)(e:r.list=some ps):∃a vs,v=.ref a/\Rd H' a (.lst vs)/\Ac K G' ps vs:=by
 cases r with
 |cl p=>
  cases p with
  |lst qs=>
   simp only[RV.list,AAx]at e;subst e;have h':=h;obtain⟨a,vs,e,q,r⟩:=h';exact⟨a,vs,e,Rd.same sub q,r⟩
  |_=>simp[RV.list]at e
 |bo qs=>
  simp only[RV.list,AAx]at e;subst e;obtain⟨a,vs,e,g,q,r⟩:=h;exact⟨a,vs,e,.inl q,r⟩
 |fr qs=>
  simp only[RV.list,AAx]at e;subst e;obtain⟨a,vs,e,n,g,q,r⟩:=h;exact⟨a,vs,e,.inl q,r⟩
 |bd ks xs=>simp[RV.list]at e
 |fd ks xs=>simp[RV.list]at e
 |tf p ps=>simp[RV.list]at e
noncomputable def RV.clean:RV->Option PV
 |.cl p=>some p
 |.fr ps=>some<|.lst ps
 |.fd ks xs=>some<|.Cv ks xs
 |.tf p ps=>some<|.tup [p,.lst ps]
 |.bo _=>none
 |.bd _ _=>none
theorem Bt.clean{K:W.Frag}{H G' H':Hp}{r:RV}{v:V}{p:PV}(sub:As G' H')(h:Bt K H G' H' r v)(e:r.clean=some p):Rep K (D2 G' H H') p v:=by
 cases r with
 |cl q=>
  simp only[RV.clean,AAx]at e;subst e;exact Rep.same JZ h
 |bo qs=>simp[RV.clean]at e
 |fr qs=>
  simp only[RV.clean,AAx]at e;subst e;obtain⟨a,vs,e,n,g,q,r⟩:=h;exact⟨a,vs,e,.inl<|Rk sub n q,Ac.same JZ r⟩
 |bd ks xs=>simp[RV.clean]at e
 |fd ks xs=>
  simp only[RV.clean,AAx]at e;subst e;obtain⟨a,vs,e,n,g,q,k,r⟩:=h;exact⟨a,vs,e,.inl<|Rk sub n q,k,Ac.same JZ r⟩
 |tf p ps=>
  simp only[RV.clean,AAx]at e;subst e;obtain⟨a,l,x,vs,e,t,rx,n,g,q,r⟩:=h;refine⟨a,_,e,CB.same JZ t,?_⟩;have z:Rep K (D2 G' H H') (.lst ps)<|.ref l:=by
   exact⟨l,vs,rfl,.inl<|Rk sub n q,Ac.same JZ r⟩
  exact⟨_,_,rfl,Rep.same JZ rx,_,_,rfl,z,rfl⟩
def C8(K:W.Frag)(nm:Str)(C:Addr):Prop:=W.nsIn K mainGlobals nm=some (some<|.ref C)
theorem C8.inj{K:W.Frag}{nm:Str}{C D:Addr}(a:C8 K nm C)(b:C8 K nm D):C=D:=by
 unfold C8 at a b;rw[a]at b;simpa using b
def KP(K:W.Frag)(G H:Hp):SV->V->Prop
 |.exc nm,v=>∃a C,v=.ref a/\C8 K nm C/\G a=some (.ext<|EM a C)
 |.im p,v=>Rep K G p v
 |.own ps,v=>∃a vs,v=.ref a/\G a=none/\H a=some (.lst vs)/\Ac K G ps vs
 |.Dq t ks xs,v=>∃a AR,v=.ref a/\G a=none/\H a=some (.dT AR)/\AR.map (·.1)=ks.map Ce/\Ac K G xs (AR.map (·.2))/\∀b,t=some b->a=b
theorem KP.step{K:W.Frag}{G H G' H':Hp}{sv:SV}{v:V}(s:A0 G H G' H')(h:KP K G H sv v):KP K G' H' sv v:=by
 cases sv with
 |exc nm=>
  obtain⟨a,C,e,n,q⟩:=h;exact⟨a,C,e,n,s.gg _ _ q⟩
 |im p=>exact Rep.same s.gg h
 |own ps=>
  obtain⟨a,vs,e,g,q,r⟩:=h;exact⟨a,vs,e,s.ex a (.l q) g,s.hh _ _ q,Ac.same s.gg r⟩
 |Dq t ks xs=>
  obtain⟨a,vs,e,g,q,k,r,z⟩:=h;exact⟨a,vs,e,s.ex a (.d q) g,s.hh _ _ q,k,Ac.same s.gg r,z⟩
noncomputable def SV.EZ:SV->Bool
 |.own _=>true
 |.Dq _ _ _=>true
 |_=>false
structure B3(K:W.Frag)(G H:Hp)(ρ:AX)(σ:St):Prop where
 sub:As G H
 slot:∀(i:Nat)(sv:SV),ρ[i]? = some (some sv)->∃v,σ[i]? = some (some v)/\KP K G H sv v
 apart:∀(i j:Nat)(s t:SV)(a b:Addr),i≠j->ρ[i]? = some (some s)->s.EZ=true->ρ[j]? = some (some t)->t.EZ=true->σ[i]? = some (some<|.ref a)->σ[j]? = some (some<|.ref b)->a≠b
 len:ρ.length=σ.length
theorem B3.step{K:W.Frag}{G H G' H':Hp}{ρ:AX}{σ:St}(s:A0 G H G' H')(h:B3 K G H ρ σ):B3 K G' H' ρ σ:=
 ⟨s.sub,λi sv e=>let ⟨v,e1,q⟩:=h.slot i sv e;⟨v,e1,q.step s⟩,h.apart,h.len⟩
abbrev EF:=AX->Option RV
def tX(K:W.Frag)(f:EF):TE:=λσ H Q=>∃G ρ r,B3 K G H ρ σ/\f ρ=some r/\∀v G' H',A0 G H G' H'->Bt K H G' H' r v->Q v H'
def PX(X:Cx)(e:Expr)(f:EF):Prop:=PE X e<|tX X.K f
abbrev BF:=AX->Option Bool
def E3(K:W.Frag)(f:BF):TT:=λσ H Q=>∃G ρ b,B3 K G H ρ σ/\f ρ=some b/\∀G' H',A0 G H G' H'->Q b H'
def DF(X:Cx)(e:Expr)(f:BF):Prop:=PT X e<|E3 X.K f
def Gu(X:Cx)(e:Expr)(f:BF):Prop:=PW X e<|E3 X.K f
abbrev AF:=AX->Option (List RV)
def DY(K:W.Frag)(H G' H':Hp):List RV->List V->Prop:=Paired<|Bt K H G' H'
def Uk(K:W.Frag)(f:AF):TA:=λσ H Q=>∃G ρ rs,B3 K G H ρ σ/\f ρ=some rs/\∀vs G' H',A0 G H G' H'->DY K H G' H' rs vs->Q vs H'
def Cb(X:Cx)(es:List Expr)(f:AF):Prop:=PA X es<|Uk X.K f
theorem PE.imp{X:Cx}{e:Expr}{t t':TE}(h:PE X e t)(i:∀σ H Q,t' σ H Q->t σ H Q):PE X e t':=λAE s σ H Q I q=>h AE s σ H Q I<|i σ H Q q
theorem PT.imp{X:Cx}{e:Expr}{t t':TT}(h:PT X e t)(i:∀σ H Q,t' σ H Q->t σ H Q):PT X e t':=λAE s σ H Q I q=>h AE s σ H Q I<|i σ H Q q
theorem PW.imp{X:Cx}{e:Expr}{t t':TT}(h:PW X e t)(i:∀σ H Q,t' σ H Q->t σ H Q):PW X e t':=λwh AE s σ H Q I q=>h wh AE s σ H Q I<|i σ H Q q
theorem PA.imp{X:Cx}{es:List Expr}{t t':TA}(h:PA X es t)(i:∀σ H Q,t' σ H Q->t σ H Q):PA X es t':=λpos AE s σ H Q I q=>h pos AE s σ H Q I<|i σ H Q q
theorem PS.imp{X:Cx}{st:Stmt}{t t':TS}(h:PS X st t)(i:∀D σ H,t' D σ H->t D σ H):PS X st t':=λAE s σ H D I q=>h AE s σ H D I<|i D σ H q
theorem CV.imp{X:Cx}{st:List Stmt}{t t':TS}(h:CV X st t)(i:∀D σ H,t' D σ H->t D σ H):CV X st t':=λAE s σ H D I q=>h AE s σ H D I<|i D σ H q
noncomputable def AB(i:Nat):EF:=λρ=>match ρ[i]? with|some (some<|.im p)=>some (.cl p)|some (some<|.own ps)=>some (.bo ps)|some (some<|.Dq _ ks xs)=>some (.bd ks xs)|_=>none
noncomputable def fC(p:PV):EF:=λ_=>some<|.cl p
section
variable{X:Cx}{a b c e:Expr}{es:List Expr}{fa fb fc f:EF}{pos:Pos}
theorem rO(i:Nat){x:Str}{pos:Pos}(hN:X.N[i]? = some x)(hv:DZ X.env.scope x)(hd:(x==("__debug__"))=false) (BI:(x==("__classdict__"))=false):PX X (.Name x pos)<|AB i:=by
 refine PE.imp (Ex  hN hv hd BI) λσ H Q ⟨G,ρ,r,R,e,q⟩=>?_;unfold AB at e;split at e
 .rename_i p hp;cases e;obtain⟨v,e1,q1⟩:=R.slot i _ hp;exact⟨v,e1,q v G H (A0.refl R.sub) q1⟩
 .rename_i ps hp;cases e;obtain⟨v,e1,q1⟩:=R.slot i _ hp;exact⟨v,e1,q v G H (A0.refl R.sub) q1⟩
 .rename_i ks xs hp;cases e;obtain⟨v,e1,a,vs,e,g,w,k,r,_⟩:=R.slot i _ hp;exact⟨v,e1,q v G H (A0.refl R.sub) ⟨a,vs,e,g,w,k,r⟩⟩
 .cases e
theorem M4{v:V}{p:PV}(h:PE X e<|tC v)(hr:∀G,Rep X.K G p v):PX X e<|fC p:=
 PE.imp h (by
  rintro σ H Q ⟨G,ρ,r,R,e,q⟩;cases e;exact q v G H (A0.refl R.sub)<|hr G)
theorem qx{i:Int}{j}{pos}:PX X (.Constant (.int i) j pos)<|fC<|.int i:=M4 Zm λ_=>by rfl
theorem qh{i:Bool}{j}{pos}:PX X (.Constant (.bool i) j pos)<|fC<|.bl i:=M4 pD λ_=>by rfl
theorem rK{i:Str}{j}{pos}:PX X (.Constant (.str i) j pos)<|fC<|.str i:=M4 Zn λ_=>by rfl
noncomputable def f2(k:RV->RV->Option RV)(fa fb:EF):EF:=λρ=>match fa ρ with|none=>none|some x=>match fb ρ with|none=>none|some y=>k x y
def DE(K:W.Frag)(k:RV->RV->Option RV)(r:R2):Prop:=
 ∀(x y z:RV)(H0 G H:Hp)(vx vy:V)(Q:VK),As G H->As H0 H->k x y=some z->Bt K H0 G H x vx->Bt K H0 G H y vy->(∀v G' H',A0 G H G' H'->Bt K H0 G' H' z v->Q v H')->r vx vy H Q
theorem P5{K:W.Frag}{k:RV->RV->Option RV}{r:R2}(hk:DE K k r){σ:St}{H:Hp}{Q:VK}(h:tX K (f2 k fa fb) σ H Q):NG r (tX K fa) (tX K fb) σ H Q:=by
 obtain⟨G,ρ,z,R,e,q⟩:=h;unfold f2 at e;cases ea:fa ρ with
 |none=>rw[ea]at e;cases e
 |some x=>
  rw[ea]at e;cases eb:fb ρ with
  |none=>rw[eb]at e;cases e
  |some y=>
   rw[eb]at e;refine⟨G,ρ,x,R,ea,λvx G1 H1 s1 rx=>⟨G1,ρ,y,R.step s1,eb,λvy G2 H2 s2 ry=>?_⟩⟩;exact hk x y z H G2 H2 vx vy Q s2.sub (s1.hh.trans s2.hh) e (rx.step s2) (ry.back s1.hh) λv G' H' s3 rz=>q v G' H' ((s1.trans s2).trans s3) rz
theorem M5{op:Operator}{k:RV->RV->Option RV}{r:R2}(ho:Ba X (binaryOp op) r)(hk:DE X.K k r)(ha:PX X a fa)(hb:PX X b fb):PX X (.BinOp a op b pos)<|f2 k fa fb:=
 PE.imp (pR ho ha hb) λ_ _ _ h=>P5 hk h
def scalar:V->PV->Prop
 |.int i,.int j=>i=j
 |.bl i,.bl j=>i=j
 |.str i,.str j=>i=j
 |.A4,.A4=>True
 |_,_=>False
theorem scalar.rep{K:W.Frag}{G:Hp}{v:V}{p:PV}(h:scalar v p):Rep K G p v:=by
 cases v<;>cases p<;>simp only[scalar]at h<;>first|exact h.elim|(subst h;rfl)|(rfl)
theorem Bt.int{K:W.Frag}{H0 G H:Hp}{i:Int}{v:V}(h:Bt K H0 G H (.cl<|.int i) v):v=.int i:=by
 have h':=h;exact h'
theorem Bt.bl{K:W.Frag}{H0 G H:Hp}{i:Bool}{v:V}(h:Bt K H0 G H (.cl<|.bl i) v):v=.bl i:=by
 have h':=h;exact h'
noncomputable def kI(C:Int->Int->Prop)[∀i j,Decidable<|C i j](g:Int->Int->PV):RV->RV->Option RV
 |.cl (.int i),.cl (.int j)=>if C i j then some (.cl<|g i j)else none
 |_,_=>none
theorem Tf{K:W.Frag}{C:Int->Int->Prop}[∀i j,Decidable<|C i j]{C':Int->Int->Prop}{g:Int->Int->PV}{g':Int->Int->V}(hC:∀i j,C i j->C' i j)(hg:∀i j,C i j->scalar (g' i j) (g i j)):DE K (kI C g)<|rI C' g':=by
 intro x y z H0 G H vx vy Q sub _ e rx ry q;unfold kI at e;split at e
 .rename_i i j;split at e
  .rename_i hc;cases e;exact⟨i,j,rx.int,ry.int,hC i j hc,q _ G H (A0.refl sub) (hg i j hc).rep⟩
  .cases e
 .cases e
theorem Mv{K:W.Frag}{g:Int->Int->PV}{g':Int->Int->V}(hg:∀i j,scalar (g' i j)<|g i j):DE K (kI (λ_ _=>True) g)<|Hf g':=by
 intro x y z H0 G H vx vy Q sub _ e rx ry q;unfold kI at e;split at e
 .rename_i i j;cases e;exact⟨i,j,rx.int,ry.int,q _ G H (A0.refl sub) (hg i j).rep⟩
 .cases e
end
end L2.PL
namespace L2.PL
open PySem PySem.Spec PyProof.Rows
section
variable{X:Cx}{a b c e:Expr}{es:List Expr}{fa fb fc f:EF}{pos:Pos}
instance{i j:Int}:Decidable<|Ei i j:=by unfold Ei;infer_instance
instance{i j:Int}:Decidable<|LU i j:=by unfold LU;infer_instance
def Ad:RV->RV->Option RV:=kI (λ_ _=>True) λi j=>.int<|i-j
def CL:RV->RV->Option RV:=kI Ei λi j=>.int<|i*j
def Bq:RV->RV->Option RV:=kI LU λi j=>.int<|i / j
def Ap:RV->RV->Option RV:=kI (λ_ j=>0<j) λi j=>.int<|i%j
theorem rL(ha:PX X a fa)(hb:PX X b fb):PX X (.BinOp a .Sub b pos)<|f2 Ad fa fb:=M5 oU (Mv λ_ _=>rfl) ha hb
theorem rC(ha:PX X a fa)(hb:PX X b fb):PX X (.BinOp a .Mult b pos)<|f2 CL fa fb:=M5 oP (Tf (λ_ _ h=>h) λ_ _ _=>rfl) ha hb
theorem qq(ha:PX X a fa)(hb:PX X b fb):PX X (.BinOp a .FloorDiv b pos)<|f2 Bq fa fb:=M5 oF (Tf (λ_ _ h=>h) λ_ _ _=>rfl) ha hb
theorem rB(ha:PX X a fa)(hb:PX X b fb):PX X (.BinOp a .Mod b pos)<|f2 Ap fa fb:=M5 oO (Tf (λ_ _ h=>h) λ_ _ _=>rfl) ha hb
def T1:R2:=λx y H Q=>∃l b xs zs,x=.ref l/\y=.ref b/\Rd H l (.lst xs)/\Rd H b (.lst zs)/\xs.length+zs.length<=sizeLine/\∀p,H p=none->Q (.ref p) (upd H p<|.lst<|xs++zs)
theorem oD:Ba X (binaryOp .Add) T1:=by
 intro AE s σ H x y v u Q I rx ry h;obtain⟨l,b,xs,zs,rfl,rfl,hH,hB,hz,q⟩:=h;cases rx;cases ry;obtain⟨z,its,n,r,e⟩:=hH.ok I.Ae;obtain⟨z2,Ov,n2,r2,e2⟩:=hB.ok I.Ae;have hl:=r.length;have Kp:=r2.length;refine PySem.P.add_list e e2 ?_ (by rw[AAR,AAR];omega);have ea:its.toArray++Ov.toArray=(its++Ov).toArray:=AAB
 rw[ea];exact⟨.ref _,_,I.ma  (r.append r2) (by rw[AAn];omega),rfl,q _ I.fresh⟩
def MZ(x y:RV):Option RV:=match x.list,y.list with
 |some xs,some ys=>if xs.length+ys.length<=1000 then some (.fr<|xs++ys)else none
 |_,_=>none
theorem small{n:Nat}(h:n<=1000):n<=sizeLine:=ACF<|UN h
theorem Ac.len{K:W.Frag}{H:Hp}{ps:List PV}{vs:List V}(h:Ac K H ps vs):ps.length=vs.length:=Paired.length h.paired
theorem n0{K:W.Frag}:DE K MZ T1:=by
 intro x y z H0 G H vx vy Q sub sh e rx ry q;unfold MZ at e;split at e
 .rename_i xs ys ex ey;split at e
  .cases e;obtain⟨l,vs,rfl,hl,rl⟩:=rx.list sub ex;obtain⟨b,us,rfl,hb,rb⟩:=ry.list sub ey;have e1:=rl.len;have e2:=rb.len;refine⟨l,b,vs,us,rfl,rfl,hl,hb,small AAA,λp hp=>?_⟩;refine q (.ref p) G _ (A0.Gb sub _ hp) ?_;refine⟨p,vs++us,rfl,sh.free hp,sub.free hp,C0,Ac.of<|Jr rl.paired rb.paired⟩
  .cases e
 .cases e
def AZ(x y:RV):Option RV:=match x,y with
 |.cl (.int i),.cl (.int j)=>some<|.cl<|.int<|i+j
 |x,y=>MZ x y
theorem nz{K:W.Frag}:DE K AZ (λx y H Q=>Hf (λi j=>.int<|i+j) x y H Q\/T1 x y H Q):=by
 intro x y z H0 G H vx vy Q sub sh e rx ry q;unfold AZ at e;split at e
 .rename_i i j;exact .inl<|Mv  (g:=λi j=>.int<|i+j) (g':=λi j=>.int<|i+j) (λ_ _=>rfl) (.cl<|.int i) (.cl<|.int j) z H0 G H vx vy Q sub sh (by simpa[kI]using e) rx ry q
 .exact .inr<|n0 _ _ z H0 G H vx vy Q sub sh e rx ry q
theorem qf(ha:PX X a fa)(hb:PX X b fb):PX X (.BinOp a .Add b pos)<|f2 AZ fa fb:=M5 (oC.or oD) nz ha hb
noncomputable def IL(fa:EF):EF:=λρ=>match fa ρ with|some (.cl<|.int i)=>some (.cl<|.int (-i))|_=>none
theorem rD(ha:PX X a fa):PX X (.UnaryOp .USub a pos)<|IL fa:=PE.imp (Zo bX ha) (by
 rintro σ H Q ⟨G,ρ,r,R,e,q⟩;unfold IL at e;split at e
 .rename_i i ea;cases e;exact⟨G,ρ,_,R,ea,λv G' H' s rv=>⟨i,rv.int,q _ G' H' s<|by rfl⟩⟩
 .cases e)
def Bb:RV->RV->Option RV:=kI (λ_ _=>True) λi j=>.bl<|decide (i<j)
def B7:RV->RV->Option RV:=kI (λ_ _=>True) λi j=>.bl<|decide (i<=j)
def BL:RV->RV->Option RV:=kI (λ_ _=>True) λi j=>.bl<|decide (j<i)
structure Cj(X:Cx)(op:CmpOp)(k:RV->RV->Option RV):Prop where
 ex:∃r,Ba X (compareOp op) r/\DE X.K k r
theorem fh:Cj X .Lt Bb:=⟨_,oM,Mv λ_ _=>rfl⟩
theorem fg:Cj X .LtE B7:=⟨_,oK,Mv λ_ _=>rfl⟩
theorem fZ:Cj X .Gt BL:=⟨_,oH,Mv λ_ _=>rfl⟩
theorem ql{op:CmpOp}{k:RV->RV->Option RV}(hc:Cj X op k)(ha:PX X a fa)(hb:PX X b fb)(hm:behindInMarks op b=false):PX X (.Compare a [op] [b] pos)<|f2 k fa fb:=by
 obtain⟨r,ho,hk⟩:=hc.ex;exact PE.imp (pI ho ha hb hm) λ_ _ _ h=>P5 hk h
noncomputable def AN(f:EF):BF:=λρ=>match f ρ with|some (.cl<|.bl b)=>some b|_=>none
theorem P7{K:W.Frag}{σ:St}{H:Hp}{Q:Bool->Hp->Prop}(h:E3 K (AN f) σ H Q):tX K f σ H λx H'=>∃k,x=.bl k/\Q k H':=by
 obtain⟨G,ρ,r,R,e,q⟩:=h;unfold AN at e;split at e
 .rename_i b eb;cases e;exact⟨G,ρ,_,R,eb,λv G' H' s rv=>⟨_,rv.bl,q G' H' s⟩⟩
 .cases e
theorem sr{op:CmpOp}{k:RV->RV->Option RV}(hc:Cj X op k)(ha:PX X a fa)(hb:PX X b fb)(hm:behindInMarks op b=false):DF X (.Compare a [op] [b] pos)<|AN<|f2 k fa fb:=by
 obtain⟨r,ho,hk⟩:=hc.ex;exact PT.imp (qT ho ha hb hm) λ_ _ _ h=>P5 hk<|P7 h
noncomputable def EA(k k':RV->RV->Option RV)(fa fb fc:EF):EF:=λρ=>match fa ρ,fb ρ with
 |some x,some y=>match k x y with
  |some (.cl<|.bl true)=>(match fc ρ with|some z=>k' y z|none=>none)
  |some (.cl<|.bl false)=>some<|.cl<|.bl false
  |_=>none
 |_,_=>none
theorem bH{K:W.Frag}{k k':RV->RV->Option RV}{r r':R2}(hk:DE K k r)(Bi:DE K k' r'){σ:St}{H:Hp}{Q:VK}(h:tX K (EA k k' fa fb fc) σ H Q):Ud r r' (tX K fa) (tX K fb) (tX K fc) σ H Q:=by
 obtain⟨G,ρ,z,R,e,q⟩:=h;unfold EA at e;split at e
 .rename_i x y ea eb;refine⟨G,ρ,x,R,ea,λvx G1 H1 s1 rx=>⟨G1,ρ,y,R.step s1,eb,λvy G2 H2 s2 ry=>?_⟩⟩;split at e
  .rename_i ek;cases ec:fc ρ with
   |none=>rw[ec]at e;cases e
   |some w=>
    rw[ec]at e;refine hk x y _ H G2 H2 vx vy _ s2.sub (s1.hh.trans s2.hh) ek (rx.step s2) (ry.back s1.hh) λv G3 H3 s3 rv=>⟨true,rv.bl,?_⟩;refine⟨G3,ρ,w,(R.step s1).step<|s2.trans s3,ec,λvw G4 H4 s4 CM=>?_⟩;exact Bi y w z H G4 H4 vy vw Q s4.sub (((s1.trans s2).trans s3).trans s4).hh e ((ry.back s1.hh).step<|s3.trans s4) (CM.back ((s1.trans s2).trans s3).hh) λv G5 H5 s5 UB=>q v G5 H5 ((((s1.trans s2).trans s3).trans s4).trans s5) UB
  .rename_i ek;cases e;refine hk x y _ H G2 H2 vx vy _ s2.sub (s1.hh.trans s2.hh) ek (rx.step s2) (ry.back s1.hh) λv G3 H3 s3 rv=>⟨false,rv.bl,?_⟩;exact q _ G3 H3 ((s1.trans s2).trans s3)<|by rfl
  .cases e
 .cases e
theorem qj{op B1:CmpOp}{k k':RV->RV->Option RV}(hc:Cj X op k)(GO:Cj X B1 k')(ha:PX X a fa)(hb:PX X b fb)(EU:PX X c fc)(hm:lastMarks [op,B1] [b,c]=false) : PX X (.Compare a [op,B1] [b,c] pos)<|EA k k' fa fb fc:=by
 obtain⟨r,ho,hk⟩:=hc.ex;obtain⟨r',Bz,Bi⟩:=GO.ex;exact PE.imp (pG ho Bz ha hb EU hm) λ_ _ _ h=>bH hk Bi h
theorem sk{op B1:CmpOp}{k k':RV->RV->Option RV}(hc:Cj X op k)(GO:Cj X B1 k')(ha:PX X a fa)(hb:PX X b fb)(EU:PX X c fc)(hm:lastMarks [op,B1] [b,c]=false) : DF X (.Compare a [op,B1] [b,c] pos)<|AN<|EA k k' fa fb fc:=by
 obtain⟨r,ho,hk⟩:=hc.ex;obtain⟨r',Bz,Bi⟩:=GO.ex;exact PT.imp (qR ho Bz ha hb EU hm) λ_ _ _ h=>bH hk Bi<|P7 h
noncomputable def BY(t u:BF):BF:=λρ=>match t ρ with|some true=>u ρ|some false=>some false|none=>none
noncomputable def CZ(t u:BF):BF:=λρ=>match t ρ with|some true=>some true|some false=>u ρ|none=>none
noncomputable def CY(t:BF):BF:=λρ=>(t ρ).map (!·)
variable{ta tb tc:BF}{A7:List Expr}
theorem wD{K:W.Frag}{σ:St}{H:Hp}{Q:Bool->Hp->Prop}(h:E3 K (BY ta tb) σ H Q):av (E3 K ta) (E3 K tb) σ H Q:=by
 obtain⟨G,ρ,r,R,e,q⟩:=h;unfold BY at e;split at e
 .rename_i ea;refine⟨G,ρ,true,R,ea,λG1 H1 s1=>?_⟩;exact⟨G1,ρ,r,R.step s1,e,λG2 H2 s2=>q G2 H2<|s1.trans s2⟩
 .rename_i ea;cases e;refine⟨G,ρ,false,R,ea,λG1 H1 s1=>?_⟩;exact q G1 H1 s1
 .cases e
theorem wH{K:W.Frag}{σ:St}{H:Hp}{Q:Bool->Hp->Prop}(h:E3 K (CZ ta tb) σ H Q):bE (E3 K ta) (E3 K tb) σ H Q:=by
 obtain⟨G,ρ,r,R,e,q⟩:=h;unfold CZ at e;split at e
 .rename_i ea;cases e;refine⟨G,ρ,true,R,ea,λG1 H1 s1=>?_⟩;exact q G1 H1 s1
 .rename_i ea;refine⟨G,ρ,false,R,ea,λG1 H1 s1=>?_⟩;exact⟨G1,ρ,r,R.step s1,e,λG2 H2 s2=>q G2 H2<|s1.trans s2⟩
 .cases e
theorem tH(ha:DF X a ta):Gu X (.BoolOp .And [a] pos) ta:=qc ha
theorem tJ(ha:DF X a ta):Gu X (.BoolOp .Or [a] pos) ta:=qe ha
theorem tG(ha:DF X a ta)(hb:Gu X (.BoolOp .And (b::A7) pos) tb):Gu X (.BoolOp .And (a::b::A7) pos)<|BY ta tb:=PW.imp (qb ha hb) λ_ _ _ h=>wD h
theorem tI(ha:DF X a ta)(hb:Gu X (.BoolOp .Or (b::A7) pos) tb):Gu X (.BoolOp .Or (a::b::A7) pos)<|CZ ta tb:=PW.imp (qd ha hb) λ_ _ _ h=>wH h
theorem tE(h:Gu X e ta):DF X e ta:=h.pt
theorem sy(ha:DF X a ta):DF X (.UnaryOp .Not a pos)<|CY ta:=PT.imp (qU ha) (by
 rintro σ H Q ⟨G,ρ,r,R,e,q⟩;unfold CY at e;cases ea:ta ρ with
 |none=>rw[ea]at e;cases e
 |some k=>
  rw[ea]at e;cases e;exact⟨G,ρ,k,R,ea,λG1 H1 s1=>q G1 H1 s1⟩)
theorem tD(ha:PX X a fa)(he:∀JF,isTrue a X.env JF=(do let v<-JF;standAt a.pos;holding [v] (truthy v))):DF X a<|AN fa:=
 PT.imp (qV ha he) λ_ _ _ h=>P7 h
noncomputable def DB(f g:EF):EF:=λρ=>match f ρ with|some (.cl<|.bl true)=>g ρ|some (.cl<|.bl false)=>some (.cl<|.bl false)|_=>none
noncomputable def DH(f g:EF):EF:=λρ=>match f ρ with|some (.cl<|.bl false)=>g ρ|some (.cl<|.bl true)=>some (.cl<|.bl true)|_=>none
noncomputable def Kg(f:EF):EF:=λρ=>match f ρ with|some (.cl<|.bl b)=>some (.cl<|.bl (!b))|_=>none
theorem rF{op}(h:PX X a fa):PX X (.BoolOp op [a] pos) fa:=pQ h
theorem qg(ha:PX X a fa)(hb:PX X (.BoolOp .And (b::A7) pos) fb):PX X (.BoolOp .And (a::b::A7) pos)<|DB fa fb:=PE.imp (pC ha hb) (by
 rintro σ H Q ⟨G,ρ,r,R,e,q⟩;unfold DB at e;split at e
 .rename_i ea;refine⟨G,ρ,_,R,ea,λv G1 H1 s1 rv=>⟨true,rv.bl,?_⟩⟩;exact⟨G1,ρ,r,R.step s1,e,λv2 G2 H2 s2 r2=>q v2 G2 H2 (s1.trans s2)<|r2.back s1.hh⟩
 .rename_i ea;cases e;refine⟨G,ρ,_,R,ea,λv G1 H1 s1 rv=>⟨false,rv.bl,?_⟩⟩;exact q _ G1 H1 s1<|by rfl
 .cases e)
theorem rG(ha:PX X a fa)(hb:PX X (.BoolOp .Or (b::A7) pos) fb):PX X (.BoolOp .Or (a::b::A7) pos)<|DH fa fb:=PE.imp (pS ha hb) (by
 rintro σ H Q ⟨G,ρ,r,R,e,q⟩;unfold DH at e;split at e
 .rename_i ea;refine⟨G,ρ,_,R,ea,λv G1 H1 s1 rv=>⟨false,rv.bl,?_⟩⟩;exact⟨G1,ρ,r,R.step s1,e,λv2 G2 H2 s2 r2=>q v2 G2 H2 (s1.trans s2)<|r2.back s1.hh⟩
 .rename_i ea;cases e;refine⟨G,ρ,_,R,ea,λv G1 H1 s1 rv=>⟨true,rv.bl,?_⟩⟩;exact q _ G1 H1 s1<|by rfl
 .cases e)
theorem rE(ha:PX X a fa):PX X (.UnaryOp .Not a pos)<|Kg fa:=PE.imp (pP ha) (by
 rintro σ H Q ⟨G,ρ,r,R,e,q⟩;unfold Kg at e;split at e
 .rename_i b ea;cases e;exact⟨G,ρ,_,R,ea,λv G1 H1 s1 rv=>⟨b,rv.bl,q _ G1 H1 s1<|by rfl⟩⟩
 .cases e)
noncomputable def HM(t:BF)(f g:EF):EF:=λρ=>match t ρ with|some true=>f ρ|some false=>g ρ|none=>none
theorem qv(hc:DF X c tc)(ha:PX X a fa)(hb:PX X b fb):PX X (.IfExp c a b pos)<|HM tc fa fb:=PE.imp (pM hc ha hb) (by
 rintro σ H Q ⟨G,ρ,r,R,e,q⟩;unfold HM at e;split at e
 .rename_i ec;refine⟨G,ρ,true,R,ec,λG1 H1 s1=>?_⟩;exact⟨G1,ρ,r,R.step s1,e,λv2 G2 H2 s2 r2=>q v2 G2 H2 (s1.trans s2)<|r2.back s1.hh⟩
 .rename_i ec;refine⟨G,ρ,false,R,ec,λG1 H1 s1=>?_⟩;exact⟨G1,ρ,r,R.step s1,e,λv2 G2 H2 s2 r2=>q v2 G2 H2 (s1.trans s2)<|r2.back s1.hh⟩
 .cases e)
noncomputable def AG:AF:=λ_=>some []
noncomputable def AD(f:EF)(g:AF):AF:=λρ=>match f ρ,g ρ with|some x,some xs=>some (x::xs)|_,_=>none
variable{g:AF}
theorem Tz:Cb X [] AG:=PA.imp Hd (by
 rintro σ H Q ⟨G,ρ,r,R,e,q⟩;cases e;exact q [] G H (A0.refl R.sub) .nil)
theorem DY.step{K:W.Frag}{H G1 H1 G2 H2:Hp}(s:A0 G1 H1 G2 H2):∀{rs:List RV}{vs:List V},DY K H G1 H1 rs vs->DY K H G2 H2 rs vs
 |_,_,.nil=>.nil
 |_,_,.cons r t=>.cons (r.step s)<|DY.step s t
theorem DY.back{K:W.Frag}{H0 H G' H':Hp}(s:As H0 H):∀{rs:List RV}{vs:List V},DY K H G' H' rs vs->DY K H0 G' H' rs vs
 |_,_,.nil=>.nil
 |_,_,.cons r t=>.cons (r.back s)<|DY.back s t
theorem M6(ha:PX X e f)(hr:Cb X es g)(hs:starEach (e::es) X.env=(false,eval e X.env)::starEach es X.env:=by rfl):Cb X (e::es)<|AD f g:=PA.imp (Fv ha hr hs) (by
 rintro σ H Q ⟨G,ρ,r,R,e,q⟩;unfold AD at e;split at e
 .rename_i x xs ea eb;cases e;refine⟨G,ρ,x,R,ea,λv G1 H1 s1 rv=>⟨G1,ρ,xs,R.step s1,eb,λvs G2 H2 s2 rs=>?_⟩⟩;exact q (v::vs) G2 H2 (s1.trans s2)<|.cons (rv.step s2)<|DY.back s1.hh rs
 .cases e)
def CW:List RV->Option (List PV)
 |[]=>some []
 |r::rs=>match r.clean,CW rs with|some p,some ps=>some (p::ps)|_,_=>none
theorem JN{K:W.Frag}{H G' H':Hp}(sub:As G' H'):∀{rs:List RV}{vs:List V}{ps:List PV},DY K H G' H' rs vs->CW rs=some ps->Ac K (D2 G' H H') ps vs
 |_,_,_,.nil,e=>by cases e;rfl
 |_,_,_,.cons r t,e=>by
  unfold CW at e;split at e
  .rename_i p ps e1 e2;cases e;exact⟨_,_,rfl,r.clean sub e1,JN sub t e2⟩
  .cases e
def Av(g:AF):EF:=λρ=>match g ρ with|some rs=>(match CW rs with|some ps=>if ps.length<=1000 then some (.cl<|.tup ps)else none|none=>none)|none=>none
def BE(g:AF):EF:=λρ=>match g ρ with|some rs=>(match CW rs with|some ps=>if ps.length<=1000 then some (.fr ps)else none|none=>none)|none=>none
theorem rM{x1}(h:Cb X es g):PX X (.Tuple es x1 pos)<|Av g:=PE.imp (Tt h) (by
 rintro σ H Q ⟨G,ρ,r,R,e,q⟩;unfold Av at e;split at e
 .rename_i rs eg;split at e
  .rename_i ps ep;split at e
   .cases e;refine⟨G,ρ,rs,R,eg,λvs G1 H1 s1 rv=>?_⟩;have rl:=JN s1.sub rv ep;have hl:=rl.len;refine⟨small AAA,λp hp=>?_⟩;have s2:=s1.all;have s3:=A0.new s2.sub (.tup vs) hp;refine q (.ref p) _ _ (s2.trans s3) ?_;exact⟨p,vs,rfl,.inl<|.inl C0,Ac.same s3.gg rl⟩
   .cases e
  .cases e
 .cases e)
theorem rA(h:Cb X es g):PX X (.List es pos)<|BE g:=PE.imp (pO h) (by
 rintro σ H Q ⟨G,ρ,r,R,e,q⟩;unfold BE at e;split at e
 .rename_i rs eg;split at e
  .rename_i ps ep;split at e
   .cases e;refine⟨G,ρ,rs,R,eg,λvs G1 H1 s1 rv=>?_⟩;have rl:=JN s1.sub rv ep;have hl:=rl.len;refine⟨small AAA,λp hp=>?_⟩;have s2:=s1.all;refine q (.ref p) _ _ (s2.trans<|A0.Gb s2.sub (.lst vs) hp) ?_;exact⟨p,vs,rfl,s1.hh.free hp,s2.sub.free hp,C0,rl⟩
   .cases e
  .cases e
 .cases e)
end
section
variable{X:Cx}{a b c e:Expr}{es:List Expr}{fa fb fc f:EF}{g:AF}{pos:Pos}
def Z6(K:W.Frag):R2:=λx y H Q=>Z5 K x y H Q\/Z7 K x y H Q
theorem lj:Hu X<|Z6 X.K:=ll.or lq
def RV.seq:RV->Option (List PV)
 |.cl (.tup ps)=>some ps
 |.cl (.rd ps)=>some ps
 |r=>r.list
def AJ(x y:RV):Option RV:=match x.seq,y with
 |some ps,.cl (.int i)=>(CH ps i).map .cl
 |_,_=>none
theorem Ac.CH{K:W.Frag}{H:Hp}{ps:List PV}{vs:List V}{i:Int}{p:PV}(h:Ac K H ps vs)(e:CH ps i=some p):∃v,CH vs i=some v/\Rep K H p v:=by
 unfold L2.CH at e ⊢;rw[<-h.len];cases ei:Dl ps.length i with
 |none=>rw[ei]at e;cases e
 |some j=>
  rw[ei]at e;exact Js h.paired e
theorem Bt.seq{K:W.Frag}{H G' H':Hp}{r:RV}{v:V}{ps:List PV}(sub:As G' H')(h:Bt K H G' H' r v)(e:r.seq=some ps):∃a vs,v=.ref a/\(CO K H' a vs\/CB K H' a vs)/\Ac K G' ps vs:=by
 by_cases ht:∃qs,r=.cl (.tup qs)
 .obtain⟨qs,rfl⟩:=ht;simp only[RV.seq,AAx]at e;subst e;have h':=h;obtain⟨a,vs,e,q,r⟩:=h';exact⟨a,vs,e,.inr<|CB.same sub q,r⟩
 by_cases hd:∃qs,r=.cl (.rd qs)
 .obtain⟨qs,rfl⟩:=hd;simp only[RV.seq,AAx]at e;subst e;have h':=h;obtain⟨a,vs,e,q,r⟩:=h';exact⟨a,vs,e,.inl<|As.seq sub q,r⟩
 .have e':r.list=some ps:=by
   cases r with
   |cl p=>cases p<;>first|exact e|exact absurd ⟨_,rfl⟩ ht|exact absurd ⟨_,rfl⟩ hd
   |bo ps=>exact e
   |fr ps=>exact e
   |bd _ _=>exact e
   |fd _ _=>exact e
   |tf _ _=>exact e
  obtain⟨a,vs,e,q,r⟩:=h.list sub e';exact⟨a,vs,e,.inl<|.inl q,r⟩
theorem oA{K:W.Frag}:DE K AJ<|Z6 K:=by
 intro x y z H0 G H vx vy Q sub sh e rx ry q;unfold AJ at e;split at e
 .rename_i ps i ex;cases ei:CH ps i with
  |none=>rw[ei]at e;cases e
  |some p=>
   rw[ei]at e;cases e;obtain⟨a,vs,rfl,hq,rl⟩:=rx.seq sub ex;obtain⟨v,ev,rv⟩:=rl.CH ei;have OT:=q v G H (A0.refl sub) rv;rcases hq with hq|hq
   .exact .inl ⟨a,vs,i,v,rfl,ry.int,hq,ev,OT⟩
   .exact .inr ⟨a,vs,i,v,rfl,ry.int,hq,ev,OT⟩
 .cases e
theorem q0(ha:PX X a fa)(hb:PX X b fb)(hs:VP b):PX X (.Subscript a b pos)<|f2 AJ fa fb:=PE.imp (pN lj ha hb hs) λ_ _ _ h=>P5 oA h
abbrev OF:=AX->Option (Option Int)
noncomputable def Df:OF:=λ_=>some none
noncomputable def DI(f:EF):OF:=λρ=>match f ρ with|some (.cl<|.int i)=>some (some i)|_=>none
def wC(K:W.Frag)(f:OF):TO:=λσ H Q=>∃G ρ r,B3 K G H ρ σ/\f ρ=some r/\∀G' H',A0 G H G' H'->Q r H'
def KL(X:Cx)(e:Option Expr)(f:OF):Prop:=PO X e<|wC X.K f
theorem PO.imp{X:Cx}{e:Option Expr}{t t':TO}(h:PO X e t)(i:∀σ H Q,t' σ H Q->t σ H Q):PO X e t':=λAE s σ H Q I q=>h AE s σ H Q I<|i σ H Q q
theorem rZ:KL X none Df:=PO.imp qC (by
 rintro σ H Q ⟨G,ρ,r,R,e,q⟩;cases e;exact q G H<|A0.refl R.sub)
theorem rf(h:PX X e f):KL X (some e)<|DI f:=PO.imp (qD h) (by
 rintro σ H Q ⟨G,ρ,r,R,e,q⟩;unfold DI at e;split at e
 .rename_i i ei;cases e;exact⟨G,ρ,_,R,ei,λv G' H' s rv=>⟨i,rv.int,q G' H' s⟩⟩
 .cases e)
def Kb(xs:List PV)(lo hi:Option Int):List PV:=(xs.drop<|HT.C4 xs.length 0 lo).take<|HT.C4 xs.length xs.length hi-HT.C4 xs.length 0 lo
def DJ(f:EF)(l u:OF):EF:=λρ=>match f ρ,l ρ,u ρ with
 |some x,some lo,some hi=>(match x.list with|some ps=>some (.fr<|Kb ps lo hi)|none=>none)
 |_,_,_=>none
theorem rJ{lo hi:Option Expr}{l u:OF}{p2:Pos}(he:PX X e f)(hl:KL X lo l)(hu:KL X hi u):PX X (.Subscript e (.Slice lo hi none p2) pos)<|DJ f l u:=PE.imp (pU u5 he hl hu) (by
 rintro σ H Q ⟨G,ρ,r,R,e,q⟩;unfold DJ at e;split at e
 .rename_i x me CQ ex el eu;split at e
  .rename_i ps ep;cases e;refine⟨G,ρ,x,R,ex,λv G1 H1 s1 rv=>⟨G1,ρ,me,R.step s1,el,λG2 H2 s2=>⟨G2,ρ,CQ,(R.step s1).step s2,eu,λG3 H3 s3=>?_⟩⟩⟩;obtain⟨a,vs,rfl,hq,rl⟩:=(rv.step<|s2.trans s3).list s3.sub ep;refine⟨a,vs,rfl,.inl hq,λp hp=>?_⟩;refine q (.ref p) _ _ (((s1.trans s2).trans s3).trans<|A0.Gb s3.sub _ hp) ?_;refine⟨p,_,rfl,((s1.trans s2).trans s3).hh.free hp,s3.sub.free hp,C0,?_⟩;unfold Kb Lu;rw[rl.len];exact Ac.of<|Pc _<|Tp _ rl.paired
  .cases e
 .cases e)
def vp(te:TE):TE:=λσ H Q=>te σ H λx H1=>∃a xs,x=.ref a/\Rd H1 a (.lst xs)/\∀p,H1 p=none->Q (.ref p) (upd H1 p<|.lst xs.reverse)
theorem pT{te:TE}{j p1 p2 p3}(he:PE X e te):PE X (.Subscript e (.Slice none none (some<|.UnaryOp .USub (.Constant (.int 1) j p1) p2) p3) pos)<|vp te:=by
 intro AE s σ H Q I h;refine Subscript_<|Aj (he AE s σ H _ I h) λv s1 ⟨x,H1,I1,r1,q1⟩=>?_;refine wpAny_Slice ?_;refine wpAny_pure ?_;refine wpAny_pure ?_;refine Aj (Zo bX (Zm    )  AE s1 σ H1 (λv H2=>v=.int (-1)/\H2=H1) I1 ⟨1,rfl,rfl,rfl⟩) λst s3 ⟨y,H3,I3,r3,q3⟩=>?_;obtain⟨rfl,rfl⟩:=q3;obtain⟨t,rfl⟩:=r3;obtain⟨a,xs,rfl,hq,q⟩:=q1;cases r1;have I4:Inv X AE σ H3 { s3 with heap:=s3.heap.push { cls:=.type "slice",data:=.fields #[.none,.none,.int (-1) t] } }:=I3.kept  λb ob q=>Heap.get?_push_of_some _ q;obtain⟨z,its,n,r,e⟩:=hq.ok I4.Ae;have hl:=r.length;have X3:Heap.IsList (s3.heap.push { cls:=.type "slice",data:=.fields #[.none,.none,.int (-1) t] }) a its.toArray:=⟨_,e,rfl,n,rfl⟩;refine tail_any  X3.typeIs slot_list_getitem.lookup ?_ (by with_unfolding_all rfl);refine wpAny_getItem_list_slice    X3 (Heap.IsSliceOf.new ..) .none .none (.int _ _) AAB ?_ (by rw[AAR]<;>omega);rw[W.krv_pick];refine⟨.ref _,_,I4.laid   (λb ob q=>Heap.get?_push_of_some _ q) (AAS _) ?_,rfl,q _<|I4.Ae.fresh<|AAS _⟩;exact⟨by rw[ACj];exact z,_,0,r.reverse,Heap.get?_push_size _ rfl⟩
def Fd(f:EF):EF:=λρ=>match f ρ with|some x=>(match x.list with|some ps=>some (.fr ps.reverse)|none=>none)|none=>none
theorem rH{j p1 p2 p3}(he:PX X e f):PX X (.Subscript e (.Slice none none (some<|.UnaryOp .USub (.Constant (.int 1) j p1) p2) p3) pos)<|Fd f:=PE.imp (pT he) (by
 rintro σ H Q ⟨G,ρ,r,R,e,q⟩;unfold Fd at e;split at e
 .rename_i x ex;split at e
  .rename_i ps ep;cases e;refine⟨G,ρ,x,R,ex,λv G1 H1 s1 rv=>?_⟩;obtain⟨a,vs,rfl,hq,rl⟩:=rv.list s1.sub ep;refine⟨a,vs,rfl,hq,λp hp=>?_⟩;exact q (.ref p) _ _ (s1.trans<|A0.Gb s1.sub _ hp) ⟨p,_,rfl,s1.hh.free hp,s1.sub.free hp,C0,Ac.of<|ZY rl.paired⟩
  .cases e
 .cases e)
def LI(K:W.Frag)(n:Nat)(F:List PV->Option RV):Sp:=λvs H Q _=>vs.length=n/\∃G ps r,As G H/\Ac K G ps vs/\F ps=some r/\∀v G' H',A0 G H G' H'->Bt K H G' H' r v->Q v H'
def AU(F:List PV->Option RV)(g:AF):EF:=λρ=>match g ρ with|some rs=>(match CW rs with|some ps=>F ps|none=>none)|none=>none
structure Fn(X:Cx)(x:Str)(n:Nat)(F:List PV->Option RV):Prop where
 ex:∃k f fd ps,Co X.prog X.w X.K X.mg X.base Dv k f fd ps (LI X.K n F)/\B4 k X.A/\X.mg x=some (.ref f)/\W.keepIn X.K (.ref f)=true/\Binds X.K fd ps []/\ps.length=n
theorem qi{x:Str}{n:Nat}{F:List PV->Option RV}{p:Pos}(hF:Fn X x n F)(ha:Cb X (e::es) g)(hn:(e::es).length=n)(hg:Gl X x)(Ca:(x==("__debug__"))=false)(he:starEach (e::es) X.env=(false,eval e X.env)::starEach es X.env)(BM:(backTo pos<|starEach es X.env).any (·.1)=false) (MI:∀ρ rs,g ρ=some rs->rs.length=n):PX X (.Call (.Name x p) (e::es) [] pos)<|AU F g:=by
 obtain⟨k,f,fd,ps,G,hr,hm,hk,hb,zS⟩:=hF.ex;refine PE.imp (Zk G hr hg hm hk hb .nil o5 ha Ca he BM) λσ H Q ⟨G,ρ,r,R,e,q⟩=>?_;unfold AU at e;split at e
 .rename_i rs eg;split at e
  .rename_i qs eq;refine⟨G,ρ,rs,R,eg,λvs G1 H1 s1 rv=>⟨?_,D2 G1 H H1,qs,r,s1.all.sub,?_,e,λv G' H' s UB=>q v G' H' (s1.all.trans s)<|UB.back s1.hh⟩⟩
   .rw[AB7,<-MI ρ rs eg];exact(Paired.length rv).symm
   .rw[AB7];exact JN s1.sub rv eq
  .cases e
 .cases e
noncomputable def RV.any:RV->PV
 |.cl p=>p
 |.bo ps=>.lst ps
 |.fr ps=>.lst ps
 |.bd ks xs=>.Cv ks xs
 |.fd ks xs=>.Cv ks xs
 |.tf p ps=>.tup [p,.lst ps]
theorem Bt.any{K:W.Frag}{H G' H':Hp}{r:RV}{v:V}(sub:As G' H')(h:Bt K H G' H' r v):Rep K H' r.any v:=by
 cases r with
 |cl p=>exact Rep.same sub h
 |bo ps=>
  obtain⟨a,vs,e,g,q,r⟩:=h;exact⟨a,vs,e,.inl q,Ac.same sub r⟩
 |fr ps=>
  obtain⟨a,vs,e,n,g,q,r⟩:=h;exact⟨a,vs,e,.inl q,Ac.same sub r⟩
 |bd ks xs=>
  obtain⟨a,vs,e,g,q,k,r⟩:=h;exact⟨a,vs,e,.inl q,k,Ac.same sub r⟩
 |fd ks xs=>
  obtain⟨a,vs,e,n,g,q,k,r⟩:=h;exact⟨a,vs,e,.inl q,k,Ac.same sub r⟩
 |tf p ps=>
  obtain⟨a,l,x,vs,e,t,rx,n,g,q,r⟩:=h;refine⟨a,_,e,CB.same sub t,?_⟩;have z:Rep K H' (.lst ps)<|.ref l:=by
   exact⟨l,vs,rfl,.inl q,Ac.same sub r⟩
  exact⟨_,_,rfl,Rep.same sub rx,_,_,rfl,z,rfl⟩
theorem ie(ρ:AX)(rs:List RV)(h:AG ρ=some rs):rs.length=0:=by cases h;rfl
theorem N5{n:Nat}(h:∀ρ rs,g ρ=some rs->rs.length=n)(ρ:AX)(rs:List RV)(e:AD f g ρ=some rs):rs.length=n+1:=by
 unfold AD at e;split at e
 .rename_i x xs _ eb;cases e;rw[AAc,h ρ xs eb]
 .cases e
noncomputable def fB(k:List RV->Option RV)(g:AF):EF:=λρ=>match g ρ with|some rs=>k rs|none=>none
def E8(K:W.Frag)(k:List RV->Option RV)(r:List V->Hp->VK->Prop):Prop:=
 ∀(rs:List RV)(z:RV)(H0 G H:Hp)(vs:List V)(Q:VK),As G H->As H0 H->k rs=some z->DY K H0 G H rs vs->(∀v G' H',A0 G H G' H'->Bt K H0 G' H' z v->Q v H')->r vs H Q
theorem bF{K:W.Frag}{k:List RV->Option RV}{r:List V->Hp->VK->Prop}(hk:E8 K k r){σ:St}{H:Hp}{Q:VK}(h:tX K (fB k g) σ H Q):Uc r (Uk K g) σ H Q:=by
 obtain⟨G,ρ,z,R,e,q⟩:=h;unfold fB at e;split at e
 .rename_i rs eg;exact⟨G,ρ,rs,R,eg,λvs G1 H1 s1 rv=>hk rs z H G1 H1 vs Q s1.sub s1.hh e rv λv G' H' s rz=>q v G' H' (s1.trans s) rz⟩
 .cases e
theorem Ip{x:Str}{id:String}{k:List RV->Option RV}{r:List V->Hp->VK->Prop}{p:Pos}(hc:DT X (.builtin id) r)(hk:E8 X.K k r)(hm:X.mg x=none)(hv:bootBuiltins x=some (.builtin id))(ha:Cb X (e::es) g)(hg:Gl X x:=by rfl)(hn:x≠"__name__":=by decide)(Ca:(x==("__debug__"))=false:=by decide) (he:starEach (e::es) X.env=(false,eval e X.env)::starEach es X.env:=by rfl) (BM:(backTo pos<|starEach es X.env).any (·.1)=false:=by rfl):PX X (.Call (.Name x p) (e::es) [] pos)<|fB k g:=
 PE.imp (Pd hc hg hm hv ha hn Ca he BM) λ_ _ _ h=>bF hk h
theorem rN{x:Str}{T:String}{k:List RV->Option RV}{r:List V->Hp->VK->Prop}{p:Pos}(hc:DT X (.type T) r)(hk:E8 X.K k r)(hm:X.mg x=none)(hv:bootBuiltins x=some (.type T))(ha:Cb X (e::es) g)(hg:Gl X x)(hn:x≠"__name__")(Ca:(x==("__debug__"))=false) (he:starEach (e::es) X.env=(false,eval e X.env)::starEach es X.env) (BM:(backTo pos<|starEach es X.env).any (·.1)=false):PX X (.Call (.Name x p) (e::es) [] pos)<|fB k g:=
 PE.imp (Zl hc hg hm hv ha hn Ca he BM) λ_ _ _ h=>bF hk h
theorem DY.one{K:W.Frag}{H0 G H:Hp}{r:RV}{vs:List V}(h:DY K H0 G H [r] vs):∃v,vs=[v]/\Bt K H0 G H r v:=by
 cases h with
 |cons r t=>cases t;exact⟨_,rfl,r⟩
theorem DY.two{K:W.Frag}{H0 G H:Hp}{r r':RV}{vs:List V}(h:DY K H0 G H [r,r'] vs):∃v v',vs=[v,v']/\Bt K H0 G H r v/\Bt K H0 G H r' v':=by
 cases h with
 |cons r t=>
  cases t with
  |cons r' t=>cases t;exact⟨_,_,rfl,r,r'⟩
def Ah:List RV->Option RV
 |[r]=>r.seq.map λps=>.cl<|.int ps.length
 |_=>none
theorem oY:E8 X.K Ah (λxs H Q=>∃p ys,xs=[.ref p]/\(CO X.K H p ys\/CB X.K H p ys)/\Q (.int ys.length) H):=by
 intro rs z H0 G H vs Q sub sh e rv q;unfold Ah at e;split at e
 .rename_i r;cases es:r.seq with
  |none=>rw[es]at e;cases e
  |some ps=>
   rw[es]at e;cases e;obtain⟨v,rfl,hv⟩:=rv.one;obtain⟨a,us,rfl,hq,rl⟩:=hv.seq sub es;refine⟨a,us,rfl,hq,q _ G H (A0.refl sub) ?_⟩;show Rep _ _ _ _;unfold Rep;rw[rl.len]
 .cases e
theorem q8{p:Pos}(hm:X.mg "len" = none)(ha:Cb X (e::es) g)(hg:Gl X "len")(he:starEach (e::es) X.env=(false,eval e X.env)::starEach es X.env)(BM:(backTo pos<|starEach es X.env).any (·.1)=false):PX X (.Call (.Name "len" p) (e::es) [] pos)<|fB Ah g:=
 Ip fE oY hm PySem.boot_len ha hg AAC AAC he BM
noncomputable def C2:List RV->Option RV
 |[.cl<|.int i]=>some (.cl (.int (if i<0 then -i else i)))
 |_=>none
noncomputable def EG:List RV->Option RV
 |[.cl<|.int i,.cl<|.int j]=>some (.cl (.int (if j>i then j else i)))
 |_=>none
noncomputable def HY:List RV->Option RV
 |[.cl<|.int i,.cl<|.int j]=>some (.cl (.int (if j<i then j else i)))
 |_=>none
theorem oV:E8 X.K C2 (λxs H Q=>∃i,xs=[.int i]/\Q (.int (if i<0 then -i else i)) H):=by
 intro rs z H0 G H vs Q sub sh e rv q;unfold C2 at e;split at e
 .rename_i i;cases e;obtain⟨v,rfl,hv⟩:=rv.one;exact⟨i,by rw[hv.int],q _ G H (A0.refl sub)<|by rfl⟩
 .cases e
theorem oa:E8 X.K EG (λxs H Q=>∃i j,xs=[.int i,.int j]/\Q (.int (if j>i then j else i)) H):=by
 intro rs z H0 G H vs Q sub sh e rv q;unfold EG at e;split at e
 .rename_i i j;cases e;obtain⟨v,v',rfl,hv,Si⟩:=rv.two;exact⟨i,j,by rw[hv.int,Si.int],q _ G H (A0.refl sub)<|by rfl⟩
 .cases e
theorem og:E8 X.K HY (λxs H Q=>∃i j,xs=[.int i,.int j]/\Q (.int (if j<i then j else i)) H):=by
 intro rs z H0 G H vs Q sub sh e rv q;unfold HY at e;split at e
 .rename_i i j;cases e;obtain⟨v,v',rfl,hv,Si⟩:=rv.two;exact⟨i,j,by rw[hv.int,Si.int],q _ G H (A0.refl sub)<|by rfl⟩
 .cases e
def GX:List RV->Option RV
 |[r]=>r.seq.map .fr
 |_=>none
theorem oZ:E8 X.K GX (λxs H Q=>∃p ys,xs=[.ref p]/\(CO X.K H p ys\/CB X.K H p ys)/\∀l,H l=none->Q (.ref l) (upd H l<|.lst ys)):=by
 intro rs z H0 G H vs Q sub sh e rv q;unfold GX at e;split at e
 .rename_i r;cases es:r.seq with
  |none=>rw[es]at e;cases e
  |some ps=>
   rw[es]at e;cases e;obtain⟨v,rfl,hv⟩:=rv.one;obtain⟨a,us,rfl,hq,rl⟩:=hv.seq sub es;exact⟨a,us,rfl,hq,λl hl=>q _ _ _ (A0.Gb sub _ hl) ⟨l,us,rfl,sh.free hl,sub.free hl,C0,rl⟩⟩
 .cases e
noncomputable def EY:List PV->Option (List Int)
 |[]=>some []
 |.int i::r=>(EY r).map (i :: ·)
 |_=>none
noncomputable def FA:List PV->Option (List Bool)
 |[]=>some []
 |.bl i::r=>(FA r).map (i :: ·)
 |_=>none
theorem MV{K:W.Frag}{G:Hp}:∀{ps:List PV}{vs:List V}{ns:List Int},EY ps=some ns->Ac K G ps vs->vs=ns.map V.int
 |[],vs,ns,e,h=>by cases e;exact h
 |.int i::r,vs,ns,e,h=>by
  unfold EY at e;cases er:EY r with
  |none=>rw[er]at e;cases e
  |some ms=>
   rw[er]at e;cases e;obtain⟨v,us,rfl,hv,t⟩:=h;subst hv;rw[MV er t,AAT]
 |.A4::_,_,_,e,_=>by cases e
 |.bl _::_,_,_,e,_=>by cases e
 |.str _::_,_,_,e,_=>by cases e
 |.tup _::_,_,_,e,_=>by cases e
 |.lst _::_,_,_,e,_=>by cases e
 |.rd _::_,_,_,e,_=>by cases e
 |.Cv _ _::_,_,_,e,_=>by cases e
theorem Lp{K:W.Frag}{G:Hp}:∀{ps:List PV}{vs:List V}{ns:List Bool},FA ps=some ns->Ac K G ps vs->vs=ns.map V.bl
 |[],vs,ns,e,h=>by cases e;exact h
 |.bl i::r,vs,ns,e,h=>by
  unfold FA at e;cases er:FA r with
  |none=>rw[er]at e;cases e
  |some ms=>
   rw[er]at e;cases e;obtain⟨v,us,rfl,hv,t⟩:=h;subst hv;rw[Lp er t,AAT]
 |.A4::_,_,_,e,_=>by cases e
 |.int _::_,_,_,e,_=>by cases e
 |.str _::_,_,_,e,_=>by cases e
 |.tup _::_,_,_,e,_=>by cases e
 |.lst _::_,_,_,e,_=>by cases e
 |.rd _::_,_,_,e,_=>by cases e
 |.Cv _ _::_,_,_,e,_=>by cases e
theorem Q7:∀{bs:List Bool}{us:List Value},An (bs.map V.bl) us->LSm.BoolsAre us bs
 |[],us,r=>by cases r;exact .nil
 |b::bs,us,r=>by
  cases r with
  |cons r1 r2=>cases r1;exact .cons b<|Q7 r2
theorem fL(hc:X.calm=true):DT X (.builtin "sum") (λxs H Q=>∃(p:Addr)(ns:List Int),xs=[.ref p]/\Rd H p (.lst<|ns.map V.int)/\Q (.int ns.sum) H):=by
 intro AE s σ H xs us Q I r h;obtain⟨p,ns,rfl,hq,q⟩:=h;obtain⟨u,rfl,rx⟩:=vals1 r;cases rx;obtain⟨z,its,n,rv,e⟩:=hq.ok I.Ae;have hi:=intsAre_of rv;obtain⟨xs,hx⟩:=hi.allInts.items;have hl:s.heap.IsList p its.toArray:=⟨_,e,rfl,n,rfl⟩;have Ic:=hx ▸ hl;refine sum_intListG (I.ok.hd hc) Ic λh' tk t' hk=>?_;have e1:ns=xs.toList.map (·.1):=by
  rw[<-nums_intItems,<-hx];exact(show numsOf its.toArray.toList=ns from hi.numsOf).symm
 have e2:preSum (numAt xs) xs.size=ns.sum:=by
  rw[preSum_eq,AC1 AAB,e1]
 rw[e2];exact⟨.int ns.sum,H,I.kept hk,⟨_,rfl⟩,q⟩
theorem eZ(hc:X.calm=true):DT X (.builtin "all") (λxs H Q=>∃(p:Addr)(bs:List Bool),xs=[.ref p]/\Rd H p (.lst<|bs.map V.bl)/\Q (.bl<|bs.all id) H):=by
 intro AE s σ H xs us Q I r h;obtain⟨p,bs,rfl,hq,q⟩:=h;obtain⟨u,rfl,rx⟩:=vals1 r;cases rx;obtain⟨z,its,n,rv,e⟩:=hq.ok I.Ae;have hb:=Q7 rv;have hl:s.heap.IsList p its.toArray:=⟨_,e,rfl,n,rfl⟩;have BH:=Heap.lt_size e;refine call_all_walk<|wpAny_pyIter_list hl ?_;refine⟨s.heap.objs.size,[s.heap.objs.size,p],[s.heap.objs.size],its.toArray.size,_,_,λi=>(bs[i]?).getD true,rfl,Walks.list (A:=X.A.in1) (I.ok.hd hc) _ p (AAZ BH) its.toArray,
  ⟨⟨_,Heap.get?_push_size _ rfl,rfl,rfl⟩,hl.push _⟩,λi v s' Q' E' hP hQ=>?_,λh' tk hk=>?_⟩
 .obtain⟨b,e,rfl⟩:=hb.get i v (by simpa using hP);simp only[e]at hQ;exact wpAny_truthy_bool hQ
 .have e:((List.range its.toArray.size).all λi=>(bs[i]?).getD true)=bs.all id:=by
   rw[AAR,hb.length];exact LSm.range_all bs
  rw[e];exact⟨.bl<|bs.all id,H,I.kept<|LSm.kept_iter hk,rfl,q⟩
theorem ee(hc:X.calm=true):DT X (.builtin "any") (λxs H Q=>∃(p:Addr)(bs:List Bool),xs=[.ref p]/\Rd H p (.lst<|bs.map V.bl)/\Q (.bl<|bs.any id) H):=by
 intro AE s σ H xs us Q I r h;obtain⟨p,bs,rfl,hq,q⟩:=h;obtain⟨u,rfl,rx⟩:=vals1 r;cases rx;obtain⟨z,its,n,rv,e⟩:=hq.ok I.Ae;have hb:=Q7 rv;have hl:s.heap.IsList p its.toArray:=⟨_,e,rfl,n,rfl⟩;have BH:=Heap.lt_size e;refine call_any_walk<|wpAny_pyIter_list hl ?_;refine⟨s.heap.objs.size,[s.heap.objs.size,p],[s.heap.objs.size],its.toArray.size,_,_,λi=>(bs[i]?).getD false,rfl,Walks.list (A:=X.A.in1) (I.ok.hd hc) _ p (AAZ BH) its.toArray,
  ⟨⟨_,Heap.get?_push_size _ rfl,rfl,rfl⟩,hl.push _⟩,λi v s' Q' E' hP hQ=>?_,λh' tk hk=>?_⟩
 .obtain⟨b,e,rfl⟩:=hb.get i v (by simpa using hP);simp only[e]at hQ;exact wpAny_truthy_bool hQ
 .have e:((List.range its.toArray.size).any λi=>(bs[i]?).getD false)=bs.any id:=by
   rw[AAR,hb.length];exact LSm.range_any bs
  rw[e];exact⟨.bl<|bs.any id,H,I.kept<|LSm.kept_iter hk,rfl,q⟩
def Mc:List RV->Option RV
 |[r]=>(r.list.bind EY).map λns=>.cl<|.int ns.sum
 |_=>none
def Es:List RV->Option RV
 |[r]=>(r.list.bind FA).map λns=>.cl<|.bl<|ns.all id
 |_=>none
def Ii:List RV->Option RV
 |[r]=>(r.list.bind FA).map λns=>.cl<|.bl<|ns.any id
 |_=>none
theorem om:E8 X.K Mc (λxs H Q=>∃(p:Addr)(ns:List Int),xs=[.ref p]/\Rd H p (.lst<|ns.map V.int)/\Q (.int ns.sum) H):=by
 intro rs z H0 G H vs Q sub sh e rv q;unfold Mc at e;split at e
 .rename_i r;cases es:r.list with
  |none=>rw[es]at e;cases e
  |some ps=>
   rw[es]at e;cases ei:EY ps with
   |none=>rw[AAl,ei]at e;cases e
   |some ns=>
    rw[AAl,ei]at e;cases e;obtain⟨v,rfl,hv⟩:=rv.one;obtain⟨a,us,rfl,hq,rl⟩:=hv.list sub es;rw[MV ei rl]at hq;exact⟨a,ns,rfl,hq,q _ G H (A0.refl sub)<|by rfl⟩
 .cases e
theorem oW:E8 X.K Es (λxs H Q=>∃(p:Addr)(ns:List Bool),xs=[.ref p]/\Rd H p (.lst<|ns.map V.bl)/\Q (.bl<|ns.all id) H):=by
 intro rs z H0 G H vs Q sub sh e rv q;unfold Es at e;split at e
 .rename_i r;cases es:r.list with
  |none=>rw[es]at e;cases e
  |some ps=>
   rw[es]at e;cases ei:FA ps with
   |none=>rw[AAl,ei]at e;cases e
   |some ns=>
    rw[AAl,ei]at e;cases e;obtain⟨v,rfl,hv⟩:=rv.one;obtain⟨a,us,rfl,hq,rl⟩:=hv.list sub es;rw[Lp ei rl]at hq;exact⟨a,ns,rfl,hq,q _ G H (A0.refl sub)<|by rfl⟩
 .cases e
theorem oX:E8 X.K Ii (λxs H Q=>∃(p:Addr)(ns:List Bool),xs=[.ref p]/\Rd H p (.lst<|ns.map V.bl)/\Q (.bl<|ns.any id) H):=by
 intro rs z H0 G H vs Q sub sh e rv q;unfold Ii at e;split at e
 .rename_i r;cases es:r.list with
  |none=>rw[es]at e;cases e
  |some ps=>
   rw[es]at e;cases ei:FA ps with
   |none=>rw[AAl,ei]at e;cases e
   |some ns=>
    rw[AAl,ei]at e;cases e;obtain⟨v,rfl,hv⟩:=rv.one;obtain⟨a,us,rfl,hq,rl⟩:=hv.list sub es;rw[Lp ei rl]at hq;exact⟨a,ns,rfl,hq,q _ G H (A0.refl sub)<|by rfl⟩
 .cases e
end
def DW(ρ:AX)(σ:St)(ρ':AX)(AY:St):Prop:=∀(i:Nat)(s:SV),s.EZ=true->ρ'[i]? = some (some s)->ρ[i]? = some (some s)/\AY[i]? = σ[i]?
theorem DW.refl(ρ:AX)(σ:St):DW ρ σ ρ σ:=λ_ _ _ h=>⟨h,rfl⟩
theorem DW.trans{ρ A5 BZ:AX}{σ Du C6:St}(a:DW ρ σ A5 Du)(b:DW A5 Du BZ C6):DW ρ σ BZ C6:=λi ps o h=>by
 obtain⟨h1,e1⟩:=b i ps o h;obtain⟨h2,e2⟩:=a i ps o h1;exact⟨h2,e1.trans e2⟩
abbrev GF:=PV->AX->Option AX
def P6(K:W.Frag)(g:GF):TG:=λv σ H Q=>∃G ρ p ρ',B3 K G H ρ σ/\Rep K G p v/\g p ρ=some ρ'/\∀AY,B3 K G H ρ' AY->DW ρ σ ρ' AY->Q AY H
def GC(X:Cx)(tg:Expr)(g:GF):Prop:=PG X tg<|P6 X.K g
abbrev Hs:=List PV->AX->Option AX
def v9(K:W.Frag)(g:Hs):Gy:=λvs σ H Q=>∃G ρ ps ρ',B3 K G H ρ σ/\Ac K G ps vs/\g ps ρ=some ρ'/\∀AY,B3 K G H ρ' AY->DW ρ σ ρ' AY->Q AY H
def KI(X:Cx)(ts:List Expr)(g:Hs):Prop:=GA X ts<|v9 X.K g
theorem PG.imp{X:Cx}{e:Expr}{t t':TG}(h:PG X e t)(i:∀v σ H Q,t' v σ H Q->t v σ H Q):PG X e t':=λAE s σ H v u Q I r q=>h AE s σ H v u Q I r<|i v σ H Q q
theorem GA.imp{X:Cx}{e:List Expr}{t t':Gy}(h:GA X e t)(i:∀v σ H Q,t' v σ H Q->t v σ H Q):GA X e t':=λAE s σ H v u Q I r q=>h AE s σ H v u Q I r<|i v σ H Q q
theorem get_set{α:Type}{l:List (Option α)}{i j:Nat}{x y:α}(h:(l.set i<|some x)[j]? = some (some y)):(j=i/\x=y)\/(j≠i/\l[j]? = some (some y)):=by
 by_cases e:j=i
 .subst e;by_cases hl:j<l.length
  .rw[ABr hl]at h;left;exact⟨rfl,by simpa using h⟩
  .rw[List.set_eq_of_length_le J]at h;rw[List.getElem?_eq_none J]at h;cases h
 .right;rw[AAg<|AA3 e]at h;exact⟨e,h⟩
theorem set_slot{α:Type}{l:List (Option α)}{i:Nat}{x:α}(h:i<l.length):(l.set i<|some x)[i]? = some (some x):=by rw[ABr h]
theorem Y3{α:Type}{l:List (Option α)}{i:Nat}{x y:α}(h:(l.set i<|some x)[i]? = some (some y)):i<l.length:=by
 have:=(AAL.mp h).1;simpa using this
theorem B3.Fz{K:W.Frag}{G H:Hp}{ρ:AX}{σ:St}{i:Nat}{p:PV}{v:V}(R:B3 K G H ρ σ)(h:Rep K G p v):B3 K G H (ρ.set i<|some<|.im p)<|σ.set i<|some v:=by
 refine⟨R.sub,λj sv e=>?_,λj k ps qs a b Aq e1 o1 e2 o2 e3 e4=>?_,by simpa using R.len⟩
 .rcases get_set e with⟨rfl,rfl⟩|⟨hj,e'⟩
  .have hl:=Y3 e;exact⟨v,set_slot (by rw[<-R.len];exact hl),h⟩
  .obtain⟨w,e1,q⟩:=R.slot j sv e';exact⟨w,by rw[AAg<|AA3 hj];exact e1,q⟩
 .rcases get_set e1 with⟨_,z⟩|⟨h1,e1⟩
  .subst z;cases o1
  .rcases get_set e2 with⟨_,z⟩|⟨h2,e2⟩
   .subst z;cases o2
   .rw[AAg<|AA3 h1]at e3;rw[AAg<|AA3 h2]at e4;exact R.apart j k ps qs a b Aq e1 o1 e2 o2 e3 e4
theorem DW.Fz{ρ:AX}{σ:St}{i:Nat}{p:PV}{v:V}:DW ρ σ (ρ.set i<|some<|.im p)<|σ.set i<|some v:=λj ps o h=>by
 rcases get_set h with⟨_,z⟩|⟨hj,e⟩
 .subst z;cases o
 .exact⟨e,by rw[AAg<|AA3 hj]⟩
noncomputable def Ag(i:Nat):GF:=λp ρ=>some<|ρ.set i<|some<|.im p
section
variable{X:Cx}{a b c e tg iter:Expr}{es:List Expr}{fa fb fc f:EF}{ga:AF}{g:GF}{gs:Hs}{pos:Pos}
theorem rP(i:Nat){x:Str}(hN:X.N.Nodup)(hi:X.N[i]? = some x)(hx:Loc X.env.scope x)(hf:X.fn x=true\/X.env.scope.names.lookup x=some .local):GC X (.Name x pos)<|Ag i:=
 PG.imp (pW  hN hi hx hf) (by
  rintro v σ H Q ⟨G,ρ,p,ρ',R,rp,e,q⟩;cases e;exact q _ (R.Fz rp) DW.Fz)
noncomputable def Cn:Hs:=λps ρ=>match ps with|[]=>some ρ|_=>none
noncomputable def BO(g:GF)(h:Hs):Hs:=λps ρ=>match ps with|p::r=>(match g p ρ with|some A5=>h r A5|none=>none)|[]=>none
theorem rS:KI X [] Cn:=GA.imp pd (by
 rintro v σ H Q ⟨G,ρ,ps,ρ',R,rp,e,q⟩;unfold Cn at e;split at e
 .cases e;exact⟨rp,q σ R<|DW.refl _ _⟩
 .cases e)
theorem rR(h1:GC X e g)(h2:KI X es gs)(hs:(assignEach (e::es) X.env).map (·.2)=assign e X.env::(assignEach es X.env).map (·.2)):KI X (e::es)<|BO g gs:=GA.imp (pZ h1 h2 hs) (by
 rintro v σ H Q ⟨G,ρ,ps,ρ',R,rp,e,q⟩;unfold BO at e;split at e
 .rename_i p r;split at e
  .rename_i A5 e1;obtain⟨u,us,rfl,ru,rs⟩:=rp;exact⟨u,us,rfl,G,ρ,p,A5,R,ru,e1,λDu R1 k1=>⟨G,A5,r,ρ',R1,rs,e,λC6 R2 k2=>q C6 R2<|k1.trans k2⟩⟩
  .cases e
 .cases e)
noncomputable def Cd(n:Nat)(gs:Hs):GF:=λp ρ=>match p with|.tup ps=>if ps.length=n then gs ps ρ else none|_=>none
theorem rQ{k:Nat}{n:Nat}(hc:X.calm=true)(h:KI X es gs)(hn:(assignEach es X.env).length=n)(Fo:(assignEach es X.env).findIdx? (·.1)=none):GC X (.Tuple es k pos)<|Cd n gs:=
 PG.imp (pY hc h hn Fo) (by
  rintro v σ H Q ⟨G,ρ,p,ρ',R,rp,e,q⟩;unfold Cd at e;split at e
  .rename_i ps;split at e
   .rename_i hl;obtain⟨a,vs,rfl,hq,rl⟩:=rp;exact⟨a,vs,rfl,CB.same R.sub hq,by rw[<-rl.len];exact hl,G,ρ,ps,ρ',R,rl,e,q⟩
   .cases e
  .cases e)
structure Qh(z7:It)(K:W.Frag)(G Hx:Hp)(ps:List PV):Prop where
 ex:∃vs,Ac K G ps vs/\∀H,As Hx H->(∀(i:Nat)(x:V),vs[i]? = some x->z7.go i H/\∀y H',z7.QH i H y H'->H'=H/\y=x)/\z7.stop vs.length H
abbrev IF:=AX->Option (List PV)
def bG(K:W.Frag)(cl:Bool)(f:IF):TI:=λσ H R=>∃G ρ ps,B3 K G H ρ σ/\f ρ=some ps/\∀z7 G' H',A0 G H G' H'->Qh z7 K G' (if cl=true then G' else H') ps->R z7 H'
def Hv(X:Cx)(cl:Bool)(tg iter:Expr)(f:IF):Prop:=PI X tg iter<|bG X.K cl f
theorem PI.imp{X:Cx}{tg iter:Expr}{t t':TI}(h:PI X tg iter t)(i:∀σ H Q,t' σ H Q->t σ H Q):PI X tg iter t':=λAE s σ H Q I q=>h AE s σ H Q I<|i σ H Q q
theorem Yc{K:W.Frag}{G Hx:Hp}{ps:List PV}{vs:List V}{a:Addr}(h:Ac K G ps vs)(hq:Rd Hx a<|.lst vs):Qh (Qi K a) K G Hx ps:=by
 refine⟨vs,h,λH s=>⟨λi x e=>⟨⟨vs,x,.inl<|Rd.same s hq,e⟩,λy H' ⟨e1,e2⟩=>⟨e1,?_⟩⟩,⟨vs,.inl<|Rd.same s hq,AAS _⟩⟩⟩;have:=e2 vs<|.inl<|Rd.same s hq;rw[e]at this;exact(AAo this).symm
def Be(cl:Bool)(f:EF):IF:=λρ=>match f ρ with|some r=>(if cl=true then(match r.clean with|some (.lst ps)=>some ps|_=>none)else r.list)|none=>none
theorem rT{cl:Bool}(h:PX X iter f):Hv X cl tg iter<|Be cl f:=PI.imp (pe h) (by
 rintro σ H Q ⟨G,ρ,ps,R,e,q⟩;unfold Be at e;split at e
 .rename_i r er;refine⟨G,ρ,r,R,er,λv G' H' s rv=>?_⟩;cases cl with
  |true=>
   rw[AAH rfl]at e;split at e
   .rename_i qs ec;cases e;have rc:=rv.clean s.sub ec;obtain⟨a,vs,rfl,hq,rl⟩:=rc;exact⟨a,rfl,⟨vs,.inl<|Rd.same s.all.sub hq⟩,q _ _ _ s.all<|Yc rl hq⟩
   .cases e
  |false=>
   obtain⟨a,vs,rfl,hq,rl⟩:=rv.list s.sub e;exact⟨a,rfl,⟨vs,.inl hq⟩,q _ _ _ s<|Yc rl hq⟩
 .cases e)
noncomputable def LF(i j:Int):List PV:=(List.range (j-i).toNat).map λ(k:Nat)=>.int<|i+(k:Int)
theorem Yd{K:W.Frag}{G Hx:Hp}{i:Int}{n:Nat}:Qh (Lf i n) K G Hx<|(List.range n).map λ(k:Nat)=>.int<|i+(k):=by
 refine⟨(List.range n).map λ(k:Nat)=>.int<|i+(k),?_,λH _=>⟨λk x e=>?_,by show n<=_;simp⟩⟩
 .have key:∀l:List Nat,Ac K G (l.map λk=>PV.int<|i+(k:Nat))<|l.map λk=>V.int<|i+(k:Nat):=by
   intro l
   induction l with
   |nil=>rfl
   |cons x r ih=>
    exact⟨_,_,rfl,by rfl,ih⟩
  exact key _
 .rw[ABK]at e;cases e2:(List.range n)[k]? with
  |none=>rw[e2]at e;cases e
  |some m=>
   rw[e2]at e;obtain⟨h1,h2⟩:=AAL.mp e2;rw[List.getElem_range]at h2;subst h2;cases e;exact⟨(show k<n by simpa using h1),(by rintro y H' ⟨e1,e2⟩;exact⟨e1,e2⟩)⟩
def Hl(i:Int):Prop:=-(2 ^ 62)<=i/\i<2 ^ 62
instance{i:Int}:Decidable<|Hl i:=by unfold Hl;infer_instance
def Bm(g:AF):IF:=λρ=>match g ρ with|some [.cl<|.int j]=>if Hl j then some (LF 0 j)else none|_=>none
def ET(g:AF):IF:=λρ=>match g ρ with|some [.cl<|.int i,.cl<|.int j]=>if Hl i/\Hl j then some (LF i j)else none|_=>none
theorem rV{cl:Bool}{p:Pos}(hm:X.mg "range" = none)(ha:Cb X [a] ga)(hg:Gl X "range")(hs:starEach [a] X.env=[(false,eval a X.env)]):Hv X cl tg (.Call (.Name "range" p) [a] [] pos)<|Bm ga:=PI.imp (pf hg hm ha hs) (by
 rintro σ H Q ⟨G,ρ,ps,R,e,q⟩;unfold Bm at e;split at e
 .rename_i j er;split at e
  .rename_i hj;cases e;refine⟨G,ρ,_,R,er,λv G' H' s rv=>?_⟩;obtain⟨w,rfl,hw⟩:=rv.one;refine⟨j,by rw[hw.int],hj.1,hj.2,q _ _ _ s ?_⟩;have:=Yd (K:=X.K) (G:=G') (Hx:=if cl=true then G' else H') (i:=0) (n:=j.toNat);simpa[LF]using this
  .cases e
 .cases e)
theorem rW{cl:Bool}{p:Pos}(hm:X.mg "range" = none)(ha:Cb X [a,b] ga)(hg:Gl X "range")(hs:starEach [a,b] X.env=[(false,eval a X.env),(false,eval b X.env)])(Oh:starEach [b] X.env=[(false,eval b X.env)]):Hv X cl tg (.Call (.Name "range" p) [a,b] [] pos)<|ET ga:=PI.imp (ph hg hm ha hs Oh) (by
 rintro σ H Q ⟨G,ρ,ps,R,e,q⟩;unfold ET at e;split at e
 .rename_i i j er;split at e
  .rename_i hj;cases e;refine⟨G,ρ,_,R,er,λv G' H' s rv=>?_⟩;obtain⟨w,w',rfl,hw,lM⟩:=rv.two;refine⟨i,j,by rw[hw.int,lM.int],⟨hj.1.1,hj.1.2,hj.2.1,hj.2.2⟩,q _ _ _ s ?_⟩;exact Yd
  .cases e
 .cases e)
noncomputable def By(own:Nat)(cap:List Nat)(ρ:AX):AX:=List.replicate own none++cap.map λj=>(ρ[j]?).join
def collect(g:GF)(t:BF)(fe:EF)(Hk:AX):List PV->Option (List PV)
 |[]=>some []
 |x::xs=>match g x Hk with
  |none=>none
  |some A5=>match t A5 with
   |none=>none
   |some false=>collect g t fe Hk xs
   |some true=>match fe A5 with
    |none=>none
    |some r=>match r.clean,collect g t fe Hk xs with
     |some p,some ps=>some (p::ps)
     |_,_=>none
def BS(its:IF)(own:Nat)(cap:List Nat)(g:GF)(t:BF)(fe:EF):EF:=λρ=>match its ρ with
 |none=>none
 |some xs=>if xs.length<=1000 then(collect g t fe (By own cap ρ) xs).map .fr else none
theorem B3.cap{K:W.Frag}{G H:Hp}{ρ:AX}{σ:St}(R:B3 K G H ρ σ)(own:Nat)(cap:List Nat)(Fl:cap.Nodup):B3 K G H (By own cap ρ)<|FX own cap σ:=by
 have get:∀{i:Nat}{sv:SV},(By own cap ρ)[i]? = some (some sv)->∃k j,i=own+k/\cap[k]? = some j/\ρ[j]? = some (some sv):=by
  intro i sv h;unfold By at h;by_cases hi:i<own
  .rw[AAq (by simpa using hi),ABA]at h;split at h<;>simp at h
  .rw[AAs (by simpa using hi),ABK]at h;simp only[ABk]at h;cases hj:cap[i-own]? with
   |none=>rw[hj]at h;simp at h
   |some j=>
    rw[hj]at h;simp only[AA5,AAx]at h;refine⟨i-own,j,J,hj,?_⟩;cases hs:ρ[j]? with
    |none=>rw[hs]at h;simp at h
    |some o=>rw[hs]at h;simp at h;rw[h]
 have put:∀{k j:Nat}{v:V},cap[k]? = some j->σ[j]? = some (some v)->(FX own cap σ)[own+k]? = some (some v):=by
  intro k j v h1 h2;unfold FX;rw[AAs AAB,ABK];simp only[ABk,Nat.add_sub_cancel_left,h1,AA5,h2]
  rfl
 refine⟨R.sub,λi sv e=>?_,λi j ps qs a b Aq e1 o1 e2 o2 e3 e4=>?_,by simp[By,FX]⟩
 .obtain⟨k,j,rfl,hj,e'⟩:=get e;obtain⟨v,ev,q⟩:=R.slot j sv e';exact⟨v,put hj ev,q⟩
 .obtain⟨k1,j1,rfl,Xw,Lx⟩:=get e1;obtain⟨k2,j2,rfl,Xx,N0⟩:=get e2;obtain⟨v1,W2,_⟩:=R.slot j1 _ Lx;obtain⟨v2,IG,_⟩:=R.slot j2 _ N0;rw[put Xw W2]at e3;rw[put Xx IG]at e4;cases e3;cases e4;refine R.apart j1 j2 ps qs a b (λz=>Aq ?_) Lx o1 N0 o2 W2 IG;subst z;obtain⟨l1,q1⟩:=AAL.mp Xw;obtain⟨l2,q2⟩:=AAL.mp Xx;have:=(AC5 Fl).mp<|q1.trans q2.symm;lia
theorem B3.To{K:W.Frag}{G H:Hp}{ρ:AX}{σ:St}(R:B3 K G H ρ σ):∀(j:Nat)(s:SV)(b:Addr),s.EZ=true->ρ[j]? = some (some s)->σ[j]? = some (some<|.ref b)->H b≠none:=λj s b o e1 e2 z=>by
 obtain⟨v,ev,q⟩:=R.slot j _ e1;rw[ev]at e2;cases e2;cases s with
 |im p=>cases o
 |exc nm=>cases o
 |own ps=>
  obtain⟨a,vs,h,_,ha,_⟩:=q;cases h;rw[z]at ha;cases ha
 |Dq t ks xs=>
  obtain⟨a,vs,h,_,ha,_⟩:=q;cases h;rw[z]at ha;cases ha
theorem B3.weak{K:W.Frag}{G H:Hp}{ρ ρ':AX}{σ:St}(R:B3 K G H ρ' σ)(h:∀(k:Nat)(sv:SV),ρ[k]? = some (some sv)->ρ'[k]? = some (some sv))(hl:ρ.length=ρ'.length):B3 K G H ρ σ:=
 ⟨R.sub,λi sv e=>R.slot i sv<|h i sv e,λi j ps qs a b Aq e1 o1 e2 o2 e3 e4=>R.apart i j ps qs a b Aq (h _ _ e1) o1 (h _ _ e2) o2 e3 e4,hl.trans R.len⟩
theorem B3.Us{K:W.Frag}{G H:Hp}{ρ:AX}{σ:St}{D:Addr}{o:HO}(R:B3 K G H ρ σ)(g:G D=none)(h:∀(k:Nat)(s:SV),s.EZ=true->ρ[k]? = some (some s)->σ[k]?≠some (some<|.ref D)):B3 K G (upd H D o) ρ σ:=by
 refine⟨λb u q=>by rw[BK<|DN q g];exact R.sub _ _ q,λi sv e=>?_,R.apart,R.len⟩;obtain⟨v,e1,q⟩:=R.slot i sv e;refine⟨v,e1,?_⟩;cases sv with
 |exc nm=>exact q
 |im p=>exact q
 |own ps=>
  obtain⟨a,vs,rfl,ga,ha,r⟩:=q;refine⟨a,vs,rfl,ga,?_,r⟩;rw[BK λz=>h i _ rfl e<|by rw[e1,z]];exact ha
 |Dq t ks xs=>
  obtain⟨a,vs,rfl,ga,ha,r⟩:=q;refine⟨a,vs,rfl,ga,?_,r⟩;rw[BK λz=>h i _ rfl e<|by rw[e1,z]];exact ha
theorem A0.Us{G H G' H':Hp}{D:Addr}{o:HO}(s:A0 G H G' H')(h:H D=none)(g:G' D=none):A0 G H G'<|upd H' D o:=
 ⟨s.gg,λb u q=>by rw[BK<|DN q h];exact s.hh _ _ q,λb u q=>by rw[BK<|DN q g];exact s.sub _ _ q,s.ex⟩
def JH(own:Nat)(g:GF):Prop:=∀p ρ ρ',g p ρ=some ρ'->ρ'.length=ρ.length/\∀(k:Nat),own<=k->ρ'[k]? = ρ[k]?
def Lc(own:Nat)(g:Hs):Prop:=∀p ρ ρ',g p ρ=some ρ'->ρ'.length=ρ.length/\∀(k:Nat),own<=k->ρ'[k]? = ρ[k]?
theorem jM{own i:Nat}(h:i<own):JH own<|Ag i:=λp ρ ρ' e=>by
 cases e;exact⟨ACS,λk hk=>AAg J⟩
theorem jP{own:Nat}:Lc own Cn:=λp ρ ρ' e=>by
 unfold Cn at e;split at e
 .cases e;exact⟨rfl,λ_ _=>rfl⟩
 .cases e
theorem jO{own:Nat}(h1:JH own g)(h2:Lc own gs):Lc own<|BO g gs:=λp ρ ρ' e=>by
 unfold BO at e;split at e
 .split at e
  .rename_i A5 e1;obtain⟨a1,a2⟩:=h1 _ _ _ e1;obtain⟨b1,b2⟩:=h2 _ _ _ e;exact⟨b1.trans a1,λk hk=>(b2 k hk).trans<|a2 k hk⟩
  .cases e
 .cases e
theorem jN{own n:Nat}(h:Lc own gs):JH own<|Cd n gs:=λp ρ ρ' e=>by
 unfold Cd at e;split at e
 .split at e
  .exact h _ _ _ e
  .cases e
 .cases e
theorem fN{own:Nat}{cap:List Nat}{ρ:AX}{k:Nat}{sv:SV}(h:(By own cap ρ)[k]? = some (some sv)):own<=k:=by
 unfold By at h;by_cases hi:k<own
 .rw[AAq (by simpa using hi),ABA]at h;split at h<;>simp at h
 .lia
theorem bJ{K:W.Frag}{own:Nat}{cap:List Nat}{its:IF}{t:BF}{fe:EF}(Fl:cap.Nodup)(hk:JH own g){σ:St}{H:Hp}{Q:VK}(h:tX K (BS its own cap g t fe) σ H Q):Ug own cap (bG K false its) (P6 K g) (E3 K t) (tX K fe) σ H Q:=by
 obtain⟨G,ρ,r,R,e,q⟩:=h;unfold BS at e;split at e
 .cases e
 .rename_i xs ex;split at e
  .cases ec:collect g t fe (By own cap ρ) xs with
   |none=>rw[ec]at e;cases e
   |some zs=>
    rw[ec]at e;cases e;refine⟨G,ρ,xs,R,ex,λz7 G1 H1 s1 J1=>λD hD=>?_⟩;obtain⟨vs,rl,hJ⟩:=J1.ex;have Bj:=rl.len;have R1:=(R.step s1).cap own cap Fl;refine⟨λi m AY H'=>m=xs.length-i/\i<=xs.length/\∃G' ys ps A7,A0 G1 H1 G' H'/\G' D=none/\H' D=some (.lst ys)/\Ac K G' ps ys/\ps.length<=i/\collect g t fe (By own cap ρ) (xs.drop i)=some A7/\ps++A7=zs/\
     B3 K G' H' (By own cap ρ) AY/\(∀(k:Nat)(s:SV),s.EZ=true->(By own cap ρ)[k]? = some (some s)->AY[k]?≠some (some<|.ref D)),⟨xs.length,AAB,ABs _,G1,[],[],zs,A0.Gb s1.sub _ hD,s1.sub.free hD,C0,by rfl,AAS _,by exact ec,rfl,?_,?_⟩,?_⟩
    .exact R1.step<|A0.Gb s1.sub _ hD
    .intro k s ho Bi z;exact R1.To k s D ho Bi z hD
    .rintro i m AY H' ⟨rfl,hi,G',ys,ps,A7,st,gD,L9,rp,BM,EW,ON,RO,hold⟩;obtain⟨Rz,Sd⟩:=hJ H' st.hh;by_cases BH:i<xs.length
     .right;have MS:vs[i]? = some vs[i]:=AAV J;obtain⟨go,yl⟩:=Rz i _ MS;have Sk:=AAV BH;have SX:Rep K G' xs[i] vs[i]:=by
       obtain⟨u,eu,ru⟩:=Js rl.paired Sk;rw[MS]at eu;cases eu;exact Rep.same st.gg ru
      have MD:=ACl BH;rw[MD]at EW;unfold collect at EW;split at EW
      .cases EW
      .rename_i A5 e1;obtain⟨kl,kk⟩:=hk _ _ _ e1;have hw:∀(k:Nat)(sv:SV),(By own cap ρ)[k]? = some (some sv)->A5[k]? = some (some sv):=λk sv h=>by rw[kk k<|fN h];exact h
       refine⟨go,λDS Cp=>∃F8 cM Cs Pk,A0 G1 H1 F8 Cp/\F8 D=none/\Cp D=some (.lst cM)/\Ac K F8 Cs cM/\Cs.length<=i+1/\collect g t fe (By own cap ρ) (xs.drop<|i+1)=some Pk/\Cs++Pk=zs/\
        B3 K F8 Cp (By own cap ρ) DS/\(∀(k:Nat)(s:SV),s.EZ=true->(By own cap ρ)[k]? = some (some s)->DS[k]?≠some (some<|.ref D)),λDS Cp hN=>⟨xs.length-(i+1),J,rfl,J,hN⟩,λy H3 hy=>?_⟩
       obtain⟨rfl,rfl⟩:=yl y H3 hy;refine⟨G',By own cap ρ,xs[i],A5,RO,SX,e1,λDu Lj nr=>?_⟩;have SM:∀(k:Nat)(s:SV),s.EZ=true->(By own cap ρ)[k]? = some (some s)->Du[k]?≠some (some<|.ref D):=λk qs o h z=>by
        obtain⟨h1,h2⟩:=nr k qs o<|hw k _ h;rw[h2]at z;exact hold k qs o h z
       split at EW
       .cases EW
       .rename_i et;refine⟨G',A5,false,Lj,et,λG2 H2 s2=>?_⟩;exact⟨G2,ys,ps,A7,st.trans s2,s2.ex D (.l L9) gD,s2.hh _ _ L9,Ac.same s2.gg rp,J,EW,ON,(Lj.step s2).weak hw kl.symm,SM⟩
       .rename_i et;refine⟨G',A5,true,Lj,et,λG2 H2 s2=>?_⟩;refine YZ ?_;split at EW
        .cases EW
        .rename_i rr er;split at EW
         .rename_i p Pk ep iE;cases EW;refine⟨G2,A5,rr,Lj.step s2,er,λv G3 H3 s3 rv=>?_⟩;have Pu:=s3.all;have Xg:=s2.hh _ _ L9;have jF:=s2.ex D (.l L9) gD;have Rh:=Pu.ex D (.l Xg) jF;have zZ:=rp.len.symm;refine⟨ys,s3.hh _ _ Xg,ACp (J:ys.length<=1000) AAC,D2 G3 H2 H3,ys ++ [v],ps ++ [p],Pk,?_,Rh,C0,?_,?_,iE,?_,?_,SM⟩
          .exact((st.trans s2).trans Pu).Us hD Rh
          .exact Ac.of<|Jr (Ac.same (s2.gg.trans Pu.gg) rp).paired<|.cons (rv.clean s3.sub ep) .nil
          .rw[AAn,AB8];lia
          .rw[List.append_assoc];exact ON
          .exact(((Lj.step s2).step Pu).weak hw kl.symm).Us Rh SM
         .cases EW
     .left;have R3:i=xs.length:=J
      subst R3;rw[ADS]at EW;cases EW;rw[AB7]at ON;subst ON;refine⟨by rw[Bj];exact Sd,q _ G' H' (s1.trans st) ⟨D,ys,rfl,s1.hh.free hD,gD,L9,rp⟩⟩
  .cases e
variable{ifs:List Expr}{elt:Expr}{scope:Scope}{Nb:List Str}{own:Nat}{cap:List Nat}{its:IF}{t:BF}{fe:EF}
def KJ(X:Cx)(ifs:List Expr)(t:BF):Prop:=GB X ifs<|E3 X.K t
theorem GB.imp{X:Cx}{e:List Expr}{t t':TT}(h:GB X e t)(i:∀σ H Q,t' σ H Q->t σ H Q):GB X e t':=λAE s σ H Q I q=>h AE s σ H Q I<|i σ H Q q
noncomputable def Bn:BF:=λ_=>some true
theorem rX:KJ X [] Bn:=GB.imp p0 (by
 rintro σ H Q ⟨G,ρ,r,R,e,q⟩;cases e;exact q G H<|A0.refl R.sub)
theorem rY(h:DF X c t):KJ X [c] t:=p7 h
theorem qm(hc:X.calm=true)(O:F6 X scope Nb own cap)(Fl:cap.Nodup)(hk:JH own g)(hi:Hv X false tg iter its)(hg:∀C s H fp AE,GC (CI X Nb scope C s H fp AE) tg g)(ht:∀C s H fp AE,KJ (CI X Nb scope C s H fp AE) ifs t)(he:∀C s H fp AE,PX (CI X Nb scope C s H fp AE) elt fe) (hs:∀x,foldedSetIterable iter X.env x=pure x):PX X (.ListComp elt [⟨tg,iter,ifs,0⟩] scope pos)<|BS its own cap g t fe:=
 PE.imp (pJ (g:=P6 X.K g) (ti:=E3 X.K t) (te:=tX X.K fe) hc O hi hg ht he hs) λ_ _ _ h=>bJ Fl hk h
end
inductive Out where
 |nx (ρ:AX)|rt (r:RV)|bk (ρ:AX)|ct (ρ:AX)
abbrev SF:=AX->Option Out
structure SR(K:W.Frag)(AV AS G H:Hp)(ρ:AX)(σ:St):Prop where
 r:B3 K G H ρ σ
 gg:As AV G
 hh:As AS H
 ex:∀a,Mu AS a->AV a=none->G a=none
 new:∀(i:Nat)(s:SV)(a:Addr),s.EZ=true->ρ[i]? = some (some s)->σ[i]? = some (some<|.ref a)->AS a=none
theorem SR.step{K:W.Frag}{AV AS G H G' H':Hp}{ρ:AX}{σ:St}(s:A0 G H G' H')(h:SR K AV AS G H ρ σ):SR K AV AS G' H' ρ σ:=
 ⟨h.r.step s,h.gg.trans s.gg,h.hh.trans s.hh,λa e n=>s.ex a (e.same h.hh)<|h.ex a e n,h.new⟩
theorem SR.LK{K:W.Frag}{AV AS G H:Hp}{ρ:AX}{σ:St}(h:SR K AV AS G H ρ σ):A0 AV AS G H:=⟨h.gg,h.hh,h.r.sub,h.ex⟩
theorem SR.turn{K:W.Frag}{AV AS G H:Hp}{ρ ρ':AX}{σ AY:St}(h:SR K AV AS G H ρ σ)(r:B3 K G H ρ' AY)(k:DW ρ σ ρ' AY):SR K AV AS G H ρ' AY:=
 ⟨r,h.gg,h.hh,h.ex,λi ps a o e1 e2=>by
  obtain⟨h1,h2⟩:=k i ps o e1;exact h.new i ps a o h1<|h2 ▸ e2⟩
def JK(K:W.Frag)(AV AS G:Hp)(D:Ends):Out->Prop
 |.nx ρ'=>∀AY G' H',As G G'->SR K AV AS G' H' ρ' AY->D.nx AY H'
 |.bk ρ'=>∀AY G' H',As G G'->SR K AV AS G' H' ρ' AY->D.bk AY H'
 |.ct ρ'=>∀AY G' H',As G G'->SR K AV AS G' H' ρ' AY->D.ct AY H'
 |.rt r=>∀v G' H',A0 AV AS G' H'->Bt K AS G' H' r v->D.rt v H'
theorem JK.mono{K:W.Frag}{AV AS G G1:Hp}{D:Ends}{o:Out}(s:As G G1)(h:JK K AV AS G D o):JK K AV AS G1 D o:=by
 cases o with
 |nx ρ=>exact λAY G' H' q=>h AY G' H'<|s.trans q
 |bk ρ=>exact λAY G' H' q=>h AY G' H'<|s.trans q
 |ct ρ=>exact λAY G' H' q=>h AY G' H'<|s.trans q
 |rt r=>exact h
def J5(K:W.Frag)(AV AS:Hp)(g:SF):TS:=λD σ H=>∃G ρ o,SR K AV AS G H ρ σ/\g ρ=some o/\JK K AV AS G D o
def CG(X:Cx)(AV AS:Hp)(st:Stmt)(g:SF):Prop:=PS X st<|J5 X.K AV AS g
def DX(X:Cx)(AV AS:Hp)(st:List Stmt)(g:SF):Prop:=CV X st<|J5 X.K AV AS g
noncomputable def Am:SF:=λρ=>some<|.nx ρ
noncomputable def AO(g h:SF):SF:=λρ=>match g ρ with|some (.nx ρ')=>h ρ'|o=>o
section
variable{X:Cx}{AV AS:Hp}{a b c e tg iter:Expr}{es:List Expr}{fa fb fc f:EF}{ga:AF}{t:BF}{gt:GF}{pos:Pos}{st:Stmt}{A7 body Lz:List Stmt}{g h:SF}
theorem sH:DX X AV AS [] Am:=CV.imp qQ (by
 rintro D σ H ⟨G,ρ,o,S,e,k⟩;cases e;exact k σ G H (As.refl _) S)
theorem rm(h1:CG X AV AS st g)(h2:DX X AV AS A7 h):DX X AV AS (st::A7)<|AO g h:=CV.imp (Zz h1 h2) (by
 rintro D σ H ⟨G,ρ,o,S,e,k⟩;unfold AO at e;cases eg:g ρ with
 |none=>rw[eg]at e;cases e
 |some o1=>
  rw[eg]at e;cases o1 with
  |nx A5=>exact⟨G,ρ,_,S,eg,λAY G' H' s S'=>⟨G',A5,o,S',e,k.mono s⟩⟩
  |rt r=>cases e;exact⟨G,ρ,_,S,eg,k⟩
  |bk r=>cases e;exact⟨G,ρ,_,S,eg,k⟩
  |ct r=>cases e;exact⟨G,ρ,_,S,eg,k⟩)
theorem sI(h1:CG X AV AS st g):DX X AV AS [st] g:=Z0 h1
noncomputable def Al(t:BF)(g h:SF):SF:=λρ=>match t ρ with|some true=>g ρ|some false=>h ρ|none=>none
theorem sD(hc:DF X c t)(ha:DX X AV AS body g)(hb:DX X AV AS Lz h):CG X AV AS (.If c body Lz pos)<|Al t g h:=PS.imp (Zy hc ha hb) (by
 rintro D σ H ⟨G,ρ,o,S,e,k⟩;unfold Al at e;split at e
 .rename_i et;refine⟨G,ρ,true,S.r,et,λG1 H1 s1=>?_⟩;exact⟨G1,ρ,o,S.step s1,e,k.mono s1.gg⟩
 .rename_i et;refine⟨G,ρ,false,S.r,et,λG1 H1 s1=>?_⟩;exact⟨G1,ρ,o,S.step s1,e,k.mono s1.gg⟩
 .cases e)
noncomputable def Ri:SF:=λ_=>none
theorem sG:CG X AV AS st Ri:=PS.imp qK (by rintro D σ H ⟨G,ρ,o,S,e,k⟩;cases e)
noncomputable def Ak(f:EF):SF:=λρ=>match f ρ with|some (.cl p)=>some (.rt<|.cl p)|some (.fr ps)=>some (.rt<|.fr ps)|_=>none
theorem sN(he:PX X e f):CG X AV AS (.Return (some e) pos)<|Ak f:=PS.imp (Tw he) (by
 rintro D σ H ⟨G,ρ,o,S,e,k⟩;unfold Ak at e;split at e
 .rename_i p er;cases e;exact⟨G,ρ,_,S.r,er,λv G' H' s rv=>k v G' H' (S.LK.trans s) rv⟩
 .rename_i ps er;cases e;exact⟨G,ρ,_,S.r,er,λv G' H' s rv=>k v G' H' (S.LK.trans s)<|rv.back S.hh⟩
 .cases e)
noncomputable def OI(i:Nat):SF:=λρ=>match ρ[i]? with|some (some<|.own ps)=>some (.rt<|.fr ps)|_=>none
theorem sS(i:Nat){x:Str}{p:Pos}(hN:X.N[i]? = some x)(hv:DZ X.env.scope x)(hd:(x==("__debug__"))=false) (BI:(x==("__classdict__"))=false):CG X AV AS (.Return (some<|.Name x p) pos)<|OI i:=PS.imp (Tw<|Ex  hN hv hd BI) (by
 rintro D σ H ⟨G,ρ,o,S,e,k⟩;unfold OI at e;split at e
 .rename_i ps er;cases e;obtain⟨v,ev,a,vs,rfl,ga,ha,rl⟩:=S.r.slot i _ er;exact⟨_,ev,k _ G H S.LK ⟨a,vs,rfl,S.new i _ a rfl er ev,ga,ha,rl⟩⟩
 .cases e)
def Aa(i:Nat)(f:EF):SF:=λρ=>match f ρ with|some r=>(match r.clean with|some p=>some (.nx<|ρ.set i<|some<|.im p)|none=>none)|none=>none
theorem aw{te:TE}{i:Nat}{D:Ends}{σ:St}{H:Hp}(h:∀Q,tX X.K f σ H Q->te σ H Q)(q:J5 X.K AV AS (Aa i f) D σ H):NF te (L7 i) D σ H:=by
 obtain⟨G,ρ,o,S,e,k⟩:=q;unfold Aa at e;split at e
 .rename_i r er;split at e
  .rename_i p ep;cases e;refine h _ ⟨G,ρ,r,S.r,er,λv G' H' s rv=>?_⟩;have S':=S.step s.all;exact k _ _ _ s.all.gg<|S'.turn (S'.r.Fz<|rv.clean s.sub ep) DW.Fz
  .cases e
 .cases e
theorem sW(i:Nat){x:Str}{p:Pos}(hN:X.N.Nodup)(he:PX X e f)(hi:X.N[i]? = some x)(hx:Loc X.env.scope x)(hs:swapsWith e (some<|.Name x p) pos.line X.env=pure false)(hf:X.fn x=true\/X.env.scope.names.lookup x=some .local) : CG X AV AS (.Assign [.Name x p] e pos)<|Aa i f:=PS.imp (Ph  hN hi hx he hs hf) λD σ H q=>aw (λ_ z=>z) q
noncomputable def EB(i:Nat)(f:EF):SF:=λρ=>match f ρ with|some (.fr ps)=>some (.nx<|ρ.set i<|some<|.own ps)|_=>none
theorem SR.aQ{K:W.Frag}{G H:Hp}{ρ:AX}{σ:St}{i:Nat}{s:SV}{a:Addr}{H1:Hp}(S:SR K AV AS G H ρ σ)(s1:As AS H1)(ho:∀(j:Nat)(s:SV)(b:Addr),s.EZ=true->ρ[j]? = some (some s)->σ[j]? = some (some<|.ref b)->H1 b≠none) (n:H1 a=none) (ok:KP K G H s<|.ref a):SR K AV AS G H (ρ.set i<|some s)<|σ.set i<|some<|.ref a:=by
 have R:=S.r;refine⟨⟨R.sub,λj sv e=>?_,λj k qs rs b c Aq e1 o1 e2 o2 e3 e4=>?_,by simpa using R.len⟩,S.gg,S.hh,S.ex,λj qs b o1 e1 e2=>?_⟩
 .rcases get_set e with⟨rfl,rfl⟩|⟨hj,e'⟩
  .have hl:=Y3 e;exact⟨_,set_slot (by rw[<-R.len];exact hl),ok⟩
  .obtain⟨w,e1,q⟩:=R.slot j sv e';exact⟨w,by rw[AAg<|AA3 hj];exact e1,q⟩
 .rcases get_set e1 with⟨h1,_⟩|⟨h1,f1⟩
  .rcases get_set e2 with⟨h2,_⟩|⟨h2,f2⟩
   .exact absurd (h1.trans h2.symm) Aq
   .subst h1;rw[AAg<|AA3 h2]at e4;have hl:=by
     have:=(AAL.mp e3).1;simpa using this
    rw[set_slot hl]at e3;cases e3;intro z;exact ho k rs c o2 f2 e4<|z ▸ n
  .rcases get_set e2 with⟨h2,_⟩|⟨h2,f2⟩
   .subst h2;rw[AAg<|AA3 h1]at e3;have hl:=by
     have:=(AAL.mp e4).1;simpa using this
    rw[set_slot hl]at e4;cases e4;intro z;exact ho j qs b o1 f1 e3<|z.symm ▸ n
   .rw[AAg<|AA3 h1]at e3;rw[AAg<|AA3 h2]at e4;exact R.apart j k qs rs b c Aq f1 o1 f2 o2 e3 e4
 .rcases get_set e1 with⟨h1,_⟩|⟨h1,f1⟩
  .subst h1;have hl:=by
    have:=(AAL.mp e2).1;simpa using this
   rw[set_slot hl]at e2;cases e2;exact s1.free n
  .rw[AAg<|AA3 h1]at e2;exact S.new j qs b o1 f1 e2
theorem SR.uu{K:W.Frag}{G H:Hp}{ρ:AX}{σ:St}{i:Nat}{ps:List PV}{a:Addr}{vs:List V}{H1:Hp}(S:SR K AV AS G H ρ σ)(s1:As AS H1)(ho:∀(j:Nat)(s:SV)(b:Addr),s.EZ=true->ρ[j]? = some (some s)->σ[j]? = some (some<|.ref b)->H1 b≠none) (n:H1 a=none) (ga:G a=none) (ha:H a=some (.lst vs)) (rl:Ac K G ps vs):SR K AV AS G H (ρ.set i<|some<|.own ps)<|σ.set i<|some<|.ref a:=
 S.aQ s1 ho n ⟨a,vs,rfl,ga,ha,rl⟩
theorem vQ{te:TE}{i:Nat}{D:Ends}{σ:St}{H:Hp}(h:∀Q,tX X.K f σ H Q->te σ H Q)(q:J5 X.K AV AS (EB i f) D σ H):NF te (L7 i) D σ H:=by
 obtain⟨G,ρ,o,S,e,k⟩:=q;unfold EB at e;split at e
 .rename_i ps er;cases e;refine h _ ⟨G,ρ,_,S.r,er,λv G' H' s rv=>?_⟩;obtain⟨a,vs,rfl,n,ga,ha,rl⟩:=rv;exact k _ _ _ s.gg<|(S.step s).uu S.hh S.r.To n ga ha rl
 .cases e
theorem se(i:Nat){x:Str}{p:Pos}(hN:X.N.Nodup)(he:PX X e f)(hi:X.N[i]? = some x)(hx:Loc X.env.scope x)(hs:swapsWith e (some<|.Name x p) pos.line X.env=pure false)(hf:X.fn x=true\/X.env.scope.names.lookup x=some .local) : CG X AV AS (.Assign [.Name x p] e pos)<|EB i f:=PS.imp (Ph  hN hi hx he hs hf) λD σ H q=>vQ (λ_ z=>z) q
section
variable{ifs:List Expr}{elt:Expr}{scope:Scope}{Nb:List Str}{own:Nat}{cap:List Nat}{its:IF}{fe:EF}{Au:Pos}
theorem sX(i:Nat){x:Str}{p:Pos}(hN:X.N.Nodup)(hc:X.calm=true)(O:F6 X scope Nb own cap)(Fl:cap.Nodup)(hk:JH own gt)(hi:Hv X false tg iter its)(hg:∀C s H fp AE,GC (CI X Nb scope C s H fp AE) tg gt)(ht:∀C s H fp AE,KJ (CI X Nb scope C s H fp AE) ifs t)(he:∀C s H fp AE,PX (CI X Nb scope C s H fp AE) elt fe) (CQ:X.N[i]? = some x) (hx:Loc X.env.scope x) (Fp:swapsWith (.ListComp elt [⟨tg,iter,ifs,0⟩] scope Au) (some<|.Name x p) pos.line X.env=pure true) (hs:∀x,foldedSetIterable iter X.env x=pure x) (hf:X.fn x=true\/X.env.scope.names.lookup x=some .local) : CG X AV AS (.Assign [.Name x p] (.ListComp elt [⟨tg,iter,ifs,0⟩] scope Au) pos)<|Aa i<|BS its own cap gt t fe:=
 PS.imp (qN  (g:=P6 X.K gt) (ti:=E3 X.K t) (te:=tX X.K fe) hN CQ hx hc O hi hg ht he Fp hs hf) λD σ H q=>aw (λ_ z=>bJ Fl hk z) q
end
def JX(f:EF)(gt:GF):SF:=λρ=>match f ρ with|some r=>(match r.clean with|some p=>(match gt p ρ with|some ρ'=>some (.nx ρ')|none=>none)|none=>none)|none=>none
theorem rh(he:PX X e f)(hg:GC X tg gt)(hs:swapsWithSole [tg] e pos.line X.env=pure false)(hw:swappedStores [tg] e X.env=pure none) (h1:(assignEach [tg] X.env).map (·.2)=[assign tg X.env]):CG X AV AS (.Assign [tg] e pos)<|JX f gt:=PS.imp (Tv he hg hs hw h1) (by
 rintro D σ H ⟨G,ρ,o,S,e,k⟩;unfold JX at e;split at e
 .rename_i r er;split at e
  .rename_i p ep;split at e
   .rename_i ρ' eg;cases e;refine⟨G,ρ,r,S.r,er,λv G' H' s rv=>?_⟩;have S':=S.step s.all;exact⟨_,ρ,p,ρ',S'.r,rv.clean s.sub ep,eg,λAY R' kk=>k _ _ _ s.all.gg<|S'.turn R' kk⟩
   .cases e
  .cases e
 .cases e)
theorem SR.chg{K:W.Frag}{G H:Hp}{ρ:AX}{σ:St}{i:Nat}{s s':SV}{a:Addr}{o:HO}(S:SR K AV AS G H ρ σ)(hs:s.EZ=true)(er:ρ[i]? = some (some s))(es:σ[i]? = some (some<|.ref a))(ga:G a=none)(ok:KP K G (upd H a o) s'<|.ref a) : SR K AV AS G (upd H a o) (ρ.set i<|some s') σ:=by
 have R:=S.r;have hn:=S.new i s a hs er es;refine⟨⟨λb u q=>by rw[BK<|DN q ga];exact R.sub _ _ q,λj sv e=>?_,λj k xs ys b c Aq e1 o1 e2 o2 e3 e4=>?_,by simpa using R.len⟩,S.gg,λb u q=>by rw[BK<|DN q hn];exact S.hh _ _ q,S.ex,λj xs b o1 e1 e2=>?_⟩
 .rcases get_set e with⟨rfl,rfl⟩|⟨hj,e'⟩
  .exact⟨_,es,ok⟩
  .obtain⟨w,e1,q⟩:=R.slot j sv e';refine⟨w,e1,?_⟩;cases sv with
   |exc nm=>exact q
   |im p=>exact q
   |own xs=>
    obtain⟨b,ws,rfl,gb,hb,rb⟩:=q;refine⟨b,ws,rfl,gb,?_,rb⟩;rw[BK λz=>R.apart j i _ s b a hj e' rfl er hs e1 es z];exact hb
   |Dq t ks xs=>
    obtain⟨b,ws,rfl,gb,hb,rb⟩:=q;refine⟨b,ws,rfl,gb,?_,rb⟩;rw[BK λz=>R.apart j i _ s b a hj e' rfl er hs e1 es z];exact hb
 .rcases get_set e1 with⟨h1,_⟩|⟨h1,f1⟩
  .rcases get_set e2 with⟨h2,_⟩|⟨h2,f2⟩
   .exact absurd (h1.trans h2.symm) Aq
   .subst h1;exact R.apart j k s ys b c Aq er hs f2 o2 e3 e4
  .rcases get_set e2 with⟨h2,_⟩|⟨h2,f2⟩
   .subst h2;exact R.apart j k xs s b c Aq f1 o1 er hs e3 e4
   .exact R.apart j k xs ys b c Aq f1 o1 f2 o2 e3 e4
 .rcases get_set e1 with⟨h1,_⟩|⟨h1,f1⟩
  .subst h1;rw[es]at e2;cases e2;exact hn
  .exact S.new j xs b o1 f1 e2
theorem SR.change{K:W.Frag}{G H:Hp}{ρ:AX}{σ:St}{i:Nat}{ps qs:List PV}{a:Addr}{us:List V}(S:SR K AV AS G H ρ σ)(er:ρ[i]? = some (some<|.own ps))(es:σ[i]? = some (some<|.ref a))(ga:G a=none)(rl:Ac K G qs us) : SR K AV AS G (upd H a<|.lst us) (ρ.set i<|some<|.own qs) σ:=S.chg rfl er es ga ⟨a,us,rfl,ga,C0,rl⟩
def B6(i:Nat)(k:List PV->List PV->Option (List PV))(ga:AF):SF:=λρ=>match ρ[i]?,ga ρ with
 |some (some<|.own ps),some rs=>(match CW rs with|some qs=>(match k ps qs with|some Cs=>some (.nx<|ρ.set i<|some<|.own Cs)|none=>none)|none=>none)
 |_,_=>none
def KH(K:W.Frag)(k:List PV->List PV->Option (List PV))(r:V->List V->Hp->VK->Prop):Prop:=
 ∀(ps qs Cs:List PV)(G H:Hp)(a:Addr)(vs us:List V)(Q:VK),k ps qs=some Cs->H a=some (.lst vs)->Ac K G ps vs->Ac K G qs us->(∀ws v,Ac K G Cs ws->Q v (upd H a<|.lst ws))->r (.ref a) us H Q
theorem Ui{i:Nat}{k:List PV->List PV->Option (List PV)}{r:V->List V->Hp->VK->Prop}(hk:KH X.K k r){D:Ends}{σ:St}{H:Hp}(q:J5 X.K AV AS (B6 i k ga) D σ H):Uh (ay X.K "list" r (P4 i)<|Uk X.K ga) D σ H:=by
 obtain⟨G,ρ,o,S,e,ok⟩:=q;unfold B6 at e;split at e
 .rename_i ps rs er ea;split at e
  .rename_i qs ec;split at e
   .rename_i Cs ek;cases e;obtain⟨v,ev,a,vs,rfl,g,ha,rl⟩:=S.r.slot i _ er;refine⟨_,ev,.inl ⟨rfl,vs,.inl<|.inl ha⟩,G,ρ,rs,S.r,ea,λus G1 H1 s1 rv=>?_⟩;have S1:=S.step s1.all;refine hk ps qs Cs (D2 G1 H H1) H1 a vs us _ ek (s1.hh _ _ ha) (Ac.same s1.all.gg rl) (JN s1.sub rv ec) λws w CM=>?_;exact ok _ _ _ s1.all.gg<|S1.change er ev (s1.all.ex a (.l ha) g) CM
   .cases e
  .cases e
 .cases e
noncomputable def Cr(ps qs:List PV):Option<|List PV:=match qs with|[p]=>if ps.length<1000 then some (ps ++ [p])else none|_=>none
theorem m8{K:W.Frag}:KH K Cr Z2:=by
 intro ps qs Cs G H a vs us Q e ha rl rq q;unfold Cr at e;split at e
 .split at e
  .cases e;obtain⟨v,r,rfl,rv,rn⟩:=rq;subst rn;have hl:=rl.len;exact⟨a,vs,v,rfl,rfl,ha,UN AAA,q _ _<|Ac.of<|Jr rl.paired<|.cons rv .nil⟩
  .cases e
 .cases e
theorem rg(i:Nat){x:Str}{p ap:Pos}(ha:Cb X (e::es) ga)(hN:X.N[i]? = some x)(hv:DZ X.env.scope x)(hd:(x==("__debug__"))=false) (BI:(x==("__classdict__"))=false) (Dj:attributeBase (.Name x p) "append" X.env (eval (.Name x p) X.env)=eval (.Name x p) X.env) {Au:Pos} (EX:((backTo Au<|starEach (e::es) X.env).all (λx=>!x.1)&&(backToKw Au<|keywordEach [] X.env).all (λx=>x.1.isSome)
  && decide ((e::es).length+([]:List Keyword).length+(if([]:List Keyword).isEmpty then 0 else 1)<30))=true)
 (Dk:(ap.endLine==Au.line)=true) (hs:starEach (e::es) X.env=(false,eval e X.env)::starEach es X.env) (Fm:(backTo Au<|starEach es X.env).any (·.1)=false)
 (Fp:swapsWith (.Call (.Attribute (.Name x p) "append" ap) (e::es) [] Au) none pos.line X.env=pure false) :
 CG X AV AS (.Expr (.Call (.Attribute (.Name x p) "append" ap) (e::es) [] Au) pos) (B6 i Cr ga):=
 PS.imp (M3 (My ABb PySem.F.slot_list_append PySem.F.type_list_append Y9 (Ex  hN hv hd BI) ha Dj EX Dk hs Fm) Fp) λ_ _ _ q=>Ui m8 q
def HP(i:Nat)(fk f:EF):SF:=λρ=>match f ρ,ρ[i]?,fk ρ with
 |some r,some<|some<|.own ps,some (.cl<|.int k)=>(match r.clean,Dl ps.length k with|some p,some j=>some (.nx<|ρ.set i<|some<|.own<|ps.set j p)|_,_=>none)
 |_,_,_=>none
theorem sZ(i:Nat){x:Str}{p sp:Pos}(hk:PX X a fa)(he:PX X e f)(hN:X.N[i]? = some x:=by rfl)(hv:DZ X.env.scope x:=by first|exact Or.inl rfl|exact Or.inr (Or.inl rfl)|exact Or.inr<|Or.inr rfl)(hd:(x==("__debug__"))=false:=by decide) (BI:(x==("__classdict__"))=false:=by decide) (ju:∀v,assign (.Subscript (.Name x p) a sp) X.env v=(do
  let ov<-holding [v]<|eval (.Name x p) X.env
  let iv<-holding [v,ov]<|eval a X.env
  standAt sp
  holding [v,ov,iv] (setItem ov iv v)
  release [v,ov,iv] []):=by intro _;rfl)
 (hs:swapsWithSole [.Subscript (.Name x p) a sp] e pos.line X.env=pure false:=by rfl) (hw:swappedStores [.Subscript (.Name x p) a sp] e X.env=pure none:=by rfl)
 (h1:(assignEach [.Subscript (.Name x p) a sp] X.env).map (·.2)=[assign (.Subscript (.Name x p) a sp) X.env]:=by rfl) :
 CG X AV AS (.Assign [.Subscript (.Name x p) a sp] e pos) (HP i fa f):=PS.imp (Tv he (pX (Ex  hN hv hd BI) hk set_list ju) hs hw h1) (by
 rintro D σ H ⟨G,ρ,o,S,e,ok⟩;unfold HP at e;split at e
 .rename_i r ps k er eo ek;split at e
  .rename_i p j ep ej;cases e;refine⟨G,ρ,r,S.r,er,λv G1 H1 s1 rv=>?_⟩;have S1:=S.step s1.all;obtain⟨w,ew,b,vs,rfl,g,hb,rl⟩:=S1.r.slot i _ eo;refine⟨_,ew,D2 G1 H H1,ρ,_,S1.r,ek,λkv G2 H2 s2 rk=>?_⟩;have S2:=S1.step s2;refine⟨b,vs,k,j,rfl,rk.int,s2.hh _ _ hb,by rw[<-rl.len];exact ej,?_⟩;exact ok _ _ _ (s1.all.gg.trans s2.gg)<|S2.change eo ew (s2.ex b (.l hb) g)<|Ac.of<|ZZ (Rep.same s2.gg<|rv.clean s1.sub ep) j (Ac.same s2.gg rl).paired
  .cases e
 .cases e)
noncomputable def EH(gt:GF)(body:SF):List PV->AX->Option Out
 |[],ρ=>some<|.nx ρ
 |x::xs,ρ=>match gt x ρ with
  |none=>none
  |some A5=>match body A5 with
   |some (.nx BZ)=>EH gt body xs BZ
   |some (.ct BZ)=>EH gt body xs BZ
   |some (.bk BZ)=>some<|.nx BZ
   |some (.rt r)=>some<|.rt r
   |none=>none
def Cw(its:IF)(gt:GF)(body:SF):SF:=λρ=>match its ρ with|some xs=>EH gt body xs ρ|none=>none
theorem sC{its:IF}(hc:X.calm=true)(hp:PassesOwn (model X.prog X.w) X.A X.env X.xe)(hi:Hv X true tg iter its)(hg:GC X tg gt)(hb:DX X AV AS body g)(hs:∀x,foldedSetIterable iter X.env x=pure x) : CG X AV AS (.For tg iter body [] pos)<|Cw its gt g:=PS.imp (qJ hp hc hi hg hb hs) (by
 rintro D σ H ⟨G,ρ,o,S,e,ok⟩;unfold Cw at e;split at e
 .rename_i xs ex;refine⟨G,ρ,xs,S.r,ex,λz7 G1 H1 s1 J1=>?_⟩;obtain⟨vs,rl,hJ⟩:=J1.ex;have Bj:=rl.len;refine⟨λi m AY H'=>m=xs.length-i/\i<=xs.length/\∃G' ρ',SR X.K AV AS G' H' ρ' AY/\As G1 G'/\EH gt g (xs.drop i) ρ'=some o,⟨xs.length,AAB,ABs _,G1,ρ,S.step s1,As.refl _,by exact e⟩,?_⟩;rintro i m AY H' ⟨rfl,CQ,G',ρ',S',sg,hl⟩;obtain⟨Rz,Sd⟩:=hJ H'<|sg.trans S'.r.sub;by_cases BH:i<xs.length
  .right;have MS:vs[i]? = some vs[i]:=AAV AAA;obtain⟨go,yl⟩:=Rz i _ MS;have Sk:=AAV BH;have SX:Rep X.K G' xs[i] vs[i]:=by
    obtain⟨u,eu,ru⟩:=Js rl.paired Sk;rw[MS]at eu;cases eu;exact Rep.same sg ru
   have MD:=ACl BH;rw[MD]at hl;unfold EH at hl;split at hl
   .cases hl
   .rename_i A5 e1;refine⟨go,λDS Cp=>∃F8 NK,SR X.K AV AS F8 Cp NK DS/\As G1 F8/\EH gt g (xs.drop<|i+1) NK=some o,λDS Cp hN=>⟨xs.length-(i+1),AAA,rfl,AAA,hN⟩,λy H3 hy=>?_⟩;obtain⟨rfl,rfl⟩:=yl y H3 hy;refine⟨G',ρ',xs[i],A5,S'.r,SX,e1,λDu R1 k1=>?_⟩;split at hl
    .rename_i BZ eb;exact⟨G',A5,_,S'.turn R1 k1,eb,λC6 G2 H2 s2 S2=>⟨G2,BZ,S2,sg.trans s2,hl⟩⟩
    .rename_i BZ eb;exact⟨G',A5,_,S'.turn R1 k1,eb,λC6 G2 H2 s2 S2=>⟨G2,BZ,S2,sg.trans s2,hl⟩⟩
    .rename_i BZ eb;cases hl;exact⟨G',A5,_,S'.turn R1 k1,eb,λC6 G2 H2 s2 S2=>ok C6 G2 H2 ((s1.gg.trans sg).trans s2) S2⟩
    .rename_i r eb;cases hl;exact⟨G',A5,_,S'.turn R1 k1,eb,ok⟩
    .cases hl
  .left;have R3:i=xs.length:=AAA
   subst R3;rw[ADS]at hl;cases hl;exact⟨by rw[Bj];exact Sd,ok AY G' H' (s1.gg.trans sg) S'⟩
 .cases e)
end
noncomputable def A8(N:Nat)(ps:List PV):AX:=ps.map (λp=>some<|.im p)++List.replicate (N-ps.length) none
noncomputable def Out.val:Out->Option RV
 |.rt r=>some r
 |.nx _=>some<|.cl .A4
 |_=>none
def denote(N n:Nat)(g:SF):List PV->Option RV:=λps=>if ps.length=n then(g<|A8 N ps).bind Out.val else none
theorem T8{N:Nat}{ps:List PV}{i:Nat}{sv:SV}(h:(A8 N ps)[i]? = some (some sv)):∃p,ps[i]? = some p/\sv=.im p:=by
 unfold A8 at h;by_cases hi:i<ps.length
 .rw[AAq (by simpa using hi),ABK]at h;cases e:ps[i]? with
  |none=>rw[e]at h;cases h
  |some p=>rw[e]at h;cases h;exact⟨p,rfl,rfl⟩
 .rw[AAs (by simpa using hi),ABA]at h;split at h<;>cases h
theorem vN{N:List Str}{vs:List V}{i:Nat}{v:V}(h:vs[i]? = some v):(start N vs)[i]? = some (some v):=by
 unfold start;have hi:=(AAL.mp h).1;rw[AAq (by simpa using hi),ABK,h]
 rfl
theorem UQ{K:W.Frag}{N:List Str}{G H:Hp}{ps:List PV}{vs:List V}(s:As G H)(h:Ac K G ps vs):SR K G H G H (A8 N.length ps)<|start N vs:=by
 refine⟨⟨s,λi sv e=>?_,λi j qs rs a b _ e1 o _ _ _ _=>?_,?_⟩,As.refl _,As.refl _,λ_ _ n=>n,λi qs a o e1 _=>?_⟩
 .obtain⟨p,ep,rfl⟩:=T8 e;obtain⟨v,ev,rv⟩:=Js h.paired ep;exact⟨v,vN ev,rv⟩
 .obtain⟨p,_,z⟩:=T8 e1;subst z;cases o
 .unfold A8 start;rw[AAn,AAn,AAO,AAO,ABk,ABk,h.len]
 .obtain⟨p,_,z⟩:=T8 e1;subst z;cases o
theorem i7{P:Program}{w:World}{K:W.Frag}{mg:Str->Option Value}{base:Heap}{x qual:Str}{st:Stmt}{f:Addr}{fd:FuncData}{N ps:List Str}{k:Nat}{g:SF}(F:EL K x qual st f fd)(S:Gp N ps<|BR st) (Fh:∀(A1:Value)(A:Around)(outer:List Env)(s:Shared)(H:Hp)(E:XK)(AV AS:Hp),B4 k (A.deeper<|envOfC qual (BR st) s.heap.objs.size f A1)->DX (Fb Dv P w K mg base N qual (BR st) f A1 A outer s H E).Jq AV AS (Dy st) g) : Co P w K mg base Dv (k+1) f fd ps<|LI K ps.length<|denote N.length ps.length g:=by
 refine F.ok S (λvs H Q E h=>h.1) λA1 A outer s H vs Q E hr h=>?_;obtain⟨hl,G,qs,r,sub,rl,e,q⟩:=h;refine⟨_,Fh A1 A outer s H E G H hr,?_⟩;unfold denote at e;split at e
 .cases eg:g (A8 N.length qs)with
  |none=>rw[eg]at e;cases e
  |some o=>
   rw[eg]at e;refine⟨G,A8 N.length qs,o,UQ sub rl,eg,?_⟩;cases o with
   |rt r'=>
    cases e;exact λv G' H' s rv=>q v G' H' s rv
   |nx ρ=>
    cases e;exact λAY G' H' s S'=>q .A4 G' H' S'.LK<|by rfl
   |bk ρ=>cases e
   |ct ρ=>cases e
 .cases e
mutual
def Ax:PV->PyData
 |.A4=>.none
 |.bl b=>.bool b
 |.int i=>.int i
 |.str x=>.str x
 |.tup xs=>.tuple<|CN xs
 |.lst xs=>.list<|CN xs
 |.rd xs=>.list<|CN xs
 |.Cv _ _=>.dict []
def CN:List PV->List PyData
 |[]=>[]
 |x::xs=>Ax x::CN xs
end
section
variable{X:Cx}{AE:List (Addr×Obj)}{σ:St}{H:Hp}{s:Shared}
mutual
theorem Rep.reads(I:Inv X AE σ H s):∀{p:PV}{v:V}{u:Value},(Ax p).canLay0=true->Rep X.K H p v->RelV v u->∃as,Reads s.heap u (Ax p) as
 |.A4,v,u,_,h,r=>by unfold Rep at h;subst h;cases r;exact⟨[],.none⟩
 |.bl b,v,u,_,h,r=>by unfold Rep at h;subst h;cases r;exact⟨[],.bool b⟩
 |.int i,v,u,_,h,r=>by unfold Rep at h;subst h;obtain⟨t,rfl⟩:=r;exact⟨[],.int i t⟩
 |.str i,v,u,_,h,r=>by unfold Rep at h;subst h;obtain⟨t,rfl⟩:=r;exact⟨[],.str i t⟩
 |.Cv _ _,v,u,c,h,r=>by unfold Ax PyData.canLay0 at c;cases c
 |.tup xs,v,u,c,h,r=>by
  unfold Rep at h;unfold Ax PyData.canLay0 at c;obtain⟨a,vs,rfl,hq,rl⟩:=h;cases r;obtain⟨its,rv,⟨o,ho,hc,n,hd⟩,_⟩:=I.tuple hq;obtain⟨as,ra⟩:=Ac.reads I c rl rv;exact⟨as,by unfold Ax;exact .tuple ho hc hd<|by simpa using ra⟩
 |.lst xs,v,u,c,h,r=>by
  unfold Rep at h;unfold Ax PyData.canLay0 at c;obtain⟨a,vs,rfl,hq,rl⟩:=h;cases r;obtain⟨z,its,n,rv,e⟩:=hq.ok I.Ae;obtain⟨as,ra⟩:=Ac.reads I c rl rv;exact⟨a::as,by unfold Ax;exact .list e rfl rfl<|by simpa using ra⟩
 |.rd xs,v,u,c,h,r=>by
  unfold Rep at h;unfold Ax PyData.canLay0 at c;obtain⟨a,vs,rfl,hq,rl⟩:=h;cases r;obtain⟨its,rv,⟨o,n,ho,hc,OS,hd⟩,_⟩:=I.list hq;obtain⟨as,ra⟩:=Ac.reads I c rl rv;exact⟨a::as,by unfold Ax;exact .list ho hc hd<|by simpa using ra⟩
theorem Ac.reads(I:Inv X AE σ H s):∀{ps:List PV}{vs:List V}{us:List Value},PyData.canLayAll0 (CN ps)=true->Ac X.K H ps vs->An vs us->∃as,ReadsAll s.heap us (CN ps) as
 |[],vs,us,_,h,r=>by unfold Ac at h;subst h;cases r;exact⟨[],.nil⟩
 |p::ps,vs,us,c,h,r=>by
  unfold Ac at h;unfold CN PyData.canLayAll0 at c;rw[AAJ]at c;obtain⟨v,vr,rfl,hv,hr⟩:=h;cases r with
  |cons r1 r2=>
   obtain⟨as,ra⟩:=Rep.reads I c.1 hv r1;obtain⟨bs,rb⟩:=Ac.reads I c.2 hr r2;exact⟨as++bs,by unfold CN;exact .cons ra rb⟩
end
def Pj(K:W.Frag)(neg:Bool):R2:=λx y H Q=>∃p q,Rep K H p x/\Rep K H q y/\SeqAt.shaped (Ax p)=true/\SeqAt.shaped (Ax q)=true/\Q (.bl (if neg=true then !PyData.eqv (Ax p) (Ax q)else PyData.eqv (Ax p) (Ax q))) H
theorem oE(hu:X.A.units+64<cLine):Ba X (compareOp .Eq)<|Pj X.K false:=by
 intro AE s σ H x y v u Q I rx ry ⟨p,q,hp,hq,sp,sq,k⟩;obtain⟨as,ra⟩:=Rep.reads I (SeqAt.canLay_of_shaped sp) hp rx;obtain⟨bs,rb⟩:=Rep.reads I (SeqAt.canLay_of_shaped sq) hq ry;exact SeqAt.compareEq_shaped ra rb sp sq hu ⟨.bl _,H,I,rfl,k⟩
theorem oQ(hu:X.A.units+64<cLine):Ba X (compareOp .NotEq)<|Pj X.K true:=by
 intro AE s σ H x y v u Q I rx ry ⟨p,q,hp,hq,sp,sq,k⟩;obtain⟨as,ra⟩:=Rep.reads I (SeqAt.canLay_of_shaped sp) hp rx;obtain⟨bs,rb⟩:=Rep.reads I (SeqAt.canLay_of_shaped sq) hq ry;exact SeqAt.compareNe_shaped ra rb sp sq hu ⟨.bl _,H,I,rfl,k⟩
end
def A6(x y:RV):Option RV:=if SeqAt.shaped (Ax x.any)=true/\SeqAt.shaped (Ax y.any)=true then some (.cl<|.bl<|PyData.eqv (Ax x.any)<|Ax y.any)else none
def CC(x y:RV):Option RV:=if SeqAt.shaped (Ax x.any)=true/\SeqAt.shaped (Ax y.any)=true then some (.cl<|.bl (!PyData.eqv (Ax x.any) (Ax y.any)))else none
section
variable{X:Cx}
theorem n5{K:W.Frag}:DE K A6<|Pj K false:=by
 intro x y z H0 G H vx vy Q sub sh e rx ry q;unfold A6 at e;split at e
 .rename_i h;cases e;exact⟨x.any,y.any,rx.any sub,ry.any sub,h.1,h.2,q _ G H (A0.refl sub)<|by rfl⟩
 .cases e
theorem oB{K:W.Frag}:DE K CC<|Pj K true:=by
 intro x y z H0 G H vx vy Q sub sh e rx ry q;unfold CC at e;split at e
 .rename_i h;cases e;exact⟨x.any,y.any,rx.any sub,ry.any sub,h.1,h.2,q _ G H (A0.refl sub)<|by rfl⟩
 .cases e
theorem fX(hu:X.A.units+64<cLine):Cj X .Eq A6:=⟨_,oE hu,n5⟩
theorem fj(hu:X.A.units+64<cLine):Cj X .NotEq CC:=⟨_,oQ hu,oB⟩
def BB(neg:Bool)(x y:RV):Option RV:=match x,y.seq with
 |.cl (.int i),some ps=>(EY ps).map λns=>.cl (.bl (if neg=true then !ns.any (· == i)else ns.any (· == i)))
 |_,_=>none
theorem ZT{K:W.Frag}{neg:Bool}:DE K (BB neg)<|T3 K neg:=by
 intro x y z H0 G H vx vy Q sub sh e rx ry q;unfold BB at e;split at e
 .rename_i i ps es;cases ei:EY ps with
  |none=>rw[ei]at e;cases e
  |some ns=>
   rw[ei]at e;cases e;obtain⟨a,vs,rfl,hq,rl⟩:=ry.seq sub es;have lL:=MV ei rl;subst lL;have Xv:Ou (.int i) (ns.map V.int)=ns.any (· == i):=by
    unfold Ou;rw[ACI]
    rfl
   refine⟨a,ns.map V.int,rfl,hq,by rw[rx.int];rfl,by rw[ADT];exact ABH.mpr λ_ _=>rfl,?_⟩;rw[rx.int,Xv];exact q _ G H (A0.refl sub) (by cases neg<;>rfl)
 .cases e
theorem ff:Cj X .In<|BB false:=⟨_,oJ,ZT⟩
theorem fo:Cj X .NotIn<|BB true:=⟨_,oS,ZT⟩
theorem qt{x:Str}{i:Int}{pos:Pos}(h:∃t,X.mg x=some (.int i t))(hg:Gl X x)(hd:(x==("__debug__"))=false):PX X (.Name x pos)<|fC<|.int i:=by
 obtain⟨t,h⟩:=h;exact M4 (Ts hg h (v:=.int i) ⟨t,rfl⟩ hd) λ_=>by rfl
theorem qu{x:Str}{p:PV}{pos:Pos}(h:∃a,X.mg x=some (.ref a)/\∀G,Rep X.K G p<|.ref a)(hg:Gl X x)(hd:(x==("__debug__"))=false):PX X (.Name x pos)<|fC p:=by
 obtain⟨a,h,hr⟩:=h;exact M4 (Ts hg h (v:=.ref a) rfl hd) hr
def BV(P:Program)(w:World)(K:W.Frag)(mg:Str->Option Value)(base:Heap)(x:Str)(k n:Nat)(F:List PV->Option RV):Prop:=
 ∃f fd ps,Co P w K mg base Dv k f fd ps (LI K n F)/\mg x=some (.ref f)/\W.keepIn K (.ref f)=true/\Binds K fd ps []/\ps.length=n
theorem Fn.of{x:Str}{j k n:Nat}{F:List PV->Option RV}(h:BV X.prog X.w X.K X.mg X.base x j n F)(hr:B4 k X.A)(hk:j<=k:=by decide):Fn X x n F:=by
 obtain⟨f,fd,ps,h1,h2,h3,h4,h5⟩:=h;exact⟨k,f,fd,ps,h1.mono hk,hr,h2,h3,h4,h5⟩
noncomputable def Q9(outer:List<|Str×NameKind)(N:List Str)(scope:Scope)(Nb:List Str)(own:Nat)(cap:List Nat):Bool:=
 (scope.kind == .function)&&scope.names.all (λy=>y.2 != .cell||scope.names.lookup y.1==some .cell)&&scope.names.all (λx=>x.2 != .local||scope.names.lookup x.1==some .local) &&
 scope.names.all (λy=>y.2 != .free||(outer.lookup y.1==some .cell||outer.lookup y.1==some .free))&&(Nb.length==own+cap.length) &&
 (List.range cap.length).all (λk=>match cap[k]? with|some j=>(match Nb[own+k]?,N[j]? with|some x,some y=>x==y&&scope.names.lookup x==some .free|_,_=>false)|none=>false)
theorem fM{scope:Scope}{Nb:List Str}{own:Nat}{cap:List Nat}(h:Q9 X.env.scope.names X.N scope Nb own cap=true):F6 X scope Nb own cap:=by
 unfold Q9 at h;simp only[AAJ,ABH,ABt,bne_iff_ne,ABq,AAP]at h;obtain⟨⟨⟨⟨⟨h1,h2⟩,h3⟩,h4⟩,h5⟩,h6⟩:=h;refine⟨h1,λx hx hl=>?_,λx hx hl=>?_,λy hy hf=>?_,h5,λk j hj=>?_⟩
 .rcases h2 x hx with z|z
  .exact absurd hl z
  .exact z
 .rcases h3 x hx with z|z
  .exact absurd hl z
  .exact z
 .rcases h4 y hy with z|z
  .exact absurd hf z
  .exact z
 .have hk:=(AAL.mp hj).1;have:=h6 k hk;rw[hj]at this;dsimp only at this;split at this
  .rename_i x y e1 e2;simp only[AAJ,ABt]at this;obtain⟨rfl,z⟩:=this;exact⟨x,e1,e2,z⟩
  .cases this
end
end L2.PL
namespace L2.PL
open PySem PySem.Spec PyProof.Rows
section
variable{X:Cx}{AV AS:Hp}{a b c e:Expr}{es:List Expr}{fa fb f:EF}{ga:AF}{pos:Pos}
noncomputable def Ki(i:Nat)(k:List PV->List PV->Option (List PV)):SF:=λρ=>match ρ[i]? with
 |some (some<|.own ps)=>(match k ps []with|some Cs=>some (.nx<|ρ.set i<|some<|.own Cs)|none=>none)
 |_=>none
theorem vc{i:Nat}{k:List PV->List PV->Option (List PV)}{r:V->List V->Hp->VK->Prop}(hk:KH X.K k r){D:Ends}{σ:St}{H:Hp}(q:J5 X.K AV AS (Ki i k) D σ H):Uh (bC X.K "list" r<|P4 i) D σ H:=by
 obtain⟨G,ρ,o,S,e,ok⟩:=q;unfold Ki at e;split at e
 .rename_i ps er;split at e
  .rename_i Cs ek;cases e;obtain⟨v,ev,a,vs,rfl,g,ha,rl⟩:=S.r.slot i _ er;refine⟨_,ev,.inl ⟨rfl,vs,.inl<|.inl ha⟩,?_⟩;refine hk ps [] Cs G H a vs [] _ ek ha rl (by rfl) λws w CM=>?_;exact ok _ _ _ (As.refl _)<|S.change er ev g CM
  .cases e
 .cases e
noncomputable def Kw(ps qs:List PV):Option<|List PV:=match qs with|[]=>some ps.reverse|_=>none
theorem nB{K:W.Frag}:KH K Kw Z9:=by
 intro ps qs Cs G H a vs us Q e ha rl rq q;unfold Kw at e;split at e
 .cases e;subst rq;exact⟨a,vs,rfl,rfl,ha,q _ _<|Ac.of<|ZY rl.paired⟩
 .cases e
theorem sT(i:Nat){x:Str}{p ap Au:Pos}(hN:X.N[i]? = some x)(hv:DZ X.env.scope x)(hd:(x==("__debug__"))=false) (BI:(x==("__classdict__"))=false) (Dj:attributeBase (.Name x p) "reverse" X.env (eval (.Name x p) X.env)=eval (.Name x p) X.env) (Dk:(ap.endLine==Au.line)=true) (Fp:swapsWith (.Call (.Attribute (.Name x p) "reverse" ap) [] [] Au) none pos.line X.env=pure false) : CG X AV AS (.Expr (.Call (.Attribute (.Name x p) "reverse" ap) [] [] Au) pos)<|Ki i Kw:=
 PS.imp (M3 (Zj ABb PySem.F.slot_list_reverse PySem.F.type_list_reverse nL (Ex  hN hv hd BI) Dj Dk) Fp) λ_ _ _ q=>vc nB q
noncomputable def MU(n:Nat)(i:Int):Nat:=if i<0 then(i+(n:Int)).toNat else min i.toNat n
def Z4:V->List V->Hp->VK->Prop:=λx vs H Q=>∃l xs i y,x=.ref l/\vs=[.int i,y]/\H l=some (.lst xs)/\-(2 ^ 63)<=i/\i<2 ^ 63/\xs.length<sizeLine/\Q .A4 (upd H l<|.lst (xs.take (MU xs.length i)++y::xs.drop (MU xs.length i)))
theorem nI:JJ X "list.insert" Z4:=by
 intro AE s σ H x vs v us Q I rx rv h;obtain⟨l,xs,i,y,rfl,rfl,hH,h1,h2,hz,q⟩:=h;cases rx;obtain⟨u,w',rfl,ru,CM⟩:=rv.two;obtain⟨t,rfl⟩:=ru;obtain⟨z,its,n,r,hl,e⟩:=I.Ml hH;refine call_meets ADU ⟨_,e,rfl⟩ PySem.F.entry_list_insert (PySem.F.args_list_insert_3 _ _ _) (PySem.AutoSeq1.list_insert_list_int_val_1 l its.toArray n i t w' (by simp[fitsIndex_both h1 h2]) (by rw[AAR];lia)) ⟨e,?_⟩;refine⟨.A4,_,I.Mj  hH e ?_ ((r.take _).append<|.cons CM<|r.drop _) ?_,rfl,q⟩
 .unfold MU;rw[hl];simp[AC1]
 .rw[AAn,ABd,AAc,ACH];lia
def KC(i:Int):Prop:=-(2 ^ 63)<=i/\i<2 ^ 63
instance{i:Int}:Decidable<|KC i:=by unfold KC;infer_instance
def GW(ps qs:List PV):Option<|List PV:=match qs with
 |[.int i,p]=>if KC i/\ps.length<1000 then some (ps.take (MU ps.length i)++p::ps.drop (MU ps.length i))else none
 |_=>none
theorem m9{K:W.Frag}:KH K GW Z4:=by
 intro ps qs Cs G H a vs us Q e ha rl rq q;unfold GW at e;split at e
 .rename_i i p;split at e
  .rename_i hz;cases e;obtain⟨v,r,rfl,rv,rn⟩:=rq;obtain⟨v2,r2,rfl,UC,uP⟩:=rn;subst uP;subst rv;have hl:=rl.len;refine⟨a,vs,i,v2,rfl,rfl,ha,hz.1.1,hz.1.2,UN J,q _ _ ?_⟩;rw[<-hl];exact Ac.of<|Jr (Pc _ rl.paired)<|.cons UC<|Tp _ rl.paired
  .cases e
 .cases e
def Jo(ps qs:List PV):Option<|List PV:=match qs with
 |[.int i]=>if KC i then(Dl ps.length i).map ps.eraseIdx else none
 |_=>none
theorem nA{K:W.Frag}:KH K Jo Z8:=by
 intro ps qs Cs G H a vs us Q e ha rl rq q;unfold Jo at e;split at e
 .rename_i i;split at e
  .rename_i hz;cases ei:Dl ps.length i with
   |none=>rw[ei]at e;cases e
   |some j=>
    rw[ei]at e;cases e;obtain⟨v,r,rfl,rv,rn⟩:=rq;subst rn;subst rv;obtain⟨h1,h2,_,_⟩:=S0 ei;rw[rl.len]at h1 h2;exact⟨a,vs,i,j,vs[j],rfl,rfl,ha,hz.1,hz.2,h1,AAV h2,q _ _<|Ac.of<|ZX _ rl.paired⟩
  .cases e
 .cases e
section
variable{x:Str}{p ap Au:Pos}
theorem sE(i:Nat)(ha:Cb X (e::es) ga)(hN:X.N[i]? = some x)(hv:DZ X.env.scope x)(hd:(x==("__debug__"))=false) (BI:(x==("__classdict__"))=false) (Dj:attributeBase (.Name x p) "insert" X.env (eval (.Name x p) X.env)=eval (.Name x p) X.env) (EX:((backTo Au<|starEach (e::es) X.env).all (λx=>!x.1)&&(backToKw Au<|keywordEach [] X.env).all (λx=>x.1.isSome)
  && decide ((e::es).length+([]:List Keyword).length+(if([]:List Keyword).isEmpty then 0 else 1)<30))=true)
 (Dk:(ap.endLine==Au.line)=true) (hs:starEach (e::es) X.env=(false,eval e X.env)::starEach es X.env) (Fm:(backTo Au<|starEach es X.env).any (·.1)=false)
 (Fp:swapsWith (.Call (.Attribute (.Name x p) "insert" ap) (e::es) [] Au) none pos.line X.env=pure false) :
 CG X AV AS (.Expr (.Call (.Attribute (.Name x p) "insert" ap) (e::es) [] Au) pos) (B6 i GW ga):=
 PS.imp (M3 (My ABb ADU PySem.F.type_list_insert nI (Ex  hN hv hd BI) ha Dj EX Dk hs Fm) Fp) λ_ _ _ q=>Ui m9 q
theorem sL(i:Nat)(ha:Cb X (e::es) ga)(hN:X.N[i]? = some x)(hv:DZ X.env.scope x)(hd:(x==("__debug__"))=false) (BI:(x==("__classdict__"))=false) (Dj:attributeBase (.Name x p) "pop" X.env (eval (.Name x p) X.env)=eval (.Name x p) X.env) (EX:((backTo Au<|starEach (e::es) X.env).all (λx=>!x.1)&&(backToKw Au<|keywordEach [] X.env).all (λx=>x.1.isSome)
  && decide ((e::es).length+([]:List Keyword).length+(if([]:List Keyword).isEmpty then 0 else 1)<30))=true)
 (Dk:(ap.endLine==Au.line)=true) (hs:starEach (e::es) X.env=(false,eval e X.env)::starEach es X.env) (Fm:(backTo Au<|starEach es X.env).any (·.1)=false)
 (Fp:swapsWith (.Call (.Attribute (.Name x p) "pop" ap) (e::es) [] Au) none pos.line X.env=pure false) :
 CG X AV AS (.Expr (.Call (.Attribute (.Name x p) "pop" ap) (e::es) [] Au) pos) (B6 i Jo ga):=
 PS.imp (M3 (My ABb ADj ADk nK (Ex  hN hv hd BI) ha Dj EX Dk hs Fm) Fp) λ_ _ _ q=>Ui nA q
end
end
theorem Vo:bootBuiltins "isinstance" = some (.builtin "isinstance"):=AAD
theorem dz:bootBuiltins "abs" = some (.builtin "abs"):=AAD
theorem eJ:bootBuiltins "max" = some (.builtin "max"):=AAD
theorem eK:bootBuiltins "min" = some (.builtin "min"):=AAD
theorem eO:bootBuiltins "sum" = some (.builtin "sum"):=AAD
theorem eC:bootBuiltins "all" = some (.builtin "all"):=AAD
theorem eE:bootBuiltins "any" = some (.builtin "any"):=AAD
theorem eM:bootBuiltins "sorted" = some (.builtin "sorted"):=AAD
theorem eG:bootBuiltins "bool" = some (.type "bool"):=AAD
theorem eI:bootBuiltins "list" = some (.type "list"):=AAD
theorem eL:bootBuiltins "set" = some (.type "set"):=AAD
section
variable{X:Cx}{AV AS:Hp}{a b c e:Expr}{es:List Expr}{fa fb f:EF}{ga:AF}{pos:Pos}
def MW(T:String):PV->Option Bool
 |.bl _=>if T = "bool" then some true else if T = "int" then some true else none
 |.int _=>if T = "int" then some true else if T = "bool" then some false else none
 |.str _=>if T = "str" then some true else none
 |.lst _=>if T = "list" then some true else none
 |_=>none
def Kf(T:String)(f:EF):EF:=λρ=>match f ρ with|some r=>(MW T r.any).map λb=>.cl (.bl b)|none=>none
theorem wq{K:W.Frag}{H:Hp}{T:String}{p:PV}{v:V}{k:Bool}(h:Rep K H p v)(e:MW T p=some k) (h1:T = "bool"->W.kitOne K (.type "bool") (.type T)=some true/\W.kitOne K (.type "int") (.type T)=some false) (h2:T = "int"->W.kitOne K (.type "int") (.type T)=some true/\W.kitOne K (.type "bool") (.type T)=some true) (h3:T = "str"->W.kitOne K (.type "str") (.type T)=some true) (h4:T = "list"->W.kitOne K (.type "list") (.type T)=some true):∃t,El K H v t/\W.kitOne K t (.type T)=some k:=by
 unfold MW at e;split at e
 .subst h;split at e
  .cases e;exact⟨_,.bl _,(h1 ‹_›).1⟩
  .split at e
   .cases e;exact⟨_,.bl _,(h2 ‹_›).2⟩
   .cases e
 .subst h;split at e
  .cases e;exact⟨_,.int _,(h2 ‹_›).1⟩
  .split at e
   .cases e;exact⟨_,.int _,(h1 ‹_›).2⟩
   .cases e
 .subst h;split at e
  .cases e;exact⟨_,.str _,h3 ‹_›⟩
  .cases e
 .obtain⟨a,vs,rfl,hq,_⟩:=h;split at e
  .cases e;rcases hq with hq|⟨o,hq⟩
   .exact⟨_,.lst hq,h4 ‹_›⟩
   .exact⟨_,.Dz hq,h4 ‹_›⟩
  .cases e
 .cases e
theorem e9{T:String}(h1:T = "bool"->W.kitOne X.K (.type "bool") (.type T)=some true/\W.kitOne X.K (.type "int") (.type T)=some false)(h2:T = "int"->W.kitOne X.K (.type "int") (.type T)=some true/\W.kitOne X.K (.type "bool") (.type T)=some true) (h3:T = "str"->W.kitOne X.K (.type "str") (.type T)=some true) (h4:T = "list"->W.kitOne X.K (.type "list") (.type T)=some true) : DT X (.builtin "isinstance") (λxs H Q=>∃x p k,xs=[x,.ty T]/\Rep X.K H p x/\MW T p=some k/\Q (.bl k) H):=by
 intro AE s σ H xs us Q I r ⟨x,p,k,e1,hp,ek,q⟩;subst e1;obtain⟨u,u2,rfl,ru,UA⟩:=vals2 r;obtain rfl:u2=Value.type T:=UA;obtain⟨t,ty,et⟩:=wq hp ek h1 h2 h3 h4;exact lg I ru ty et λtk=>⟨.bl k,H,I.tok _,rfl,q⟩
theorem qy{T:String}{x:Str}{p p2:Pos}(h1:T = "bool"->W.kitOne X.K (.type "bool") (.type T)=some true/\W.kitOne X.K (.type "int") (.type T)=some false)(h2:T = "int"->W.kitOne X.K (.type "int") (.type T)=some true/\W.kitOne X.K (.type "bool") (.type T)=some true) (h3:T = "str"->W.kitOne X.K (.type "str") (.type T)=some true) (h4:T = "list"->W.kitOne X.K (.type "list") (.type T)=some true) (hm:X.mg "isinstance" = none) (ML:X.mg x=none) (lK:bootBuiltins x=some (.type T)) (ha:PX X a fa) (hg:Gl X "isinstance":=by rfl) (MH:Gl X x:=by rfl) (OX:x≠"__name__":=by decide) (hd2:(x==("__debug__"))=false:=by decide) (he:starEach [a,.Name x p2] X.env=(false,eval a X.env)::starEach [.Name x p2] X.env:=by rfl) (IV:starEach [.Name x p2] X.env=(false,eval (.Name x p2) X.env)::starEach [] X.env:=by rfl) (BM:(backTo pos<|starEach [.Name x p2] X.env).any (·.1)=false:=by rfl) : PX X (.Call (.Name "isinstance" p) [a,.Name x p2] [] pos)<|Kf T fa:=by
 refine PE.imp (Pd (e9 h1 h2 h3 h4) hg hm Vo (Fv ha (Fv (Zi (v:=.ty T) MH ML lK rfl OX hd2) Hd IV) he) AAC AAC he BM) λσ H Q ⟨G,ρ,r,R,e,q⟩=>?_;unfold Kf at e;split at e
 .rename_i r' er;cases ek:MW T r'.any with
  |none=>rw[ek]at e;cases e
  |some k=>
   rw[ek]at e;cases e;refine⟨G,ρ,r',R,er,λv G' H' s rv=>?_⟩;exact⟨v,r'.any,k,rfl,rv.any s.sub,ek,q _ G' H' s<|by rfl⟩
 .cases e
theorem qz{p p2:Pos}(hm:X.mg "isinstance" = none)(ML:X.mg "bool" = none)(ha:PX X a fa)(hg:Gl X "isinstance")(MH:Gl X "bool") (he:starEach [a,.Name "bool" p2] X.env=(false,eval a X.env)::starEach [.Name "bool" p2] X.env) (IV:starEach [.Name "bool" p2] X.env=(false,eval (.Name "bool" p2) X.env)::starEach [] X.env) (BM:(backTo pos<|starEach [.Name "bool" p2] X.env).any (·.1)=false) : PX X (.Call (.Name "isinstance" p) [a,.Name "bool" p2] [] pos)<|Kf "bool" fa:=
 qy (λ_=>⟨rfl,rfl⟩) (λz=>absurd z AAC) (λz=>absurd z AAC) (λz=>absurd z AAC) hm ML eG ha hg MH AAC AAC he IV BM
end
section
variable{X:Cx}{AV AS:Hp}{a b c e:Expr}{es:List Expr}{fa fb f:EF}{ga:AF}{pos:Pos}
noncomputable def Qm(a:Addr)(n:Nat):HO:=.ext λh=>∃o es ep t,h.get? a=some o/\o.ExactSet/\o.data=.set es ep t/\t.fits es.size=true/\es.size=n/\n<=1000
theorem uq{P:Program}{w:World}{H:Hp}{h:Heap}{a:Addr}{ks:List (List Int)}(x:_root_.ST.Gw P w h a ks)(hz:ks.length<=1000):Bx P w H h a<|Qm a ks.length:=by
 obtain⟨o,es,ep,t,kk,ho,hex,hd,T,hp⟩:=x;refine⟨⟨o,es,ep,t,ho,hex,hd,T.fits,?_,hz⟩,⟨o,ho⟩,?_⟩
 .rw[<-T.len,hp.length_eq]
 .rintro h1 h2 ⟨o,es,ep,t,e1,e2⟩ k;exact⟨o,es,ep,t,k o e1,e2⟩
def TupAt(K:W.Frag)(H:Hp)(v:V)(ks:List Int):Prop:=∃a,v=.ref a/\CB K H a (ks.map V.int)
theorem Ya{P:Program}{w:World}:∀{ks:List Int}{us:List Value},An (ks.map V.int) us->ItemsAre (intKind P w) ks us
 |[],us,r=>by cases r;exact .nil
 |k::ks,us,r=>by
  cases r with
  |cons r1 r2=>
   obtain⟨t,rfl⟩:=r1;exact .cons (by show Value.isInt k (.int k t)=true;simp[Value.isInt])<|Ya r2
theorem fI(hc:X.calm=true)(hu:X.A.units+64<cLine):DT X (.type "set") (λxs H Q=>∃(p:Addr)(vs:List V)(kks:List<|List Int),xs=[.ref p]/\Rd H p (.lst vs)/\Paired (λk v=>TupAt X.K H v k) kks vs/\kks.length<=17/\∀d,H d=none->Q (.ref d) (upd H d<|Qm d (_root_.ST.Dt [] kks).length)):=by
 intro AE s σ H xs us Q I r h;obtain⟨p,vs,kks,rfl,hq,hp,hz,q⟩:=h;obtain⟨u,rfl,rx⟩:=vals1 r;cases rx;obtain⟨z,its,n,rv,e⟩:=hq.ok I.Ae;have hl:s.heap.IsList p its.toArray:=⟨_,e,rfl,n,rfl⟩;have HU:=Paired.length hp;have Kp:=rv.length;refine _root_.ST.fJ (kks:=kks) (I.ok.hd hc) AAA hl (by rw[AAR];omega) (by rw[AAR];omega) (λj v hj=>?_) λh' tk hS hk=>?_
 .have CJ:=by simpa using hj
  obtain⟨x,ex,rx⟩:=Tq  rv CJ;obtain⟨k,ek,a,rfl,ha⟩:=Tq hp ex;cases rx;obtain⟨Ov,UC,⟨o,ho,OR,n2,hd⟩,_⟩:=I.tuple ha;exact⟨k,a,ek,rfl,o,Ov.toArray,n2,ho,OR,hd,by simpa using Ya UC⟩
 .have hn:=I.Ae.fresh<|AAS _;have hle:=_root_.ST.bY kks [];refine⟨.ref s.heap.objs.size,_,I.laid  hk (AAS _)<|uq hS ?_,rfl,q _ hn⟩;simp at hle;omega
theorem fD:DT X (.builtin "len") (λxs H Q=>∃(p:Addr)(n:Nat),xs=[.ref p]/\H p=some (Qm p n)/\Q (.int n) H):=by
 intro AE s σ H xs us Q I r h;obtain⟨p,n,rfl,hq,q⟩:=h;obtain⟨u,rfl,rx⟩:=vals1 r;cases rx;obtain⟨⟨o,es,ep,t,ho,hex,hd,hf,hn,hz⟩,_⟩:=I.Ae p _ hq;exact call_len_set ho hex hd hf (by rw[hn];omega) ⟨.int n,H,I.tok _,⟨s.toks+1,by rw[hn]⟩,q⟩
def JC:List PV->Option (List<|List Int)
 |[]=>some []
 |.tup xs::r=>match EY xs,JC r with|some k,some ks=>some (k::ks)|_,_=>none
 |_=>none
theorem bL{K:W.Frag}{G H:Hp}(s:As G H):∀{ps:List PV}{vs:List V}{ks:List (List Int)},JC ps=some ks->Ac K G ps vs->Paired (λk v=>TupAt K H v k) ks vs
 |[],vs,ks,e,h=>by cases e;subst h;exact .nil
 |.tup xs::r,vs,ks,e,h=>by
  unfold JC at e;split at e
  .rename_i k O5 e1 e2;cases e;obtain⟨v,us,rfl,hv,t⟩:=h;obtain⟨a,ws,rfl,hq,rl⟩:=hv;rw[MV e1 rl]at hq;exact .cons ⟨a,rfl,CB.same s hq⟩<|bL s e2 t
  .cases e
 |.A4::_,_,_,e,_=>by cases e
 |.bl _::_,_,_,e,_=>by cases e
 |.int _::_,_,_,e,_=>by cases e
 |.str _::_,_,_,e,_=>by cases e
 |.lst _::_,_,_,e,_=>by cases e
 |.rd _::_,_,_,e,_=>by cases e
 |.Cv _ _::_,_,_,e,_=>by cases e
def IK(f:EF):EF:=λρ=>match f ρ with
 |some r=>(match r.list.bind JC with|some ks=>if ks.length<=17 then some (.cl<|.int (_root_.ST.Dt [] ks).length)else none|none=>none)
 |none=>none
theorem q9{p p2 Pf:Pos}(hc:X.calm=true)(hm:X.mg "len" = none)(ML:X.mg "set" = none)(hu:X.A.units+64<cLine)(ha:PX X a fa)(hg:Gl X "len")(MH:Gl X "set") (IV:starEach [a] X.env=(false,eval a X.env)::starEach [] X.env) (k8:(backTo Pf<|starEach [] X.env).any (·.1)=false) (he:starEach [.Call (.Name "set" p2) [a] [] Pf] X.env=(false,eval (.Call (.Name "set" p2) [a] [] Pf) X.env)::starEach [] X.env) (BM:(backTo pos<|starEach [] X.env).any (·.1)=false) : PX X (.Call (.Name "len" p) [.Call (.Name "set" p2) [a] [] Pf] [] pos)<|IK fa:=by
 refine PE.imp (Pd fD hg hm PySem.boot_len (Fv (Zl (fI hc hu) MH ML eL (Fv ha Hd IV) AAC AAC IV k8) Hd he) AAC AAC he BM) λσ H Q ⟨G,ρ,r,R,e,q⟩=>?_;unfold IK at e;split at e
 .rename_i r' er;split at e
  .rename_i ks ek;split at e
   .rename_i hz;cases e;cases el:r'.list with
    |none=>rw[el]at ek;cases ek
    |some ps=>
     rw[el]at ek;refine⟨G,ρ,r',R,er,λv G' H' s rv=>?_⟩;obtain⟨d,vs,rfl,hq,rl⟩:=rv.list s.sub el;refine⟨d,vs,ks,rfl,hq,bL s.sub ek rl,hz,λx hx=>?_⟩;refine⟨x,_,rfl,C0,q _ G' _ (s.trans<|A0.Gb s.sub _ hx) ?_⟩
     rfl
   .cases e
  .cases e
 .cases e
end
section
variable{X:Cx}{AV AS:Hp}{a b c e:Expr}{es:List Expr}{fa fb f:EF}{ga:AF}{pos:Pos}
def GN(i j:Nat)(ga:AF):SF:=λρ=>match ga ρ with
 |some rs=>(match CW rs with|some [p,q]=>some (.nx<|(ρ.set i<|some<|.im p).set j<|some<|.im q)|_=>none)
 |none=>none
theorem sJ(i j:Nat){x y:Str}{px py pt:Pos}{kt k2 Jv}(hc:X.calm=true)(hN:X.N.Nodup)(ha:Cb X [a,b] ga)(hi:X.N[i]? = some x)(hj:X.N[j]? = some y)(Br:i≠j) (hx:X.env.scope.names.lookup x=some .local) (hy:X.env.scope.names.lookup y=some .local) (hw:swappedStores [.Tuple [.Name x px,.Name y py] kt pt] (.Tuple [a,b] k2 Jv) X.env=pure (some [x,y])) (hs:swapsWithSole [.Tuple [.Name x px,.Name y py] kt pt] (.Tuple [a,b] k2 Jv) pos.line X.env=pure false) : CG X AV AS (.Assign [.Tuple [.Name x px,.Name y py] kt pt] (.Tuple [a,b] k2 Jv) pos)<|GN i j ga:=PS.imp (qL hc hN hi hj Br hx hy ha hw hs) (by
 rintro D σ H ⟨G,ρ,o,S,e,k⟩;unfold GN at e;split at e
 .rename_i rs er;split at e
  .rename_i p q ec;cases e;refine⟨G,ρ,rs,S.r,er,λvs G' H' s rv=>?_⟩;have rl:=JN s.sub rv ec;obtain⟨v,r,rfl,rp,rl⟩:=rl;obtain⟨w,r,rfl,rq,rl⟩:=rl;subst rl;have S':=S.step s.all;have S1:=S'.turn (S'.r.Fz (i:=i) rp) DW.Fz;have S2:=S1.turn (S1.r.Fz (i:=j) rq) DW.Fz;exact⟨v,w,rfl,k _ _ _ s.all.gg S2⟩
  .cases e
 .cases e)
end
section
variable{X:Cx}{AV AS:Hp}{a b c d e:Expr}{es:List Expr}{fa fb fc fd f:EF}{ga:AF}{pos:Pos}
def Ue(r r' FN:R2)(ta tb tc td:TE):TE:=λσ H Q=>ta σ H λx H1=>tb σ H1 λy H2=>r x y H2 λz H3=>∃k,z=.bl k/\
 (if k=true then tc σ H3 λw H4=>r' y w H4 λz' H5=>∃k',z'=.bl k'/\(if k'=true then td σ H5 λw' H6=>FN w w' H6 Q else Q (.bl false) H5)else Q (.bl false) H3)
theorem pH{ta tb tc td:TE}{op B1 EI:CmpOp}{r r' FN:R2}(ho:Ba X (compareOp op) r)(Bz:Ba X (compareOp B1) r')(Jg:Ba X (compareOp EI) FN)(ha:PE X a ta)(hb:PE X b tb)(hc:PE X c tc)(hd:PE X d td) (hm:lastMarks [op,B1,EI] [b,c,d]=false:=by with_unfolding_all rfl):PE X (.Compare a [op,B1,EI] [b,c,d] pos)<|Ue r r' FN ta tb tc td:=by
 intro AE s σ H Q I h;refine Compare_chain (Aj (ha AE s σ H _ I h) λv s1 ⟨x,H1,I1,r1,q1⟩=>chain_link (Aj (hb AE s1 σ H1 _ I1 q1) λu s2 ⟨y,H2,I2,r2,q2⟩=>
  Aj (ho AE s2 σ H2 x y v u _ I2 r1 r2 q2) λd s3 ⟨z,H3,I3,r3,k,e,q3⟩=>?_)) hm
 subst e;cases r3;refine wpAny_truthy_bool ?_;cases k with
 |false=>exact ite_ff ⟨.bl false,H3,I3,rfl,q3⟩
 |true=>
  refine ite_tt<|chain_link<|Aj (hc AE s3 σ H3 _ I3 q3) λw' s4 ⟨z',H4,I4,r4,q4⟩=>Aj (Bz AE s4 σ H4 y z' u w' _ I4 r2 r4 q4) λd' s5 ⟨z2,H5,I5,r5,k2,e2,q5⟩=>?_;subst e2;cases r5;refine wpAny_truthy_bool ?_;cases k2 with
  |false=>exact ite_ff ⟨.bl false,H5,I5,rfl,q5⟩
  |true=>exact ite_tt<|chain_last<|Aj (hd AE s5 σ H5 _ I5 q5) (by rintro w2 s6 ⟨z3,H6,I6,r6,q6⟩;exact Jg AE s6 σ H6 z' z3 w' w2 Q I6 r4 r6 q6)
theorem qS{ta tb tc td:TE}{op B1 EI:CmpOp}{r r' FN:R2}(ho:Ba X (compareOp op) r)(Bz:Ba X (compareOp B1) r')(Jg:Ba X (compareOp EI) FN)(ha:PE X a ta)(hb:PE X b tb)(hc:PE X c tc)(hd:PE X d td) (hm:lastMarks [op,B1,EI] [b,c,d]=false:=by with_unfolding_all rfl):PT X (.Compare a [op,B1,EI] [b,c,d] pos)<|Uj<|Ue r r' FN ta tb tc td:=by
 intro AE s σ H Q I h;refine isTrue_chain (Aj (ha AE s σ H _ I h) λv s1 ⟨x,H1,I1,r1,q1⟩=>test_link (Aj (hb AE s1 σ H1 _ I1 q1) λu s2 ⟨y,H2,I2,r2,q2⟩=>
  Aj (ho AE s2 σ H2 x y v u _ I2 r1 r2 q2) λd s3 ⟨z,H3,I3,r3,k,e,q3⟩=>?_)) hm
 subst e;cases r3;refine wpAny_truthy_bool ?_;cases k with
 |false=>
  obtain⟨k',e',q'⟩:=q3;cases e';exact ite_ff ⟨H3,I3,q'⟩
 |true=>
  refine ite_tt<|test_link<|Aj (hc AE s3 σ H3 _ I3 q3) λw' s4 ⟨z',H4,I4,r4,q4⟩=>Aj (Bz AE s4 σ H4 y z' u w' _ I4 r2 r4 q4) λd' s5 ⟨z2,H5,I5,r5,k2,e2,q5⟩=>?_;subst e2;cases r5;refine wpAny_truthy_bool ?_;cases k2 with
  |false=>
   obtain⟨k',e',q'⟩:=q5;cases e';exact ite_ff ⟨H5,I5,q'⟩
  |true=>
   refine ite_tt<|test_last<|Aj (hd AE s5 σ H5 _ I5 q5) λw2 s6 ⟨z3,H6,I6,r6,q6⟩=>Aj (Jg AE s6 σ H6 z' z3 w' w2 _ I6 r4 r6 q6) λd2 s7 ⟨z4,H7,I7,r7,k3,e3,q7⟩=>?_;subst e3;cases r7;exact wpAny_truthy_bool ⟨H7,I7,q7⟩
noncomputable def De(k k' GS:RV->RV->Option RV)(fa fb fc fd:EF):EF:=λρ=>match fa ρ,fb ρ with
 |some x,some y=>match k x y with
  |some (.cl<|.bl true)=>(match fc ρ with
   |some z=>(match k' y z with
    |some (.cl<|.bl true)=>(match fd ρ with|some w=>GS z w|none=>none)
    |some (.cl<|.bl false)=>some<|.cl<|.bl false
    |_=>none)
   |none=>none)
  |some (.cl<|.bl false)=>some<|.cl<|.bl false
  |_=>none
 |_,_=>none
theorem bI{K:W.Frag}{k k' GS:RV->RV->Option RV}{r r' FN:R2}(hk:DE K k r)(Bi:DE K k' r')(MJ:DE K GS FN){σ:St}{H:Hp}{Q:VK}(h:tX K (De k k' GS fa fb fc fd) σ H Q):Ue r r' FN (tX K fa) (tX K fb) (tX K fc) (tX K fd) σ H Q:=by
 obtain⟨G,ρ,z,R,e,q⟩:=h;unfold De at e;split at e
 .rename_i x y ea eb;refine⟨G,ρ,x,R,ea,λvx G1 H1 s1 rx=>⟨G1,ρ,y,R.step s1,eb,λvy G2 H2 s2 ry=>?_⟩⟩;split at e
  .rename_i ek;cases ec:fc ρ with
   |none=>rw[ec]at e;cases e
   |some w=>
    rw[ec]at e;dsimp only at e;refine hk x y _ H G2 H2 vx vy _ s2.sub (s1.hh.trans s2.hh) ek (rx.step s2) (ry.back s1.hh) λv G3 H3 s3 rv=>⟨true,rv.bl,?_⟩;have Ef:=(s1.trans s2).trans s3;refine⟨G3,ρ,w,R.step Ef,ec,λvw G4 H4 s4 CM=>?_⟩;split at e
    .rename_i RN;cases ed:fd ρ with
     |none=>rw[ed]at e;cases e
     |some w2=>
      rw[ed]at e;refine Bi y w _ H G4 H4 vy vw _ s4.sub (Ef.trans s4).hh RN ((ry.back s1.hh).step<|s3.trans s4) (CM.back Ef.hh) λv5 G5 H5 s5 UD=>⟨true,UD.bl,?_⟩;have FP:=(Ef.trans s4).trans s5;refine⟨G5,ρ,w2,R.step FP,ed,λxA G6 H6 s6 uZ=>?_⟩;exact MJ w w2 z H G6 H6 vw xA Q s6.sub (FP.trans s6).hh e ((CM.back Ef.hh).step<|s5.trans s6) (uZ.back FP.hh) λv7 G7 H7 s7 uY=>q v7 G7 H7 ((FP.trans s6).trans s7) uY
    .rename_i RN;cases e;refine Bi y w _ H G4 H4 vy vw _ s4.sub (Ef.trans s4).hh RN ((ry.back s1.hh).step<|s3.trans s4) (CM.back Ef.hh) λv5 G5 H5 s5 UD=>⟨false,UD.bl,?_⟩;exact q _ G5 H5 ((Ef.trans s4).trans s5)<|by rfl
    .cases e
  .rename_i ek;cases e;refine hk x y _ H G2 H2 vx vy _ s2.sub (s1.hh.trans s2.hh) ek (rx.step s2) (ry.back s1.hh) λv G3 H3 s3 rv=>⟨false,rv.bl,?_⟩;exact q _ G3 H3 ((s1.trans s2).trans s3)<|by rfl
  .cases e
 .cases e
theorem qk{op B1 EI:CmpOp}{k k' GS:RV->RV->Option RV}(h1:Cj X op k)(h2:Cj X B1 k')(h3:Cj X EI GS)(ha:PX X a fa)(hb:PX X b fb)(EU:PX X c fc)(hd:PX X d fd)(hm:lastMarks [op,B1,EI] [b,c,d]=false) : PX X (.Compare a [op,B1,EI] [b,c,d] pos)<|De k k' GS fa fb fc fd:=by
 obtain⟨r,ho,hk⟩:=h1.ex;obtain⟨r',Bz,Bi⟩:=h2.ex;obtain⟨FN,Jg,MJ⟩:=h3.ex;exact PE.imp (pH ho Bz Jg ha hb EU hd hm) λ_ _ _ h=>bI hk Bi MJ h
theorem so{op B1 EI:CmpOp}{k k' GS:RV->RV->Option RV}(h1:Cj X op k)(h2:Cj X B1 k')(h3:Cj X EI GS)(ha:PX X a fa)(hb:PX X b fb)(EU:PX X c fc)(hd:PX X d fd)(hm:lastMarks [op,B1,EI] [b,c,d]=false) : DF X (.Compare a [op,B1,EI] [b,c,d] pos)<|AN<|De k k' GS fa fb fc fd:=by
 obtain⟨r,ho,hk⟩:=h1.ex;obtain⟨r',Bz,Bi⟩:=h2.ex;obtain⟨FN,Jg,MJ⟩:=h3.ex;exact PT.imp (qS ho Bz Jg ha hb EU hd hm) λ_ _ _ h=>bI hk Bi MJ<|P7 h
noncomputable def HF(h:Heap)(dx:PyData)(u:Value):Bool:=@decide (∃(dd:PyData)(as:List Addr),Reads h u dd as/\dd.canLay0=true/\PyData.eqv dd dx=true)<|Classical.propDecidable _
theorem Ww{h:Heap}{dx dd:PyData}{u:Value}{as:List Addr}(r:Reads h u dd as)(hc:dd.canLay0=true):HF h dx u=PyData.eqv dd dx:=by
 cases he:PyData.eqv dd dx with
 |true=>exact @decide_eq_true _ (Classical.propDecidable _) ⟨dd,as,r,hc,he⟩
 |false=>
  refine @decide_eq_false _ (Classical.propDecidable _) ?_;rintro⟨d',dg,r',_,e'⟩;have:=SeqAt.Reads.unique dd d' u as dg hc r r';subst this;rw[he]at e';cases e'
def inD(ps:List PV)(x:PV):Bool:=ps.any λp=>PyData.eqv (Ax p)<|Ax x
def Z3(K:W.Frag)(neg:Bool):R2:=λx y H Q=>∃(px:PV)(ps:List PV)(vs:List V)(p:Addr),y=.ref p/\(CO K H p vs\/CB K H p vs)/\Ac K H ps vs/\Rep K H px x/\SeqAt.shaped (Ax px)=true/\(∀p∈ps,SeqAt.shaped (Ax p)=true)/\Q (.bl (if neg=true then !inD ps px else inD ps px)) H
theorem Qu{AE:List (Addr×Obj)}{σ:St}{H:Hp}{s:Shared}(I:Inv X AE σ H s){dx:PyData}:∀{ps:List PV}{vs:List V}{us:List Value},Ac X.K H ps vs->An vs us->(∀p∈ps,SeqAt.shaped (Ax p)=true)->us.any (HF s.heap dx)=ps.any λp=>PyData.eqv (Ax p) dx
 |[],vs,us,h,r,_=>by subst h;cases r;rfl
 |p::ps,vs,us,h,r,hs=>by
  obtain⟨v,vr,rfl,hv,hr⟩:=h;cases r with
  |cons r1 r2=>
   obtain⟨as,ra⟩:=Rep.reads I (SeqAt.canLay_of_shaped<|hs p AAf) hv r1;rw[ABM,ABM,Ww ra<|SeqAt.canLay_of_shaped<|hs p AAf,Qu I hr r2 λq hq=>hs q<|AAX _ hq]
theorem TQ{AE:List (Addr×Obj)}{σ:St}{H:Hp}{s:Shared}(I:Inv X AE σ H s)(hu:X.A.units+66<cLine){px:PV}{vx:V}{ux:Value}(hx:Rep X.K H px vx)(rx:RelV vx ux)(sx:SeqAt.shaped (Ax px)=true):∀{ps:List PV}{vs:List V}{us:List Value},Ac X.K H ps vs->An vs us->(∀p∈ps,SeqAt.shaped (Ax p)=true)->∀u∈us,SeqAt.EqAt X.A.in1 s u ux (HF s.heap (Ax px) u)
 |[],vs,us,h,r,_=>by subst h;cases r;intro u hu;cases hu
 |p::ps,vs,us,h,r,hs=>by
  obtain⟨v,vr,rfl,hv,hr⟩:=h;cases r with
  |cons r1 r2=>
   intro u hm;rcases AAi.mp hm with rfl|hm
   .have sp:=hs p AAf;obtain⟨as,ra⟩:=Rep.reads I (SeqAt.canLay_of_shaped sp) hv r1;obtain⟨bs,rb⟩:=Rep.reads I (SeqAt.canLay_of_shaped sx) hx rx;rw[Ww ra<|SeqAt.canLay_of_shaped sp];exact SeqAt.eqAt_reads _ _ _ _ _ _ as bs ra rb (SeqAt.canLay_of_shaped sp) (SeqAt.canLay_of_shaped sx) (SeqAt.room_of_shaped sp (by show X.A.units+1+64<cLine;omega))
   .exact TQ I hu hx rx sx hr r2 (λq hq=>hs q<|AAX _ hq) u hm
theorem oR(hu:X.A.units+66<cLine):Ba X (compareOp .NotIn)<|Z3 X.K true:=by
 intro AE s σ H x y v u Q I rx ry h;obtain⟨px,ps,vs,p,rfl,hq,rl,hx,sx,ss,q⟩:=h;cases ry;rcases hq with hq|hq
 .obtain⟨its,r,pl,hz⟩:=I.list hq;refine SeqAt.notIn_listAt (HF s.heap<|Ax px) pl.isList (λw hw=>TQ I hu hx rx sx rl r ss w<|by simpa using hw) ⟨.bl _,H,I,rfl,?_⟩;rw[show its.toArray.any (HF s.heap<|Ax px)=its.any (HF s.heap<|Ax px)by simp,Qu I rl r ss];exact q
 .obtain⟨its,r,pl,hz⟩:=I.tuple hq;refine SeqAt.notIn_tupleAt (HF s.heap<|Ax px) pl (λw hw=>TQ I hu hx rx sx rl r ss w<|by simpa using hw) ⟨.bl _,H,I,rfl,?_⟩;rw[show its.toArray.any (HF s.heap<|Ax px)=its.any (HF s.heap<|Ax px)by simp,Qu I rl r ss];exact q
def aV(ps:List PV):Bool:=ps.all λp=>SeqAt.shaped<|Ax p
def GV(neg:Bool)(x y:RV):Option RV:=match y.seq with
 |some ps=>if SeqAt.shaped (Ax x.any)=true/\aV ps=true then some (.cl (.bl (if neg=true then !inD ps x.any else inD ps x.any)))else none
 |none=>none
theorem n6{K:W.Frag}{neg:Bool}:DE K (GV neg)<|Z3 K neg:=by
 intro x y z H0 G H vx vy Q sub sh e rx ry q;unfold GV at e;split at e
 .rename_i ps es;split at e
  .rename_i hs;cases e;obtain⟨a,vs,rfl,hq,rl⟩:=ry.seq sub es;refine⟨x.any,ps,vs,a,rfl,hq,Ac.same sub rl,rx.any sub,hs.1,λp hp=>ABH.mp hs.2 p hp,q _ G H (A0.refl sub) ?_⟩
   rfl
  .cases e
 .cases e
theorem fq(hu:X.A.units+66<cLine):Cj X .NotIn<|GV true:=⟨_,oR hu,n6⟩
end
theorem bW{k:Nat}{A:Around}(r:B4 k A):A.units+66<cLine:=by have:=r.un;omega
inductive Gs where
 |o (x:Out)|ex (nm:Str)
abbrev YF:=AX->Option Gs
def Ni(K:W.Frag)(E:XK)(AV AS G:Hp)(D:Ends):Gs->Prop
 |.o x=>JK K AV AS G D x
 |.ex nm=>∀C H',C8 K nm C->As AS H'->As G H'->E (.ref C) none H'
theorem Ni.mono{K:W.Frag}{E:XK}{AV AS G G1:Hp}{D:Ends}{o:Gs}(s:As G G1)(h:Ni K E AV AS G D o):Ni K E AV AS G1 D o:=by
 cases o with
 |o x=>exact JK.mono s h
 |ex nm=>exact λC H' e a b=>h C H' e a<|s.trans b
def Ul(K:W.Frag)(E:XK)(AV AS:Hp)(g:YF):TS:=λD σ H=>∃G ρ o,SR K AV AS G H ρ σ/\g ρ=some o/\Ni K E AV AS G D o
def Gv(X:Cx)(E:XK)(AV AS:Hp)(st:Stmt)(g:YF):Prop:=PS X st<|Ul X.K E AV AS g
def FU(X:Cx)(E:XK)(AV AS:Hp)(st:List Stmt)(g:YF):Prop:=CV X st<|Ul X.K E AV AS g
noncomputable def yL(g:SF):YF:=λρ=>(g ρ).map .o
noncomputable def Bk(g h:YF):YF:=λρ=>match g ρ with|some (.o<|.nx ρ')=>h ρ'|o=>o
noncomputable def DR(t:BF)(g h:YF):YF:=λρ=>match t ρ with|some true=>g ρ|some false=>h ρ|none=>none
noncomputable def Uz(nm:Str):YF:=λ_=>some<|.ex nm
def UP(K:W.Frag)(n:Nat)(F:List PV->Option RV)(XF:List PV->Option Str):Sp:=λvs H Q E=>vs.length=n/\∃G ps,As G H/\Ac K G ps vs/\
 ((∃r,F ps=some r/\∀v G' H',A0 G H G' H'->Bt K H G' H' r v->Q v H')\/(∃nm,XF ps=some nm/\∀C H',C8 K nm C->As H H'->E (.ref C) none H'))
def Bc(F:List PV->Option RV)(XF:List PV->Option Str)(ga:AF):YF:=λρ=>match ga ρ with
 |some rs=>(match CW rs with
  |some ps=>(match F ps with|some _=>some (.o<|.nx ρ)|none=>(match XF ps with|some nm=>some (.ex nm)|none=>none))
  |none=>none)
 |none=>none
section
variable{X:Cx}{E:XK}{AV AS:Hp}{a b c e tg iter:Expr}{es:List Expr}{fa fb fc f:EF}{ga:AF}{t:BF}{pos:Pos}{st:Stmt}{A7 body Lz:List Stmt}{g h:YF}
theorem tO{g:SF}(h:CG X AV AS st g):Gv X E AV AS st<|yL g:=PS.imp h (by
 rintro D σ H ⟨G,ρ,o,S,e,k⟩;unfold yL at e;cases eg:g ρ with
 |none=>rw[eg]at e;cases e
 |some x=>rw[eg]at e;cases e;exact⟨G,ρ,x,S,eg,k⟩)
theorem tP{g:SF}(h:DX X AV AS A7 g):FU X E AV AS A7<|yL g:=CV.imp h (by
 rintro D σ H ⟨G,ρ,o,S,e,k⟩;unfold yL at e;cases eg:g ρ with
 |none=>rw[eg]at e;cases e
 |some x=>rw[eg]at e;cases e;exact⟨G,ρ,x,S,eg,k⟩)
theorem tR(h1:Gv X E AV AS st g):FU X E AV AS [st] g:=Z0 h1
theorem tM(h1:Gv X E AV AS st g)(h2:FU X E AV AS A7 h):FU X E AV AS (st::A7)<|Bk g h:=CV.imp (Zz h1 h2) (by
 rintro D σ H ⟨G,ρ,o,S,e,k⟩;unfold Bk at e;cases eg:g ρ with
 |none=>rw[eg]at e;cases e
 |some o1=>
  rw[eg]at e;cases o1 with
  |ex nm=>cases e;exact⟨G,ρ,_,S,eg,k⟩
  |o x=>
   cases x with
   |nx A5=>exact⟨G,ρ,_,S,eg,λAY G' H' s S'=>⟨G',A5,o,S',e,k.mono s⟩⟩
   |rt r=>cases e;exact⟨G,ρ,_,S,eg,k⟩
   |bk r=>cases e;exact⟨G,ρ,_,S,eg,k⟩
   |ct r=>cases e;exact⟨G,ρ,_,S,eg,k⟩)
theorem tN(hc:DF X c t)(ha:FU X E AV AS body g)(hb:FU X E AV AS Lz h):Gv X E AV AS (.If c body Lz pos)<|DR t g h:=PS.imp (Zy hc ha hb) (by
 rintro D σ H ⟨G,ρ,o,S,e,k⟩;unfold DR at e;split at e
 .rename_i et;exact⟨G,ρ,true,S.r,et,λG1 H1 s1=>YZ ⟨G1,ρ,o,S.step s1,e,k.mono s1.gg⟩⟩
 .rename_i et;exact⟨G,ρ,false,S.r,et,λG1 H1 s1=>YY ⟨G1,ρ,o,S.step s1,e,k.mono s1.gg⟩⟩
 .cases e)
theorem tS{x:Str}{np Au:Pos}{m:Str}{j:Nat}{mp:Pos}{Hz:List Value}{B Im So:String}(O:∃C,C8 X.K x C/\OwnCls x C Hz Im X.mg X.base)(FB:ExcBaseFacts B Im So Hz)(hc:X.calm=true)(hx:Raises X E)(hg:Gl X x)(hd:(x==("__debug__"))=false) (he:starEach [.Constant (.str m) j mp] X.env=(false,eval (.Constant (.str m) j mp) X.env)::starEach [] X.env) (BM:(backTo Au<|starEach [] X.env).any (·.1)=false) : Gv X E AV AS (.Raise (some<|.Call (.Name x np) [.Constant (.str m) j mp] [] Au) none pos)<|Uz x:=by
 obtain⟨C,hC,O⟩:=O;refine PS.imp (qM O FB hc hg (Fv Zn Hd) hx hd he BM) λD σ H ⟨G,ρ,o,S,e,k⟩=>?_;cases e;exact⟨by show 1<=sizeLine;decide,k C H hC S.hh S.r.sub⟩
theorem tK{x:Str}{n:Nat}{F:List PV->Option RV}{XF:List PV->Option Str}{p:Pos}{CX:D6}{k:Nat}{fa:Addr}{fd:FuncData}{ps:List Str}(Fn:Co X.prog X.w X.K X.mg X.base CX k fa fd ps<|UP X.K n F XF)(hr:B4 k X.A)(hm:X.mg x=some (.ref fa))(hk:W.keepIn X.K (.ref fa)=true)(hb:Binds X.K fd ps []) (hp:Passes CX X E) (ha:Cb X (e::es) ga) (MI:∀ρ rs,ga ρ=some rs->rs.length=n) (hg:Gl X x:=by rfl) (Ca:(x==("__debug__"))=false:=by decide) (he:starEach (e::es) X.env=(false,eval e X.env)::starEach es X.env:=by rfl) {Au:Pos} (BM:(backTo Au<|starEach es X.env).any (·.1)=false:=by rfl) (hs:swapsWith (.Call (.Name x p) (e::es) [] Au) none pos.line X.env=pure false:=by rfl):Gv X E AV AS (.Expr (.Call (.Name x p) (e::es) [] Au) pos)<|Bc F XF ga:=by
 refine PS.imp (M3 (Zk Fn hr hg hm hk hb .nil hp ha Ca he BM) hs) λD σ H ⟨G,ρ,o,S,e,k⟩=>?_;unfold Bc at e;split at e
 .rename_i rs eg;split at e
  .rename_i qs eq;refine⟨G,ρ,rs,S.r,eg,λvs G1 H1 s1 rv=>⟨?_,D2 G1 H H1,qs,s1.all.sub,?_,?_⟩⟩
   .rw[AB7,<-MI ρ rs eg];exact(Paired.length rv).symm
   .rw[AB7];exact JN s1.sub rv eq
   .split at e
    .rename_i r er;cases e;exact .inl ⟨r,er,λv G' H' s _=>k σ _ H' (s1.all.gg.trans s.gg)<|(S.step s1.all).step s⟩
    .split at e
     .rename_i nm ex;cases e;exact .inr ⟨nm,ex,λC H' hC sm=>k C H' hC (S.hh.trans<|s1.hh.trans sm)<|S.r.sub.trans<|s1.hh.trans sm⟩
     .cases e
  .cases e
 .cases e
end
def Gs.val:Gs->Option RV
 |.o x=>x.val
 |.ex _=>none
noncomputable def Gs.exc:Gs->Option Str
 |.ex nm=>some nm
 |.o _=>none
def Cu(N n:Nat)(g:YF):List PV->Option RV:=λps=>if ps.length=n then(g<|A8 N ps).bind Gs.val else none
def Dd(N n:Nat)(g:YF):List PV->Option Str:=λps=>if ps.length=n then(g<|A8 N ps).bind Gs.exc else none
theorem i5{P:Program}{w:World}{K:W.Frag}{mg:Str->Option Value}{base:Heap}{x qual:Str}{st:Stmt}{f:Addr}{fd:FuncData}{N ps:List Str}{k:Nat}{g:YF}(F:EL K x qual st f fd)(S:Gp N ps<|BR st) (Fh:∀(A1:Value)(A:Around)(outer:List Env)(s:Shared)(H:Hp)(E:XK)(AV AS:Hp),B4 k (A.deeper<|envOfC qual (BR st) s.heap.objs.size f A1)->FU (Lv P w K mg base N qual (BR st) f A1 A outer s H E) E AV AS (Dy st) g) : Co P w K mg base (Gm P w) (k+1) f fd ps<|UP K ps.length (Cu N.length ps.length g)<|Dd N.length ps.length g:=by
 obtain⟨oc,od,kV,doc,pm,an,A1,ct,Fu,rfl,lk,BI⟩:=F.ex;refine XS lk BI S (λvs H Q E h=>h.1) λA outer s H vs Q E hr h=>?_;obtain⟨hl,G,qs,sub,rl,h⟩:=h;refine⟨_,Fh A1 A outer s H E G H hr,?_⟩;rcases h with⟨r,e,q⟩|⟨nm,e,q⟩
 .unfold Cu at e;split at e
  .cases eg:g (A8 N.length qs)with
   |none=>rw[eg]at e;cases e
   |some o=>
    rw[eg]at e;refine⟨G,A8 N.length qs,o,UQ sub rl,eg,?_⟩;cases o with
    |ex nm=>cases e
    |o x=>
     cases x with
     |rt r'=>cases e;exact λv G' H' s rv=>q v G' H' s rv
     |nx ρ=>cases e;exact λAY G' H' s S'=>q .A4 G' H' S'.LK<|by rfl
     |bk ρ=>cases e
     |ct ρ=>cases e
  .cases e
 .unfold Dd at e;split at e
  .cases eg:g (A8 N.length qs)with
   |none=>rw[eg]at e;cases e
   |some o=>
    rw[eg]at e;refine⟨G,A8 N.length qs,o,UQ sub rl,eg,?_⟩;cases o with
    |ex zk=>cases e;exact λC H' hC sm _=>q C H' hC sm
    |o x=>cases e
  .cases e
def DV(P:Program)(w:World)(K:W.Frag)(mg:Str->Option Value)(base:Heap)(x:Str)(k n:Nat)(F:List PV->Option RV)(XF:List PV->Option Str):Prop:=
 ∃f fd ps,Co P w K mg base (Gm P w) k f fd ps (UP K n F XF)/\mg x=some (.ref f)/\W.keepIn K (.ref f)=true/\Binds K fd ps []/\ps.length=n
theorem DV.toG{P:Program}{w:World}{K:W.Frag}{mg:Str->Option Value}{base:Heap}{x:Str}{k n:Nat}{F:List PV->Option RV}{XF:List PV->Option Str}(h:DV P w K mg base x k n F XF):BV P w K mg base x k n F:=by
 obtain⟨f,fd,ps,h1,h2,h3,h4,h5⟩:=h;refine⟨f,fd,ps,⟨λvs H Q E z=>by rw[h5];exact z.1,λA outer s H args us vs Q E hr e0 hb r z=>?_⟩,h2,h3,h4,h5⟩;obtain⟨hl,G,qs,rr,sub,rl,e,q⟩:=z;refine codeAny_mono (h1.run A outer s H args us vs Q E0 hr e0 hb r ⟨hl,G,qs,sub,rl,.inl ⟨rr,e,q⟩⟩) λres s' hq=>?_;cases res with
 |error e=>
  obtain⟨_,_,_,_,_,_,z⟩:=hq;exact z.elim
 |ok fl=>cases fl<;>exact hq
noncomputable def Sy(nm c:Str):Bool:=c==("ValueError" : Str)||c==("WardError" : Str)||nm==c
def HN(L:List Str)(i:Nat)(c:Str):EF:=λρ=>match ρ[i]? with|some (some<|.exc nm)=>if L.contains nm=true then some (.cl<|.bl<|Sy nm c)else none|_=>none
def t6(K:W.Frag)(c:Value):List V->Hp->VK->Prop:=λvs H Q=>∃a D y b,vs=[.ref a,y]/\(∀u,RelV y u->u=c)/\H a=some (.ext<|EM a D)/\LV K D/\W.kitOne K (.ref D) c=some b/\Q (.bl b) H
section
variable{X:Cx}{AV AS:Hp}{a b e:Expr}{es:List Expr}{fa fb f:EF}{ga:AF}{pos:Pos}
theorem eh{c:Value}:DT X (.builtin "isinstance")<|t6 X.K c:=by
 intro AE s σ H xs us Q I r h;obtain⟨x,D,y,k,rfl,hy,ha,Z,hk,q⟩:=h;obtain⟨u,u2,rfl,ru,UA⟩:=vals2 r;cases (show u=Value.ref x from ru);rw[hy u2 UA];have hx:=(show Bx X.prog X.w H s.heap x (.ext<|EM x D)from I.Ae x _ ha).1;exact W.kia_one (mM Z) I.BB hx hk (λz=>nomatch z) λtk=>⟨.bl k,H,I.tok _,rfl,q⟩
def Ht(K:W.Frag)(L:List Str)(x:Str)(c:Value):Prop:=∀nm D,L.contains nm=true->C8 K nm D->LV K D/\W.kitOne K (.ref D) c=some (Sy nm x)
theorem Z1{L:List Str}(i:Nat){n x:Str}{u:Value}{y:V}{np p p2:Pos}(T:Ht X.K L x u)(hy:∀z,RelV y z->z=u)(hc:PE X (.Name x p2)<|tC y)(hm:X.mg "isinstance" = none)(hN:X.N[i]? = some n:=by rfl)(hv:DZ X.env.scope n:=by first|exact Or.inl rfl|exact Or.inr (Or.inl rfl)|exact Or.inr<|Or.inr rfl) (hd:(n==("__debug__"))=false:=by decide) (BI:(n==("__classdict__"))=false:=by decide) (hg:Gl X "isinstance":=by rfl) (he:starEach [.Name n np,.Name x p2] X.env=(false,eval (.Name n np) X.env)::starEach [.Name x p2] X.env:=by rfl) (IV:starEach [.Name x p2] X.env=(false,eval (.Name x p2) X.env)::starEach [] X.env:=by rfl) (BM:(backTo pos<|starEach [.Name x p2] X.env).any (·.1)=false:=by rfl) : PX X (.Call (.Name "isinstance" p) [.Name n np,.Name x p2] [] pos)<|HN L i x:=by
 refine PE.imp (Pd (eh (c:=u)) hg hm Vo (Fv (Ex  hN hv hd BI) (Fv hc Hd IV) he) AAC AAC he BM) λσ H Q ⟨G,ρ,r,R,e,q⟩=>?_;unfold HN at e;split at e
 .rename_i nm hn;split at e
  .rename_i hL;cases e;obtain⟨v,ev,x,D,rfl,hD,hG⟩:=R.slot i _ hn;obtain⟨Z,hk⟩:=T nm D hL hD;exact⟨_,ev,x,D,y,_,rfl,hy,R.sub _ _ hG,Z,hk,q _ G H (A0.refl R.sub)<|by rfl⟩
  .cases e
 .cases e
theorem o9{x:Str}{C:Addr}{p:Pos}(hm:X.mg x=some (.ref C))(hg:Gl X x:=by rfl)(hd:(x==("__debug__"))=false:=by decide):PE X (.Name x p)<|tC<|.ref C:=Ts hg hm rfl hd
theorem o8{x:Str}{T:String}{p:Pos}(hm:X.mg x=none)(hv:bootBuiltins x=some (.type T))(hg:Gl X x:=by rfl)(hn:x≠"__name__":=by decide)(hd:(x==("__debug__"))=false:=by decide):PE X (.Name x p)<|tC<|.ty T:=Zi hg hm hv rfl hn hd
def tw:V->List V->Hp->VK->Prop:=λx vs H Q=>∃(l:Addr)(bs:List Bool)(b:Bool),x=.ref l/\vs=[.bl b]/\Rd H l (.lst<|bs.map V.bl)/\Q (.int (bs.countP (· == b))) H
theorem Vm{bs:List Bool}{us:List Value}(r:An (bs.map V.bl) us):us=bs.map Value.bool:=by
 induction bs generalizing us with
 |nil=>cases r;rfl
 |cons b bs ih=>
  cases r with
  |cons r1 r2=>rw[show _=Value.bool b from r1,ih r2];rfl
theorem nG:JJ X "list.count" tw:=by
 intro AE s σ H x vs v us Q I rx rv h;obtain⟨l,bs,b,rfl,rfl,hH,q⟩:=h;cases rx;obtain⟨u,rfl,ru⟩:=rv.one;obtain rfl:u=Value.bool b:=ru;obtain⟨z,its,n,r,e⟩:=hH.ok I.Ae;have hi:=Vm r;subst hi;refine call_meets F.slot_list_count ⟨_,e,rfl⟩ F.entry_list_count (F.args_list_count_2 _ _) (SeqAt.list_countAt l _ n none _ (.bool b) (λy=>match y with|.bool k=>k==b|_=>false)) ⟨e,λy hy=>?_,?_⟩
 .rw[List.mem_toArray]at hy;obtain⟨k,_,rfl⟩:=ABG.mp hy;exact SeqAt.EqAt.bool_bool k b
 .refine⟨.int _,H,I.tok _,⟨_,rfl⟩,?_⟩;have:((bs.map Value.bool).toArray.toList.countP λy=>match y with|.bool k=>k==b|_=>false)=bs.countP (· == b):=by
   rw[List.countP_map];rfl
  rw[this];exact q
def tx:V->List V->Hp->VK->Prop:=λx vs H Q=>∃(l:Addr)(bs:List Bool)(b:Bool),x=.ref l/\vs=[.bl b]/\Rd H l (.lst<|bs.map V.bl)/\bs.idxOf b<bs.length/\Q (.int<|bs.idxOf b) H
theorem my{bs:List Bool}{y:Value}(h:y∈(bs.map Value.bool).toArray):∃k,y=.bool k:=by
 rw[List.mem_toArray]at h;obtain⟨k,_,e⟩:=ABG.mp h;exact⟨k,e.symm⟩
theorem nH:JJ X "list.index" tx:=by
 intro AE s σ H x vs v us Q I rx rv h;obtain⟨l,bs,b,rfl,rfl,hH,BH,q⟩:=h;cases rx;obtain⟨u,rfl,ru⟩:=rv.one;obtain rfl:u=Value.bool b:=ru;obtain⟨z,its,n,r,e⟩:=hH.ok I.Ae;have hi:=Vm r;subst hi;have hz:=by simpa using z
 have zK:sizeLine<2 ^ 62:=AAC
 have Kq:bs.idxOf b<(bs.map Value.bool).toArray.size:=by simpa using BH
 have Sa:((bs.idxOf b):Int)<2 ^ 63-1:=AAA
 refine call_meets F.slot_list_index ⟨_,e,rfl⟩ F.entry_list_index (F.args_list_index_2 _ _) (SeqAt.list_indexAt l _ n none _ (.bool b) (λy=>match y with|.bool k=>k==b|_=>false) (bs.idxOf b) Kq Sa ?_ (λm hm Kq=>?_)) ⟨e,λy hy=>?_,?_⟩
 .simp
 .simpa using List.not_of_lt_findIdx  Kq
 .obtain⟨k,rfl⟩:=my hy;exact SeqAt.EqAt.bool_bool k b
 .exact⟨.int _,H,I.tok _,⟨_,rfl⟩,q⟩
end
section
variable{X:Cx}{E:XK}{AV AS:Hp}{a b e:Expr}{es:List Expr}{fa fb f:EF}{ga:AF}{pos:Pos}
def Oy(x y:RV):Option RV:=match x.list,y with
 |some ps,.cl (.bl b)=>(match FA ps with|some bs=>some (.cl (.int (bs.countP (· == b))))|none=>none)
 |_,_=>none
def O0(x y:RV):Option RV:=match x.list,y with
 |some ps,.cl (.bl b)=>(match FA ps with|some bs=>if bs.idxOf b<bs.length then some (.cl<|.int<|bs.idxOf b)else none|none=>none)
 |_,_=>none
theorem qo{ap Au:Pos}(ha:PX X a fa)(hb:PX X b fb)(Dj:attributeBase a "count" X.env (eval a X.env)=eval a X.env) (EX:((backTo Au<|starEach [b] X.env).all (λx=>!x.1)&&(backToKw Au<|keywordEach [] X.env).all (λx=>x.1.isSome)&&decide ([b].length+([]:List Keyword).length+(if([]:List Keyword).isEmpty then 0 else 1)<30))=true)
 (Dk:(ap.endLine==Au.line)=true) (hs:starEach [b] X.env=(false,eval b X.env)::starEach [] X.env) (Fm:(backTo Au<|starEach [] X.env).any (·.1)=false) :
 PX X (.Call (.Attribute a "count" ap) [b] [] Au) (f2 Oy fa fb):=
 PE.imp (My ABb PySem.F.slot_list_count PySem.F.type_list_count nG ha (Fv hb Hd hs) Dj EX Dk hs Fm) (by
  rintro σ H Q ⟨G,ρ,r,R,e,q⟩;unfold f2 at e;cases ea:fa ρ with
  |none=>rw[ea]at e;cases e
  |some x=>
   rw[ea]at e;cases eb:fb ρ with
   |none=>rw[eb]at e;cases e
   |some y=>
    rw[eb]at e;dsimp only at e;unfold Oy at e;split at e
    .rename_i ps k el;split at e
     .rename_i bs RM;cases e;refine⟨G,ρ,x,R,ea,λvx G1 H1 s1 rx=>?_⟩;obtain⟨l,vs,rfl,hl,rl⟩:=rx.list s1.sub el;refine⟨.inl ⟨rfl,vs,.inl hl⟩,G1,ρ,_,R.step s1,eb,λvy G2 H2 s2 ry=>?_⟩;rw[Lp RM rl]at hl;exact⟨l,bs,k,rfl,by rw[ry.bl],Rd.same s2.hh hl,q _ G2 H2 (s1.trans s2)<|by rfl⟩
     .cases e
    .cases e)
theorem qw{ap Au:Pos}(ha:PX X a fa)(hb:PX X b fb)(Dj:attributeBase a "index" X.env (eval a X.env)=eval a X.env) (EX:((backTo Au<|starEach [b] X.env).all (λx=>!x.1)&&(backToKw Au<|keywordEach [] X.env).all (λx=>x.1.isSome)&&decide ([b].length+([]:List Keyword).length+(if([]:List Keyword).isEmpty then 0 else 1)<30))=true)
 (Dk:(ap.endLine==Au.line)=true) (hs:starEach [b] X.env=(false,eval b X.env)::starEach [] X.env) (Fm:(backTo Au<|starEach [] X.env).any (·.1)=false) :
 PX X (.Call (.Attribute a "index" ap) [b] [] Au) (f2 O0 fa fb):=
 PE.imp (My ABb PySem.F.slot_list_index PySem.F.type_list_index nH ha (Fv hb Hd hs) Dj EX Dk hs Fm) (by
  rintro σ H Q ⟨G,ρ,r,R,e,q⟩;unfold f2 at e;cases ea:fa ρ with
  |none=>rw[ea]at e;cases e
  |some x=>
   rw[ea]at e;cases eb:fb ρ with
   |none=>rw[eb]at e;cases e
   |some y=>
    rw[eb]at e;dsimp only at e;unfold O0 at e;split at e
    .rename_i ps k el;split at e
     .rename_i bs RM;split at e
      .rename_i BH;cases e;refine⟨G,ρ,x,R,ea,λvx G1 H1 s1 rx=>?_⟩;obtain⟨l,vs,rfl,hl,rl⟩:=rx.list s1.sub el;refine⟨.inl ⟨rfl,vs,.inl hl⟩,G1,ρ,_,R.step s1,eb,λvy G2 H2 s2 ry=>?_⟩;rw[Lp RM rl]at hl;exact⟨l,bs,k,rfl,by rw[ry.bl],Rd.same s2.hh hl,BH,q _ G2 H2 (s1.trans s2)<|by rfl⟩
      .cases e
     .cases e
    .cases e)
def Nz(N:Nat)(g:SF):Str->Option RV:=λnm=>(g (some (.exc nm)::List.replicate (N-1) none)).bind Out.val
def UO(K:W.Frag)(Fw:Str->Option RV):List V->Hp->VK->Prop:=λvs H Q=>∃a C nm z,vs=[.ref a]/\C8 K nm C/\H a=some (.ext<|EM a C)/\Fw nm=some (.cl<|.int z)/\∀H',As H H'->Q (.int z) H'
theorem i4{P:Program}{w:World}{K:W.Frag}{mg:Str->Option Value}{base:Heap}{x qual y:Str}{st:Stmt}{f:Addr}{fd:FuncData}{N:List Str}{k:Nat}{g:SF}(F:EL K x qual st f fd)(S:Gp N [y]<|BR st) (Fh:∀(A1:Value)(A:Around)(outer:List Env)(s:Shared)(H:Hp)(AV AS:Hp),Dw k (A.deeper<|envOfC qual (BR st) s.heap.objs.size f A1)->DX (Nv P w K mg base N qual (BR st) f A1 A outer s H) AV AS (Dy st) g) : Lb P w K mg base (k+1) f fd [y]<|UO K<|Nz N.length g:=by
 refine i6 F S (λvs H Q h=>by obtain⟨_,_,_,_,rfl,_⟩:=h;rfl) λA1 A outer s H vs Q hr h=>?_;obtain⟨a,C,nm,z,rfl,hC,hH,e,q⟩:=h
 let G:Hp:=λb=>if b=a then some (.ext<|EM a C)else none
 have hG:As G H:=λb o hb=>by
  by_cases Xo:b=a
  .subst Xo;have:G b=some (.ext<|EM b C):=AAH rfl;rw[this]at hb;rw[hH];exact hb
  .have:G b=none:=AAG Xo;rw[this]at hb;cases hb
 refine⟨_,Fh A1 A outer s H G H hr,?_⟩;unfold Nz at e;cases eg:g (some (.exc nm)::List.replicate (N.length-1) none)with
 |none=>rw[eg]at e;cases e
 |some o=>
  rw[eg]at e;have Io:∀(i:Nat)(s:SV),(some (SV.exc nm)::List.replicate (N.length-1) none)[i]? = some (some s)->s.EZ=true->False:=λi s h o=>by
   cases i with
   |zero=>simp at h;subst h;cases o
   |succ i=>simp[ABA]at h
  refine⟨G,_,o,⟨⟨hG,λi sv h=>?_,λi j ps qs _ _ _ h o=>(Io i ps h o).elim,?_⟩,As.refl _,As.refl _,λ_ _ n=>n,λi ps _ o h=>(Io i ps h o).elim⟩,eg,?_⟩
  .cases i with
   |zero=>
    simp at h;subst h;exact⟨.ref a,by rfl,a,C,rfl,hC,AAH rfl⟩
   |succ i=>simp[ABA]at h
  .unfold start;simp
  .cases o with
   |rt r=>
    cases e;exact λv G' H' s rv=>by rw[rv.int];exact q H' s.hh
   |nx ρ=>cases e
   |bk ρ=>cases e
   |ct ρ=>cases e
def Kj(i j:Nat)(Fw:Str->Option RV):SF:=λρ=>match ρ[j]? with
 |some (some<|.exc nm)=>(match Fw nm with|some (.cl<|.int z)=>some (.nx<|ρ.set i<|some<|.im<|.int z)|_=>none)
 |_=>none
theorem sf(i j:Nat){x n y:Str}{p fp np Au:Pos}{Fw:Str->Option RV}{k:Nat}{fw:Addr}{fd:FuncData}{ps:List Str}(FM:Lb X.prog X.w X.K X.mg X.base k fw fd ps<|UO X.K Fw)(hr:Dw k X.A)(hm:X.mg y=some (.ref fw))(hk:W.keepIn X.K (.ref fw)=true)(hb:Binds X.K fd ps [])(hN:X.N.Nodup) (hi:X.N[i]? = some x:=by rfl) (hj:X.N[j]? = some n:=by rfl) (hx:Loc X.env.scope x:=by first|exact Or.inl rfl|exact Or.inr rfl) (hv:DZ X.env.scope n:=by first|exact Or.inl rfl|exact Or.inr (Or.inl rfl)|exact Or.inr<|Or.inr rfl) (hg:Gl X y:=by rfl) (hd:(n==("__debug__"))=false:=by decide) (BI:(n==("__classdict__"))=false:=by decide) (Ca:(y==("__debug__"))=false:=by decide) (he:starEach [.Name n np] X.env=(false,eval (.Name n np) X.env)::starEach [] X.env:=by rfl) (BM:(backTo Au<|starEach [] X.env).any (·.1)=false:=by rfl) (hs:swapsWith (.Call (.Name y fp) [.Name n np] [] Au) (some<|.Name x p) pos.line X.env=pure false:=by rfl) (hf:X.fn x=true\/X.env.scope.names.lookup x=some .local:=by first|exact .inl rfl|exact .inr rfl) : CG X AV AS (.Assign [.Name x p] (.Call (.Name y fp) [.Name n np] [] Au) pos)<|Kj i j Fw:=
 PS.imp (Ph  hN hi hx (pE FM hr hg hm hk hb (Fv (Ex  hj hv hd BI) Hd he) Ca he BM) hs hf) (by
  rintro D σ H ⟨G,ρ,o,S,e,ok⟩;unfold Kj at e;split at e
  .rename_i nm hn;split at e
   .rename_i z ez;cases e;obtain⟨v,ev,a,C,rfl,hC,hG⟩:=S.r.slot j _ hn;refine⟨_,ev,a,C,nm,z,rfl,hC,S.r.sub _ _ hG,ez,λH' sm=>?_⟩;have S':=S.step (show A0 G H G H' from⟨As.refl _,sm,S.r.sub.trans sm,λ_ _ n=>n⟩);exact ok _ _ _ (As.refl _)<|S'.turn (S'.r.Fz<|by rfl) DW.Fz
   .cases e
  .cases e)
theorem SR.ur{K:W.Frag}{G H:Hp}{ρ:AX}{σ:St}{i:Nat}(S:SR K AV AS G H ρ σ):SR K AV AS G H (ρ.set i none)<|σ.set i none:=by
 have back:∀(j:Nat)(sv:SV),(ρ.set i none)[j]? = some (some sv)->j≠i/\ρ[j]? = some (some sv):=λj sv h=>by
  by_cases hj:j=i
  .subst hj;rw[List.getElem?_set]at h;simp at h
  .rw[AAg<|AA3 hj]at h;exact⟨hj,h⟩
 have fwd:∀(j:Nat),j≠i->(σ.set i none)[j]? = σ[j]?:=λj hj=>AAg<|AA3 hj;refine⟨⟨S.r.sub,λj sv h=>?_,λj k ps qs b c Aq h1 o1 h2 o2 h3 h4=>?_,by simpa using S.r.len⟩,S.gg,S.hh,S.ex,λj ps b o1 h1 h2=>?_⟩
 .obtain⟨hj,h'⟩:=back j sv h;rw[fwd j hj];exact S.r.slot j sv h'
 .obtain⟨hj,IS⟩:=back j _ h1;obtain⟨hk,Xf⟩:=back k _ h2;rw[fwd j hj]at h3;rw[fwd k hk]at h4;exact S.r.apart j k ps qs b c Aq IS o1 Xf o2 h3 h4
 .obtain⟨hj,IS⟩:=back j _ h1;rw[fwd j hj]at h2;exact S.new j ps b o1 IS h2
def LR(N i:Nat)(L:List Str)(body:YF)(Iv:SF):YF:=λρ=>match body ρ with
 |some (.ex nm)=>if L.contains nm=true then(match Iv ((List.replicate N none).set i<|some<|.exc nm)with|some (.nx ρ')=>some (.o<|.nx<|ρ'.set i none)|_=>none)else none
 |o=>o
theorem tT{body Iv:List Stmt}{KW:Stmt}{x n:Str}{np Oe:Pos}{Wc:Addr}{i:Nat}{L:List Str}{gb:YF}{gs:SF}{N:Nat}(d:Le X)(hn:X.N.length=N)(hN:X.N.Nodup)(hi:X.N[i]? = some n)(hl:X.env.scope.names.lookup n=some .local)(hg:Gl X x)(hm:X.mg x=some (.ref Wc)) (T:∀nm C,L.contains nm=true->C8 X.K nm C->W.exmOne X.K (.ref C) (.ref Wc)=some true) (hex:∀nm,L.contains nm=true->∃C,C8 X.K nm C) (hb:∀(E':XK)(F4:Value->Shared->Prop)(Jt:List<|Addr×Obj),Passes (Gm X.prog X.w) (X.re F4 Jt) E'->FU (X.re F4 Jt) E' AV AS body gb) (hs:∀ea,DX (X.Eo ea) AV AS (KW::Iv) gs) (Ca:(x==("__debug__"))=false) : Gv X E AV AS (.Try body [.ExceptHandler (some<|.Name x np) (some n) (KW::Iv) Oe] [] [] pos)<|LR N i L gb gs:=by
 refine PS.imp (qO (tb:=λE'=>Ul X.K E' AV AS gb) (ts:=J5 X.K AV AS gs) d hN hi hl hg hm hb hs Ca) λD σ H ⟨G,ρ,o,S,e,k⟩=>?_;unfold LR at e;split at e
 .rename_i nm eb;split at e
  .rename_i hL;split at e
   .rename_i ρ' es;cases e;obtain⟨C,hC⟩:=hex nm hL;refine⟨λcls _ H'=>cls=.ref C/\As AS H'/\As G H',⟨G,ρ,_,S,eb,λC' H' jU s1 s2=>⟨by rw[C8.inj jU hC],s1,s2⟩⟩,?_⟩;rintro cls H' ⟨rfl,s1,s2⟩;refine⟨C,rfl,T nm C hL hC,λea AY Bj he=>?_⟩;have hG:=s2.free he;have h0:=s1.free he;have BH:=(AAL.mp hi).1;have gg:As G<|upd G ea<|.ext<|EM ea C:=λb o h=>by rw[BK<|DN h hG];exact h
    have Io:∀(j:Nat)(s:SV),((List.replicate N none).set i<|some<|SV.exc nm)[j]? = some (some s)->s.EZ=true->False:=λj s h o=>by
     rcases get_set h with⟨_,z⟩|⟨_,z⟩
     .subst z;cases o
     .simp[ABA]at z
    refine⟨upd G ea<|.ext<|EM ea C,_,_,⟨⟨λb o h=>?_,λj sv h=>?_,λj _ ps _ _ _ _ h o=>(Io j ps h o).elim,?_⟩,S.gg.trans gg,λb o h=>?_,λb h g0=>?_,λj ps _ o h=>(Io j ps h o).elim⟩,es,λC6 G2 H2 sg S2=>k _ G2 H2 (gg.trans sg) S2.ur⟩
    .by_cases hb:b=ea
     .subst hb;rw[C0]at h ⊢;exact h
     .rw[BK hb]at h ⊢;exact s2 _ _ h
    .rcases get_set h with⟨rfl,z⟩|⟨_,z⟩
     .cases z;exact⟨.ref ea,set_slot (by rw[Bj];exact BH),ea,C,rfl,hC,C0⟩
     .simp[ABA]at z
    .rw[ACS,ACS,ABk,Bj,hn]
    .rw[BK<|DN h h0];exact s1 _ _ h
    .obtain⟨o,hb⟩:=h.get;rw[BK<|DN hb h0];exact S.ex b h g0
   .cases e
  .cases e
 .rename_i Aq;refine⟨λ_ _ _=>False,⟨G,ρ,o,S,e,?_⟩,λ_ _ z=>z.elim⟩;cases o with
  |ex nm=>exact(Aq nm e).elim
  |o x=>exact k
end
theorem _root_.L2.Dw.units{k:Nat}{A:Around}(r:Dw k A):A.units+64<cLine:=by have:=r.un;omega
theorem _root_.L2.Dw.mono{j k:Nat}{A:Around}(r:Dw k A)(h:j<=k):Dw j A:=⟨by have:=r.dp;omega,by have:=r.un;omega⟩
theorem uR{k:Nat}{X:Cx}{ea:Addr}(r:B4 k X.A):Dw k (X.Eo ea).A:=⟨r.dp,r.un⟩
def Nh(P:Program)(w:World)(K:W.Frag)(mg:Str->Option Value)(base:Heap)(x:Str)(k:Nat)(Fw:Str->Option RV):Prop:=
 ∃f fd ps,Lb P w K mg base k f fd ps (UO K Fw)/\mg x=some (.ref f)/\W.keepIn K (.ref f)=true/\Binds K fd ps []
section
variable{X:Cx}{E:XK}{AV AS:Hp}{a b e:Expr}{es:List Expr}{fa fb f:EF}{ga:AF}{pos:Pos}
noncomputable def J9:YF:=λ_=>none
theorem tQ{A7:List Stmt}:FU X E AV AS A7 J9:=(by rintro _ _ _ _ _ _ ⟨_,_,_,_,e,_⟩;cases e)
theorem tL{x:Str}{j k n:Nat}{F:List PV->Option RV}{XF:List PV->Option Str}{p Au:Pos}(c:DV X.prog X.w X.K X.mg X.base x j n F XF)(hr:B4 k X.A)(hp:Passes (Gm X.prog X.w) X E)(ha:Cb X (e::es) ga)(MI:∀ρ rs,ga ρ=some rs->rs.length=n)(hk:j<=k) (hg:Gl X x) (Ca:(x==("__debug__"))=false) (he:starEach (e::es) X.env=(false,eval e X.env)::starEach es X.env) (BM:(backTo Au<|starEach es X.env).any (·.1)=false) (hs:swapsWith (.Call (.Name x p) (e::es) [] Au) none pos.line X.env=pure false):Gv X E AV AS (.Expr (.Call (.Name x p) (e::es) [] Au) pos)<|Bc F XF ga:=by
 obtain⟨f,fd,ps,h1,h2,h3,h4,h5⟩:=c;exact tK (h1.mono hk) hr h2 h3 h4 hp ha MI hg Ca he BM hs
theorem si(i j:Nat){l k:Nat}{x n y:Str}{p fp np Au:Pos}{Fw:Str->Option RV}(c:Nh X.prog X.w X.K X.mg X.base y l Fw)(hr:Dw k X.A)(hN:X.N.Nodup)(hk:l<=k) (hi:X.N[i]? = some x) (hj:X.N[j]? = some n) (hx:Loc X.env.scope x) (hv:DZ X.env.scope n) (hg:Gl X y) (hd:(n==("__debug__"))=false) (BI:(n==("__classdict__"))=false) (Ca:(y==("__debug__"))=false) (he:starEach [.Name n np] X.env=(false,eval (.Name n np) X.env)::starEach [] X.env) (BM:(backTo Au<|starEach [] X.env).any (·.1)=false) (hs:swapsWith (.Call (.Name y fp) [.Name n np] [] Au) (some<|.Name x p) pos.line X.env=pure false) (hf:X.fn x=true\/X.env.scope.names.lookup x=some .local) : CG X AV AS (.Assign [.Name x p] (.Call (.Name y fp) [.Name n np] [] Au) pos)<|Kj i j Fw:=by
 obtain⟨f,fd,ps,h1,h2,h3,h4⟩:=c;exact sf i j h1 (hr.mono hk) h2 h3 h4 hN hi hj hx hv hg hd BI Ca he BM hs hf
end
theorem oy{K:W.Frag}{C:Addr}{bm:List Value}{n:String}(q:W.excIn K C bm n=true):(W.clsIn K C).isSome=true/\W.typeIn K (.ref C)=some (.type "type"):=by
 unfold W.excIn at q;split at q
 .rename_i ho;refine⟨by unfold W.clsIn;rw[ho];rfl,by unfold W.typeIn;dsimp only;rw[ho];rfl⟩
 .cases q
theorem mL{K:W.Frag}{t:Value}:W.kitOne K t t=some true:=by unfold W.kitOne;rw[AAH AAB]
theorem kit_cls{K:W.Frag}{t:Value}{C:Addr}{bm:List Value}{n:String}{b:Bool}(q:W.excIn K C bm n=true)(h:W.subIn K t (.ref C)=some b):W.kitCls K t (.ref C)=some b:=by
 obtain⟨h1,h2⟩:=oy q;unfold W.kitCls;dsimp only;rw[AAH (by rw[h1,h2];rfl)];exact h
theorem O3{K:W.Frag}{t:Value}{C:Addr}{bm:List Value}{n:String}{b:Bool}(Aq:(t==Value.ref C)=false)(q:W.excIn K C bm n=true)(h:W.subIn K t (.ref C)=some b):W.kitOne K t (.ref C)=some b:=by
 unfold W.kitOne;rw[AAG (by rw[Aq];simp)];exact kit_cls q h
theorem mK{K:W.Frag}{D:Addr}{T:String}{b:Bool}(hm:W.kitMeta T=true)(h:W.subIn K (.ref D) (.type T)=some b):W.kitOne K (.ref D) (.type T)=some b:=by
 unfold W.kitOne;unfold W.kitCls;dsimp only;rw[AAH hm];exact h
theorem iZ{K:W.Frag}{C D:Addr}{bm:List Value}{n:String}(q:W.excIn K C bm n=true)(hb:W.subIn K (.ref C) (.type "BaseException")=some true)(h:W.subIn K (.ref D) (.ref C)=some true):W.exmOne K (.ref D) (.ref C)=some true:=by
 unfold W.exmOne;rw[AAH (by rw[hb];rfl)];exact kit_cls q h
theorem RE{n nm:Str}(h:List.contains [n] nm=true):nm=n:=by simpa using h
theorem Kv{K:W.Frag}{n x:Str}{D:Addr}{c:Value}{b:Bool}(hn:C8 K n D)(Z:LV K D)(h:W.kitOne K (.ref D) c=some b)(hb:Sy n x=b):Ht K [n] x c:=λnm D' hL hD=>by
 obtain rfl:=RE hL;obtain rfl:=C8.inj hD hn;exact⟨Z,by rw[hb];exact h⟩
noncomputable def C1:List (List Int)->List PV->List Int->Option PV
 |k'::ks,x::xs,k=>if k'=k then some x else C1 ks xs k
 |_,_,_=>none
noncomputable def GH:List (List Int)->List PV->List Int->PV->List PV
 |k'::ks,x::xs,k,v=>(if k'=k then v else x)::GH ks xs k v
 |_,_,_,_=>[]
noncomputable def Fc(ks:List<|List Int)(k:List Int):List<|List Int:=if k∈ks then ks else ks ++ [k]
def HD(ks:List<|List Int)(xs:List PV)(k:List Int)(v:PV):List PV:=if k∈ks then GH ks xs k v else xs ++ [v]
theorem S8{a b:List Int}(h:Ce a=Ce b):a=b:=by
 exact(List.map_inj_right λx y e=>Sum.inl.inj e).mp h
theorem Ym(k:List Int):(Ce k).map kV=k.map V.int:=by
 unfold Ce;rw[AA2]
 rfl
section
variable{K:W.Frag}{G:Hp}
theorem Wk:∀{ks:List (List Int)}{xs:List PV}{AR:List (List Key×V)}{k:List Int}{p:PV},AR.map (·.1)=ks.map Ce->Ac K G xs (AR.map (·.2))->C1 ks xs k=some p->∃v,F3 AR (Ce k)=some v/\Rep K G p v
 |[],_,_,_,_,_,_,e=>by cases e
 |_::_,[],_,_,_,_,_,e=>by cases e
 |k'::ks,x::xs,[],k,p,h,_,_=>by simp at h
 |k'::ks,x::xs,(q,v)::AR,k,p,h,r,e=>by
  simp only[AAT,ADb]at h;obtain⟨u,us,eu,hu,hr⟩:=r;cases eu;unfold C1 at e;by_cases hk:k'=k
  .rw[AAH hk]at e;cases e;exact⟨v,QE (by rw[h.1,hk]),hu⟩
  .rw[AAG hk]at e;obtain⟨w,h1,h2⟩:=Wk h.2 hr e;exact⟨w,by rw[QD λz=>hk<|S8<|h.1.symm.trans z];exact h1,h2⟩
theorem Wr{k:List Int}{p:PV}{v:V}(hp:Rep K G p v):∀{ks:List (List Int)}{xs:List PV}{AR:List (List Key×V)},AR.map (·.1)=ks.map Ce->Ac K G xs (AR.map (·.2))->(AR.map λkv=>if kv.1=Ce k then(kv.1,v)else kv).map (·.1)=ks.map Ce/\Ac K G (GH ks xs k p) ((AR.map λkv=>if kv.1=Ce k then(kv.1,v)else kv).map (·.2))
 |[],xs,[],_,r=>by
  exact⟨rfl,by rfl⟩
 |[],_,_::_,h,_=>by simp at h
 |_::_,_,[],h,_=>by simp at h
 |k'::ks,[],_::_,_,r=>by unfold Ac at r;simp at r
 |k'::ks,x::xs,(q,u)::AR,h,r=>by
  simp only[AAT,ADb]at h;obtain⟨u',us,eu,hu,hr⟩:=r;cases eu;obtain⟨h1,h2⟩:=Wr (k:=k) hp h.2 hr;obtain⟨rfl,_⟩:=h;unfold GH;by_cases hk:k'=k
  .subst hk;rw[AAT,AAH rfl,AAH rfl,AAT,h1];refine⟨rfl,?_⟩;exact⟨_,_,rfl,hp,h2⟩
  .rw[AAT,AAG hk,AAG λz=>hk<|S8 z,AAT,h1];refine⟨rfl,?_⟩;exact⟨_,_,rfl,hu,h2⟩
theorem gz{ks:List (List Int)}{xs:List PV}{AR:List (List Key×V)}{k:List Int}{p:PV}{v:V}(h:AR.map (·.1)=ks.map Ce)(r:Ac K G xs (AR.map (·.2)))(hp:Rep K G p v) : (Ez AR (Ce k) v).map (·.1)=(Fc ks k).map Ce/\Ac K G (HD ks xs k p) ((Ez AR (Ce k) v).map (·.2)):=by
 have e:(AR.any λkv=>decide (kv.1=Ce k))=decide (k∈ks):=by
  have:(AR.any λkv=>decide (kv.1=Ce k))=(AR.map (·.1)).any λq=>decide (q=Ce k):=by rw[ACI];rfl
  rw[this,h,ACI,AB9];simp only[ADV,Function.comp,AAa];exact⟨(by rintro⟨x,hx,e⟩;exact S8 e ▸ hx),λhx=>⟨k,hx,rfl⟩⟩
 unfold Ez Fc HD;rw[e];by_cases hk:k∈ks
 .rw[AAH (by simpa using hk),AAH hk,AAH hk];exact Wr hp h r
 .rw[AAG (by simpa using hk),AAG hk,AAG hk,AA6,AA6,AA6,h];exact⟨rfl,Ac.of<|Jr r.paired<|.cons hp .nil⟩
end
theorem gx(ks:List<|List Int)(k:List Int):(Fc ks k).length<=ks.length+1:=by
 unfold Fc;split
 .omega
 .rw[AAn];exact AAS _
theorem Wq:∀(ks:List<|List Int)(xs:List PV)(k:List Int)(v:PV),ks.length=xs.length->(GH ks xs k v).length=xs.length
 |[],[],_,_,_=>rfl
 |[],_::_,_,_,h=>by simp at h
 |_::_,[],_,_,h=>by simp at h
 |_::ks,_::xs,k,v,h=>by
  unfold GH;rw[AAc,AAc,Wq ks xs k v<|by simpa using h]
theorem gy{ks:List (List Int)}{xs:List PV}(h:ks.length=xs.length)(k:List Int)(v:PV):(Fc ks k).length=(HD ks xs k v).length:=by
 unfold Fc HD;split
 .rw[Wq ks xs k v h,h]
 .rw[AAn,AAn,h];rfl
theorem Wm(k j:List Int)(v:PV):∀(ks:List<|List Int)(xs:List PV),ks.length=xs.length->k∉ks->C1 (ks ++ [k]) (xs ++ [v]) j=if j=k then some v else C1 ks xs j
 |[],[],_,_=>by
  show(if k=j then some v else C1 [] [] j)=_;by_cases e:j=k
  .rw[AAH e,AAH e.symm]
  .rw[AAG e,AAG<|AA3 e]
 |[],_::_,h,_=>by simp at h
 |_::_,[],h,_=>by simp at h
 |k'::ks,x::xs,h,n=>by
  simp only[AAi,not_or]at n;show(if k'=j then some x else C1 (ks ++ [k]) (xs ++ [v]) j)=if j=k then some v else if k'=j then some x else C1 ks xs j
  rw[Wm k j v ks xs (by simpa using h) n.2];by_cases e:k'=j
  .subst e;rw[AAH rfl,AAH rfl,AAG λz=>n.1 z.symm]
  .rw[AAG e,AAG e]
theorem Wl(k j:List Int)(v:PV):∀(ks:List<|List Int)(xs:List PV),ks.length=xs.length->k∈ks->C1 ks (GH ks xs k v) j=if j=k then some v else C1 ks xs j
 |[],_,_,n=>by cases n
 |_::_,[],h,_=>by simp at h
 |k'::ks,x::xs,h,n=>by
  show(if k'=j then some (if k'=k then v else x)else C1 ks (GH ks xs k v) j)=if j=k then some v else if k'=j then some x else C1 ks xs j
  by_cases e:k'=j
  .subst e;rw[AAH rfl,AAH rfl];split<;>rfl
  .rw[AAG e,AAG e];by_cases hk:k∈ks
   .exact Wl k j v ks xs (by simpa using h) hk
   .have:=by simpa[hk]using n
    subst this;rw[AAG<|AA3 e];have:∀(ks:List<|List Int)(xs:List PV),ks.length=xs.length->k∉ks->GH ks xs k v=xs:=by
     intro ks
     induction ks with
     |nil=>intro xs h _;cases xs with
      |nil=>rfl
      |cons _ _=>simp at h
     |cons q qs ih=>intro xs h n;cases xs with
      |nil=>simp at h
      |cons y ys=>
       simp only[AAi,not_or]at n;unfold GH;rw[AAG<|AA3 n.1,ih ys (by simpa using h) n.2]
    rw[this ks xs (by simpa using h) hk]
theorem gp{ks:List (List Int)}{xs:List PV}(h:ks.length=xs.length)(k j:List Int)(v:PV):C1 (Fc ks k) (HD ks xs k v) j=if j=k then some v else C1 ks xs j:=by
 unfold Fc HD;by_cases hk:k∈ks
 .rw[AAH hk,AAH hk];exact Wl k j v ks xs h hk
 .rw[AAG hk,AAG hk];exact Wm k j v ks xs h hk
section
variable{X:Cx}{a b c e tg iter:Expr}{es:List Expr}{fa fb fc f:EF}{g ga:AF}{pos:Pos}{AV AS:Hp}
noncomputable def Iq:List RV->Option (List Int)
 |[]=>some []
 |.cl (.int i)::r=>(Iq r).map (i :: ·)
 |_::_=>none
theorem T9{K:W.Frag}{H G' H':Hp}:∀{rs:List RV}{vs:List V}{k:List Int},Iq rs=some k->DY K H G' H' rs vs->vs=k.map V.int
 |[],_,_,e,r=>by cases e;cases r;rfl
 |.cl (.int i)::rs,_,k,e,r=>by
  unfold Iq at e;cases er:Iq rs with
  |none=>rw[er]at e;cases e
  |some q=>
   rw[er]at e;cases e;cases r with
   |cons r1 r2=>rw[r1.int,T9 er r2];rfl
 |.cl .A4::_,_,_,e,_=>by cases e
 |.cl (.bl _)::_,_,_,e,_=>by cases e
 |.cl (.str _)::_,_,_,e,_=>by cases e
 |.cl (.tup _)::_,_,_,e,_=>by cases e
 |.cl (.lst _)::_,_,_,e,_=>by cases e
 |.cl (.rd _)::_,_,_,e,_=>by cases e
 |.cl (.Cv _ _)::_,_,_,e,_=>by cases e
 |.bo _::_,_,_,e,_=>by cases e
 |.fr _::_,_,_,e,_=>by cases e
 |.bd _ _::_,_,_,e,_=>by cases e
 |.fd _ _::_,_,_,e,_=>by cases e
 |.tf _ _::_,_,_,e,_=>by cases e
noncomputable def RV.Cv:RV->Option (List (List Int)×List PV)
 |.cl (.Cv ks xs)=>some (ks,xs)
 |.bd ks xs=>some (ks,xs)
 |.fd ks xs=>some (ks,xs)
 |_=>none
theorem Bt.Cv{K:W.Frag}{H G' H':Hp}{r:RV}{v:V}{ks:List (List Int)}{xs:List PV}(sub:As G' H')(h:Bt K H G' H' r v)(e:r.Cv=some (ks,xs)):∃a AR,v=.ref a/\Rd H' a (.dT AR)/\AR.map (·.1)=ks.map Ce/\Ac K G' xs (AR.map (·.2)):=by
 cases r with
 |cl p=>
  cases p with
  |Cv O5 Uy=>
   cases e;have h':=h;obtain⟨a,AR,e,q,k,r⟩:=h';exact⟨a,AR,e,Rd.same sub q,k,r⟩
  |_=>cases e
 |bd O5 Uy=>
  cases e;obtain⟨a,AR,e,g,q,k,r⟩:=h;exact⟨a,AR,e,.inl q,k,r⟩
 |fd O5 Uy=>
  cases e;obtain⟨a,AR,e,n,g,q,k,r⟩:=h;exact⟨a,AR,e,.inl q,k,r⟩
 |_=>cases e
def HL(f:EF)(g:AF):EF:=λρ=>match f ρ,g ρ with
 |some r,some rs=>(match r.Cv,Iq rs with|some d,some k=>if k.length<=1000 then(C1 d.1 d.2 k).map .cl else none|_,_=>none)
 |_,_=>none
theorem qp{x1}{J6:Pos}(hu:X.A.units+1<cLine)(ho:PX X a f)(h:Cb X es g)(hs:Qj<|.Tuple es x1 J6):PX X (.Subscript a (.Tuple es x1 J6) pos)<|HL f g:=PE.imp (pK hu ho (Tt h) hs) (by
 rintro σ H Q ⟨G,ρ,z,R,e,q⟩;unfold HL at e;split at e
 .rename_i r rs er eg;split at e
  .rename_i d k ed ek;split at e
   .rename_i hz;cases ep:C1 d.1 d.2 k with
    |none=>rw[ep]at e;cases e
    |some p=>
     rw[ep]at e;cases e;refine⟨G,ρ,r,R,er,λv G1 H1 s1 rv=>⟨G1,ρ,rs,R.step s1,eg,λvs G2 H2 s2 UE=>?_⟩⟩;have ev:=T9 ek UE;refine⟨small (by rw[ev,AAO];exact hz),λb hb=>?_⟩;have s3:=A0.new s2.sub (.tup vs) hb;obtain⟨a,AR,rfl,hq,hk,rl⟩:=(rv.step<|s2.trans s3).Cv s3.sub   ed;obtain⟨w,h1,h2⟩:=Wk hk rl ep;exact⟨a,w,rfl,.inr ⟨AR,Ce k,b,hq,rfl,by rw[C0,Ym,ev],h1.symm⟩,q w _ _ ((s1.trans s2).trans s3) h2⟩
   .cases e
  .cases e
 .cases e)
noncomputable def RY:EF:=λ_=>some<|.fd [] []
theorem qr:PX X (.Dict [] [] pos) RY:=PE.imp pL (by
 rintro σ H Q ⟨G,ρ,z,R,e,q⟩;cases e;intro p hp;exact q _ _ _ (A0.Gb R.sub _ hp) ⟨p,[],rfl,hp,R.sub.free hp,C0,rfl,by rfl⟩)
noncomputable def OJ(i:Nat)(f:EF):SF:=λρ=>match f ρ with|some (.fd ks xs)=>some (.nx<|ρ.set i<|some<|.Dq none ks xs)|_=>none
theorem sY(i:Nat){x:Str}{p:Pos}(hN:X.N.Nodup)(he:PX X e f)(hi:X.N[i]? = some x)(hx:Loc X.env.scope x)(hs:swapsWith e (some<|.Name x p) pos.line X.env=pure false)(hf:X.fn x=true\/X.env.scope.names.lookup x=some .local) : CG X AV AS (.Assign [.Name x p] e pos)<|OJ i f:=PS.imp (Ph  hN hi hx he hs hf) (by
 rintro D σ H ⟨G,ρ,o,S,e,k⟩;unfold OJ at e;split at e
 .rename_i ks xs er;cases e;refine⟨G,ρ,_,S.r,er,λv G' H' s rv=>?_⟩;obtain⟨a,AR,rfl,n,ga,ha,hk,rl⟩:=rv;exact k _ _ _ s.gg<|(S.step s).aQ S.hh S.r.To n ⟨a,AR,rfl,ga,ha,hk,rl,λ_ z=>nomatch z⟩
 .cases e)
noncomputable def OH(i:Nat):SF:=λρ=>match ρ[i]? with|some (some<|.Dq _ ks xs)=>some (.rt<|.fd ks xs)|_=>none
theorem sO(i:Nat){x:Str}{p:Pos}(hN:X.N[i]? = some x)(hv:DZ X.env.scope x)(hd:(x==("__debug__"))=false) (BI:(x==("__classdict__"))=false):CG X AV AS (.Return (some<|.Name x p) pos)<|OH i:=PS.imp (Tw<|Ex  hN hv hd BI) (by
 rintro D σ H ⟨G,ρ,o,S,e,k⟩;unfold OH at e;split at e
 .rename_i ks xs er;cases e;obtain⟨v,ev,a,AR,rfl,ga,ha,hk,rl,_⟩:=S.r.slot i _ er;exact⟨_,ev,k _ G H S.LK ⟨a,AR,rfl,S.new i _ a rfl er ev,ga,ha,hk,rl⟩⟩
 .cases e)
def IQ(i:Nat)(g:AF)(f:EF):SF:=λρ=>match f ρ,ρ[i]?,g ρ with
 |some r,some<|some<|.Dq t ks xs,some rs=>(match r.clean,Iq rs with|some p,some k=>if ks.length<1000000/\k.length<=1000 then some (.nx<|ρ.set i<|some<|.Dq t (Fc ks k)<|HD ks xs k p)else none|_,_=>none)
 |_,_,_=>none
theorem r9(i:Nat){x:Str}{p sp J6:Pos}{x1}(hu:X.A.units+1<cLine)(hk:Cb X es g)(he:PX X e f)(hN:X.N[i]? = some x)(hv:DZ X.env.scope x)(hd:(x==("__debug__"))=false) (BI:(x==("__classdict__"))=false) (hs:swapsWith e (some<|.Subscript (.Name x p) (.Tuple es x1 J6) sp) pos.line X.env=pure false) : CG X AV AS (.Assign [.Subscript (.Name x p) (.Tuple es x1 J6) sp] e pos)<|IQ i g f:=PS.imp (qI hu (Ex  hN hv hd BI) (Tt hk) he hs) (by
 rintro D σ H ⟨G,ρ,o,S,e,ok⟩;unfold IQ at e;split at e
 .rename_i r t0 ks xs rs er eo eg;split at e
  .rename_i p k ep ek;split at e
   .rename_i hz;cases e;refine⟨G,ρ,r,S.r,er,λv G1 H1 s1 rv=>?_⟩;have S1:=S.step s1.all;obtain⟨w,ew,b,AR,rfl,g,hb,HS,rl,Ks⟩:=S1.r.slot i _ eo;refine⟨_,ew,D2 G1 H H1,ρ,_,S1.r,eg,λvs G2 H2 s2 UE=>?_⟩;have ev:=T9 ek UE;refine⟨small (by rw[ev,AAO];exact hz.2),λt ht=>?_⟩;have s3:=A0.new s2.sub (.tup vs) ht;have LH:=s2.trans s3;have hl:=by
     have:=ABy List.length HS;simpa using this
    have rp:=Rep.same LH.gg<|rv.clean s1.sub ep;obtain⟨h1,h2⟩:=gz  HS (Ac.same LH.gg rl) rp;refine⟨b,_,rfl,.inr ⟨AR,Ce k,t,LH.hh _ _ hb,rfl,by rw[C0,Ym,ev],ACp (Nat.le_of_eq hl)<|ADy hz.1 AAC,rfl⟩,?_⟩;have g3:=LH.ex b (.d hb) g;exact ok _ _ _ (s1.all.gg.trans LH.gg)<|(S1.step LH).chg rfl eo ew g3 ⟨b,_,rfl,g3,C0,h1,h2,Ks⟩
   .cases e
  .cases e
 .cases e)
end
section
variable{AV AS:Hp}
end
section
variable{X:Cx}{pos:Pos}{AV AS:Hp}{f:Addr}{fd:FuncData}{ps:List Str}{k:Nat}{rec:Rec}
end
section
variable{X:Cx}{a:Expr}{es:List Expr}{f:EF}{g:AF}{pos:Pos}
end
theorem bS{k:Nat}{A:Around}(r:B4 k A):A.units+1<cLine:=by have:=r.un;omega
open Classical in
section
variable{X:Cx}{e:Expr}{es:List Expr}{g:AF}{pos:Pos}
end
section
variable{X:Cx}{AV AS:Hp}
end
noncomputable def K0(ps:List Str)(q:List Pos):Arguments:=⟨[],(ps.zip q).map λx=>⟨x.1,none,x.2⟩,none,[],[],none,[]⟩
theorem cN{α β:Type}:∀(a:List α)(b:List β),b.length=a.length->(a.zip b).map (·.1)=a
 |[],_,_=>rfl
 |x::a,y::b,h=>by simp only[ADG,AAT];rw[cN a b<|by simpa using h]
theorem XR{α β:Type}{f g:α->Option β}:∀l:List α,(∀x∈l,f x=g x)->l.filterMap f=l.filterMap g
 |[],_=>rfl
 |x::l,h=>by rw[ACN,ACN,h x<|.head _,XR l λy hy=>h y<|.tail _ hy]
theorem Yz{α:Type}:∀(ps:List Str)(us:List α),us.length=ps.length->ps.Nodup->ps.filterMap (λn=>((ps.zip us).lookup n).map λx=>(n,x))=ps.zip us
 |[],_,_,_=>rfl
 |p::ps,u::us,h,nd=>by
  rw[ABz]at nd;have ih:=Yz ps us (by simpa using h) nd.2;rw[ADG,ADR (b:=(p,u))<|by simp[ABe]]
  congr 1
  refine(XR _ λn hn=>?_).trans ih;rw[ABe];split
  .rename_i e;exact absurd (eq_of_beq e ▸ hn) nd.1
  .rfl
theorem Yy{α:Type}:∀(ps:List Str)(us:List α),us.length=ps.length->∀n∈ps,((ps.zip us).lookup n).isNone=false
 |p::ps,u::us,h,n,hn=>by
  rw[ADG,ABe];split
  .rfl
  .rename_i e;refine Yy ps us (by simpa using h) n ?_;rcases AAi.1 hn with rfl|hn
   .simp at e
   .exact hn
theorem dt(nm:Str)(ps:List Str)(q:List Pos)(b:List Stmt)(sc:Scope)(kV doc pm:Value)(an:Option Addr)(A1 ct:Value)(us:List Value)(hq:q.length=ps.length)(hu:us.length=ps.length)(nd:ps.Nodup):bindArgs (W.fnOf nm nm (K0 ps q) b sc .none kV doc pm an A1 ct) ⟨us,[]⟩=pure (ps.zip us):=by
 have h1:((K0 ps q).args.map λx=>x.arg)=ps:=by
  unfold K0;simp only[AA2];exact(ACk λ_ _=>rfl).trans (cN ps q hq)
 have hs:seqItems? Value.none=pure none:=rfl;have hf:ps.filter (λn=>((ps.zip us).lookup n).isNone)=[]:=AC2.2 λn hn=>by rw[Yy ps us hu n hn];simp
 unfold bindArgs W.fnOf;dsimp only;rw[h1];unfold K0;simp[hs,hf,hu,Yz ps us hu nd]
structure FS(N P:List Str)(st:Stmt):Prop where
 sc:Gp N P<|BR st
 qs:∃q:List Pos,q.length=P.length/\HC st=K0 P q
section
variable{N ps:List Str}{st:Stmt}{f:Addr}{fd:FuncData}{x:Str}{k:Nat}{g:SF}{y:YF}{P:Program}{w:World}{K:W.Frag}{mg:Str->Option Value}{base h:Heap}
theorem FS.nd(S:FS N ps st):N.Nodup:=S.sc.nd
theorem M7(h:(BR st).kind=.function/\(BR st).isCoroutine=false/\(BR st).isGenerator=false/\N.Nodup/\N.take ps.length=ps/\(∀x∈ps,(BR st).names.lookup x=some .local\/(BR st).names.lookup x=some .cell)/\∀y∈(BR st).names,y.2≠.free)(q:∃q:List Pos,q.length=ps.length/\HC st=K0 ps q):FS N ps st:=
 ⟨⟨h.1,h.2.1,h.2.2.1,h.2.2.2.1,h.2.2.2.2.1,h.2.2.2.2.2.1,h.2.2.2.2.2.2⟩,q⟩
theorem FS.bs(S:FS N ps st)(kV doc pm:Value)(an:Option Addr)(A1 ct:Value)(us:List Value)(hl:us.length=ps.length) : bindArgs (W.fnOf x x (HC st) (Dy st) (BR st) .none kV doc pm an A1 ct) ⟨us,[]⟩=pure (ps.zip us):=by
 obtain⟨q,h1,h2⟩:=S.qs;rw[h2];exact dt x ps q _ _ kV doc pm an A1 ct us h1 hl<|S.sc.pre ▸ S.nd.sublist (ADJ _ _)
def FM(K:W.Frag)(mg:Str->Option Value)(x:Str)(st:Stmt):Prop:=∃f fd,EL K x x st f fd/\mg x=some (.ref f)
def dR(K:W.Frag)(x:Str)(st:Stmt):Prop:=∃(f:Addr)(oc:Value)(od:Option Addr)(kV doc pm:Value)(an:Option Addr)(A1 ct:Value)(sl:Array<|Option Value),W.nsIn K mainGlobals x=some (some<|.ref f)/\K.lookup f=some ⟨oc,od,.func<|W.fnOf x x (HC st) (Dy st) (BR st) .none kV doc pm an A1 ct,sl⟩/\W.codeIn K A1 x=true/\W.keepIn K (.ref f)=true
theorem dmk{oc:Value}{od:Option Addr}{kV doc pm:Value}{an:Option Addr}{A1 ct:Value}{sl:Array (Option Value)}(a:W.nsIn K mainGlobals x=some (some<|.ref f))(l:K.lookup f=some ⟨oc,od,.func<|W.fnOf x x (HC st) (Dy st) (BR st) .none kV doc pm an A1 ct,sl⟩)(c:W.codeIn K A1 x=true)(k:W.keepIn K (.ref f)=true):dR K x st:=⟨_,_,_,_,_,_,_,_,_,_,a,l,c,k⟩
theorem OA(X:K.In h)(G:h.Ns mainGlobals mg)(d:dR K x st):FM K mg x st:=by
 obtain⟨f,oc,od,kV,doc,pm,an,A1,ct,sl,a,l,c,k⟩:=d;exact⟨f,_,jC l c k,W.mg_of X G a⟩
def bR(K:W.Frag):List Str->Prop
 |[]=>True
 |x::l=>W.nsIn K mainGlobals x=some none/\bR K l
def bM(mg:Str->Option Value):List Str->Prop
 |[]=>True
 |x::l=>mg x=none/\bM mg l
theorem Vl(X:K.In h)(G:h.Ns mainGlobals mg):∀{l:List Str},bR K l->bM mg l
 |[],_=>trivial
 |_::_,z=>⟨W.mg_none_of X G z.1,Vl X G z.2⟩
theorem EL.bt(F:EL K x x st f fd)(S:FS N ps st)(s:Shared)(us:List Value)(hl:us.length=ps.length):BindsTo s fd ⟨us,[]⟩<|ps.zip us:=by
 obtain⟨oc,od,kV,doc,pm,an,A1,ct,Fu,rfl,lk,BI⟩:=F.ex;exact .of_eq<|S.bs _ _ _ _ _ _ us hl
theorem gL(F:EL K x x st f fd)(S:FS N ps st) (hb:∀{A1:Value}{A:Around}{outer:List Env}{s:Shared}{H:Hp}{E:XK}{AV AS:Hp},let B:=A.deeper<|envOfC x (BR st) s.heap.objs.size f A1;B4 k B->B.units+64<cLine->B.units+1<cLine->B.units+66<cLine->true=true->DX (Fb Dv P w K mg base N x (BR st) f A1 A outer s H E).Jq AV AS (Dy st) g) : Co P w K mg base Dv (k+1) f fd ps<|LI K ps.length<|denote N.length ps.length g:=i7 F S.sc λ_ _ _ _ _ _ _ _ hr=>hb hr hr.units (bS hr) (bW hr) rfl
theorem gG(F:FM K mg x st)(S:FS N ps st) (hb:∀{f:Addr}{A1:Value}{A:Around}{outer:List Env}{s:Shared}{H:Hp}{E:XK}{AV AS:Hp},let B:=A.deeper<|envOfC x (BR st) s.heap.objs.size f A1;B4 k B->B.units+64<cLine->B.units+1<cLine->B.units+66<cLine->true=true->DX (Fb Dv P w K mg base N x (BR st) f A1 A outer s H E).Jq AV AS (Dy st) g) : BV P w K mg base x (k+1) ps.length<|denote N.length ps.length g:=by
 obtain⟨f,fd,F,hm⟩:=F;exact⟨f,fd,ps,gL F S hb,hm,F.kp,F.binds S.bs,rfl⟩
theorem gY(F:FM K mg x st)(S:FS N ps st) (hb:∀{f:Addr}{A1:Value}{A:Around}{outer:List Env}{s:Shared}{H:Hp}{E:XK}{AV AS:Hp},let B:=A.deeper<|envOfC x (BR st) s.heap.objs.size f A1;B4 k B->B.units+64<cLine->B.units+1<cLine->B.units+66<cLine->true=true->FU (Lv P w K mg base N x (BR st) f A1 A outer s H E) E AV AS (Dy st) y) : DV P w K mg base x (k+1) ps.length (Cu N.length ps.length y)<|Dd N.length ps.length y:=by
 obtain⟨f,fd,F,hm⟩:=F;exact⟨f,fd,ps,i5 F S.sc λ_ _ _ _ _ _ _ _ hr=>hb hr hr.units (bS hr) (bW hr) rfl,hm,F.kp,F.binds S.bs,rfl⟩
theorem gW{z:Str}(F:FM K mg x st)(S:FS N [z] st) (hb:∀{f:Addr}{A1:Value}{A:Around}{outer:List Env}{s:Shared}{H AV AS:Hp},let B:=A.deeper<|envOfC x (BR st) s.heap.objs.size f A1;Dw k B->B.units+64<cLine->true=true->DX (Nv P w K mg base N x (BR st) f A1 A outer s H) AV AS (Dy st) g) : Nh P w K mg base x (k+1)<|Nz N.length g:=by
 obtain⟨f,fd,F,hm⟩:=F;exact⟨f,fd,[z],i4 F S.sc λ_ _ _ _ _ _ _ hr=>hb hr hr.units rfl,hm,F.kp,F.binds S.bs⟩
end
section
variable{X:Cx}{a b c d:Expr}{p q r s:EF}
theorem o3(ha:PX X a p)(h1:starEach [a] X.env=(false,eval a X.env)::starEach [] X.env):Cb X [a]<|AD p AG:=M6 ha Tz h1
theorem Zb(ha:PX X a p)(hb:PX X b q)(h1:starEach [a,b] X.env=(false,eval a X.env)::starEach [b] X.env:=by rfl)(h2:starEach [b] X.env=(false,eval b X.env)::starEach [] X.env:=by rfl):Cb X [a,b]<|AD p<|AD q AG:=M6 ha (M6 hb Tz h2) h1
theorem o4(ha:PX X a p)(hb:PX X b q)(hc:PX X c r)(h1:starEach [a,b,c] X.env=(false,eval a X.env)::starEach [b,c] X.env)(h2:starEach [b,c] X.env=(false,eval b X.env)::starEach [c] X.env)(h3:starEach [c] X.env=(false,eval c X.env)::starEach [] X.env):Cb X [a,b,c]<|AD p<|AD q<|AD r AG:=M6 ha (Zb hb hc h2 h3) h1
theorem TF:∀ρ rs,AD p AG ρ=some rs->rs.length=1:=N5 ie
theorem ln2:∀ρ rs,AD p (AD q AG) ρ=some rs->rs.length=2:=N5 TF
theorem TH:∀ρ rs,AD p (AD q<|AD r AG) ρ=some rs->rs.length=3:=N5 ln2
theorem Y0:∀ρ rs,AD p (AD q<|AD r<|AD s AG) ρ=some rs->rs.length=4:=N5 TH
end
end L2.PL
namespace TL
open PySem PySem.Spec PyProof.Rows PySem.SeqAt
open PySem.AutoSeq1 (wpAny_loadPart')
section
variable{prog:Program}{w:World}{A:Around}{s:Shared}{Q E:Value->Shared->Prop}{a b:Int}{t u:Tok}
theorem aD(h:Q (.bool<|decide (a<b)) s):wpAny (model prog w) A (richCompare .Lt (.int a t)<|.int b u) Q E s:=lt_int h
theorem aC(h:Q (.bool<|decide (b<=a)) s):wpAny (model prog w) A (richCompare .GtE (.int a t)<|.int b u) Q E s:=ge_int h
end
theorem we(l b:Addr)(p q u v:Int)(tp tq tu tv:Tok)(n n2:Nat)(dd RF:Option Addr)(sl UM:Array<|Option Value) : Meets (Builtin.«tuple.__lt__» ⟨[.ref l,.ref b],[]⟩)
  (λ_ R s=>s.heap.get? l=some { cls:=.type "tuple",dict:=dd,data:=.seq #[.int p tp,.int q tq] n,slots:=sl }/\s.heap.get? b=some { cls:=.type "tuple",dict:=RF,data:=.seq #[.int u tu,.int v tv] n2,slots:=UM }/\
   R (.ok<|.ret<|.bool<|decide (p<u\/(p=u/\q<v))) s):=
 .of_wp λprog w A R s h=>by
  obtain⟨hl,hb,h⟩:=h;have f2:=AutoSeq1.sub_tuple_tuple
  wp_walk using wpAny_loadPart' hl,wpAny_loadPart' hb
  refine EqAt.int_int p tp u tu prog w _ _ ?_;cases c:(p==u)with
  |false=>
   have c':=by simpa using c
   wp_walk using aD
   exact⟨_,rfl,by rw[show decide (p<u)=decide (p<u\/p=u/\q<v)by simp[c']];exact h⟩
  |true=>
   have c':=by simpa using c
   wp_walk
   refine EqAt.int_int q tq v tv prog w _ _ ?_;cases e:(q==v)with
   |false=>
    wp_walk using aD
    exact⟨_,rfl,by rw[show decide (q<v)=decide (p<u\/p=u/\q<v)by simp[c']];exact h⟩
   |true=>
    have e':=by simpa using e
    wp_walk
    exact⟨_,rfl,by simpa[Builtin.Tuple.tupleCompareSizes,c',e']using h⟩
theorem wd(l b:Addr)(p q u v:Int)(tp tq tu tv:Tok)(n n2:Nat)(dd RF:Option Addr)(sl UM:Array<|Option Value) : Meets (Builtin.«tuple.__ge__» ⟨[.ref l,.ref b],[]⟩)
  (λ_ R s=>s.heap.get? l=some { cls:=.type "tuple",dict:=dd,data:=.seq #[.int p tp,.int q tq] n,slots:=sl }/\s.heap.get? b=some { cls:=.type "tuple",dict:=RF,data:=.seq #[.int u tu,.int v tv] n2,slots:=UM }/\
   R (.ok<|.ret<|.bool<|decide (u<p\/(p=u/\v<=q))) s):=
 .of_wp λprog w A R s h=>by
  obtain⟨hl,hb,h⟩:=h;have f2:=AutoSeq1.sub_tuple_tuple
  wp_walk using wpAny_loadPart' hl,wpAny_loadPart' hb
  refine EqAt.int_int p tp u tu prog w _ _ ?_;cases c:(p==u)with
  |false=>
   have c':=by simpa using c
   wp_walk using aC
   exact⟨_,rfl,by rw[show decide (u<=p)=decide (u<p\/p=u/\v<=q)by simp[c'];omega];exact h⟩
  |true=>
   have c':=by simpa using c
   wp_walk
   refine EqAt.int_int q tq v tv prog w _ _ ?_;cases e:(q==v)with
   |false=>
    wp_walk using aC
    exact⟨_,rfl,by rw[show decide (v<=q)=decide (u<p\/p=u/\v<=q)by simp[c']];exact h⟩
   |true=>
    have e':=by simpa using e
    wp_walk
    exact⟨_,rfl,by simpa[Builtin.Tuple.tupleCompareSizes,c',e']using h⟩
end TL
namespace L2.PL
open PySem PySem.Spec PyProof.Rows
section
variable{X:Cx}{a:Expr}{fa:EF}{pos:Pos}
end
def T4(c:Int->Int->Int->Int->Bool)(K:W.Frag):R2:=λx y H Q=>∃p q u v a b,x=.ref a/\y=.ref b/\CB K H a [.int p,.int q]/\CB K H b [.int u,.int v]/\Q (.bl<|c p q u v) H
noncomputable def KY(p q u v:Int):Bool:=decide (p<u\/(p=u/\q<v))
noncomputable def G0(p q u v:Int):Bool:=decide (u<p\/(p=u/\v<=q))
noncomputable def GY(c:Int->Int->Int->Int->Bool):RV->RV->Option RV
 |.cl (.tup [.int p,.int q]),.cl (.tup [.int u,.int v])=>some<|.cl<|.bl<|c p q u v
 |_,_=>none
section
variable{X:Cx}
theorem Mx{p q:Int}{us:List Value}(h:An [.int p,.int q] us):∃t t',us=[.int p t,.int q t']:=by
 cases h with
 |cons a h=>cases h with
  |cons b h=>cases h;obtain⟨t,rfl⟩:=a;obtain⟨t',rfl⟩:=b;exact⟨t,t',rfl⟩
theorem oN(hu:X.A.units+1<cLine):Ba X (compareOp .Lt)<|T4 KY X.K:=by
 intro AE s σ H x y v u Q I rx ry ⟨p,q,u',v',a,b,e1,e2,ha,hb,k⟩;subst e1;subst e2;cases (show v=Value.ref a from rx);cases (show u=Value.ref b from ry);obtain⟨i1,r1,⟨⟨c1,d1,t1,s1⟩,h1,k1,n1,z1⟩,_⟩:=I.tuple ha;obtain⟨i2,r2,⟨⟨c2,d2,t2,s2⟩,h2,k2,n2,z2⟩,_⟩:=I.tuple hb;obtain⟨_,_,rfl⟩:=Mx r1;obtain⟨_,_,rfl⟩:=Mx r2;simp only at k1 z1 k2 z2;subst k1 z1 k2 z2;exact richCompare_meets_room (op:=.Lt) ⟨_,h1,rfl⟩ ⟨_,h2,rfl⟩ F.slot_tuple_lt F.entry_tuple_lt (F.args_tuple_lt_2 _ _) (TL.we _ _ _ _ _ _ _ _ _ _ _ _ _ _ _ _) ⟨h1,h2,show Value.bool _≠Value.notImplemented/\_ from⟨(λx=>nomatch x),⟨.bl _,H,I,rfl,k⟩⟩⟩ AAA
theorem oG(hu:X.A.units+1<cLine):Ba X (compareOp .GtE)<|T4 G0 X.K:=by
 intro AE s σ H x y v u Q I rx ry ⟨p,q,u',v',a,b,e1,e2,ha,hb,k⟩;subst e1;subst e2;cases (show v=Value.ref a from rx);cases (show u=Value.ref b from ry);obtain⟨i1,r1,⟨⟨c1,d1,t1,s1⟩,h1,k1,n1,z1⟩,_⟩:=I.tuple ha;obtain⟨i2,r2,⟨⟨c2,d2,t2,s2⟩,h2,k2,n2,z2⟩,_⟩:=I.tuple hb;obtain⟨_,_,rfl⟩:=Mx r1;obtain⟨_,_,rfl⟩:=Mx r2;simp only at k1 z1 k2 z2;subst k1 z1 k2 z2;exact richCompare_meets_room (op:=.GtE) ⟨_,h1,rfl⟩ ⟨_,h2,rfl⟩ F.slot_tuple_ge F.entry_tuple_ge (F.args_tuple_ge_2 _ _) (TL.wd _ _ _ _ _ _ _ _ _ _ _ _ _ _ _ _) ⟨h1,h2,show Value.bool _≠Value.notImplemented/\_ from⟨(λx=>nomatch x),⟨.bl _,H,I,rfl,k⟩⟩⟩ AAA
theorem Tr{K:W.Frag}{G:Hp}{p q:Int}{v:V}(h:Rep K G (.tup [.int p,.int q]) v):∃a,v=.ref a/\CB K G a [.int p,.int q]:=by
 obtain⟨a,vs,rfl,hq,rl⟩:=h;refine⟨a,rfl,?_⟩;have:=MV (ns:=[p,q])  rfl rl;rw[this]at hq;exact hq
theorem ZU{K:W.Frag}{c:Int->Int->Int->Int->Bool}:DE K (GY c)<|T4 c K:=by
 intro x y z H0 G H vx vy Q sub sh e rx ry q;unfold GY at e;split at e
 .rename_i p q' u v;cases e;obtain⟨a,rfl,ha⟩:=Tr<|rx.any sub;obtain⟨b,rfl,hb⟩:=Tr<|ry.any sub;exact⟨p,q',u,v,a,b,rfl,rfl,ha,hb,q _ G H (A0.refl sub)<|by rfl⟩
 .cases e
theorem fi(hu:X.A.units+1<cLine):Cj X .Lt<|GY KY:=⟨_,oN hu,ZU⟩
theorem fY(hu:X.A.units+1<cLine):Cj X .GtE<|GY G0:=⟨_,oG hu,ZU⟩
end
noncomputable def JE(t:BF)(g:SF):Nat->AX->Option Out
 |0,_=>none
 |n+1,ρ=>match t ρ with
  |some true=>(match g ρ with
   |some (.nx BZ)=>JE t g n BZ
   |some (.ct BZ)=>JE t g n BZ
   |some (.bk BZ)=>some<|.nx BZ
   |some (.rt r)=>some<|.rt r
   |none=>none)
  |some false=>some<|.nx ρ
  |none=>none
def Rj(t:BF)(g:SF):SF:=λρ=>JE t g 1000 ρ
section
variable{X:Cx}{AV AS:Hp}{c:Expr}{body:List Stmt}{t:BF}{g:SF}{pos:Pos}
theorem sj(hp:PassesOwn (model X.prog X.w) X.A X.env X.xe)(hc:DF X c t)(hb:DX X AV AS body g):CG X AV AS (.While c body [] pos)<|Rj t g:=PS.imp (qP hp hc hb) (by
 rintro D σ H ⟨G,ρ,o,S,e,ok⟩;refine⟨λm AY H'=>∃G' ρ',SR X.K AV AS G' H' ρ' AY/\As G G'/\JE t g m ρ'=some o,⟨1000,G,ρ,S,As.refl _,e⟩,?_⟩;rintro m AY H' ⟨G',ρ',S',sg,hl⟩;cases m with
 |zero=>cases hl
 |succ m=>
  unfold JE at hl;split at hl
  .rename_i et;refine⟨G',ρ',true,S'.r,et,λG1 H1 s1=>?_⟩;refine⟨λDS Cp=>∃F8 NK,SR X.K AV AS F8 Cp NK DS/\As G F8/\JE t g m NK=some o,λDS Cp hN=>⟨m,AAA,hN⟩,?_⟩;split at hl
   .rename_i BZ eb;exact⟨G1,ρ',_,S'.step s1,eb,λC6 G2 H2 s2 S2=>⟨G2,BZ,S2,(sg.trans s1.gg).trans s2,hl⟩⟩
   .rename_i BZ eb;exact⟨G1,ρ',_,S'.step s1,eb,λC6 G2 H2 s2 S2=>⟨G2,BZ,S2,(sg.trans s1.gg).trans s2,hl⟩⟩
   .rename_i BZ eb;cases hl;exact⟨G1,ρ',_,S'.step s1,eb,λC6 G2 H2 s2 S2=>ok C6 G2 H2 ((sg.trans s1.gg).trans s2) S2⟩
   .rename_i r eb;cases hl;exact⟨G1,ρ',_,S'.step s1,eb,JK.mono (sg.trans s1.gg) ok⟩
   .cases hl
  .rename_i et;refine⟨G',ρ',false,S'.r,et,λG1 H1 s1=>?_⟩;refine YY ?_;cases hl;exact ok AY G1 H1 (sg.trans s1.gg)<|S'.step s1
  .cases hl)
noncomputable def JY(i:Nat)(gt:GF):SF:=λρ=>match ρ[i]? with
 |some (some<|.own ps)=>(match ps[ps.length-1]? with
  |some p=>(match gt p (ρ.set i<|some<|.own ps.dropLast)with|some ρ'=>some (.nx ρ')|none=>none)
  |none=>none)
 |_=>none
theorem sM{tg:Expr}{gt:GF}{x:Str}{p ap Au:Pos}(i:Nat)(hg:GC X tg gt)(hN:X.N[i]? = some x)(hv:DZ X.env.scope x)(hd:(x==("__debug__"))=false) (BI:(x==("__classdict__"))=false) (Dj:attributeBase (.Name x p) "pop" X.env (eval (.Name x p) X.env)=eval (.Name x p) X.env) (Dk:(ap.endLine==Au.line)=true) (hs:swapsWithSole [tg] (.Call (.Attribute (.Name x p) "pop" ap) [] [] Au) pos.line X.env=pure false) (hw:swappedStores [tg] (.Call (.Attribute (.Name x p) "pop" ap) [] [] Au) X.env=pure none) (h1:(assignEach [tg] X.env).map (·.2)=[assign tg X.env]) : CG X AV AS (.Assign [tg] (.Call (.Attribute (.Name x p) "pop" ap) [] [] Au) pos)<|JY i gt:=
 PS.imp (Tv (Zj ABb ADj ADk nJ (Ex  hN hv hd BI) Dj Dk) hg hs hw h1) (by
  rintro D σ H ⟨G,ρ,o,S,e,k⟩;unfold JY at e;split at e
  .rename_i ps er;split at e
   .rename_i q ep;split at e
    .rename_i ρ' eg;cases e;obtain⟨v,ev,a,vs,rfl,g,ha,rl⟩:=S.r.slot i _ er;obtain⟨y,ey,ry⟩:=Js rl.paired ep;rw[rl.len]at ey;have CM:Ac X.K G ps.dropLast vs.dropLast:=by
      rw[ADl,ADl,rl.len];exact Ac.of<|Pc _ rl.paired
     have S1:=S.change er ev g CM;exact⟨_,ev,.inl ⟨rfl,vs,.inl<|.inl ha⟩,a,vs,y,rfl,rfl,ha,ey,G,_,q,ρ',S1.r,ry,eg,λAY R' kk=>k _ _ _ (As.refl _)<|S1.turn R' kk⟩
    .cases e
   .cases e
  .cases e)
end
end L2.PL
set_option maxRecDepth 100000
namespace Ct
open PySem PySem.W PyProof.Rows
noncomputable def run(lt:Nat->Nat->Bool){α:Type}:KasT α->α
 |.ret a=>a
 |.ask i j k=>run lt<|k<|lt i j
def Ok(lt:Nat->Nat->Bool)(n:Nat){α:Type}(P:α->Prop):KasT α->Prop
 |.ret a=>P a
 |.ask i j k=>i<n/\j<n/\Ok lt n P (k<|lt i j)
section
variable{lt:Nat->Nat->Bool}{n:Nat}
theorem Ok.bind{α β:Type}{P:α->Prop}{R:β->Prop}{f:α->KasT β}(hf:∀a,P a->Ok lt n R (f a)):∀t:KasT α,Ok lt n P t->Ok lt n R (t.bind f)
 |.ret a,h=>hf a h
 |.ask i j k,h=>⟨h.1,h.2.1,Ok.bind hf (k<|lt i j) h.2.2⟩
theorem Ok.run{α:Type}{P:α->Prop}:∀t:KasT α,Ok lt n P t->P (Ct.run lt t)
 |.ret _,h=>h
 |.ask i j k,h=>Ok.run (k<|lt i j) h.2.2
theorem Ok.mono{α:Type}{P R:α->Prop}(f:∀a,P a->R a):∀t:KasT α,Ok lt n P t->Ok lt n R t
 |.ret _,h=>f _ h
 |.ask i j k,h=>⟨h.1,h.2.1,Ok.mono f (k<|lt i j) h.2.2⟩
theorem Ok.wp{α:Type}{P:α->Prop}{cmp:Nat->Nat->(Bool->Shared->Prop)->Shared->Prop}{Q:α->Shared->Prop}{s:Shared}(hc:∀i j C,i<n->j<n->C (lt i j) s->cmp i j C s):∀t:KasT α,Ok lt n P t->Q (Ct.run lt t) s->t.kasWp cmp Q s
 |.ret _,_,q=>q
 |.ask i j k,h,q=>hc i j _ h.1 h.2.1<|Ok.wp hc (k<|lt i j) h.2.2 q
noncomputable abbrev BX(p:Array Nat)(i:Nat):Nat:=p.getD i 0
def Pm(n:Nat)(p:Array Nat):Prop:=p.Perm (List.range n).toArray
theorem Vd{p q:Array Nat}{i j:Nat}(h:p[i]? = q[j]?):BX p i=BX q j:=by
 unfold BX;rw[ADH,ADH,h]
theorem Pm.size{p:Array Nat}(h:Pm n p):p.size=n:=by rw[Array.Perm.size_eq h];simp
theorem Pm.bd{p:Array Nat}(h:Pm n p){i:Nat}(hi:i<n):BX p i<n:=by
 have hs:=h.size;have:BX p i=p[i]:=by simp[BX,Array.getD,hs,hi]
 rw[this];have m:p[i]∈p.toList:=AAB
 exact AAP.mp<|(ACf.mp h).mem_iff.mp m
theorem Pm.ne{p:Array Nat}(h:Pm n p){i j:Nat}(hi:i<n)(hj:j<n)(e:i≠j):BX p i≠BX p j:=by
 have hs:=h.size;have nd:=(ACf.mp h).nodup_iff.mpr ADQ;have a:BX p i=p.toList[i]'(by simpa[hs]using hi):=by simp[BX,Array.getD,hs,hi]
 have b:BX p j=p.toList[j]'(by simpa[hs]using hj):=by simp[BX,Array.getD,hs,hj]
 rw[a,b];exact λk=>e<|(AC5 nd).mp k
theorem Pm.rev{p:Array Nat}(h:Pm n p)(i j:Nat):Pm n<|kas_rev p i j:=Array.Perm.trans (mirror_perm ..) h
def Up(lt:Nat->Nat->Bool)(p:Array Nat)(k:Nat):Prop:=∀i j,i<j->j<k->lt (BX p i) (BX p j)=true
def Dn(lt:Nat->Nat->Bool)(p:Array Nat)(k:Nat):Prop:=∀i j,i<j->j<k->lt (BX p j) (BX p i)=true
structure Qp(lt:Nat->Nat->Bool)(n:Nat):Prop where
 tr:∀i j k,lt i j=true->lt j k=true->lt i k=true
 to:∀i j,i<n->j<n->i≠j->lt i j=false->lt j i=true
variable(T:Qp lt n)
include T
theorem Qp.at{p:Array Nat}(hp:Pm n p){i j:Nat}(hi:i<n)(hj:j<n)(e:i≠j)(h:lt (BX p i) (BX p j)=false):lt (BX p j) (BX p i)=true:=T.to _ _ (hp.bd hi) (hp.bd hj) (hp.ne hi hj e) h
theorem Up.step{p:Array Nat}{k:Nat}(h:Up lt p k)(h0:lt (BX p<|k-1) (BX p k)=true):Up lt p<|k+1:=λi j Br hj=>by
 by_cases c:j<k
 .exact h i j Br c
 .have e:j=k:=J
  subst e;by_cases d:i=j-1
  .rw[d];exact h0
  .exact T.tr _ _ _ (h i (j-1) J J) h0
theorem Dn.step{p:Array Nat}{k:Nat}(h:Dn lt p k)(h0:lt (BX p k) (BX p<|k-1)=true):Dn lt p<|k+1:=λi j Br hj=>by
 by_cases c:j<k
 .exact h i j Br c
 .have e:j=k:=J
  subst e;by_cases d:i=j-1
  .rw[d];exact h0
  .exact T.tr _ _ _ h0<|h i (j-1) J J
theorem Tb{p:Array Nat}(hp:Pm n p):∀f k,0<k->k+f<=n->Up lt p k->Ok lt n (λm=>k<=m/\m<=k+f/\Up lt p m/\(m<k+f->lt (BX p m) (BX p<|m-1)=true)) (kas_asc p f k)
 |0,k,_,_,h=>⟨AAS _,AAS _,h,λc=>absurd c (ACB _)⟩
 |f+1,k,h0,hk,h=>by
  refine⟨hp.bd J,hp.bd J,?_⟩;cases c:lt (p.getD k 0)<|p.getD (k-1) 0
  .refine Ok.mono ((by rintro m ⟨a,b,u,d⟩;exact⟨J,J,u,λe=>d J⟩)) _<|Tb hp f (k+1) J J<|h.step T<|T.at hp J J J c
  .exact⟨AAS _,J,h,λ_=>c⟩
theorem ZQ{p:Array Nat}(hp:Pm n p):∀f k,0<k->k+f<=n->Dn lt p k->Ok lt n (λr=>r.1=p/\r.2.2=0/\k<=r.2.1/\r.2.1<=k+f/\Dn lt p r.2.1) (kas_desc f p k 0)
 |0,k,_,_,h=>⟨rfl,rfl,AAS _,AAS _,h⟩
 |f+1,k,h0,hk,h=>by
  refine⟨hp.bd J,hp.bd J,?_⟩;cases c:lt (p.getD k 0)<|p.getD (k-1) 0
  .refine⟨hp.bd J,hp.bd J,?_⟩;rw[show lt (p.getD (k-1) 0) (p.getD k 0)=true from T.at hp J J J c];exact⟨rfl,rfl,AAS _,Nat.le_add_right _ _,h⟩
  .exact Ok.mono ((by rintro m ⟨a,b,u,d,e⟩;exact⟨a,b,J,J,e⟩)) _<|ZQ hp f (k+1) J J<|h.step T c
theorem nv{p:Array Nat}(hp:Pm n p){k:Nat}(h0:0<k)(hk:k<=n)(h:Dn lt p k):Ok lt n (λr=>Pm n r.2/\1<=r.1/\r.1<=n/\Up lt r.2 r.1)<|kas_tail3 k n p:=by
 have hr:=hp.rev 0 k;refine Ok.bind (λm (⟨a,b,u,_⟩)=>⟨hr,J,J,u⟩) _<|Tb T hr (n-k) k h0 J λi j Br hj=>?_;have e:∀i,i<k->BX (kas_rev p 0 k) i=BX p (k-1-i):=λi hi=>Vd (by
  unfold kas_rev;rw[getElem?_mirror_all (by rw[hp.size];exact hk),AAH ⟨ABs _,hi⟩,ACs])
 rw[e i J,e j hj];exact h _ _ J J
theorem nu(h2:2<=n){p:Array Nat}(hp:Pm n p):Ok lt n (λr=>Pm n r.2/\1<=r.1/\r.1<=n/\Up lt r.2 r.1)<|kas_count n p:=by
 refine Ok.bind (λk (⟨a,b,u,d⟩)=>?_) _<|Tb T hp (n-1) 1 Nat.zero_lt_one J λi j _ _=>J;split
 .exact⟨hp,a,J,u⟩
 .split
  .refine⟨hp.bd J,hp.bd J,?_⟩;rw[show lt (p.getD 0 0) (p.getD (k-1) 0)=true from u 0 (k-1) J J];exact⟨hp,a,J,u⟩
  .have e:k=1:=J
   subst e;refine Ok.bind (λr hr=>?_) _<|ZQ T hp (n-2) 2 J J λi j Br hj=>?_
   .obtain⟨p',m,q⟩:=r;obtain⟨rfl,rfl,a,b,c⟩:=hr;dsimp only at a b c ⊢;exact nv T hp J J c
   .have:=d J;rw[show i=0 by lia,show j=1 by lia];exact this
theorem Tc{p:Array Nat}(hp:Pm n p){k:Nat}(hk:k<n):∀f l r,l<=r->r<=k->r-l<=f->(∀i,i<l->lt (BX p i) (BX p k)=true)->(∀i,r<=i->i<k->lt (BX p k) (BX p i)=true)->Up lt p k->Ok lt n (λl=>l<=k/\(∀i,i<l->lt (BX p i) (BX p k)=true)/\∀i,l<=i->i<k->lt (BX p k) (BX p i)=true) (kas_place p k f l r)
 |0,l,r,h1,h2,h3,a,b,_=>⟨J,a,λi hi=>b i J⟩
 |f+1,l,r,h1,h2,h3,a,b,u=>by
  unfold kas_place;split
  .exact⟨J,a,λi hi=>b i J⟩
  .refine⟨hp.bd hk,hp.bd J,?_⟩;cases c:lt (p.getD k 0) (p.getD ((l+r) / 2) 0)
   .refine Tc hp hk f _ r J h2 J (λi hi=>?_) b u;have m:=T.at hp hk J J c;by_cases e:i=(l+r) / 2
    .rw[e];exact m
    .exact T.tr _ _ _ (u i _ J J) m
   .refine Tc hp hk f l _ J J J a (λi hi IZ=>?_) u;by_cases e:i=(l+r) / 2
    .rw[e];exact c
    .exact T.tr _ _ _ c<|u _ i J IZ
theorem ZP:∀f (p:Array Nat) k,Pm n p->k+f=n->Up lt p k->Ok lt n (λp=>Pm n p/\Up lt p n) (kas_bin f p k)
 |0,_,_,h,e,u=>⟨h,by rw[<-e];exact u⟩
 |f+1,p,k,h,e,u=>by
  refine Ok.bind (λl (⟨hl,a,b⟩)=>ZP f _ _ (Array.Perm.trans (bubble_perm ..) h) J λi j Br hj=>?_) _<|Tc T h J k 0 k J J J (λi hi=>J) (λi _ _=>J) u;have g:∀i,BX (bubble p k<|k-l) i=BX p (if i=l then k else if l<i/\i<=k then i-1 else i):=λi=>Vd (by
   rw[getElem?_bubble (by rw[h.size];lia) _ J,show k-(k-l)=l by lia];split
   .rfl
   .split<;>rfl)
  rw[g,g];by_cases c1:i=l
  .rw[AAH c1,AAG J];exact b _ J J
  .rw[AAG c1];by_cases c2:j=l
   .rw[AAH c2,AAG J];exact a _ J
   .rw[AAG c2];refine u _ _ ?_ ?_<;>(repeat' split)<;>lia
theorem Td(h2:2<=n):Ok lt n (λp=>Pm n p/\Up lt p n)<|kas_sort n:=
 Ok.bind (λr (⟨hp,a,b,u⟩)=>by
  split
  .rw[show max r.1 1=r.1 by lia];exact ZP T _ _ _ hp J u
  .exact⟨hp,by exact(J:r.1=n) ▸ u⟩) _ (nu T h2<|Array.Perm.refl _)
end
open PySem PySem.W PyProof.Rows PySem.SeqAt
inductive PA(h:Heap):List Value->List (Int×Int)->Prop
 |nil:PA h [] []
 |cons {a:Addr} {o:Obj} {t t':Tok} {n:Nat} {p:Int×Int} {vs:List Value} {ps:List (Int×Int)} (ho:h.get? a=some o) (hc:o.cls=.type "tuple") (hd:o.data=.seq #[.int p.1 t,.int p.2 t'] n) (r:PA h vs ps):PA h (.ref a::vs) (p::ps)
theorem PA.len{h:Heap}:∀{vs:List Value}{ps:List (Int×Int)},PA h vs ps->vs.length=ps.length
 |_,_,.nil=>rfl
 |_,_,.cons _ _ _ r=>by rw[AAc,AAc,r.len]
theorem PA.at{h:Heap}:∀{vs:List Value}{ps:List (Int×Int)}{i:Nat},PA h vs ps->i<ps.length->∃a o t t' n,vs.getD i Value.none=.ref a/\h.get? a=some o/\o.data=.seq #[.int (ps.getD i (0,0)).1 t,.int (ps.getD i (0,0)).2 t'] n
 |_,_,0,.cons ho _ hd _,_=>⟨_,_,_,_,_,rfl,ho,hd⟩
 |_,_,i+1,.cons _ _ _ r,hi=>r.at <|by simpa using hi
theorem PA.kept{h h':Heap}{a:Addr}(k:∀b o,b≠a->h.get? b=some o->h'.get? b=some o):∀{vs:List Value}{ps:List (Int×Int)},(∀v∈vs,v≠.ref a)->PA h vs ps->PA h' vs ps
 |_,_,_,.nil=>.nil
 |_,_,hn,.cons ho hc hd r=>.cons (k _ _ (λe=>hn _ (.head _)<|by rw[e]) ho) hc hd<|r.kept k λv hv=>hn v<|.tail _ hv
theorem PA.DQ{h:Heap}:∀{vs:List Value}{ps:List (Int×Int)},PA h vs ps->∃fs,KatTups h vs fs/\fs.length=ps.length/\∀v∈fs,∃i t,v=Value.int i t
 |_,_,.nil=>⟨[],.nil,rfl,λ_ h=>by cases h⟩
 |_,_,.cons (t:=t) (p:=p) ho hc hd r=>by
  obtain⟨fs,a,b,c⟩:=r.DQ;refine⟨.int p.1 t::fs,.cons ho hc hd rfl a,by rw[AAc,AAc,b],λv hv=>?_⟩;rcases AAi.mp hv with rfl|hv
  .exact⟨_,_,rfl⟩
  .exact c v hv
noncomputable def Hb(ps:List<|Int×Int)(i j:Nat):Bool:=decide ((ps.getD i (0,0)).1<(ps.getD j (0,0)).1\/((ps.getD i (0,0)).1=(ps.getD j (0,0)).1/\(ps.getD i (0,0)).2<(ps.getD j (0,0)).2))
section
variable{prog:Program}{w:World}{A:Around}{E:Value->Shared->Prop}{s:Shared}{vs:List Value}{ps:List (Int×Int)}
theorem dh(hP:PA s.heap vs ps){i j:Nat}(hi:i<ps.length)(hj:j<ps.length){C:Bool->Shared->Prop}(h:C (Hb ps i j) s):kas_ask prog w A (tuples' true) vs i j C s:=by
 obtain⟨a,o,t,t',n,e1,ho,hd⟩:=hP.at hi;obtain⟨b,o2,u,u',n2,e2,Jh,hd2⟩:=hP.at hj;unfold kas_ask;rw[e1,e2];unfold Hb at h;generalize ps.getD i (0,0)=x at h hd;generalize ps.getD j (0,0)=y at h hd2;refine kat_lt ho hd Jh hd2 ?_;refine kat_cons<|EqAt.int_int x.1 t y.1 u prog w _ _ ?_;cases e:(x.1==y.1)with
 |false=>
  have e':=by simpa using e
  refine kat_no<|oneLt_int ?_;rw[show decide (x.1<y.1)=decide (x.1<y.1\/(x.1=y.1/\x.2<y.2))by simp[e']];exact h
 |true=>
  have e':x.1=y.1:=by simpa using e
  refine kat_yes<|kat_cons<|EqAt.int_int x.2 t' y.2 u' prog w _ _ ?_;cases k:(x.2==y.2)with
  |false=>
   refine kat_no<|kat_one _ _<|lt_int ?_;rw[show decide (x.2<y.2)=decide (x.1<y.1\/(x.1=y.1/\x.2<y.2))by simp[e']];exact h
  |true=>
   have k':=by simpa using k
   show C false s;rw[show false=decide (x.1<y.1\/(x.1=y.1/\x.2<y.2))by simp[e',k']];exact h
def ord(ps:List<|Int×Int):List Nat:=if ps.length<2 then List.range ps.length else(run (Hb ps)<|kas_sort ps.length).toList
theorem JA{ps:List (Int×Int)}(nd:ps.Nodup):Qp (Hb ps) ps.length:=by
 refine⟨λi j k=>?_,λi j hi hj e=>?_⟩
 .unfold Hb;lia
 .unfold Hb;simp only[AAa,ABo];have ne:ps.getD i (0,0)≠ps.getD j (0,0):=by
   rw[AA0,AA0,AAV hi,AAV hj];exact λk=>e<|(AC5 nd).mp k
  have:¬ ((ps.getD i (0,0)).1=(ps.getD j (0,0)).1/\(ps.getD i (0,0)).2=(ps.getD j (0,0)).2):=λk=>ne<|ABD k.1 k.2;lia
theorem Tn{ps:List (Int×Int)}(nd:ps.Nodup):(ord ps).Perm<|List.range ps.length:=by
 unfold ord;split
 .exact List.Perm.refl _
 .exact ACf.mp (Ok.run _<|Td (JA nd) J).1
theorem Tj{ps:List (Int×Int)}(nd:ps.Nodup):∀i∈ord ps,i<ps.length:=λi h=>AAP.mp<|(Tn nd).mem_iff.mp h
theorem oo{ps:List (Int×Int)}(nd:ps.Nodup):(ord ps).length=ps.length:=by rw[(Tn nd).length_eq,ABg]
theorem oq{ps:List (Int×Int)}(nd:ps.Nodup):(ord ps).Pairwise λi j=>Hb ps i j=true:=by
 unfold ord;split
 .rw[ABC];intro i j hi hj Br;rw[ABg]at hj;lia
 .rw[ABC];intro i j hi hj Br;have h:=Ok.run _<|Td (JA nd) J;have hs:=h.1.size;rw[ABh,hs]at hj;have:=h.2 i j Br hj;simpa[BX,Array.getD,hs,hj,show i<ps.length by lia]using this
theorem vD{a:Addr}{n:Nat}{P:PySem.Fin->Shared->Prop}(ho:s.heap.get? a=some (seqObj "list" vs.toArray n))(hP:PA s.heap vs ps)(nd:ps.Nodup)(OY:∀v∈vs,v≠.ref a)(HQ:vs.length<64) (h:P (.done<|.ret .none) { s with heap:=sortedHeap s.heap a vs ((ord ps).map λi=>vs.getD i Value.none).toArray }) :
 wpAny (model prog w) A (Builtin.«list.sort» ⟨[.ref a],[]⟩) P E s:=by
 have hl:=hP.len;rw[list_sort_plain];have ha:=Heap.lt_size ho;refine wpAny_bind<|listItems_at ho rfl ?_;refine wpAny_bind (listUpdate_at ho rfl ?_ (by rw[AAR,sizeLine_eq];lia) (ABs _));obtain⟨e1,X9⟩:∃e1,(s.heap.update a<|Obj.mapSeq λ_=>#[]).get? a=some (seqObj "list" #[] e1):=⟨_,get?_update_seq ho (λ_=>#[])⟩;refine wpAny_bind<|seqEpoch_at X9 rfl ?_;refine wpAny_bind (wpAny_newTuple ?_ (by show vs.length<=_;rw[sizeLine_eq];lia));refine wpAny_bind<|wpAny_newList ?_ (ABs _);refine wpAny_holding ?_;have Oa:(((s.heap.update a<|Obj.mapSeq λ_=>#[]).push<|seqObj "tuple" vs.toArray 0).push<|seqObj "list" #[] 0).get? a=some (seqObj "list" #[] e1):=by
  rw[Heap.get?_push_ne _ _ _ (by rw[size_push',Heap.size_update];exact AAZ<|ACY ha),Heap.get?_push_ne _ _ _ (by rw[Heap.size_update];exact AAZ ha)];exact X9
 have kp:∀b o,b≠a->s.heap.get? b=some o->(((s.heap.update a<|Obj.mapSeq λ_=>#[]).push<|seqObj "tuple" vs.toArray 0).push<|seqObj "list" #[] 0).get? b=some o:=λb o hb q=>
  Heap.get?_push_of_some _ (Heap.get?_push_of_some _ (by rw[Heap.get?_update_ne _ _ _ _ hb];exact q))
 have Xj:=hP.kept kp OY;dsimp only;have hsz:vs.toArray.size=vs.length:=AAB
 by_cases h2:vs.toArray.size<2
 .rw[AAH h2,AAH h2];refine wpAny_bind<|wpAny_pure ?_;refine wpAny_bind<|wpAny_pure ?_;dsimp only;refine wpAny_bind<|seqEpoch_at Oa rfl ?_;refine wpAny_bind (listUpdate_at Oa rfl ?_ (hsz2:=by rw[Array.size_map];show(pairsOf vs).size<=_;rw[pairsOf_size,sizeLine_eq];lia));simp only[bne_self_eq_false];have eo:((ord ps).map λi=>vs.getD i Value.none).toArray=(vs.toArray.zip vs.toArray).map (·.2):=by
   unfold ord
   match vs,hl,h2 with
   |[],hl,_=>rw[<-hl];simp
   |[v],hl,_=>rw[<-hl];simp[ACA]
   |_::_::_,_,h2=>exact absurd h2 AAB
  rw[eo]at h;exact wpAny_pure h
 .rw[AAG h2,AAG h2];obtain⟨fs,kt,kl,ki⟩:=Xj.DQ;refine wpAny_bind (kat_kind  kt J (λv hv=>by obtain⟨i,t,rfl⟩:=ki v hv;exact .now) AAC ?_);have hw:(kas_sort vs.length).kasWp (kas_ask prog w A (tuples'<|Value.type "int" != Value.type "tuple") vs) (λp s'=>p=run (Hb ps) (kas_sort ps.length)/\s'={ s with heap:=((s.heap.update a<|Obj.mapSeq λ_=>#[]).push<|seqObj "tuple" vs.toArray 0).push (seqObj "list" #[] 0) }) { s with heap:=((s.heap.update a<|Obj.mapSeq λ_=>#[]).push<|seqObj "tuple" vs.toArray 0).push (seqObj "list" #[] 0) }:=by
   rw[hl];exact Ok.wp  (λi j C hi hj hC=>dh Xj hi hj hC) _ (Td (JA nd) J) ⟨rfl,rfl⟩
  refine wpAny_bind<|wpAny_mono (kat_run (Q:=λGg s'=>∃p:Array Nat,p.size=vs.length/\arrOf Gg=p.map (kas_item<|vs.toArray.zip vs.toArray)/\failedOf Gg=none/\p=run (Hb ps) (kas_sort ps.length)/\s'={ s with heap:=((s.heap.update a<|Obj.mapSeq λ_=>#[]).push<|seqObj "tuple" vs.toArray 0).push (seqObj "list" #[] 0) }) rfl J HQ (λp' Gg s' a1 a2 a3 a4=>⟨p',a1,a2,a3,a4⟩) hw) ?_ λ_ _ e=>e;rintro⟨⟨⟩,Gg⟩ s' ⟨p,hp,jt,hf,SQ,rfl⟩;have k7:=kat_snds rfl jt;rw[k7];refine wpAny_bind<|seqEpoch_at Oa rfl ?_;refine wpAny_bind (listUpdate_at Oa rfl ?_ (hsz2:=by rw[AAR,AAO,ABh,hp,sizeLine_eq];lia));rw[hf];simp only[bne_self_eq_false];have eo:ord ps=p.toList:=by unfold ord;rw[AAG J,SQ]
  rw[eo]at h;exact wpAny_pure h
theorem vG{l:Addr}{Q:Value->Shared->Prop}(hl:s.heap.IsList l vs.toArray)(hP:PA s.heap vs ps)(nd:ps.Nodup)(HQ:vs.length<64) (h:Q (.ref<|s.heap.objs.size+1) { s with heap:=sortedAll s.heap vs ((ord ps).map λi=>vs.getD i Value.none).toArray }) :
 wpAny (model prog w) A (call (.builtin "sorted") [.ref l]) Q E s:=by
 refine Calls.call_function_entry kind_sorted plain_sorted entry_sorted (args_sorted1 _) ?_;refine wpAny_bind <|wpAny_pure ?_;refine wpAny_bind (collect_list hl ?_ (by rw[sizeLine_eq];lia));refine wpAny_bind (wpAny_newList ?_ (by rw[sizeLine_eq];lia));have hsz:((s.heap.push<|seqObj "list" #[] 0).update s.heap.objs.size (Obj.mapSeq (· ++ vs.toArray))).objs.size=s.heap.objs.size+1:=by
  rw[Heap.size_update,size_push']
 have Ob:(((s.heap.push<|seqObj "list" #[] 0).update s.heap.objs.size (Obj.mapSeq (· ++ vs.toArray))).push<|seqObj "list" vs.toArray 0).get? (s.heap.objs.size+1)=some (seqObj "list" vs.toArray 0):=by
  rw[<-hsz];exact Heap.get?_push_size _ rfl
 have keep:∀b o,s.heap.get? b=some o->(((s.heap.push<|seqObj "list" #[] 0).update s.heap.objs.size (Obj.mapSeq (· ++ vs.toArray))).push<|seqObj "list" vs.toArray 0).get? b=some o:=λb o q=>by
  have BH:=Heap.lt_size q;rw[Heap.get?_push_ne _ _ _ (by rw[hsz];exact AAZ<|ACY BH),Heap.get?_update_ne _ _ _ _ (AAZ BH),Heap.get?_push_ne _ _ _ (AAZ BH)];exact q
 rw[hsz];have OY:∀v∈vs,v≠Value.ref (s.heap.objs.size+1):=λv hv e=>by
  have:∀{vs:List Value}{ps:List (Int×Int)},PA s.heap vs ps->∀v∈vs,∃b,v=.ref b/\b<s.heap.objs.size:=λ{vs ps} h=>by
   induction h with
   |nil=>intro v hv;cases hv
   |cons ho hc hd r ih=>
    intro v hv;rcases AAi.mp hv with rfl|hv
    .exact⟨_,rfl,Heap.lt_size ho⟩
    .exact ih v hv
  obtain⟨b,e',hb⟩:=this hP v hv;rw[e']at e;cases e;exact absurd hb (Nat.not_lt.mpr<|ADC _)
 refine wpAny_bind<|wpAny_holding<|wpAny_call_entry slot_list_sort ⟨_,Ob,rfl⟩ entry_list_sort (vD Ob (hP.kept  (λb o _ q=>keep b o q) OY) nd OY HQ ⟨_,rfl,?_⟩)<|args_list_sort _;exact wpAny_pure ⟨_,rfl,h⟩
end
end Ct
namespace L2.PL
open PySem PySem.Spec PyProof.Rows
noncomputable def K9:List PV->Option (List<|Int×Int)
 |[]=>some []
 |.tup [.int p,.int q]::r=>(K9 r).map ((p,q) :: ·)
 |_=>none
def Kx:List RV->Option RV
 |[r]=>match r.list with
  |some ps=>(match K9 ps with
   |some zs=>if ps.length<64/\zs.Nodup then some (.fr<|(Ct.ord zs).map λi=>ps.getD i .A4)else none
   |none=>none)
  |none=>none
 |_=>none
def Nj(K:W.Frag)(H:Hp)(z:Int×Int)(v:V):Prop:=∃a,v=.ref a/\CB K H a [.int z.1,.int z.2]
theorem Ze{K:W.Frag}{G:Hp}:∀{ps:List PV}{zs:List (Int×Int)}{vs:List V},K9 ps=some zs->Ac K G ps vs->Paired (Nj K G) zs vs
 |[],_,_,e,h=>by cases e;subst h;exact .nil
 |p::r,zs,vs,e,h=>by
  unfold K9 at e;split at e
  .rename_i e0;cases e0
  .rename_i p' q' r' e0;cases e0;obtain⟨zy,ez,rfl⟩:=ADd.mp e;obtain⟨v,us,rfl,hv,t⟩:=h;obtain⟨a,rfl,ha⟩:=Tr hv;exact .cons ⟨a,rfl,ha⟩<|Ze ez t
  .cases e
theorem bq{ys:List V}{its:List Value}(h:An ys its):∀l:List Nat,(∀i∈l,i<ys.length)->An (l.map λi=>ys.getD i .A4) (l.map λi=>its.getD i Value.none)
 |[],_=>.nil
 |i::l,hl=>by
  have hi:=hl i<|.head _;obtain⟨u,eu,ru⟩:=h.get<|AAV hi;refine .cons ?_ (bq h l λj hj=>hl j<|.tail _ hj);show RelV (ys.getD i .A4) (its.getD i Value.none);rw[AA0,AA0,AAV hi,eu];exact ru
theorem aF{K:W.Frag}{G:Hp}{ps:List PV}{ys:List V}(h:Paired (Rep K G) ps ys):∀l:List Nat,(∀i∈l,i<ps.length)->Paired (Rep K G) (l.map λi=>ps.getD i .A4) (l.map λi=>ys.getD i .A4)
 |[],_=>.nil
 |i::l,hl=>by
  have hi:=hl i<|.head _;obtain⟨u,eu,ru⟩:=Js h<|AAV hi;refine .cons ?_ (aF h l λj hj=>hl j<|.tail _ hj);show Rep K G (ps.getD i .A4) (ys.getD i .A4);rw[AA0,AA0,AAV hi,eu];exact ru
section
variable{X:Cx}
theorem Zc{AE:List (Addr×Obj)}{σ:St}{H:Hp}{s:Shared}(I:Inv X AE σ H s):∀{zs:List (Int×Int)}{ys:List V}{its:List Value},Paired (Nj X.K H) zs ys->An ys its->Ct.PA s.heap its zs
 |_,_,_,.nil,h=>by cases h;exact .nil
 |_,_,_,.cons ⟨a,e,ha⟩ r,h=>by
  cases h with
  |cons ru t=>
   subst e;cases ru;obtain⟨i1,r1,⟨o,h1,k1,n1,z1⟩,_⟩:=I.tuple ha;obtain⟨t1,t2,rfl⟩:=Mx r1;exact .cons h1 k1 z1<|Zc I r t
theorem fK:DT X (.builtin "sorted") (λxs H Q=>∃(p:Addr)(ys:List V)(zs:List<|Int×Int),xs=[.ref p]/\CO X.K H p ys/\Paired (Nj X.K H) zs ys/\ys.length<64/\zs.Nodup/\∀l,H l=none->Q (.ref l) (upd H l<|.lst<|(Ct.ord zs).map λi=>ys.getD i .A4)):=by
 intro AE s σ H xs us Q I r h;obtain⟨p,ys,zs,rfl,hq,hp,HQ,nd,q⟩:=h;obtain⟨u,rfl,rx⟩:=vals1 r;cases rx;obtain⟨its,r',pl,hz⟩:=I.list hq;have Bj:=r'.length;have Kp:=Paired.length hp;have Od:=Ct.Tj nd;refine Ct.vG  pl.isList (Zc I hp r') nd J ?_;obtain⟨e,he⟩:=sortedAll_at s.heap its ((Ct.ord zs).map λi=>its.getD i Value.none).toArray;have Oc:(Ct.ord zs).length<=sizeLine:=by
  rw[Ct.oo nd];lia
 exact⟨.ref<|s.heap.objs.size+1,_,I.laid  (λb o k=>sortedAll_old k) (ADC _) (show Bx X.prog X.w _ _ _ (.lst _)from⟨by rw[AAO];exact Oc,_,e,bq r' _ (λi hi=>by have:=Od i hi;lia),he⟩),rfl,q _<|I.Ae.fresh<|ADC _⟩
theorem oh:E8 X.K Kx (λxs H Q=>∃(p:Addr)(ys:List V)(zs:List<|Int×Int),xs=[.ref p]/\CO X.K H p ys/\Paired (Nj X.K H) zs ys/\ys.length<64/\zs.Nodup/\∀l,H l=none->Q (.ref l) (upd H l<|.lst<|(Ct.ord zs).map λi=>ys.getD i .A4)):=by
 intro rs z H0 G H vs Q sub sh e rv q;unfold Kx at e;split at e
 .split at e
  .rename_i ps es;split at e
   .rename_i zs ez;split at e
    .rename_i HQ;cases e;obtain⟨v,rfl,hv⟩:=rv.one;obtain⟨a,us,rfl,hq,rl⟩:=hv.list sub es;have hp:=Ze ez rl;have hl:=rl.paired.length;have hz:=Paired.length hp;refine⟨a,us,zs,rfl,.inl hq,Paired.PC hp (by rintro _ _ ⟨b,e,h⟩;exact⟨b,e,CB.same sub h⟩),J,HQ.2,λl hl=>q _ _ _ (A0.Gb sub _ hl) ⟨l,_,rfl,sh.free hl,sub.free hl,C0,Ac.of<|aF rl.paired _ λi hi=>?_⟩⟩;have:=Ct.Tj HQ.2 i hi;lia
    .cases e
   .cases e
  .cases e
 .cases e
end
section
variable{X:Cx}{AV AS:Hp}{e:Expr}{f:EF}{pos:Pos}
end
end L2.PL
namespace L2
open PySem PySem.Spec PyProof.Rows
section
variable{X:Cx}{k j i:Nat}{f Wc:Addr}{fd:FuncData}{ps:List Str}{sp:Sp}{E:XK}{x y n fx:Str}{p yp fp np Oe Au apos pos:Pos}{e:Expr}{es:List Expr}{t:TA}{Iv:List Stmt}{KW:Stmt}{ts:TS}
end
end L2
namespace L2.PL
open PySem PySem.Spec PyProof.Rows
section
variable{X:Cx}{E:XK}{AV AS:Hp}{e:Expr}{es:List Expr}{ga:AF}{pos:Pos}
end
section
variable{X:Cx}
end
section
variable{X:Cx}
end
end L2.PL
namespace L2.K
open L2.PL
def WO:SF:=(AO (Al (AN<|f2 Bb (AB 1)<|fB Ah<|AD (AB 0) AG) (Ak<|f2 AJ (AB 0)<|AB 1) Am)<|AO (Aa 2<|fC<|.int 0)<|AO (Al (AN<|f2 BL (fB Ah<|AD (AB 0) AG)<|fC<|.int 0) (Aa 2<|f2 AJ (AB 0)<|fC<|.int 0) Am)<|Ak<|f2 Ap (f2 AZ (f2 CL (f2 Ap (AB 2)<|fC<|.int 65521)<|fC<|.int 48271)<|f2 CL (AB 1)<|fC<|.int 30103)<|fC<|.int 65521)
def Bh:List PV->Option RV:=denote 3 2 WO
def gf:SF:=(AO (GN 3 4<|AD (f2 Ad (f2 AJ (AB 1)<|fC<|.int 0)<|f2 AJ (AB 0)<|fC<|.int 0)<|AD (f2 Ad (f2 AJ (AB 1)<|fC<|.int 1)<|f2 AJ (AB 0)<|fC<|.int 1) AG)<|Ak<|f2 Ad (f2 CL (AB 3)<|f2 Ad (f2 AJ (AB 2)<|fC<|.int 1)<|f2 AJ (AB 0)<|fC<|.int 1)<|f2 CL (AB 4)<|f2 Ad (f2 AJ (AB 2)<|fC<|.int 0)<|f2 AJ (AB 0)<|fC<|.int 0)
def D7:List PV->Option RV:=denote 5 3 gf
def WR:SF:=(AO (Cw (Bm<|AD (fB Ah<|AD (AB 0) AG) AG) (Ag 1)<|Al (AN<|f2 A6 (AU D7<|AD (f2 AJ (AB 0)<|f2 Ad (AB 1)<|fC<|.int 2)<|AD (f2 AJ (AB 0)<|f2 Ad (AB 1)<|fC<|.int 1)<|AD (f2 AJ (AB 0)<|AB 1) AG)<|fC<|.int 0) (Ak<|fC<|.bl true) Am)<|Ak<|fC<|.bl false)
def LW:List PV->Option RV:=denote 2 1 WR
def WY:SF:=(AO (Aa 3<|f2 Ap (AU Bh<|AD (AB 0)<|AD (f2 AZ (AB 1)<|fC<|.int 1) AG)<|fC<|.int 4)<|AO (Aa 4<|fC<|.int 0)<|AO (EB 5<|BE AG)<|AO (EB 6<|BE AG)<|AO (Cw (ET<|AD (fC<|.int 1)<|AD (f2 Ad (AB 2)<|fC<|.int 1) AG) (Ag 7)<|AO (Aa 8<|AU Bh<|AD (AB 0)<|AD (f2 AZ (f2 AZ (AB 1)<|fC<|.int 4)<|AB 7) AG)<|AO (Aa 4<|f2 AZ (f2 AZ (AB 4)<|fC<|.int 1)<|f2 Ap (f2 Bq (AB 8)<|fC<|.int 2)<|fC<|.int 4)<|AO (Aa 9<|f2 AZ (fC<|.int 1)<|f2 Ap (f2 Bq (AB 8)<|fC<|.int 8)<|fC<|.int 9)<|AO (Al (AN<|f2 A6 (AB 3)<|fC<|.int 3) (AO (Aa 4<|AB 7)<|Aa 9<|f2 CL (AB 7)<|f2 Ad (f2 Ad (AB 2)<|fC<|.int 1)<|AB 7) Am)<|Al (AN<|f2 A6 (f2 Ap (AB 8)<|fC<|.int 2)<|fC<|.int 0) (B6 5 Cr<|AD (Av<|AD (AB 4)<|AD (f2 Ad (fC<|.int 0)<|AB 9) AG) AG)<|B6 6 Cr<|AD (Av<|AD (AB 4)<|AD (AB 9) AG) AG)<|AO (Aa 10<|f2 AZ (f2 AZ (f2 AZ (BE<|AD (Av<|AD (fC<|.int 0)<|AD (fC<|.int 0) AG) AG)<|AB 5)<|BE<|AD (Av<|AD (f2 AZ (AB 4)<|fC<|.int 1)<|AD (fC<|.int 0) AG) AG)<|Fd<|AB 6)<|AO (Al (AN<|AU LW<|AD (AB 10) AG) (Aa 10<|BS (Bm<|AD (AB 2) AG) 1 [2] (Ag 0) Bn<|Av<|AD (AB 0)<|AD (f2 Ad (fC<|.int 0)<|f2 CL (AB 0)<|f2 Ad (f2 Ad (AB 1)<|fC<|.int 1)<|AB 0) AG) Am)<|Ak<|AB 10)
def QY:List PV->Option RV:=denote 11 3 WY
def gi:SF:=(AO (EB 2<|BE<|AD (fC<|.int 0) AG)<|AO (EB 3<|BE<|AD (fC<|.int 0) AG)<|AO (Cw (Bm<|AD (fC<|.int 5) AG) (Ag 4)<|AO (Aa 5<|AU Bh<|AD (AB 0)<|AD (f2 AZ (f2 AZ (AB 1)<|fC<|.int 5)<|AB 4) AG)<|AO (B6 2 Cr<|AD (f2 AZ (f2 AZ (f2 AJ (AB 2)<|IL<|fC<|.int 1)<|fC<|.int 1)<|f2 Ap (AB 5)<|fC<|.int 4) AG)<|B6 3 Cr<|AD (f2 AZ (f2 AZ (f2 AJ (AB 3)<|IL<|fC<|.int 1)<|fC<|.int 1)<|f2 Ap (f2 Bq (AB 5)<|fC<|.int 4)<|fC<|.int 4) AG)<|AO (Aa 6<|BE<|AD (Av<|AD (fC<|.int 0)<|AD (fC<|.int 0) AG)<|AD (Av<|AD (fC<|.int 5)<|AD (fC<|.int 0) AG)<|AD (Av<|AD (fC<|.int 5)<|AD (fC<|.int 5) AG)<|AD (Av<|AD (fC<|.int 1)<|AD (fC<|.int 5) AG)<|AD (Av<|AD (fC<|.int 1)<|AD (fC<|.int 2) AG)<|AD (Av<|AD (fC<|.int 3)<|AD (fC<|.int 2) AG)<|AD (Av<|AD (fC<|.int 3)<|AD (fC<|.int 3) AG)<|AD (Av<|AD (fC<|.int 2)<|AD (fC<|.int 3) AG)<|AD (Av<|AD (fC<|.int 2)<|AD (fC<|.int 4) AG)<|AD (Av<|AD (fC<|.int 4)<|AD (fC<|.int 4) AG)<|AD (Av<|AD (fC<|.int 4)<|AD (fC<|.int 1) AG)<|AD (Av<|AD (fC<|.int 0)<|AD (fC<|.int 1) AG) AG)<|Ak<|BS (Be false<|AB 6) 2 [2,3] (Cd 2<|BO (Ag 0)<|BO (Ag 1) Cn) Bn<|Av<|AD (f2 AJ (AB 2)<|AB 0)<|AD (f2 AJ (AB 3)<|AB 1) AG)
def Na:List PV->Option RV:=denote 7 2 gi
def WM:SF:=(AO (Aa 1<|fC<|.int 0)<|AO (Cw (Bm<|AD (fB Ah<|AD (AB 0) AG) AG) (Ag 2)<|AO (GN 3 4<|AD (f2 AJ (AB 0)<|f2 Ad (AB 2)<|fC<|.int 1)<|AD (f2 AJ (AB 0)<|AB 2) AG)<|Aa 1<|f2 Ad (f2 AZ (AB 1)<|f2 CL (f2 AJ (AB 3)<|fC<|.int 0)<|f2 AJ (AB 4)<|fC<|.int 1)<|f2 CL (f2 AJ (AB 3)<|fC<|.int 1)<|f2 AJ (AB 4)<|fC<|.int 0)<|Ak<|AB 1)
def NX:List PV->Option RV:=denote 5 1 WM
def WX:SF:=(AO (Al (AN<|f2 CC (AU D7<|AD (AB 0)<|AD (AB 1)<|AD (AB 2) AG)<|fC<|.int 0) (Ak<|fC<|.bl false) Am)<|AO (Aa 3<|Av<|AD (fB HY<|AD (f2 AJ (AB 0)<|fC<|.int 0)<|AD (f2 AJ (AB 1)<|fC<|.int 0) AG)<|AD (fB HY<|AD (f2 AJ (AB 0)<|fC<|.int 1)<|AD (f2 AJ (AB 1)<|fC<|.int 1) AG) AG)<|AO (Aa 4<|Av<|AD (fB EG<|AD (f2 AJ (AB 0)<|fC<|.int 0)<|AD (f2 AJ (AB 1)<|fC<|.int 0) AG)<|AD (fB EG<|AD (f2 AJ (AB 0)<|fC<|.int 1)<|AD (f2 AJ (AB 1)<|fC<|.int 1) AG) AG)<|Ak<|DB (EA B7 B7 (f2 AJ (AB 3)<|fC<|.int 0) (f2 AJ (AB 2)<|fC<|.int 0)<|f2 AJ (AB 4)<|fC<|.int 0)<|EA B7 B7 (f2 AJ (AB 3)<|fC<|.int 1) (f2 AJ (AB 2)<|fC<|.int 1)<|f2 AJ (AB 4)<|fC<|.int 1)
def Ho:List PV->Option RV:=denote 5 3 WX
def WW:SF:=(AO (Aa 4<|BE<|AD (Av<|AD (AB 0)<|AD (AB 1)<|AD (AB 2) AG)<|AD (Av<|AD (AB 0)<|AD (AB 1)<|AD (AB 3) AG) AG)<|AO (Aa 4<|f2 AZ (AB 4)<|BE<|AD (Av<|AD (AB 2)<|AD (AB 3)<|AD (AB 0) AG)<|AD (Av<|AD (AB 2)<|AD (AB 3)<|AD (AB 1) AG) AG)<|AO (Cw (Be true<|AB 4) (Cd 3<|BO (Ag 5)<|BO (Ag 6)<|BO (Ag 7) Cn)<|Al (AN<|AU Ho<|AD (AB 5)<|AD (AB 6)<|AD (AB 7) AG) (Ak<|fC<|.bl true) Am)<|AO (Aa 8<|f2 CC (f2 BL (AU D7<|AD (AB 0)<|AD (AB 1)<|AD (AB 2) AG)<|fC<|.int 0)<|f2 BL (AU D7<|AD (AB 0)<|AD (AB 1)<|AD (AB 3) AG)<|fC<|.int 0)<|Ak<|DB (AB 8)<|f2 CC (f2 BL (AU D7<|AD (AB 2)<|AD (AB 3)<|AD (AB 0) AG)<|fC<|.int 0)<|f2 BL (AU D7<|AD (AB 2)<|AD (AB 3)<|AD (AB 1) AG)<|fC<|.int 0)
def Hn:List PV->Option RV:=denote 9 4 WW
def WS:SF:=(AO (Aa 1<|fB Ah<|AD (AB 0) AG)<|AO (Al (CZ (CY<|AN<|EA B7 B7 (fC<|.int 3) (AB 1)<|fC<|.int 12)<|AN<|f2 BL (fB Ah<|AD (BS (Be false<|AB 0) 2 [] (Cd 2<|BO (Ag 0)<|BO (Ag 1) Cn) (AN<|f2 BL (fB EG<|AD (fB C2<|AD (AB 0) AG)<|AD (fB C2<|AD (AB 1) AG) AG)<|fC<|.int 100)<|fC<|.int 1) AG)<|fC<|.int 0) (Ak<|fC<|.bl false) Am)<|AO (Al (CZ (AN<|f2 CC (IK<|AB 0)<|AB 1)<|CZ (AN<|AU LW<|AD (AB 0) AG)<|AN<|f2 B7 (AU NX<|AD (AB 0) AG)<|fC<|.int 0) (Ak<|fC<|.bl false) Am)<|AO (Cw (Bm<|AD (AB 1) AG) (Ag 2)<|Cw (Bm<|AD (AB 2) AG) (Ag 3)<|Al (AN<|f2 (BB true) (f2 Ap (f2 Ad (AB 2)<|AB 3)<|AB 1)<|BE<|AD (fC<|.int 1)<|AD (f2 Ad (AB 1)<|fC<|.int 1) AG) (Al (AN<|AU Hn<|AD (f2 AJ (AB 0)<|f2 Ad (AB 2)<|fC<|.int 1)<|AD (f2 AJ (AB 0)<|AB 2)<|AD (f2 AJ (AB 0)<|f2 Ad (AB 3)<|fC<|.int 1)<|AD (f2 AJ (AB 0)<|AB 3) AG) (Ak<|fC<|.bl false) Am) Am)<|Ak<|fC<|.bl true)
def LX:List PV->Option RV:=denote 4 1 WS
def gd:SF:=(AO (Cw (Bm<|AD (f2 Ap (f2 Bq (AU Bh<|AD (AB 0)<|AD (f2 AZ (AB 1)<|fC<|.int 1) AG)<|fC<|.int 4)<|fC<|.int 5) AG) (Ag 3)<|AO (Aa 4<|AU Bh<|AD (AB 0)<|AD (f2 AZ (f2 AZ (AB 1)<|fC<|.int 15)<|AB 3) AG)<|AO (Aa 5<|f2 Ap (AB 4)<|fB Ah<|AD (AB 2) AG)<|AO (Aa 6<|f2 Ad (f2 AZ (f2 AJ (f2 AJ (AB 2)<|AB 5)<|fC<|.int 0)<|f2 Ap (f2 Bq (AB 4)<|fC<|.int 16)<|fC<|.int 33)<|fC<|.int 16)<|AO (Aa 7<|f2 Ad (f2 AZ (f2 AJ (f2 AJ (AB 2)<|AB 5)<|fC<|.int 1)<|f2 Ap (f2 Bq (AB 4)<|fC<|.int 1024)<|fC<|.int 33)<|fC<|.int 16)<|AO (Aa 8<|f2 AZ (f2 AZ (DJ (AB 2) Df<|DI<|AB 5)<|BE<|AD (Av<|AD (AB 6)<|AD (AB 7) AG) AG)<|DJ (AB 2) (DI<|f2 AZ (AB 5)<|fC<|.int 1) Df)<|Al (BY (AN<|f2 Bb (fB EG<|AD (fB C2<|AD (AB 6) AG)<|AD (fB C2<|AD (AB 7) AG) AG)<|fC<|.int 80)<|AN<|AU LX<|AD (AB 8) AG) (Aa 2<|AB 8) Am)<|Ak<|AB 2)
def QZ:List PV->Option RV:=denote 9 3 gd
def WZ:SF:=(AO (Aa 3<|AU Bh<|AD (AB 0)<|AD (AB 1) AG)<|AO (Aa 4<|AU QY<|AD (AB 0)<|AD (AB 1)<|AD (f2 AZ (fC<|.int 3)<|f2 Ap (AB 3)<|f2 Ad (AB 2)<|fC<|.int 2) AG)<|AO (Al (BY (AN<|f2 A6 (AB 2)<|fC<|.int 12)<|AN<|f2 A6 (f2 Ap (f2 Bq (AU Bh<|AD (AB 0)<|AD (f2 AZ (AB 1)<|fC<|.int 1) AG)<|fC<|.int 20)<|fC<|.int 6)<|fC<|.int 5) (Aa 4<|AU Na<|AD (AB 0)<|AD (AB 1) AG) Am)<|AO (Aa 5<|f2 Ad (f2 Ap (f2 Bq (AU Bh<|AD (AB 0)<|AD (f2 AZ (AB 1)<|fC<|.int 2) AG)<|fC<|.int 8)<|fC<|.int 3)<|fC<|.int 1)<|AO (Aa 4<|AU QZ<|AD (AB 0)<|AD (AB 1)<|AD (BS (Be false<|AB 4) 2 [5] (Cd 2<|BO (Ag 0)<|BO (Ag 1) Cn) Bn<|Av<|AD (f2 AZ (AB 0)<|f2 CL (AB 2)<|AB 1)<|AD (AB 1) AG) AG)<|AO (Aa 6<|f2 Ap (AU Bh<|AD (AB 0)<|AD (f2 AZ (AB 1)<|fC<|.int 2) AG)<|fC<|.int 8)<|AO (Al (AN<|f2 A6 (f2 Ap (AB 6)<|fC<|.int 2)<|fC<|.int 1) (Aa 4<|Fd<|BS (Be false<|AB 4) 2 [] (Cd 2<|BO (Ag 0)<|BO (Ag 1) Cn) Bn<|Av<|AD (f2 Ad (fC<|.int 0)<|AB 0)<|AD (AB 1) AG) Am)<|AO (Al (AN<|f2 A6 (f2 Ap (f2 Bq (AB 6)<|fC<|.int 2)<|fC<|.int 2)<|fC<|.int 1) (Aa 4<|Fd<|BS (Be false<|AB 4) 2 [] (Cd 2<|BO (Ag 0)<|BO (Ag 1) Cn) Bn<|Av<|AD (AB 0)<|AD (f2 Ad (fC<|.int 0)<|AB 1) AG) Am)<|AO (Al (AN<|f2 A6 (f2 Bq (AB 6)<|fC<|.int 4)<|fC<|.int 1) (Aa 4<|Fd<|BS (Be false<|AB 4) 2 [] (Cd 2<|BO (Ag 0)<|BO (Ag 1) Cn) Bn<|Av<|AD (AB 1)<|AD (AB 0) AG) Am)<|AO (Aa 7<|f2 Ap (AU Bh<|AD (AB 0)<|AD (f2 AZ (AB 1)<|fC<|.int 3) AG)<|fB Ah<|AD (AB 4) AG)<|AO (Aa 8<|f2 Ad (f2 Ap (f2 Bq (AU Bh<|AD (AB 0)<|AD (f2 AZ (AB 1)<|fC<|.int 3) AG)<|fC<|.int 16)<|fC<|.int 41)<|fC<|.int 20)<|AO (Aa 9<|f2 Ad (f2 Ap (AU Bh<|AD (AB 0)<|AD (f2 AZ (AB 1)<|fC<|.int 4) AG)<|fC<|.int 41)<|fC<|.int 20)<|Ak<|BS (Be false<|f2 AZ (DJ (AB 4) (DI<|AB 7) Df)<|DJ (AB 4) Df<|DI<|AB 7) 2 [8,9] (Cd 2<|BO (Ag 0)<|BO (Ag 1) Cn) Bn<|Av<|AD (f2 AZ (AB 0)<|AB 2)<|AD (f2 AZ (AB 1)<|AB 3) AG)
def Qa:List PV->Option RV:=denote 10 3 WZ
def WV:SF:=(AO (Aa 3<|fB Ah<|AD (AB 0) AG)<|AO (Al (CZ (CY<|AN<|De B7 Bb Bb (fC<|.int 0) (AB 1) (AB 2)<|AB 3)<|AN<|f2 (BB false) (f2 Ad (AB 2)<|AB 1)<|BE<|AD (fC<|.int 1)<|AD (f2 Ad (AB 3)<|fC<|.int 1) AG) (Ak<|fC<|.bl false) Am)<|AO (GN 4 5<|AD (f2 AJ (AB 0)<|AB 1)<|AD (f2 AJ (AB 0)<|AB 2) AG)<|AO (Cw (Bm<|AD (AB 3) AG) (Ag 6)<|AO (Al (BY (AN<|f2 (BB true) (AB 6)<|BE<|AD (AB 1)<|AD (AB 2) AG)<|AN<|AU Ho<|AD (AB 4)<|AD (AB 5)<|AD (f2 AJ (AB 0)<|AB 6) AG) (Ak<|fC<|.bl false) Am)<|AO (Aa 7<|f2 Ap (f2 AZ (AB 6)<|fC<|.int 1)<|AB 3)<|Al (BY (AN<|f2 (BB true) (AB 6)<|BE<|AD (AB 1)<|AD (AB 2) AG)<|AN<|f2 (BB true) (AB 7)<|BE<|AD (AB 1)<|AD (AB 2) AG) (Al (AN<|AU Hn<|AD (AB 4)<|AD (AB 5)<|AD (f2 AJ (AB 0)<|AB 6)<|AD (f2 AJ (AB 0)<|AB 7) AG) (Ak<|fC<|.bl false) Am) Am)<|AO (Aa 8<|f2 BL (AU D7<|AD (AB 4)<|AD (f2 AJ (AB 0)<|f2 Ap (f2 AZ (AB 1)<|fC<|.int 1)<|AB 3)<|AD (AB 5) AG)<|fC<|.int 0)<|AO (Aa 9<|f2 BL (AU D7<|AD (f2 AJ (AB 0)<|f2 Ad (AB 1)<|fC<|.int 1)<|AD (AB 4)<|AD (AB 5) AG)<|fC<|.int 0)<|AO (Al (AN<|f2 BL (AU D7<|AD (f2 AJ (AB 0)<|f2 Ad (AB 1)<|fC<|.int 1)<|AD (AB 4)<|AD (f2 AJ (AB 0)<|f2 Ap (f2 AZ (AB 1)<|fC<|.int 1)<|AB 3) AG)<|fC<|.int 0) (Ak<|DB (AB 8)<|AB 9) Am)<|Ak<|DH (AB 8)<|AB 9)
def Gn:List PV->Option RV:=denote 10 3 WV
def WU:SF:=(AO (Aa 1<|fB Ah<|AD (AB 0) AG)<|AO (OJ 2 RY)<|AO (Cw (Bm<|AD (AB 1) AG) (Ag 3)<|Cw (Bm<|AD (AB 3) AG) (Ag 4)<|IQ 2 (AD (AB 4)<|AD (AB 3) AG)<|DH (f2 (BB false) (f2 Ad (AB 3)<|AB 4)<|BE<|AD (fC<|.int 1)<|AD (f2 Ad (AB 1)<|fC<|.int 1) AG)<|AU Gn<|AD (AB 0)<|AD (AB 4)<|AD (AB 3) AG)<|OH 2)
def QX:List PV->Option RV:=denote 5 1 WU
def WQ:SF:=(AO (Aa 3<|AU QX<|AD (AB 2) AG)<|AO (EB 4<|BE AG)<|AO (EB 5<|BE<|AD (Av<|AD (fC<|.int 0)<|AD (f2 Ad (fB Ah<|AD (AB 2) AG)<|fC<|.int 1) AG) AG)<|AO (Rj (AN<|f2 BL (fB Ah<|AD (AB 5) AG)<|fC<|.int 0)<|AO (JY 5<|Cd 2<|BO (Ag 6)<|BO (Ag 7) Cn)<|Al (AN<|f2 BL (f2 Ad (AB 7)<|AB 6)<|fC<|.int 1) (AO (Aa 8<|BS (ET<|AD (f2 AZ (AB 6)<|fC<|.int 1)<|AD (AB 7) AG) 1 [3,6,7] (Ag 0) (BY (AN<|HL (AB 1)<|AD (AB 2)<|AD (AB 0) AG)<|AN<|HL (AB 1)<|AD (AB 0)<|AD (AB 3) AG)<|AB 0)<|AO (Aa 9<|f2 AJ (AB 8)<|f2 Ap (f2 Bq (AU Bh<|AD (AB 0)<|AD (f2 AZ (AB 1)<|AB 6) AG)<|f2 AZ (fC<|.int 1)<|AB 7)<|fB Ah<|AD (AB 8) AG)<|AO (EB 5<|f2 AZ (AB 5)<|BE<|AD (Av<|AD (AB 6)<|AD (AB 9) AG)<|AD (Av<|AD (AB 9)<|AD (AB 7) AG) AG)<|Al (AN<|f2 Bb (f2 Ad (AB 7)<|AB 6)<|f2 Ad (fB Ah<|AD (AB 2) AG)<|fC<|.int 1) (B6 4 Cr<|AD (Av<|AD (AB 6)<|AD (AB 7) AG) AG) Am) Am)<|Ak<|fB Kx<|AD (AB 4) AG)
def QV:List PV->Option RV:=denote 10 3 WQ
def WT:SF:=(AO (EB 4<|fB GX<|AD (AB 0) AG)<|AO (Aa 5<|Av<|AD (f2 Ad (f2 Ap (f2 Bq (AB 2)<|fC<|.int 16)<|fC<|.int 14)<|fC<|.int 1)<|AD (f2 Ad (f2 Ap (f2 Bq (AB 3)<|fC<|.int 16)<|fC<|.int 14)<|fC<|.int 1) AG)<|AO (Al (BY (AN<|f2 A6 (AB 1)<|fC<|.int 1)<|AN<|f2 BL (fB Ah<|AD (AB 4) AG)<|fC<|.int 0) (B6 4 Jo<|AD (f2 Ap (AB 2)<|fB Ah<|AD (AB 4) AG) AG) Am)<|AO (Al (AN<|f2 A6 (AB 1)<|fC<|.int 2) (B6 4 GW<|AD (f2 Ap (AB 2)<|f2 AZ (fB Ah<|AD (AB 4) AG)<|fC<|.int 1)<|AD (AB 5) AG) Am)<|AO (Al (BY (AN<|f2 A6 (AB 1)<|fC<|.int 3)<|AN<|f2 BL (fB Ah<|AD (AB 4) AG)<|fC<|.int 0) (B6 4 GW<|AD (f2 Ap (AB 2)<|fB Ah<|AD (AB 4) AG)<|AD (f2 AJ (AB 4)<|f2 Ap (AB 2)<|fB Ah<|AD (AB 4) AG) AG) Am)<|AO (Al (BY (AN<|f2 A6 (AB 1)<|fC<|.int 4)<|AN<|f2 BL (fB Ah<|AD (AB 4) AG)<|fC<|.int 0) (HP 4 (f2 Ap (AB 2)<|fB Ah<|AD (AB 4) AG)<|AB 5) Am)<|AO (Al (BY (AN<|f2 A6 (AB 1)<|fC<|.int 5)<|AN<|f2 BL (fB Ah<|AD (AB 4) AG)<|fC<|.int 0) (AO (JX (f2 AJ (AB 4)<|f2 Ap (AB 2)<|fB Ah<|AD (AB 4) AG)<|Cd 2<|BO (Ag 6)<|BO (Ag 7) Cn)<|HP 4 (f2 Ap (AB 2)<|fB Ah<|AD (AB 4) AG)<|Av<|AD (AB 7)<|AD (AB 6) AG) Am)<|AO (Al (AN<|f2 A6 (AB 1)<|fC<|.int 6) (Ki 4 Kw) Am)<|OI 4)
def NZ:List PV->Option RV:=denote 8 4 WT
def WC:SF:=(Ak<|fB Es<|AD (BS (Be false<|AB 0) 1 [] (Ag 0) Bn<|DB (f2 B7 (fB C2<|AD (f2 AJ (AB 0)<|fC<|.int 0) AG)<|fC<|.int 100)<|f2 B7 (fB C2<|AD (f2 AJ (AB 0)<|fC<|.int 1) AG)<|fC<|.int 100) AG)
def NS:List PV->Option RV:=denote 1 1 WC
def Wh:SF:=(Ak<|f2 Ad (f2 CL (f2 Ad (f2 AJ (AB 1)<|fC<|.int 0)<|f2 AJ (AB 0)<|fC<|.int 0)<|f2 Ad (f2 AJ (AB 2)<|fC<|.int 1)<|f2 AJ (AB 0)<|fC<|.int 1)<|f2 CL (f2 Ad (f2 AJ (AB 1)<|fC<|.int 1)<|f2 AJ (AB 0)<|fC<|.int 1)<|f2 Ad (f2 AJ (AB 2)<|fC<|.int 0)<|f2 AJ (AB 0)<|fC<|.int 0)
def Ej:List PV->Option RV:=denote 3 3 Wh
def gQ:SF:=(Ak<|fB Es<|AD (BS (Bm<|AD (fB Ah<|AD (AB 0) AG) AG) 1 [0] (Ag 0) Bn<|f2 CC (AU Ej<|AD (f2 AJ (AB 1)<|f2 Ad (AB 0)<|fC<|.int 2)<|AD (f2 AJ (AB 1)<|f2 Ad (AB 0)<|fC<|.int 1)<|AD (f2 AJ (AB 1)<|AB 0) AG)<|fC<|.int 0) AG)
def QO:List PV->Option RV:=denote 1 1 gQ
def gm:SF:=(Ak<|BS (Bm<|AD (fB Ah<|AD (AB 0) AG) AG) 1 [0] (Ag 0) Bn<|Av<|AD (f2 AJ (AB 1)<|AB 0)<|AD (f2 AJ (AB 1)<|f2 Ap (f2 AZ (AB 0)<|fC<|.int 1)<|fB Ah<|AD (AB 1) AG) AG)
def Hr:List PV->Option RV:=denote 1 1 gm
def WD:SF:=(Ak<|f2 (BB false) (f2 Ap (f2 Ad (AB 2)<|AB 1)<|AB 0)<|Av<|AD (fC<|.int 1)<|AD (f2 Ad (AB 0)<|fC<|.int 1) AG)
def Hm:List PV->Option RV:=denote 3 3 WD
def Wd:SF:=(AO (Aa 2<|AU Ej<|AD (f2 AJ (AB 0)<|fC<|.int 0)<|AD (f2 AJ (AB 0)<|fC<|.int 1)<|AD (f2 AJ (AB 1)<|fC<|.int 0) AG)<|AO (Aa 3<|AU Ej<|AD (f2 AJ (AB 0)<|fC<|.int 0)<|AD (f2 AJ (AB 0)<|fC<|.int 1)<|AD (f2 AJ (AB 1)<|fC<|.int 1) AG)<|Ak<|DH (DB (f2 Bb (AB 2)<|fC<|.int 0)<|f2 BL (AB 3)<|fC<|.int 0)<|DB (f2 BL (AB 2)<|fC<|.int 0)<|f2 Bb (AB 3)<|fC<|.int 0)
def La:List PV->Option RV:=denote 4 2 Wd
def RI:SF:=(AO (Aa 2<|f2 AJ (AB 1)<|fC<|.int 0)<|AO (Aa 3<|f2 AJ (AB 1)<|fC<|.int 1)<|AO (Al (AN<|f2 CC (AU Ej<|AD (AB 2)<|AD (AB 3)<|AD (AB 0) AG)<|fC<|.int 0) (Ak<|fC<|.bl false) Am)<|AO (Aa 4<|EA B7 B7 (fB HY<|AD (f2 AJ (AB 2)<|fC<|.int 0)<|AD (f2 AJ (AB 3)<|fC<|.int 0) AG) (f2 AJ (AB 0)<|fC<|.int 0)<|fB EG<|AD (f2 AJ (AB 2)<|fC<|.int 0)<|AD (f2 AJ (AB 3)<|fC<|.int 0) AG)<|AO (Aa 5<|EA B7 B7 (fB HY<|AD (f2 AJ (AB 2)<|fC<|.int 1)<|AD (f2 AJ (AB 3)<|fC<|.int 1) AG) (f2 AJ (AB 0)<|fC<|.int 1)<|fB EG<|AD (f2 AJ (AB 2)<|fC<|.int 1)<|AD (f2 AJ (AB 3)<|fC<|.int 1) AG)<|Ak<|DB (AB 4)<|AB 5)
def F7:List PV->Option RV:=denote 6 2 RI
def Wa:SF:=(AO (Al (BY (AN<|AU La<|AD (AB 0)<|AD (AB 1) AG)<|AN<|AU La<|AD (AB 1)<|AD (AB 0) AG) (Ak<|fC<|.bl true) Am)<|AO (Aa 2<|DH (AU F7<|AD (f2 AJ (AB 1)<|fC<|.int 0)<|AD (AB 0) AG)<|AU F7<|AD (f2 AJ (AB 1)<|fC<|.int 1)<|AD (AB 0) AG)<|AO (Aa 3<|DH (AU F7<|AD (f2 AJ (AB 0)<|fC<|.int 0)<|AD (AB 1) AG)<|AU F7<|AD (f2 AJ (AB 0)<|fC<|.int 1)<|AD (AB 1) AG)<|Ak<|DH (AB 2)<|AB 3)
def Hq:List PV->Option RV:=denote 4 2 Wa
def Wj:SF:=(AO (Aa 1<|AU Hr<|AD (AB 0) AG)<|AO (Cw (Bm<|AD (fB Ah<|AD (AB 1) AG) AG) (Ag 2)<|Cw (ET<|AD (f2 AZ (AB 2)<|fC<|.int 1)<|AD (fB Ah<|AD (AB 1) AG) AG) (Ag 3)<|Al (BY (CY<|AN<|AU Hm<|AD (fB Ah<|AD (AB 1) AG)<|AD (AB 2)<|AD (AB 3) AG)<|AN<|AU Hq<|AD (f2 AJ (AB 1)<|AB 2)<|AD (f2 AJ (AB 1)<|AB 3) AG) (Ak<|fC<|.bl false) Am)<|Ak<|fC<|.bl true)
def Qe:List PV->Option RV:=denote 4 1 Wj
def gX:SF:=(Ak<|fB Mc<|AD (BS (Be false<|AU Hr<|AD (AB 0) AG) 1 [] (Ag 0) Bn<|AU Ej<|AD (fC<|.tup [(.int 0),(.int 0)])<|AD (f2 AJ (AB 0)<|fC<|.int 0)<|AD (f2 AJ (AB 0)<|fC<|.int 1) AG) AG)
def QS:List PV->Option RV:=denote 1 1 gX
def WJ:SF:=(AO (Al (CY<|AN<|EA B7 B7 (fC<|.int 3) (fB Ah<|AD (AB 0) AG)<|fC<|.int 12) (Ak<|fC<|.bl false) Am)<|AO (Al (AN<|f2 CC (IK<|AB 0)<|fB Ah<|AD (AB 0) AG) (Ak<|fC<|.bl false) Am)<|Ak<|DB (AU NS<|AD (AB 0) AG)<|DB (AU QO<|AD (AB 0) AG)<|DB (AU Qe<|AD (AB 0) AG)<|f2 BL (AU QS<|AD (AB 0) AG)<|fC<|.int 0)
def QU:List PV->Option RV:=denote 1 1 WJ
def WG:YF:=(DR (CY<|AN<|AU QU<|AD (AB 0) AG) (yL Ri)<|yL Am)
def E5:List PV->Option RV:=Cu 1 1 WG
def FW:List PV->Option PySem.Str:=Dd 1 1 WG
def gk:SF:=(Ak<|fB Es<|AD (BS (ET<|AD (fC<|.int 1)<|AD (fB Ah<|AD (AB 0) AG) AG) 1 [0] (Ag 0) Bn<|f2 (GY KY) (f2 AJ (AB 1)<|f2 Ad (AB 0)<|fC<|.int 1)<|f2 AJ (AB 1)<|AB 0) AG)
def Qd:List PV->Option RV:=denote 1 1 gk
def gj:SF:=(AO (Aa 2<|f2 BL (f2 AJ (f2 AJ (AB 0)<|fC<|.int 0)<|fC<|.int 1)<|f2 AJ (AB 1)<|fC<|.int 1)<|AO (Aa 3<|f2 BL (f2 AJ (f2 AJ (AB 0)<|fC<|.int 1)<|fC<|.int 1)<|f2 AJ (AB 1)<|fC<|.int 1)<|AO (Al (AN<|f2 A6 (AB 2)<|AB 3) (Ak<|fC<|.bl false) Am)<|AO (Aa 4<|AU Ej<|AD (f2 AJ (AB 0)<|fC<|.int 0)<|AD (f2 AJ (AB 0)<|fC<|.int 1)<|AD (AB 1) AG)<|Ak<|HM (AN<|AB 3) (f2 BL (AB 4)<|fC<|.int 0)<|f2 Bb (AB 4)<|fC<|.int 0)
def Nc:List PV->Option RV:=denote 5 2 gj
def We:SF:=(AO (Al (AN<|fB Ii<|AD (BS (Be false<|AB 0) 1 [1] (Ag 0) Bn<|AU F7<|AD (AB 1)<|AD (AB 0) AG) AG) (Ak<|fC<|.str "on") Am)<|AO (Aa 2<|BS (Be false<|AB 0) 1 [1] (Ag 0) (AN<|AU Nc<|AD (AB 0)<|AD (AB 1) AG)<|AB 0)<|Ak<|HM (AN<|f2 A6 (f2 Ap (fB Ah<|AD (AB 2) AG)<|fC<|.int 2)<|fC<|.int 1) (fC<|.str "in")<|fC<|.str "out")
def Qc:List PV->Option RV:=denote 3 2 We
def Wb:SF:=(AO (Aa 2<|BS (Be false<|AB 0) 1 [] (Ag 0) Bn<|Av<|AD (f2 CL (fC<|.int 2)<|f2 AJ (AB 0)<|fC<|.int 0)<|AD (f2 CL (fC<|.int 2)<|f2 AJ (AB 0)<|fC<|.int 1) AG)<|AO (Aa 3<|Av<|AD (f2 AZ (f2 AJ (f2 AJ (AB 1)<|fC<|.int 0)<|fC<|.int 0)<|f2 AJ (f2 AJ (AB 1)<|fC<|.int 1)<|fC<|.int 0)<|AD (f2 AZ (f2 AJ (f2 AJ (AB 1)<|fC<|.int 0)<|fC<|.int 1)<|f2 AJ (f2 AJ (AB 1)<|fC<|.int 1)<|fC<|.int 1) AG)<|Ak<|f2 A6 (AU Qc<|AD (AU Hr<|AD (AB 2) AG)<|AD (AB 3) AG)<|fC<|.str "in")
def Qb:List PV->Option RV:=denote 4 2 Wb
def WI:SF:=(AO (Al (CZ (CY<|AN<|De B7 Bb Bb (fC<|.int 0) (AB 1) (AB 2)<|fB Ah<|AD (AB 0) AG)<|AN<|AU Hm<|AD (fB Ah<|AD (AB 0) AG)<|AD (AB 1)<|AD (AB 2) AG) (Ak<|fC<|.bl false) Am)<|AO (Aa 3<|Av<|AD (f2 AJ (AB 0)<|AB 1)<|AD (f2 AJ (AB 0)<|AB 2) AG)<|AO (Aa 4<|BS (Be false<|AU Hr<|AD (AB 0) AG) 1 [3] (Ag 0) (BY (AN<|f2 (GV true) (f2 AJ (AB 1)<|fC<|.int 0)<|AB 0)<|AN<|f2 (GV true) (f2 AJ (AB 1)<|fC<|.int 1)<|AB 0)<|AB 0)<|AO (Al (AN<|fB Ii<|AD (BS (Be false<|AB 4) 1 [3] (Ag 0) Bn<|AU Hq<|AD (AB 1)<|AD (AB 0) AG) AG) (Ak<|fC<|.bl false) Am)<|Ak<|AU Qb<|AD (AB 0)<|AD (AB 3) AG)
def NV:List PV->Option RV:=denote 5 3 WI
def gR:SF:=(Ak<|DH (De Bb Bb Bb (f2 AJ (AB 0)<|fC<|.int 0) (f2 AJ (AB 1)<|fC<|.int 0) (f2 AJ (AB 0)<|fC<|.int 1)<|f2 AJ (AB 1)<|fC<|.int 1)<|De Bb Bb Bb (f2 AJ (AB 1)<|fC<|.int 0) (f2 AJ (AB 0)<|fC<|.int 0) (f2 AJ (AB 1)<|fC<|.int 1)<|f2 AJ (AB 0)<|fC<|.int 1)
def NT:List PV->Option RV:=denote 2 2 gR
def gS:SF:=(Ak<|Kg<|fB Ii<|AD (BS (Be false<|AB 1) 1 [0] (Ag 0) Bn<|AU NT<|AD (AB 1)<|AD (AB 0) AG) AG)
def QQ:List PV->Option RV:=denote 2 2 gS
def gT:SF:=(AO (Al (AN<|f2 CC (fB Ah<|AD (AB 1) AG)<|f2 Ad (fB Ah<|AD (AB 0) AG)<|fC<|.int 3) (Ak<|fC<|.bl false) Am)<|AO (Al (CZ (CY<|AN<|AU Qd<|AD (AB 1) AG)<|CY<|AN<|fB Es<|AD (BS (Be false<|AB 1) 1 [0] (Ag 0) Bn<|AU NV<|AD (AB 1)<|AD (f2 AJ (AB 0)<|fC<|.int 0)<|AD (f2 AJ (AB 0)<|fC<|.int 1) AG) AG) (Ak<|fC<|.bl false) Am)<|Ak<|fB Es<|AD (BS (Bm<|AD (fB Ah<|AD (AB 1) AG) AG) 1 [1] (Ag 0) Bn<|AU QQ<|AD (f2 AJ (AB 1)<|AB 0)<|AD (DJ (AB 1) Df<|DI<|AB 0) AG) AG)
def NU:List PV->Option RV:=denote 2 2 gT
def RG:YF:=(Bk (Bc E5 FW<|AD (AB 0) AG)<|yL<|Ak<|AU NU<|AD (AB 0)<|AD (AB 1) AG)
def QT:List PV->Option RV:=Cu 2 2 RG
def dO:List PV->Option PySem.Str:=Dd 2 2 RG
def gZ:SF:=(Ak<|DH (De Bb Bb Bb (f2 AJ (AB 0)<|fC<|.int 0) (f2 AJ (AB 1)<|fC<|.int 0) (f2 AJ (AB 0)<|fC<|.int 1)<|f2 AJ (AB 1)<|fC<|.int 1)<|De Bb Bb Bb (f2 AJ (AB 1)<|fC<|.int 0) (f2 AJ (AB 0)<|fC<|.int 0) (f2 AJ (AB 1)<|fC<|.int 1)<|f2 AJ (AB 0)<|fC<|.int 1)
def KD:List PV->Option RV:=denote 2 2 gZ
def gc:SF:=(AO (Al (AN<|f2 CC (fB Ah<|AD (AB 1) AG)<|f2 Ad (fB Ah<|AD (AB 0) AG)<|fC<|.int 3) (Ak<|fC<|.bl false) Am)<|AO (Cw (Bm<|AD (fB Ah<|AD (AB 1) AG) AG) (Ag 2)<|AO (Al (CZ (CY<|AN<|AU Gn<|AD (AB 0)<|AD (f2 AJ (f2 AJ (AB 1)<|AB 2)<|fC<|.int 0)<|AD (f2 AJ (f2 AJ (AB 1)<|AB 2)<|fC<|.int 1) AG)<|BY (AN<|f2 BL (AB 2)<|fC<|.int 0)<|AN<|f2 (GY G0) (f2 AJ (AB 1)<|f2 Ad (AB 2)<|fC<|.int 1)<|f2 AJ (AB 1)<|AB 2) (Ak<|fC<|.bl false) Am)<|Al (AN<|f2 BL (fB Ah<|AD (BS (Bm<|AD (AB 2) AG) 1 [1,2] (Ag 0) (AN<|AU KD<|AD (f2 AJ (AB 1)<|AB 0)<|AD (f2 AJ (AB 1)<|AB 2) AG)<|AB 0) AG)<|fC<|.int 0) (Ak<|fC<|.bl false) Am)<|Ak<|fC<|.bl true)
def QW:List PV->Option RV:=denote 3 2 gc
def WE:YF:=(DR (CY<|AN<|AU NU<|AD (AB 0)<|AD (AB 1) AG) (Uz "NoCut")<|yL Am)
def E4:List PV->Option RV:=Cu 2 2 WE
def E9:List PV->Option PySem.Str:=Dd 2 2 WE
def Wg:YF:=(Bk (Bc E5 FW<|AD (AB 0) AG)<|Bk (Bc E4 E9<|AD (AB 0)<|AD (AB 1) AG) J9)
def VH:List PV->Option RV:=Cu 2 2 Wg
def VX:List PV->Option PySem.Str:=Dd 2 2 Wg
def WH:YF:=(Bk (Bc E5 FW<|AD (AB 0) AG)<|Bk (Bc E4 E9<|AD (AB 0)<|AD (AB 1) AG) J9)
def U7:List PV->Option RV:=Cu 2 2 WH
def VU:List PV->Option PySem.Str:=Dd 2 2 WH
def WK:YF:=(Bk (Bc E5 FW<|AD (AB 0) AG)<|Bk (Bc E4 E9<|AD (AB 0)<|AD (AB 1) AG) J9)
def U9:List PV->Option RV:=Cu 2 2 WK
def VV:List PV->Option PySem.Str:=Dd 2 2 WK
def Wf:YF:=(Bk (Bc E5 FW<|AD (AB 0) AG)<|Bk (Bc E4 E9<|AD (AB 0)<|AD (AB 1) AG) J9)
def VG:List PV->Option RV:=Cu 6 3 Wf
def VW:List PV->Option PySem.Str:=Dd 6 3 Wf
def Wi:YF:=(Bk (Bc E5 FW<|AD (AB 0) AG)<|Bk (Bc E4 E9<|AD (AB 0)<|AD (AB 1) AG) J9)
def VI:List PV->Option RV:=Cu 3 3 Wi
def VY:List PV->Option PySem.Str:=Dd 3 3 Wi
def RJ:YF:=(Bk (Bc E5 FW<|AD (AB 0) AG)<|Bk (Bc E4 E9<|AD (AB 0)<|AD (AB 1) AG)<|Bk (Bc E4 E9<|AD (AB 0)<|AD (AB 2) AG) J9)
def Qf:List PV->Option RV:=Cu 7 3 RJ
def Qr:List PV->Option PySem.Str:=Dd 7 3 RJ
def WN:YF:=(Bk (DR (AN<|f2 A6 (AB 3)<|fC<|.int 0) (Bc VH VX<|AD (AB 0)<|AD (AB 1) AG)<|yL Am)<|Bk (DR (AN<|f2 A6 (AB 3)<|fC<|.int 1) (Bc U7 VU<|AD (AB 0)<|AD (AB 1) AG)<|yL Am)<|Bk (DR (AN<|f2 A6 (AB 3)<|fC<|.int 2) (Bc U9 VV<|AD (AB 0)<|AD (AB 1) AG)<|yL Am)<|Bk (DR (AN<|f2 A6 (AB 3)<|fC<|.int 3) (Bc VG VW<|AD (AB 0)<|AD (AB 1)<|AD (Av<|AD (fC<|.int 1000)<|AD (fC<|.int 1000) AG) AG)<|yL Am)<|Bk (DR (AN<|f2 A6 (AB 3)<|fC<|.int 4) (Bc VI VY<|AD (AB 0)<|AD (AB 1)<|AD (Av<|AD (fC<|.int 0)<|AD (fC<|.int 0) AG) AG)<|yL Am)<|Bk (DR (AN<|f2 A6 (AB 3)<|fC<|.int 5) (Bc Qf Qr<|AD (AB 0)<|AD (AB 1)<|AD (AB 2) AG)<|yL Am)<|DR (AN<|f2 A6 (AB 3)<|fC<|.int 6) (Bc Qf Qr<|AD (AB 0)<|AD (AB 2)<|AD (AB 1) AG)<|yL Am)
def NY:List PV->Option RV:=Cu 4 4 WN
def Nk:List PV->Option PySem.Str:=Dd 4 4 WN
def gh:SF:=(AO (Aa 1<|BE<|AD (HN ["NoCut"] 0 "NoRoom")<|AD (HN ["NoCut"] 0 "NoCut")<|AD (HN ["NoCut"] 0 "NoPoint") AG)<|AO (Aa 1<|f2 AZ (AB 1)<|BE<|AD (HN ["NoCut"] 0 "NoTurn")<|AD (HN ["NoCut"] 0 "TooMany") AG)<|AO (Al (CZ (CY<|AN<|HN ["NoCut"] 0 "ValueError")<|AN<|f2 CC (f2 Oy (AB 1)<|fC<|.bl true)<|fC<|.int 1) (Ak<|fC<|.int 9) Am)<|Ak<|f2 O0 (AB 1)<|fC<|.bl true)
def QN:PySem.Str->Option RV:=Nz 2 gh
def RH:YF:=(Bk (yL<|Aa 4<|IL<|fC<|.int 1)<|Bk (LR 6 5 ["NoCut"] (Bc NY Nk<|AD (AB 0)<|AD (AB 1)<|AD (AB 2)<|AD (AB 3) AG)<|Kj 4 5 QN)<|yL<|Ak<|AB 4)
def LY:List PV->Option RV:=Cu 6 4 RH
def dP:List PV->Option PySem.Str:=Dd 6 4 RH
def WL:SF:=(AO (Aa 1<|AU Qa<|AD (AB 0)<|AD (fC<|.int 0)<|AD (fC<|.int 12) AG)<|AO (Aa 2<|AU QV<|AD (AB 0)<|AD (fC<|.int 20)<|AD (AB 1) AG)<|AO (Aa 3<|fB GX<|AD (AB 2) AG)<|AO (Al (AN<|f2 BL (f2 Ap (AU Bh<|AD (AB 0)<|AD (fC<|.int 40) AG)<|fC<|.int 4)<|fC<|.int 0) (Aa 3<|AU NZ<|AD (AB 2)<|AD (f2 AZ (fC<|.int 1)<|f2 Ap (f2 Bq (AU Bh<|AD (AB 0)<|AD (fC<|.int 40) AG)<|fC<|.int 4)<|fC<|.int 6)<|AD (AU Bh<|AD (AB 0)<|AD (fC<|.int 41) AG)<|AD (AU Bh<|AD (AB 0)<|AD (fC<|.int 42) AG) AG) Am)<|AO (Aa 4<|BE<|AD (fB GX<|AD (AB 1) AG)<|AD (fB GX<|AD (AB 3) AG) AG)<|AO (Aa 5<|AU QT<|AD (f2 AJ (AB 4)<|fC<|.int 0)<|AD (f2 AJ (AB 4)<|fC<|.int 1) AG)<|AO (Aa 6<|AU QW<|AD (AB 1)<|AD (AB 3) AG)<|AO (Al (CZ (CY<|AN<|Kf "bool"<|AB 5)<|CZ (AN<|f2 CC (AB 5)<|AB 6)<|AN<|f2 CC (AB 4)<|BE<|AD (AB 1)<|AD (AB 3) AG) (Ak<|fC<|.bl false) Am)<|AO (Al (AN<|AB 6) (Ak<|fC<|.bl true) Am)<|AO (Cw (Bm<|AD (fC<|.int 7) AG) (Ag 7)<|Al (AN<|f2 CC (AU LY<|AD (f2 AJ (AB 4)<|fC<|.int 0)<|AD (f2 AJ (AB 4)<|fC<|.int 1)<|AD (fB GX<|AD (AB 2) AG)<|AD (AB 7) AG)<|fC<|.int 1) (Ak<|fC<|.bl false) Am)<|Ak<|f2 A6 (AB 4)<|BE<|AD (AB 1)<|AD (AB 3) AG)
def NW:List PV->Option RV:=denote 8 1 WL
end L2.K
set_option linter.all false
namespace AL
abbrev Pt:=Int×Int
noncomputable def AH(a b p:Pt):Int:=(b.1-a.1)*(p.2-a.2)-(b.2-a.2)*(p.1-a.1)
def Ar(a b p:Pt):Bool:=decide (AH a b p=0)&&(decide (min a.1 b.1<=p.1/\p.1<=max a.1 b.1)&&decide (min a.2 b.2<=p.2/\p.2<=max a.2 b.2))
def On(a b p:Pt):Prop:=AH a b p=0/\(min a.1 b.1<=p.1/\p.1<=max a.1 b.1)/\(min a.2 b.2<=p.2/\p.2<=max a.2 b.2)
theorem FL{a b p:Pt}:Ar a b p=true↔On a b p:=by
 simp[Ar,On]
theorem Nq{p q u d:Int}(hq:0<q)(h0:0<=p)(h1:p<=q)(e:q*u=p*d):(0<=u/\u<=d)\/(d<=u/\u<=0):=by
 rcases ABW 0 d with hd|hd
 .left;have h2:0<=q*u:=by rw[e];exact AAK h0 hd
  have h3:q*u<=q*d:=by rw[e];exact AAb h1 hd
  exact⟨ABE (by simpa using h2) hq,ABE h3 hq⟩
 .right;have h2:q*u<=0:=by rw[e];exact AAQ h0 hd
  have h3:q*d<=q*u:=by rw[e];exact Int.mul_le_mul_of_nonpos_right h1 hd
  exact⟨ABE h3 hq,ABE (by simpa using h2) hq⟩
theorem ny{a b c d:Pt}(h:AH a b c=0)(hs:(AH c d a>0/\AH c d b<=0)\/(AH c d a<=0/\AH c d b>0)\/(AH c d a<0/\AH c d b>=0)\/(AH c d a>=0/\AH c d b<0)):On a b c:=by
 refine⟨h,?_⟩;obtain⟨a1,a2⟩:=a;obtain⟨b1,b2⟩:=b;obtain⟨c1,c2⟩:=c;obtain⟨d1,d2⟩:=d;simp only[AH]at *
 have key:∀p q:Int,0<q->0<=p->p<=q->q*(c1-a1)=p*(b1-a1)->q*(c2-a2)=p*(b2-a2)->(min a1 b1<=c1/\c1<=max a1 b1)/\(min a2 b2<=c2/\c2<=max a2 b2):=by
  intro p q h1 h2 h3 e1 e2;have r1:=Nq h1 h2 h3 e1;have r2:=Nq h1 h2 h3 e2;lia
 generalize hu:(d1-c1)*(c2-a2)-(d2-c2)*(c1-a1)=eu;generalize hd:(d1-c1)*(b2-a2)-(d2-c2)*(b1-a1)=ed;have i1:(d1-c1)*(a2-c2)-(d2-c2)*(a1-c1) = -eu:=by rw[<-hu];grind
 have i2:(d1-c1)*(b2-c2)-(d2-c2)*(b1-c1)=ed-eu:=by rw[<-hu,<-hd];grind
 have j1:ed*(c1-a1)=eu*(b1-a1):=by rw[<-hu,<-hd];grind
 have j2:ed*(c2-a2)=eu*(b2-a2):=by rw[<-hu,<-hd];grind
 rw[i1,i2]at hs;have Ji:(0<=eu/\eu<=ed/\0<ed)\/(eu<=0/\ed<=eu/\ed<0):=J
 rcases Ji with⟨h1,h2,h3⟩|⟨h1,h2,h3⟩
 .exact key eu ed h3 h1 h2 j1 j2
 .exact key (-eu) (-ed) J J J (by rw[AC3,AC3,j1])<|by rw[AC3,AC3,j2]
theorem PQ{a b c d:Pt}(n:¬ On a b c):¬ (AH a b c=0/\((AH c d a>0/\AH c d b<=0)\/(AH c d a<=0/\AH c d b>0)\/(AH c d a<0/\AH c d b>=0)\/(AH c d a>=0/\AH c d b<0))):=λz=>n<|ny z.1 z.2
theorem F1(a b p:Pt):AH b a p = - AH a b p:=by
 simp only[AH];grind
theorem ZR{a b p:Pt}(h:On a b p):On b a p:=by
 obtain⟨h1,h2,h3⟩:=h;refine⟨by rw[F1,h1];rfl,?_,?_⟩<;>lia
def parts(a b c d:Pt):Bool:=(decide (AH a b c<0)&&decide (AH a b d>0))||(decide (AH a b c>0)&&decide (AH a b d<0))
def BC(a b c d:Pt):Bool:=(parts a b c d&&parts c d a b)||((Ar a b c||Ar a b d)||(Ar c d a||Ar c d b))
def Bg(a b c d:Pt):Bool:=(Ar a b c||Ar a b d||Ar c d a||Ar c d b)||((decide (AH a b c>0) != decide (AH a b d>0))&&(decide (AH c d a>0) != decide (AH c d b>0)))
theorem PD(a b c d:Pt):Bg a b c d=BC a b c d:=by
 by_cases h1:Ar a b c=true
 .simp[Bg,BC,h1]
 by_cases h2:Ar a b d=true
 .simp[Bg,BC,h2]
 by_cases h3:Ar c d a=true
 .simp[Bg,BC,h3]
 by_cases h4:Ar c d b=true
 .simp[Bg,BC,h4]
 have n1:=λz=>h1<|FL.mpr z;have n2:=λz=>h2<|FL.mpr z;have n3:=λz=>h3<|FL.mpr z;have n4:=λz=>h4<|FL.mpr z;have k1:=PQ (d:=d) n1;have k2:=PQ (d:=c) n2;have k3:=PQ (d:=b) n3;have k4:=PQ (d:=a) n4;rw[F1 c d a,F1 c d b]at k2;rw[F1 a b c,F1 a b d]at k4;simp[Bg,BC,parts,h1,h2,h3,h4];lia
theorem PY(a b p:Pt):Ar a b p=Ar b a p:=by
 rw[AB9,FL,FL];exact⟨ZR,ZR⟩
theorem meet_comm(a b c d:Pt):BC a b c d=BC c d a b:=by
 simp only[BC];rw[Bool.and_comm<|parts a b c d,ADW (Ar a b c||Ar a b d)]
noncomputable def AA(r:List Pt)(i:Int):Pt:=r.getD (i%(r.length:Int)).toNat (0,0)
theorem EO(r:List Pt)(i:Int):AA r (i+r.length)=AA r i:=by
 unfold AA;rw[Int.add_emod_right]
def M(r:List Pt)(i j:Int):Bool:=BC (AA r i) (AA r<|i+1) (AA r j)<|AA r<|j+1
theorem F9(r:List Pt)(i j:Int):M r i j=M r j i:=meet_comm ..
theorem VJ(r:List Pt)(i j:Int):M r (i+r.length) j=M r i j:=by
 unfold M;rw[EO,show i+(r.length:Int)+1=i+1+r.length by lia,EO]
noncomputable def nb(n d:Int):Bool:=(d%n==1)||(d%n==n-1)
theorem Mq{n d:Int}(h0:0<d)(h1:d<n):nb n d=(d==1||d==n-1):=by
 unfold nb;rw[AAF J h1]
def Ll(r:List Pt):Prop:=∀k m:Int,0<=k->k<m->m<r.length->nb r.length (m-k)=false->M r k m=false
def Qv(r:List Pt):Prop:=∀k j:Int,0<=j->j<k->k<r.length->nb r.length (k-j)=false->M r (k-1) (j-1)=false
theorem dZ(r:List Pt):Qv r↔Ll r:=by
 constructor
 .intro h k m h0 h1 h2 hn;by_cases hm:m+1<r.length
  .have:=h (m+1) (k+1) J J hm (by rw[show m+1-(k+1)=m-k by lia];exact hn);rw[show m+1-1=m by lia,show k+1-1=k by lia]at this;rw[F9];exact this
  .have CK:m=r.length-1:=J
   subst CK;have:=h (k+1) 0 J J J (by
    rw[Mq J J]at hn ⊢;simp only[AAt,AAd]at hn ⊢;lia)
   rw[show k+1-1=k by lia,F9,<-VJ,F9]at this;exact this
 .intro h k j h0 h1 h2 hn;by_cases hj:0<j
  .have:=h (j-1) (k-1) J J J (by rw[show k-1-(j-1)=k-j by lia];exact hn);rw[F9];exact this
  .have CJ:j=0:=J
   subst CJ;have:=h (k-1) (r.length-1) J (by
    rw[Mq J J]at hn;simp only[AAt,AAd]at hn;lia) J (by
    rw[Mq J J]at hn;simp only[AAt,AAd]at hn;rw[Mq J J];lia)
   rw[F9,<-VJ,F9,show(0:Int)-1+r.length=r.length-1 by lia];exact this
noncomputable def AW(f:Int->Int):Nat->Int
 |0=>0
 |n+1=>AW f n+f n
theorem ao(f:Int->Int):∀n:Nat,AW (λk=>f<|k-1) (n+1)=f (-1)+AW f n
 |0=>by simp[AW]
 |n+1=>by
  rw[AW,ao f n,AW];simp only[Int.natCast_add,Int.natCast_one]at *
  lia
theorem UX(f:Int->Int)(n:Nat)(h:∀i,f (i+n)=f i):AW (λk=>f<|k-1) n=AW f n:=by
 cases n with
 |zero=>rfl
 |succ n=>
  rw[ao,AW,<-h (-1)];have:(-1:Int)+((n+1:Nat):Int)=n:=J
  rw[this];lia
noncomputable def B8(a b:Pt):Int:=a.1*b.2-a.2*b.1
def KR(r:List Pt):Int:=AW (λk=>B8 (AA r<|k-1)<|AA r k) r.length
def DG(r:List Pt):Int:=AW (λk=>B8 (AA r k)<|AA r<|k+1) r.length
theorem de(r:List Pt):KR r=DG r:=by
 have:=UX (λk=>B8 (AA r k)<|AA r<|k+1) r.length (λi=>by
  rw[EO,show i+(r.length:Int)+1=i+1+r.length by lia,EO])
 rw[DG,<-this,KR]
 congr 1
 funext k
 rw[show k-1+1=k by lia]
def At(a b p:Pt):Prop:=∃q s:Int,0<q/\0<=s/\s<=q/\q*(p.1-a.1)=s*(b.1-a.1)/\q*(p.2-a.2)=s*(b.2-a.2)
theorem Ft{a b p:Pt}(h:At a b p):On a b p:=by
 obtain⟨q,s,hq,h0,h1,e1,e2⟩:=h;have r1:=Nq hq h0 h1 e1;have r2:=Nq hq h0 h1 e2;refine⟨?_,J,J⟩;have hz:q*AH a b p=0:=by
  have:q*AH a b p=(b.1-a.1)*(q*(p.2-a.2))-(b.2-a.2)*(q*(p.1-a.1)):=by unfold AH;grind
  rw[this,e1,e2];grind
 rcases AAM.mp hz with h|h
 .lia
 .exact h
theorem KS{a b p:Pt}(h:On a b p):At a b p:=by
 obtain⟨hs,h1,h2⟩:=h;unfold AH at hs;by_cases hx:b.1-a.1=0
 .by_cases hy:b.2-a.2=0
  .exact⟨1,0,J,J,J,J,J⟩
  .have hp:p.1-a.1=0:=J
   rcases AAk hy with BH|OU
   .exact⟨-(b.2-a.2),-(p.2-a.2),J,J,J,by rw[hx,hp];lia,z9⟩
   .exact⟨b.2-a.2,p.2-a.2,J,J,J,by rw[hx,hp];lia,z9⟩
 .rcases AAk hx with BH|OU
  .exact⟨-(b.1-a.1),-(p.1-a.1),J,J,J,z9,z9⟩
  .exact⟨b.1-a.1,p.1-a.1,J,J,J,z9,z9⟩
theorem PZ{a b p:Pt}:On a b p↔At a b p:=⟨KS,Ft⟩
def Bl(a b c d:Pt):Prop:=∃q s t:Int,0<q/\0<=s/\s<=q/\0<=t/\t<=q/\q*a.1+s*(b.1-a.1)=q*c.1+t*(d.1-c.1)/\q*a.2+s*(b.2-a.2)=q*c.2+t*(d.2-c.2)
theorem Bl.symm{a b c d:Pt}(h:Bl a b c d):Bl c d a b:=by
 obtain⟨q,s,t,h1,h2,h3,h4,h5,e1,e2⟩:=h;exact⟨q,t,s,h1,h4,h5,h2,h3,e1.symm,e2.symm⟩
theorem Px{a b c d:Pt}(h:At a b c):Bl a b c d:=by
 obtain⟨q,s,hq,h0,h1,e1,e2⟩:=h;exact⟨q,s,0,hq,h0,h1,J,J,z9,z9⟩
theorem UI{a b c d:Pt}(h:At a b d):Bl a b c d:=by
 obtain⟨q,s,hq,h0,h1,e1,e2⟩:=h;exact⟨q,s,q,hq,h0,h1,J,J,z9,z9⟩
theorem uy{a b c d:Pt}(h1:parts a b c d=true)(h2:parts c d a b=true):Bl a b c d:=by
 have i1:AH a b c-AH a b d=AH c d b-AH c d a:=by unfold AH;grind
 have j1:(AH c d a-AH c d b)*a.1+AH c d a*(b.1-a.1)=(AH c d a-AH c d b)*c.1 + -(AH a b c)*(d.1-c.1):=by unfold AH;grind
 have j2:(AH c d a-AH c d b)*a.2+AH c d a*(b.2-a.2)=(AH c d a-AH c d b)*c.2 + -(AH a b c)*(d.2-c.2):=by unfold AH;grind
 simp only[parts,ABq,AAJ,AAa]at h1 h2;generalize AH a b c=x1 at *
 generalize AH c d a=y1 at *
 generalize AH c d b=y2 at *
 by_cases hy:y1-y2>0
 .exact⟨y1-y2,y1,-x1,hy,J,J,J,J,j1,j2⟩
 .refine⟨-(y1-y2),-y1,x1,J,J,J,J,J,?_,?_⟩
  .have : -(y1-y2)*a.1 + -y1*(b.1-a.1) = -((y1-y2)*a.1+y1*(b.1-a.1)):=z9
   rw[this,j1];grind
  .have : -(y1-y2)*a.2 + -y1*(b.2-a.2) = -((y1-y2)*a.2+y1*(b.2-a.2)):=z9
   rw[this,j2];grind
theorem UJ{a b c d:Pt}(h:BC a b c d=true):Bl a b c d:=by
 simp only[BC,ABq,AAJ,FL]at h;rcases h with⟨h1,h2⟩|(h|h)|(h|h)
 .exact uy h1 h2
 .exact Px<|KS h
 .exact UI<|KS h
 .exact(Px<|KS h).symm
 .exact(UI<|KS h).symm
theorem Y6{a b c d:Pt}(h:¬ Bl a b c d):BC a b c d=false:=by
 cases e:BC a b c d with
 |false=>rfl
 |true=>exact absurd (UJ e) h
theorem FC(r:List Pt)(i:Int):AA r (i%r.length)=AA r i:=by
 unfold AA;rw[AAr _<|ABR _]
theorem VL(r:List Pt)(i j:Int):M r (i%r.length) j=M r i j:=by
 unfold M;have h:AA r (i%r.length+1)=AA r (i+1):=by
  unfold AA;rw[Int.emod_add_emod]
 rw[h,FC]
theorem dF(r:List Pt)(i j:Int):M r i (j%r.length)=M r i j:=by
 rw[F9,VL,F9]
def Bs(n d:Int):Prop:=d%n≠0/\d%n≠1/\d%n≠n-1
theorem Bs.neg{n d:Int}(hn:2<=n)(h:Bs n d):Bs n (-d):=by
 obtain⟨h0,h1,h2⟩:=h;have a:=AAj d (b:=n) J;have b:=AAY d (b:=n) J;have e:(-d)%n=n-d%n:=by
  have : -d=(n-d%n)+n*(-(d / n)-1):=by
   have:=ABl d n
   grind
  rw[this,AA9,AAF J J]
 exact⟨J,J,J⟩
theorem XM{n d:Int}(h0:0<d)(h1:d<n)(h:nb n d=false):Bs n d:=by
 rw[Mq h0 h1]at h;simp only[AAt,AAd]at h;unfold Bs;rw[AAF J h1];lia
theorem ZC{n d:Int}(h:Bs n d):nb n d=false:=by
 unfold nb;simp only[AAt,AAd];exact⟨h.2.1,h.2.2⟩
def Qw(r:List Pt):Prop:=∀i j:Int,Bs r.length (i-j)->M r i j=false
theorem Qx{r:List Pt}(hn:2<=r.length)(h:Ll r):Qw r:=by
 intro i j hf;rw[<-VL,<-dF];have a1:=AAj i (b:=(r.length:Int)) J;have a2:=AAY i (b:=(r.length:Int)) J;have b1:=AAj j (b:=(r.length:Int)) J;have b2:=AAY j (b:=(r.length:Int)) J;have Rw:Bs r.length<|i%r.length-j%r.length:=by
  unfold Bs at *
  rw[<-ABS];exact hf
 have kC:=Rw.neg J;generalize i%(r.length:Int)=x at *
 generalize j%(r.length:Int)=y at *
 rcases AAv x y with BH|heq|OU
 .exact h x y a1 BH b2 (ZC (by rw[show y-x = -(x-y)by lia];exact kC))
 .exfalso;apply Rw.1;rw[heq,ABf];rfl
 .rw[F9];exact h y x b1 OU a2<|ZC Rw
theorem dY{r:List Pt}(h:Qw r):Ll r:=λk m h0 h1 h2 hn=>by
 rw[F9];exact h m k<|XM J J hn
structure Rm(r:List Pt):Prop where
 l3:3<=r.length
 Mf:r.length<=12
 nd:r.Nodup
 KU:∀k:Int,AH (AA r<|k-2) (AA r<|k-1) (AA r k)≠0
 apart:Qw r
 JM:0<DG r
structure Keeps(T:Pt->Pt)(d:Int):Prop where
 one:d=1\/d = -1
 sd:∀a b c,AH (T a) (T b) (T c)=d*AH a b c
 at_:∀a b p,At (T a) (T b) (T p)↔At a b p
 inj:∀a b,T a=T b->a=b
theorem Keeps.on{T:Pt->Pt}{d:Int}(k:Keeps T d)(a b p:Pt):Ar (T a) (T b) (T p)=Ar a b p:=by
 rw[AB9,FL,FL,PZ,PZ];exact k.at_ a b p
theorem Keeps.parts{T:Pt->Pt}{d:Int}(k:Keeps T d)(a b c e:Pt):AL.parts (T a) (T b) (T c) (T e)=AL.parts a b c e:=by
 unfold AL.parts;rw[k.sd,k.sd];rcases k.one with rfl|rfl
 .rw[ADD,ADD]
 .lia
theorem Keeps.meet{T:Pt->Pt}{d:Int}(k:Keeps T d)(a b c e:Pt):BC (T a) (T b) (T c) (T e)=BC a b c e:=by
 unfold BC;rw[k.parts,k.parts,k.on,k.on,k.on,k.on]
theorem DA{T:Pt->Pt}{r:List Pt}(h:0<r.length)(i:Int):AA (r.map T) i=T (AA r i):=by
 unfold AA;have b:=AAY i (b:=(r.length:Int)) J;have hi:(i%(r.length:Int)).toNat<r.length:=J
 simp[List.getD,hi]
theorem gJ{r:List Pt}(h:0<r.length)(i:Int):AA r.reverse i=AA r (-1-i):=by
 unfold AA;rw[ACj];have a:=AAj i (b:=(r.length:Int)) J;have b:=AAY i (b:=(r.length:Int)) J;have e:(-1-i)%(r.length:Int)=r.length-1-i%r.length:=by
  have : -1-i=(r.length-1-i%r.length)+r.length*(-(i / r.length)-1):=by
   have:=ABl i r.length
   grind
  rw[this,AA9,AAF J J]
 rw[e];have hi:(i%(r.length:Int)).toNat<r.length:=J
 have hj:(r.length-1-i%(r.length:Int)).toNat=r.length-1-(i%(r.length:Int)).toNat:=J
 rw[hj,List.getD,List.getD,List.getElem?_reverse hi]
theorem gK{r:List Pt}{n:Nat}(hn:n<=r.length)(h:0<r.length)(i:Int):AA (r.drop n++r.take n) i=AA r (i+n):=by
 have hl:(r.drop n++r.take n).length=r.length:=by simp;lia
 unfold AA;rw[hl,ABX i];have a:=AAj i (b:=(r.length:Int)) J;have b:=AAY i (b:=(r.length:Int)) J;generalize hx:i%(r.length:Int)=x at *
 rw[List.getD,List.getD];by_cases SG:n=r.length
 .subst SG;simp only[ACg,AAm,ADS,List.take_length,ABZ];rw[AAF a b]
 rw[AAF (a:=(n:Int)) J J];by_cases hc:x+n<r.length
 .rw[AAF J hc,AAq (by simp;lia),List.getElem?_drop]
  congr 2;lia
 .have e:(x+n)%(r.length:Int)=x+n-r.length:=by
   rw[<-Int.sub_emod_right,AAF J J]
  rw[e,AAs (by simp;lia),List.getElem?_take,AAH (by simp;lia)]
  congr 2;simp;lia
theorem Bw{f g:Int->Int}:∀{n:Nat},(∀i:Nat,i<n->f i=g i)->AW f n=AW g n
 |0,_=>rfl
 |n+1,h=>by rw[AW,AW,Bw λi hi=>h i J,h n J]
theorem EK(f g:Int->Int):∀n:Nat,AW (λk=>f k+g k) n=AW f n+AW g n
 |0=>rfl
 |n+1=>by rw[AW,AW,AW,EK f g n];lia
theorem NC(c:Int)(f:Int->Int):∀n:Nat,AW (λk=>c*f k) n=c*AW f n
 |0=>by simp[AW]
 |n+1=>by rw[AW,AW,NC c f n,ADe]
theorem Hi(f:Int->Int):∀n:Nat,AW (λk=>f (k+1)-f k) n=f n-f 0
 |0=>by simp[AW]
 |n+1=>by
  rw[AW,Hi f n];have:((n+1:Nat):Int)=n+1:=J
  rw[this];lia
theorem UZ(f:Int->Int)(n:Nat)(h:∀i,f (i+n)=f i):∀m:Nat,AW (λk=>f<|k+m) n=AW f n
 |0=>Bw λi _=>AAB
 |m+1=>by
  have ih:=UZ f n h m;have:=UX (λk=>f<|k+((m+1:Nat):Int)) n (λi=>by
   rw[show i+(n:Int)+((m+1:Nat):Int)=(i+((m+1:Nat):Int))+n by lia,h])
  rw[<-this,<-ih];exact Bw λi _=>by congr 1;lia
theorem ak(f:Int->Int):∀n:Nat,AW (λk=>f<|(n:Int)-1-k) n=AW f n
 |0=>rfl
 |n+1=>by
  have e1:AW (λk=>f<|((n+1:Nat):Int)-1-k) (n+1)=f n+AW (λk=>f<|(n:Int)-1-k) n:=by
   have hs:∀(g:Int->Int)(m:Nat),AW g (m+1)=g 0+AW (λk=>g<|k+1) m:=by
    intro g m
    induction m with
    |zero=>simp[AW]
    |succ m ih=>
     rw[AW,ih,AW];lia
   rw[hs]
   congr 1
   .lia
   .exact Bw λi _=>by congr 1;lia
  rw[e1,ak f n,AW];lia
def GG(r:List Pt)(k:Int):Int:=B8 (AA r k)<|AA r<|k+1
theorem f7(r:List Pt)(k:Int):GG r (k+r.length)=GG r k:=by
 unfold GG;rw[EO,show k+(r.length:Int)+1=k+1+r.length by lia,EO]
theorem Lm(r:List Pt):DG r=AW (GG r) r.length:=rfl
theorem Rm.Jy{r:List Pt}(R:Rm r){n:Nat}(hn:n<=r.length):Rm (r.drop n++r.take n)/\DG (r.drop n++r.take n)=DG r:=by
 have h3:=R.l3;have hl:(r.drop n++r.take n).length=r.length:=by simp;lia
 have hc:=λi=>gK (r:=r) hn J i;have ha:DG (r.drop n++r.take n)=DG r:=by
  rw[Lm,Lm,hl,<-UZ (GG r) r.length (f7 r) n];refine Bw λi _=>?_;unfold GG;rw[hc,hc];lia
 refine⟨⟨J,by have:=R.Mf;lia,?_,λk=>?_,λi j hf=>?_,by rw[ha];exact R.JM⟩,ha⟩
 .have hp:(r.drop n++r.take n).Perm r:=List.perm_append_comm.trans (by rw[ADi]);exact hp.nodup_iff.mpr R.nd
 .rw[hc,hc,hc,show k-2+n=k+n-2 by lia,show k-1+n=k+n-1 by lia];exact R.KU _
 .rw[hl]at hf;have:=R.apart (i+n) (j+n) (by rw[show i+n-(j+n)=i-j by lia];exact hf);unfold M at this ⊢;rw[hc,hc,hc,hc,show i+1+n=i+n+1 by lia,show j+1+n=j+n+1 by lia];exact this
theorem ZJ{T:Pt->Pt}(hi:∀a b,T a=T b->a=b){r:List Pt}(h:r.Nodup):(r.map T).Nodup:=by
 unfold List.Nodup at h ⊢;rw[ACC];exact h.imp λAq e=>Aq<|hi _ _ e
theorem f9(o a b:Pt):B8 a b=AH o a b+(B8 o b-B8 o a):=by unfold B8 AH;grind
theorem Nm(r:List Pt)(o:Pt):DG r=AW (λk=>AH o (AA r k)<|AA r<|k+1) r.length:=by
 rw[Lm];have h1:AW (GG r) r.length=AW (λk=>AH o (AA r k) (AA r<|k+1)+(B8 o (AA r<|k+1)-B8 o (AA r k))) r.length:=Bw λi _=>by
  exact f9 o _ _
 rw[h1,EK (λk=>AH o (AA r k)<|AA r<|k+1) λk=>B8 o (AA r<|k+1)-B8 o (AA r k)];have h2:=Hi (λk=>B8 o<|AA r k) r.length;have h3:AA r ((r.length:Nat):Int)=AA r 0:=by
  have:=EO r 0;rw[ABI]at this;exact this
 rw[h2,h3];lia
theorem Rm.map{r:List Pt}(R:Rm r){T:Pt->Pt}(k:Keeps T 1):Rm<|r.map T:=by
 have h3:=R.l3;have hc:=λi=>DA (T:=T) (r:=r) J i;refine⟨by simpa using R.l3,by simpa using R.Mf,ZJ k.inj R.nd,λi=>?_,λi j hf=>?_,?_⟩
 .rw[hc,hc,hc,k.sd,ADD];exact R.KU i
 .rw[AAO]at hf;unfold M;rw[hc,hc,hc,hc,k.meet];exact R.apart i j hf
 .rw[Nm _<|T (0,0),AAO];have:=R.JM;rw[Nm r (0,0)]at this;rw[Bw (g:=λk=>AH (0,0) (AA r k)<|AA r<|k+1)]
  .exact this
  .intro i _;rw[hc,hc,k.sd,ADD]
theorem u4(a b c:Pt):AH c b a = - AH a b c:=by unfold AH;grind
theorem Zg(a b c d:Pt):AL.parts b a d c=AL.parts a b c d:=by
 unfold AL.parts;rw[F1 a b,F1 a b,AB9];simp only[ABq,AAJ,AAa];lia
theorem mw(a b c d:Pt):BC b a d c=BC a b c d:=by
 unfold BC;rw[Zg a b c d,Zg c d a b,PY b a d,PY b a c,PY d c b,PY d c a,ADW<|Ar a b d,ADW<|Ar c d b]
theorem Rm.mapRev{r:List Pt}(R:Rm r){T:Pt->Pt}(k:Keeps T (-1)):Rm (r.map T).reverse:=by
 have h3:=R.l3;have hl:(r.map T).reverse.length=r.length:=AAB
 have hc:∀i,AA (r.map T).reverse i=T (AA r (-1-i)):=λi=>by
  rw[gJ (by simpa using(J:0<r.length)),DA J]
 refine⟨J,by have:=R.Mf;lia,?_,λi=>?_,λi j hf=>?_,?_⟩
 .exact(List.reverse_perm _).nodup_iff.mpr (ZJ k.inj R.nd)
 .rw[hc,hc,hc,k.sd,u4];have:=R.KU (-1-i+2);lia
 .rw[hl]at hf;unfold M;rw[hc,hc,hc,hc,k.meet,<-mw];have:=R.apart (-1-(i+1)) (-1-(j+1)) (by
   rw[show -1-(i+1)-(-1-(j+1)) = -(i-j)by lia];exact hf.neg J)
  unfold M at this;rw[show -1-(i+1)+1 = -1-i by lia,show -1-(j+1)+1 = -1-j by lia]at this;exact this
 .rw[Nm _<|T (0,0),hl];have:=R.JM;rw[Nm r (0,0)]at this;have e:AW (λk=>AH (T (0,0)) (AA (r.map T).reverse k)<|AA (r.map T).reverse<|k+1) r.length=AW (λk=>AH (0,0) (AA r<|(r.length:Int)-1-k-1)<|AA r<|(r.length:Int)-1-k) r.length:=Bw λi _=>by
   rw[hc,hc,k.sd];have e1:AA r (-1-(i:Int))=AA r ((r.length:Int)-1-i):=by
    rw[<-EO];congr 1;lia
   have e2:AA r (-1-((i:Int)+1))=AA r ((r.length:Int)-1-i-1):=by
    rw[<-EO];congr 1;lia
   rw[e1,e2];unfold AH;grind
  rw[e,ak λk=>AH (0,0) (AA r<|k-1)<|AA r k];have:=UX (λk=>AH (0,0) (AA r k)<|AA r<|k+1) r.length (λi=>by
   rw[EO,show i+(r.length:Int)+1=i+1+r.length by lia,EO])
  have e3:AW (λk=>AH (0,0) (AA r<|k-1)<|AA r k) r.length=AW (λk=>AH (0,0) (AA r<|k-1)<|AA r<|k-1+1) r.length:=Bw λi _=>by
   rw[show(i:Int)-1+1=i by lia]
  rw[e3,this];assumption
theorem wsum{q s a b m:Int}(h0:0<=s)(h1:s<=q)(ha:a<=m)(hb:b<=m):q*a+s*(b-a)<=q*m:=by
 have:=AAU ha (J:0<=q-s);have:=AAU hb h0;lia
theorem QF{q s a b m:Int}(h0:0<=s)(h1:s<=q)(ha:m<=a)(hb:m<=b):q*m<=q*a+s*(b-a):=by
 have:=AAU ha (J:0<=q-s);have:=AAU hb h0;lia
theorem UH{a b c d:Pt}(m n:Int)(h1:a.1<=m)(h2:b.1<=m)(SA:m<n)(h3:n<=c.1)(h4:n<=d.1):¬ Bl a b c d:=by
 rintro⟨q,s,t,hq,s0,s1,t0,t1,e1,_⟩;have u:=wsum s0 s1 h1 h2;have v:=QF t0 t1 h3 h4;have:=ABu SA hq;lia
theorem uo{a b c d:Pt}(m n:Int)(h1:a.2<=m)(h2:b.2<=m)(SA:m<n)(h3:n<=c.2)(h4:n<=d.2):¬ Bl a b c d:=by
 rintro⟨q,s,t,hq,s0,s1,t0,t1,_,e2⟩;have u:=wsum s0 s1 h1 h2;have v:=QF t0 t1 h3 h4;have:=ABu SA hq;lia
structure Rows(n m:Nat)(P:Nat->Pt):Prop where
 hm:m+1<n
 h3:3<=n
 cl:P n=P 0
 xb:∀i,i<=m->(P i).1<(P<|i+1).1
 xt:∀i,m+1<=i->i<n->(P<|i+1).1<(P i).1
 y0:(P 0).2=0
 ym:(P<|m+1).2=0
 yb:∀i,1<=i->i<=m->(P i).2<0
 yt:∀i,m+2<=i->i<n->0<(P i).2
section
variable{n m:Nat}{P:Nat->Pt}(R:Rows n m P)
include R
theorem Rows.QG:∀{i j:Nat},i<=j->j<=m+1->(P i).1<=(P j).1:=by
 intro i j h hj
 induction j with
 |zero=>
  have:i=0:=J
  subst this;exact ABT _
 |succ j ih=>
  by_cases he:i=j+1
  .subst he;exact ABT _
  .have:=R.xb j J;lia
theorem Rows.LQ:∀{i j:Nat},m+1<=i->i<=j->j<=n->(P j).1<=(P i).1:=by
 intro i j h1 h hj
 induction j with
 |zero=>lia
 |succ j ih=>
  by_cases he:i=j+1
  .subst he;exact ABT _
  .have:=R.xt j J J;lia
theorem Rows.NJ:∀{i:Nat},i<=m+1->(P i).2<=0:=by
 intro i hi;by_cases h0:i=0
 .subst h0;exact ACt R.y0
 by_cases h1:i=m+1
 .subst h1;exact ACt R.ym
 exact AAI<|R.yb i J J
theorem Rows.QI:∀{i:Nat},m+1<=i->i<=n->0<=(P i).2:=by
 intro i hi hn;by_cases h0:i=n
 .subst h0;rw[R.cl,R.y0];exact ABT _
 by_cases h1:i=m+1
 .subst h1;exact ACt R.ym.symm
 exact AAI<|R.yt i J J
theorem Rows.apart{i j:Nat}(Br:i<j)(hj:j<n)(Aq:j≠i+1)(hw:¬ (i=0/\j=n-1)):¬ Bl (P i) (P<|i+1) (P j) (P<|j+1):=by
 by_cases Xy:j<=m
 .-- both below
  exact UH (P<|i+1).1 (P j).1 (R.QG J J) (ABT _) (by have:=R.xb (i+1) J;have:=R.QG (i:=i+1+1) (j:=j) J J;lia) (ABT _)<|R.QG J J
 by_cases Xu:m+1<=i
 .-- both above
  intro h;exact UH (P j).1 (P<|i+1).1 (ABT _) (R.LQ J J J) (by have:=R.xt (i+1) J J;have:=R.LQ (i:=i+1+1) (j:=j) J J J;lia) (R.LQ J J J) (ABT _) h.symm
 rintro⟨q,s,t,hq,s0,s1,t0,t1,e1,e2⟩;have ya:=R.NJ (i:=i) J;have yb:=R.NJ (i:=i+1) J;have yc:=R.QI (i:=j) J J;have yd:=R.QI (i:=j+1) J J;have ez:q*(P i).2+s*((P<|i+1).2-(P i).2)=(q-s)*(P i).2+s*(P<|i+1).2:=z9
 have zF:q*(P j).2+t*((P<|j+1).2-(P j).2)=(q-t)*(P j).2+t*(P<|j+1).2:=z9
 have p1:(q-s)*(P i).2<=0:=AAQ J ya;have p2:s*(P<|i+1).2<=0:=AAQ s0 yb;have p3:0<=(q-t)*(P j).2:=AAK J yc;have p4:0<=t*(P<|j+1).2:=AAK t0 yd;have z1:(q-s)*(P i).2=0:=AAA
 have z2:s*(P<|i+1).2=0:=J
 have z3:(q-t)*(P j).2=0:=AAA
 have z4:t*(P<|j+1).2=0:=J
 have w1:1<=i->q=s:=λh=>by
  rcases AAM.mp z1 with h'|h'
  .lia
  .have:=R.yb i h J;lia
 have w2:i+1<=m->s=0:=λh=>by
  rcases AAM.mp z2 with h'|h'
  .exact h'
  .have:=R.yb (i+1) J h;lia
 have w3:m+2<=j->q=t:=λh=>by
  rcases AAM.mp z3 with h'|h'
  .lia
  .have:=R.yt j h J;lia
 have w4:j+1<n->t=0:=λh=>by
  rcases AAM.mp z4 with h'|h'
  .exact h'
  .have:=R.yt (j+1) J h;lia
 by_cases kM:i=0
 .-- at Iz first V7,or Iz JF dy
  subst kM;have FG:j+1<n:=J
  have ht:=w4 FG;by_cases R8:m=0
  .lia
  .have hs:=w2 J;rw[hs,ht]at e1;simp only[AAw,AAm]at e1;have Lx:(P 0).1=(P j).1:=ABj J e1;have a:=R.xt j J J;have b:=R.LQ (i:=j+1) (j:=n) J J J;rw[R.cl]at b;lia
 .have hs:=w1 J;by_cases kR:i=m
  .subst kR;have kW:i+2<=j:=J
   have ht:=w3 kW;rw[<-hs,<-ht]at e1;have Lx:q*(P<|i+1).1=q*(P<|j+1).1:=z9
   have zB:=ABj J Lx;have a:=R.xt (i+1) J J;have b:=R.LQ (i:=i+1+1) (j:=j+1) J J J;lia
  .lia
theorem Rows.JM:0<AW (λk=>B8 (P k.toNat)<|P (k+1).toNat) n:=by
 have hm:=R.hm;have e:∀N:Nat,AW (λk=>B8 (P k.toNat)<|P (k+1).toNat) N=AW (λk=>((P k.toNat).1-(P (k+1).toNat).1)*((P k.toNat).2+(P (k+1).toNat).2)) N+((P N).1*(P N).2-(P 0).1*(P 0).2):=by
  intro N
  induction N with
  |zero=>simp[AW]
  |succ N ih=>
   rw[AW,AW,ih];have h1:((N:Int)).toNat=N:=J
   have h2:((N:Int)+1).toNat=N+1:=J
   rw[h1,h2];unfold B8
   grind
 rw[e n,R.cl];have nn:∀i:Nat,i<n->0<=((P i).1-(P<|i+1).1)*((P i).2+(P<|i+1).2):=λi hi=>by
  by_cases hb:i<=m
  .have a:=R.xb i hb;have b:=R.NJ (i:=i) J;have c:=R.NJ (i:=i+1) J;exact ABB J J
  .have a:=R.xt i J hi;have b:=R.QI (i:=i) J J;have c:=R.QI (i:=i+1) J J;exact AAK J J
 have pos:∃i:Nat,i<n/\0<((P i).1-(P<|i+1).1)*((P i).2+(P<|i+1).2):=by
  by_cases R8:m=0
  .refine⟨m+1,J,?_⟩;have a:=R.xt (m+1) J J;have b:=R.yt (m+1+1) J (by have:=R.h3;lia);have c:=R.ym;exact AAN J J
  .refine⟨0,J,?_⟩;have a:=R.xb 0 J;have b:=R.yb (0+1) J J;have c:=R.y0;exact Int.mul_pos_of_neg_of_neg J J
 have key:∀N:Nat,N<=n->0<=AW (λk=>((P k.toNat).1-(P (k+1).toNat).1)*((P k.toNat).2+(P (k+1).toNat).2)) N/\(∀i,i<N->0<((P i).1-(P<|i+1).1)*((P i).2+(P<|i+1).2)->0<AW (λk=>((P k.toNat).1-(P (k+1).toNat).1)*((P k.toNat).2+(P (k+1).toNat).2)) N):=by
  intro N
  induction N with
  |zero=>intro _;exact⟨by simp[AW],λi hi=>J⟩
  |succ N ih=>
   intro hN;obtain⟨i1,i2⟩:=ih J;have h1:((N:Int)).toNat=N:=J
   have h2:((N:Int)+1).toNat=N+1:=J
   have:=nn N J;rw[AW,h1,h2];refine⟨J,λi hi hp=>?_⟩;by_cases he:i=N
   .subst he;lia
   .have:=i2 i J hp;lia
 obtain⟨i,hi,hp⟩:=pos;have:=(key n J).2 i hi hp;lia
theorem Rows.inj{i j:Nat}(Br:i<j)(hj:j<n):P i≠P j:=by
 intro e;by_cases Xy:j<=m+1
 .have a:=R.xb i J;have b:=R.QG (i:=i+1) (j:=j) J Xy;rw[e]at a;lia
 by_cases Xu:m+1<=i
 .have a:=R.xt i Xu J;have b:=R.LQ (i:=i+1) (j:=j) J J J;rw[e]at a;lia
 .have a:=R.NJ (i:=i) J;have b:=R.yt j J hj;rw[e]at a;lia
end
def Lt(a b c d:Pt):Prop:=∃q s t:Int,0<q/\0<=s/\s<=q/\0<=t/\t<=q/\q*a.2+s*(b.2-a.2)=q*c.2+t*(d.2-c.2)/\q*a.1+s*(b.1-a.1)<q*c.1+t*(d.1-c.1)
theorem K7{x a b:Int}(hx:0<=x)(D3:a<=b):a*x<=b*x:=AAb D3 hx
theorem TM{a b c d:Pt}(h1:Lt a b c d)(h2:Lt c d a b):∃q1 s1 t1 q2 s2 t2 x y:Int,0<x/\0<y/\0<q1/\0<q2/\0<=s1/\s1<=q1/\0<=s2/\s2<=q2/\0<=t1/\t1<=q1/\0<=t2/\t2<=q2/\q1*a.1+s1*(b.1-a.1)+x=q1*c.1+t1*(d.1-c.1)/\(q1*y+q2*x)*a.1+(s1*y+s2*x)*(b.1-a.1)=(q1*y+q2*x)*c.1+(t1*y+t2*x)*(d.1-c.1)/\(q1*y+q2*x)*a.2+(s1*y+s2*x)*(b.2-a.2)=(q1*y+q2*x)*c.2+(t1*y+t2*x)*(d.2-c.2):=by
 obtain⟨q1,s1,t1,MP,a1,a2,a3,a4,e1,l1⟩:=h1;obtain⟨q2,t2,s2,MQ,b1,b2,b3,b4,e2,l2⟩:=h2;refine⟨q1,s1,t1,q2,s2,t2,q1*c.1+t1*(d.1-c.1)-(q1*a.1+s1*(b.1-a.1)),q2*a.1+s2*(b.1-a.1)-(q2*c.1+t2*(d.1-c.1)),J,J,MP,MQ,a1,a2,b3,b4,a3,a4,b1,b2,J,z9,?_⟩;generalize q1*c.1+t1*(d.1-c.1)-(q1*a.1+s1*(b.1-a.1))=x;generalize q2*a.1+s2*(b.1-a.1)-(q2*c.1+t2*(d.1-c.1))=y;have f1:(q1*y+q2*x)*a.2+(s1*y+s2*x)*(b.2-a.2)=y*(q1*a.2+s1*(b.2-a.2))+x*(q2*a.2+s2*(b.2-a.2)):=z9
 have f2:(q1*y+q2*x)*c.2+(t1*y+t2*x)*(d.2-c.2)=y*(q1*c.2+t1*(d.2-c.2))+x*(q2*c.2+t2*(d.2-c.2)):=z9
 rw[f1,f2,e1,<-e2]
theorem TU{a b c d:Pt}(h:¬ Bl a b c d)(h1:Lt a b c d):¬ Lt c d a b:=λh2=>by
 obtain⟨q1,s1,t1,q2,s2,t2,x,y,hx,hy,MP,MQ,a1,a2,b1,b2,c1,c2,d1,d2,_,e1,e2⟩:=TM h1 h2;have p1:=AAN MP hy;have p2:=AAN MQ hx;refine h ⟨_,_,_,J,?_,?_,?_,?_,e1,e2⟩
 .have:=AAK a1<|AAI hy;have:=AAK b1<|AAI hx;lia
 .have:=K7 (AAI hy) a2;have:=K7 (AAI hx) b2;lia
 .have:=AAK c1<|AAI hy;have:=AAK d1<|AAI hx;lia
 .have:=K7 (AAI hy) c2;have:=K7 (AAI hx) d2;lia
def CF(A X B:Pt):Prop:=∀s t:Int,0<=s->0<=t->s*(X.1-A.1)=t*(B.1-A.1)->s*(X.2-A.2)=t*(B.2-A.2)->s=0/\t=0
theorem L5{u v w:Pt}(hb:AH u v w≠0):CF v u w:=λs t _ _ e1 e2=>by
 have f1:s*AH u v w=0:=by
  have:s*AH u v w=(w.1-v.1)*(s*(u.2-v.2))-(w.2-v.2)*(s*(u.1-v.1)):=by unfold AH;grind
  rw[this,e1,e2];grind
 have f2:t*AH u v w=0:=by
  have:t*AH u v w=(v.1-u.1)*(t*(w.2-v.2))-(v.2-u.2)*(t*(w.1-v.1)):=by unfold AH;grind
  rw[this,<-e1,<-e2];grind
 exact⟨(AAM.mp f1).resolve_right hb,(AAM.mp f2).resolve_right hb⟩
theorem Qs{u v w:Pt}(f:CF v u w){q s t:Int}(sq:s<=q)(t0:0<=t)(e1:q*u.1+s*(v.1-u.1)=q*v.1+t*(w.1-v.1))(e2:q*u.2+s*(v.2-u.2)=q*v.2+t*(w.2-v.2)):s=q/\t=0:=by
 obtain⟨a,b⟩:=f (q-s) t J t0 z9 z9;exact⟨J,b⟩
theorem ZD{u v w:Pt}(hb:CF v u w)(h1:Lt u v v w):¬ Lt v w u v:=λh2=>by
 obtain⟨q1,s1,t1,q2,s2,t2,x,y,hx,hy,MP,MQ,a1,a2,b1,b2,c1,c2,d1,d2,e0,e1,e2⟩:=TM h1 h2;have m1:=K7 (AAI hy) a2;have m2:=K7 (AAI hx) b2;have n1:=AAK c1<|AAI hy;have n2:=AAK d1<|AAI hx;obtain⟨hs,ht⟩:=Qs hb J J e1 e2;have k1:(q1-s1)*y=0:=by rw[ADf];lia
 have SY:s1=q1:=by
  rcases AAM.mp k1 with h|h<;>lia
 have k2:t1*y=0:=J
 have Fq:t1=0:=by
  rcases AAM.mp k2 with h|h<;>lia
 subst SY;subst Fq;have f:s1*u.1+s1*(v.1-u.1)=s1*v.1:=z9
 rw[f,AAw]at e0;lia
def L(r:List Pt)(i j:Int):Prop:=Lt (AA r i) (AA r<|i+1) (AA r j)<|AA r<|j+1
theorem Aw{r:List Pt}{i j:Int}(h:(i-j)%(r.length:Int)=0):AA r i=AA r j:=by
 unfold AA;have:i%(r.length:Int)=j%r.length:=AB4.mpr h;rw[this]
structure A3(r:List Pt):Prop where
 l3:3<=r.length
 fork:∀k:Int,CF (AA r<|k+1) (AA r k)<|AA r<|k+1+1
 hh:∀k:Int,(AA r k).2=(AA r<|k+1).2->(AA r<|k+1).2≠(AA r<|k+1+1).2
 apart:∀i j:Int,Bs r.length (i-j)->¬ Bl (AA r i) (AA r<|i+1) (AA r j) (AA r<|j+1)
section
variable{r:List Pt}(S:A3 r)
include S
theorem A3.cases(i j:Int):(i-j)%(r.length:Int)=0\/(i-j)%(r.length:Int)=1\/(j-i)%(r.length:Int)=1\/Bs r.length (i-j):=by
 have h3:=S.l3;have a:=AAj (i-j) (b:=(r.length:Int)) J;by_cases h0:(i-j)%(r.length:Int)=0
 .exact .inl h0
 by_cases h1:(i-j)%(r.length:Int)=1
 .exact .inr<|.inl h1
 by_cases h2:(i-j)%(r.length:Int)=r.length-1
 .right;right;left;have:j-i=1+r.length*(-((i-j) / r.length)-1):=by
   have:=ABl (i-j) r.length
   grind
  rw[this,AA9,AAF J J]
 .exact .inr<|.inr<|.inr ⟨h0,h1,h2⟩
theorem A3.next{i j:Int}(h:(i-j)%(r.length:Int)=1):AA r i=AA r (j+1)/\AA r (i+1)=AA r (j+1+1):=by
 have h3:=S.l3;have e:(i-(j+1))%(r.length:Int)=0:=by
  rw[show i-(j+1)=(i-j)-1 by lia,ABS,h,AAF (a:=1) J J];rfl
 exact⟨Aw e,Aw (by rw[show i+1-(j+1+1)=i-(j+1)by lia];exact e)⟩
theorem A3.nc{i j:Int}(Aq:(i-j)%(r.length:Int)≠0)(h1:L r i j):¬ L r j i:=by
 intro h2;rcases S.cases i j with h|h|h|h
 .exact Aq h
 .obtain⟨e1,e2⟩:=S.next h
  unfold L at h1 h2;rw[e1,e2]at h1 h2;exact ZD (S.fork j) h2 h1
 .obtain⟨e1,e2⟩:=S.next h
  unfold L at h1 h2;rw[e1,e2]at h1 h2;exact ZD (S.fork i) h1 h2
 .exact TU (S.apart i j h) h1 h2
theorem A3.share{i j:Int}(Aq:(i-j)%(r.length:Int)≠0){q s t:Int}(hq:0<q)(s0:0<=s)(s1:s<=q)(t0:0<=t)(t1:t<=q) (e1:q*(AA r i).1+s*((AA r<|i+1).1-(AA r i).1)=q*(AA r j).1+t*((AA r<|j+1).1-(AA r j).1)) (e2:q*(AA r i).2+s*((AA r<|i+1).2-(AA r i).2)=q*(AA r j).2+t*((AA r<|j+1).2-(AA r j).2)) : ((i-j)%(r.length:Int)=1/\s=0/\t=q)\/((j-i)%(r.length:Int)=1/\s=q/\t=0):=by
 rcases S.cases i j with h|h|h|h
 .exact absurd h Aq
 .obtain⟨f1,f2⟩:=S.next h
  rw[f1,f2]at e1 e2;obtain⟨g1,g2⟩:=Qs (S.fork j) t1 s0 e1.symm e2.symm;exact .inl ⟨h,g2,g1⟩
 .obtain⟨f1,f2⟩:=S.next h
  rw[f1,f2]at e1 e2;obtain⟨g1,g2⟩:=Qs (S.fork i) s1 t0 e1 e2;exact .inr ⟨h,g1,g2⟩
 .exact absurd ⟨q,s,t,hq,s0,s1,t0,t1,e1,e2⟩ (S.apart i j h)
end
theorem E7(r:List Pt)(i:Int)(Aq:(AA r i).2≠(AA r<|i+1).2):¬ L r i i:=by
 rintro⟨q,s,t,hq,s0,s1,t0,t1,e1,l⟩;have:(s-t)*((AA r<|i+1).2-(AA r i).2)=0:=z9
 rcases AAM.mp this with h|h
 .have:s=t:=J
  subst this;lia
 .lia
theorem aU{D z:Int}(h:(0<=z/\z<=D)\/(D<=z/\z<=0))(hD:D≠0):∃g:Int,(g=1\/g = -1)/\0<g*D/\0<=g*z/\g*z<=g*D:=by
 rcases AAk hD with h0|h0
 .exact⟨-1,.inr rfl,J,J,J⟩
 .exact⟨1,.inl rfl,J,J,J⟩
theorem V1{a b z:Pt}(hD:b.1-a.1≠0)(hs:AH a b z=0)(hz:(0<=z.1-a.1/\z.1-a.1<=b.1-a.1)\/(b.1-a.1<=z.1-a.1/\z.1-a.1<=0)):On a b z:=by
 obtain⟨g,hg,p1,p2,p3⟩:=aU hz hD;refine Ft ⟨g*(b.1-a.1),g*(z.1-a.1),p1,p2,p3,z9,?_⟩;unfold AH at hs
 grind
theorem V2{a b c d:Pt}(hD:b.1-a.1≠0)(h1:AH a b c=0)(h2:AH a b d=0)(hz:(c.1<=a.1/\a.1<=d.1)\/(d.1<=a.1/\a.1<=c.1)):On c d a:=by
 unfold AH at h1 h2;have k1:(b.1-a.1)*(c.2-a.2)=(b.2-a.2)*(c.1-a.1):=J
 by_cases BI:d.1-c.1=0
 .have e:c.1-a.1=0:=J
  rw[e,AA4]at k1;have e2:c.2-a.2=0:=by
   rcases AAM.mp k1 with h|h
   .exact absurd h hD
   .exact h
  exact Ft ⟨1,0,J,J,J,J,J⟩
 .obtain⟨g,hg,p1,p2,p3⟩:=aU (D:=d.1-c.1) (z:=a.1-c.1) J BI;refine Ft ⟨g*(d.1-c.1),g*(a.1-c.1),p1,p2,p3,z9,?_⟩;have k3:(b.1-a.1)*(g*(d.1-c.1)*(a.2-c.2)-g*(a.1-c.1)*(d.2-c.2))=0:=by
   have i1:(b.1-a.1)*(a.2-c.2)=(b.2-a.2)*(a.1-c.1):=z9
   have i2:(b.1-a.1)*(d.2-c.2)=(b.2-a.2)*(d.1-c.1):=z9
   have:(b.1-a.1)*(g*(d.1-c.1)*(a.2-c.2)-g*(a.1-c.1)*(d.2-c.2))=g*(d.1-c.1)*((b.1-a.1)*(a.2-c.2))-g*(a.1-c.1)*((b.1-a.1)*(d.2-c.2)):=z9
   rw[this,i1,i2];grind
  rcases AAM.mp k3 with h|h
  .exact absurd h hD
  .omega
theorem ft{a b c d:Pt}(hD:b.1-a.1≠0)(h1:AH a b c=0)(h2:AH a b d=0):AH b a c=0/\AH b a d=0:=by
 rw[F1 a b,F1 a b,h1,h2];exact⟨rfl,rfl⟩
theorem V3{a b c d:Pt}(hD:b.1-a.1≠0)(h1:AH a b c=0)(h2:AH a b d=0)(hs:Bl a b c d):On a b c\/On a b d\/On c d a\/On c d b:=by
 obtain⟨q,s,t,hq,s0,s1,t0,t1,e1,_⟩:=hs;have u1:=wsum (a:=a.1) (b:=b.1) (m:=max a.1 b.1) s0 s1 J J;have u2:=QF (a:=a.1) (b:=b.1) (m:=min a.1 b.1) s0 s1 J J;have v1:=wsum (a:=c.1) (b:=d.1) (m:=max c.1 d.1) t0 t1 J J;have v2:=QF (a:=c.1) (b:=d.1) (m:=min c.1 d.1) t0 t1 J J;have w1:min a.1 b.1<=max c.1 d.1:=ABE J hq;have w2:min c.1 d.1<=max a.1 b.1:=ABE J hq;by_cases hc:min a.1 b.1<=min c.1 d.1
 .by_cases BI:c.1<=d.1
  .exact .inl<|V1 hD h1 J
  .exact .inr<|.inl<|V1 hD h2 J
 .by_cases D3:a.1<=b.1
  .exact .inr<|.inr<|.inl<|V2 hD h1 h2 J
  .obtain⟨g1,g2⟩:=ft hD h1 h2;exact .inr<|.inr<|.inr<|V2 (a:=b) (b:=a) J g1 g2 J
noncomputable def sw(p:Pt):Pt:=(p.2,p.1)
theorem UL(a b c:Pt):AH (sw a) (sw b) (sw c) = - AH a b c:=by unfold AH sw;grind
theorem Pa{a b p:Pt}(h:On (sw a) (sw b)<|sw p):On a b p:=by
 obtain⟨h1,h2,h3⟩:=h;rw[UL]at h1;exact⟨J,h3,h2⟩
theorem uz{a b c d:Pt}(h:Bl a b c d):Bl (sw a) (sw b) (sw c)<|sw d:=by
 obtain⟨q,s,t,h1,h2,h3,h4,h5,e1,e2⟩:=h;exact⟨q,s,t,h1,h2,h3,h4,h5,e2,e1⟩
theorem TN{a b c d:Pt}(h:Bl a b c d):BC a b c d=true:=by
 cases hm:BC a b c d with
 |true=>rfl
 |false=>
  exfalso;have CK:¬ BC a b c d=true:=by rw[hm];simp
  simp only[BC,ABq,AAJ,FL,not_or,not_and]at CK;obtain⟨hp,⟨n1,n2⟩,n3,n4⟩:=CK;obtain⟨q,s,t,hq,s0,s1,t0,t1,e1,e2⟩:=id h;have i1:AH a b c-AH a b d=AH c d b-AH c d a:=by unfold AH;grind
  have f1:(q-t)*AH a b c+t*AH a b d=0:=by
   have:(q-t)*AH a b c+t*AH a b d=(b.1-a.1)*(q*c.2+t*(d.2-c.2)-q*a.2)-(b.2-a.2)*(q*c.1+t*(d.1-c.1)-q*a.1):=by unfold AH;grind
   rw[this,<-e1,<-e2];grind
  have f2:(q-s)*AH c d a+s*AH c d b=0:=by
   have:(q-s)*AH c d a+s*AH c d b=(d.1-c.1)*(q*a.2+s*(b.2-a.2)-q*c.2)-(d.2-c.2)*(q*a.1+s*(b.1-a.1)-q*c.1):=by unfold AH;grind
   rw[this,e1,e2];grind
  have hc:t=0->On a b c:=λz=>by
   subst z;refine Ft ⟨q,s,hq,s0,s1,?_,?_⟩<;>grind
  have hd:t=q->On a b d:=λz=>by
   subst z;refine Ft ⟨t,s,hq,s0,s1,?_,?_⟩<;>grind
  have ha:s=0->On c d a:=λz=>by
   refine Ft ⟨q,t,hq,t0,t1,?_,?_⟩<;>grind
  have hb:s=q->On c d b:=λz=>by
   subst z;refine Ft ⟨s,t,hq,t0,t1,?_,?_⟩<;>grind
  have Ks:0<t:=J
  have lI:0<q-t:=J
  have YI:0<s:=J
  have YM:0<q-s:=J
  have Ti:∀{x y u v:Int},0<u->0<v->u*x+v*y=0->(x=0/\y=0)\/(x<0/\0<y)\/(0<x/\y<0):=λ{x y u v} hu hv e=>by
   rcases AAv x 0 with hx|hx|hx
   .right;left;refine⟨hx,?_⟩;have:=ACE hu hx;by_cases h:0<y
    .exact h
    .have h:y<=0:=J
     have:=AAQ (AAI hv) h;lia
   .left;subst hx;refine⟨rfl,?_⟩;have:v*y=0:=J
    rcases AAM.mp this with h|h
    .lia
    .exact h
   .right;right;refine⟨hx,?_⟩;have:=AAN hu hx;by_cases h:y<0
    .exact h
    .have h:0<=y:=J
     have:=AAK (AAI hv) h;lia
  rcases Ti lI Ks f1 with⟨z1,z2⟩|z|z
  .-- on one line
   by_cases hD:b.1-a.1=0
   .by_cases hE:b.2-a.2=0
    .-- a Uv of one point
     refine n3<|Ft ⟨q,t,hq,t0,t1,?_,?_⟩
     .grind
     .grind
    .have k1:AH (sw a) (sw b) (sw c)=0:=by rw[UL,z1];rfl
     have k2:AH (sw a) (sw b) (sw d)=0:=by rw[UL,z2];rfl
     rcases V3 (a:=sw a) (b:=sw b) (c:=sw c) (d:=sw d) hE k1 k2 (uz h)with k|k|k|k
     .exact n1<|Pa k
     .exact n2<|Pa k
     .exact n3<|Pa k
     .exact n4<|Pa k
   .rcases V3 hD z1 z2 h with k|k|k|k
    .exact n1 k
    .exact n2 k
    .exact n3 k
    .exact n4 k
  .rcases Ti YM YI f2 with⟨y1,y2⟩|y|y
   .lia
   .exact hp J J
   .exact hp (by simp[parts];lia) (by simp[parts];lia)
  .rcases Ti YM YI f2 with⟨y1,y2⟩|y|y
   .lia
   .exact hp (by simp[parts];lia) (by simp[parts];lia)
   .exact hp J J
theorem Rm.Ck{r:List Pt}(R:Rm r)(k:Int):AH (AA r k) (AA r<|k+1) (AA r<|k+1+1)≠0:=by
 have:=R.KU<|k+1+1;rw[show k+1+1-2=k by lia,show k+1+1-1=k+1 by lia]at this;exact this
theorem Rm.simple{r:List Pt}(R:Rm r):A3 r:=
 ⟨R.l3,λk=>L5<|R.Ck k,λk h1 h2=>R.Ck k (by unfold AH;rw[<-h2,h1];simp),λi j hf hs=>by
  have:=R.apart i j hf;unfold M at this;rw[TN hs]at this;cases this⟩
open Classical
def yy(r:List Pt)(i:Int):Int:=(AA r i).2
def AK(r:List Pt)(h i:Int):Int:=if yy r i<=h/\h<yy r (i+1)then 1 else if yy r (i+1)<=h/\h<yy r i then -1 else 0
noncomputable def ind(p:Prop):Int:=if p then 1 else 0
theorem Ay{p:Prop}(h:p):ind p=1:=AAH h
theorem Ai{p:Prop}(h:¬ p):ind p=0:=AAG h
def Rr(r:List Pt)(h i:Int):Int:=AW (λj=>ind (L r i j)*AK r h j) r.length
theorem Ci{r:List Pt}{i j:Int}(h:(i-j)%(r.length:Int)=0):yy r i=yy r j:=by unfold yy;rw[Aw h]
theorem Bo{n i j:Int}(h:(i-j)%n=0):(i+1-(j+1))%n=0:=by rw[show i+1-(j+1)=i-j by lia];exact h
theorem FO{r:List Pt}{h i j:Int}(e:(i-j)%(r.length:Int)=0):AK r h i=AK r h j:=by
 unfold AK;rw[Ci e,Ci<|Bo e]
theorem Gr{r:List Pt}{i i' j j':Int}(e:(i-i')%(r.length:Int)=0)(f:(j-j')%(r.length:Int)=0):L r i j=L r i' j':=by
 unfold L;rw[Aw e,Aw<|Bo e,Aw f,Aw<|Bo f]
theorem Pw(r:List Pt)(h j:Int):AK r h j-AK r (h-1) j=ind (yy r j=h)-ind (yy r (j+1)=h):=by
 unfold AK ind;generalize yy r j=a;generalize yy r (j+1)=b;by_cases h1:a=h<;>by_cases h2:b=h<;>simp only[h1,h2,AB0,ACV]<;>(repeat' split)<;>lia
theorem comb{u a b g1 g2 x y:Int}(hs:a=b+(x-y))(c1:(x=1/\g1=u)\/(x=0/\g1=0))(c2:(y=1/\g2=u)\/(y=0/\g2=0)):u*a=u*b+(g1-g2):=by
 rcases c1 with⟨rfl,rfl⟩|⟨rfl,rfl⟩<;>rcases c2 with⟨rfl,h⟩|⟨rfl,rfl⟩<;>(try subst h)<;>subst hs<;>grind
theorem K3{a b c d:Pt}(h:Lt a b c c):Lt a b c d:=by
 obtain⟨q,s,t,h1,h2,h3,h4,h5,e,l⟩:=h;exact⟨q,s,0,h1,h2,h3,J,J,z9,z9⟩
theorem Mm{a b c d:Pt}(h:Lt a b d d):Lt a b c d:=by
 obtain⟨q,s,t,h1,h2,h3,h4,h5,e,l⟩:=h;exact⟨q,s,q,h1,h2,h3,J,J,z9,z9⟩
theorem PB{a b c d:Pt}(h:Lt a a c d):Lt a b c d:=by
 obtain⟨q,s,t,h1,h2,h3,h4,h5,e,l⟩:=h;exact⟨q,0,t,h1,J,J,h4,h5,z9,z9⟩
theorem TK{a b c d:Pt}(h:Lt b b c d):Lt a b c d:=by
 obtain⟨q,s,t,h1,h2,h3,h4,h5,e,l⟩:=h;exact⟨q,q,t,h1,J,J,h4,h5,z9,z9⟩
theorem LA{a b:Pt}{h:Int}(Aq:a.2≠b.2)(hr:(a.2<=h/\h<=b.2)\/(b.2<=h/\h<=a.2)):∃q s:Int,0<q/\0<=s/\s<=q/\q*a.2+s*(b.2-a.2)=q*h/\(s=0->h=a.2)/\(s=q->h=b.2):=by
 rcases AAk Aq with hl|hl
 .exact⟨b.2-a.2,h-a.2,J,J,J,z9,J,J⟩
 .exact⟨a.2-b.2,a.2-h,J,J,J,z9,J,J⟩
theorem Tx{a b:Pt}{h:Int}(hr:(a.2<=h/\h<b.2)\/(b.2<=h/\h<a.2)):∃q s:Int,0<q/\0<s/\s<q/\2*(q*a.2+s*(b.2-a.2))=q*(2*h+1):=by
 rcases hr with hl|hl
 .exact⟨2*(b.2-a.2),2*h+1-2*a.2,J,J,J,z9⟩
 .exact⟨2*(a.2-b.2),2*a.2-(2*h+1),J,J,J,z9⟩
theorem Cz{r:List Pt}{h i:Int}(hs:AK r h i≠0):(yy r i<=h/\h<yy r (i+1))\/(yy r (i+1)<=h/\h<yy r i):=by
 unfold AK at hs;by_cases h1:yy r i<=h/\h<yy r (i+1)
 .exact .inl h1
 .by_cases h2:yy r (i+1)<=h/\h<yy r i
  .exact .inr h2
  .rw[AAG h1,AAG h2]at hs;exact absurd rfl hs
section
variable{r:List Pt}(S:A3 r)
include S
theorem A3.JA{h i j:Int}(Aq:(i-j)%(r.length:Int)≠0)(hi:AK r h i≠0)(hj:AK r h j≠0):L r i j\/L r j i:=by
 obtain⟨q1,s1,p1,p2,p3,e1⟩:=Tx (a:=AA r i) (b:=AA r<|i+1) (h:=h)<|Cz hi;obtain⟨q2,s2,p4,p5,p6,e2⟩:=Tx (a:=AA r j) (b:=AA r<|j+1) (h:=h)<|Cz hj;have m1:=AAN p1 p4;have m2:=AAN p2 p4;have m3:=AAN p5 p1;have m4:s1*q2<q1*q2:=ABa p3 p4;have m5:s2*q1<q1*q2:=by rw[AB6 q1];exact ABa p6 p1
 have ey:q1*q2*(AA r i).2+s1*q2*((AA r<|i+1).2-(AA r i).2)=q1*q2*(AA r j).2+s2*q1*((AA r<|j+1).2-(AA r j).2):=by
  have f1:2*(q1*q2*(AA r i).2+s1*q2*((AA r<|i+1).2-(AA r i).2))=q2*(2*(q1*(AA r i).2+s1*((AA r<|i+1).2-(AA r i).2))):=z9
  have f2:2*(q1*q2*(AA r j).2+s2*q1*((AA r<|j+1).2-(AA r j).2))=q1*(2*(q2*(AA r j).2+s2*((AA r<|j+1).2-(AA r j).2))):=z9
  rw[e1]at f1;rw[e2]at f2;lia
 rcases AAv (q1*q2*(AA r i).1+s1*q2*((AA r<|i+1).1-(AA r i).1)) (q1*q2*(AA r j).1+s2*q1*((AA r<|j+1).1-(AA r j).1))with hl|he|hg
 .exact .inl ⟨_,_,_,m1,J,J,J,J,ey,hl⟩
 .rcases S.share Aq m1 J J J J he ey with⟨_,z,_⟩|⟨_,z,_⟩<;>lia
 .exact .inr ⟨_,_,_,m1,J,J,J,J,ey.symm,hg⟩
theorem A3.off{m j:Int}(h0:(m-j)%(r.length:Int)≠0)(h1:(m-j)%(r.length:Int)≠1){q s:Int}(hq:0<q)(s0:0<=s)(s1:s<=q)(e2:q*(AA r j).2+s*((AA r<|j+1).2-(AA r j).2)=q*(AA r m).2):q*(AA r j).1+s*((AA r<|j+1).1-(AA r j).1)≠q*(AA r m).1:=by
 intro e1;rcases S.share h0 (q:=q) (s:=0) (t:=s) hq J J s0 s1 (by rw[e1];lia) (by rw[e2];lia)with⟨z,_⟩|⟨_,z,_⟩
 .exact h1 z
 .lia
theorem A3.NI{m i:Int}(h0:(m-i)%(r.length:Int)≠0)(h1:(m-i)%(r.length:Int)≠1)(Aq:yy r i≠yy r (i+1))(hr:(yy r i<=yy r m/\yy r m<=yy r (i+1))\/(yy r (i+1)<=yy r m/\yy r m<=yy r i)) : Lt (AA r i) (AA r<|i+1) (AA r m) (AA r m)\/Lt (AA r m) (AA r m) (AA r i) (AA r<|i+1):=by
 obtain⟨q,s,hq,s0,s1,e,_,_⟩:=LA (a:=AA r i) (b:=AA r<|i+1) (h:=yy r m) Aq hr;have Aq:=S.off h0 h1 hq s0 s1 e;rcases AAk Aq with hl|hl
 .exact .inl ⟨q,s,0,hq,s0,s1,J,J,by unfold yy at e;rw[e];lia,J⟩
 .exact .inr ⟨q,0,s,hq,J,J,s0,s1,by unfold yy at e;rw[e];lia,J⟩
theorem A3.dI{h i:Int}(h1:AK r (h-1) i≠0)(h2:AK r h i≠0):Rr r h i=Rr r (h-1) i:=by
 have r1:=Cz h1;have r2:=Cz h2;have key:∀j:Int,ind (L r i j)*AK r h j=ind (L r i j)*AK r (h-1) j+(ind (yy r j=h/\Lt (AA r i) (AA r<|i+1) (AA r j) (AA r j))-ind (yy r (j+1)=h/\Lt (AA r i) (AA r<|i+1) (AA r<|j+1) (AA r<|j+1))):=by
  intro j;have hd:=Pw r h j;by_cases Br:(i-j)%(r.length:Int)=0
  .have e1:=Ci Br;have e2:=Ci<|Bo Br;have hL:¬ L r i j:=by
    rw[Gr (i':=i) (j':=i) AAB (by
     rw[show j-i = -(i-j)by lia];exact ACO<|ADg.mpr<|ACP Br)]
    exact E7 r i (by
     have:yy r i≠yy r (i+1):=J
     exact this)
   rw[Ai hL,Ai J,Ai J];lia
  .have iJ:yy r j=h->ind (yy r j=h/\Lt (AA r i) (AA r<|i+1) (AA r j) (AA r j))=ind (L r i j):=λz=>by
    rcases S.NI (m:=j) (i:=i) (by
     intro c;apply Br;rw[show i-j = -(j-i)by lia];exact ACO<|ADg.mpr<|ACP c) (by
     intro c;have:=(S.next c).1;have:yy r j=yy r (i+1):=by unfold yy;rw[this]
     lia) J J with k|k
    .rw[Ay ⟨z,k⟩,Ay (show L r i j from K3 k)]
    .have n1:¬ L r i j:=λc=>S.nc Br c<|PB k;rw[Ai n1,Ai λc=>n1<|K3 c.2]
   have iK:yy r (j+1)=h->ind (yy r (j+1)=h/\Lt (AA r i) (AA r<|i+1) (AA r<|j+1) (AA r<|j+1))=ind (L r i j):=λz=>by
    rcases S.NI (m:=j+1) (i:=i) (by
     intro c;have:=Ci c;lia) (by
     intro c;apply Br;rw[show j+1-i = -(i-j)+1 by lia]at c;have:(-(i-j)+1-1)%(r.length:Int)=0:=by rw[ABS,c];simp
     rw[show -(i-j)+1-1 = -(i-j)by lia]at this;rw[show i-j = -(-(i-j))by lia];exact ACO<|ADg.mpr<|ACP this) J J with k|k
    .rw[Ay ⟨z,k⟩,Ay (show L r i j from Mm k)]
    .have n1:¬ L r i j:=λc=>S.nc Br c<|TK k;rw[Ai n1,Ai λc=>n1<|Mm c.2]
   have hs:AK r h j=AK r (h-1) j+(ind (yy r j=h)-ind (yy r (j+1)=h)):=J
   refine comb hs ?_ ?_
   .by_cases a1:yy r j=h
    .exact .inl ⟨Ay a1,iJ a1⟩
    .exact .inr ⟨Ai a1,Ai λc=>a1 c.1⟩
   .by_cases a2:yy r (j+1)=h
    .exact .inl ⟨Ay a2,iK a2⟩
    .exact .inr ⟨Ai a2,Ai λc=>a2 c.1⟩
 unfold Rr;rw[Bw (g:=λj=>ind (L r i j)*AK r (h-1) j+(ind (yy r j=h/\Lt (AA r i) (AA r<|i+1) (AA r j) (AA r j))-ind (yy r (j+1)=h/\Lt (AA r i) (AA r<|i+1) (AA r<|j+1) (AA r<|j+1)))) λj _=>key j];rw[EK (λj=>ind (L r i j)*AK r (h-1) j) λj=>ind (yy r j=h/\Lt (AA r i) (AA r<|i+1) (AA r j) (AA r j))-ind (yy r (j+1)=h/\Lt (AA r i) (AA r<|i+1) (AA r<|j+1) (AA r<|j+1))];have ht:=Hi (λj=>- ind (yy r j=h/\Lt (AA r i) (AA r<|i+1) (AA r j) (AA r j))) r.length;have hc:AA r (r.length:Int)=AA r 0:=Aw AAB;have hy:yy r (r.length:Int)=yy r 0:=by unfold yy;rw[hc]
 rw[hc,hy]at ht;lia
end
theorem P0{f:Int->Int}{n:Nat}(hn:0<n)(hp:∀a b:Int,(a-b)%(n:Int)=0->f a=f b)(i:Int):AW (λm=>f<|i+m) n=AW f n:=by
 have a:=AAj i (b:=(n:Int)) J;have h1:AW (λm=>f<|i+m) n=AW (λm=>f<|m+((i%(n:Int)).toNat:Int)) n:=Bw λm _=>hp _ _ (by
  rw[AAW a,show i+(m:Int)-(m+i%(n:Int))=i-i%n by lia];have:=ABl i n;have e:i-i%(n:Int)=n*(i / n):=J
  rw[e];exact ACU _ _)
 rw[h1];exact UZ f n (λx=>hp _ _ (by rw[show x+(n:Int)-x=n by lia];exact ACg)) _
theorem J3{f:Int->Int}:∀{n:Nat},(∀m:Nat,m<n->f m=0)->AW f n=0
 |0,_=>rfl
 |n+1,h=>by rw[AW,J3 λm hm=>h m J,h n J];rfl
theorem ND{f:Int->Int}{d:Nat}:∀{n:Nat},d<n->(∀m:Nat,m<n->m≠d->f m=0)->AW f n=f d
 |0,h,_=>J
 |n+1,h,hz=>by
  rw[AW];by_cases hd:d=n
  .subst hd;rw[J3 λm hm=>hz m J J];lia
  .rw[ND (d:=d) J λm hm Aq=>hz m J Aq,hz n J J];lia
theorem Ub{f:Int->Int}{c d n:Nat}(hc:c<d)(hd:d<n)(hz:∀m:Nat,m<n->m≠c->m≠d->f m=0):AW f n=f c+f d:=by
 induction n with
 |zero=>lia
 |succ n ih=>
  rw[AW];by_cases h:d=n
  .subst h;rw[ND (d:=c) hc λm hm Aq=>hz m J Aq J]
  .rw[ih J λm hm=>hz m J,hz n J J J];lia
theorem CD{n a b:Int}(h:(a-b)%n=0):(b-a)%n=0:=by
 rw[show b-a = -(a-b)by lia];exact ACO<|ADg.mpr<|ACP h
theorem Dp{n a b:Int}(hn:1<n)(h:(a-b)%n=1):(a-1-b)%n=0:=by
 rw[show a-1-b=(a-b)-1 by lia,ABS,h,AAF (a:=1) J hn];rfl
structure QJ(r:List Pt)(i k h:Int):Prop where
 kk:k=i+1\/(k=i+2/\yy r (i+1)=yy r (i+2))
 hi:yy r (i+1)=h
 hk:yy r k=h
 ni:yy r i≠h
 nk:yy r (k+1)≠h
section
variable{r:List Pt}(S:A3 r){i k h:Int}(B:QJ r i k h)
include S B
theorem A3.dw{j:Int}(n1:(i-j)%(r.length:Int)≠0)(n2:(k-j)%(r.length:Int)≠0)(n3:(i+1-j)%(r.length:Int)≠0){q s:Int}(hq:0<q)(s0:0<=s)(s1:s<=q)(e:q*(AA r j).2+s*((AA r<|j+1).2-(AA r j).2)=q*h) : (q*(AA r<|i+1).1<q*(AA r j).1+s*((AA r<|j+1).1-(AA r j).1)/\q*(AA r k).1<q*(AA r j).1+s*((AA r<|j+1).1-(AA r j).1))\/(q*(AA r j).1+s*((AA r<|j+1).1-(AA r j).1)<q*(AA r<|i+1).1/\q*(AA r j).1+s*((AA r<|j+1).1-(AA r j).1)<q*(AA r k).1):=by
 have h3:=S.l3;have hv:(AA r<|i+1).2=h:=B.hi;have hw:(AA r k).2=h:=B.hk;have o1:=S.off (m:=i+1) (j:=j) n3 (λc=>n1 (by have:=Dp J c;rw[show i+1-1-j=i-j by lia]at this;exact this)) hq s0 s1 (by rw[hv];exact e);rcases B.kk with rfl|⟨rfl,hh⟩
 .lia
 .have o2:=S.off (m:=i+2) (j:=j) n2 (λc=>n3 (by have:=Dp J c;rw[show i+2-1-j=i+1-j by lia]at this;exact this)) hq s0 s1 (by rw[hw];exact e);have VZ:∀g:Int,(g=1\/g = -1)->0<g*((AA r j).1*q+s*((AA r<|j+1).1-(AA r j).1)-q*(AA r<|i+1).1)->0<g*(q*(AA r<|i+2).1-((AA r j).1*q+s*((AA r<|j+1).1-(AA r j).1)))->False:=by
   intro g hg p1 p2;have hW:0<g*((AA r<|i+2).1-(AA r<|i+1).1):=by
    by_cases hc:0<g*((AA r<|i+2).1-(AA r<|i+1).1)
    .exact hc
    .have:=AAQ (AAI hq) (J:g*((AA r<|i+2).1-(AA r<|i+1).1)<=0);lia
   have g8:i+1+1=i+2:=J
   have hz:(AA r<|i+2).2-(AA r<|i+1).2=0:=by rw[hv,hw];lia
   rcases S.share (i:=i+1) (j:=j) n3 (q:=q*(g*((AA r<|i+2).1-(AA r<|i+1).1))) (s:=g*((AA r j).1*q+s*((AA r<|j+1).1-(AA r j).1)-q*(AA r<|i+1).1)) (t:=s*(g*((AA r<|i+2).1-(AA r<|i+1).1))) (AAN hq hW) J (by
    lia) (AAK s0<|AAI hW) (AAb s1<|AAI hW) z9 (by
    rw[g8,hz,AA4,AAm,hv];have:q*(g*((AA r<|i+2).1-(AA r<|i+1).1))*(AA r j).2+s*(g*((AA r<|i+2).1-(AA r<|i+1).1))*((AA r<|j+1).2-(AA r j).2)=(g*((AA r<|i+2).1-(AA r<|i+1).1))*(q*(AA r j).2+s*((AA r<|j+1).2-(AA r j).2)):=z9
    rw[this,e];grind)with⟨z,_⟩|⟨z,_⟩
   .apply n1;have:=Dp J z;rw[show i+1-1-j=i-j by lia]at this;exact this
   .apply n2;have:=Dp J z;have:=CD this;rw[show i+1-(j-1)=i+2-j by lia]at this;exact this
  have a1:=VZ 1<|.inl rfl;have a2:=VZ (-1)<|.inr rfl;rw[AB6 (AA r j).1 q]at a1 a2;generalize q*(AA r j).1+s*((AA r<|j+1).1-(AA r j).1)=X at *
  generalize q*(AA r<|i+1).1=V at *
  generalize q*(AA r<|i+2).1=W at *
  rcases AAk o1 with u|u<;>rcases AAk o2 with w|w
  .exact .inr ⟨u,w⟩
  .exact(a2 J J).elim
  .exact(a1 J J).elim
  .exact .inl ⟨u,w⟩
theorem A3.Q6{j:Int}(n1:(i-j)%(r.length:Int)≠0)(n2:(k-j)%(r.length:Int)≠0)(n3:(i+1-j)%(r.length:Int)≠0){q s:Int}(hq:0<q)(s0:0<=s)(s1:s<=q)(e:q*(AA r j).2+s*((AA r<|j+1).2-(AA r j).2)=q*h) : ((q*(AA r<|i+1).1<q*(AA r j).1+s*((AA r<|j+1).1-(AA r j).1)/\q*(AA r k).1<q*(AA r j).1+s*((AA r<|j+1).1-(AA r j).1))/\L r i j/\L r k j)\/((q*(AA r j).1+s*((AA r<|j+1).1-(AA r j).1)<q*(AA r<|i+1).1/\q*(AA r j).1+s*((AA r<|j+1).1-(AA r j).1)<q*(AA r k).1)/\¬ L r i j/\¬ L r k j):=by
 have hv:(AA r<|i+1).2=h:=B.hi;have hw:(AA r k).2=h:=B.hk;rcases S.dw B n1 n2 n3 hq s0 s1 e with z|z
 .refine .inl ⟨z,TK ⟨q,0,s,hq,J,J,s0,s1,by rw[e,hv];lia,J⟩,PB ⟨q,0,s,hq,J,J,s0,s1,by rw[e,hw];lia,J⟩⟩
 .have l1:L r j i:=Mm ⟨q,s,0,hq,s0,s1,J,J,by rw[e,hv];lia,J⟩;have l2:L r j k:=K3 ⟨q,s,0,hq,s0,s1,J,J,by rw[e,hw];lia,J⟩;exact .inr ⟨z,λc=>S.nc n1 c l1,λc=>S.nc n2 c l2⟩
theorem A3.Q5{j:Int}(n1:(i-j)%(r.length:Int)≠0)(n2:(k-j)%(r.length:Int)≠0)(n3:(i+1-j)%(r.length:Int)≠0) : (ind (L r k j)*AK r h j=ind (L r i j)*AK r h j)/\(ind (L r k j)*AK r (h-1) j=ind (L r i j)*AK r (h-1) j)/\ind (L r i j)*AK r h j=ind (L r i j)*AK r (h-1) j+(ind (yy r j=h/\(AA r<|i+1).1<(AA r j).1/\(AA r k).1<(AA r j).1)-ind (yy r (j+1)=h/\(AA r<|i+1).1<(AA r<|j+1).1/\(AA r k).1<(AA r<|j+1).1)):=by
 have same:((yy r j<=h/\h<=yy r (j+1))\/(yy r (j+1)<=h/\h<=yy r j))->ind (L r k j)=ind (L r i j):=λhr=>by
  obtain⟨q,s,hq,s0,s1,e⟩:∃q s:Int,0<q/\0<=s/\s<=q/\q*(AA r j).2+s*((AA r<|j+1).2-(AA r j).2)=q*h:=by
   by_cases Aq:yy r j=yy r (j+1)
   .refine⟨1,0,J,J,J,?_⟩;have:(AA r j).2=h:=by show yy r j=h;lia
    rw[this];lia
   .obtain⟨q,s,a,b,c,d,_,_⟩:=LA (a:=AA r j) (b:=AA r<|j+1) (h:=h) Aq hr;exact⟨q,s,a,b,c,d⟩
  rcases S.Q6 B n1 n2 n3 hq s0 s1 e with⟨_,a,b⟩|⟨_,a,b⟩
  .rw[Ay a,Ay b]
  .rw[Ai a,Ai b]
 refine⟨?_,?_,?_⟩
 .by_cases hz:AK r h j=0
  .rw[hz,AA4,AA4]
  .rw[same (by have:=Cz hz;lia)]
 .by_cases hz:AK r (h-1) j=0
  .rw[hz,AA4,AA4]
  .rw[same (by have:=Cz hz;lia)]
 .have hd:=Pw r h j;refine comb (x:=ind<|yy r j=h) (y:=ind<|yy r (j+1)=h) J ?_ ?_
  .by_cases a1:yy r j=h
   .refine .inl ⟨Ay a1,?_⟩;rcases S.Q6 B n1 n2 n3 (q:=1) (s:=0) J J J (by rw[show(AA r j).2=h from a1];lia)with⟨a,b,_⟩|⟨a,b,_⟩
    .rw[Ay b,Ay ⟨a1,J,J⟩]
    .rw[Ai b,Ai λc=>J]
   .exact .inr ⟨Ai a1,Ai λc=>a1 c.1⟩
  .by_cases a2:yy r (j+1)=h
   .refine .inl ⟨Ay a2,?_⟩;rcases S.Q6 B n1 n2 n3 (q:=1) (s:=1) J J J (by rw[show(AA r<|j+1).2=h from a2];lia)with⟨a,b,_⟩|⟨a,b,_⟩
    .rw[Ay b,Ay ⟨a2,J,J⟩]
    .rw[Ai b,Ai λc=>J]
   .exact .inr ⟨Ai a2,Ai λc=>a2 c.1⟩
end
section
variable{r:List Pt}(S:A3 r){i k h:Int}(B:QJ r i k h)
include S B
theorem A3.Q4(j:Int):(i-j)%(r.length:Int)=0\/(k-j)%(r.length:Int)=0\/((i+1-j)%(r.length:Int)=0/\yy r (i+1)=h/\yy r (i+1+1)=h/\AA r (i+1+1)=AA r k)\/((i-j)%(r.length:Int)≠0/\(k-j)%(r.length:Int)≠0/\(i+1-j)%(r.length:Int)≠0):=by
 by_cases h1:(i-j)%(r.length:Int)=0
 .exact .inl h1
 by_cases h2:(k-j)%(r.length:Int)=0
 .exact .inr<|.inl h2
 by_cases h3:(i+1-j)%(r.length:Int)=0
 .rcases B.kk with e|⟨e,f⟩
  .rw[e]at h2;exact absurd h3 h2
  .refine .inr (.inr<|.inl ⟨h3,B.hi,?_,?_⟩)
   .have:=B.hk;rw[e]at this;rw[show i+1+1=i+2 by lia];exact this
   .rw[e];congr 1;lia
 .exact .inr<|.inr<|.inr ⟨h1,h2,h3⟩
theorem A3.dv:(i-k)%(r.length:Int)≠0:=by
 have h3:=S.l3;intro c;have:=CD c;rcases B.kk with e|⟨e,_⟩
 .rw[e,show i+1-i=1 by lia,AAF J J]at this;lia
 .rw[e,show i+2-i=2 by lia,AAF J J]at this;lia
theorem A3.Zh(lo:yy r i<h/\h<yy r (k+1)\/h<yy r i/\yy r (k+1)<h):(yy r i<h->Rr r h k=Rr r (h-1) i)/\(h<yy r i->Rr r (h-1) k=Rr r h i):=by
 have ht:=Hi (λj=>- ind (yy r j=h/\(AA r<|i+1).1<(AA r j).1/\(AA r k).1<(AA r j).1)) r.length;have hc:AA r (r.length:Int)=AA r 0:=Aw AAB;have hy:yy r (r.length:Int)=yy r 0:=by unfold yy;rw[hc]
 rw[hc,hy]at ht;have YO:AW (λj=>ind (yy r j=h/\(AA r<|i+1).1<(AA r j).1/\(AA r k).1<(AA r j).1)-ind (yy r (j+1)=h/\(AA r<|i+1).1<(AA r<|j+1).1/\(AA r k).1<(AA r<|j+1).1)) r.length=0:=by
  lia
 have hi:=B.hi;have hk:=B.hk;have Vj:∀j,(i-j)%(r.length:Int)=0->ind (yy r j=h/\(AA r<|i+1).1<(AA r j).1/\(AA r k).1<(AA r j).1)=0/\ind (yy r (j+1)=h/\(AA r<|i+1).1<(AA r<|j+1).1/\(AA r k).1<(AA r<|j+1).1)=0:=λj z=>by
  have z':=CD z;rw[Aw z',Aw<|Bo z',Ci z',Ci<|Bo z'];exact⟨Ai λc=>B.ni c.1,Ai λc=>J⟩
 have Vk:∀j,(k-j)%(r.length:Int)=0->ind (yy r j=h/\(AA r<|i+1).1<(AA r j).1/\(AA r k).1<(AA r j).1)=0/\ind (yy r (j+1)=h/\(AA r<|i+1).1<(AA r<|j+1).1/\(AA r k).1<(AA r<|j+1).1)=0:=λj z=>by
  have z':=CD z;rw[Aw z',Aw<|Bo z',Ci z',Ci<|Bo z'];exact⟨Ai λc=>J,Ai λc=>B.nk c.1⟩
 have Sv:∀j,(i-j)%(r.length:Int)=0->ind (L r i j)=0:=λj z=>Ai (by
  rw[Gr (i':=i) (j':=i) AAB<|CD z];exact E7 r i (by have:=B.ni;show yy r i≠yy r (i+1);lia))
 have Sw:∀j,(k-j)%(r.length:Int)=0->ind (L r k j)=0:=λj z=>Ai (by
  rw[Gr (i':=k) (j':=k) AAB<|CD z];exact E7 r k (by have:=B.nk;show yy r k≠yy r (k+1);lia))
 have Od:∀j,(i+1-j)%(r.length:Int)=0->yy r (i+1+1)=h->AA r (i+1+1)=AA r k->(AK r h j=0/\AK r (h-1) j=0)/\ind (yy r j=h/\(AA r<|i+1).1<(AA r j).1/\(AA r k).1<(AA r j).1)=0/\ind (yy r (j+1)=h/\(AA r<|i+1).1<(AA r<|j+1).1/\(AA r k).1<(AA r<|j+1).1)=0:=λj z y2 e=>by
  have z':=CD z;rw[FO z',FO z',Aw z',Aw<|Bo z',Ci z',Ci<|Bo z'];refine⟨⟨?_,?_⟩,Ai λc=>J,Ai λc=>J⟩
  .unfold AK;rw[AAG J,AAG J]
  .unfold AK;rw[AAG J,AAG J]
 constructor
 .intro hl;have key:∀j:Int,ind (L r k j)*AK r h j=ind (L r i j)*AK r (h-1) j+(ind (yy r j=h/\(AA r<|i+1).1<(AA r j).1/\(AA r k).1<(AA r j).1)-ind (yy r (j+1)=h/\(AA r<|i+1).1<(AA r<|j+1).1/\(AA r k).1<(AA r<|j+1).1)):=λj=>by
   rcases S.Q4 B j with z|z|⟨z,_,y2,e⟩|⟨z1,z2,z3⟩
   .obtain⟨g1,g2⟩:=Vj j z;rw[g1,g2,Sv j z,FO<|CD z];have:AK r h i=0:=by unfold AK;rw[AAG J,AAG J]
    rw[this];lia
   .obtain⟨g1,g2⟩:=Vk j z;rw[g1,g2,Sw j z,FO (h:=h-1)<|CD z];have:AK r (h-1) k=0:=by unfold AK;rw[AAG J,AAG J]
    rw[this];lia
   .obtain⟨⟨s1,s2⟩,g1,g2⟩:=Od j z y2 e;rw[g1,g2,s1,s2];lia
   .obtain⟨a,b,c⟩:=S.Q5 B z1 z2 z3;rw[a,c]
  unfold Rr;rw[Bw (g:=λj=>ind (L r i j)*AK r (h-1) j+(ind (yy r j=h/\(AA r<|i+1).1<(AA r j).1/\(AA r k).1<(AA r j).1)-ind (yy r (j+1)=h/\(AA r<|i+1).1<(AA r<|j+1).1/\(AA r k).1<(AA r<|j+1).1))) λj _=>key j,EK (λj=>ind (L r i j)*AK r (h-1) j) λj=>ind (yy r j=h/\(AA r<|i+1).1<(AA r j).1/\(AA r k).1<(AA r j).1)-ind (yy r (j+1)=h/\(AA r<|i+1).1<(AA r<|j+1).1/\(AA r k).1<(AA r<|j+1).1),YO];lia
 .intro hg;have key:∀j:Int,ind (L r i j)*AK r h j=ind (L r k j)*AK r (h-1) j+(ind (yy r j=h/\(AA r<|i+1).1<(AA r j).1/\(AA r k).1<(AA r j).1)-ind (yy r (j+1)=h/\(AA r<|i+1).1<(AA r<|j+1).1/\(AA r k).1<(AA r<|j+1).1)):=λj=>by
   rcases S.Q4 B j with z|z|⟨z,_,y2,e⟩|⟨z1,z2,z3⟩
   .obtain⟨g1,g2⟩:=Vj j z;rw[g1,g2,Sv j z,FO (h:=h-1)<|CD z];have:AK r (h-1) i=0:=by unfold AK;rw[AAG J,AAG J]
    rw[this];lia
   .obtain⟨g1,g2⟩:=Vk j z;rw[g1,g2,Sw j z,FO (h:=h)<|CD z];have:AK r h k=0:=by unfold AK;rw[AAG J,AAG J]
    rw[this];lia
   .obtain⟨⟨s1,s2⟩,g1,g2⟩:=Od j z y2 e;rw[g1,g2,s1,s2];lia
   .obtain⟨a,b,c⟩:=S.Q5 B z1 z2 z3;rw[b,c]
  unfold Rr;rw[Bw (f:=λj=>ind (L r i j)*AK r h j) (g:=λj=>ind (L r k j)*AK r (h-1) j+(ind (yy r j=h/\(AA r<|i+1).1<(AA r j).1/\(AA r k).1<(AA r j).1)-ind (yy r (j+1)=h/\(AA r<|i+1).1<(AA r<|j+1).1/\(AA r k).1<(AA r<|j+1).1))) λj _=>key j,EK (λj=>ind (L r k j)*AK r (h-1) j) λj=>ind (yy r j=h/\(AA r<|i+1).1<(AA r j).1/\(AA r k).1<(AA r j).1)-ind (yy r (j+1)=h/\(AA r<|i+1).1<(AA r<|j+1).1/\(AA r k).1<(AA r<|j+1).1),YO];lia
theorem A3.bO{H:Int}(hH:H=h\/H=h-1):Rr r H i-Rr r H k=ind (L r i k)*AK r H k-ind (L r k i)*AK r H i:=by
 have h3:=S.l3;have hi:=B.hi;have hk:=B.hk;have Sv:ind (L r i i)=0:=Ai (E7 r i (by have:=B.ni;show yy r i≠yy r (i+1);lia));have Sw:ind (L r k k)=0:=Ai (E7 r k (by have:=B.nk;show yy r k≠yy r (k+1);lia));have hp:∀a b:Int,(a-b)%(r.length:Int)=0->ind (L r i a)*AK r H a-ind (L r k a)*AK r H a=ind (L r i b)*AK r H b-ind (L r k b)*AK r H b:=λa b z=>by
  rw[Gr (i:=i) (i':=i) AAB z,Gr (i:=k) (i':=k) AAB z,FO z]
 have hd:Rr r H i-Rr r H k=AW (λj=>ind (L r i j)*AK r H j-ind (L r k j)*AK r H j) r.length:=by
  unfold Rr;have:=EK (λj=>ind (L r i j)*AK r H j-ind (L r k j)*AK r H j) (λj=>ind (L r k j)*AK r H j) r.length;lia
 rw[hd,<-P0 (f:=λj=>ind (L r i j)*AK r H j-ind (L r k j)*AK r H j) (n:=r.length) J hp i];have zero:∀m:Nat,m<r.length->(m:Int)≠0->i+(m:Int)≠k->ind (L r i<|i+(m:Int))*AK r H (i+(m:Int))-ind (L r k<|i+(m:Int))*AK r H (i+(m:Int))=0:=λm hm m0 mk=>by
  have e0:(i-(i+(m:Int)))%(r.length:Int)≠0:=λc=>by
   have:=CD c;rw[show i+(m:Int)-i=m by lia,AAF J J]at this;lia
  have e1:(k-(i+(m:Int)))%(r.length:Int)≠0:=λc=>by
   have c':=CD c;rcases B.kk with e|⟨e,_⟩
   .rw[e,show i+(m:Int)-(i+1)=m-1 by lia,AAF J J]at c';lia
   .by_cases R9:(m:Int)=1
    .rw[e,R9,show i+1-(i+2) = -1 by lia]at c';have:(-1:Int)%(r.length:Int)=r.length-1:=by
      rw[show(-1:Int)=(r.length-1)+r.length*(-1)by lia,AA9,AAF J J]
     lia
    .rw[e,show i+(m:Int)-(i+2)=m-2 by lia,AAF J J]at c';lia
  rcases S.Q4 B (i+(m:Int))with z|z|⟨z,_,y2,_⟩|⟨z1,z2,z3⟩
  .exact absurd z e0
  .exact absurd z e1
  .have z':=CD z;have:AK r H (i+(m:Int))=0:=by
    rw[FO z'];unfold AK;rw[AAG J,AAG J]
   rw[this];lia
  .obtain⟨a,b,_⟩:=S.Q5 B z1 z2 z3;rcases hH with rfl|rfl<;>lia
 have t0:ind (L r i<|i+(0:Int))*AK r H (i+(0:Int))-ind (L r k<|i+(0:Int))*AK r H (i+(0:Int)) = - (ind (L r k i)*AK r H i):=by
  lia
 have tk:ind (L r i k)*AK r H k-ind (L r k k)*AK r H k=ind (L r i k)*AK r H k:=J
 rcases B.kk with e|⟨e,_⟩
 .rw[Ub (c:=0) (d:=1) J J λm hm m0 m1=>zero m hm J J];show ind (L r i<|i+(0:Int))*AK r H (i+(0:Int))-ind (L r k<|i+(0:Int))*AK r H (i+(0:Int))+(ind (L r i<|i+1)*AK r H (i+1)-ind (L r k<|i+1)*AK r H (i+1))=_;rw[t0,<-e,tk];lia
 .rw[Ub (c:=0) (d:=2) J J λm hm m0 m1=>zero m hm J J];show ind (L r i<|i+(0:Int))*AK r H (i+(0:Int))-ind (L r k<|i+(0:Int))*AK r H (i+(0:Int))+(ind (L r i<|i+2)*AK r H (i+2)-ind (L r k<|i+2)*AK r H (i+2))=_;rw[t0,<-e,tk];lia
theorem A3.ZS{H:Int}(h1:AK r H i≠0)(h2:AK r H k≠0):(ind (L r i k)=1/\ind (L r k i)=0)\/(ind (L r i k)=0/\ind (L r k i)=1):=by
 have Aq:=S.dv B;rcases S.JA Aq h1 h2 with z|z
 .exact .inl ⟨Ay z,Ai<|S.nc Aq z⟩
 .exact .inr ⟨Ai λc=>S.nc Aq c z,Ay z⟩
end
def cc(r:List Pt)(h i:Int):Int:=Rr r h i+ind (yy r i<yy r (i+1))
theorem fQ{r:List Pt}{h i j:Int}(e:(i-j)%(r.length:Int)=0):cc r h i=cc r h j:=by
 unfold cc Rr;rw[Ci e,Ci<|Bo e]
 congr 1
 exact Bw λm _=>by rw[Gr e (AAB:((m:Int)-m)%(r.length:Int)=0)]
theorem E2{r:List Pt}{h i:Int}(h1:yy r i<=h)(h2:h<yy r (i+1)):AK r h i=1:=AAH ⟨h1,h2⟩
theorem E1{r:List Pt}{h i:Int}(h1:yy r (i+1)<=h)(h2:h<yy r i):AK r h i = -1:=by
 unfold AK;rw[AAG J,AAH ⟨h1,h2⟩]
theorem Jz{r:List Pt}{h i:Int}(hr:(yy r i<=h/\h<yy r (i+1))\/(yy r (i+1)<=h/\h<yy r i)):AK r h i≠0:=by
 rcases hr with z|z
 .rw[E2 z.1 z.2];lia
 .rw[E1 z.1 z.2];lia
theorem OD{C:Nat->Prop}{N D:Nat->Int}(hD:∀j,C j->0<D j):∀n:Nat,(∃j,j<n/\C j)->∃e,e<n/\C e/\∀j,j<n->C j->N j*D e<=N e*D j
 |0,⟨j,h,_⟩=>J
 |n+1,⟨j,hj,hc⟩=>by
  by_cases hex:∃j,j<n/\C j
  .obtain⟨e,he,ce,hm⟩:=OD (N:=N) hD n hex;by_cases hn:C n
   .by_cases hle:N n*D e<=N e*D n
    .exact⟨e,J,ce,λj hj cj=>by
      by_cases h:j=n
      .subst h;exact hle
      .exact hm j J cj⟩
    .refine⟨n,J,hn,λj hj cj=>?_⟩;by_cases h:j=n
     .subst h;exact ABT _
     .have h1:=hm j J cj;have d1:=hD j cj;have d2:=hD e ce;have d3:=hD n hn;have m1:=AAb h1<|AAI d3;have m2:=AAb (J:N e*D n<=N n*D e)<|AAI d1;exact ABE J d2
   .exact⟨e,J,ce,λj hj cj=>by
     by_cases h:j=n
     .subst h;exact absurd cj hn
     .exact hm j J cj⟩
  .have FG:j=n:=by
    by_cases h:j=n
    .exact h
    .exact absurd ⟨j,J,hc⟩ hex
   subst FG;exact⟨j,J,hc,λm hm cm=>by
    by_cases h:m=j
    .subst h;exact ABT _
    .exact absurd ⟨m,J,cm⟩ hex⟩
section
variable{r:List Pt}(S:A3 r)
include S
theorem A3.G9{h h' i:Int}(h1:AK r h i≠0)(h2:AK r h' i≠0):cc r h i=cc r h' i:=by
 have main:∀(m:Nat)(h:Int),AK r h i≠0->AK r (h+m) i≠0->cc r (h+m) i=cc r h i:=by
  intro m
  induction m with
  |zero=>simp
  |succ m ih=>
   intro h a b;have ra:=Cz a;have rb:=Cz b;have c:AK r (h+m) i≠0:=Jz J;rw[<-ih h a c];have:=S.dI (h:=h+((m+1:Nat):Int)) (i:=i) (by rw[show h+((m+1:Nat):Int)-1=h+m by lia];exact c) b;unfold cc;rw[this,show h+((m+1:Nat):Int)-1=h+m by lia]
 rcases ABW h h' with hl|hl
 .have:=main (h'-h).toNat h h1 (by rw[AAW J,show h+(h'-h)=h' by lia];exact h2);rw[AAW J,show h+(h'-h)=h' by lia]at this;exact this.symm
 .have:=main (h-h').toNat h' h2 (by rw[AAW J,show h'+(h-h')=h by lia];exact h1);rw[AAW J,show h'+(h-h')=h by lia]at this;exact this
theorem A3.Vt{i k h:Int}(B:QJ r i k h){H1 H2:Int}(h1:AK r H1 i≠0)(h2:AK r H2 k≠0):cc r H1 i=cc r H2 k:=by
 have hi:=B.hi;have hk:=B.hk;have ni:=B.ni;have nk:=B.nk;rcases AAk ni with a|a<;>rcases AAk nk with b|b
 .-- a top
  have s1:AK r (h-1) i=1:=E2 J J;have s2:AK r (h-1) k = -1:=E1 J J;rw[S.G9 h1 (h':=h-1) J,S.G9 h2 (h':=h-1) J];have t:=S.bO B (H:=h-1)<|.inr rfl;have o:=S.ZS B (H:=h-1) J J;rw[s1,s2]at t;unfold cc;rw[Ay (J:yy r i<yy r (i+1)),Ai (J:¬ yy r k<yy r (k+1))];rcases o with⟨o1,o2⟩|⟨o1,o2⟩<;>rw[o1,o2]at t<;>lia
 .-- zw
  have s1:AK r (h-1) i=1:=E2 J J;have s2:AK r h k=1:=E2 J J;rw[S.G9 h1 (h':=h-1) J,S.G9 h2 (h':=h) J];have t:=(S.Zh B<|.inl ⟨a,b⟩).1 a;unfold cc;rw[Ay (J:yy r i<yy r (i+1)),Ay (J:yy r k<yy r (k+1)),t]
 .-- zA
  have s1:AK r h i = -1:=E1 J J;have s2:AK r (h-1) k = -1:=E1 J J;rw[S.G9 h1 (h':=h) J,S.G9 h2 (h':=h-1) J];have t:=(S.Zh B<|.inr ⟨a,b⟩).2 a;unfold cc;rw[Ai (J:¬ yy r i<yy r (i+1)),Ai (J:¬ yy r k<yy r (k+1)),t]
 .-- a dy
  have s1:AK r h i = -1:=E1 J J;have s2:AK r h k=1:=E2 J J;rw[S.G9 h1 (h':=h) J,S.G9 h2 (h':=h) J];have t:=S.bO B (H:=h)<|.inl rfl;have o:=S.ZS B (H:=h) J J;rw[s1,s2]at t;unfold cc;rw[Ai (J:¬ yy r i<yy r (i+1)),Ay (J:yy r k<yy r (k+1))];rcases o with⟨o1,o2⟩|⟨o1,o2⟩<;>rw[o1,o2]at t<;>lia
theorem A3.XE{i:Int}(h:yy r i≠yy r (i+1)):∃H,AK r H i≠0:=by
 rcases AAk h with z|z
 .exact⟨yy r i,Jz<|.inl ⟨J,J⟩⟩
 .exact⟨yy r<|i+1,Jz<|.inr ⟨J,J⟩⟩
theorem A3.fS{i0 H0:Int}(h0:AK r H0 i0≠0):∀(m:Nat)(H:Int),AK r H (i0+m)≠0->cc r H (i0+m)=cc r H0 i0:=by
 intro m
 induction m using Nat.strongRecOn with
 |ind m ih=>
  intro H hs;cases m with
  |zero=>rw[Int.natCast_zero,AAm]at hs ⊢;exact S.G9 hs h0
  |succ m=>
   have rs:=Cz hs;have e1:i0+((m+1:Nat):Int)=i0+m+1:=J
   rw[e1]at hs rs ⊢;by_cases hh:yy r (i0+m)=yy r (i0+m+1)
   .-- a level wall ahead of it
    cases m with
    |zero=>
     have r0:=Cz h0;lia
    |succ m=>
     have e2:i0+((m+1:Nat):Int)=i0+m+1:=J
     rw[e2]at hh rs hs ⊢;have Aq:yy r (i0+m)≠yy r (i0+m+1):=λc=>S.hh (i0+m) c hh;obtain⟨H1,s1⟩:=S.XE Aq;have:=ih m J H1 s1;rw[<-this];exact(S.Vt (i:=i0+m) (k:=i0+m+1+1) (h:=yy r<|i0+m+1) ⟨.inr ⟨J,by rw[show i0+(m:Int)+2=i0+m+1+1 by lia];exact hh⟩,rfl,hh.symm,Aq,J⟩ s1 hs).symm
   .obtain⟨H1,s1⟩:=S.XE hh;have:=ih m J H1 s1;rw[<-this];exact(S.Vt (i:=i0+m) (k:=i0+m+1) (h:=yy r<|i0+m+1) ⟨.inl rfl,rfl,rfl,hh,J⟩ s1 hs).symm
theorem A3.Nr{i j H H':Int}(h1:AK r H i≠0)(h2:AK r H' j≠0):cc r H i=cc r H' j:=by
 have h3:=S.l3;have a:=AAj (i-j) (b:=(r.length:Int)) J;have e:(i-(j+((i-j)%(r.length:Int)).toNat))%(r.length:Int)=0:=by
  rw[AAW a,show i-(j+(i-j)%(r.length:Int))=(i-j)-(i-j)%r.length by lia];have:=ABl (i-j) r.length;have e':(i-j)-(i-j)%(r.length:Int)=r.length*((i-j) / r.length):=J
  rw[e'];exact ACU _ _
 rw[fQ e];exact S.fS h2 _ H (by rw[<-FO e];exact h1)
end
theorem RW(r:List Pt)(h j:Int):∃z:Int×Int,AK r h j≠0->0<z.1/\0<z.2/\z.2<z.1/\2*(z.1*(AA r j).2+z.2*((AA r<|j+1).2-(AA r j).2))=z.1*(2*h+1):=by
 by_cases hs:AK r h j=0
 .exact⟨(0,0),λc=>absurd hs c⟩
 .obtain⟨q,s,a,b,c,d⟩:=Tx (a:=AA r j) (b:=AA r<|j+1) (h:=h)<|Cz hs;exact⟨(q,s),λ_=>⟨a,b,c,d⟩⟩
noncomputable def kD(r:List Pt)(h j:Int):Int:=(choose<|RW r h j).1
noncomputable def kS(r:List Pt)(h j:Int):Int:=(choose<|RW r h j).2
def kN(r:List Pt)(h j:Int):Int:=kD r h j*(AA r j).1+kS r h j*((AA r<|j+1).1-(AA r j).1)
theorem O2{r:List Pt}{h j:Int}(hs:AK r h j≠0):0<kD r h j/\0<kS r h j/\kS r h j<kD r h j/\2*(kD r h j*(AA r j).2+kS r h j*((AA r<|j+1).2-(AA r j).2))=kD r h j*(2*h+1):=choose_spec (RW r h j) hs
section
variable{r:List Pt}(S:A3 r)
include S
theorem A3.Yo{h i j:Int}(Aq:(i-j)%(r.length:Int)≠0)(hi:AK r h i≠0)(hj:AK r h j≠0)(hL:L r i j):kN r h i*kD r h j<kN r h j*kD r h i:=by
 obtain⟨p1,p2,p3,e1⟩:=O2 hi;obtain⟨p4,p5,p6,e2⟩:=O2 hj;have m1:=AAN p1 p4;have m2:=AAN p2 p4;have m3:=AAN p5 p1;have m4:kS r h i*kD r h j<kD r h i*kD r h j:=ABa p3 p4;have m5:kS r h j*kD r h i<kD r h i*kD r h j:=by rw[AB6<|kD r h i];exact ABa p6 p1
 have ey:kD r h i*kD r h j*(AA r i).2+kS r h i*kD r h j*((AA r<|i+1).2-(AA r i).2)=kD r h i*kD r h j*(AA r j).2+kS r h j*kD r h i*((AA r<|j+1).2-(AA r j).2):=by
  have f1:2*(kD r h i*kD r h j*(AA r i).2+kS r h i*kD r h j*((AA r<|i+1).2-(AA r i).2))=kD r h j*(2*(kD r h i*(AA r i).2+kS r h i*((AA r<|i+1).2-(AA r i).2))):=z9
  have f2:2*(kD r h i*kD r h j*(AA r j).2+kS r h j*kD r h i*((AA r<|j+1).2-(AA r j).2))=kD r h i*(2*(kD r h j*(AA r j).2+kS r h j*((AA r<|j+1).2-(AA r j).2))):=z9
  rw[e1]at f1;rw[e2]at f2;lia
 have n1:kN r h i*kD r h j=kD r h i*kD r h j*(AA r i).1+kS r h i*kD r h j*((AA r<|i+1).1-(AA r i).1):=by unfold kN;grind
 have n2:kN r h j*kD r h i=kD r h i*kD r h j*(AA r j).1+kS r h j*kD r h i*((AA r<|j+1).1-(AA r j).1):=by unfold kN;grind
 rw[n1,n2];rcases AAv (kD r h i*kD r h j*(AA r i).1+kS r h i*kD r h j*((AA r<|i+1).1-(AA r i).1)) (kD r h i*kD r h j*(AA r j).1+kS r h j*kD r h i*((AA r<|j+1).1-(AA r j).1))with hl|he|hg
 .exact hl
 .rcases S.share Aq m1 J J J J he ey with⟨_,z,_⟩|⟨_,z,_⟩<;>lia
 .exact absurd (show L r j i from⟨_,_,_,m1,J,J,J,J,ey.symm,hg⟩) (S.nc Aq hL)
theorem A3.uO{h j:Int}(hj:AK r h j≠0):∃e:Int,AK r h e≠0/\Rr r h e=0:=by
 have h3:=S.l3;have a:=AAj j (b:=(r.length:Int)) J;have b:=AAY j (b:=(r.length:Int)) J;have CJ:AK r h (((j%(r.length:Int)).toNat:Nat):Int)≠0:=by
  rw[AAW a,FO (j:=j) (by
   have:=ABl j r.length;have e':j%(r.length:Int)-j=r.length*(-(j / r.length)):=z9
   rw[e'];exact ACU _ _)]
  exact hj
 obtain⟨e,he,ce,hm⟩:=OD (C:=λm=>AK r h (m:Int)≠0) (N:=λm=>kN r h (m:Int)) (D:=λm=>kD r h (m:Int)) (λm hm=>(O2 hm).1) r.length ⟨_,J,CJ⟩;refine⟨e,ce,J3 λm CK=>?_⟩;by_cases hs:AK r h (m:Int)=0
 .rw[hs,AA4]
 .have:¬ L r (e:Int) (m:Int):=λc=>by
   by_cases Je:((e:Int)-m)%(r.length:Int)=0
   .rw[Gr (i:=(e:Int)) (i':=(e:Int)) AAB<|CD Je]at c;exact E7 r e (by have:=Cz ce;show yy r e≠yy r (e+1);lia) c
   .have k1:=S.Yo Je ce hs c;have k2:=hm m CK hs;lia
  rw[Ai this];lia
theorem A3.Lq{h j:Int}(hj:AK r h j≠0):cc r h j=0\/cc r h j=1:=by
 obtain⟨e,he,hz⟩:=S.uO hj;rw[S.Nr hj he];unfold cc;rw[hz];by_cases hu:yy r e<yy r (e+1)
 .rw[Ay hu];lia
 .rw[Ai hu];lia
end
def fw(a b p:Pt):Int:=(if a.2<=p.2/\p.2<b.2/\AH a b p>0 then 1 else 0)-(if b.2<=p.2/\p.2<a.2/\AH a b p<0 then 1 else 0)
def W(r:List Pt)(p:Pt):Int:=AW (λj=>fw (AA r j) (AA r<|j+1) p) r.length
theorem Y4{a b p:Pt}(h:Lt p p a b):∃q x:Int,0<q/\0<x/\q*AH a b p=(b.2-a.2)*x:=by
 obtain⟨q,s,t,hq,_,_,_,_,e,l⟩:=h;refine⟨q,q*a.1+t*(b.1-a.1)-(q*p.1+s*(p.1-p.1)),hq,J,?_⟩;have e':q*(p.2-a.2)=t*(b.2-a.2):=z9
 have:q*AH a b p=(b.1-a.1)*(q*(p.2-a.2))-(b.2-a.2)*(q*(p.1-a.1)):=by unfold AH;grind
 rw[this,e'];grind
theorem Xb{r:List Pt}{p:Pt}{j:Int}:fw (AA r j) (AA r<|j+1) p=AK r p.2 j*ind (Lt p p (AA r j)<|AA r<|j+1):=by
 have up:yy r j<yy r (j+1)->yy r j<=p.2->p.2<=yy r (j+1)->(Lt p p (AA r j) (AA r<|j+1)↔AH (AA r j) (AA r<|j+1) p>0):=λh1 h2 h3=>by
  constructor
  .intro h;obtain⟨q,x,hq,hx,e⟩:=Y4 h;have:=AAN (show 0<(AA r<|j+1).2-(AA r j).2 by unfold yy at h1;lia) hx;by_cases hc:AH (AA r j) (AA r<|j+1) p>0
   .exact hc
   .have:=AAQ (AAI hq) (J:AH (AA r j) (AA r<|j+1) p<=0);lia
  .intro h;unfold yy at h1 h2 h3;exact⟨(AA r<|j+1).2-(AA r j).2,0,p.2-(AA r j).2,J,J,J,J,J,z9,by unfold AH at h;grind⟩
 have dn:yy r (j+1)<yy r j->yy r (j+1)<=p.2->p.2<=yy r j->(Lt p p (AA r j) (AA r<|j+1)↔AH (AA r j) (AA r<|j+1) p<0):=λh1 h2 h3=>by
  constructor
  .intro h;obtain⟨q,x,hq,hx,e⟩:=Y4 h;have:=Int.mul_neg_of_neg_of_pos (show(AA r<|j+1).2-(AA r j).2<0 by unfold yy at h1;lia) hx;by_cases hc:AH (AA r j) (AA r<|j+1) p<0
   .exact hc
   .have:=AAK (AAI hq) (J:0<=AH (AA r j) (AA r<|j+1) p);lia
  .intro h;unfold yy at h1 h2 h3;exact⟨(AA r j).2-(AA r<|j+1).2,0,(AA r j).2-p.2,J,J,J,J,J,z9,by unfold AH at h;grind⟩
 unfold fw;by_cases h1:yy r j<=p.2/\p.2<yy r (j+1)
 .rw[E2 h1.1 h1.2,AAG (show ¬ ((AA r<|j+1).2<=p.2/\p.2<(AA r j).2/\AH (AA r j) (AA r<|j+1) p<0)by unfold yy at h1;lia)];by_cases hs:AH (AA r j) (AA r<|j+1) p>0
  .rw[AAH ⟨h1.1,h1.2,hs⟩,Ay<|(up J J J).mpr hs];rfl
  .rw[AAG λc=>hs c.2.2,Ai λc=>hs<|(up J J J).mp c];rfl
 .by_cases h2:yy r (j+1)<=p.2/\p.2<yy r j
  .rw[E1 h2.1 h2.2,AAG (show ¬ ((AA r j).2<=p.2/\p.2<(AA r<|j+1).2/\AH (AA r j) (AA r<|j+1) p>0)by unfold yy at h2;lia)];by_cases hs:AH (AA r j) (AA r<|j+1) p<0
   .rw[AAH ⟨h2.1,h2.2,hs⟩,Ay<|(dn J J J).mpr hs];rfl
   .rw[AAG λc=>hs c.2.2,Ai λc=>hs<|(dn J J J).mp c];rfl
  .have:AK r p.2 j=0:=by unfold AK;rw[AAG h1,AAG h2]
   rw[this,AAG λc=>h1 ⟨c.1,c.2.1⟩,AAG λc=>h2 ⟨c.1,c.2.1⟩];lia
section
variable{r:List Pt}(S:A3 r){p:Pt}(hp:∀j:Int,¬ At (AA r j) (AA r (j+1)) p)
include S hp
theorem A3.w5{e j:Int}(he:AK r p.2 e≠0)(hj:AK r p.2 j≠0)(h1:Lt p p (AA r e)<|AA r<|e+1)(h2:L r e j):Lt p p (AA r j)<|AA r<|j+1:=by
 have Aq:(e-j)%(r.length:Int)≠0:=λc=>by
  rw[Gr (i:=e) (i':=e) AAB<|CD c]at h2;exact E7 r e (by have:=Cz he;show yy r e≠yy r (e+1);lia) h2
 have rj:=Cz hj;obtain⟨q,s,hq,s0,s1,ey,_,_⟩:=LA (a:=AA r j) (b:=AA r<|j+1) (h:=p.2) (by show yy r j≠yy r (j+1);lia) (by unfold yy at rj;lia);rcases AAv (q*p.1) (q*(AA r j).1+s*((AA r<|j+1).1-(AA r j).1))with hl|hx|hg
 .exact⟨q,0,s,hq,J,J,s0,s1,by rw[ey];lia,J⟩
 .exact absurd ⟨q,s,hq,s0,s1,z9,z9⟩ (hp j)
 .exfalso;obtain⟨q',s',t',Kr,_,_,t0,t1,zE,l'⟩:=h1;have ic:q'*(AA r e).2+t'*((AA r<|e+1).2-(AA r e).2)=q'*p.2:=z9
  have l2:q'*p.1<q'*(AA r e).1+t'*((AA r<|e+1).1-(AA r e).1):=z9
  have m1:=ABu hg Kr;have m2:=ABu l2 hq;refine S.nc Aq h2 ⟨q*q',s*q',t'*q,AAN hq Kr,AAK s0<|AAI Kr,AAb s1<|AAI Kr,AAK t0<|AAI hq,by rw[AB6 q];exact AAb t1<|AAI hq,?_,?_⟩
  .have a1:q*q'*(AA r j).2+s*q'*((AA r<|j+1).2-(AA r j).2)=q'*(q*(AA r j).2+s*((AA r<|j+1).2-(AA r j).2)):=z9
   have a2:q*q'*(AA r e).2+t'*q*((AA r<|e+1).2-(AA r e).2)=q*(q'*(AA r e).2+t'*((AA r<|e+1).2-(AA r e).2)):=z9
   rw[a1,a2,ey,ic];grind
  .lia
theorem A3.once:W r p=0\/∃e:Int,AK r p.2 e≠0/\((yy r e<yy r (e+1)/\W r p=cc r p.2 e)\/(yy r (e+1)<yy r e/\W r p=cc r p.2 e-1)):=by
 have hW:W r p=AW (λj=>AK r p.2 j*ind (Lt p p (AA r j)<|AA r<|j+1)) r.length:=Bw λj _=>Xb;by_cases hex:∃j:Nat,j<r.length/\(AK r p.2 (j:Int)≠0/\Lt p p (AA r (j:Int)) (AA r<|(j:Int)+1))
 .right;obtain⟨e,he,⟨ce,le⟩,hm⟩:=OD (C:=λm=>AK r p.2 (m:Int)≠0/\Lt p p (AA r (m:Int)) (AA r<|(m:Int)+1)) (N:=λm=>- kN r p.2 (m:Int)) (D:=λm=>kD r p.2 (m:Int)) (λm hm=>(O2 hm.1).1) r.length hex;have re:=Cz ce;have Su:=E7 r (e:Int) (by show yy r e≠yy r (e+1);lia);have key:∀m:Nat,m<r.length->AK r p.2 (m:Int)*ind (Lt p p (AA r (m:Int))<|AA r<|(m:Int)+1)=ind (L r (e:Int) (m:Int))*AK r p.2 (m:Int)+AK r p.2 (m:Int)*ind (m=e):=λm CK=>by
   by_cases hs:AK r p.2 (m:Int)=0
   .rw[hs];lia
   .by_cases Fj:m=e
    .subst Fj;rw[Ay le,Ai Su,Ay rfl];lia
    .rw[Ai Fj];have Je:((e:Int)-m)%(r.length:Int)≠0:=λc=>by
      rcases ABW (e:Int) m with z|z
      .have c':=CD c;rw[AAF J J]at c';lia
      .rw[AAF J J]at c;lia
     by_cases hl:L r (e:Int) (m:Int)
     .rw[Ay hl,Ay<|S.w5 hp ce hs le hl];lia
     .have Ic:L r (m:Int) (e:Int):=by
       rcases S.JA Je ce hs with z|z
       .exact absurd z hl
       .exact z
      have hn:¬ Lt p p (AA r (m:Int)) (AA r<|(m:Int)+1):=λc=>by
       have k1:=S.Yo (λz=>Je<|CD z) hs ce Ic;have k2:=hm m CK ⟨hs,c⟩;rw[AC3,AC3]at k2;lia
      rw[Ai hl,Ai hn];lia
  have Oj:W r p=Rr r p.2 e+AK r p.2 e:=by
   rw[hW,Bw (g:=λj=>ind (L r (e:Int) j)*AK r p.2 j+AK r p.2 j*ind (j=(e:Int))) λm CK=>by
    rw[key m CK]
    congr 2
    by_cases h:m=e
    .rw[Ay h,Ay J]
    .rw[Ai h,Ai J]]
   rw[EK (λj=>ind (L r (e:Int) j)*AK r p.2 j) λj=>AK r p.2 j*ind (j=(e:Int))];rw[ND (d:=e) (f:=λj=>AK r p.2 j*ind (j=(e:Int))) he λm _ Aq=>by rw[Ai J];lia];rw[Ay rfl,AEA]
   rfl
  refine⟨e,ce,?_⟩;unfold cc;rcases re with z|z
  .rw[E2 z.1 z.2]at Oj;exact .inl ⟨J,by rw[Ay J];lia⟩
  .rw[E1 z.1 z.2]at Oj;exact .inr ⟨J,by rw[Ai J];lia⟩
 .left;rw[hW];refine J3 λm hm=>?_;by_cases hs:AK r p.2 (m:Int)=0
  .lia
  .rw[Ai λc=>hex ⟨m,hm,hs,c⟩];lia
theorem A3.dM : -1<=W r p/\W r p<=1:=by
 rcases S.once hp with h|⟨e,he,h|h⟩
 .lia
 .have:=S.Lq he;lia
 .have:=S.Lq he;lia
end
theorem Ua(f:Int->Int->Int)(n:Nat):∀m:Nat,AW (λi=>AW (λj=>f i j) n) m=AW (λj=>AW (λi=>f i j) m) n
 |0=>(J3 λ_ _=>rfl).symm
 |m+1=>by
  rw[AW,Ua f n m];have:=EK (λj=>AW (λi=>f i j) m) (λj=>f m j) n;exact this.symm
theorem UY{f:Int->Int}:∀{n:Nat},(∀i:Nat,i<n->f i<=0)->AW f n<=0
 |0,_=>ABT _
 |n+1,h=>by
  have:=UY (f:=f) (n:=n) λi hi=>h i J;have:=h n J;rw[AW];lia
theorem steps(A x:Int):∀m:Nat,A<=x->x<=A+m->x=A+AW (λt=>ind<|x>A+t) m
 |0,h1,h2=>by simp[AW];lia
 |m+1,h1,h2=>by
  rw[AW];by_cases h:x<=A+m
  .have:=steps A x m h1 h;rw[Ai (J:¬ x>A+(m:Int))];lia
  .rw[Ay (J:x>A+(m:Int))];have:AW (λt=>ind<|x>A+t) m=m:=by
    have Bf:∀k:Nat,k<=m->AW (λt=>ind<|x>A+t) k=k:=by
     intro k
     induction k with
     |zero=>intro _;rfl
     |succ k ih=>
      intro hk;rw[AW,ih J,Ay (J:x>A+(k:Int))];lia
    exact Bf m<|AAS _
   rw[this];lia
theorem dS{n m:Nat}{s x:Int->Int}{A:Int}(hx:∀j:Nat,j<n->s j≠0->A<=x j/\x j<=A+m)(h0:AW s n=0)(hw:∀t:Int,AW (λj=>s j*ind (x j>t)) n<=0):AW (λj=>s j*x j) n<=0:=by
 have e1:AW (λj=>s j*x j) n=AW (λj=>A*s j+AW (λt=>s j*ind (x j>A+t)) m) n:=Bw λj hj=>by
  by_cases hs:s j=0
  .rw[hs,J3 λt _=>J];lia
  .have:=steps A (x j) m (hx j hj hs).1 (hx j hj hs).2;rw[NC (s j) λt=>ind<|x j>A+t];generalize AW (λt=>ind<|x j>A+t) m=z at *
   rw[this];grind
 rw[e1,EK (λj=>A*s j) λj=>AW (λt=>s j*ind (x j>A+t)) m,NC A s,h0];have e2:=Ua (λt j=>s j*ind (x j>A+t)) n m;rw[<-e2];have:=UY (f:=λt=>AW (λj=>s j*ind (x j>A+t)) n) (n:=m) λt _=>hw<|A+t;lia
noncomputable def Ju(f:Nat->Int):Nat->Int
 |0=>1
 |n+1=>Ju f n*f n
theorem Zv{f:Nat->Int}:∀{n:Nat},(∀i,i<n->0<f i)->0<Ju f n
 |0,_=>by show(0:Int)<1;decide
 |n+1,h=>AAN (Zv λi hi=>h i J)<|h n J
theorem Zu{f:Nat->Int}{j:Nat}:∀{n:Nat},j<n->(∀i,i<n->0<f i)->∃k,0<k/\Ju f n=f j*k
 |0,h,_=>J
 |n+1,h,hp=>by
  by_cases hj:j=n
  .subst hj;exact⟨Ju f j,Zv λi hi=>hp i J,by rw[Ju,AB6]⟩
  .obtain⟨k,hk,e⟩:=Zu (j:=j) (n:=n) J λi hi=>hp i J
   exact⟨k*f n,AAN hk<|hp n J,by rw[Ju,e,Int.mul_assoc]⟩
def eD(r:List Pt)(j:Int):Int:=if yy r j<yy r (j+1)then 2*(yy r (j+1)-yy r j)else if yy r (j+1)<yy r j then 2*(yy r j-yy r (j+1))else 1
def eS(r:List Pt)(h j:Int):Int:=if yy r j<yy r (j+1)then 2*h+1-2*yy r j else 2*yy r j-(2*h+1)
def eN(r:List Pt)(h j:Int):Int:=eD r j*(AA r j).1+eS r h j*((AA r<|j+1).1-(AA r j).1)
theorem N1(r:List Pt)(j:Int):0<eD r j:=by
 unfold eD;split
 .lia
 .split<;>lia
theorem Ws{r:List Pt}{h j:Int}(hs:AK r h j≠0):0<eD r j/\0<eS r h j/\eS r h j<eD r j/\2*(eD r j*(AA r j).2+eS r h j*((AA r<|j+1).2-(AA r j).2))=eD r j*(2*h+1):=by
 have rs:=Cz hs;unfold eD eS;rcases rs with z|z
 .rw[AAH J,AAH J];unfold yy at *
  refine⟨J,J,J,z9⟩
 .rw[AAG J,AAH J,AAG J];unfold yy at *
  refine⟨J,J,J,z9⟩
def Hy(r:List Pt):Int:=Ju (λj=>eD r (j:Int)) r.length
theorem XD(r:List Pt)(j:Nat):∃k,j<r.length->0<k/\Hy r=eD r (j:Int)*k:=by
 by_cases h:j<r.length
 .obtain⟨k,a,b⟩:=Zu (f:=λj=>eD r (j:Int)) h λi _=>N1 r i
  exact⟨k,λ_=>⟨a,b⟩⟩
 .exact⟨0,λc=>absurd c h⟩
noncomputable def kj(r:List Pt)(j:Nat):Int:=choose<|XD r j
theorem O4{r:List Pt}{j:Nat}(h:j<r.length):0<kj r j/\Hy r=eD r (j:Int)*kj r j:=choose_spec (XD r j) h
def xk(r:List Pt)(h:Int)(j:Nat):Int:=kj r j*eN r h (j:Int)
section
variable{r:List Pt}(S:A3 r)
include S
theorem A3.half_lt{h i j:Int}(Aq:(i-j)%(r.length:Int)≠0)(hi:AK r h i≠0)(hj:AK r h j≠0)(hL:L r i j):eN r h i*eD r j<eN r h j*eD r i:=by
 obtain⟨p1,p2,p3,e1⟩:=Ws hi;obtain⟨p4,p5,p6,e2⟩:=Ws hj;have m1:=AAN p1 p4;have m2:=AAN p2 p4;have m3:=AAN p5 p1;have m4:eS r h i*eD r j<eD r i*eD r j:=ABa p3 p4;have m5:eS r h j*eD r i<eD r i*eD r j:=by rw[AB6<|eD r i];exact ABa p6 p1
 have ey:eD r i*eD r j*(AA r i).2+eS r h i*eD r j*((AA r<|i+1).2-(AA r i).2)=eD r i*eD r j*(AA r j).2+eS r h j*eD r i*((AA r<|j+1).2-(AA r j).2):=by
  have f1:2*(eD r i*eD r j*(AA r i).2+eS r h i*eD r j*((AA r<|i+1).2-(AA r i).2))=eD r j*(2*(eD r i*(AA r i).2+eS r h i*((AA r<|i+1).2-(AA r i).2))):=z9
  have f2:2*(eD r i*eD r j*(AA r j).2+eS r h j*eD r i*((AA r<|j+1).2-(AA r j).2))=eD r i*(2*(eD r j*(AA r j).2+eS r h j*((AA r<|j+1).2-(AA r j).2))):=z9
  rw[e1]at f1;rw[e2]at f2;lia
 have n1:eN r h i*eD r j=eD r i*eD r j*(AA r i).1+eS r h i*eD r j*((AA r<|i+1).1-(AA r i).1):=by unfold eN;grind
 have n2:eN r h j*eD r i=eD r i*eD r j*(AA r j).1+eS r h j*eD r i*((AA r<|j+1).1-(AA r j).1):=by unfold eN;grind
 rw[n1,n2];rcases AAv (eD r i*eD r j*(AA r i).1+eS r h i*eD r j*((AA r<|i+1).1-(AA r i).1)) (eD r i*eD r j*(AA r j).1+eS r h j*eD r i*((AA r<|j+1).1-(AA r j).1))with hl|he|hg
 .exact hl
 .rcases S.share Aq m1 J J J J he ey with⟨_,z,_⟩|⟨_,z,_⟩<;>lia
 .exact absurd (show L r j i from⟨_,_,_,m1,J,J,J,J,ey.symm,hg⟩) (S.nc Aq hL)
theorem A3.cK{h:Int}{i j:Nat}(CQ:i<r.length)(CJ:j<r.length)(Br:i≠j)(hi:AK r h (i:Int)≠0)(hj:AK r h (j:Int)≠0)(hL:L r (i:Int) (j:Int)):xk r h i<xk r h j:=by
 have Aq:((i:Int)-j)%(r.length:Int)≠0:=λc=>by
  rcases ABW (i:Int) j with z|z
  .have c':=CD c;rw[AAF J J]at c';lia
  .rw[AAF J J]at c;lia
 have k:=S.half_lt Aq hi hj hL;obtain⟨a1,a2⟩:=O4 CQ;obtain⟨b1,b2⟩:=O4 CJ;have d1:=N1 r (i:Int);have d2:=N1 r (j:Int);have hK:0<Hy r:=by rw[a2];exact AAN d1 a1
 have m:=ABu k hK;have e1:Hy r*(eN r h i*eD r j)=(eD r i*eD r j)*xk r h i:=by rw[a2];unfold xk;grind
 have e2:Hy r*(eN r h j*eD r i)=(eD r i*eD r j)*xk r h j:=by rw[b2];unfold xk;grind
 rw[e1,e2]at m;exact ACm m<|AAI<|AAN d1 d2
theorem uv(r:List Pt)(h j:Int):AK r h j=ind (yy r j<=h)-ind (yy r (j+1)<=h):=by
 unfold AK ind;generalize yy r (j+1)=b
 (repeat' split)<;>lia
theorem A3.mU{h:Int}(hc:∀j:Int,AK r h j≠0->cc r h j=0):AW (λj=>AK r h j*xk r h j.toNat) r.length<=0:=by
 have h0:AW (AK r h) r.length=0:=by
  have ht:=Hi (λj=>- ind (yy r j<=h)) r.length;have hy:yy r (r.length:Int)=yy r 0:=Ci AAB;rw[hy]at ht;rw[Bw (g:=λj=>- ind (yy r (j+1)<=h) - - ind (yy r j<=h)) λj _=>by rw[uv S];lia,ht];lia
 obtain⟨A,m,hb⟩:∃(A:Int)(m:Nat),∀j:Nat,j<r.length->A<=xk r h j/\xk r h j<=A+m:=by
  have:∀n:Nat,∃b:Int,0<=b/\∀j:Nat,j<n->-b<=xk r h j/\xk r h j<=b:=by
   intro n
   induction n with
   |zero=>exact⟨0,J,λj hj=>J⟩
   |succ n ih=>
    obtain⟨b,b0,hb⟩:=ih;refine⟨b+(xk r h n).natAbs,J,λj hj=>?_⟩;by_cases FG:j=n
    .subst FG;lia
    .have:=hb j J;lia
  obtain⟨b,b0,hb⟩:=this r.length;exact⟨-b,(2*b).toNat,λj hj=>by have:=hb j hj;lia⟩
 refine dS (x:=λj=>xk r h j.toNat) (A:=A) (m:=m) (λj hj _=>by exact hb j hj) h0 λt=>?_;by_cases hex:∃j:Nat,j<r.length/\(AK r h (j:Int)≠0/\xk r h j>t)
 .obtain⟨e,he,⟨ce,le⟩,hm⟩:=OD (C:=λm=>AK r h (m:Int)≠0/\xk r h m>t) (N:=λm=>- xk r h m) (D:=λ_=>1) (λ_ _=>AAC) r.length hex;have re:=Cz ce;have Su:=E7 r (e:Int) (by show yy r e≠yy r (e+1);lia);have key:∀m:Nat,m<r.length->AK r h (m:Int)*ind (xk r h ((m:Int)).toNat>t)=ind (L r (e:Int) (m:Int))*AK r h (m:Int)+AK r h (m:Int)*ind ((m:Int)=(e:Int)):=λm CK=>by
   rw[ADK];by_cases hs:AK r h (m:Int)=0
   .rw[hs];lia
   .by_cases Fj:m=e
    .subst Fj;rw[Ay le,Ai Su,Ay rfl];lia
    .rw[Ai (J:¬ (m:Int)=(e:Int))];have Je:((e:Int)-m)%(r.length:Int)≠0:=λc=>by
      rcases ABW (e:Int) m with z|z
      .have c':=CD c;rw[AAF J J]at c';lia
      .rw[AAF J J]at c;lia
     by_cases hl:L r (e:Int) (m:Int)
     .have:=S.cK he CK (λz=>Fj z.symm) ce hs hl;rw[Ay hl,Ay (J:xk r h m>t)];lia
     .have Ic:L r (m:Int) (e:Int):=by
       rcases S.JA Je ce hs with z|z
       .exact absurd z hl
       .exact z
      have k1:=S.cK CK he Fj hs ce Ic;have hn:¬ xk r h m>t:=λc=>by
       have k2:=hm m CK ⟨hs,c⟩;lia
      rw[Ai hl,Ai hn];lia
  have Oj:AW (λj=>AK r h j*ind (xk r h j.toNat>t)) r.length=Rr r h e+AK r h e:=by
   rw[Bw (g:=λj=>ind (L r (e:Int) j)*AK r h j+AK r h j*ind (j=(e:Int))) λm CK=>key m CK];rw[EK (λj=>ind (L r (e:Int) j)*AK r h j) λj=>AK r h j*ind (j=(e:Int))];rw[ND (d:=e) (f:=λj=>AK r h j*ind (j=(e:Int))) he λm _ Aq=>by rw[Ai J];lia];rw[Ay rfl,AEA]
   rfl
  have EU:=hc e ce;unfold cc at EU;rw[Oj];rcases re with z|z
  .rw[E2 z.1 z.2];rw[Ay J]at EU;lia
  .rw[E1 z.1 z.2];rw[Ai J]at EU;lia
 .refine ACt<|J3 λm hm=>?_;rw[ADK];by_cases hs:AK r h (m:Int)=0
  .lia
  .rw[Ai λc=>hex ⟨m,hm,hs,c⟩];lia
end
theorem iF{r:List Pt}{j:Nat}(hj:j<r.length){lo:Int}(OW:lo<=yy r j/\lo<=yy r (j+1)):∀m:Nat,∃k:Int,(yy r (j:Int)<yy r (j+1)->k=min (max (lo+m-yy r j) 0) (yy r (j+1)-yy r j))/\(yy r ((j:Int)+1)<yy r j->k=min (max (lo+m-yy r (j+1)) 0) (yy r j-yy r (j+1)))/\(yy r (j:Int)<yy r (j+1)->AW (λt=>AK r (lo+t) j*xk r (lo+t) j) m=kj r j*(2*(yy r (j+1)-yy r j)*(AA r j).1*k+k*k*((AA r<|j+1).1-(AA r j).1)))/\
 (yy r ((j:Int)+1)<yy r j->AW (λt=>AK r (lo+t) j*xk r (lo+t) j) m = - (kj r j*(2*(yy r j-yy r (j+1))*(AA r j).1*k+(2*(yy r j-yy r (j+1))*k-k*k)*((AA r<|j+1).1-(AA r j).1))))/\
 (yy r (j:Int)=yy r (j+1)->AW (λt=>AK r (lo+t) j*xk r (lo+t) j) m=0):=by
 intro m
 induction m with
 |zero=>
  refine⟨0,λ_=>J,λ_=>J,λ_=>?_,λ_=>?_,λ_=>rfl⟩
  .show(0:Int)=_;grind
  .show(0:Int)=_;grind
 |succ m ih=>
  obtain⟨k,k1,k2,e1,e2,e3⟩:=ih;rcases AAv (yy r (j:Int)) (yy r<|j+1)with hl|he|hg
  .have e1:=e1 hl;refine⟨min (max (lo+((m+1:Nat):Int)-yy r j) 0)<|yy r (j+1)-yy r j,λ_=>rfl,λz=>J,λ_=>?_,λz=>J,λz=>J⟩;rw[AW,e1];by_cases hc:yy r (j:Int)<=lo+m/\lo+m<yy r (j+1)
   .rw[E2 hc.1 hc.2,show min (max (lo+((m+1:Nat):Int)-yy r j) 0) (yy r (j+1)-yy r j)=k+1 by lia];have hx:xk r (lo+m) j=kj r j*(2*(yy r (j+1)-yy r j)*(AA r j).1+(2*k+1)*((AA r<|j+1).1-(AA r j).1)):=by
     unfold xk eN eD eS;rw[AAH hl,AAH hl]
     congr 3;lia
    grind
   .have:AK r (lo+m) j=0:=by unfold AK;rw[AAG hc,AAG J]
    rw[this,show min (max (lo+((m+1:Nat):Int)-yy r j) 0) (yy r (j+1)-yy r j)=k by lia];lia
  .refine⟨0,λz=>J,λz=>J,λz=>J,λz=>J,λ_=>?_⟩;rw[AW,e3 he];have:AK r (lo+m) j=0:=by unfold AK;rw[AAG J,AAG J]
   lia
  .have e2:=e2 hg;refine⟨min (max (lo+((m+1:Nat):Int)-yy r (j+1)) 0)<|yy r j-yy r (j+1),λz=>J,λ_=>rfl,λz=>J,λ_=>?_,λz=>J⟩;rw[AW,e2];by_cases hc:yy r ((j:Int)+1)<=lo+m/\lo+m<yy r j
   .rw[E1 hc.1 hc.2,show min (max (lo+((m+1:Nat):Int)-yy r (j+1)) 0) (yy r j-yy r (j+1))=k+1 by lia];have hx:xk r (lo+m) j=kj r j*(2*(yy r j-yy r (j+1))*(AA r j).1+(2*(yy r j-yy r (j+1))-(2*k+1))*((AA r<|j+1).1-(AA r j).1)):=by
     unfold xk eN eD eS;rw[AAG J,AAH hg,AAG J]
     congr 3;lia
    rw[hx];grind
   .have:AK r (lo+m) j=0:=by unfold AK;rw[AAG J,AAG hc]
    rw[this,show min (max (lo+((m+1:Nat):Int)-yy r (j+1)) 0) (yy r j-yy r (j+1))=k by lia];lia
theorem iG{r:List Pt}{j:Nat}(hj:j<r.length){lo:Int}{m:Nat}(h1:lo<=yy r j/\lo<=yy r (j+1))(h2:yy r j<=lo+m/\yy r (j+1)<=lo+m):2*AW (λt=>AK r (lo+t) j*xk r (lo+t) j) m=Hy r*(((AA r j).1+(AA r<|j+1).1)*(yy r (j+1)-yy r j)):=by
 obtain⟨k,k1,k2,e1,e2,e3⟩:=iF hj h1 m;obtain⟨a1,a2⟩:=O4 hj;rcases AAv (yy r (j:Int)) (yy r<|j+1)with hl|he|hg
 .have hk:k=yy r (j+1)-yy r j:=J
  rw[e1 hl,a2,hk];unfold eD;rw[AAH hl];grind
 .rw[e3 he,he];grind
 .have hk:k=yy r j-yy r (j+1):=J
  rw[e2 hg,a2,hk];unfold eD;rw[AAG J,AAH hg];grind
theorem df(r:List Pt):DG r=AW (λj=>((AA r j).1+(AA r<|j+1).1)*(yy r (j+1)-yy r j)) r.length:=by
 rw[Lm];have h1:AW (GG r) r.length=AW (λj=>((AA r j).1+(AA r<|j+1).1)*(yy r (j+1)-yy r j)+(- ((AA r<|j+1).1*(AA r<|j+1).2) - - ((AA r j).1*(AA r j).2))) r.length:=Bw λi _=>by
  unfold GG B8 yy;grind
 rw[h1,EK (λj=>((AA r j).1+(AA r<|j+1).1)*(yy r (j+1)-yy r j)) λj=>- ((AA r<|j+1).1*(AA r<|j+1).2) - - ((AA r j).1*(AA r j).2)];have h2:=Hi (λk=>- ((AA r k).1*(AA r k).2)) r.length;have h3:AA r ((r.length:Nat):Int)=AA r 0:=Aw AAB;rw[h2,h3];lia
theorem Rm.Vs{r:List Pt}(R:Rm r){h j:Int}(hj:AK r h j≠0):cc r h j=1:=by
 have S:=R.simple;have h3:=R.l3;rcases S.Lq hj with c|c
 .have Bf:∀(H:Int)(i:Int),AK r H i≠0->cc r H i=0:=λH i hi=>by rw[S.Nr hi hj];exact c
  obtain⟨lo,m,hb⟩:∃(lo:Int)(m:Nat),∀j:Nat,j<=r.length->lo<=yy r j/\yy r j<=lo+m:=by
   have:∀n:Nat,∃b:Int,0<=b/\∀j:Nat,j<n->-b<=yy r j/\yy r j<=b:=by
    intro n
    induction n with
    |zero=>exact⟨0,J,λj hj=>J⟩
    |succ n ih=>
     obtain⟨b,b0,hb⟩:=ih;refine⟨b+(yy r n).natAbs,J,λj hj=>?_⟩;by_cases FG:j=n
     .subst FG;lia
     .have:=hb j J;lia
   obtain⟨b,b0,hb⟩:=this<|r.length+1;exact⟨-b,(2*b).toNat,λj hj=>by have:=hb j J;lia⟩
  have e1:Hy r*DG r=2*AW (λt=>AW (λj=>AK r (lo+t) j*xk r (lo+t) j.toNat) r.length) m:=by
   rw[Ua (λt j=>AK r (lo+t) j*xk r (lo+t) j.toNat) r.length m,df,<-NC,<-NC];refine Bw λi hi=>?_;have b1:=hb i J;have b2:=hb (i+1) J;exact(iG hi ⟨b1.1,b2.1⟩ ⟨b1.2,b2.2⟩).symm
  have e2:=UY (f:=λt=>AW (λj=>AK r (lo+t) j*xk r (lo+t) j.toNat) r.length) (n:=m) λt _=>S.mU (h:=lo+t)<|Bf<|lo+t;have hK:0<Hy r:=by
   obtain⟨a1,a2⟩:=O4 (r:=r) (j:=0) J;rw[a2];exact AAN (N1 _ _) a1
  have:=AAN hK R.JM;lia
 .exact c
theorem LN{Z:Int}(h:0<Z):(if ¬Z<=0 then(1:Int)else 0)=1/\(if ¬0<=Z then(1:Int)else 0)=0:=⟨AAH<|AA7.mpr h,AAG λz=>z<|AAI h⟩
theorem LM{Z:Int}(h:Z<0):(if ¬Z<=0 then(1:Int)else 0)=0/\(if ¬0<=Z then(1:Int)else 0)=1:=⟨AAG λz=>z<|AAI h,AAH<|AA7.mpr h⟩
theorem bK{p q:Int}(hq:q<0\/0<q)(h:p*q=0):p=0:=by
 rcases AAM.mp h with z|z
 .exact z
 .omega
theorem wj{ua ub va vb Z P Q:Int}(hZ:Z=P-Q)(hP:P=va*ub)(hQ:Q=ua*vb)(hE:¬ (Z=0/\((ua<=0/\0<=ub)\/(ub<=0/\0<=ua))/\((va<=0/\0<=vb)\/(vb<=0/\0<=va)))) : ((if va<=0/\0<vb/\Z>0 then(1:Int)else 0)-(if vb<=0/\0<va/\Z<0 then 1 else 0))-((if ua<=0/\0<ub/\Z>0 then 1 else 0)-(if ub<=0/\0<ua/\Z<0 then 1 else 0)) = (if ub<=0/\0<vb then 1 else 0)-(if ua<=0/\0<va then 1 else 0):=by
 simp only[<-AA7,gt_iff_lt];by_cases a:ua<=0<;>by_cases b:ub<=0<;>by_cases c:va<=0<;>by_cases d:vb<=0<;>simp only[a,b,c,d,not_true,not_false_iff,true_and,false_and,ACV,AB0,and_true,and_false,ABf,ACJ,Int.zero_sub,Int.neg_zero]
 .have h1:=ABB c b;have h2:=ABU a<|AAI<|AA7.mp d;have h3:Z≠0:=λz=>hE ⟨z,.inr ⟨b,ACt (bK (.inr<|AA7.mp d) AAA).symm⟩,.inl ⟨c,AAA⟩⟩;exact(LN AAA).1
 .have h1:=AAQ (AAI<|AA7.mp c) b;have h2:=ABB a d;have h3:Z≠0:=λz=>hE ⟨z,.inl ⟨a,ACt (bK (q:=va) (.inr<|AA7.mp c) (by rw[AB6];omega)).symm⟩,.inr ⟨d,AAA⟩⟩;rw[(LM (Z:=Z) AAA).2]
 .have h1:=ABU c<|AAI<|AA7.mp b;have h2:=ABB a d;rw[AAG λz=>z AAA];rfl
 .rcases AAv Z 0 with z|z|z
  .rw[(LM z).1,(LM z).2];rfl
  .exact absurd ⟨z,.inl ⟨a,AAA⟩,.inr ⟨d,AAA⟩⟩ hE
  .rw[(LN z).1,(LN z).2];rfl
 .have h1:=AAN (AA7.mp c)<|AA7.mp b;have h2:=ABU a<|AAI<|AA7.mp d;rw[(LN (Z:=Z) AAA).1]
 .have h1:=ABB c b;have h2:=AAQ (AAI<|AA7.mp a) d;rw[AAG λz=>z AAA];rfl
 .rcases AAv Z 0 with z|z|z
  .rw[(LM z).1,(LM z).2];rfl
  .exact absurd ⟨z,.inr ⟨b,AAA⟩,.inl ⟨c,AAA⟩⟩ hE
  .rw[(LN z).1,(LN z).2];rfl
 .have h1:=AAQ (AAI<|AA7.mp c) b;have h2:=AAN (AA7.mp a)<|AA7.mp d;rw[(LM (Z:=Z) AAA).2];rfl
 .have h1:=ABU c<|AAI<|AA7.mp b;have h2:=AAN (AA7.mp a)<|AA7.mp d;rw[AAG λz=>z AAA]
 .have h1:=AAN (AA7.mp c)<|AA7.mp b;have h2:=AAQ (AAI<|AA7.mp a) d;rw[AAG λz=>z AAA];rfl
noncomputable def lean(k:Int)(p:Pt):Pt:=(p.1,p.2+k*p.1)
theorem M8(k:Int)(a b c:Pt):AH (lean k a) (lean k b) (lean k c)=AH a b c:=by unfold AH lean;grind
theorem dj{k:Int}{a b p:Pt}(hk:0<k)(h0:AH a b p=0)(hu:(a.2-p.2<=0/\0<=b.2-p.2)\/(b.2-p.2<=0/\0<=a.2-p.2))(hv:((a.2-p.2)+k*(a.1-p.1)<=0/\0<=(b.2-p.2)+k*(b.1-p.1))\/((b.2-p.2)+k*(b.1-p.1)<=0/\0<=(a.2-p.2)+k*(a.1-p.1))):At a b p:=by
 have hs:(a.1-p.1)*(b.2-p.2)=(a.2-p.2)*(b.1-p.1):=by unfold AH at h0;grind
 by_cases Aq:a.2=b.2
 .have ha:a.2-p.2=0:=J
  have hb:b.2-p.2=0:=J
  rw[ha,hb,ABI,ABI]at hv;have key:∀x:Int,(k*x<=0->x<=0)/\(0<=k*x->0<=x):=λx=>by
   constructor
   .intro h;by_cases c:x<=0
    .exact c
    .have:=AAN hk (J:0<x);lia
   .intro h;by_cases c:0<=x
    .exact c
    .have:=ACE hk (J:x<0);lia
  have hx:(a.1-p.1<=0/\0<=b.1-p.1)\/(b.1-p.1<=0/\0<=a.1-p.1):=by
   rcases hv with⟨z1,z2⟩|⟨z1,z2⟩
   .exact .inl ⟨(key _).1 z1,(key _).2 z2⟩
   .exact .inr ⟨(key _).1 z1,(key _).2 z2⟩
  exact KS ⟨h0,J,J⟩
 .rcases AAk Aq with hl|hl
  .exact⟨b.2-a.2,p.2-a.2,J,J,J,z9,z9⟩
  .exact⟨a.2-b.2,a.2-p.2,J,J,J,z9,z9⟩
theorem jD{k:Int}(hk:0<k){a b p:Pt}(hp:¬ At a b p):fw (lean k a) (lean k b) (lean k p)-fw a b p = (if b.2-p.2<=0/\0<(b.2-p.2)+k*(b.1-p.1)then 1 else 0)-(if a.2-p.2<=0/\0<(a.2-p.2)+k*(a.1-p.1)then 1 else 0):=by
 have e:k*AH a b p=((a.2-p.2)+k*(a.1-p.1))*(b.2-p.2)-(a.2-p.2)*((b.2-p.2)+k*(b.1-p.1)):=by unfold AH;grind
 have t:=wj (ua:=a.2-p.2) (ub:=b.2-p.2) (va:=(a.2-p.2)+k*(a.1-p.1)) (vb:=(b.2-p.2)+k*(b.1-p.1)) (Z:=k*AH a b p) e rfl rfl (by
  rintro⟨z,hu,hv⟩;have:AH a b p=0:=by
   rcases AAM.mp z with h|h
   .lia
   .exact h
  exact hp<|dj hk this hu hv)
 have z1:(k*AH a b p>0)↔AH a b p>0:=by
  constructor
  .intro h;by_cases c:AH a b p>0
   .exact c
   .have:=AAQ (AAI hk) (J:AH a b p<=0);lia
  .exact λh=>AAN hk h
 have z2:(k*AH a b p<0)↔AH a b p<0:=by
  constructor
  .intro h;by_cases c:AH a b p<0
   .exact c
   .have:=AAK (AAI hk) (J:0<=AH a b p);lia
  .exact λh=>ACE hk h
 simp only[z1,z2]at t;rw[<-t];unfold fw;rw[M8];have c1:∀c:Pt,((lean k c).2<=(lean k p).2)↔((c.2-p.2)+k*(c.1-p.1)<=0):=λc=>by unfold lean;rw[ACX];lia
 have c2:∀c:Pt,((lean k p).2<(lean k c).2)↔(0<(c.2-p.2)+k*(c.1-p.1)):=λc=>by unfold lean;rw[ACX];lia
 have c3:∀c:Pt,(c.2<=p.2)↔(c.2-p.2<=0):=λc=>J
 have c4:∀c:Pt,(p.2<c.2)↔(0<c.2-p.2):=λc=>J
 simp only[c1,c2,c3,c4]
theorem Kc{r:List Pt}(h:0<r.length)(k i:Int):AA (r.map<|lean k) i=lean k (AA r i):=DA h i
theorem dN{r:List Pt}(h:0<r.length){k:Int}(hk:0<k){p:Pt}(hp:∀j:Int,¬ At (AA r j) (AA r<|j+1) p):W (r.map<|lean k) (lean k p)=W r p:=by
 unfold W;rw[AAO];rw[Bw (g:=λj=>fw (AA r j) (AA r<|j+1) p+((if(AA r<|j+1).2-p.2<=0/\0<((AA r<|j+1).2-p.2)+k*((AA r<|j+1).1-p.1)then 1 else 0)-(if(AA r j).2-p.2<=0/\0<((AA r j).2-p.2)+k*((AA r j).1-p.1)then 1 else 0))) λj _=>by
  rw[Kc h,Kc h];have:=jD hk<|hp j;lia]
 rw[EK (λj=>fw (AA r j) (AA r<|j+1) p) (λj=>(if(AA r<|j+1).2-p.2<=0/\0<((AA r<|j+1).2-p.2)+k*((AA r<|j+1).1-p.1)then 1 else 0)-(if(AA r j).2-p.2<=0/\0<((AA r j).2-p.2)+k*((AA r j).1-p.1)then 1 else 0))];have ht:=Hi (λj=>(if(AA r j).2-p.2<=0/\0<((AA r j).2-p.2)+k*((AA r j).1-p.1)then(1:Int)else 0)) r.length;have hc:AA r (r.length:Int)=AA r 0:=Aw AAB;rw[hc]at ht;rw[ht];lia
theorem Eu{a b c d:Pt}(h:Lt a b c d):Lt b a c d:=by
 obtain⟨q,s,t,h1,h2,h3,h4,h5,e,l⟩:=h;exact⟨q,q-s,t,h1,J,J,h4,h5,z9,z9⟩
theorem FJ{a b c d:Pt}(h:Lt a b c d):Lt a b d c:=by
 obtain⟨q,s,t,h1,h2,h3,h4,h5,e,l⟩:=h;exact⟨q,s,q-t,h1,h2,h3,J,J,z9,z9⟩
theorem Py{a b c d:Pt}(h:Bl a b c d):Bl b a c d:=by
 obtain⟨q,s,t,h1,h2,h3,h4,h5,e1,e2⟩:=h;exact⟨q,q-s,t,h1,J,J,h4,h5,z9,z9⟩
theorem Ln{a b p:Pt}(h:At a b p):At b a p:=by
 obtain⟨q,s,h1,h2,h3,e1,e2⟩:=h;exact⟨q,q-s,h1,J,J,z9,z9⟩
theorem PM{A X B:Pt}(f:CF A X B)(h1:Lt A B A X):¬ Lt A X A B:=λh2=>by
 obtain⟨q1,s1,t1,q2,s2,t2,x,y,hx,hy,MP,MQ,a1,a2,b1,b2,c1,c2,d1,d2,e0,e1,e2⟩:=TM h1 h2;have n1:=AAK a1<|AAI hy;have n2:=AAK b1<|AAI hx;have n3:=AAK c1<|AAI hy;have n4:=AAK d1<|AAI hx;obtain⟨z1,z2⟩:=f (t1*y+t2*x) (s1*y+s2*x) J J J J;have k1:s1*y=0:=J
 have k2:t1*y=0:=J
 have SY:s1=0:=by
  rcases AAM.mp k1 with h|h<;>lia
 have Fq:t1=0:=by
  rcases AAM.mp k2 with h|h<;>lia
 rw[SY,Fq]at e0;lia
theorem CF.symm{A X B:Pt}(f:CF A X B):CF A B X:=λs t hs ht e1 e2=>(f t s ht hs e1.symm e2.symm).symm
structure Probe(r:List Pt)(i j:Int):Prop where
 Cc:Bs r.length<|i-j
 f1:CF (AA r i) (AA r<|i+1)<|AA r j
 f2:CF (AA r i) (AA r<|i-1)<|AA r j
 f3:CF (AA r j) (AA r<|j+1)<|AA r i
 f4:CF (AA r j) (AA r<|j-1)<|AA r i
 nt:∀k:Int,(i-k)%(r.length:Int)≠0->(i-k)%(r.length:Int)≠1->(j-k)%(r.length:Int)≠0->(j-k)%(r.length:Int)≠1->¬ Bl (AA r i) (AA r j) (AA r k) (AA r<|k+1)
theorem mod_succ{n a b:Int}(hn:1<n)(h:(a-b)%n=0):(a+1-b)%n=1:=by
 rw[show a+1-b=(a-b)+1 by lia,ABX,h,AAF (a:=1) J hn,ABI,AAF J hn]
theorem RZ{n d:Int}(hn:2<=n)(h:Bs n d):d%n≠0/\d%n≠1/\(-d)%n≠0/\(-d)%n≠1:=⟨h.1,h.2.1,(h.neg hn).1,(h.neg hn).2.1⟩
section
variable{r:List Pt}(S:A3 r)
include S
theorem Probe.symm{i j:Int}(p:Probe r i j):Probe r j i:=
 ⟨by have:=p.Cc.neg (by have:=S.l3;lia);rw[show -(i-j)=j-i by lia]at this;exact this,p.f3,p.f4,p.f1,p.f2,λk a b c d h=>p.nt k c d a b<|Py h⟩
theorem A3.distinct{m j:Int}(h0:(m-j)%(r.length:Int)≠0)(h1:(m-j)%(r.length:Int)≠1):AA r m≠AA r j:=λe=>by
 refine S.off h0 h1 (q:=1) (s:=0) J J J ?_ ?_
 .rw[e];lia
 .rw[e];lia
theorem Probe.L4{i j:Int}(p:Probe r i j):CF (AA r i) (AA r<|i+1)<|AA r j:=p.f1
theorem Probe.JW{i j:Int}(p:Probe r i j):CF (AA r i) (AA r<|i-1)<|AA r j:=p.f2
theorem XW(Ck:∀k:Int,AH (AA r k) (AA r<|k+1) (AA r<|k+1+1)≠0){i j:Int}(Cc:Bs r.length<|i-j)(nt:∀k:Int,(i-k)%(r.length:Int)≠0->(i-k)%(r.length:Int)≠1->(j-k)%(r.length:Int)≠0->(j-k)%(r.length:Int)≠1->¬ Bl (AA r i) (AA r j) (AA r k) (AA r<|k+1)):CF (AA r i) (AA r<|i+1)<|AA r j:=by
 have h3:=S.l3;obtain⟨f0,f1,f2,f3⟩:=RZ J Cc;rw[show -(i-j)=j-i by lia]at f2 f3;intro s t hs ht e1 e2;have Jb:AA r j≠AA r i:=S.distinct f2 f3;have hb:=Ck i;have L8:AA r (i+1)≠AA r i:=λc=>hb (by rw[c];unfold AH;grind);by_cases s0:s=0
 .refine⟨s0,?_⟩;by_cases t0:t=0
  .exact t0
  .exfalso;apply Jb;rw[s0,AAw]at e1 e2;have g1:=AAM.mp e1.symm;have g2:=AAM.mp e2.symm;exact ABD J J
 by_cases t0:t=0
 .exfalso;apply L8;rw[t0,AAw]at e1 e2;have g1:=AAM.mp e1;have g2:=AAM.mp e2;exact ABD J J
 exfalso;rcases ABW t s with hle|hle
 .-- Iz next V7 lies on Iz Uv
  have En:At (AA r i) (AA r j)<|AA r<|i+1:=⟨s,t,J,ht,hle,e1,e2⟩;by_cases hj:(j-(i+1))%(r.length:Int)=1
  .have:=(S.next hj).1;apply hb;have hs:=(Ft En).1;rw[this]at hs;have:AH (AA r i) (AA r<|i+1) (AA r<|i+1+1) = - AH (AA r i) (AA r<|i+1+1) (AA r<|i+1):=by unfold AH;grind
   rw[this,hs];rfl
  .refine nt (i+1) (λc=>?_) (λc=>?_) (λc=>?_) hj (Px En)
   .have:(-1:Int)%(r.length:Int)=r.length-1:=by
     rw[show(-1:Int)=(r.length-1)+r.length*(-1)by lia,AA9,AAF J J]
    lia
   .have:(-1:Int)%(r.length:Int)=r.length-1:=by
     rw[show(-1:Int)=(r.length-1)+r.length*(-1)by lia,AA9,AAF J J]
    lia
   .apply f3;have:=mod_succ (n:=(r.length:Int)) J c;rw[show j+1-(i+1)=j-i by lia]at this;exact this
 .-- Iz Cc V7 lies on Iz wall
  exact S.off f2 f3 (q:=t) (s:=s) J hs hle z9 z9
theorem XX(Ck:∀k:Int,AH (AA r k) (AA r<|k+1) (AA r<|k+1+1)≠0){i j:Int}(Cc:Bs r.length<|i-j)(nt:∀k:Int,(i-k)%(r.length:Int)≠0->(i-k)%(r.length:Int)≠1->(j-k)%(r.length:Int)≠0->(j-k)%(r.length:Int)≠1->¬ Bl (AA r i) (AA r j) (AA r k) (AA r<|k+1)):CF (AA r i) (AA r<|i-1)<|AA r j:=by
 have h3:=S.l3;obtain⟨f0,f1,f2,f3⟩:=RZ J Cc;rw[show -(i-j)=j-i by lia]at f2 f3;intro s t hs ht e1 e2;have Jb:AA r j≠AA r i:=S.distinct f2 f3;have hb:AH (AA r<|i-2) (AA r<|i-1) (AA r i)≠0:=by
  have:=Ck<|i-2;rw[show i-2+1=i-1 by lia,show i-1+1=i by lia]at this;exact this
 have L8:AA r (i-1)≠AA r i:=λc=>hb (by rw[c];unfold AH;grind);by_cases s0:s=0
 .refine⟨s0,?_⟩;by_cases t0:t=0
  .exact t0
  .exfalso;apply Jb;rw[s0,AAw]at e1 e2;have g1:=AAM.mp e1.symm;have g2:=AAM.mp e2.symm;exact ABD J J
 by_cases t0:t=0
 .exfalso;apply L8;rw[t0,AAw]at e1 e2;have g1:=AAM.mp e1;have g2:=AAM.mp e2;exact ABD J J
 exfalso;rcases ABW t s with hle|hle
 .have En:At (AA r i) (AA r j)<|AA r<|i-1:=⟨s,t,J,ht,hle,e1,e2⟩;have N0:i-2+1=i-1:=J
  by_cases hj:(j-(i-2))%(r.length:Int)=0
  .have:=Aw hj;apply hb;have hs:=(Ft En).1;rw[this]at hs;have:AH (AA r<|i-2) (AA r<|i-1) (AA r i)=AH (AA r i) (AA r<|i-2) (AA r<|i-1):=by unfold AH;grind
   rw[this,hs]
  .have BD:Bl (AA r i) (AA r j) (AA r<|i-2)<|AA r<|i-2+1:=by rw[N0];exact UI En
   refine nt (i-2) (λc=>?_) (λc=>?_) hj (λc=>?_) BD
   .rw[show i-(i-2)=2 by lia,AAF J J]at c;lia
   .rw[show i-(i-2)=2 by lia,AAF J J]at c;lia
   .have:=Dp J c;have c':=CD this;rw[show i-2-(j-1)=(i-1)-j by lia]at c';have:=mod_succ (n:=(r.length:Int)) J c';rw[show i-1+1-j=i-j by lia]at this;exact f1 this
 .refine S.off (m:=j) (j:=i-1) (λc=>?_) (λc=>?_) (q:=t) (s:=t-s) J J J z9 z9
  .have c':=CD c;have:=mod_succ (n:=(r.length:Int)) J c';rw[show i-1+1-j=i-j by lia]at this;exact f1 this
  .have:=Dp J c;rw[show j-1-(i-1)=j-i by lia]at this;exact f2 this
theorem Tu(Ck:∀k:Int,AH (AA r k) (AA r<|k+1) (AA r<|k+1+1)≠0){i j:Int}(Cc:Bs r.length<|i-j)(nt:∀k:Int,(i-k)%(r.length:Int)≠0->(i-k)%(r.length:Int)≠1->(j-k)%(r.length:Int)≠0->(j-k)%(r.length:Int)≠1->¬ Bl (AA r i) (AA r j) (AA r k) (AA r<|k+1)):Probe r i j:=by
 have XH:Bs r.length<|j-i:=by have:=Cc.neg (by have:=S.l3;lia);rw[show -(i-j)=j-i by lia]at this;exact this
 have ZL:=λk a b c d h=>nt k c d a b<|Py h;exact⟨Cc,XW S Ck Cc nt,XX S Ck Cc nt,XW S Ck XH ZL,XX S Ck XH ZL,nt⟩
theorem Probe.nc{i j:Int}(p:Probe r i j)(k:Int)(h1:Lt (AA r i) (AA r j) (AA r k)<|AA r<|k+1):¬ Lt (AA r k) (AA r<|k+1) (AA r i) (AA r j):=by
 have h3:=S.l3;have p':=p.symm S;by_cases a:(i-k)%(r.length:Int)=0
 .have e1:=Aw a;have e2:=Aw<|Bo a;rw[<-e1,<-e2]at h1 ⊢;exact PM (p.L4 S) h1
 by_cases b:(i-k)%(r.length:Int)=1
 .have e:=S.next b;have e0:AA r k=AA r (i-1):=(Aw (by have:=Dp J b;exact this)).symm;rw[<-e.1,e0]at h1 ⊢;exact λc=>PM (p.JW S) (FJ h1)<|Eu c
 by_cases c:(j-k)%(r.length:Int)=0
 .have e1:=Aw c;have e2:=Aw<|Bo c;rw[<-e1,<-e2]at h1 ⊢;exact λz=>PM (p'.L4 S) (Eu h1)<|FJ z
 by_cases d:(j-k)%(r.length:Int)=1
 .have e:=S.next d;have e0:AA r k=AA r (j-1):=(Aw (by have:=Dp J d;exact this)).symm;rw[<-e.1,e0]at h1 ⊢;exact λz=>PM (p'.JW S) (Eu<|FJ h1)<|Eu<|FJ z
 .exact TU (p.nt k a b c d) h1
theorem Probe.br{i j:Int}(p:Probe r i j){m:Int}(a:(i-m)%(r.length:Int)≠0)(c:(j-m)%(r.length:Int)≠0):¬ At (AA r i) (AA r j) (AA r m):=by
 have h3:=S.l3;intro En;by_cases b:(i-m)%(r.length:Int)=1
 .have e0:AA r m=AA r (i-1):=(Aw (by have:=Dp J b;exact this)).symm;rw[e0]at En;obtain⟨q,s,hq,s0,s1,e1,e2⟩:=En;have:=(p.JW S q s J s0 e1 e2).1;lia
 by_cases d:(j-m)%(r.length:Int)=1
 .have e0:AA r m=AA r (j-1):=(Aw (by have:=Dp J d;exact this)).symm;rw[e0]at En;obtain⟨q,s,hq,s0,s1,e1,e2⟩:=Ln En;have:=((p.symm S).JW S q s J s0 e1 e2).1;lia
 .exact p.nt m a b c d<|Px En
end
def RQ(r:List Pt)(h:Int)(A B:Pt):Int:=AW (λk=>ind (Lt A B (AA r k)<|AA r<|k+1)*AK r h k) r.length
section
variable{r:List Pt}(S:A3 r){i j:Int}(p:Probe r i j)
include S p
theorem Probe.NI{m:Int}(a:(i-m)%(r.length:Int)≠0)(c:(j-m)%(r.length:Int)≠0)(Aq:yy r i≠yy r j)(hr:(yy r i<=yy r m/\yy r m<=yy r j)\/(yy r j<=yy r m/\yy r m<=yy r i)) : Lt (AA r i) (AA r j) (AA r m) (AA r m)\/Lt (AA r m) (AA r m) (AA r i) (AA r j):=by
 obtain⟨q,s,hq,s0,s1,e,_,_⟩:=LA (a:=AA r i) (b:=AA r j) (h:=yy r m) Aq hr;unfold yy at e;rcases AAv (q*(AA r i).1+s*((AA r j).1-(AA r i).1)) (q*(AA r m).1)with hl|he|hg
 .exact .inl ⟨q,s,0,hq,s0,s1,J,J,by rw[e];lia,J⟩
 .exact absurd ⟨q,s,hq,s0,s1,z9,z9⟩ (p.br S a c)
 .exact .inr ⟨q,0,s,hq,J,J,s0,s1,by rw[e];lia,J⟩
theorem Probe.step{h:Int}(Fo:(yy r i<h/\h<yy r j)\/(yy r j<h/\h<yy r i)):RQ r h (AA r i) (AA r j)=RQ r (h-1) (AA r i) (AA r j):=by
 have key:∀k:Int,ind (Lt (AA r i) (AA r j) (AA r k)<|AA r<|k+1)*AK r h k=ind (Lt (AA r i) (AA r j) (AA r k)<|AA r<|k+1)*AK r (h-1) k+(ind (yy r k=h/\Lt (AA r i) (AA r j) (AA r k) (AA r k))-ind (yy r (k+1)=h/\Lt (AA r i) (AA r j) (AA r<|k+1) (AA r<|k+1))):=by
  intro k;have hd:=Pw r h k;refine comb (x:=ind<|yy r k=h) (y:=ind<|yy r (k+1)=h) J ?_ ?_
  .by_cases a1:yy r k=h
   .refine .inl ⟨Ay a1,?_⟩;rcases p.NI S (m:=k) (λc=>by have:=Ci c;lia) (λc=>by have:=Ci c;lia) J J with z|z
    .rw[Ay ⟨a1,z⟩,Ay<|K3 z]
    .have n1:¬ Lt (AA r i) (AA r j) (AA r k) (AA r<|k+1):=λc=>p.nc S k c<|PB z;rw[Ai n1,Ai λc=>n1<|K3 c.2]
   .exact .inr ⟨Ai a1,Ai λc=>a1 c.1⟩
  .by_cases a2:yy r (k+1)=h
   .refine .inl ⟨Ay a2,?_⟩;rcases p.NI S (m:=k+1) (λc=>by have:=Ci c;lia) (λc=>by have:=Ci c;lia) J J with z|z
    .rw[Ay ⟨a2,z⟩,Ay<|Mm z]
    .have n1:¬ Lt (AA r i) (AA r j) (AA r k) (AA r<|k+1):=λc=>p.nc S k c<|TK z;rw[Ai n1,Ai λc=>n1<|Mm c.2]
   .exact .inr ⟨Ai a2,Ai λc=>a2 c.1⟩
 unfold RQ;rw[Bw (g:=λk=>ind (Lt (AA r i) (AA r j) (AA r k)<|AA r<|k+1)*AK r (h-1) k+(ind (yy r k=h/\Lt (AA r i) (AA r j) (AA r k) (AA r k))-ind (yy r (k+1)=h/\Lt (AA r i) (AA r j) (AA r<|k+1) (AA r<|k+1)))) λk _=>key k];rw[EK (λk=>ind (Lt (AA r i) (AA r j) (AA r k)<|AA r<|k+1)*AK r (h-1) k) λk=>ind (yy r k=h/\Lt (AA r i) (AA r j) (AA r k) (AA r k))-ind (yy r (k+1)=h/\Lt (AA r i) (AA r j) (AA r<|k+1) (AA r<|k+1))];have ht:=Hi (λk=>- ind (yy r k=h/\Lt (AA r i) (AA r j) (AA r k) (AA r k))) r.length;have hc:AA r (r.length:Int)=AA r 0:=Aw AAB;have hy:yy r (r.length:Int)=yy r 0:=by unfold yy;rw[hc]
 rw[hc,hy]at ht;lia
theorem Probe.along{h h':Int}(h1:(yy r i<=h/\h<yy r j)\/(yy r j<=h/\h<yy r i))(h2:(yy r i<=h'/\h'<yy r j)\/(yy r j<=h'/\h'<yy r i)):RQ r h (AA r i) (AA r j)=RQ r h' (AA r i) (AA r j):=by
 have main:∀(m:Nat)(h:Int),((yy r i<=h/\h<yy r j)\/(yy r j<=h/\h<yy r i))->((yy r i<=h+m/\h+m<yy r j)\/(yy r j<=h+m/\h+m<yy r i))->RQ r (h+m) (AA r i) (AA r j)=RQ r h (AA r i) (AA r j):=by
  intro m
  induction m with
  |zero=>simp
  |succ m ih=>
   intro h a b;rw[<-ih h a J];have:=p.step S (h:=h+((m+1:Nat):Int)) J;rw[this,show h+((m+1:Nat):Int)-1=h+m by lia]
 rcases ABW h h' with hl|hl
 .have:=main (h'-h).toNat h h1 (by rw[AAW J];lia);rw[AAW J,show h+(h'-h)=h' by lia]at this;exact this.symm
 .have:=main (h-h').toNat h' h2 (by rw[AAW J];lia);rw[AAW J,show h'+(h-h')=h by lia]at this;exact this
end
noncomputable def dbl(p:Pt):Pt:=(2*p.1,2*p.2)
theorem mj{A B c d:Pt}(h:Lt (A.1+B.1,A.2+B.2) (A.1+B.1,A.2+B.2) (dbl c)<|dbl d):Lt A B c d:=by
 obtain⟨q,s,t,h1,h2,h3,h4,h5,e,l⟩:=h;unfold dbl at e l;dsimp only at e l;exact⟨2*q,q,2*t,J,J,J,J,J,z9,z9⟩
theorem ml{A B c d:Pt}(h:Lt (dbl c) (dbl d) (A.1+B.1,A.2+B.2) (A.1+B.1,A.2+B.2)):Lt c d A B:=by
 obtain⟨q,s,t,h1,h2,h3,h4,h5,e,l⟩:=h;unfold dbl at e l;dsimp only at e l;exact⟨2*q,2*s,q,J,J,J,J,J,z9,z9⟩
section
variable{r:List Pt}(S:A3 r){i j:Int}(p:Probe r i j)
include S p
theorem Probe.TR(k:Int):¬ At (dbl<|AA r k) (dbl<|AA r<|k+1) ((AA r i).1+(AA r j).1,(AA r i).2+(AA r j).2):=by
 have h3:=S.l3;have p':=p.symm S;rintro⟨q,s,hq,s0,s1,e1,e2⟩;unfold dbl at e1 e2;dsimp only at e1 e2;by_cases a:(i-k)%(r.length:Int)=0
 .have z1:=Aw a;have z2:=Aw<|Bo a;rw[<-z1,<-z2]at e1 e2;have:=(p.L4 S (2*s) q J J z9 z9).2;lia
 by_cases b:(i-k)%(r.length:Int)=1
 .have e:=S.next b;have e0:AA r k=AA r (i-1):=(Aw (by have:=Dp J b;exact this)).symm;rw[<-e.1,e0]at e1 e2;have:=(p.JW S (2*(q-s)) q J J z9 z9).2;lia
 by_cases c:(j-k)%(r.length:Int)=0
 .have z1:=Aw c;have z2:=Aw<|Bo c;rw[<-z1,<-z2]at e1 e2;have:=(p'.L4 S (2*s) q J J z9 z9).2;lia
 by_cases d:(j-k)%(r.length:Int)=1
 .have e:=S.next d;have e0:AA r k=AA r (j-1):=(Aw (by have:=Dp J d;exact this)).symm;rw[<-e.1,e0]at e1 e2;have:=(p'.JW S (2*(q-s)) q J J z9 z9).2;lia
 .exact p.nt k a b c d ⟨2*q,q,2*s,J,J,J,J,J,z9,z9⟩
theorem Probe.mid:W (r.map dbl) ((AA r i).1+(AA r j).1,(AA r i).2+(AA r j).2)=RQ r ((yy r i+yy r j) / 2) (AA r i) (AA r j):=by
 have h3:=S.l3;have hc:∀k:Int,AA (r.map dbl) k=dbl (AA r k):=λk=>DA J k;unfold W RQ;rw[AAO];refine Bw λk _=>?_;rw[Xb,hc,hc];have hs:AK (r.map dbl) ((AA r i).2+(AA r j).2) k=AK r ((yy r i+yy r j) / 2) k:=by
  unfold AK yy;rw[hc,hc];unfold dbl;dsimp only;generalize (AA r i).2+(AA r j).2=m;generalize (AA r k).2=a;generalize (AA r<|k+1).2=b
  (repeat' split)<;>lia
 rw[hs,AB6];by_cases hz:AK r ((yy r i+yy r j) / 2) k=0
 .rw[hz];lia
 .congr 1
  have rs:=Cz hz;by_cases hl:Lt (AA r i) (AA r j) (AA r k)<|AA r<|k+1
  .rw[Ay hl];refine Ay ?_;obtain⟨q,s,hq,s0,s1,ey,_,_⟩:=LA (a:=dbl<|AA r k) (b:=dbl<|AA r<|k+1) (h:=(AA r i).2+(AA r j).2) (by unfold dbl;dsimp only;unfold yy at rs;lia) (by unfold dbl;unfold yy at rs;lia);rcases AAv (q*((AA r i).1+(AA r j).1)) (q*(dbl<|AA r k).1+s*((dbl<|AA r<|k+1).1-(dbl<|AA r k).1))with u|u|u
   .exact⟨q,0,s,hq,J,J,s0,s1,by rw[ey];lia,J⟩
   .exact absurd ⟨q,s,hq,s0,s1,z9,z9⟩ (p.TR S k)
   .exact absurd (ml (A:=AA r i) (B:=AA r j) ⟨q,s,0,hq,s0,s1,J,J,J,J⟩) (p.nc S k hl)
  .rw[Ai hl];exact Ai λc=>hl<|mj c
end
def NN(r:List Pt)(h i:Int):Int:=AW (λk=>ind (Lt (AA r i) (AA r i) (AA r k)<|AA r<|k+1)*AK r h k) r.length
theorem JO{A X Y:Pt}(hx:A.2<X.2)(hy:A.2<Y.2):Lt A X A Y↔AH A Y X>0:=by
 constructor
 .rintro⟨q,s,t,hq,s0,s1,t0,t1,e,l⟩;have e':s*(X.2-A.2)=t*(Y.2-A.2):=J
  have l':s*(X.1-A.1)<t*(Y.1-A.1):=J
  have ht:0<t:=by
   by_cases c:t=0
   .rw[c,AAw]at e' l';have:s=0:=by
     rcases AAM.mp e' with h|h<;>lia
    rw[this]at l';lia
   .lia
  have k:t*AH A Y X=(X.2-A.2)*(t*(Y.1-A.1)-s*(X.1-A.1)):=by
   have:t*AH A Y X=(t*(Y.1-A.1))*(X.2-A.2)-(t*(Y.2-A.2))*(X.1-A.1):=by unfold AH;grind
   rw[this,<-e'];grind
  have:=AAN (J:0<X.2-A.2) (J:0<t*(Y.1-A.1)-s*(X.1-A.1));by_cases c:AH A Y X>0
  .exact c
  .have:=AAQ (AAI ht) (J:AH A Y X<=0);lia
 .intro h;have m1:(Y.2-A.2)*1<=(Y.2-A.2)*(X.2-A.2):=AAU J J;have m2:(X.2-A.2)*1<=(X.2-A.2)*(Y.2-A.2):=AAU J J;exact⟨(X.2-A.2)*(Y.2-A.2),Y.2-A.2,X.2-A.2,AAN J J,J,J,J,J,z9,by unfold AH at h;grind⟩
theorem Ka{A X Y:Pt}(hx:X.2<A.2)(hy:Y.2<A.2):Lt A X A Y↔AH A X Y>0:=by
 constructor
 .rintro⟨q,s,t,hq,s0,s1,t0,t1,e,l⟩;have e':s*(X.2-A.2)=t*(Y.2-A.2):=J
  have l':s*(X.1-A.1)<t*(Y.1-A.1):=J
  have ht:0<t:=by
   by_cases c:t=0
   .rw[c,AAw]at e' l';have:s=0:=by
     rcases AAM.mp e' with h|h<;>lia
    rw[this]at l';lia
   .lia
  have k:t*AH A X Y=(A.2-X.2)*(t*(Y.1-A.1)-s*(X.1-A.1)):=by
   have:t*AH A X Y=(X.1-A.1)*(t*(Y.2-A.2))-(X.2-A.2)*(t*(Y.1-A.1)):=by unfold AH;grind
   rw[this,<-e'];grind
  have:=AAN (J:0<A.2-X.2) (J:0<t*(Y.1-A.1)-s*(X.1-A.1));by_cases c:AH A X Y>0
  .exact c
  .have:=AAQ (AAI ht) (J:AH A X Y<=0);lia
 .intro h;have m1:(A.2-Y.2)*1<=(A.2-Y.2)*(A.2-X.2):=AAU J J;have m2:(A.2-X.2)*1<=(A.2-X.2)*(A.2-Y.2):=AAU J J;exact⟨(A.2-X.2)*(A.2-Y.2),A.2-Y.2,A.2-X.2,AAN J J,J,J,J,J,z9,by unfold AH at h;grind⟩
theorem Rc{A X B:Pt}(f:CF A X B)(h:(A.2<X.2/\A.2<B.2)\/(X.2<A.2/\B.2<A.2)):AH A X B≠0:=λc=>by
 unfold AH at c;rcases h with⟨h1,h2⟩|⟨h1,h2⟩
 .have:=(f (B.2-A.2) (X.2-A.2) J J z9 z9).1;lia
 .have:=(f (A.2-B.2) (A.2-X.2) J J z9 z9).1;lia
section
variable{r:List Pt}(S:A3 r){i:Int}(gU:yy r (i-1)≠yy r i)(gV:yy r (i+1)≠yy r i)
include S gU gV
theorem A3.A8{k:Int}(h:(i-k)%(r.length:Int)=0\/(i-k)%(r.length:Int)=1):¬ Lt (AA r i) (AA r i) (AA r k) (AA r<|k+1):=by
 have h3:=S.l3;rcases h with a|b
 .rw[<-Aw a,<-Aw<|Bo a];rintro⟨q,s,t,hq,s0,s1,t0,t1,e,l⟩;unfold yy at gV;have:t*((AA r<|i+1).2-(AA r i).2)=0:=z9
  rcases AAM.mp this with z|z
  .rw[z]at l;grind
  .lia
 .have e:=S.next b;have e0:AA r k=AA r (i-1):=(Aw (by have:=Dp J b;exact this)).symm;rw[<-e.1,e0];rintro⟨q,s,t,hq,s0,s1,t0,t1,e,l⟩;unfold yy at gU;have:(q-t)*((AA r<|i-1).2-(AA r i).2)=0:=z9
  rcases AAM.mp this with z|z
  .have:t=q:=J
   rw[this]at l;grind
  .lia
theorem A3.UK{k:Int}(a:(i-k)%(r.length:Int)≠0)(b:(i-k)%(r.length:Int)≠1){q s:Int}(hq:0<q)(s0:0<=s)(s1:s<=q)(e:q*(AA r k).2+s*((AA r<|k+1).2-(AA r k).2)=q*yy r i) : (q*(AA r i).1<q*(AA r k).1+s*((AA r<|k+1).1-(AA r k).1)/\Lt (AA r i) (AA r i) (AA r k) (AA r<|k+1))\/(q*(AA r k).1+s*((AA r<|k+1).1-(AA r k).1)<q*(AA r i).1/\Lt (AA r k) (AA r<|k+1) (AA r i) (AA r i)/\¬ Lt (AA r i) (AA r i) (AA r k) (AA r<|k+1)):=by
 have o:=S.off a b hq s0 s1 e;unfold yy at e;have ns:¬ Bl (AA r i) (AA r i) (AA r k) (AA r<|k+1):=by
  rintro⟨q',s',t',h1,h2,h3,h4,h5,e1,e2⟩;exact S.off a b (q:=q') (s:=t') h1 h4 h5 z9 z9
 rcases AAk o with z|z
 .have l:Lt (AA r k) (AA r<|k+1) (AA r i)<|AA r i:=⟨q,s,0,hq,s0,s1,J,J,by rw[e];lia,J⟩;exact .inr ⟨z,l,λc=>TU ns c l⟩
 .exact .inl ⟨z,⟨q,0,s,hq,J,J,s0,s1,by rw[e];lia,J⟩⟩
theorem A3.dG:NN r (yy r i) i=NN r (yy r i-1) i:=by
 have key:∀k:Int,ind (Lt (AA r i) (AA r i) (AA r k)<|AA r<|k+1)*AK r (yy r i) k=ind (Lt (AA r i) (AA r i) (AA r k)<|AA r<|k+1)*AK r (yy r i-1) k+(ind (yy r k=yy r i/\(AA r i).1<(AA r k).1)-ind (yy r (k+1)=yy r i/\(AA r i).1<(AA r<|k+1).1)):=by
  intro k;have hd:=Pw r (yy r i) k;by_cases Fo:(i-k)%(r.length:Int)=0\/(i-k)%(r.length:Int)=1
  .rw[Ai<|S.A8 gU gV Fo];have g:ind (yy r k=yy r i/\(AA r i).1<(AA r k).1)=0/\ind (yy r (k+1)=yy r i/\(AA r i).1<(AA r<|k+1).1)=0:=by
    have h3:=S.l3;rcases Fo with a|b
    .rw[<-Aw a,<-Aw<|Bo a,<-Ci a,<-Ci<|Bo a];exact⟨Ai λc=>J,Ai λc=>gV c.1⟩
    .have e:=S.next b;have e0:(i-1-k)%(r.length:Int)=0:=by have:=Dp J b;exact this
     refine⟨Ai λc=>?_,Ai λc=>?_⟩
     .rw[<-Ci e0]at c;exact gU c.1
     .rw[<-e.1]at c;lia
   rw[g.1,g.2];lia
  .have a:(i-k)%(r.length:Int)≠0:=λc=>Fo<|.inl c;have b:(i-k)%(r.length:Int)≠1:=λc=>Fo<|.inr c;refine comb (x:=ind<|yy r k=yy r i) (y:=ind<|yy r (k+1)=yy r i) J ?_ ?_
   .by_cases a1:yy r k=yy r i
    .refine .inl ⟨Ay a1,?_⟩;rcases S.UK gU gV a b (q:=1) (s:=0) J J J (by rw[show(AA r k).2=yy r i from a1];lia)with⟨z,l⟩|⟨z,_,l⟩
     .rw[Ay l,Ay ⟨a1,J⟩]
     .rw[Ai l,Ai λc=>J]
    .exact .inr ⟨Ai a1,Ai λc=>a1 c.1⟩
   .by_cases a2:yy r (k+1)=yy r i
    .refine .inl ⟨Ay a2,?_⟩;rcases S.UK gU gV a b (q:=1) (s:=1) J J J (by rw[show(AA r<|k+1).2=yy r i from a2];lia)with⟨z,l⟩|⟨z,_,l⟩
     .rw[Ay l,Ay ⟨a2,J⟩]
     .rw[Ai l,Ai λc=>J]
    .exact .inr ⟨Ai a2,Ai λc=>a2 c.1⟩
 unfold NN;rw[Bw (g:=λk=>ind (Lt (AA r i) (AA r i) (AA r k)<|AA r<|k+1)*AK r (yy r i-1) k+(ind (yy r k=yy r i/\(AA r i).1<(AA r k).1)-ind (yy r (k+1)=yy r i/\(AA r i).1<(AA r<|k+1).1))) λk _=>key k];rw[EK (λk=>ind (Lt (AA r i) (AA r i) (AA r k)<|AA r<|k+1)*AK r (yy r i-1) k) λk=>ind (yy r k=yy r i/\(AA r i).1<(AA r k).1)-ind (yy r (k+1)=yy r i/\(AA r i).1<(AA r<|k+1).1)];have ht:=Hi (λk=>- ind (yy r k=yy r i/\(AA r i).1<(AA r k).1)) r.length;have hc:AA r (r.length:Int)=AA r 0:=Aw AAB;have hy:yy r (r.length:Int)=yy r 0:=by unfold yy;rw[hc]
 rw[hc,hy]at ht;lia
theorem A3.star{Z:Pt}(hZ:∀k:Int,(i-k)%(r.length:Int)≠0->(i-k)%(r.length:Int)≠1->Lt (AA r i) Z (AA r k) (AA r<|k+1)->¬ Lt (AA r k) (AA r<|k+1) (AA r i) Z){H:Int}(hH:H=yy r i\/H=yy r i-1) : RQ r H (AA r i) Z=NN r (yy r i) i+(ind (Lt (AA r i) Z (AA r i)<|AA r<|i-1)*AK r H (i-1)+ind (Lt (AA r i) Z (AA r i)<|AA r<|i+1)*AK r H i):=by
 have h3:=S.l3;have hN:NN r (yy r i) i=NN r H i:=by
  rcases hH with rfl|rfl
  .rfl
  .exact S.dG gU gV
 have hp:∀a b:Int,(a-b)%(r.length:Int)=0->ind (Lt (AA r i) Z (AA r a)<|AA r<|a+1)*AK r H a-ind (Lt (AA r i) (AA r i) (AA r a)<|AA r<|a+1)*AK r H a=ind (Lt (AA r i) Z (AA r b)<|AA r<|b+1)*AK r H b-ind (Lt (AA r i) (AA r i) (AA r b)<|AA r<|b+1)*AK r H b:=λa b z=>by
  rw[Aw z,Aw<|Bo z,FO z]
 have hd:RQ r H (AA r i) Z=NN r H i+AW (λk=>ind (Lt (AA r i) Z (AA r k)<|AA r<|k+1)*AK r H k-ind (Lt (AA r i) (AA r i) (AA r k)<|AA r<|k+1)*AK r H k) r.length:=by
  unfold RQ NN;rw[<-EK];exact Bw λk _=>J
 rw[hd,hN,<-P0 (f:=λk=>ind (Lt (AA r i) Z (AA r k)<|AA r<|k+1)*AK r H k-ind (Lt (AA r i) (AA r i) (AA r k)<|AA r<|k+1)*AK r H k) (n:=r.length) J hp<|i-1]
 congr 1
 rw[Ub (c:=0) (d:=1) J J λm hm m0 m1=>?_]
 .show ind (Lt (AA r i) Z (AA r<|i-1+0)<|AA r<|i-1+0+1)*AK r H (i-1+0)-ind (Lt (AA r i) (AA r i) (AA r<|i-1+0)<|AA r<|i-1+0+1)*AK r H (i-1+0)+(ind (Lt (AA r i) Z (AA r<|i-1+1)<|AA r<|i-1+1+1)*AK r H (i-1+1)-ind (Lt (AA r i) (AA r i) (AA r<|i-1+1)<|AA r<|i-1+1+1)*AK r H (i-1+1))=_;rw[show i-1+0=i-1 by lia,show i-1+1=i by lia];have r1:=S.A8 gU gV (k:=i-1) (.inr (by rw[show i-(i-1)=1 by lia,AAF J J]));have r2:=S.A8 gU gV (k:=i)<|.inl AAB;rw[show i-1+1=i by lia]at r1;rw[Ai r1,Ai r2];have e:ind (Lt (AA r i) Z (AA r<|i-1)<|AA r i)=ind (Lt (AA r i) Z (AA r i)<|AA r<|i-1):=by
   by_cases c:Lt (AA r i) Z (AA r<|i-1)<|AA r i
   .rw[Ay c,Ay<|FJ c]
   .rw[Ai c,Ai λz=>c<|FJ z]
  rw[e];lia
 .have a:(i-(i-1+(m:Int)))%(r.length:Int)≠0:=λc=>by
   have:=CD c;rw[show i-1+(m:Int)-i=m-1 by lia,AAF J J]at this;lia
  have b:(i-(i-1+(m:Int)))%(r.length:Int)≠1:=λc=>by
   have:=CD<|Dp J c;rw[show i-1+(m:Int)-(i-1)=m by lia,AAF J J]at this;lia
  generalize i-1+(m:Int)=k at a b ⊢;by_cases hz:AK r H k=0
  .lia
  .have rs:=Cz hz;obtain⟨q,s,hq,s0,s1,ey,_,_⟩:=LA (a:=AA r k) (b:=AA r<|k+1) (h:=yy r i) (by show yy r k≠yy r (k+1);lia) (by unfold yy at rs hH ⊢;lia);rcases S.UK gU gV a b hq s0 s1 ey with⟨_,l⟩|⟨_,l,l'⟩
   .rw[Ay l,Ay (show Lt (AA r i) Z (AA r k) (AA r<|k+1)from PB l)];lia
   .have n1:¬ Lt (AA r i) Z (AA r k) (AA r<|k+1):=λc=>hZ k a b c<|K3 l;lia
end
theorem FI{p:Prop}{x:Int}(h:p↔x>0):(x>0/\ind p=1)\/(x<=0/\ind p=0):=by
 by_cases c:x>0
 .exact .inl ⟨c,Ay<|h.mpr c⟩
 .exact .inr ⟨J,Ai λz=>c<|h.mp z⟩
theorem JB{p q t a b c:Int}(hp:0<p)(hq:0<q)(ht:0<t)(h:p*a=q*c+t*b)(ha:a≠0\/b≠0\/c≠0):(0<a\/b<0\/c<0)/\(a<0\/0<b\/0<c):=by
 have z:p*a=0->q*c=0->t*b=0->False:=λx y z=>by
  have x:=AAM.mp x;have y:=AAM.mp y;have z:=AAM.mp z;lia
 constructor
 .by_cases x:0<a
  .exact .inl x
  .by_cases y:b<0
   .exact .inr<|.inl y
   .by_cases w:c<0
    .exact .inr<|.inr w
    .have m1:=AAQ (AAI hp) (J:a<=0);have m2:=AAK (AAI hq) (J:0<=c);have m3:=AAK (AAI ht) (J:0<=b);exact(z J J J).elim
 .by_cases x:a<0
  .exact .inl x
  .by_cases y:0<b
   .exact .inr<|.inl y
   .by_cases w:0<c
    .exact .inr<|.inr w
    .have m1:=AAK (AAI hp) (J:0<=a);have m2:=AAQ (AAI hq) (J:c<=0);have m3:=AAQ (AAI ht) (J:b<=0);exact(z J J J).elim
theorem IC{a b c E:Int}(h:(a>0/\b>0/\c>0)\/(¬ a>0/\(b>0\/c>0)))(e:E=1):(E=1/\((a>0/\b>0/\c>0)\/(¬ a>0/\(b>0\/c>0))))\/(E=0/\¬ ((a>0/\b>0/\c>0)\/(¬ a>0/\(b>0\/c>0)))):=.inl ⟨e,h⟩
theorem IB{a b c E:Int}(h:¬ ((a>0/\b>0/\c>0)\/(¬ a>0/\(b>0\/c>0))))(e:E=0):(E=1/\((a>0/\b>0/\c>0)\/(¬ a>0/\(b>0\/c>0))))\/(E=0/\¬ ((a>0/\b>0/\c>0)\/(¬ a>0/\(b>0\/c>0)))):=.inr ⟨e,h⟩
theorem ik{a b c N i1 i2 i3:Int}(ha:a≠0)(hb:b≠0)(hc : -c≠0)(hN:N+i1=1)(k1:((a>0/\i1=1)\/(a<=0/\i1=0)))(k2:((c>0/\i2=1)\/(c<=0/\i2=0)))(k3:((-b>0/\i3=1)\/(-b<=0/\i3=0)))(tr:((0<a\/b<0\/c<0)/\(a<0\/0<b\/0<c))):(N+(i2*1+i3 * -1)=1/\((a>0/\b>0/\c>0)\/(¬ a>0/\(b>0\/c>0))))\/(N+(i2*1+i3 * -1)=0/\¬ ((a>0/\b>0/\c>0)\/(¬ a>0/\(b>0\/c>0)))):=by
 rcases k1 with⟨x1,rfl⟩|⟨x1,rfl⟩<;>rcases k2 with⟨x2,rfl⟩|⟨x2,rfl⟩<;>rcases k3 with⟨x3,rfl⟩|⟨x3,rfl⟩<;>first|(refine IC ?_ (by clear tr;lia);lia)|(refine IB ?_ (by clear tr;lia);lia)|(exfalso;lia)
theorem il{a b c N i2 j:Int}(hc : -c≠0)(hN:N=0)(k2:((c>0/\i2=1)\/(c<=0/\i2=0)))(tr:((0<a\/b<0\/-c<0)/\(a<0\/0<b\/0 < -c))):(N+(i2*1+j*0)=1/\((a>0/\b>0/\c>0)\/(¬ a>0/\(b>0\/c>0))))\/(N+(i2*1+j*0)=0/\¬ ((a>0/\b>0/\c>0)\/(¬ a>0/\(b>0\/c>0)))):=by
 rcases k2 with⟨x2,rfl⟩|⟨x2,rfl⟩<;>first|(refine IC ?_ J;lia)|(refine IB ?_ J;lia)|(exfalso)
theorem ip{a b c N i3 j:Int}(hb:b≠0)(hN:N=1)(k3:((-b>0/\i3=1)\/(-b<=0/\i3=0)))(tr:((0<a\/-b<0\/c<0)/\(a<0\/0 < -b\/0<c))):(N+(j*0+i3 * -1)=1/\((a>0/\b>0/\c>0)\/(¬ a>0/\(b>0\/c>0))))\/(N+(j*0+i3 * -1)=0/\¬ ((a>0/\b>0/\c>0)\/(¬ a>0/\(b>0\/c>0)))):=by
 rcases k3 with⟨x3,rfl⟩|⟨x3,rfl⟩<;>first|(refine IC ?_ J;lia)|(refine IB ?_ J;lia)|(exfalso)
theorem iq{a b c N i1 j j2:Int}(ha:a≠0)(hN:N=i1)(k1:((-a>0/\i1=1)\/(-a<=0/\i1=0)))(tr:((0<a\/-b<0\/-c<0)/\(a<0\/0 < -b\/0 < -c))):(N+(j*0+j2*0)=1/\((a>0/\b>0/\c>0)\/(¬ a>0/\(b>0\/c>0))))\/(N+(j*0+j2*0)=0/\¬ ((a>0/\b>0/\c>0)\/(¬ a>0/\(b>0\/c>0)))):=by
 rcases k1 with⟨x1,rfl⟩|⟨x1,rfl⟩<;>first|(refine IC ?_ J;lia)|(refine IB ?_ J;lia)|(exfalso)
theorem ir{a b c N i1 j j2:Int}(ha:a≠0)(hN:N+i1=1)(k1:((a>0/\i1=1)\/(a<=0/\i1=0)))(tr:((0<a\/-b<0\/-c<0)/\(a<0\/0 < -b\/0 < -c))):(N+(j*0+j2*0)=1/\((a>0/\b>0/\c>0)\/(¬ a>0/\(b>0\/c>0))))\/(N+(j*0+j2*0)=0/\¬ ((a>0/\b>0/\c>0)\/(¬ a>0/\(b>0\/c>0)))):=by
 rcases k1 with⟨x1,rfl⟩|⟨x1,rfl⟩<;>first|(refine IC ?_ J;lia)|(refine IB ?_ J;lia)|(exfalso)
theorem iu{a b c N i3 j:Int}(hb:b≠0)(hN:N=0)(k3:((b>0/\i3=1)\/(b<=0/\i3=0)))(tr:((0<a\/-b<0\/c<0)/\(a<0\/0 < -b\/0<c))):(N+(j*0+i3*1)=1/\((a>0/\b>0/\c>0)\/(¬ a>0/\(b>0\/c>0))))\/(N+(j*0+i3*1)=0/\¬ ((a>0/\b>0/\c>0)\/(¬ a>0/\(b>0\/c>0)))):=by
 rcases k3 with⟨x3,rfl⟩|⟨x3,rfl⟩<;>first|(refine IC ?_ J;lia)|(refine IB ?_ J;lia)|(exfalso)
theorem iw{a b c N i2 j:Int}(hc : -c≠0)(hN:N=1)(k2:((-c>0/\i2=1)\/(-c<=0/\i2=0)))(tr:((0<a\/b<0\/-c<0)/\(a<0\/0<b\/0 < -c))):(N+(i2 * -1+j*0)=1/\((a>0/\b>0/\c>0)\/(¬ a>0/\(b>0\/c>0))))\/(N+(i2 * -1+j*0)=0/\¬ ((a>0/\b>0/\c>0)\/(¬ a>0/\(b>0\/c>0)))):=by
 rcases k2 with⟨x2,rfl⟩|⟨x2,rfl⟩<;>first|(refine IC ?_ J;lia)|(refine IB ?_ J;lia)|(exfalso)
theorem ix{a b c N i1 i2 i3:Int}(ha:a≠0)(hb:b≠0)(hc : -c≠0)(hN:N=i1)(k1:((-a>0/\i1=1)\/(-a<=0/\i1=0)))(k2:((-c>0/\i2=1)\/(-c<=0/\i2=0)))(k3:((b>0/\i3=1)\/(b<=0/\i3=0)))(tr:((0<a\/b<0\/c<0)/\(a<0\/0<b\/0<c))):(N+(i2 * -1+i3*1)=1/\((a>0/\b>0/\c>0)\/(¬ a>0/\(b>0\/c>0))))\/(N+(i2 * -1+i3*1)=0/\¬ ((a>0/\b>0/\c>0)\/(¬ a>0/\(b>0\/c>0)))):=by
 rcases k1 with⟨x1,rfl⟩|⟨x1,rfl⟩<;>rcases k2 with⟨x2,rfl⟩|⟨x2,rfl⟩<;>rcases k3 with⟨x3,rfl⟩|⟨x3,rfl⟩<;>first|(refine IC ?_ (by clear tr;lia);lia)|(refine IB ?_ (by clear tr;lia);lia)|(exfalso;lia)
theorem wU{yA yB yU yV a b c:Int}(h:(yB-yA)*a=(yV-yA)*c+(yU-yA)*b):(yA-yB)*a=(yA-yV)*c+(yA-yU)*b:=z9
theorem wV{yA yB yU yV a b c:Int}(h:(yB-yA)*a=(yV-yA)*c+(yU-yA)*b):(yA-yB)*a=(yV-yA) * -c+(yA-yU)*b:=z9
theorem wW{yA yB yU yV a b c:Int}(h:(yB-yA)*a=(yV-yA)*c+(yU-yA)*b):(yA-yB)*a=(yA-yV)*c+(yU-yA) * -b:=z9
theorem wX{yA yB yU yV a b c:Int}(h:(yB-yA)*a=(yV-yA)*c+(yU-yA)*b):(yA-yB)*a=(yV-yA) * -c+(yU-yA) * -b:=z9
theorem wY{yA yB yU yV a b c:Int}(h:(yB-yA)*a=(yV-yA)*c+(yU-yA)*b):(yB-yA)*a=(yA-yV) * -c+(yA-yU) * -b:=z9
theorem wZ{yA yB yU yV a b c:Int}(h:(yB-yA)*a=(yV-yA)*c+(yU-yA)*b):(yB-yA)*a=(yV-yA)*c+(yA-yU) * -b:=z9
theorem wa{yA yB yU yV a b c:Int}(h:(yB-yA)*a=(yV-yA)*c+(yU-yA)*b):(yB-yA)*a=(yA-yV) * -c+(yU-yA)*b:=z9
theorem wb{yA yB yU yV a b c:Int}(h:(yB-yA)*a=(yV-yA)*c+(yU-yA)*b):(yB-yA)*a=(yV-yA)*c+(yU-yA)*b:=z9
def DU(U A V B:Pt):Prop:=(AH U A V>0/\AH A V B>0/\AH U A B>0)\/(¬ AH U A V>0/\(AH A V B>0\/AH U A B>0))
theorem Probe.V6{r:List Pt}(S:A3 r)(C:∀{h j:Int},AK r h j≠0->cc r h j=1){i j:Int}(p:Probe r i j)(gU:yy r (i-1)≠yy r i)(gV:yy r (i+1)≠yy r i)(gB:yy r j≠yy r i) : ∃H,((yy r i<=H/\H<yy r j)\/(yy r j<=H/\H<yy r i))/\((RQ r H (AA r i) (AA r j)=1/\DU (AA r<|i-1) (AA r i) (AA r<|i+1) (AA r j))\/(RQ r H (AA r i) (AA r j)=0/\¬ DU (AA r<|i-1) (AA r i) (AA r<|i+1) (AA r j))):=by
 have h3:=S.l3;have em:i-1+1=i:=J
 have sQ:=λ{H:Int}(hH:H=yy r i\/H=yy r i-1)=>S.star gU gV (Z:=AA r j) (λk _ _ c=>p.nc S k c) hH;have sV:=λ{H:Int}(hH:H=yy r i\/H=yy r i-1)=>S.star gU gV (Z:=AA r<|i+1) (λk a _ c=>S.nc (i:=i) (j:=k) a c) hH;have sU:=λ{H:Int}(hH:H=yy r i\/H=yy r i-1)=>S.star gU gV (Z:=AA r<|i-1) (λk _ b c z=>by
  have Aq:(i-1-k)%(r.length:Int)≠0:=λw=>b (by
   have:=mod_succ (n:=(r.length:Int)) J w;rw[show i-1+1-k=i-k by lia]at this;exact this)
  refine S.nc (i:=i-1) (j:=k) Aq ?_ ?_
  .unfold L;rw[em];exact Eu c
  .unfold L;rw[em];exact FJ z) hH
 have eV:∀H,RQ r H (AA r i) (AA r<|i+1)=Rr r H i:=λH=>rfl;have eU:∀H,RQ r H (AA r i) (AA r<|i-1)=Rr r H (i-1):=λH=>by
  refine Bw λk _=>?_;unfold L;rw[em];by_cases c:Lt (AA r i) (AA r<|i-1) (AA r (k:Int))<|AA r<|(k:Int)+1
  .rw[Ay c,Ay<|Eu c]
  .rw[Ai c,Ai λz=>c<|Eu z]
 have iV:ind (Lt (AA r i) (AA r<|i+1) (AA r i)<|AA r<|i+1)=0:=Ai<|E7 r i λc=>gV c.symm;have iU:ind (Lt (AA r i) (AA r<|i-1) (AA r i)<|AA r<|i-1)=0:=Ai λc=>E7 r (i-1) (by rw[em];exact gU) (by unfold L;rw[em];exact Eu<|FJ c);have fA:CF (AA r i) (AA r<|i-1)<|AA r<|i+1:=by
  have:=S.fork<|i-1;rw[em]at this;exact this
 have f1:=p.L4 S;have f2:=p.JW S;have Ih:((AA r j).2-(AA r i).2)*AH (AA r<|i-1) (AA r i) (AA r<|i+1)=((AA r<|i+1).2-(AA r i).2)*AH (AA r<|i-1) (AA r i) (AA r j)+((AA r<|i-1).2-(AA r i).2)*AH (AA r i) (AA r<|i+1) (AA r j):=by unfold AH;grind
 have t1:AH (AA r i) (AA r<|i-1) (AA r j) = - AH (AA r<|i-1) (AA r i) (AA r j):=by unfold AH;grind
 have t2:AH (AA r i) (AA r j) (AA r<|i-1)=AH (AA r<|i-1) (AA r i) (AA r j):=by unfold AH;grind
 have t3:AH (AA r i) (AA r j) (AA r<|i+1) = - AH (AA r i) (AA r<|i+1) (AA r j):=by unfold AH;grind
 have t4:AH (AA r i) (AA r<|i-1) (AA r<|i+1) = - AH (AA r<|i-1) (AA r i) (AA r<|i+1):=by unfold AH;grind
 have t5:AH (AA r i) (AA r<|i+1) (AA r<|i-1)=AH (AA r<|i-1) (AA r i) (AA r<|i+1):=by unfold AH;grind
 have OP:((AA r i).2<(AA r<|i-1).2/\(AA r i).2<(AA r<|i+1).2)\/((AA r<|i-1).2<(AA r i).2/\(AA r<|i+1).2<(AA r i).2)->AH (AA r<|i-1) (AA r i) (AA r<|i+1)≠0:=λh c=>Rc fA h (by rw[t4,c];rfl);have OE:=Rc f1;have OG:=Rc f2;have uU:yy r (i-1)=(AA r<|i-1).2:=rfl;have uV:yy r (i+1)=(AA r<|i+1).2:=rfl;have uA:yy r i=(AA r i).2:=rfl;have uB:yy r j=(AA r j).2:=rfl;have cV:∀{H:Int},AK r H i≠0->Rr r H i+ind (yy r i<yy r (i+1))=1:=λh=>C h;have cU:∀{H:Int},AK r H (i-1)≠0->Rr r H (i-1)+ind (yy r (i-1)<yy r i)=1:=λh=>by
  have:=C h;unfold cc at this;rw[em]at this;exact this
 have key:∀(H:Int)(z:Int),RQ r H (AA r i) (AA r j)=z->((z=1/\DU (AA r<|i-1) (AA r i) (AA r<|i+1) (AA r j))\/(z=0/\¬ DU (AA r<|i-1) (AA r i) (AA r<|i+1) (AA r j)))->((RQ r H (AA r i) (AA r j)=1/\DU (AA r<|i-1) (AA r i) (AA r<|i+1) (AA r j))\/(RQ r H (AA r i) (AA r j)=0/\¬ DU (AA r<|i-1) (AA r i) (AA r<|i+1) (AA r j))):=λH z e h=>by rw[e];exact h
 rcases AAk gB with bB|bB
 .-- Iz Uv jR down
  refine⟨yy r i-1,.inr ⟨J,J⟩,key _ _ (sQ<|.inr rfl) ?_⟩;rcases AAk gU with bU|bU<;>rcases AAk gV with bV|bV
  .-- both below
   have n1:=OE<|.inr ⟨J,J⟩;have n2:=OG<|.inr ⟨J,J⟩;have s1:AK r (yy r i-1) (i-1)=1:=by unfold AK;rw[em,AAH ⟨J,J⟩]
   have s2:AK r (yy r i-1) i = -1:=E1 J J;have e1:=sV<|.inr rfl;rw[eV,iV,s1,s2]at e1;have c1:=cV (H:=yy r i-1) J;rw[Ai J]at c1;have k1:=FI<|Ka (A:=AA r i) (X:=AA r<|i+1) (Y:=AA r<|i-1) J J;have k2:=FI<|Ka (A:=AA r i) (X:=AA r j) (Y:=AA r<|i-1) J J;have k3:=FI<|Ka (A:=AA r i) (X:=AA r j) (Y:=AA r<|i+1) J J;rw[t5]at k1;rw[t2]at k2;rw[t3]at k3;rw[t1]at n2;rw[s1,s2];have Fg:=OP<|.inr ⟨bU,bV⟩;exact ik Fg n1 n2 J k1 k2 k3<|JB (p:=((AA r i).2-(AA r j).2)) (q:=((AA r i).2-(AA r<|i+1).2)) (t:=((AA r i).2-(AA r<|i-1).2)) (b:=AH (AA r i) (AA r<|i+1)<|AA r j) (c:=AH (AA r<|i-1) (AA r i)<|AA r j) J J J (wU Ih)<|.inl Fg
  .-- U below,V above
   have n2:=OG<|.inr ⟨J,J⟩;have s1:AK r (yy r i-1) (i-1)=1:=by unfold AK;rw[em,AAH ⟨J,J⟩]
   have s2:AK r (yy r i-1) i=0:=by unfold AK;rw[AAG J,AAG J]
   have e1:=sU<|.inr rfl;rw[eU,iU,s1,s2]at e1;have c1:=cU (H:=yy r i-1) J;rw[Ay J]at c1;have k2:=FI<|Ka (A:=AA r i) (X:=AA r j) (Y:=AA r<|i-1) J J;rw[t2]at k2;rw[t1]at n2;rw[s1,s2];exact il n2 J k2<|JB (p:=((AA r i).2-(AA r j).2)) (q:=((AA r<|i+1).2-(AA r i).2)) (t:=((AA r i).2-(AA r<|i-1).2)) (b:=AH (AA r i) (AA r<|i+1)<|AA r j) (c:=-AH (AA r<|i-1) (AA r i) (AA r j)) J J J (wV Ih)<|.inr<|.inr n2
  .-- U above,V below
   have n1:=OE<|.inr ⟨J,J⟩;have s1:AK r (yy r i-1) (i-1)=0:=by unfold AK;rw[em,AAG J,AAG J]
   have s2:AK r (yy r i-1) i = -1:=E1 J J;have e1:=sV<|.inr rfl;rw[eV,iV,s1,s2]at e1;have c1:=cV (H:=yy r i-1) J;rw[Ai J]at c1;have k3:=FI<|Ka (A:=AA r i) (X:=AA r j) (Y:=AA r<|i+1) J J;rw[t3]at k3;rw[s1,s2];exact ip n1 J k3<|JB (p:=((AA r i).2-(AA r j).2)) (q:=((AA r i).2-(AA r<|i+1).2)) (t:=((AA r<|i-1).2-(AA r i).2)) (b:=-AH (AA r i) (AA r<|i+1) (AA r j)) (c:=AH (AA r<|i-1) (AA r i)<|AA r j) J J J (wW Ih)<|.inr<|.inl<|Int.neg_ne_zero.mpr n1
  .-- both above
   have s1:AK r (yy r i-1) (i-1)=0:=by unfold AK;rw[em,AAG J,AAG J]
   have s2:AK r (yy r i-1) i=0:=by unfold AK;rw[AAG J,AAG J]
   have s3:AK r (yy r i) (i-1) = -1:=by unfold AK;rw[em,AAG J,AAH ⟨J,J⟩]
   have s4:AK r (yy r i) i=1:=E2 J J;have e1:=sV<|.inl rfl;rw[eV,iV,s3,s4]at e1;have c1:=cV (H:=yy r i) J;rw[Ay J]at c1;have k1:=FI<|JO (A:=AA r i) (X:=AA r<|i+1) (Y:=AA r<|i-1) J J;rw[t4]at k1;rw[s1,s2];have Fg:=OP<|.inl ⟨bU,bV⟩;exact iq Fg AAA k1<|JB (p:=((AA r i).2-(AA r j).2)) (q:=((AA r<|i+1).2-(AA r i).2)) (t:=((AA r<|i-1).2-(AA r i).2)) (b:=-AH (AA r i) (AA r<|i+1) (AA r j)) (c:=-AH (AA r<|i-1) (AA r i) (AA r j)) AAA AAA AAA (wX Ih)<|.inl Fg
 .-- Iz Uv jR up
  refine⟨yy r i,.inl ⟨AAA,AAA⟩,key _ _ (sQ<|.inl rfl) ?_⟩;rcases AAk gU with bU|bU<;>rcases AAk gV with bV|bV
  .-- both below
   have s1:AK r (yy r i) (i-1)=0:=by unfold AK;rw[em,AAG J,AAG J]
   have s2:AK r (yy r i) i=0:=by unfold AK;rw[AAG J,AAG J]
   have s3:AK r (yy r i-1) (i-1)=1:=by unfold AK;rw[em,AAH ⟨J,J⟩]
   have s4:AK r (yy r i-1) i = -1:=E1 J J;have e1:=sV<|.inr rfl;rw[eV,iV,s3,s4]at e1;have c1:=cV (H:=yy r i-1) J;rw[Ai J]at c1;have k1:=FI<|Ka (A:=AA r i) (X:=AA r<|i+1) (Y:=AA r<|i-1) AAA AAA;rw[t5]at k1;rw[s1,s2];have Fg:=OP<|.inr ⟨bU,bV⟩;exact ir Fg AAA k1<|JB (p:=((AA r j).2-(AA r i).2)) (q:=((AA r i).2-(AA r<|i+1).2)) (t:=((AA r i).2-(AA r<|i-1).2)) (b:=-AH (AA r i) (AA r<|i+1) (AA r j)) (c:=-AH (AA r<|i-1) (AA r i) (AA r j)) AAA AAA AAA (wY Ih)<|.inl Fg
  .-- U below,V above
   have n1:=OE<|.inl ⟨AAA,AAA⟩;have s1:AK r (yy r i) (i-1)=0:=by unfold AK;rw[em,AAG AAA,AAG AAA]
   have s2:AK r (yy r i) i=1:=E2 AAA AAA;have e1:=sV<|.inl rfl;rw[eV,iV,s1,s2]at e1;have c1:=cV (H:=yy r i) AAA;rw[Ay AAA]at c1;have k3:=FI<|JO (A:=AA r i) (X:=AA r j) (Y:=AA r<|i+1) AAA AAA;rw[s1,s2];exact iu n1 AAA k3<|JB (p:=((AA r j).2-(AA r i).2)) (q:=((AA r<|i+1).2-(AA r i).2)) (t:=((AA r i).2-(AA r<|i-1).2)) (b:=-AH (AA r i) (AA r<|i+1) (AA r j)) (c:=AH (AA r<|i-1) (AA r i)<|AA r j) AAA AAA AAA (wZ Ih)<|.inr<|.inl<|Int.neg_ne_zero.mpr n1
  .-- U above,V below
   have n2:=OG<|.inl ⟨AAA,AAA⟩;have s1:AK r (yy r i) (i-1) = -1:=by unfold AK;rw[em,AAG AAA,AAH ⟨AAA,AAA⟩]
   have s2:AK r (yy r i) i=0:=by unfold AK;rw[AAG AAA,AAG AAA]
   have e1:=sU<|.inl rfl;rw[eU,iU,s1,s2]at e1;have c1:=cU (H:=yy r i) AAA;rw[Ai J]at c1;have k2:=FI<|JO (A:=AA r i) (X:=AA r j) (Y:=AA r<|i-1) AAA AAA;rw[t1]at k2;rw[t1]at n2;rw[s1,s2];exact iw n2 AAA k2<|JB (p:=((AA r j).2-(AA r i).2)) (q:=((AA r i).2-(AA r<|i+1).2)) (t:=((AA r<|i-1).2-(AA r i).2)) (b:=AH (AA r i) (AA r<|i+1)<|AA r j) (c:=-AH (AA r<|i-1) (AA r i) (AA r j)) AAA AAA AAA (wa Ih)<|.inr<|.inr n2
  .-- both above
   have n1:=OE<|.inl ⟨AAA,AAA⟩;have n2:=OG<|.inl ⟨AAA,AAA⟩;have s1:AK r (yy r i) (i-1) = -1:=by unfold AK;rw[em,AAG AAA,AAH ⟨AAA,AAA⟩]
   have s2:AK r (yy r i) i=1:=E2 J J;have e1:=sV<|.inl rfl;rw[eV,iV,s1,s2]at e1;have c1:=cV (H:=yy r i) J;rw[Ay J]at c1;have k1:=FI<|JO (A:=AA r i) (X:=AA r<|i+1) (Y:=AA r<|i-1) AAA AAA;have k2:=FI<|JO (A:=AA r i) (X:=AA r j) (Y:=AA r<|i-1) AAA AAA;have k3:=FI<|JO (A:=AA r i) (X:=AA r j) (Y:=AA r<|i+1) AAA AAA;rw[t4]at k1;rw[t1]at k2;rw[t1]at n2;rw[s1,s2];have Fg:=OP<|.inl ⟨bU,bV⟩;exact ix Fg n1 n2 AAA k1 k2 k3<|JB (p:=((AA r j).2-(AA r i).2)) (q:=((AA r<|i+1).2-(AA r i).2)) (t:=((AA r<|i-1).2-(AA r i).2)) (b:=AH (AA r i) (AA r<|i+1)<|AA r j) (c:=AH (AA r<|i-1) (AA r i)<|AA r j) AAA AAA AAA (wb Ih)<|.inl Fg
theorem Yl(k:Int):Keeps (lean k) 1 where
 one:=.inl rfl
 sd:=λa b c=>by rw[M8,ADD]
 at_:=λa b p=>by
  unfold At lean;constructor
  .rintro⟨q,s,h1,h2,h3,e1,e2⟩;exact⟨q,s,h1,h2,h3,by dsimp only at *;grind,z9⟩
  .rintro⟨q,s,h1,h2,h3,e1,e2⟩;exact⟨q,s,h1,h2,h3,by dsimp only at *;grind,z9⟩
 inj:=λa b h=>by
  unfold lean at h;rw[ACQ]at h;obtain⟨h1,h2⟩:=h;rw[h1]at h2;exact ABD h1 J
theorem aX{k:Int}{a b c d:Pt}(h:Bl (lean k a) (lean k b) (lean k c)<|lean k d):Bl a b c d:=by
 obtain⟨q,s,t,h1,h2,h3,h4,h5,e1,e2⟩:=h;unfold lean at e1 e2;dsimp only at e1 e2;exact⟨q,s,t,h1,h2,h3,h4,h5,e1,z9⟩
theorem pq{a1 a2 b1 b2 c1 c2:Int}(ha:¬ (a1=0/\a2=0))(hb:¬ (b1=0/\b2=0))(hc:¬ (c1=0/\c2=0)):∃k:Int,0<k/\a2+k*a1≠0/\b2+k*b1≠0/\c2+k*c1≠0:=by
 by_cases h1:a2+1*a1≠0/\b2+1*b1≠0/\c2+1*c1≠0
 .exact⟨1,J,h1⟩
 by_cases h2:a2+2*a1≠0/\b2+2*b1≠0/\c2+2*c1≠0
 .exact⟨2,J,h2⟩
 by_cases h3:a2+3*a1≠0/\b2+3*b1≠0/\c2+3*c1≠0
 .exact⟨3,J,h3⟩
 .exact⟨4,J,J,J,J⟩
theorem QL{k:Int}{U A V B:Pt}:DU (lean k U) (lean k A) (lean k V) (lean k B)↔DU U A V B:=by
 unfold DU;rw[M8,M8,M8]
theorem Probe.fv{r:List Pt}(R:Rm r){i j:Int}(p:Probe r i j) : (W (r.map dbl) ((AA r i).1+(AA r j).1,(AA r i).2+(AA r j).2)=1/\DU (AA r<|i-1) (AA r i) (AA r<|i+1) (AA r j))\/(W (r.map dbl) ((AA r i).1+(AA r j).1,(AA r i).2+(AA r j).2)=0/\¬ DU (AA r<|i-1) (AA r i) (AA r<|i+1) (AA r j)):=by
 have S:=R.simple;have h3:=S.l3;have MN:0<r.length:=J
 obtain⟨f0,f1,f2,f3⟩:=RZ J p.Cc;rw[show -(i-j)=j-i by lia]at f2 f3;have Jb:AA r j≠AA r i:=S.distinct f2 f3;have hb:=R.Ck i;have L8:AA r (i+1)≠AA r i:=λc=>hb (by rw[c];unfold AH;grind);have jx:=R.KU i;have jT:AA r (i-1)≠AA r i:=λc=>jx (by rw[c];unfold AH;grind);have TV:∀{X Y:Pt},X≠Y->¬ (X.1-Y.1=0/\X.2-Y.2=0):=λ{X Y} h c=>h<|ABD J J;obtain⟨k,hk,k1,k2,k3⟩:=pq (TV jT) (TV L8)<|TV Jb;have R':Rm<|r.map<|lean k:=R.map<|Yl k;have S':=R'.simple;have hc:∀m,AA (r.map<|lean k) m=lean k (AA r m):=λm=>Kc MN k m;have hy:∀m,yy (r.map<|lean k) m=(AA r m).2+k*(AA r m).1:=λm=>by unfold yy;rw[hc];rfl
 have p':Probe (r.map<|lean k) i j:=by
  refine Tu S' R'.Ck (by rw[AAO];exact p.Cc) λm a b c d h=>?_;rw[AAO]at a b c d;rw[hc,hc,hc,hc]at h;exact p.nt m a b c d<|aX h
 have hW:W (r.map dbl) ((AA r i).1+(AA r j).1,(AA r i).2+(AA r j).2)=W ((r.map<|lean k).map dbl) ((AA (r.map<|lean k) i).1+(AA (r.map<|lean k) j).1,(AA (r.map<|lean k) i).2+(AA (r.map<|lean k) j).2):=by
  have:=dN (r:=r.map dbl) (by simpa using MN) hk (p:=((AA r i).1+(AA r j).1,(AA r i).2+(AA r j).2)) (λm=>by
   rw[DA MN,DA MN];exact p.TR S m)
  rw[<-this,hc,hc]
  congr 1
  .rw[AA2,AA2];apply ACk;intro x _;unfold lean dbl;simp only[Function.comp];exact ABD rfl z9
  .unfold lean;exact ABD rfl z9
 have em:∀a b c d:Int,b-d+k*(a-c)≠0->b+k*a≠d+k*c:=λa b c d h z=>h z9;obtain⟨H,hH,YG⟩:=Probe.V6 S' (λh=>R'.Vs h) p' (by rw[hy,hy];exact em _ _ _ _ k1) (by rw[hy,hy];exact em _ _ _ _ k2) (by rw[hy,hy];exact em _ _ _ _ k3);have hm:=p'.mid S';rw[p'.along S' (h:=(yy (r.map<|lean k) i+yy (r.map<|lean k) j) / 2) (h':=H) J hH]at hm;rw[hW,hm];rw[hc,hc,hc,hc,QL]at YG;rw[hc,hc];exact YG
def pr(a b p:Pt):Bool:=((decide (a.2>p.2)) != (decide (b.2>p.2)))&&(if decide (b.2>p.2)=true then decide (AH a b p>0)else decide (AH a b p<0))
theorem qG(a b p:Pt):(pr a b p=true/\(fw a b p=1\/fw a b p = -1))\/(pr a b p=false/\fw a b p=0):=by
 unfold pr fw;by_cases h1:a.2>p.2<;>by_cases h2:b.2>p.2<;>by_cases h3:AH a b p>0<;>by_cases h4:AH a b p<0<;>simp[h1,h2,h3,h4]<;>lia
theorem ZM(r:List Pt)(p:Pt):∀n:Nat,(((List.range n).filter λk:Nat=>pr (AA r k) (AA r<|(k:Int)+1) p).length:Int)%2=AW (λj=>fw (AA r j) (AA r<|j+1) p) n%2
 |0=>rfl
 |n+1=>by
  have ih:=ZM r p n;rw[ACA,List.filter_append,AAn,AW];rcases qG (AA r (n:Int)) (AA r<|(n:Int)+1) p with⟨a,b⟩|⟨a,b⟩
  .have:([n].filter λk:Nat=>pr (AA r k) (AA r<|(k:Int)+1) p).length=1:=by simp[a]
   rw[this];lia
  .have:([n].filter λk:Nat=>pr (AA r k) (AA r<|(k:Int)+1) p).length=0:=by simp[a]
   rw[this,b];lia
theorem A3.nX{r:List Pt}(S:A3 r){p:Pt}(hp:∀j:Int,¬ At (AA r j) (AA r<|j+1) p):(((List.range r.length).filter λk:Nat=>pr (AA r k) (AA r<|(k:Int)+1) p).length:Int)%2=1↔W r p≠0:=by
 rw[ZM];have:=S.dM hp;unfold W at *
 lia
section
variable{r:List Pt}(S:A3 r)
include S
theorem A3.ae(k:Int):AA r (k+1)≠AA r k:=λc=>by
 have:=(S.fork k 1 0 J J J J).1;lia
theorem A3.inj{m j:Int}(e:AA r m=AA r j):(m-j)%(r.length:Int)=0:=by
 rcases S.cases m j with a|a|a|a
 .exact a
 .exact absurd ((S.next a).1.symm.trans e) (S.ae j)
 .exact absurd ((S.next a).1.symm.trans e.symm) (S.ae m)
 .exact absurd e (S.distinct a.1 a.2.1)
end
def GL(r:List Pt)(A B:Pt)(k:Int):Bool:=(!(decide (A=AA r k)||decide (A=AA r (k+1))))&&(!(decide (B=AA r k)||decide (B=AA r (k+1))))
def He(r:List Pt)(A B:Pt):Bool:=(List.range r.length).any λk=>GL r A B k&&BC A B (AA r k) (AA r<|(k:Int)+1)
def Jp(r:List Pt)(i j:Int):Bool:=(List.range r.length).any λk=>((!((k:Int)==i||(k:Int)==j))&&Ar (AA r i) (AA r j) (AA r k))||(((!((k:Int)==i||(k:Int)==j))&&(!(((k:Int)+1)%(r.length:Int)==i||((k:Int)+1)%(r.length:Int)==j)))&&Bg (AA r i) (AA r j) (AA r k) (AA r<|((k:Int)+1)%(r.length:Int)))
theorem K4{n i k:Int}(hi:0<=i)(CQ:i<n)(hk:0<=k)(Bi:k<n):(i-k)%n=0↔k=i:=by
 constructor
 .intro h;have e:(i-k)=n*((i-k) / n):=by have:=ABl (i-k) n;lia
  have h1:(i-k) / n=0:=by
   have a:(i-k) / n<1:=by
    apply Int.ediv_lt_of_lt_mul J;lia
   have b : -1<(i-k) / n:=by
    by_cases c : -1<(i-k) / n
    .exact c
    .exfalso;have h2:((i-k) / n+1)<=0:=J
     have h3:((i-k) / n+1)*n<=0:=ABU h2 J;lia
   lia
  rw[h1]at e;lia
 .rintro rfl;simp
theorem PJ{n i k:Int}(hn:2<=n)(hi:0<=i)(CQ:i<n):(i-k)%n=1↔(k+1)%n=i:=by
 constructor
 .intro h;have:(i-(k+1))%n=0:=by
   rw[show i-(k+1)=(i-k)-1 by lia,ABS,h,AAF (a:=1) J J];simp
  have e:(k+1)%n=i%n:=by
   rw[show k+1=i-(i-(k+1))by lia,ABS,‹(i-(k+1))%n=0›];simp
  rw[e,AAF hi CQ]
 .intro h;have:(i-k)%n=((k+1)%n-k)%n:=by rw[h]
  rw[this,ABS,AAr _<|ABR n,<-ABS,show k+1-k=1 by lia,AAF J J]
section
variable{r:List Pt}(S:A3 r)
include S
theorem XI{i j k:Int}:GL r (AA r i) (AA r j) k=true↔((i-k)%(r.length:Int)≠0/\(i-k)%(r.length:Int)≠1)/\((j-k)%(r.length:Int)≠0/\(j-k)%(r.length:Int)≠1):=by
 have h3:=S.l3;have one:∀i:Int,(AA r i=AA r k\/AA r i=AA r (k+1))↔((i-k)%(r.length:Int)=0\/(i-k)%(r.length:Int)=1):=λi=>by
  constructor
  .rintro(h|h)
   .exact .inl<|S.inj h
   .right;have:=S.inj h;rw[show i-k=(i-(k+1))+1 by lia,ABX,this,AAF (a:=1) J J,ABI,AAF J J]
  .rintro(h|h)
   .exact .inl<|Aw h
   .exact .inr (S.next h).1
 have oi:=one i;have oj:=one j;unfold GL;simp only[AAJ,AAy,AAt,ABo];constructor
 .rintro⟨⟨a,b⟩,c,d⟩;exact⟨⟨λz=>(oi.mpr<|.inl z).elim a b,λz=>(oi.mpr<|.inr z).elim a b⟩,λz=>(oj.mpr<|.inl z).elim c d,λz=>(oj.mpr<|.inr z).elim c d⟩
 .rintro⟨⟨a,b⟩,c,d⟩;exact⟨⟨λz=>(oi.mp<|.inl z).elim a b,λz=>(oi.mp<|.inr z).elim a b⟩,λz=>(oj.mp<|.inl z).elim c d,λz=>(oj.mp<|.inr z).elim c d⟩
theorem Zx(Ck:∀k:Int,AH (AA r k) (AA r<|k+1) (AA r<|k+1+1)≠0){i j:Int}(hf:Bs r.length<|i-j):He r (AA r i) (AA r j)=false↔Probe r i j:=by
 have h3:=S.l3;have hn:(0:Int)<r.length:=J
 unfold He;rw[ABp];constructor
 .intro h;refine Tu S Ck hf λk a b c d hs=>?_;have k0:=AAj k (b:=(r.length:Int)) J;have k1:=AAY k hn;have hc:((k%(r.length:Int)).toNat:Int)=k%(r.length:Int):=AAW k0;have hk:=h (k%(r.length:Int)).toNat<|AAP.mpr J;rw[hc]at hk;apply hk;have e1:AA r (k%(r.length:Int))=AA r k:=FC r k;have e2:AA r (k%(r.length:Int)+1)=AA r (k+1):=by
   rw[<-FC r<|k%(r.length:Int)+1,<-FC r<|k+1,ABX,AAr _<|ABR _,<-ABX]
  rw[AAJ,e1,e2];refine⟨?_,TN hs⟩;have:=(XI S (i:=i) (j:=j) (k:=k)).mpr ⟨⟨a,b⟩,c,d⟩;unfold GL at this ⊢;rw[e1,e2];exact this
 .intro p k hk;rw[AAJ];rintro⟨h1,h2⟩;obtain⟨⟨a,b⟩,c,d⟩:=(XI S).mp h1;exact p.nt k a b c d<|UJ h2
theorem O6(Ck:∀k:Int,AH (AA r k) (AA r<|k+1) (AA r<|k+1+1)≠0){i j:Int}(hi:0<=i)(CQ:i<r.length)(hj:0<=j)(CJ:j<r.length)(hf:Bs r.length<|i-j):Jp r i j=false↔Probe r i j:=by
 have h3:=S.l3;have hn:(0:Int)<r.length:=J
 unfold Jp;rw[ABp];constructor
 .intro h;refine Tu S Ck hf λk a b c d hs=>?_;have k0:=AAj k (b:=(r.length:Int)) J;have k1:=AAY k hn;have hc:((k%(r.length:Int)).toNat:Int)=k%(r.length:Int):=AAW k0;have hk:=h (k%(r.length:Int)).toNat<|AAP.mpr J;rw[hc]at hk;apply hk;have ec:∀x:Int,(x-k%(r.length:Int))%(r.length:Int)=(x-k)%(r.length:Int):=λx=>by rw[ABS,AAr _<|ABR _,<-ABS]
  have e1:AA r (k%(r.length:Int))=AA r k:=FC r k;have e2:AA r ((k%(r.length:Int)+1)%(r.length:Int))=AA r (k+1):=by
   rw[FC,<-FC r<|k%(r.length:Int)+1,<-FC r<|k+1,ABX,AAr _<|ABR _,<-ABX]
  rw[<-ec]at a b c d;have a':¬ k%(r.length:Int)=i:=λz=>a<|(K4 hi CQ k0 k1).mpr z;have c':¬ k%(r.length:Int)=j:=λz=>c<|(K4 hj CJ k0 k1).mpr z;have b':¬ (k%(r.length:Int)+1)%(r.length:Int)=i:=λz=>b<|(PJ J hi CQ).mpr z;have d':¬ (k%(r.length:Int)+1)%(r.length:Int)=j:=λz=>d<|(PJ J hj CJ).mpr z;rw[ABq];right;rw[e1,e2,PD,TN hs,AAd.mpr a',AAd.mpr b',AAd.mpr c',AAd.mpr d']
  rfl
 .intro p k hk;have Bi:=AAP.mp hk;intro h;rw[ABq]at h;rcases h with h|h
  .simp only[AAJ,AAy,AAt,AAd]at h;obtain⟨⟨a,b⟩,c⟩:=h;exact p.br S (m:=(k:Int)) (λz=>a<|(K4 hi CQ J J).mp z) (λz=>b<|(K4 hj CJ J J).mp z)<|PZ.mp<|FL.mp c
  .simp only[AAJ,AAy,AAt,AAd]at h;obtain⟨⟨⟨a,b⟩,c,d⟩,e⟩:=h;rw[PD,FC]at e;exact p.nt k (λz=>a<|(K4 hi CQ J J).mp z) (λz=>c<|(PJ J hi CQ).mp z) (λz=>b<|(K4 hj CJ J J).mp z) (λz=>d<|(PJ J hj CJ).mp z)<|UJ e
theorem A3.dbl:A3<|r.map dbl:=by
 have h3:=S.l3;have hn:0<r.length:=J
 refine⟨by rw[AAO];exact h3,λk=>?_,λk=>?_,λi j h hs=>?_⟩
 .rw[DA hn,DA hn,DA hn];intro s t hs ht e1 e2;unfold AL.dbl at e1 e2;exact S.fork k s t hs ht z9 z9
 .rw[DA hn,DA hn,DA hn];have:=S.hh k;unfold AL.dbl;lia
 .rw[AAO]at h;rw[DA hn,DA hn,DA hn,DA hn]at hs;refine S.apart i j h ?_;obtain⟨q,s,t,a1,a2,a3,a4,a5,e1,e2⟩:=hs;unfold AL.dbl at e1 e2;exact⟨q,s,t,a1,a2,a3,a4,a5,z9,z9⟩
end
def Er(w:List Pt)(p:Pt):Bool:=!((List.range w.length).any λk=>Ar (AA w k) (AA w<|(k:Int)+1) p)&&((((List.range w.length).filter λk:Nat=>pr (AA w k) (AA w<|(k:Int)+1) p).length:Int)%2==1)
def Lr(U A V B:Pt):Bool:=if AH U A V>0 then decide (AH A V B>0)&&decide (AH U A B>0)else decide (AH A V B>0)||decide (AH U A B>0)
theorem RD{U A V B:Pt}:Lr U A V B=true↔DU U A V B:=by
 unfold Lr DU;by_cases h:AH U A V>0
 .simp[h]
 .simp[h]
theorem mW{r:List Pt}(R:Rm r){i j:Int}(hi:0<=i)(CQ:i<r.length)(hj:0<=j)(CJ:j<r.length)(hf:Bs r.length<|i-j) : (!He r (AA r i) (AA r j)&&Er (r.map dbl) ((AA r i).1+(AA r j).1,(AA r i).2+(AA r j).2))=(!Jp r i j&&Lr (AA r<|i-1) (AA r i) (AA r<|i+1) (AA r j)):=by
 have S:=R.simple;have h3:=S.l3;have hn:0<r.length:=J
 by_cases p:Probe r i j
 .rw[(Zx S R.Ck hf).mpr p,(O6 S R.Ck hi CQ hj CJ hf).mpr p,ADm,ABV,ABV];have D:=S.dbl;have off:∀k:Int,¬ At (AA (r.map dbl) k) (AA (r.map dbl)<|k+1) ((AA r i).1+(AA r j).1,(AA r i).2+(AA r j).2):=λk=>by
   rw[DA hn,DA hn];exact p.TR S k
  have ho:=D.nX off;have e:Er (r.map dbl) ((AA r i).1+(AA r j).1,(AA r i).2+(AA r j).2)=true↔W (r.map dbl) ((AA r i).1+(AA r j).1,(AA r i).2+(AA r j).2)≠0:=by
   unfold Er;rw[AAJ,ABt,ho];constructor
   .exact λh=>h.2
   .refine λh=>⟨?_,h⟩;rw[AAy,ABp];intro k _ hk;exact off k<|PZ.mp<|FL.mp hk
  rw[AB9,e,RD];rcases p.fv R with⟨a,b⟩|⟨a,b⟩
  .rw[a];simp[b]
  .rw[a];simp[b]
 .have a:He r (AA r i) (AA r j)=true:=by
   cases h:He r (AA r i)<|AA r j
   .exact absurd ((Zx S R.Ck hf).mp h) p
   .rfl
  have b:Jp r i j=true:=by
   cases h:Jp r i j
   .exact absurd ((O6 S R.Ck hi CQ hj CJ hf).mp h) p
   .rfl
  rw[a,b];rfl
def sub(r:List Pt)(s:Int)(l:Nat):List Pt:=(List.range<|l+1).map λk:Nat=>AA r<|s+(k:Int)
theorem sub_len(r:List Pt)(s:Int)(l:Nat):(sub r s l).length=l+1:=by unfold sub;rw[AAO,ABg]
theorem Eg(r:List Pt)(s:Int)(l:Nat):((sub r s l).length:Int)=l+1:=by rw[sub_len];lia
theorem BG(r:List Pt)(s:Int)(l:Nat){k:Int}(h0:0<=k)(h1:k<=l):AA (sub r s l) k=AA r (s+k):=by
 have hk:=AAW h0;unfold AA;rw[Eg,AAF h0 J];rw[AA0];unfold sub;rw[ABK,ADr J];simp only[AA5,Option.getD_some];unfold AA;rw[hk]
theorem Gh(r:List Pt)(s:Int)(l:Nat):AA (sub r s l) (l+1)=AA r s:=by
 have:=Aw (r:=sub r s l)   (by rw[Eg,ACJ,ACg]);rw[this,BG r s l J J,AAm]
theorem J2(r:List Pt)(s:Int)(l:Nat)(k:Int):∃m:Int,0<=m/\m<=l/\(k-m)%((sub r s l).length)=0:=by
 refine⟨k%((l)+1),AAj _ J,by have:=AAY k (J:(0:Int)<(l)+1);lia,?_⟩;rw[Eg,ABS,AAr _<|ABR _,ABf]
 rfl
theorem JR{r:List Pt}(i:Int):AA r (i+r.length)=AA r i:=EO r i
def tm(H:Int)(A B a b:Pt):Int:=ind (Lt A B a b)*(if a.2<=H/\H<b.2 then 1 else if b.2<=H/\H<a.2 then -1 else 0)
theorem wO(H:Int)(A B a b:Pt):tm H A B b a = - tm H A B a b:=by
 unfold tm;have e:ind (Lt A B b a)=ind (Lt A B a b):=by
  by_cases c:Lt A B a b
  .rw[Ay c,Ay<|FJ c]
  .rw[Ai c,Ai λz=>c<|FJ z]
 rw[<-AC4]
 congr 1
 (repeat' split)<;>lia
theorem dH(r:List Pt)(H:Int)(A B:Pt):RQ r H A B=AW (λk=>tm H A B (AA r k)<|AA r<|k+1) r.length:=rfl
theorem VR(r:List Pt)(H:Int)(A B:Pt):RQ r H B A=RQ r H A B:=by
 refine Bw λk _=>?_;by_cases c:Lt A B (AA r<|k)<|AA r<|(k)+1
 .rw[Ay c,Ay<|Eu c]
 .rw[Ai c,Ai λz=>c<|Eu z]
theorem aj(f:Int->Int)(m:Nat):∀k:Nat,AW f (m+k)=AW f m+AW (λj=>f<|m+j) k
 |0=>by simp[AW]
 |k+1=>by
  show AW f (m+k)+f ((m+k))=AW f m+(AW (λj=>f<|m+j) k+f (m+(k)));rw[aj f m k];lia
theorem VS(r:List Pt)(s:Int)(l:Nat)(H:Int)(A B:Pt):RQ (sub r s l) H A B=AW (λk=>tm H A B (AA r<|s+k)<|AA r<|s+k+1) l+tm H A B (AA r<|s+l) (AA r s):=by
 rw[dH,sub_len];show AW _ l+tm H A B (AA (sub r s l) l) (AA (sub r s l)<|(l)+1)=_;rw[Gh,BG r s l J J]
 congr 1
 refine Bw λk hk=>?_;rw[BG r s l J J,BG r s l J J,Int.add_assoc]
theorem VQ{r:List Pt}{s:Int}{l:Nat}(hl:l<=r.length)(h0:0<r.length)(H:Int)(A B:Pt):RQ r H A B=RQ (sub r s l) H A B+RQ (sub r (s+l)<|r.length-l) H A B:=by
 rw[VS,VS];have e1:s+(l)+((r.length-l:Nat))=s+r.length:=J
 rw[e1,JR,wO H A B (AA r<|s+(l))<|AA r s];have e2:RQ r H A B=AW (λk=>tm H A B (AA r<|s+k)<|AA r<|s+k+1) r.length:=by
  exact(P0 (f:=λk=>tm H A B (AA r k)<|AA r<|k+1) h0 (λa b h=>by
   rw[Aw h,Aw<|Bo h]) s).symm
 rw[e2];have e3:=aj (λk=>tm H A B (AA r<|s+k)<|AA r<|s+k+1) l<|r.length-l;rw[show l+(r.length-l)=r.length by lia]at e3;rw[e3];have e4:AW (λj=>tm H A B (AA r<|s+((l)+j))<|AA r<|s+((l)+j)+1) (r.length-l)=AW (λk=>tm H A B (AA r<|s+(l)+k)<|AA r<|s+(l)+k+1) (r.length-l):=by
  refine Bw λk _=>?_;rw[<-Int.add_assoc s]
 rw[e4];lia
def Line(r:List Pt)(i j:Int):Prop:=Probe r i j/\DU (AA r<|i-1) (AA r i) (AA r<|i+1) (AA r j)
structure Sm(r:List Pt):Prop where
 s:A3 r
 c:∀{h j:Int},AK r h j≠0->cc r h j=1
 g:∀i j:Int,yy r i=yy r j->(i-j)%(r.length:Int)=0
theorem Ik{n d:Int}(h0:0<d)(h1:d<n):d%n≠0:=by rw[AAF J h1];lia
section
variable{r:List Pt}(S:Sm r)
include S
theorem Sm.gn{i j:Int}(h:(i-j)%(r.length)≠0):yy r i≠yy r j:=λc=>h<|S.g i j c
theorem Sm.g1(i:Int):yy r (i+1)≠yy r i:=by
 have:=S.s.l3;exact S.gn<|by exact Ik J J
theorem Sm.g0(i:Int):yy r (i-1)≠yy r i:=λc=>S.g1 (i-1) (by rw[show i-1+1=i by lia];exact c.symm)
theorem Sm.rq{i j:Int}(p:Probe r i j){H:Int}(h:(yy r i<=H/\H<yy r j)\/(yy r j<=H/\H<yy r i)) : (RQ r H (AA r i) (AA r j)=1/\DU (AA r<|i-1) (AA r i) (AA r<|i+1) (AA r j))\/(RQ r H (AA r i) (AA r j)=0/\¬ DU (AA r<|i-1) (AA r i) (AA r<|i+1) (AA r j)):=by
 obtain⟨H',h',z⟩:=Probe.V6 S.s (λh=>S.c h) p (S.g0 i) (S.g1 i) λc=>p.Cc.1<|S.g i j c.symm;rw[p.along S.s h h'];exact z
theorem Sm.lvl{i j:Int}(h:yy r i≠yy r j):∃H,(yy r i<=H/\H<yy r j)\/(yy r j<=H/\H<yy r i):=by
 rcases AAk h with h|h
 .exact⟨yy r i,.inl ⟨J,h⟩⟩
 .exact⟨yy r j,.inr ⟨J,h⟩⟩
theorem Line.rq{i j:Int}(l:Line r i j){H:Int}(h:(yy r i<=H/\H<yy r j)\/(yy r j<=H/\H<yy r i)):RQ r H (AA r i) (AA r j)=1:=by
 rcases S.rq l.1 h with⟨a,_⟩|⟨_,b⟩
 .exact a
 .exact absurd l.2 b
theorem Line.symm{i j:Int}(l:Line r i j):Line r j i:=by
 have p':=l.1.symm S.s;refine⟨p',?_⟩;obtain⟨H,hH⟩:=S.lvl  <|S.gn l.1.Cc.1;have e:=Line.rq S l hH;rcases S.rq p' (H:=H) J with⟨_,b⟩|⟨a,_⟩
 .exact b
 .rw[VR,e]at a;cases a
end
theorem Probe.congr{r:List Pt}{i j i' j':Int}(hi:(i-i')%(r.length)=0)(hj:(j-j')%(r.length)=0)(p:Probe r i j):Probe r i' j':=by
 have ei:∀k:Int,(i'-k)%(r.length)=(i-k)%(r.length):=λk=>by
  rw[show i-k=(i-i')+(i'-k)by lia,ABX,hi,ABI,AAr _<|ABR _]
 have ej:∀k:Int,(j'-k)%(r.length)=(j-k)%(r.length):=λk=>by
  rw[show j-k=(j-j')+(j'-k)by lia,ABX,hj,ABI,AAr _<|ABR _]
 have ed:(i'-j')%(r.length)=(i-j)%(r.length):=by
  rw[ei,show i-j'=(i-j)+(j-j')by lia,ABX<|i-j,hj,AAm,AAr _<|ABR _]
 have c1:=Aw hi;have c2:=Aw<|Bo hi;have c3:=Aw (by rw[show i-1-(i'-1)=i-i' by lia];exact hi);have d1:=Aw hj;have d2:=Aw<|Bo hj;have d3:=Aw (by rw[show j-1-(j'-1)=j-j' by lia];exact hj);refine⟨?_,c1 ▸ c2 ▸ d1 ▸ p.f1,c1 ▸ c3 ▸ d1 ▸ p.f2,d1 ▸ d2 ▸ c1 ▸ p.f3,d1 ▸ d3 ▸ c1 ▸ p.f4,λk a b c d=>?_⟩
 .have:=p.Cc;unfold Bs at this ⊢;rw[ed];exact this
 .rw[ei]at a b;rw[ej]at c d;rw[<-c1,<-d1];exact p.nt k a b c d
theorem Line.congr{r:List Pt}{i j i' j':Int}(hi:(i-i')%(r.length)=0)(hj:(j-j')%(r.length)=0)(l:Line r i j):Line r i' j':=by
 have c1:=Aw hi;have c2:=Aw<|Bo hi;have c3:=Aw (by rw[show i-1-(i'-1)=i-i' by lia];exact hi);have d1:=Aw hj;refine⟨l.1.congr hi hj,?_⟩;rw[<-c1,<-c2,<-c3,<-d1];exact l.2
theorem CS{n d:Int}(h0:0<d)(h1:d<n):(-d)%n=n-d:=by
 rw[show -d=(n-d)+n*(-1)by lia,AA9,AAF J J]
theorem L3{n d:Int}(h:(2<=d/\d<=n-2)\/(2<=-d/\-d<=n-2)):Bs n d:=by
 unfold Bs;rcases h with h|h
 .rw[AAF J AAA];lia
 .have:=CS (n:=n) (d:=-d) AAA AAA;rw[ADE]at this;rw[this];lia
theorem N6{n d:Int}(hn:2<=n)(h:Bs n d)(h1 : -n<d)(h2:d<n):(2<=d/\d<=n-2)\/(2<=-d/\-d<=n-2):=by
 unfold Bs at h;by_cases c:0<=d
 .rw[AAF c h2]at h;lia
 .have:=CS (n:=n) (d:=-d) J J;rw[ADE]at this;rw[this]at h;lia
theorem Y8{n d:Int}(h:d%n=0)(h1 : -n<d)(h2:d<n):d=0:=by
 by_cases c:0<=d
 .rw[AAF c h2]at h;exact h
 .have:=CS (n:=n) (d:=-d) J J;rw[ADE]at this;lia
theorem Mp{n a b c:Int}(h1:(a-b)%n=0)(h2:(b-c)%n=0):(a-c)%n=0:=by
 rw[show a-c=(a-b)+(b-c)by lia,ABX,h1,h2];rfl
theorem ig{n a b c d:Int}(h1:(a-b)%n=0)(h2:(c-d)%n=0)(h:Bs n<|a-c):Bs n<|b-d:=by
 have e:=by
  have h3:(a-c-(b-d))%n=0:=by
   rw[show a-c-(b-d)=(a-b)-(c-d)by lia,ABS,h1,h2];rfl
  exact(AB4.mpr h3).symm
 unfold Bs at h ⊢;rw[e];exact h
section
variable{r:List Pt}(S:Sm r){s:Int}{l:Nat}(l2:2<=l)(ln:l+2<=r.length)
include S l2 ln
theorem ai(i j:Int)(h:yy (sub r s l) i=yy (sub r s l) j):(i-j)%((sub r s l).length)=0:=by
 obtain⟨a,a0,a1,ea⟩:=J2 r s l i;obtain⟨b,b0,b1,eb⟩:=J2 r s l j;rw[Ci ea,Ci eb]at h;unfold yy at h;rw[BG r s l a0 a1,BG r s l b0 b1]at h;have:=S.g (s+a) (s+b) h;have D3:=Y8 this J J;have:a=b:=J
 subst this;exact Mp ea<|CD eb
theorem UW(L:Probe r s<|s+l):A3<|sub r s l:=by
 have hl:=Eg r s l;have a2:∀a:Int,s+(a+1)=s+a+1:=λa=>J
 refine⟨J,λk=>?_,λk h=>?_,λi j hf hs=>?_⟩
 .obtain⟨a,a0,a1,ea⟩:=J2 r s l k;rw[Aw ea,Aw<|Bo ea,Aw<|Bo<|Bo ea];by_cases c1:a+2<=l
  .rw[BG r s l a0 a1,BG r s l  J J,BG r s l  J J,a2,a2,a2];exact S.s.fork<|s+a
  by_cases c2:a+1=l
  .rw[BG r s l a0 a1,c2,Gh,BG r s l J J];have:=L.f4;rw[show s+(l)-1=s+a by lia]at this;exact this
  .have c3:a=l:=J
   subst c3;rw[Gh,BG r s l a0 a1];have e:AA (sub r s l) ((l)+1+1)=AA r (s+1):=by
    rw[Aw   (by rw[hl,show(l:Int)+1+1-1=(l)+1 by lia,ACg]),BG r s l J J]
   rw[e];exact L.f1.symm
 .have:=ai S l2 ln  k (k+1) h;rw[hl,show k-(k+1) = -1 by lia,CS J J]at this;lia
 .obtain⟨a,a0,a1,ea⟩:=J2 r s l i;obtain⟨b,b0,b1,eb⟩:=J2 r s l j;have hf:=ig ea eb hf;rw[hl]at hf;have hd:=N6 J hf J J;rw[Aw ea,Aw<|Bo ea,Aw eb,Aw<|Bo eb]at hs;by_cases ca:a=l
  .rw[ca,Gh,BG r s l J J,BG r s l b0 b1,BG r s l  J J,a2]at hs;refine L.nt (s+b) ?_ ?_ ?_ ?_ (Py hs)
   .rw[show s-(s+b) = -b by lia,CS J J];lia
   .rw[show s-(s+b) = -b by lia,CS J J];lia
   .rw[show s+(l)-(s+b)=l-b by lia,AAF J J];lia
   .rw[show s+(l)-(s+b)=l-b by lia,AAF J J];lia
  by_cases cb:b=l
  .rw[cb,Gh,BG r s l a0 a1,BG r s l  J J,BG r s l  J J,a2]at hs;refine L.nt (s+a) ?_ ?_ ?_ ?_ (Py hs.symm)
   .rw[show s-(s+a) = -a by lia,CS J J];lia
   .rw[show s-(s+a) = -a by lia,CS J J];lia
   .rw[show s+(l)-(s+a)=l-a by lia,AAF J J];lia
   .rw[show s+(l)-(s+a)=l-a by lia,AAF J J];lia
  .rw[BG r s l a0 a1,BG r s l  J J,BG r s l b0 b1,BG r s l  J J,a2,a2]at hs;exact S.s.apart (s+a) (s+b) (L3 J) hs
theorem ZW(L:Line r s<|s+l):Line r (s+l)<|s+l+(r.length-l:Nat):=by
 refine(Line.symm S L).congr (by rw[ABf];rfl) ?_;rw[show s-(s+(l)+((r.length-l:Nat)))=r.length*(-1)by lia,ACU]
theorem ah(L:Line r s<|s+l):(∀{h j:Int},AK (sub r s l) h j≠0->cc (sub r s l) h j=1)/\(∀{h j:Int},AK (sub r (s+l)<|r.length-l) h j≠0->cc (sub r (s+l)<|r.length-l) h j=1):=by
 have L':=ZW S l2 ln L;have S1:=UW S l2 ln L.1;have S2:=UW S   J J L'.1;have en:s+(l)+((r.length-l:Nat))=s+r.length:=J
 obtain⟨H,hH⟩:=S.lvl  <|S.gn L.1.Cc.1;have y1:yy (sub r s l) l=yy r (s+l):=by unfold yy;rw[BG r s l J J]
 have y2:yy (sub r s l) ((l)+1)=yy r s:=by unfold yy;rw[Gh]
 have y3:yy (sub r (s+l)<|r.length-l) (r.length-l:Nat)=yy r s:=by unfold yy;rw[BG r (s+l) (r.length-l) J J,en,JR]
 have y4:yy (sub r (s+l)<|r.length-l) ((r.length-l:Nat)+1)=yy r (s+l):=by unfold yy;rw[Gh]
 have g1:AK (sub r s l) H l≠0:=Jz (by rw[y1,y2];lia);have g2:=Jz (by rw[y3,y4];omega);have c1:=S1.Lq g1;have c2:=S2.Lq g2;have r1:Rr (sub r s l) H l=RQ (sub r s l) H (AA r s) (AA r<|s+l):=by
  rw[<-VR];show RQ (sub r s l) H (AA (sub r s l) l) (AA (sub r s l)<|(l)+1)=_;rw[Gh,BG r s l J J]
 have r2:Rr (sub r (s+l)<|r.length-l) H (r.length-l:Nat)=RQ (sub r (s+l)<|r.length-l) H (AA r s) (AA r<|s+l):=by
  show RQ (sub r (s+l)<|r.length-l) H (AA (sub r (s+l)<|r.length-l) (r.length-l:Nat)) (AA (sub r (s+l)<|r.length-l)<|(r.length-l:Nat)+1)=_;rw[Gh,BG r (s+l) (r.length-l) J J,en,JR]
 have e:=VQ (r:=r) (s:=s) (l:=l) J J H (AA r s)<|AA r<|s+l;rw[Line.rq S L hH]at e;have d1:cc (sub r s l) H l=RQ (sub r s l) H (AA r s) (AA r<|s+l)+ind (yy r (s+l)<yy r s):=by unfold cc;rw[r1,y1,y2]
 have d2:cc (sub r (s+l)<|r.length-l) H (r.length-l:Nat)=RQ (sub r (s+l)<|r.length-l) H (AA r s) (AA r<|s+l)+ind (yy r s<yy r (s+l)):=by unfold cc;rw[r2,y3,y4]
 have d3:ind (yy r (s+l)<yy r s)+ind (yy r s<yy r (s+l))=1:=by
  by_cases x:yy r s<yy r (s+l)
  .rw[Ay x,Ai J];rfl
  .rw[Ai x,Ay J];rfl
 have k1:cc (sub r s l) H l=1:=J
 have k2:cc (sub r (s+l)<|r.length-l) H (r.length-l:Nat)=1:=J
 exact⟨λ{h j} hj=>by rw[S1.Nr hj g1];exact k1,λ{h j} hj=>by rw[S2.Nr hj g2];exact k2⟩
theorem NB(L:Line r s<|s+l):Sm<|sub r s l:=⟨UW S l2 ln L.1,(ah S l2 ln L).1,ai S l2 ln⟩
end
theorem pz{Q Y a b c d:Int}(hQ:0<Q)(D3:(Q*a<Y/\Y<Q*b)\/(Q*b<Y/\Y<Q*a))(BI:c≠d)(hr:(Q*c<=Y/\Y<=Q*d)\/(Q*d<=Y/\Y<=Q*c)) : ∃H,((a<=H/\H<b)\/(b<=H/\H<a))/\((c<=H/\H<d)\/(d<=H/\H<c))/\Q*H<=Y/\Y<=Q*(H+1):=by
 have f1:Q*(Y / Q)<=Y:=Int.mul_ediv_self_le J;have f2:Y<Q*(Y / Q+1):=by have:=Int.lt_mul_ediv_self_add (x:=Y) hQ;lia
 generalize Y / Q=f at f1 f2;have Ga:∀{u v:Int},Q*u<Q*v->u<v:=λh=>ACm h J;have O7:∀{u v:Int},Q*u<=Q*v->u<=v:=λh=>ABE h hQ;by_cases hc:(c<=f/\f<d)\/(d<=f/\f<c)
 .refine⟨f,?_,hc,f1,J⟩;rcases D3 with⟨u,v⟩|⟨u,v⟩
  .have:=Ga<|AD3 u f2;have:=Ga<|ACu f1 v;lia
  .have:=Ga<|AD3 u f2;have:=Ga<|ACu f1 v;lia
 .have hY:Y=Q*f/\((c<d/\d=f)\/(d<c/\c=f)):=by
   rcases hr with⟨u,v⟩|⟨u,v⟩
   .have h1:=Ga<|ACu u f2;have h2:=O7<|ADX u v;have h3:=O7<|ADX f1 v;have:d=f:=J
    subst this;exact⟨J,J⟩
   .have h1:=Ga<|ACu u f2;have h2:=O7<|ADX u v;have h3:=O7<|ADX f1 v;have:c=f:=J
    subst this;exact⟨J,J⟩
  obtain⟨e,g⟩:=hY;subst e;refine⟨f-1,?_,J,J,J⟩;rcases D3 with⟨u,v⟩|⟨u,v⟩
  .have:=Ga u;have:=Ga v;lia
  .have:=Ga u;have:=Ga v;lia
def KO(Q X Y:Int)(A B:Pt):Prop:=∃s:Int,0<=s/\s<=Q/\Q*A.1+s*(B.1-A.1)=X/\Q*A.2+s*(B.2-A.2)=Y
theorem Vy{Q X Y H:Int}(hQ:0<Q){E F:Pt}(hs:E.2<=H/\H<F.2)(h1:Q*H<=Y)(h2:Y<=Q*(H+1)) : (∀A B,KO Q X Y A B->Lt A B E F)\/(∀A B,KO Q X Y A B->Lt E F A B)\/∃d k:Int,0<d/\0<=k/\k<=Q*d/\Q*d*E.1+k*(F.1-E.1)=d*X/\Q*d*E.2+k*(F.2-E.2)=d*Y:=by
 have a1:=AAU hs.1<|AAI hQ;have a2:=AAU (J:H+1<=F.2)<|AAI hQ;have hd:0<F.2-E.2:=J
 have OL:=AAN hQ hd;have k1:Y-Q*E.2<=Q*(F.2-E.2):=J
 rcases AAv (Q*(F.2-E.2)*E.1+(Y-Q*E.2)*(F.1-E.1)) ((F.2-E.2)*X)with c|c|c
 .refine .inr<|.inl λA B h=>?_;obtain⟨s,s0,s1,e1,e2⟩:=h;have m1:=AAK s0<|AAI hd;have m2:=AAb s1<|AAI hd;refine⟨Q*(F.2-E.2),Y-Q*E.2,s*(F.2-E.2),OL,J,k1,m1,m2,?_,?_⟩
  .rw[<-e2];grind
  .have:Q*(F.2-E.2)*A.1+s*(F.2-E.2)*(B.1-A.1)=(F.2-E.2)*X:=by rw[<-e1];grind
   rw[this];exact c
 .exact .inr<|.inr ⟨F.2-E.2,Y-Q*E.2,hd,J,k1,c,z9⟩
 .refine .inl λA B h=>?_;obtain⟨s,s0,s1,e1,e2⟩:=h;have m1:=AAK s0<|AAI hd;have m2:=AAb s1<|AAI hd;refine⟨Q*(F.2-E.2),s*(F.2-E.2),Y-Q*E.2,OL,m1,m2,J,k1,?_,?_⟩
  .rw[<-e2];grind
  .have:Q*(F.2-E.2)*A.1+s*(F.2-E.2)*(B.1-A.1)=(F.2-E.2)*X:=by rw[<-e1];grind
   rw[this];exact c
theorem fW{Q X Y H:Int}(hQ:0<Q){E F:Pt}(hs:(E.2<=H/\H<F.2)\/(F.2<=H/\H<E.2))(h1:Q*H<=Y)(h2:Y<=Q*(H+1)) : (∀A B,KO Q X Y A B->Lt A B E F)\/(∀A B,KO Q X Y A B->Lt E F A B)\/∃d k:Int,0<d/\0<=k/\k<=Q*d/\Q*d*E.1+k*(F.1-E.1)=d*X/\Q*d*E.2+k*(F.2-E.2)=d*Y:=by
 rcases hs with hs|hs
 .exact Vy hQ hs h1 h2
 .rcases Vy  hQ hs h1 h2 with h|h|⟨d,k,a,b,c,e1,e2⟩
  .exact .inl λA B z=>FJ<|h A B z
  .exact .inr<|.inl λA B z=>Eu<|h A B z
  .exact .inr<|.inr ⟨d,Q*d-k,a,J,J,z9,z9⟩
section
variable{r:List Pt}(S:Sm r){s:Int}{l:Nat}(l2:2<=l)(ln:l+2<=r.length)(L:Line r s (s+l))
include S l2 ln L
theorem ox{k:Int}(k0:0<=k)(k1:k<r.length-l){H:Int}(hH:(yy r (s+l+k)<=H/\H<yy r (s+l+k+1))\/(yy r (s+l+k+1)<=H/\H<yy r (s+l+k))) : RQ (sub r s l) H (AA r<|s+l+k) (AA r<|s+l+k+1)=0:=by
 have e:=VQ (r:=r) (s:=s) (l:=l) J J H (AA r<|s+l+k)<|AA r<|s+l+k+1;have x1:RQ r H (AA r<|s+l+k) (AA r<|s+l+k+1)+ind (yy r (s+l+k)<yy r (s+l+k+1))=1:=S.c  <|Jz hH;have e1:=BG r (s+l) (r.length-l) k0 J;have e2:AA (sub r (s+l)<|r.length-l) (k+1)=AA r (s+l+k+1):=by rw[BG r (s+l) (r.length-l) J J];lia
 have x2:RQ (sub r (s+l)<|r.length-l) H (AA r<|s+l+k) (AA r<|s+l+k+1)+ind (yy r (s+l+k)<yy r (s+l+k+1))=1:=by
  have:=(ah S l2 ln L).2   (Jz (by unfold yy;rw[e1,e2];exact hH));unfold cc at this;unfold yy at this ⊢;rw[e1,e2]at this;have er:Rr (sub r (s+l)<|r.length-l) H k=RQ (sub r (s+l)<|r.length-l) H (AA r<|s+l+k) (AA r<|s+l+k+1):=by
   show RQ _ _ _ _=_;rw[e1,e2]
  rw[er]at this;exact this
 lia
theorem ZH{a b:Int}(p:Line (sub r s l) a b){k:Int}(k0:0<=k)(k1:k<r.length-l){Q t X Y:Int}(hQ:0<Q)(t0:0<t)(t1:t<Q) (e1:Q*(AA (sub r s l) a).1+t*((AA (sub r s l) b).1-(AA (sub r s l) a).1)=X) (e2:Q*(AA (sub r s l) a).2+t*((AA (sub r s l) b).2-(AA (sub r s l) a).2)=Y) (hC:KO Q X Y (AA r<|s+l+k)<|AA r<|s+l+k+1):False:=by
 have Sq:=NB S l2 ln L;have D3:=Sq.gn p.1.Cc.1;have BI:yy r (s+l+k)≠yy r (s+l+k+1):=(S.g1 _).symm;have hA:KO Q X Y (AA (sub r s l) a)<|AA (sub r s l) b:=⟨t,J,J,e1,e2⟩;have ra:(Q*yy (sub r s l) a<Y/\Y<Q*yy (sub r s l) b)\/(Q*yy (sub r s l) b<Y/\Y<Q*yy (sub r s l) a):=by
  unfold yy at D3 ⊢;rcases AAk D3 with h|h
  .left;have m1:=AAN t0<|ACi.mpr h;have m2:=AAN (ACi.mpr t1)<|ACi.mpr h;exact⟨J,J⟩
  .right;have m1:=AAN t0<|ACi.mpr h;have m2:=AAN (ACi.mpr t1)<|ACi.mpr h;exact⟨J,J⟩
 have rc:(Q*yy r (s+l+k)<=Y/\Y<=Q*yy r (s+l+k+1))\/(Q*yy r (s+l+k+1)<=Y/\Y<=Q*yy r (s+l+k)):=by
  obtain⟨u,u0,u1,_,f2⟩:=hC;unfold yy;rcases ABW (AA r<|s+l+k).2 (AA r<|s+l+k+1).2 with h|h
  .left;have m1:=AAK u0<|ACZ.mpr h;have m2:=AAK (ACZ.mpr u1)<|ACZ.mpr h;exact⟨J,J⟩
  .right;have m1:=AAK u0<|ACZ.mpr h;have m2:=AAK (ACZ.mpr u1)<|ACZ.mpr h;exact⟨J,J⟩
 obtain⟨H,ha,hc,h1,h2⟩:=pz hQ ra BI rc;have z0:=ox S l2 ln L k0 k1 hc;have z1:=Line.rq Sq p ha;have:RQ (sub r s l) H (AA (sub r s l) a) (AA (sub r s l) b)=RQ (sub r s l) H (AA r<|s+l+k) (AA r<|s+l+k+1):=by
  refine Bw λm hm=>?_;by_cases hs:AK (sub r s l) H m=0
  .rw[hs,AA4,AA4]
  rw[sub_len]at hm;rcases fW  hQ   (Cz hs) h1 h2 with c|c|⟨d,u,d0,u0,u1,f1,f2⟩
  .rw[Ay<|c _ _ hA,Ay<|c _ _ hC]
  .rw[Ai λz=>p.1.nc Sq.s m z<|c _ _ hA,Ai λz=>?_];have c':=c _ _ hC;by_cases hl:(m)=l
   .rw[hl,Gh,BG r s l J J]at c' z;exact L.1.nc S.s (s+l+k) (Eu c')<|FJ z
   .rw[BG r s l  J J,BG r s l  J J,show s+((m)+1)=s+m+1 by lia]at c' z;exact S.s.nc   (by exact Ik J J) z c'
  .exfalso;have td:=AAN d0 t0;have zu:=AAN d0<|ACi.mpr t1;by_cases x1:(a-(m))%((sub r s l).length)=0
   .rw[<-Aw x1,<-Aw<|Bo x1]at f1 f2;have:=(p.1.f1 u (d*t) u0 J z9 z9).2;lia
   by_cases x2:(a-(m))%((sub r s l).length)=1
   .have hn:(1:Int)<((sub r s l).length):=by rw[Eg];lia
    have y:=Dp hn x2;rw[<-Aw y,<-(Sq.s.next x2).1]at f1 f2;have:=(p.1.f2 (Q*d-u) (d*t) J J z9 z9).2;lia
   by_cases x3:(b-(m))%((sub r s l).length)=0
   .rw[<-Aw x3,<-Aw<|Bo x3]at f1 f2;have:=(p.1.f3 u (d*(Q-t)) u0 J z9 z9).2;lia
   by_cases x4:(b-(m))%((sub r s l).length)=1
   .have hn:(1:Int)<((sub r s l).length):=by rw[Eg];lia
    have y:=Dp hn x4;rw[<-Aw y,<-(Sq.s.next x4).1]at f1 f2;have:=(p.1.f4 (Q*d-u) (d*(Q-t)) J J z9 z9).2;lia
   .have OL:=AAN hQ d0;refine p.1.nt m x1 x2 x3 x4 ⟨Q*d,d*t,u,OL,J,J,u0,u1,?_,?_⟩
    .rw[f1,<-e1];grind
    .rw[f2,<-e2];grind
 rw[z0,z1]at this;cases this
end
theorem A3.FK{r:List Pt}(S:A3 r){m j:Int}(h0:(m-j)%(r.length)≠0)(h1:(m-j)%(r.length)≠1):¬ At (AA r j) (AA r<|j+1) (AA r m):=by
 rintro⟨q,s,hq,s0,s1,e1,e2⟩;exact S.off h0 h1 hq s0 s1 z9 z9
theorem Sm.ne{r:List Pt}(S:Sm r){i j:Int}(h:(i-j)%(r.length)≠0):AA r i≠AA r j:=λc=>S.gn h (by unfold yy;rw[c])
theorem Sm.st{r:List Pt}(S:Sm r)(k:Int):AA r (k+1)≠AA r k:=λc=>S.g1 k (by unfold yy;rw[c])
section
variable{r:List Pt}(S:Sm r){s:Int}{l:Nat}(l2:2<=l)(ln:l+2<=r.length)(L:Line r s (s+l))
include S l2 ln L
theorem bg{a b:Int}(a0:0<=a)(a1:a<=l)(b0:0<=b)(b1:b<=l)(p:Line (sub r s l) a b){k:Int}(k0:0<=k)(k1:k<r.length-l){T:Pt} (hT:(AA r (s+l+k)=AA r (s+a)/\T=AA r (s+l+k+1))\/(AA r (s+l+k+1)=AA r (s+a)/\T=AA r (s+l+k))) (jk:T≠AA r (s+a)) (jl:T≠AA r (s+b)) (Jb:AA r (s+b)≠AA r (s+a)) (hB:¬ At (AA r<|s+l+k) (AA r<|s+l+k+1) (AA r<|s+b)):CF (AA r<|s+a) T<|AA r<|s+b:=by
 have ea:=BG r s l a0 a1;have eb:=BG r s l b0 b1;intro u v hu hv e1 e2;by_cases u0:u=0
 .refine⟨u0,?_⟩;by_cases v0:v=0
  .exact v0
  .exfalso;apply Jb;rw[u0,AAw]at e1 e2;have g1:=AAM.mp e1.symm;have g2:=AAM.mp e2.symm;exact ABD J J
 by_cases v0:v=0
 .exfalso;apply jk;rw[v0,AAw]at e1 e2;have g1:=AAM.mp e1;have g2:=AAM.mp e2;exact ABD J J
 exfalso;rcases AAv v u with h|h|h
 .refine ZH S l2 ln L p k0 k1   (X:=u*T.1) (Y:=u*T.2) J J h ?_ ?_ ?_
  .rw[ea,eb];grind
  .rw[ea,eb];grind
  .rcases hT with⟨_,rfl⟩|⟨_,rfl⟩
   .exact⟨u,J,J,z9,z9⟩
   .exact⟨0,J,J,z9,z9⟩
 .apply jl;subst h;have g1:=ABj v0 e1;have g2:=ABj v0 e2;exact ABD J J
 .apply hB;rcases hT with⟨h1,rfl⟩|⟨h1,rfl⟩
  .rw[h1];exact⟨v,u,J,J,J,e1.symm,e2.symm⟩
  .rw[h1];exact Ln ⟨v,u,J,J,J,e1.symm,e2.symm⟩
theorem QC{a b:Int}(a0:0<=a)(a1:a<=l)(b0:0<=b)(b1:b<=l)(p:Line (sub r s l) a b):(2<=a-b/\a-b<=l-1)\/(2<=b-a/\b-a<=l-1):=by
 have:=p.1.Cc;rw[Eg]at this;have:=N6 J this J J;lia
theorem bb{a b:Int}(a0:0<=a)(a1:a<=l)(b0:0<=b)(b1:b<=l)(p:Line (sub r s l) a b):CF (AA r<|s+a) (AA r<|s+a+1)<|AA r<|s+b:=by
 have hf:=QC S l2 ln L a0 a1 b0 b1 p;by_cases ha:a<l
 .have:=p.1.f1;rw[BG r s l a0 a1,BG r s l b0 b1,BG r s l  J J,show s+(a+1)=s+a+1 by lia]at this;exact this
 .have ha:a=l:=J
  subst ha;have e0:s+(l)+0=s+l:=AAm _;refine bg S l2 ln L a0 a1 b0 b1 p (k:=0) J J (.inl ⟨by rw[e0],by rw[e0]⟩) (S.st _) (S.ne ?_) (S.ne ?_) ?_
  .exact Ik J J
  .rw[show s+b-(s+(l)) = -(l-b)by lia,CS J J];lia
  .rw[e0];refine S.s.FK ?_ ?_
   .rw[show s+b-(s+(l)) = -(l-b)by lia,CS J J];lia
   .rw[show s+b-(s+(l)) = -(l-b)by lia,CS J J];lia
theorem bf{a b:Int}(a0:0<=a)(a1:a<=l)(b0:0<=b)(b1:b<=l)(p:Line (sub r s l) a b):CF (AA r<|s+a) (AA r<|s+a-1)<|AA r<|s+b:=by
 have hf:=QC S l2 ln L a0 a1 b0 b1 p;by_cases ha:0<a
 .have:=p.1.f2;rw[BG r s l a0 a1,BG r s l b0 b1,BG r s l  J J,show s+(a-1)=s+a-1 by lia]at this;exact this
 .have ha:a=0:=J
  subst ha;have e0:s+(l)+(r.length-l-1)=s-1+r.length:=J
  have e1:AA r (s+(l)+(r.length-l-1))=AA r (s-1):=by rw[e0,JR]
  have e2:AA r (s+(l)+(r.length-l-1)+1)=AA r (s-1+1):=by rw[e0,show s-1+(r.length)+1=s-1+1+r.length by lia,JR]
  have e3:s-1+1=s+0:=J
  have st:AA r (s+0-1)≠AA r (s+0):=λc=>S.st (s-1) (by rw[e3,<-c];congr 1;lia);refine bg S l2 ln L a0 a1 b0 b1 p (k:=r.length-l-1) J J (.inr ⟨by rw[e2,e3],by rw[e1];congr 1;lia⟩) st (S.ne ?_) (S.ne ?_) ?_
  .rw[show s+0-1-(s+b) = -(b+1)by lia,CS J J];lia
  .rw[show s+b-(s+0)=b by lia,AAF J J];lia
  .rw[e1,e2];refine S.s.FK ?_ ?_
   .rw[show s+b-(s-1)=b+1 by lia,AAF J J];lia
   .rw[show s+b-(s-1)=b+1 by lia,AAF J J];lia
theorem wz{a b:Int}(a0:0<=a)(a1:a<=l)(b0:0<=b)(b1:b<=l)(p:Line (sub r s l) a b):Probe r (s+a)<|s+b:=by
 have hf:=QC S l2 ln L a0 a1 b0 b1 p;have Sq:=NB S l2 ln L;have p':=Line.symm Sq p;refine⟨L3 J,bb S l2 ln L a0 a1 b0 b1 p,bf S l2 ln L a0 a1 b0 b1 p,bb S l2 ln L b0 b1 a0 a1 p',bf S l2 ln L b0 b1 a0 a1 p',λk x1 x2 x3 x4 h=>?_⟩;have hn:(0:Int)<r.length:=J
 have m0:=AAj (k-s) (b:=(r.length)) J;have m1:=AAY (k-s) hn;have em:(k-(s+(k-s)%(r.length)))%(r.length)=0:=by
  rw[show k-(s+(k-s)%(r.length))=(k-s)-(k-s)%(r.length)by lia,ABS,AAr _<|ABR _,ABf];rfl
 generalize (k-s)%(r.length)=m at m0 m1 em;have ek:∀x:Int,(x-k)%(r.length)=(x-(s+m))%(r.length):=λx=>by
  rw[show x-(s+m)=(x-k)+(k-(s+m))by lia,ABX,em,AAm,AAr _<|ABR _]
 rw[ek]at x1 x2 x3 x4;rw[Aw em,Aw<|Bo em]at h;rw[show s+a-(s+m)=a-m by lia]at x1 x2;rw[show s+b-(s+m)=b-m by lia]at x3 x4;have ne:∀{d:Int},d%(r.length)≠0->d%(r.length)≠1->d≠0/\d≠1:=λ{d} u v=>⟨λc=>u (by rw[c];rfl),λc=>v (by rw[c];exact AAF J J)⟩;obtain⟨n1,n2⟩:=ne x1 x2;obtain⟨n3,n4⟩:=ne x3 x4;by_cases hm:m<l
 .have md:∀{d:Int},d≠0->d≠1->-(l)<d->d<=l->d%((l)+1)≠0/\d%((l)+1)≠1:=λ{d} u v w z=>by
   by_cases c:0<=d
   .rw[AAF c J];exact⟨u,v⟩
   .have:=CS (n:=(l)+1) (d:=-d) J J;rw[ADE]at this;rw[this];lia
  have q1:=md n1 n2 J J;have q2:=md n3 n4 J J;refine p.1.nt m (by rw[Eg];exact q1.1) (by rw[Eg];exact q1.2) (by rw[Eg];exact q2.1) (by rw[Eg];exact q2.2) ?_;rw[BG r s l a0 a1,BG r s l b0 b1,BG r s l  J J,BG r s l  J J,show s+(m+1)=s+m+1 by lia];exact h
 .obtain⟨Q,t,u,hQ,t0,t1,u0,u1,e1,e2⟩:=h;have es:s+m=s+l+(m-l):=J
  have cF:=x1;have cG:=x2;have cH:=x3;have cI:=x4
  rw[show a-m=s+a-(s+m)by lia]at cF cG;rw[show b-m=s+b-(s+m)by lia]at cH cI;by_cases c0:t=0
  .refine S.s.FK cF cG ⟨Q,u,hQ,u0,u1,?_,?_⟩
   .rw[c0]at e1;grind
   .rw[c0]at e2;grind
  by_cases c1:t=Q
  .refine S.s.FK cH cI ⟨Q,u,hQ,u0,u1,?_,?_⟩
   .grind
   .grind
  .refine ZH S l2 ln L p (k:=m-l) J J hQ (t:=t) J J rfl rfl ?_;rw[<-es,BG r s l a0 a1,BG r s l b0 b1];exact⟨u,u0,u1,e1.symm,e2.symm⟩
theorem Yw{a b:Int}(a0:0<a)(a1:a<l)(b0:0<=b)(b1:b<=l)(p:Line (sub r s l) a b):Line r (s+a)<|s+b:=by
 refine⟨wz S l2 ln L J J b0 b1 p,?_⟩;have:=p.2;rw[BG r s l  J J,BG r s l b0 b1,BG r s l  J J,BG r s l  J J,show s+(a+1)=s+a+1 by lia,show s+(a-1)=s+a-1 by lia]at this;exact this
theorem mX{a b:Int}(a0:0<=a)(a1:a<=l)(b0:0<=b)(b1:b<=l)(p:Line (sub r s l) a b):Line r (s+a)<|s+b:=by
 have hf:=QC S l2 ln L a0 a1 b0 b1 p;by_cases c:0<a/\a<l
 .exact Yw S l2 ln L c.1 c.2 b0 b1 p
 .exact Line.symm S<|Yw S l2 ln L J J a0 a1<|Line.symm (NB S l2 ln L) p
end
theorem Qz(U V W P:Pt):AH U V P+AH V W P+AH W U P=AH U V W/\AH U V W*P.1=AH V W P*U.1+AH W U P*V.1+AH U V P*W.1/\AH U V W*P.2=AH V W P*U.2+AH W U P*V.2+AH U V P*W.2:=by
 unfold AH;exact⟨z9,z9,z9⟩
theorem XC{D Q T aP bP fP aR bR fR p r u v w:Int}(sP:aP+bP+fP=D)(sR:aR+bR+fR=D)(eP:D*p=bP*u+fP*v+aP*w)(eR:D*r=bR*u+fR*v+aR*w) : (D*(-aR*Q+((Q-T)*aP+T*aR)))*p+(D*(-aR*T+((Q-T)*aP+T*aR)))*(r-p)=(D*(-aR*Q+((Q-T)*aP+T*aR)))*u+(-aR*((Q-T)*fP+T*fR)+((Q-T)*aP+T*aR)*fR)*(v-u):=by
 have h1:(D*(-aR*Q+((Q-T)*aP+T*aR)))*p+(D*(-aR*T+((Q-T)*aP+T*aR)))*(r-p)=(-aR*(Q-T))*(D*p)+(-aR*T+((Q-T)*aP+T*aR))*(D*r):=z9
 rw[h1,eP,eR];have h2:D*(-aR*Q+((Q-T)*aP+T*aR))=(-aR*((Q-T)*bP+T*bR)+((Q-T)*aP+T*aR)*bR)+(-aR*((Q-T)*fP+T*fR)+((Q-T)*aP+T*aR)*fR):=by
  have e1:D*(-aR*Q) = -aR*((Q-T)*D+T*D):=z9
  have e2:D*((Q-T)*aP+T*aR)=((Q-T)*aP+T*aR)*D:=AB6 ..;rw[ADe,e1,e2];rw[show(Q-T)*D=(Q-T)*(aP+bP+fP)by rw[sP],show T*D=T*(aR+bR+fR)by rw[sR],show((Q-T)*aP+T*aR)*D=((Q-T)*aP+T*aR)*(aR+bR+fR)by rw[sR]]
  grind
 rw[h2]
 grind
theorem RX{U V W P R:Pt}{Q T ax bx fx:Int}(hQ:0<Q)(t0:0<=T)(t1:T<=Q)(D0:0<AH U V W) (IT:ax=(Q-T)*AH U V P+T*AH U V R) (Km:bx=(Q-T)*AH V W P+T*AH V W R) (IY:fx=(Q-T)*AH W U P+T*AH W U R) (a0:0<=ax) (hA:AH U V R<0) (hb:0<=-AH U V R*bx+ax*AH V W R) (hf:0<=-AH U V R*fx+ax*AH W U R) : ∃q s t:Int,0<q/\0<=s/\s<=q/\0<=t/\t<=q/\q*P.1+s*(R.1-P.1)=q*U.1+t*(V.1-U.1)/\q*P.2+s*(R.2-P.2)=q*U.2+t*(V.2-U.2)/\t = -AH U V R*fx+ax*AH W U R/\q-t = -AH U V R*bx+ax*AH V W R:=by
 obtain⟨sP,g9,hU⟩:=Qz U V W P;obtain⟨sR,hV,h8⟩:=Qz U V W R;have m1:=AAN (J:0 < -AH U V R) hQ;have m2:=AAK (J:0<=-AH U V R) t0;have m3:=AAK (J:0<=-AH U V R) (J:0<=Q-T);have hN:0 < -AH U V R*Q+ax:=J
 have hw:0<=-AH U V R*T+ax:=J
 have lN : -AH U V R*T+ax<=-AH U V R*Q+ax:=J
 have hq:=AAN D0 hN;have lB:AH U V W*(-AH U V R*Q+ax)-(-AH U V R*fx+ax*AH W U R) = -AH U V R*bx+ax*AH V W R:=by
  have e0:ax+bx+fx=Q*AH U V W:=by
   rw[IT,Km,IY,show Q*AH U V W=(Q-T)*AH U V W+T*AH U V W by grind,<-sP];have:T*(AH U V P+AH V W P+AH W U P)=T*(AH U V R+AH V W R+AH W U R):=by rw[sP,sR]
   rw[this];grind
  have e1:AH U V W*(-AH U V R*Q+ax) = -AH U V R*(Q*AH U V W)+ax*AH U V W:=z9
  rw[e1,<-e0,<-sR];grind
 refine⟨AH U V W*(-AH U V R*Q+ax),AH U V W*(-AH U V R*T+ax),-AH U V R*fx+ax*AH W U R,hq,AAK J hw,AAU lN J,hf,J,?_,?_,rfl,lB⟩
 .rw[IT,IY];exact XC sP sR g9 hV
 .rw[IT,IY];exact XC sP sR hU h8
theorem iY{U V W P R:Pt}{Q T ax bx fx:Int}(hQ:0<Q)(t0:0<=T)(t1:T<=Q)(D0:0<AH U V W) (IT:ax=(Q-T)*AH U V P+T*AH U V R) (Km:bx=(Q-T)*AH V W P+T*AH V W R) (IY:fx=(Q-T)*AH W U P+T*AH W U R) (a0:0<=ax) (b0:0<=bx) (f0:0<=fx) (hF:0<=AH W U R) (out:AH U V R<0\/AH V W R<0) : (∃q s t:Int,0<q/\0<=s/\s<=q/\0<=t/\t<=q/\q*P.1+s*(R.1-P.1)=q*U.1+t*(V.1-U.1)/\q*P.2+s*(R.2-P.2)=q*U.2+t*(V.2-U.2)/\(0<fx->0<t))\/(∃q s t:Int,0<q/\0<=s/\s<=q/\0<=t/\t<=q/\q*P.1+s*(R.1-P.1)=q*V.1+t*(W.1-V.1)/\q*P.2+s*(R.2-P.2)=q*V.2+t*(W.2-V.2)/\(0<fx->t<q)):=by
 have c1:AH V W U=AH U V W:=by unfold AH;grind
 have eX:AH U V R<0->0<=-AH U V R*bx+ax*AH V W R->(∃q s t:Int,0<q/\0<=s/\s<=q/\0<=t/\t<=q/\q*P.1+s*(R.1-P.1)=q*U.1+t*(V.1-U.1)/\q*P.2+s*(R.2-P.2)=q*U.2+t*(V.2-U.2)/\(0<fx->0<t)):=λhA hb=>by
  have n1:=AAK (J:0<=-AH U V R) f0;have n2:=AAK a0 hF;obtain⟨q,s,t,h1,h2,h3,h4,h5,e1,e2,et,_⟩:=RX hQ t0 t1 D0 IT Km IY a0 hA hb J;refine⟨q,s,t,h1,h2,h3,h4,h5,e1,e2,λh=>?_⟩;have:=AAN (J:0 < -AH U V R) h;lia
 have Vp:AH V W R<0->0<=-AH V W R*ax+bx*AH U V R->(∃q s t:Int,0<q/\0<=s/\s<=q/\0<=t/\t<=q/\q*P.1+s*(R.1-P.1)=q*V.1+t*(W.1-V.1)/\q*P.2+s*(R.2-P.2)=q*V.2+t*(W.2-V.2)/\(0<fx->t<q)):=λhB ha=>by
  have n1:=AAK (J:0<=-AH V W R) f0;have n2:=AAK b0 hF;obtain⟨q,s,t,h1,h2,h3,h4,h5,e1,e2,_,eq⟩:=RX    hQ t0 t1 (by rw[c1];exact D0) Km IY IT b0 hB J ha;refine⟨q,s,t,h1,h2,h3,h4,h5,e1,e2,λh=>?_⟩;have:=AAN (J:0 < -AH V W R) h;lia
 by_cases hA:AH U V R<0
 .by_cases hb:0<=-AH U V R*bx+ax*AH V W R
  .exact .inl<|eX hA hb
  .by_cases hB:AH V W R<0
   .refine .inr<|Vp hB ?_;lia
   .exfalso;have n1:=AAK (J:0<=-AH U V R) b0;have n2:=AAK a0 (J:0<=AH V W R);lia
 .have hB:AH V W R<0:=J
  refine .inr<|Vp hB ?_;have n1:=AAK (J:0<=-AH V W R) a0;have n2:=AAK b0 (J:0<=AH U V R);lia
theorem Y7(f:Nat->Int):∀n:Nat,0<n->∃m,m<n/\∀k,k<n->f m<=f k
 |0,h=>J
 |1,_=>⟨0,J,λk hk=>by rw[show k=0 by lia];exact ABT _⟩
 |n+2,_=>by
  obtain⟨m,hm,h⟩:=Y7 f (n+1) J;by_cases c:f m<=f (n+1)
  .refine⟨m,J,λk hk=>?_⟩;by_cases e:k=n+1
   .rw[e];exact c
   .exact h k J
  .refine⟨n+1,J,λk hk=>?_⟩;by_cases e:k=n+1
   .rw[e];exact ABT _
   .have:=h k J;lia
theorem Y5(P:Nat->Prop)(f:Nat->Int):∀n:Nat,(∃k,k<n/\P k)->∃m,m<n/\P m/\∀k,k<n->P k->f k<=f m
 |0,h=>by obtain⟨k,hk,_⟩:=h;lia
 |n+1,h=>by
  by_cases c:∃k,k<n/\P k
  .obtain⟨m,hm,pm,hx⟩:=Y5 P f n c;by_cases d:P n/\f m<f n
   .refine⟨n,J,d.1,λk hk pk=>?_⟩;by_cases e:k=n
    .rw[e];exact ABT _
    .have:=hx k J pk;lia
   .refine⟨m,J,pm,λk hk pk=>?_⟩;by_cases e:k=n
    .rw[e]at pk ⊢;exact Int.not_lt.mp λz=>d ⟨pk,z⟩
    .exact hx k J pk
  .obtain⟨k,hk,pk⟩:=h;have:k=n:=by
    rcases Nat.lt_or_ge k n with z|z
    .exact absurd ⟨k,z,pk⟩ c
    .lia
   subst this;refine⟨k,J,pk,λj hj pj=>?_⟩;by_cases e:j=k
   .rw[e];exact ABT _
   .exact absurd ⟨j,J,pj⟩ c
theorem Ge{a b A B C D:Pt}{Q s t:Int}(e1:Q*A.1+s*(B.1-A.1)=Q*C.1+t*(D.1-C.1))(e2:Q*A.2+s*(B.2-A.2)=Q*C.2+t*(D.2-C.2)):(Q-s)*AH a b A+s*AH a b B=(Q-t)*AH a b C+t*AH a b D:=by
 have f:∀(X Y:Pt)(u:Int),(Q-u)*AH a b X+u*AH a b Y=(b.1-a.1)*((Q*X.2+u*(Y.2-X.2))-Q*a.2)-(b.2-a.2)*((Q*X.1+u*(Y.1-X.1))-Q*a.1):=λX Y u=>by unfold AH;grind
 rw[f,f,e1,e2]
theorem F0(a b:Pt):AH a b a=0/\AH a b b=0:=by unfold AH;exact⟨z9,z9⟩
theorem J0(a b c:Pt):AH b c a=AH a b c:=by unfold AH;grind
section
variable{r:List Pt}(S:Sm r)
include S
theorem Sm.norm(v k:Int):∃e:Int,0<=e/\e<r.length/\(k-(v+e))%(r.length)=0:=by
 have h3:=S.s.l3;refine⟨(k-v)%(r.length),AAj _ J,AAY _ J,?_⟩;rw[show k-(v+(k-v)%(r.length))=(k-v)-(k-v)%(r.length)by lia,ABS,AAr _<|ABR _,ABf];rfl
theorem Sm.low:∃v:Int,∀k:Int,yy r v<=yy r k:=by
 have h3:=S.s.l3;obtain⟨m,hm,h⟩:=Y7 (λk=>yy r<|k) r.length J;refine⟨m,λk=>?_⟩;obtain⟨e,e0,e1,he⟩:=S.norm 0 k;rw[ABI]at he;have:=h e.toNat J;rw[AAW e0,<-Ci he]at this;exact this
theorem Sm.conv{v:Int}(hv:∀k,yy r v<=yy r k):0<AH (AA r<|v-1) (AA r v) (AA r<|v+1):=by
 have h3:=S.s.l3;have em:v-1+1=v:=J
 have hu:yy r v<yy r (v-1):=by have:=S.g0 v;have:=hv<|v-1;lia
 have hw:yy r v<yy r (v+1):=by have:=S.g1 v;have:=hv<|v+1;lia
 have su:=E1 (by rw[em];lia) hu;have sw:=E2 J hw;have hc:=S.c   (by rw[sw];lia);unfold cc at hc;rw[Ay hw]at hc;have hR:Rr r (yy r v) v=ind (L r v<|v-1)*(-1):=by
  unfold Rr;have sh:=P0 (f:=λj=>ind (L r v j)*AK r (yy r v) j) (n:=r.length) J (λa b h=>by
   rw[FO h,Gr   (by rw[ABf];rfl) h]) (v-1)
  rw[<-sh];rw[ND (d:=0) J λm hm Aq=>?_]
  .rw[Int.natCast_zero,AAm,su]
  .by_cases m1:m=1
   .rw[m1,show v-1+((1:Nat))=v by lia,Ai<|E7 r v λc=>S.g1 v c.symm,AAw]
   .have:AK r (yy r v) (v-1+(m))=0:=by
     apply AAz;intro c;have hr:=Cz c;have h1:=hv<|v-1+m;have h2:=hv<|v-1+m+1;by_cases x:yy r (v-1+m)<=yy r v
     .have:=S.g (v-1+m) v J;rw[show v-1+(m)-v=m-1 by lia]at this;exact Ik J J this
     .have:=S.g (v-1+m+1) v J;rw[show v-1+(m)+1-v=m by lia]at this;exact Ik J J this
    rw[this,AA4]
 rw[hR]at hc;have hn:¬ L r v (v-1):=λc=>by rw[Ay c]at hc;lia
 have hL:=(S.s.JA    (by rw[show v-(v-1)=1 by lia];exact Ik J J) (by rw[sw];lia) (by rw[su];lia)).resolve_left hn;unfold L at hL;rw[em]at hL;have:=(JO    hu hw).mp<|Eu hL;rw[J0]at this;exact this
theorem Sm.bu{v:Int}(D0:0<AH (AA r<|v-1) (AA r v) (AA r<|v+1)){e:Int}(h1:1<=e)(h2:e<=r.length-2){P R:Pt} (Jc:(P=AA r (v+e)/\R=AA r (v+e+1))\/(P=AA r (v+e+1)/\R=AA r (v+e))) {Q T ax bx fx:Int} (hQ:0<Q) (t0:0<=T) (t1:T<=Q) (IT:ax=(Q-T)*AH (AA r<|v-1) (AA r v) P+T*AH (AA r<|v-1) (AA r v) R) (Km:bx=(Q-T)*AH (AA r v) (AA r<|v+1) P+T*AH (AA r v) (AA r<|v+1) R) (IY:fx=(Q-T)*AH (AA r<|v+1) (AA r<|v-1) P+T*AH (AA r<|v+1) (AA r<|v-1) R) (a0:0<=ax) (b0:0<=bx) (f0:0<=fx) (hF:0<=AH (AA r<|v+1) (AA r<|v-1) R) (ok:0<fx\/(e≠r.length-2/\e≠1)) : 0<=AH (AA r<|v-1) (AA r v) R/\0<=AH (AA r v) (AA r<|v+1) R:=by
 apply AAz;intro c;have em:v-1+1=v:=J
 have m1:(v+e-(v-1))%(r.length)=e+1:=by rw[show v+e-(v-1)=e+1 by lia,AAF J J]
 have m2:(v-1-(v+e))%(r.length)=r.length-(e+1):=by rw[show v-1-(v+e) = -(e+1)by lia,CS J J]
 have m3:(v+e-v)%(r.length)=e:=by rw[show v+e-v=e by lia,AAF J J]
 have m4:(v-(v+e))%(r.length)=r.length-e:=by rw[show v-(v+e) = -e by lia,CS J J]
 have rev:∀{q s:Int}{a b:Pt}{x y:Int},0<q->0<=s->s<=q->q*P.1+s*(R.1-P.1)=x->q*P.2+s*(R.2-P.2)=y->∃s':Int,0<=s'/\s'<=q/\q*(AA r<|v+e).1+s'*((AA r<|v+e+1).1-(AA r<|v+e).1)=x/\q*(AA r<|v+e).2+s'*((AA r<|v+e+1).2-(AA r<|v+e).2)=y:=λ{q s a b x y} hq s0 s1 e1 e2=>by
  rcases Jc with⟨rfl,rfl⟩|⟨rfl,rfl⟩
  .exact⟨s,s0,s1,e1,e2⟩
  .exact⟨q-s,J,J,by rw[<-e1];grind,by rw[<-e2];grind⟩
 rcases iY hQ t0 t1 D0 IT Km IY a0 b0 f0 hF J with⟨q,s,t,hq,s0,s1,u0,u1,e1,e2,st⟩|⟨q,s,t,hq,s0,s1,u0,u1,e1,e2,st⟩
 .obtain⟨s',x0,x1,f1,f2⟩:=rev (a:=P) (b:=P) hq s0 s1 e1 e2;have:=S.s.share   (by rw[m1];lia) hq x0 x1 u0 u1 (by rw[em];exact f1) (by rw[em];exact f2);rw[m1,m2]at this;rcases ok with k|k
  .lia
  .lia
 .obtain⟨s',x0,x1,f1,f2⟩:=rev (a:=P) (b:=P) hq s0 s1 e1 e2;have:=S.s.share   (by rw[m3];lia) hq x0 x1 u0 u1 f1 f2;rw[m3,m4]at this;rcases ok with k|k
  .lia
  .lia
end
section
variable{r:List Pt}(S:Sm r)
include S
set_option maxHeartbeats 1000000 in
theorem Sm.gq{v:Int}(D0:0<AH (AA r<|v-1) (AA r v) (AA r<|v+1)){d:Int}(d2:2<=d)(dn:d<=r.length-2)(az:0<=AH (AA r<|v-1) (AA r v) (AA r<|v+d))(bz:0<=AH (AA r v) (AA r<|v+1) (AA r<|v+d))(fz:0<=AH (AA r<|v+1) (AA r<|v-1) (AA r<|v+d)) (mx:∀e:Int,2<=e->e<=r.length-2->0<=AH (AA r<|v-1) (AA r v) (AA r<|v+e)->0<=AH (AA r v) (AA r<|v+1) (AA r<|v+e)->0<=AH (AA r<|v+1) (AA r<|v-1) (AA r<|v+e)->AH (AA r<|v+1) (AA r<|v-1) (AA r<|v+e)<=AH (AA r<|v+1) (AA r<|v-1) (AA r<|v+d)):Line r v<|v+d:=by
 have h3:=S.s.l3;have em:v-1+1=v:=J
 have en:AA r (v+(r.length-1))=AA r (v-1):=by rw[show v+((r.length:Int)-1)=v-1+r.length by lia,JR]
 obtain⟨sz,z1,z2⟩:=Qz (AA r<|v-1) (AA r v) (AA r<|v+1)<|AA r<|v+d;have vA:AH (AA r<|v-1) (AA r v) (AA r v)=0:=(F0 _ _).2;have vB:AH (AA r v) (AA r<|v+1) (AA r v)=0:=(F0 _ _).1;have vF:AH (AA r<|v+1) (AA r<|v-1) (AA r v)=AH (AA r<|v-1) (AA r v) (AA r<|v+1):=by rw[J0,J0]
 have uA:AH (AA r<|v-1) (AA r v) (AA r<|v-1)=0:=(F0 _ _).1;have wB:AH (AA r v) (AA r<|v+1) (AA r<|v+1)=0:=(F0 _ _).2;have wF:AH (AA r<|v+1) (AA r<|v-1) (AA r<|v+1)=0:=(F0 _ _).1;have uF:AH (AA r<|v+1) (AA r<|v-1) (AA r<|v-1)=0:=(F0 _ _).2;have hA:0<AH (AA r<|v-1) (AA r v) (AA r<|v+d):=by
  apply AAz;intro c;have c0:AH (AA r<|v-1) (AA r v) (AA r<|v+d)=0:=J
  rw[c0,AAw,AAm]at z1 z2;rw[c0,ABI]at sz;have at':At (AA r<|v-1) (AA r<|v-1+1)<|AA r<|v+d:=by
   rw[em];refine⟨AH (AA r<|v-1) (AA r v)<|AA r<|v+1,AH (AA r<|v+1) (AA r<|v-1)<|AA r<|v+d,D0,fz,J,?_,?_⟩
   .rw[ACX,z1,<-sz];grind
   .rw[ACX,z2,<-sz];grind
  refine S.s.FK (m:=v+d) (j:=v-1) ?_ ?_ at'
  .rw[show v+d-(v-1)=d+1 by lia,AAF J J];lia
  .rw[show v+d-(v-1)=d+1 by lia,AAF J J];lia
 have hB:0<AH (AA r v) (AA r<|v+1) (AA r<|v+d):=by
  apply AAz;intro c;have c0:AH (AA r v) (AA r<|v+1) (AA r<|v+d)=0:=J
  rw[c0,AAw,ABI]at z1 z2;rw[c0,AAm]at sz;have at':At (AA r v) (AA r<|v+1)<|AA r<|v+d:=by
   refine⟨AH (AA r<|v-1) (AA r v)<|AA r<|v+1,AH (AA r<|v-1) (AA r v)<|AA r<|v+d,D0,az,J,?_,?_⟩
   .rw[ACX,z1,<-sz];grind
   .rw[ACX,z2,<-sz];grind
  refine S.s.FK (m:=v+d) (j:=v) ?_ ?_ at'
  .rw[show v+d-v=d by lia,AAF J J];lia
  .rw[show v+d-v=d by lia,AAF J J];lia
 have mi:∀e:Int,0<=e->e<r.length->0<=AH (AA r<|v-1) (AA r v) (AA r<|v+e)->0<=AH (AA r v) (AA r<|v+1) (AA r<|v+e)->AH (AA r<|v+1) (AA r<|v-1) (AA r<|v+d)<AH (AA r<|v+1) (AA r<|v-1) (AA r<|v+e)->e≠0->False:=λe e0 e1 ha hb hf ez=>by
  by_cases c1:e=1
  .rw[c1,wF]at hf;lia
  by_cases c2:e=r.length-1
  .rw[c2,en,uF]at hf;lia
  .have:=mx e J J ha hb J;lia
 have fk:∀e:Int,1<=e->e<=r.length-1->(AA r<|v+e)≠(AA r<|v+d)->¬ At (AA r<|v+d) (AA r<|v+e) (AA r v)->CF (AA r<|v+d) (AA r<|v+e) (AA r v):=λe e1 e2 ji En a b ha hb q1 q2=>by
  have jm:(AA r v)≠(AA r<|v+d):=S.ne (by rw[show v-(v+d) = -d by lia,CS J J];lia);by_cases a0:a=0
  .refine⟨a0,?_⟩;by_cases b0:b=0
   .exact b0
   .exfalso;apply jm;rw[a0,AAw]at q1 q2;have g1:=AAM.mp q1.symm;have g2:=AAM.mp q2.symm;exact ABD J J
  by_cases b0:b=0
  .exfalso;apply ji;rw[b0,AAw]at q1 q2;have g1:=AAM.mp q1;have g2:=AAM.mp q2;exact ABD J J
  exfalso;rcases AAv b a with h|h|h
  .have l1:a*(AA r<|v+d).1+b*((AA r v).1-(AA r<|v+d).1)=a*(AA r<|v+e).1+0*((AA r<|v+e).1-(AA r<|v+e).1):=z9
   have l2:a*(AA r<|v+d).2+b*((AA r v).2-(AA r<|v+d).2)=a*(AA r<|v+e).2+0*((AA r<|v+e).2-(AA r<|v+e).2):=z9
   have sA:=Ge (a:=(AA r<|v-1)) (b:=(AA r v)) l1 l2;have sB:=Ge (a:=(AA r v)) (b:=(AA r<|v+1)) l1 l2;have sF:=Ge (a:=(AA r<|v+1)) (b:=(AA r<|v-1)) l1 l2;rw[vA,AA4,AAm,AAw,AAm,ACJ]at sA;rw[vB,AA4,AAm,AAw,AAm,ACJ]at sB;rw[vF,AAw,AAm,ACJ]at sF;have pA:=AAN (J:0<a-b) hA;have pB:=AAN (J:0<a-b) hB;have pF:=AAN (J:0<b) (J:0<AH (AA r<|v-1) (AA r v) (AA r<|v+1)-AH (AA r<|v+1) (AA r<|v-1) (AA r<|v+d));rw[sA]at pA;rw[sB]at pB;have tA:=ACv pA (J:0<a);have tB:=ACv pB (J:0<a);have tF:0<a*(AH (AA r<|v+1) (AA r<|v-1) (AA r<|v+e)-AH (AA r<|v+1) (AA r<|v-1) (AA r<|v+d)):=by rw[ACX]at pF ⊢;rw[<-sF,ADf];lia
   have tF:=ACv tF (J:0<a);exact mi e J J J J J J
  .subst h;have g1:=ABj b0 q1;have g2:=ABj b0 q2;have:(AA r<|v+e)=(AA r v):=ABD J J;exact S.ne (by rw[show v+e-v=e by lia];exact Ik J J) this
  .exact En ⟨b,a,J,J,J,q1.symm,q2.symm⟩
 refine⟨⟨L3 J,L5 (u:=(AA r<|v+1)) (by rw[F1];lia),L5 J,?_,?_,λk x1 x2 x3 x4 h=>?_⟩,.inl ⟨D0,hB,hA⟩⟩
 .rw[show v+d+1=v+(d+1)by lia];refine fk (d+1) J J ?_ ?_
  .rw[show v+(d+1)=v+d+1 by lia];exact S.st _
  .rw[show v+(d+1)=v+d+1 by lia];refine S.s.FK (m:=v) (j:=v+d) ?_ ?_
   .rw[show v-(v+d) = -d by lia,CS J J];lia
   .rw[show v-(v+d) = -d by lia,CS J J];lia
 .rw[show v+d-1=v+(d-1)by lia];have e1:v+(d-1)+1=v+d:=J
  refine fk (d-1) J J (λc=>S.st (v+(d-1))<|by rw[e1,c]) λc=>?_;refine S.s.FK (m:=v) (j:=v+(d-1)) ?_ ?_ (by rw[e1];exact Ln c)
  .rw[show v-(v+(d-1)) = -(d-1)by lia,CS J J];lia
  .rw[show v-(v+(d-1)) = -(d-1)by lia,CS J J];lia
 .obtain⟨e,e0,e1,ek⟩:=S.norm v k;have ex:∀x:Int,(x-k)%(r.length:Int)=(x-(v+e))%(r.length:Int):=λx=>by
   rw[show x-(v+e)=(x-k)+(k-(v+e))by lia,ABX,ek,AAm,AAr _<|ABR _]
  rw[ex]at x1 x2 x3 x4;rw[Aw ek,Aw<|Bo ek]at h;have n1:e≠0:=λc=>x1 (by rw[c,AAm,ABf];rfl);have n2:e≠r.length-1:=λc=>x2 (by rw[show v-(v+e) = -e by lia,CS J J];lia);obtain⟨Q,s,u,hQ,s0,s1,u0,u1,q1,q2⟩:=h;by_cases c0:s=0
  .refine S.s.FK x1 x2 ⟨Q,u,hQ,u0,u1,?_,?_⟩
   .rw[c0]at q1;grind
   .rw[c0]at q2;grind
  by_cases c1:s=Q
  .refine S.s.FK x3 x4 ⟨Q,u,hQ,u0,u1,?_,?_⟩
   .rw[c1]at q1;grind
   .rw[c1]at q2;grind
  have sA:=Ge (a:=(AA r<|v-1)) (b:=(AA r v)) q1 q2;have sB:=Ge (a:=(AA r v)) (b:=(AA r<|v+1)) q1 q2;have sF:=Ge (a:=(AA r<|v+1)) (b:=(AA r<|v-1)) q1 q2;rw[vA,AA4,ABI]at sA;rw[vB,AA4,ABI]at sB;rw[vF]at sF;have pA:=AAN (J:0<s) hA;have pB:=AAN (J:0<s) hB;have p1:=AAN (J:0<Q-s) (J:0<AH (AA r<|v-1) (AA r v) (AA r<|v+1)-AH (AA r<|v+1) (AA r<|v-1) (AA r<|v+d));have p2:=AAK (AAI hQ) fz;have OU:Q*AH (AA r<|v+1) (AA r<|v-1) (AA r<|v+d)<(Q-s)*AH (AA r<|v-1) (AA r v) (AA r<|v+1)+s*AH (AA r<|v+1) (AA r<|v-1) (AA r<|v+d):=by rw[ACX]at p1;rw[ADf Q s<|AH (AA r<|v+1) (AA r<|v-1)<|AA r<|v+d]at p1;lia
  have fin:∀(P R:Pt)(t:Int),0<=t->t<=Q->((P=AA r (v+e)/\R=AA r (v+e+1))\/(P=AA r (v+e+1)/\R=AA r (v+e)))->s*AH (AA r<|v-1) (AA r v) (AA r<|v+d)=(Q-t)*AH (AA r<|v-1) (AA r v) P+t*AH (AA r<|v-1) (AA r v) R->s*AH (AA r v) (AA r<|v+1) (AA r<|v+d)=(Q-t)*AH (AA r v) (AA r<|v+1) P+t*AH (AA r v) (AA r<|v+1) R->(Q-s)*AH (AA r<|v-1) (AA r v) (AA r<|v+1)+s*AH (AA r<|v+1) (AA r<|v-1) (AA r<|v+d)=(Q-t)*AH (AA r<|v+1) (AA r<|v-1) P+t*AH (AA r<|v+1) (AA r<|v-1) R->AH (AA r<|v+1) (AA r<|v-1) P<=AH (AA r<|v+1) (AA r<|v-1) R->False:=λP R t t0 t1 Jc eA eB eF hle=>by
   have m1:=AAU hle (J:0<=Q-t);have hR:AH (AA r<|v+1) (AA r<|v-1) (AA r<|v+d)<AH (AA r<|v+1) (AA r<|v-1) R:=by
    apply ACm (a:=Q) _<|AAI hQ;rw[ADf Q t<|AH (AA r<|v+1) (AA r<|v-1) R]at m1;lia
   obtain⟨ia,ib⟩:=S.bu D0 (e:=e) J J Jc hQ t0 t1 eA eB eF J J J J<|.inl J;rcases Jc with⟨_,hr⟩|⟨_,hr⟩
   .rw[hr,show v+e+1=v+(e+1)by lia]at ia ib hR;exact mi (e+1) J J ia ib hR J
   .rw[hr]at ia ib hR;exact mi e J J ia ib hR n1
  rcases ABW (AH (AA r<|v+1) (AA r<|v-1)<|AA r<|v+e) (AH (AA r<|v+1) (AA r<|v-1)<|AA r<|v+e+1)with hle|hle
  .exact fin _ _ u u0 u1 (.inl ⟨rfl,rfl⟩) sA sB sF hle
  .refine fin _ _ (Q-u) J J (.inr ⟨rfl,rfl⟩) ?_ ?_ ?_ hle
   .rw[sA];rw[show Q-(Q-u)=u by lia];lia
   .rw[sB];rw[show Q-(Q-u)=u by lia];lia
   .rw[sF];rw[show Q-(Q-u)=u by lia];lia
end
theorem XY{A X B:Pt}(hX:X≠A)(hB:B≠A)(h1:¬ At A B X)(h2:¬ At A X B):CF A X B:=λa b ha hb q1 q2=>by
 by_cases a0:a=0
 .refine⟨a0,?_⟩;by_cases b0:b=0
  .exact b0
  .exfalso;apply hB;rw[a0,AAw]at q1 q2;have g1:=AAM.mp q1.symm;have g2:=AAM.mp q2.symm;exact ABD J J
 by_cases b0:b=0
 .exfalso;apply hX;rw[b0,AAw]at q1 q2;have g1:=AAM.mp q1;have g2:=AAM.mp q2;exact ABD J J
 exfalso;rcases ABW b a with h|h
 .exact h1 ⟨a,b,J,hb,h,q1,q2⟩
 .exact h2 ⟨b,a,J,ha,h,q1.symm,q2.symm⟩
theorem Qy{a b A B X:Pt}(h:At A B X)(hA:0<=AH a b A)(hB:0<=AH a b B):0<=AH a b X:=by
 obtain⟨q,s,hq,s0,s1,e1,e2⟩:=h;have l:=Ge (a:=a) (b:=b) (A:=A) (B:=B) (C:=X) (D:=X) (Q:=q) (s:=s) (t:=0) z9 z9;rw[AAw,AAm,ACJ]at l;have m1:=AAK (J:0<=q-s) hA;have m2:=AAK s0 hB;rcases Int.lt_or_le (AH a b X) 0 with c|c
 .have:=ACE hq c;lia
 .exact c
section
variable{r:List Pt}(S:Sm r)
include S
set_option maxHeartbeats 1000000 in
theorem Sm.gr{v:Int}(h4:4<=r.length)(D0:0<AH (AA r<|v-1) (AA r v) (AA r<|v+1)) (no:∀e:Int,2<=e->e<=r.length-2->¬ (0<=AH (AA r<|v-1) (AA r v) (AA r<|v+e)/\0<=AH (AA r v) (AA r<|v+1) (AA r<|v+e)/\0<=AH (AA r<|v+1) (AA r<|v-1) (AA r<|v+e))):Line r (v-1)<|v+1:=by
 have em:v-1+1=v:=J
 have ew:v+1-1=v:=J
 have e2:AA r (v+(r.length-2))=AA r (v-1-1):=by rw[show v+((r.length:Int)-2)=v-1-1+r.length by lia,JR]
 have vA:AH (AA r<|v-1) (AA r v) (AA r v)=0:=(F0 _ _).2;have uA:AH (AA r<|v-1) (AA r v) (AA r<|v-1)=0:=(F0 _ _).1;have uB:AH (AA r v) (AA r<|v+1) (AA r<|v-1)=AH (AA r<|v-1) (AA r v) (AA r<|v+1):=by rw[J0]
 have wB:AH (AA r v) (AA r<|v+1) (AA r<|v+1)=0:=(F0 _ _).2;have wF:AH (AA r<|v+1) (AA r<|v-1) (AA r<|v+1)=0:=(F0 _ _).1;have uF:AH (AA r<|v+1) (AA r<|v-1) (AA r<|v-1)=0:=(F0 _ _).2;have seg:∀e:Int,2<=e->e<=r.length-2->¬ At (AA r<|v-1) (AA r<|v+1) (AA r<|v+e):=λe a b c=>no e a b ⟨Qy c J J,Qy c J J,Qy c J J⟩;have Xk:(AA r<|v+1)≠(AA r<|v-1):=S.ne (by rw[show v+1-(v-1)=2 by lia];exact Ik J J);have t1:v-1-1+1=v-1:=J
 have jh:AA r (v-1-1)≠(AA r<|v-1):=λc=>S.st (v-1-1) (by rw[t1,c]);have nq:¬ At (AA r<|v-1) (AA r<|v-1-1) (AA r<|v+1):=λc=>by
  refine S.s.FK (m:=v+1) (j:=v-1-1) ?_ ?_ (by rw[t1];exact Ln c)
  .rw[show v+1-(v-1-1)=3 by lia,AAF J J];lia
  .rw[show v+1-(v-1-1)=3 by lia,AAF J J];lia
 have nj:¬ At (AA r<|v+1) (AA r<|v+1+1) (AA r<|v-1):=by
  refine S.s.FK (m:=v-1) (j:=v+1) ?_ ?_
  .rw[show v-1-(v+1) = -2 by lia,CS J J];lia
  .rw[show v-1-(v+1) = -2 by lia,CS J J];lia
 refine⟨⟨L3 J,?_,XY jh Xk (by rw[<-e2];exact seg _ J J) nq,XY (S.st _) Xk.symm (λc=>seg 2 J J (by rw[show v+2=v+1+1 by lia];exact Ln c)) nj,?_,λk x1 x2 x3 x4 h=>?_⟩,?_⟩
 .rw[em];exact L5 (u:=(AA r v)) (by rw[F1];lia)
 .rw[ew];exact L5 (u:=(AA r v)) (v:=(AA r<|v+1)) (w:=(AA r<|v-1)) (by rw[J0];lia)
 .obtain⟨e,e0,e1,ek⟩:=S.norm v k;have ex:∀x:Int,(x-k)%(r.length:Int)=(x-(v+e))%(r.length:Int):=λx=>by
   rw[show x-(v+e)=(x-k)+(k-(v+e))by lia,ABX,ek,AAm,AAr _<|ABR _]
  rw[ex]at x1 x2 x3 x4;rw[Aw ek,Aw<|Bo ek]at h;have n1:e≠r.length-1:=λc=>x1 (by rw[show v-1-(v+e)=r.length*(-1)by lia,ACU]);have n2:e≠r.length-2:=λc=>x2 (by rw[show v-1-(v+e)=1+r.length*(-1)by lia,AA9,AAF J J]);have n3:e≠1:=λc=>x3 (by rw[c,ABf];rfl);have n4:e≠0:=λc=>x4 (by rw[c,show v+1-(v+0)=1 by lia,AAF J J]);obtain⟨Q,s,u,hQ,s0,s1,u0,u1,q1,q2⟩:=h;have sA:=Ge (a:=(AA r<|v-1)) (b:=(AA r v)) q1 q2;have sB:=Ge (a:=(AA r v)) (b:=(AA r<|v+1)) q1 q2;have sF:=Ge (a:=(AA r<|v+1)) (b:=(AA r<|v-1)) q1 q2;rw[uA,AA4,ABI]at sA;rw[wB,uB,AA4,AAm]at sB;rw[uF,wF,AA4,AA4,AAm]at sF;have pA:=AAK s0<|AAI D0;have pB:=AAK (J:0<=Q-s)<|AAI D0;have fin:∀(P R:Pt)(t:Int),0<=t->t<=Q->((P=AA r (v+e)/\R=AA r (v+e+1))\/(P=AA r (v+e+1)/\R=AA r (v+e)))->s*AH (AA r<|v-1) (AA r v) (AA r<|v+1)=(Q-t)*AH (AA r<|v-1) (AA r v) P+t*AH (AA r<|v-1) (AA r v) R->(Q-s)*AH (AA r<|v-1) (AA r v) (AA r<|v+1)=(Q-t)*AH (AA r v) (AA r<|v+1) P+t*AH (AA r v) (AA r<|v+1) R->0=(Q-t)*AH (AA r<|v+1) (AA r<|v-1) P+t*AH (AA r<|v+1) (AA r<|v-1) R->0<=AH (AA r<|v+1) (AA r<|v-1) R->False:=λP R t t0 t1 Jc eA eB eF hR=>by
   obtain⟨ia,ib⟩:=S.bu D0 (e:=e) J J Jc hQ t0 t1 eA eB eF pA pB (ABT 0) hR<|.inr ⟨n2,n3⟩;rcases Jc with⟨_,hr⟩|⟨_,hr⟩
   .rw[hr,show v+e+1=v+(e+1)by lia]at ia ib hR;exact no (e+1) J J ⟨ia,ib,hR⟩
   .rw[hr]at ia ib hR;exact no e J J ⟨ia,ib,hR⟩
  by_cases c:0<=AH (AA r<|v+1) (AA r<|v-1) (AA r<|v+e+1)
  .exact fin _ _ u u0 u1 (.inl ⟨rfl,rfl⟩) sA sB sF c
  .refine fin _ _ (Q-u) J J (.inr ⟨rfl,rfl⟩) ?_ ?_ ?_ ?_
   .rw[sA];rw[show Q-(Q-u)=u by lia];lia
   .rw[sB];rw[show Q-(Q-u)=u by lia];lia
   .rw[sF];rw[show Q-(Q-u)=u by lia];lia
   .rcases Int.lt_or_le (AH (AA r<|v+1) (AA r<|v-1)<|AA r<|v+e) 0 with z|z
    .exfalso;have m1:=AAK (J:0<=Q-u) (J:0<=-AH (AA r<|v+1) (AA r<|v-1) (AA r<|v+e));have m2:=AAK u0 (J:0<=-AH (AA r<|v+1) (AA r<|v-1) (AA r<|v+e+1));rw[AC4]at m1 m2;by_cases cu:u=0
     .have:=AAN hQ (J:0 < -AH (AA r<|v+1) (AA r<|v-1) (AA r<|v+e));rw[cu,ACJ,AAw,AAm]at sF;rw[AC4]at this;lia
     .have:=AAN (J:0<u) (J:0 < -AH (AA r<|v+1) (AA r<|v-1) (AA r<|v+e+1));rw[AC4]at this;lia
    .exact z
 .unfold DU;rw[em];by_cases c:AH (AA r<|v-1-1) (AA r<|v-1) (AA r v)>0
  .refine .inl ⟨c,D0,?_⟩;apply AAz;intro cn;have aT:0<AH (AA r<|v-1) (AA r v) (AA r<|v-1-1):=by rw[J0<|AA r<|v-1-1];exact c
   have fT:0<=AH (AA r<|v+1) (AA r<|v-1) (AA r<|v-1-1):=by
    have:AH (AA r<|v+1) (AA r<|v-1) (AA r<|v-1-1) = - AH (AA r<|v-1-1) (AA r<|v-1) (AA r<|v+1):=by unfold AH;grind
    lia
   have bT:¬ 0<=AH (AA r v) (AA r<|v+1) (AA r<|v-1-1):=λb=>no (r.length-2) J J (by rw[e2];exact⟨J,b,fT⟩);have m1:=AAK (AAI D0) fT;have m2:=AAK (AAI D0)<|AAI aT;obtain⟨q,s,t,hq,s0,s1,u0,u1,f1,f2,_,_⟩:=RX (U:=(AA r v)) (V:=(AA r<|v+1)) (W:=(AA r<|v-1)) (P:=(AA r<|v-1)) (R:=AA r<|v-1-1) (Q:=1) (T:=0) (ax:=AH (AA r<|v-1) (AA r v)<|AA r<|v+1) (bx:=0) (fx:=0) J J J (by rw[J0];exact D0) (by rw[uB];lia) (by rw[uF];lia) (by rw[uA];lia) (AAI D0) J J J;have:=S.s.share (i:=v-1-1) (j:=v) (s:=q-s) (by rw[show v-1-1-v = -2 by lia,CS J J];lia) hq J J u0 u1 (by rw[t1,<-f1];grind) (by rw[t1,<-f2];grind);rw[show v-1-1-v = -2 by lia,CS J J,show v-(v-1-1)=2 by lia,AAF J J]at this;lia
  .exact .inr ⟨c,.inl D0⟩
theorem Sm.diag(h4:4<=r.length):∃(s:Int)(l:Nat),2<=l/\l+2<=r.length/\Line r s (s+l):=by
 obtain⟨v,hv⟩:=S.low;have D0:=S.conv hv;by_cases c:∃k:Nat,k<r.length/\(2<=k/\k+2<=r.length/\0<=AH (AA r<|v-1) (AA r v) (AA r<|v+(k:Int))/\0<=AH (AA r v) (AA r<|v+1) (AA r<|v+(k:Int))/\0<=AH (AA r<|v+1) (AA r<|v-1) (AA r<|v+(k:Int)))
 .obtain⟨m,hm,⟨h2,hn,a,b,f⟩,mx⟩:=Y5 (λk:Nat=>2<=k/\k+2<=r.length/\0<=AH (AA r<|v-1) (AA r v) (AA r<|v+(k:Int))/\0<=AH (AA r v) (AA r<|v+1) (AA r<|v+(k:Int))/\0<=AH (AA r<|v+1) (AA r<|v-1) (AA r<|v+(k:Int))) (λk:Nat=>AH (AA r<|v+1) (AA r<|v-1)<|AA r<|v+(k:Int)) r.length c;refine⟨v,m,h2,hn,S.gq D0 J J a b f λe e2 en ea eb ef=>?_⟩;have:=mx e.toNat J;rw[AAW J]at this;exact this ⟨J,J,ea,eb,ef⟩
 .refine⟨v-1,2,J,h4,?_⟩;rw[show v-1+((2:Nat):Int)=v+1 by lia];refine S.gr h4 D0 λe e2 en z=>c ⟨e.toNat,J,J,J,?_⟩;rw[AAW J];exact z
end
def Jn(r:List Pt)(i j:Int):Prop:=(i-j)%(r.length:Int)=1\/(j-i)%(r.length:Int)=1\/Line r i j
theorem Jn.congr{r:List Pt}{i j i' j':Int}(hi:(i-i')%(r.length:Int)=0)(hj:(j-j')%(r.length:Int)=0)(h:Jn r i j):Jn r i' j':=by
 have e:∀{a b c d:Int},(a-b)%(r.length:Int)=0->(c-d)%(r.length:Int)=0->(b-d)%(r.length:Int)=(a-c)%(r.length:Int):=λ{a b c d} h1 h2=>by
  have h3:(a-c-(b-d))%(r.length:Int)=0:=by
   rw[show a-c-(b-d)=(a-b)-(c-d)by lia,ABS,h1,h2];rfl
  exact(AB4.mpr h3).symm
 unfold Jn;rw[e hi hj,e hj hi];rcases h with h|h|h
 .exact .inl h
 .exact .inr<|.inl h
 .exact .inr<|.inr<|h.congr hi hj
theorem Jn.symm{r:List Pt}(S:Sm r){i j:Int}(h:Jn r i j):Jn r j i:=by
 rcases h with h|h|h
 .exact .inr<|.inl h
 .exact .inl h
 .exact .inr<|.inr<|Line.symm S h
theorem K5{n d:Int}(h:d%n=1)(h1 : -n<d)(h2:d<n):d=1\/d=1-n:=by
 by_cases c:0<=d
 .rw[AAF c h2]at h;exact .inl h
 .have:=CS (n:=n) (d:=-d) J J;rw[ADE]at this;lia
theorem nE{n:Int}(hn:1<n):(1:Int)%n=1:=AAF J hn
section
variable{r:List Pt}(S:Sm r){s:Int}{l:Nat}(l2:2<=l)(ln:l+2<=r.length)(L:Line r s (s+l))
include S l2 ln L
theorem Ox{a b:Int}(a0:0<=a)(a1:a<=l)(b0:0<=b)(b1:b<=l)(h:Jn (sub r s l) a b):Jn r (s+a)<|s+b:=by
 have h1:=nE (n:=(r.length:Int)) J;rcases h with h|h|h
 .rw[Eg]at h;rcases K5 h J J with c|c
  .exact .inl (by rw[show s+a-(s+b)=1 by lia];exact h1)
  .refine .inr<|.inr ?_;rw[show a=0 by lia,show b=l by lia,AAm];exact L
 .rw[Eg]at h;rcases K5 h J J with c|c
  .exact .inr (.inl (by rw[show s+b-(s+a)=1 by lia];exact h1))
  .refine .inr<|.inr ?_;rw[show b=0 by lia,show a=l by lia,AAm];exact Line.symm S L
 .exact .inr<|.inr<|mX S l2 ln L a0 a1 b0 b1 h
theorem dc{e k:Int}(e0:0<=e)(e1:e<l)(k1:(k-e)%((sub r s l).length:Int)≠0)(k2:(k-(e+1))%((sub r s l).length:Int)≠0)(j1:Jn (sub r s l) e k)(j2:Jn (sub r s l) k<|e+1) : ∃k:Int,(k-(s+e))%(r.length:Int)≠0/\(k-(s+e+1))%(r.length:Int)≠0/\Jn r (s+e) k/\Jn r k (s+e+1):=by
 obtain⟨a,a0,a1,ea⟩:=J2 r s l k;have z:∀x:Int,(x-x)%((sub r s l).length:Int)=0:=λx=>by rw[ABf];rfl
 have n1:a≠e:=λc=>k1 (by rw[<-c];exact ea);have n2:a≠e+1:=λc=>k2 (by rw[<-c];exact ea);have ne:∀{d:Int},d≠0->-(r.length:Int)<d->d<r.length->d%(r.length:Int)≠0:=λ{d} u v w c=>u<|Y8 c v w;refine⟨s+a,ne J J J,ne J J J,Ox S l2 ln L e0 J a0 a1<|j1.congr (z e) ea,?_⟩;rw[show s+e+1=s+(e+1)by lia];exact Ox S l2 ln L a0 a1 J J<|j2.congr ea<|z _
end
theorem Sm.Nl:∀(n:Nat){r:List Pt},r.length=n->Sm r->∀m:Int,∃k:Int,(k-m)%(r.length:Int)≠0/\(k-(m+1))%(r.length:Int)≠0/\Jn r m k/\Jn r k (m+1):=by
 intro n
 induction n using Nat.strongRecOn with
 |ind n ih=>
  intro r hn S m;have h3:=S.s.l3;by_cases c3:r.length=3
  .refine⟨m+2,?_,?_,.inl ?_,.inl ?_⟩
   .rw[show m+2-m=2 by lia,c3];decide
   .rw[show m+2-(m+1)=1 by lia,c3];decide
   .rw[show m-(m+2) = -2 by lia,c3];decide
   .rw[show m+2-(m+1)=1 by lia,c3];decide
  .obtain⟨s,l,l2,ln,L⟩:=S.diag J;have key:∀(s:Int)(l:Nat),2<=l->l+2<=r.length->Line r s (s+l)->∀e:Int,0<=e->e<l->∃k:Int,(k-(s+e))%(r.length:Int)≠0/\(k-(s+e+1))%(r.length:Int)≠0/\Jn r (s+e) k/\Jn r k (s+e+1):=λs l l2 ln L e e0 e1=>by
    obtain⟨k,k1,k2,j1,j2⟩:=ih (l+1) J (r:=sub r s l) (sub_len r s l) (NB S l2 ln L) e;exact dc S l2 ln L e0 e1 k1 k2 j1 j2
   obtain⟨e,e0,e1,em⟩:=S.norm s m;have z:∀x:Int,(x-x)%(r.length:Int)=0:=λx=>by rw[ABf];rfl
   have fin:(∃k:Int,(k-(s+e))%(r.length:Int)≠0/\(k-(s+e+1))%(r.length:Int)≠0/\Jn r (s+e) k/\Jn r k (s+e+1)):=by
    by_cases c:e<l
    .exact key s l l2 ln L e e0 c
    .have:=key (s+l) (r.length-l) J J (ZW S l2 ln L) (e-l) J J;rw[show s+(l:Int)+(e-l)=s+e by lia]at this;exact this
   obtain⟨k,k1,k2,j1,j2⟩:=fin;have Wu:=CD em;refine⟨k,λc=>k1<|Mp c em,λc=>k2<|Mp c<|Bo em,j1.congr Wu<|z k,j2.congr (z k)<|Bo Wu⟩
theorem Sm.da{r:List Pt}(S:Sm r){i j:Int}(i0:0<=i)(ij:i+2<=j)(jn:j<r.length)(h:Line r i j\/(i=0/\j=r.length-1)):∃k:Int,i<k/\k<j/\Jn r i k/\Jn r k j:=by
 have h3:=S.s.l3;rcases h with L|⟨rfl,rfl⟩
 .have hf:=N6 J L.1.Cc J J;have el:i+(((j-i).toNat:Nat):Int)=j:=J
  have l2:2<=(j-i).toNat:=J
  have ln:(j-i).toNat+2<=r.length:=J
  rw[<-el]at L;have Sq:=NB S l2 ln L;have hl:=Eg r i (j-i).toNat;obtain⟨k,k1,k2,j1,j2⟩:=Sm.Nl _ rfl Sq ((j-i).toNat:Int);obtain⟨a,a0,a1,ea⟩:=J2 r i (j-i).toNat k;have z:∀x:Int,(x-x)%((sub r i (j-i).toNat).length:Int)=0:=λx=>by rw[ABf];rfl
  have z1:(((j-i).toNat:Int)+1-0)%((sub r i (j-i).toNat).length:Int)=0:=by rw[hl,ACJ,ACg]
  have n1:a≠((j-i).toNat:Int):=λc=>k1 (by rw[<-c];exact ea);have n2:a≠0:=λc=>k2 (by subst c;exact Mp ea<|CD z1);have u1:=Ox S l2 ln L J J a0 a1<|j1.congr (z _) ea;have u2:=Ox S l2 ln L a0 a1 J J<|j2.congr ea z1;rw[el]at u1;rw[AAm]at u2;exact⟨i+a,J,J,u2.symm S,u1.symm S⟩
 .obtain⟨k,k1,k2,j1,j2⟩:=Sm.Nl _ rfl S<|(r.length:Int)-1;obtain⟨a,a0,a1,ea⟩:=S.norm 0 k;rw[ABI]at ea;have z:∀x:Int,(x-x)%(r.length:Int)=0:=λx=>by rw[ABf];rfl
  have z1:((r.length:Int)-1+1-0)%(r.length:Int)=0:=by rw[show(r.length:Int)-1+1-0=r.length by lia,ACg]
  have n1:a≠(r.length:Int)-1:=λc=>k1 (by rw[<-c];exact ea);have n2:a≠0:=λc=>k2 (by subst c;exact Mp ea<|CD z1);exact⟨a,J,J,(j2.congr ea z1).symm S,(j1.congr (z _) ea).symm S⟩
theorem uw(k:Int){a b c d:Pt}(h:Bl a b c d):Bl (lean k a) (lean k b) (lean k c)<|lean k d:=by
 obtain⟨q,s,t,h1,h2,h3,h4,h5,e1,e2⟩:=h;unfold lean;exact⟨q,s,t,h1,h2,h3,h4,h5,e1,by dsimp only;grind⟩
theorem OB{k:Int}{A X B:Pt}(h:CF (lean k A) (lean k X)<|lean k B):CF A X B:=λs t hs ht e1 e2=>h s t hs ht e1 (by unfold lean;dsimp only;grind)
theorem OC(k:Int){A X B:Pt}(h:CF A X B):CF (lean k A) (lean k X)<|lean k B:=λs t hs ht e1 e2=>h s t hs ht e1 (by
 unfold lean at e1 e2;dsimp only at e1 e2
 grind)
theorem Yv{r:List Pt}(h0:0<r.length)(k i j:Int):Line (r.map<|lean k) i j↔Line r i j:=by
 have hc:∀m,AA (r.map<|lean k) m=lean k (AA r m):=λm=>Kc h0 k m;constructor
 .rintro⟨p,c⟩;have p1:=p.Cc;have p2:=p.f1;have p3:=p.f2;have p4:=p.f3;have p5:=p.f4;have p6:=p.nt
  rw[AAO]at p1 p6;simp only[hc]at p2 p3 p4 p5 p6 c;rw[QL]at c;exact⟨⟨p1,OB p2,OB p3,OB p4,OB p5,λm a b c d h=>p6 m a b c d<|uw k h⟩,c⟩
 .rintro⟨p,c⟩;refine⟨⟨by rw[AAO];exact p.Cc,?_,?_,?_,?_,?_⟩,?_⟩
  .rw[hc,hc,hc];exact OC k p.f1
  .rw[hc,hc,hc];exact OC k p.f2
  .rw[hc,hc,hc];exact OC k p.f3
  .rw[hc,hc,hc];exact OC k p.f4
  .intro m a b c d h;rw[AAO]at a b c d;rw[hc,hc,hc,hc]at h;exact p.nt m a b c d<|aX h
  .rw[hc,hc,hc,hc,QL];exact c
theorem Vn(f:Nat->Int):∀n:Nat,∃M:Int,0<M/\∀k,k<n->-M<f k/\f k<M
 |0=>⟨1,J,λk h=>J⟩
 |n+1=>by
  obtain⟨M,h0,h⟩:=Vn f n;refine⟨M+(f n).natAbs+1,J,λk hk=>?_⟩;by_cases e:k=n
  .rw[e];lia
  .have:=h k J;lia
theorem Rm.sm{r:List Pt}(R:Rm r):∃k:Int,Sm<|r.map<|lean k:=by
 have S:=R.simple;have h3:=S.l3;obtain⟨M,M0,hM⟩:=Vn (λk=>yy r (k:Int)) r.length;have hb:∀k:Int,-M<(AA r k).2/\(AA r k).2<M:=λk=>by
  have k0:=AAj k (b:=(r.length:Int)) J;have k1:=AAY k (J:(0:Int)<r.length);have:=hM (k%(r.length:Int)).toNat J;rw[AAW k0]at this;unfold yy at this;rw[FC]at this;exact this
 have R':Rm<|r.map<|lean<|2*M:=R.map<|Yl _;refine⟨2*M,R'.simple,λh=>R'.Vs h,λi j e=>?_⟩;unfold yy at e;rw[Kc J,Kc J]at e;unfold lean at e;dsimp only at e;rw[AAO];have b1:=hb i;have b2:=hb j;have x:(AA r i).1=(AA r j).1:=by
  rcases AAv (AA r i).1 (AA r j).1 with c|c|c
  .have:=AAU (J:(AA r i).1+1<=(AA r j).1) (J:0<=2*M);rw[ADe]at this;lia
  .exact c
  .have:=AAU (J:(AA r j).1+1<=(AA r i).1) (J:0<=2*M);rw[ADe]at this;lia
 rw[x]at e;exact S.inj<|ABD x J
theorem Rm.Nl{r:List Pt}(R:Rm r){i j:Int}(i0:0<=i)(ij:i+2<=j)(jn:j<r.length)(h:Line r i j\/(i=0/\j=r.length-1)):∃k:Int,i<k/\k<j/\(k=i+1\/Line r i k)/\(j=k+1\/Line r k j):=by
 have h3:=R.l3;obtain⟨K,S⟩:=R.sm;have hL:((r.map<|lean K).length:Int)=r.length:=by rw[AAO]
 obtain⟨k,k1,k2,j1,j2⟩:=S.da i0 ij (by rw[hL];exact jn) (by rw[hL,Yv J];exact h);unfold Jn at j1 j2;rw[hL,Yv J]at j1 j2;refine⟨k,k1,k2,?_,?_⟩
 .rcases j1 with c|c|c
  .have:=K5 c J J;lia
  .have:=K5 c J J;lia
  .exact .inr c
 .rcases j2 with c|c|c
  .have:=K5 c J J;lia
  .have:=K5 c J J;lia
  .exact .inr c
end AL
namespace L2.EV
open L2.PL
abbrev Pt:=AL.Pt
noncomputable def pv(p:Pt):PV:=.tup [.int p.1,.int p.2]
def AI(r:List Pt):List PV:=r.map pv
theorem B9(r:List Pt):(AI r).length=r.length:=AAO ..
def Bd(n:Int)(p:Pt):Prop:=-n<=p.1/\p.1<=n/\-n<=p.2/\p.2<=n
theorem FY{i j:Int}(h : -1000000<=i/\i<=1000000):Ei i j:=.inl ⟨J,J⟩
theorem Dm(p:Pt):AJ (.cl<|pv p) (.cl<|.int 0)=some (.cl<|.int p.1):=rfl
theorem D4(p:Pt):AJ (.cl<|pv p) (.cl<|.int 1)=some (.cl<|.int p.2):=rfl
theorem Ma(i j:Int):A6 (.cl<|.int i) (.cl<|.int j)=some (.cl<|.bl<|i==j):=by
 simp[A6,RV.any,Ax,PySem.SeqAt.shaped,PySem.PyData.canLay0,PySem.PyData.depth,PySem.PyData.eqv]
theorem Ij(i j:Int):CC (.cl<|.int i) (.cl<|.int j)=some (.cl<|.bl (!(i==j))):=by
 simp[CC,RV.any,Ax,PySem.SeqAt.shaped,PySem.PyData.canLay0,PySem.PyData.depth,PySem.PyData.eqv]
theorem lu(i j:Bool):A6 (.cl<|.bl i) (.cl<|.bl j)=some (.cl<|.bl<|i==j):=by
 simp[A6,RV.any,Ax,PySem.SeqAt.shaped,PySem.PyData.canLay0,PySem.PyData.depth,PySem.PyData.eqv]
theorem S6(i j:Bool):CC (.cl<|.bl i) (.cl<|.bl j)=some (.cl<|.bl (!(i==j))):=by
 simp[CC,RV.any,Ax,PySem.SeqAt.shaped,PySem.PyData.canLay0,PySem.PyData.depth,PySem.PyData.eqv]
theorem HX(i j:Int):Bb (.cl<|.int i) (.cl<|.int j)=some (.cl<|.bl<|decide (i<j)):=rfl
theorem HV(i j:Int):B7 (.cl<|.int i) (.cl<|.int j)=some (.cl<|.bl<|decide (i<=j)):=rfl
theorem Ea(i j:Int):BL (.cl<|.int i) (.cl<|.int j)=some (.cl<|.bl<|decide (j<i)):=rfl
theorem C3(i j:Int):Ad (.cl<|.int i) (.cl<|.int j)=some (.cl<|.int<|i-j):=rfl
theorem GU(i j:Int):AZ (.cl<|.int i) (.cl<|.int j)=some (.cl<|.int<|i+j):=rfl
theorem Fs{i j:Int}(h:Ei i j):CL (.cl<|.int i) (.cl<|.int j)=some (.cl<|.int<|i*j):=by simp[CL,kI,h]
theorem DM{i j:Int}(h:0<j):Ap (.cl<|.int i) (.cl<|.int j)=some (.cl<|.int<|i%j):=by simp[Ap,kI,h]
theorem Oz{i j:Int}(h:0<j)(h2:j<1073741824):Bq (.cl<|.int i) (.cl<|.int j)=some (.cl<|.int<|i / j):=by simp[Bq,kI,LU,h,h2]
theorem HW(ps:List PV):Ah [.cl<|.lst ps]=some (.cl<|.int ps.length):=rfl
theorem Yj(ps:List PV):Ah [.bo ps]=some (.cl<|.int ps.length):=rfl
theorem Yk(ps:List PV):Ah [.fr ps]=some (.cl<|.int ps.length):=rfl
theorem lU(i j:Int):(if j<i then j else i)=min i j:=J
theorem lT(i j:Int):(if j>i then j else i)=max i j:=J
theorem S5(i j:Int):HY [.cl<|.int i,.cl<|.int j]=some (.cl<|.int<|min i j):=by simp only[HY,lU]
theorem Mb(i j:Int):EG [.cl<|.int i,.cl<|.int j]=some (.cl<|.int<|max i j):=by simp only[EG,lT]
noncomputable def DK(i:Int):Int:=if i<0 then -i else i
theorem MY(i:Int):C2 [.cl<|.int i]=some (.cl<|.int<|DK i):=rfl
theorem uL(n:Nat):LF 0 (n)=(List.range n).map λk:Nat=>PV.int<|k:=by
 apply ACk;intro k _;rw[show(0:Int)+(k)=k by lia]
theorem aA(i j:Int):LF i j=(List.range (j-i).toNat).map λk:Nat=>PV.int<|i+(k):=rfl
section
variable{α β:Type}{enc:α->PV}
theorem JP{g:GF}{t:BF}{fe:EF}{Hk:AX}{c:α->Bool}{h:α->PV}:∀{xs:List α},(∀x∈xs,∃A5,g (enc x) Hk=some A5/\t A5=some (c x)/\(c x=true->∃r,fe A5=some r/\r.clean=some (h x)))->collect g t fe Hk (xs.map enc)=some ((xs.filter c).map h)
 |[],_=>rfl
 |x::xs,H=>by
  have ih:=JP        λy hy=>H y<|AAX _ hy;obtain⟨A5,e1,e2,e3⟩:=H x AAf;rw[AAT];unfold collect;rw[e1];dsimp only;rw[e2];cases hc:c x with
  |false=>
   dsimp only;rw[ih,List.filter_cons_of_neg<|by simp[hc]]
  |true=>
   obtain⟨r,e4,e5⟩:=e3 hc;dsimp only;rw[e4];dsimp only;rw[e5,ih,List.filter_cons_of_pos hc,AAT]
theorem GD{g:GF}{fe:EF}{Hk:AX}{h:α->PV}{xs:List α}(H:∀x∈xs,∃A5 r,g (enc x) Hk=some A5/\fe A5=some r/\r.clean=some (h x)):collect g Bn fe Hk (xs.map enc)=some (xs.map h):=by
 have:=JP   (t:=Bn)      λx hx=>by
  obtain⟨A5,r,e1,e2,e3⟩:=H x hx;exact⟨A5,e1,rfl,λ_=>⟨r,e2,e3⟩⟩
 rw[this,ADs.mpr λ_ _=>rfl]
theorem GZ{gt:GF}{body:SF}{c:α->Bool}{r:RV}(I:AX->Prop):∀{xs:List α}{ρ:AX},I ρ->(∀x∈xs,∀ρ,I ρ->∃A5,gt (enc x) ρ=some A5/\(c x=true->body A5=some (.rt r))/\(c x=false->∃BZ,body A5=some (.nx BZ)/\I BZ))->(xs.any c=true->EH gt body (xs.map enc) ρ=some (.rt r))/\(xs.any c=false->∃ρ',EH gt body (xs.map enc) ρ=some (.nx ρ')/\I ρ')
 |[],ρ,hI,_=>⟨λh=>by simp at h,λ_=>⟨ρ,rfl,hI⟩⟩
 |x::xs,ρ,hI,H=>by
  obtain⟨A5,e1,h1,h2⟩:=H x AAf ρ hI;rw[AAT,ABM];unfold EH;rw[e1];dsimp only;cases hc:c x with
  |true=>
   rw[h1 hc];exact⟨λ_=>rfl,λh=>by simp at h⟩
  |false=>
   obtain⟨BZ,e2,jY⟩:=h2 hc;rw[e2];exact GZ I  jY λy hy=>H y<|AAX _ hy
theorem TJ{gt:GF}{body:SF}(f:β->α->β)(R:β->AX->Prop):∀{xs:List α}{b:β}{ρ:AX},R b ρ->(∀x∈xs,∀b ρ,R b ρ->∃A5 BZ,gt (enc x) ρ=some A5/\body A5=some (.nx BZ)/\R (f b x) BZ)->∃ρ',EH gt body (xs.map enc) ρ=some (.nx ρ')/\R (xs.foldl f b) ρ'
 |[],b,ρ,hR,_=>⟨ρ,rfl,hR⟩
 |x::xs,b,ρ,hR,H=>by
  obtain⟨A5,BZ,e1,e2,h2⟩:=H x AAf b ρ hR;rw[AAT];unfold EH;rw[e1];dsimp only;rw[e2];exact TJ f R  h2 λy hy=>H y<|AAX _ hy
end
theorem di(r:List Pt)(i:Int)(h1 : -(r.length)<=i)(h2:i<r.length):CH (AI r) i=some (pv<|AL.AA r i):=by
 unfold CH Dl;rw[B9];by_cases h0:0<=i
 .rw[AAH h0,AAH h2];have hi:i.toNat<r.length:=J
  simp only[AAl,AI];unfold AL.AA;rw[AAF h0 h2];simp[List.getD,AAV hi]
 .rw[AAG h0,AAH h1];have hi:(i+r.length).toNat<r.length:=J
  simp only[AAl,AI];unfold AL.AA;rw[<-Int.add_emod_right i r.length,AAF J J];simp[List.getD,AAV hi]
theorem B0(r:List Pt)(i:Int)(h1 : -(r.length)<=i)(h2:i<r.length):AJ (.cl<|.lst<|AI r) (.cl<|.int i)=some (.cl<|pv<|AL.AA r i):=by
 show(CH (AI r) i).map _=_;rw[di r i h1 h2];rfl
theorem Np(bs:List Bool):FA (bs.map PV.bl)=some bs:=by
 induction bs with
 |nil=>rfl
 |cons b bs ih=>rw[AAT,FA,ih];rfl
theorem lY(bs:List Int):EY (bs.map PV.int)=some bs:=by
 induction bs with
 |nil=>rfl
 |cons b bs ih=>rw[AAT,EY,ih];rfl
open L2.PL L2.K
open AL (AH Ar BC AA M nb)
theorem C9{n:Int}{r:List Pt}(hn:0<=n)(h:∀p∈r,Bd n p)(i:Int):Bd n<|AA r i:=by
 unfold AL.AA;rw[List.getD];cases e:r[(i%(r.length)).toNat]? with
 |none=>exact⟨by simp;lia,by simp;lia,by simp;lia,by simp;lia⟩
 |some p=>exact h p<|ABP e
theorem B5{N n:Nat}{g:SF}{ps:List PV}{r:RV}(h:ps.length=n)(e:g (A8 N ps)=some (.rt r)):denote N n g ps=some r:=by
 unfold denote;rw[AAH h,e];rfl
theorem Cy{f:EF}{ρ:AX}{p:PV}(e:f ρ=some (.cl p)):Ak f ρ=some (.rt<|.cl p):=by unfold Ak;rw[e]
theorem Pl{f:EF}{ρ:AX}{p:List PV}(e:f ρ=some (.fr p)):Ak f ρ=some (.rt<|.fr p):=by unfold Ak;rw[e]
theorem Bu{k:List RV->Option RV}{g:AF}{ρ:AX}{rs:List RV}{z:RV}(e:g ρ=some rs)(h:k rs=some z):fB k g ρ=some z:=by unfold fB;rw[e];exact h
theorem AM{f:EF}{g:AF}{ρ:AX}{x:RV}{xs:List RV}(e:f ρ=some x)(h:g ρ=some xs):AD f g ρ=some (x::xs):=by unfold AD;rw[e,h]
theorem Ab(ρ:AX):AG ρ=some []:=rfl
theorem AQ{k:RV->RV->Option RV}{fa fb:EF}{ρ:AX}{x y z:RV}(ha:fa ρ=some x)(hb:fb ρ=some y)(h:k x y=some z):f2 k fa fb ρ=some z:=by unfold f2;rw[ha];rw[hb];exact h
theorem A9{F:List PV->Option RV}{g:AF}{ρ:AX}{rs:List RV}{ps:List PV}{z:RV}(e:g ρ=some rs)(c:CW rs=some ps)(h:F ps=some z):AU F g ρ=some z:=by unfold AU;rw[e];dsimp only;rw[c];exact h
theorem Kd{f g:EF}{ρ:AX}{a b:Bool}(ha:f ρ=some (.cl<|.bl a))(hb:a=true->g ρ=some (.cl<|.bl b)):DB f g ρ=some (.cl<|.bl<|a&&b):=by
 unfold DB;rw[ha];cases a
 .rfl
 .exact hb rfl
theorem RU{f g:EF}{ρ:AX}{a b:Bool}(ha:f ρ=some (.cl<|.bl a))(hb:a=false->g ρ=some (.cl<|.bl b)):DH f g ρ=some (.cl<|.bl (a||b)):=by
 unfold DH;rw[ha];cases a
 .exact hb rfl
 .rfl
theorem A2{f:EF}{ρ:AX}{a:Bool}(ha:f ρ=some (.cl<|.bl a)):AN f ρ=some a:=by unfold AN;rw[ha]
theorem FE{f:BF}{ρ:AX}{a:Bool}(ha:f ρ=some a):CY f ρ=some (!a):=by unfold CY;rw[ha];rfl
theorem HG{f g:BF}{ρ:AX}{a b:Bool}(ha:f ρ=some a)(hb:a=true->g ρ=some b):BY f g ρ=some (a&&b):=by
 unfold BY;rw[ha];cases a
 .rfl
 .exact hb rfl
theorem HJ{f g:BF}{ρ:AX}{a b:Bool}(ha:f ρ=some a)(hb:a=false->g ρ=some b):CZ f g ρ=some (a||b):=by
 unfold CZ;rw[ha];cases a
 .exact hb rfl
 .rfl
theorem sq{g h:SF}{ρ ρ':AX}(e:g ρ=some (.nx ρ')):AO g h ρ=h ρ':=by unfold AO;rw[e]
theorem CU{g h:SF}{ρ:AX}{r:RV}(e:g ρ=some (.rt r)):AO g h ρ=some (.rt r):=by unfold AO;rw[e]
theorem BA{i:Nat}{f:EF}{ρ:AX}{r:RV}{p:PV}(e:f ρ=some r)(c:r.clean=some p):Aa i f ρ=some (.nx<|ρ.set i<|some<|.im p):=by unfold Aa;rw[e];dsimp only;rw[c]
theorem set_own{i:Nat}{f:EF}{ρ:AX}{ps:List PV}(e:f ρ=some (.fr ps)):EB i f ρ=some (.nx<|ρ.set i<|some<|.own ps):=by unfold EB;rw[e]
theorem BU{t:BF}{g h:SF}{ρ:AX}(e:t ρ=some true):Al t g h ρ=g ρ:=by unfold Al;rw[e]
theorem BP{t:BF}{g h:SF}{ρ:AX}(e:t ρ=some false):Al t g h ρ=h ρ:=by unfold Al;rw[e]
theorem Cq{its:IF}{gt:GF}{body:SF}{ρ:AX}{xs:List PV}(e:its ρ=some xs):Cw its gt body ρ=EH gt body xs ρ:=by unfold Cw;rw[e]
theorem KG{a b c:Pt}(ha:Bd 1000 a)(hb:Bd 1000 b):Ej [pv a,pv b,pv c]=some (.cl<|.int<|AH a b c):=by
 have h1:Ei (b.1-a.1)<|c.2-a.2:=FY (by unfold Bd at *;lia);have h2:Ei (b.2-a.2)<|c.1-a.1:=FY (by unfold Bd at *;lia);simp[Ej,denote,Wh,A8,Ak,f2,AB,fC,Dm,D4,Ad,kI,CL,h1,h2,Out.val,AH]
def pw(a b:Pt):PV:=.tup [pv a,pv b]
theorem Jl(a b:Pt):AJ (.cl<|pw a b) (.cl<|.int 0)=some (.cl<|pv a):=rfl
theorem Jm(a b:Pt):AJ (.cl<|pw a b) (.cl<|.int 1)=some (.cl<|pv b):=rfl
theorem LZ{a b c:Pt}(ha:Bd 1000 a)(hb:Bd 1000 b):F7 [pv c,pw a b]=some (.cl<|.bl<|Ar a b c):=by
 have e1:=KG (c:=c) ha hb;have e2:Ar a b c=(decide (AH a b c=0)&&((decide (min a.1 b.1<=c.1)&&decide (c.1<=max a.1 b.1))&&(decide (min a.2 b.2<=c.2)&&decide (c.2<=max a.2 b.2)))):=by
  rw[Ar,ACn,ACn]
 rw[e2];have e3:(!(AH a b c==0)) = !(decide (AH a b c=0)):=rfl;have e4:=HV (min a.1 b.1) c.1;have e5:=HV c.1<|max a.1 b.1;have e6:=HV (min a.2 b.2) c.2;have e7:=HV c.2<|max a.2 b.2;have e8:=Ij (AH a b c) 0;rw[e3]at e8;generalize decide (min a.1 b.1<=c.1)=b1 at *
 generalize decide (c.1<=max a.1 b.1)=b2 at *
 generalize decide (min a.2 b.2<=c.2)=b3 at *
 generalize decide (c.2<=max a.2 b.2)=b4 at *
 generalize decide (AH a b c=0)=b5 at *
 cases b5
 .simp only[F7,denote,RI,A8,AO,Aa,Al,Ak,f2,AB,fC,AN,AU,AD,AG,CW,Out.val,RV.clean,
  AAc,ABi,AAT,ACG,ABm,ABZ,List.replicate,List.getElem?_cons_zero,ABL,ABw,ACw,AAl,
  Jl,Jm,AB0,Nat.reduceAdd,e1,e8,ADm,ACx]
 .cases b1<;>cases b2<;>cases b3<;>cases b4<;>simp only[F7,denote,RI,A8,AO,Aa,Al,Ak,f2,AB,fC,AN,AU,AD,AG,CW,EA,fB,DB,Out.val,RV.clean,
  AAc,ABi,AAT,ACG,ABm,ABZ,List.replicate,List.getElem?_cons_zero,ABL,ABw,ACw,AAl,
  Dm,D4,Jl,Jm,Am,S5,Mb,AB0,Nat.reduceAdd,e1,e8,e4,e5,e6,e7,Bool.not_true,ABV,ACx]
theorem VF{a b c d:Pt}(ha:Bd 1000 a)(hb:Bd 1000 b):La [pw a b,pw c d]=some (.cl<|.bl<|AL.parts a b c d):=by
 have e1:=KG (c:=c) ha hb;have e2:=KG (c:=d) ha hb;have e3:=HX (AH a b c) 0;have e4:=Ea (AH a b c) 0;have e5:=HX (AH a b d) 0;have e6:=Ea (AH a b d) 0;unfold AL.parts;generalize AH a b c=x at *
 generalize AH a b d=y at *
 generalize decide (x<0)=b1 at *
 generalize decide (0<x)=b2 at *
 generalize decide (y<0)=b3 at *
 generalize decide (0<y)=b4 at *
 cases b1<;>cases b2<;>cases b3<;>cases b4<;>simp only[La,denote,Wd,A8,AO,Aa,Ak,f2,AB,fC,AU,AD,AG,CW,DB,DH,Out.val,RV.clean,AAc,ABi,AAT,ACG,ABm,ABZ,List.replicate,List.getElem?_cons_zero,ABL,ABw,ACw,AAl,Jl,Jm,AB0,Nat.reduceAdd,e1,e2,e3,e4,e5,e6,ABV,ACx,ACR,Bool.or_true]
theorem VC{a b c d:Pt}(ha:Bd 1000 a)(hb:Bd 1000 b)(hc:Bd 1000 c)(hd:Bd 1000 d):Hq [pw a b,pw c d]=some (.cl<|.bl<|BC a b c d):=by
 have e1:=VF (c:=c) (d:=d) ha hb;have e2:=VF (c:=a) (d:=b) hc hd;have e3:=LZ (c:=c) ha hb;have e4:=LZ (c:=d) ha hb;have e5:=LZ (c:=a) hc hd;have e6:=LZ (c:=b) hc hd;unfold BC;generalize AL.parts a b c d=b1 at *
 generalize AL.parts c d a b=b2 at *
 generalize Ar a b c=b3 at *
 generalize Ar a b d=b4 at *
 generalize Ar c d a=b5 at *
 generalize Ar c d b=b6 at *
 cases b1<;>cases b2<;>cases b3<;>cases b4<;>cases b5<;>cases b6<;>simp only[Hq,denote,Wa,A8,AO,Aa,Al,Ak,f2,AB,fC,AN,AU,AD,AG,CW,DH,BY,Out.val,RV.clean,AAc,ABi,AAT,ACG,ABm,ABZ,List.replicate,List.getElem?_cons_zero,ABL,ABw,ACw,AAl,Jl,Jm,Am,AB0,Nat.reduceAdd,e1,e2,e3,e4,e5,e6,ABV,ACx,ACR,Bool.or_true]
def Ec(p:Pt):Bool:=decide (DK p.1<=100)&&decide (DK p.2<=100)
theorem TX{p:Pt}:Ec p=true↔Bd 100 p:=by
 have a1:∀i:Int,DK i<=100↔(-100<=i/\i<=100):=λi=>by unfold DK;split<;>lia
 simp only[Ec,AAJ,AAa,a1];exact⟨λh=>⟨h.1.1,h.1.2,h.2.1,h.2.2⟩,λh=>⟨⟨h.1,h.2.1⟩,h.2.2.1,h.2.2.2⟩⟩
theorem cP{r:List Pt}(hl:r.length<=1000):NS [.lst<|AI r]=some (.cl<|.bl<|r.all Ec):=by
 have hc:collect (Ag 0) Bn (DB (f2 B7 (fB C2<|AD (f2 AJ (AB 0)<|fC<|.int 0) AG)<|fC<|.int 100)<|f2 B7 (fB C2<|AD (f2 AJ (AB 0)<|fC<|.int 1) AG)<|fC<|.int 100) (By 1 [] [some<|.im<|.lst<|AI r]) (AI r)=some ((r.map Ec).map PV.bl):=by
  rw[AA2];refine GD  λp _=>⟨_,.cl<|.bl<|Ec p,rfl,?_,rfl⟩;simp only[By,DB,f2,fB,AD,AG,AB,fC,List.replicate,ABm,ABZ,ABw,List.getElem?_cons_zero,Dm,MY,HV];unfold Ec;cases decide (DK p.1<=100)<;>rfl
 simp only[NS,denote,WC,A8,Ak,fB,AD,AG,BS,Be,AB,AAc,ABi,AAT,ACG,ABm,ABZ,List.replicate,List.getElem?_cons_zero,RV.list,AB0,Nat.reduceAdd,Nat.reduceSub,ABv,ACV];rw[AAH (by rw[B9];exact hl),hc];simp only[AA5,Es,RV.list,AAl,Np,Out.val];rw[ADT];rfl
def Hw(r:List Pt):Bool:=(List.range r.length).all λk=>!(AH (AA r<|(k:Int)-2) (AA r<|(k:Int)-1) (AA r k)==0)
theorem Vq{n:Nat}(h:n<=1000):Hl<|n:=⟨J,J⟩
theorem Dg{g:AF}{ρ:AX}{n:Nat}(e:g ρ=some [.cl<|.int<|n])(h:n<=1000):Bm g ρ=some ((List.range n).map λk:Nat=>PV.int<|k):=by
 unfold Bm;rw[e];dsimp only;rw[AAH<|Vq h,uL]
theorem ES{its:IF}{own:Nat}{cap:List Nat}{g:GF}{t:BF}{fe:EF}{ρ:AX}{xs ys:List PV}(e:its ρ=some xs)(h:xs.length<=1000)(e2:collect g t fe (By own cap ρ) xs=some ys):BS its own cap g t fe ρ=some (.fr ys):=by
 unfold BS;rw[e];dsimp only;rw[AAH h,e2]
 rfl
theorem cO{r:List Pt}(hl:r.length<=1000)(h2:2<=r.length)(hb:∀p∈r,Bd 1000 p):QO [.lst<|AI r]=some (.cl<|.bl<|Hw r):=by
 have hc:collect (Ag 0) Bn (f2 CC (AU Ej<|AD (f2 AJ (AB 1)<|f2 Ad (AB 0)<|fC<|.int 2)<|AD (f2 AJ (AB 1)<|f2 Ad (AB 0)<|fC<|.int 1)<|AD (f2 AJ (AB 1)<|AB 0) AG)<|fC<|.int 0) (By 1 [0] [some<|.im<|.lst<|AI r]) ((List.range r.length).map λk:Nat=>PV.int<|k) =
  some (((List.range r.length).map λk:Nat=>!(AH (AA r<|(k)-2) (AA r<|(k)-1) (AA r k)==0)).map PV.bl):=by
  rw[AA2];refine GD  λk hk=>⟨_,.cl<|.bl (!(AH (AA r<|(k)-2) (AA r<|(k)-1) (AA r k)==0)),rfl,?_,rfl⟩;have Bi:=AAP.mp hk;simp only[By,f2,AU,AD,AG,AB,fC,CW,RV.clean,List.replicate,AAT,ABm,ABZ,ABw,List.getElem?_cons_zero,ABL,Option.join_some,C3,B0 r ((k)-2) J J,B0 r ((k)-1) J J,B0 r (k) J J,KG (C9 J hb _)<|C9 J hb _,Ij]
 have e:=ES (Dg (g:=AD (fB Ah<|AD (AB 0) AG) AG)   (by rw[<-B9];rfl) hl) (by simpa using hl) hc;refine B5 rfl<|Cy<|Bu (AM e<|Ab _) ?_;simp only[Es,RV.list,AAl,Np,AA5,ADT]
 rfl
def BW(r:List Pt):List<|Pt×Pt:=(List.range r.length).map λk:Nat=>(AA r k,AA r<|(k:Int)+1)
def BQ(ws:List<|Pt×Pt):List PV:=ws.map λw=>pw w.1 w.2
theorem Nf{r:List Pt}(hl:r.length<=1000)(h1:0<r.length):Hr [.lst<|AI r]=some (.fr<|BQ<|BW r):=by
 have hc:collect (Ag 0) Bn (Av<|AD (f2 AJ (AB 1)<|AB 0)<|AD (f2 AJ (AB 1)<|f2 Ap (f2 AZ (AB 0)<|fC<|.int 1)<|fB Ah<|AD (AB 1) AG) AG) (By 1 [0] [some<|.im<|.lst<|AI r]) ((List.range r.length).map λk:Nat=>PV.int<|k)=some (BQ<|BW r):=by
  unfold BQ BW;rw[AA2];refine GD  λk hk=>⟨_,.cl<|pw (AA r k)<|AA r<|(k)+1,rfl,?_,rfl⟩;have Bi:=AAP.mp hk;have hm:AA r (((k)+1)%(r.length))=AA r ((k)+1):=by
   unfold AL.AA;rw[AAr _<|ABR _]
  simp only[By,f2,Av,AD,AG,AB,fC,fB,RV.clean,List.replicate,AAT,ABm,ABZ,ABw,List.getElem?_cons_zero,ABL,Option.join_some,GU,HW,B9,DM (i:=(k)+1) (j:=(r.length)) J,B0 r (k) J J,B0 r (((k)+1)%(r.length)) J<|AAY _ J,hm]
  rfl
 have e:=ES (Dg (g:=AD (fB Ah<|AD (AB 0) AG) AG)   (by rw[<-B9];rfl) hl) (by simpa using hl) hc;exact B5 rfl<|Pl e
theorem lx(i a b:Int):BB false (.cl<|.int i) (.cl<|.tup [.int a,.int b])=some (.cl<|.bl (i==a||i==b)):=by
 simp only[BB,RV.seq,EY,AA5,ABM,AC9,ACR,ABv,ACV];rw[ACh ,ACh (a:=b)]
theorem VD{n i j:Int}(hn:0<n):Hm [.int n,.int i,.int j]=some (.cl<|.bl<|nb n<|j-i):=by
 simp only[Hm,denote,WD,A8,Ak,f2,AB,fC,Av,AD,AG,CW,RV.clean,Out.val,AAc,ABi,AAT,ABm,ABZ,List.replicate,List.getElem?_cons_zero,ABL,AAl,C3,DM hn,lx,AB0,Nat.reduceAdd,Nat.reduceSub,Nat.reduceLeDiff,nb]
def Ut(r:List Pt)(k:Int):PV:=pw (AA r k)<|AA r<|k+1
theorem b7(r:List Pt)(k:Nat)(h:k<r.length):AJ (.cl<|.lst<|BQ<|BW r) (.cl<|.int<|k)=some (.cl<|Ut r k):=by
 show(CH _ _).map _=_;have:CH (BQ<|BW r) (k)=some (Ut r k):=by
  unfold CH Dl BQ BW;simp[h,Ut]
 rw[this];rfl
def JL(r:List Pt):Bool:=!((List.range r.length).any λk=>(List.range<|r.length-(k+1)).any λd=>!(nb r.length<|((k:Int)+1+d)-k)&&M r k ((k:Int)+1+d))
theorem cQ{r:List Pt}(hl:r.length<=1000)(h1:0<r.length)(hb:∀p∈r,Bd 1000 p):Qe [.lst<|AI r]=some (.cl<|.bl<|JL r):=by
 have Ep:(BQ<|BW r).length=r.length:=by simp[BQ,BW]
 refine B5 rfl ?_;unfold Wj;rw[sq<|BA (A9 (AM  rfl<|Ab _) rfl<|Nf hl h1) rfl];show AO _ _ [some<|.im<|.lst<|AI r,some<|.im<|.lst<|BQ<|BW r,none,none]=_;have I0:∀a b:Option SV,Bm (AD (fB Ah<|AD (AB 1) AG) AG) [some<|.im<|.lst<|AI r,some<|.im<|.lst<|BQ<|BW r,a,b]=some ((List.range r.length).map λk:Nat=>PV.int<|k):=λa b=>Dg (by rw[<-Ep];rfl) hl;have H:=GZ  (gt:=Ag 2) (λρ=>∃a b,ρ=[some<|.im<|.lst<|AI r,some<|.im<|.lst<|BQ<|BW r,a,b]) (xs:=List.range r.length) ⟨none,none,rfl⟩ (by
  rintro k hk ρ ⟨a,b,rfl⟩;have Bi:=AAP.mp hk;refine⟨_,rfl,?_⟩;have hr:ET (AD (f2 AZ (AB 2)<|fC<|.int 1)<|AD (fB Ah<|AD (AB 1) AG) AG) [some<|.im<|.lst<|AI r,some<|.im<|.lst<|BQ<|BW r,some<|.im<|.int k,b]=some ((List.range<|r.length-(k+1)).map λd:Nat=>PV.int<|(k)+1+d):=by
   have e1:AD (f2 AZ (AB 2)<|fC<|.int 1) (AD (fB Ah<|AD (AB 1) AG) AG) [some<|.im<|.lst<|AI r,some<|.im<|.lst<|BQ<|BW r,some<|.im<|.int k,b]=some [.cl<|.int<|(k)+1,.cl<|.int<|r.length]:=by
    rw[<-Ep];rfl
   unfold ET;rw[e1];dsimp only;have c1:Hl<|(k)+1:=⟨J,J⟩;rw[AAH ⟨c1,Vq hl⟩,aA]
   congr 3
   lia
  have H2:=GZ (enc:=λd:Nat=>PV.int<|(k)+1+d) (gt:=Ag 3) (body:=(Al (BY (CY<|AN<|AU Hm<|AD (fB Ah<|AD (AB 1) AG)<|AD (AB 2)<|AD (AB 3) AG)<|AN<|AU Hq<|AD (f2 AJ (AB 1)<|AB 2)<|AD (f2 AJ (AB 1)<|AB 3) AG) (Ak<|fC<|.bl false) Am))
   (c:=λd=>!(nb r.length<|((k)+1+d)-k)&&M r k ((k)+1+d))
   (λρ=>∃b,ρ=[some<|.im<|.lst<|AI r,some<|.im<|.lst<|BQ<|BW r,some<|.im<|.int k,b]) (xs:=List.range<|r.length-(k+1)) ⟨b,rfl⟩ (by
   rintro d hd ρ ⟨b,rfl⟩;have IU:=AAP.mp hd;refine⟨_,rfl,?_⟩;have et:(BY (CY<|AN<|AU Hm<|AD (fB Ah<|AD (AB 1) AG)<|AD (AB 2)<|AD (AB 3) AG)<|AN<|AU Hq<|AD (f2 AJ (AB 1)<|AB 2)<|AD (f2 AJ (AB 1)<|AB 3) AG) [some<|.im<|.lst<|AI r,some<|.im<|.lst<|BQ<|BW r,some<|.im<|.int k,some<|.im<|.int<|(k)+1+d]=some (!(nb r.length<|((k)+1+d)-k)&&M r k ((k)+1+d)):=by
    refine HG (FE<|A2<|A9 (rs:=[.cl<|.int<|r.length,.cl<|.int k,.cl<|.int<|(k)+1+d]) (by rw[<-Ep];rfl) rfl<|VD J) λ_=>?_;have g1:=b7 r k Bi;have g2:=b7 r (k+1+d) J;refine A2<|A9 (AM (AQ   rfl rfl g1)<|AM (AQ   rfl rfl g2)<|Ab _) rfl ?_;exact VC (C9 J hb _) (C9 J hb _) (C9 J hb _)<|C9 J hb _
   refine⟨λh=>?_,λh=>⟨_,?_,some<|.im<|.int<|(k)+1+d,rfl⟩⟩
   .show Al _ _ _ [some<|.im<|.lst<|AI r,some<|.im<|.lst<|BQ<|BW r,some<|.im<|.int k,some<|.im<|.int<|(k)+1+d]=_;rw[h]at et;rw[BU et];rfl
   .show Al _ _ _ [some<|.im<|.lst<|AI r,some<|.im<|.lst<|BQ<|BW r,some<|.im<|.int k,some<|.im<|.int<|(k)+1+d]=_;rw[h]at et;rw[BP et];rfl)
  refine⟨λh=>?_,λh=>?_⟩
  .exact(Cq hr).trans (H2.1 h)
  .obtain⟨ρ',e,b',rfl⟩:=H2.2 h;exact⟨_,(Cq hr).trans e,_,_,rfl⟩)
 unfold JL;cases ha:(List.range r.length).any λk=>(List.range<|r.length-(k+1)).any λd=>!(nb r.length<|((k)+1+d)-k)&&M r k ((k)+1+d)with
 |true=>exact CU<|(Cq<|I0 none none).trans<|H.1 ha
 |false=>
  obtain⟨ρ',e,a,b,rfl⟩:=H.2 ha;rw[sq<|(Cq<|I0 none none).trans e];rfl
theorem aq(f:Int->Int):∀n:Nat,((List.range n).map λk:Nat=>f k).sum=AL.AW f n
 |0=>rfl
 |n+1=>by
  rw[ACA,AA6,ADc,aq f n];simp[AL.AW]
theorem HI{f:EF}{ρ:AX}{r:RV}{ps:List PV}(e:f ρ=some r)(h:r.list=some ps):Be false f ρ=some ps:=by
 unfold Be;rw[e];exact h
theorem dr:Bd 1000 (0,0):=by unfold Bd;lia
theorem t1{r:List Pt}(hb:∀p∈r,Bd 1000 p)(k:Nat):(AU Ej<|AD (fC<|.tup [(.int 0),(.int 0)])<|AD (f2 AJ (AB 0)<|fC<|.int 0)<|AD (f2 AJ (AB 0)<|fC<|.int 1) AG) [some<|.im<|pw (AA r k)<|AA r<|(k)+1]=some (.cl<|.int<|AL.B8 (AA r k)<|AA r<|(k)+1):=by
 refine A9 (ps:=[pv (0,0),pv<|AA r k,pv<|AA r<|(k)+1]) (AM  rfl<|AM (AQ  rfl rfl<|Jl _ _)<|AM (AQ  rfl rfl<|Jm _ _)<|Ab _) rfl ?_;rw[KG dr<|C9 J hb _];have:AH (0,0) (AA r k) (AA r<|(k)+1)=AL.B8 (AA r k) (AA r<|(k)+1):=by simp[AH,AL.B8]
 rw[this]
theorem t2{r:List Pt}(hb:∀p∈r,Bd 1000 p):collect (Ag 0) Bn (AU Ej<|AD (fC<|.tup [(.int 0),(.int 0)])<|AD (f2 AJ (AB 0)<|fC<|.int 0)<|AD (f2 AJ (AB 0)<|fC<|.int 1) AG) (By 1 [] [some<|.im<|.lst<|AI r]) (BQ<|BW r) = some (((List.range r.length).map λk:Nat=>AL.B8 (AA r k)<|AA r<|(k)+1).map PV.int):=by
 unfold BQ BW;rw[AA2,AA2];exact GD  λk hk=>⟨_,.cl<|.int<|AL.B8 (AA r k)<|AA r<|(k)+1,rfl,t1 hb k,rfl⟩
theorem t3{r:List Pt}(hl:r.length<=1000)(h1:0<r.length):Be false (AU Hr<|AD (AB 0) AG) [some<|.im<|.lst<|AI r]=some (BQ<|BW r):=by
 exact HI (A9 (AM  rfl<|Ab _) rfl<|Nf hl h1) rfl
theorem cR{r:List Pt}(hl:r.length<=1000)(h1:0<r.length)(hb:∀p∈r,Bd 1000 p):QS [.lst<|AI r]=some (.cl<|.int<|AL.DG r):=by
 have Ep:(BQ<|BW r).length=r.length:=by simp[BQ,BW]
 have e:=ES    (t3 hl h1) J<|t2 hb;refine B5 rfl<|Cy<|Bu (AM e<|Ab _) ?_;simp only[Mc,RV.list,AAl,lY,AA5];rw[aq λk=>AL.B8 (AA r k)<|AA r<|k+1,AL.DG]
noncomputable def kl(r:List Pt):List<|List Int:=r.map λp=>[p.1,p.2]
theorem Um:∀r:List Pt,JC (AI r)=some (kl r)
 |[]=>rfl
 |p::r=>by
  have ih:=Um r;show JC (pv p::AI r)=_;unfold pv JC;rw[ih]
  rfl
def dist(r:List Pt):Nat:=(_root_.ST.Dt []<|kl r).length
theorem W9{f:EF}{ρ:AX}{r:RV}{ps:List PV}{ks:List (List Int)}(e:f ρ=some r)(h:r.list=some ps)(h2:JC ps=some ks)(h3:ks.length<=17):IK f ρ=some (.cl<|.int (_root_.ST.Dt [] ks).length):=by
 unfold IK;rw[e];dsimp only;rw[h,AAl,h2];dsimp only;rw[AAH h3]
theorem N3{fa fb fc:EF}{ρ:AX}{i j k:Int}(ha:fa ρ=some (.cl<|.int i))(hb:fb ρ=some (.cl<|.int j))(hc:fc ρ=some (.cl<|.int k)):EA B7 B7 fa fb fc ρ=some (.cl<|.bl<|decide (i<=j)&&decide (j<=k)):=by
 unfold EA;rw[ha,hb];dsimp only;rw[HV];cases h:decide (i<=j)
 .rfl
 .dsimp only;rw[hc];dsimp only;rw[HV,ABV]
def DC(r:List Pt):Bool:=(decide ((3:Int)<=r.length)&&decide ((r.length:Int)<=12))&&(((dist r:Int)==(r.length:Int))&&(r.all Ec&&(Hw r&&(JL r&&decide (0<AL.DG r)))))
theorem cZ{r:List Pt}:QU [.lst<|AI r]=some (.cl<|.bl<|DC r):=by
 refine B5 rfl ?_;unfold WJ;have el:fB Ah (AD (AB 0) AG) (A8 1 [.lst<|AI r])=some (.cl<|.int<|r.length):=by rw[<-B9];rfl
 have e1:=FE<|A2<|N3 (fa:=fC<|.int 3) (fc:=fC<|.int 12) rfl el rfl;unfold DC;cases h1:(decide ((3:Int)<=r.length)&&decide ((r.length:Int)<=12))with
 |false=>
  rw[h1]at e1;exact CU<|(BU e1).trans rfl
 |true=>
  rw[h1]at e1;rw[sq<|(BP e1).trans rfl,ABV];have e2:=A2 (AQ (W9 (f:=AB 0)  rfl rfl (Um r) (by unfold kl;rw[AAO];lia)) el<|Ij _ _);have ec:AD (AB 0) AG (A8 1 [.lst<|AI r])=some [.cl<|.lst<|AI r]:=rfl;cases h2:((dist r:Int)==(r.length))with
  |false=>
   rw[show(((_root_.ST.Dt []<|kl r).length:Int)==(r.length))=false from h2]at e2;exact CU<|(BU e2).trans rfl
  |true=>
   rw[show(((_root_.ST.Dt []<|kl r).length:Int)==(r.length))=true from h2]at e2;rw[sq<|(BP e2).trans rfl,ABV];refine Cy<|Kd (A9 ec rfl<|cP J) λh3=>?_;have hb:∀p∈r,Bd 1000 p:=λp hp=>by
    have:=TX.mp<|ABH.mp h3 p hp;unfold Bd at *;lia
   refine Kd (A9 ec rfl<|cO J J hb) λ_=>?_;refine Kd (A9 ec rfl<|cQ J J hb) λ_=>?_;exact AQ (A9 ec rfl<|cR J J hb)  rfl<|Ea _ _
open AL (AH Ar BC Bg AA M nb)
theorem II{g:AF}{ρ:AX}{rs:List RV}{ps:List PV}(e:g ρ=some rs)(c:CW rs=some ps)(h:Nat.ble ps.length 1000=true:=by rfl):Av g ρ=some (.cl<|.tup ps):=by unfold Av;rw[e];dsimp only;rw[c];dsimp only;rw[AAH<|ACa h]
theorem GK{g:AF}{ρ:AX}{rs:List RV}{ps:List PV}(e:g ρ=some rs)(c:CW rs=some ps)(h:Nat.ble ps.length 1000=true:=by rfl):BE g ρ=some (.fr ps):=by unfold BE;rw[e];dsimp only;rw[c];dsimp only;rw[AAH<|ACa h]
theorem Zf{i j:Nat}{ga:AF}{ρ:AX}{rs:List RV}{p q:PV}(e:ga ρ=some rs)(c:CW rs=some [p,q]):GN i j ga ρ=some (.nx<|(ρ.set i<|some<|.im p).set j<|some<|.im q):=by unfold GN;rw[e];dsimp only;rw[c]
noncomputable def Az(s:List Int):List PV:=s.map PV.int
theorem Ss(s:List Int):(Az s).length=s.length:=AAO ..
noncomputable def Af(s:List Int)(k:Int):Int:=if k<s.length then s.getD k.toNat 0 else(s.getD 0 0%65521*48271+k*30103)%65521
theorem Vc(s:List Int)(k:Int)(h0:0<=k)(h:k<s.length):AJ (.cl<|.rd<|Az s) (.cl<|.int k)=some (.cl<|.int<|s.getD k.toNat 0):=by
 show(CH (Az s) k).map _=_;have hk:k.toNat<s.length:=J
 have:CH (Az s) k=some (.int<|s.getD k.toNat 0):=by
  unfold CH Dl;rw[Ss,AAH h0,AAH h];simp[Az,hk]
 rw[this];rfl
theorem Vz{i j:Int}(h : -1000000<=j/\j<=1000000):Ei i j:=.inr ⟨J,J⟩
theorem QP(s:List Int)(k:Int)(h0:0<=k):Bh [.rd<|Az s,.int k]=some (.cl<|.int<|Af s k):=by
 refine B5 rfl ?_;unfold WO;have el:fB Ah (AD (AB 0) AG) (A8 3 [.rd<|Az s,.int k])=some (.cl<|.int<|s.length):=by rw[<-Ss];rfl
 have e1:=A2<|AQ (fa:=AB 1) rfl el<|HX k _;unfold Af;by_cases h:k<s.length
 .rw[ABn h]at e1;rw[AAH h];exact CU<|(BU e1).trans<|Cy<|AQ rfl rfl<|Vc s k h0 h
 .rw[ABN h]at e1;rw[AAG h,sq<|(BP e1).trans rfl,sq<|BA  rfl rfl];have iI:fB Ah (AD (AB 0) AG) [some<|.im<|.rd<|Az s,some<|.im<|.int k,some<|.im<|.int 0]=some (.cl<|.int<|s.length):=by rw[<-Ss];rfl
  have e2:=A2<|AQ (fb:=fC<|.int 0) iI rfl<|Ea _ _;have fin:∀b:Int,Ak (f2 Ap (f2 AZ (f2 CL (f2 Ap (AB 2)<|fC<|.int 65521)<|fC<|.int 48271)<|f2 CL (AB 1)<|fC<|.int 30103)<|fC<|.int 65521) [some<|.im<|.rd<|Az s,some<|.im<|.int k,some<|.im<|.int b]=some (.rt<|.cl<|.int<|(b%65521*48271+k*30103)%65521):=λb=>
   Cy (AQ (AQ (AQ (AQ  rfl rfl<|DM J) rfl<|Fs<|Vz J) (AQ  rfl rfl<|Fs<|Vz J)<|GU _ _) rfl<|DM J)
  by_cases h2:(0:Int)<s.length
  .rw[ABn h2]at e2;have e3:Aa 2 (f2 AJ (AB 0)<|fC<|.int 0) [some<|.im<|.rd<|Az s,some<|.im<|.int k,some<|.im<|.int 0]=some (.nx [some<|.im<|.rd<|Az s,some<|.im<|.int k,some<|.im<|.int<|s.getD 0 0]):=BA (AQ rfl rfl<|Vc s 0 J h2) rfl;refine(sq<|(BU e2).trans e3).trans (fin _)
  .have:s=[]:=ADZ.mp J;subst this;exact(sq<|(BP e2).trans rfl).trans (fin 0)
theorem Nd{a b c:Pt}(ha:Bd 1000 a)(hb:Bd 1000 b):D7 [pv a,pv b,pv c]=some (.cl<|.int<|AH a b c):=by
 have h1:Ei (b.1-a.1)<|c.2-a.2:=FY (by unfold Bd at *;lia);have h2:Ei (b.2-a.2)<|c.1-a.1:=FY (by unfold Bd at *;lia);refine B5 rfl ?_;exact Cy<|AQ (AQ   rfl rfl<|Fs h1) (AQ   rfl rfl<|Fs h2)<|C3 _ _
def Fe(r:List Pt):Bool:=(List.range r.length).any λk=>AH (AA r<|(k:Int)-2) (AA r<|(k:Int)-1) (AA r k)==0
theorem Mi(r:List Pt)(ρ:AX)(h:ρ[0]? = some (some<|.im<|.lst<|AI r)):fB Ah (AD (AB 0) AG) ρ=some (.cl<|.int<|r.length):=by
 rw[<-B9];exact Bu (AM  (by unfold AB;rw[h])<|Ab _) rfl
theorem U8{r:List Pt}(hl:r.length<=1000)(h2:2<=r.length)(hb:∀p∈r,Bd 1000 p):LW [.lst<|AI r]=some (.cl<|.bl<|Fe r):=by
 refine B5 rfl ?_;unfold WR;have I0:Bm (AD (fB Ah<|AD (AB 0) AG) AG) (A8 2 [.lst<|AI r])=some ((List.range r.length).map λk:Nat=>PV.int<|k):=Dg (AM (Mi r _ rfl)<|Ab _) hl;have H:=GZ (enc:=λk:Nat=>PV.int<|k) (gt:=Ag 1) (body:=(Al (AN<|f2 A6 (AU D7<|AD (f2 AJ (AB 0)<|f2 Ad (AB 1)<|fC<|.int 2)<|AD (f2 AJ (AB 0)<|f2 Ad (AB 1)<|fC<|.int 1)<|AD (f2 AJ (AB 0)<|AB 1) AG)<|fC<|.int 0) (Ak<|fC<|.bl true) Am))
  (c:=λk=>AH (AA r<|(k)-2) (AA r<|(k)-1) (AA r k)==0)
  (λρ=>∃a,ρ=[some<|.im<|.lst<|AI r,a]) (xs:=List.range r.length)  ⟨none,rfl⟩ (by
  rintro k hk ρ ⟨a,rfl⟩;have Bi:=AAP.mp hk;refine⟨_,rfl,?_⟩;have et:AN (f2 A6 (AU D7<|AD (f2 AJ (AB 0)<|f2 Ad (AB 1)<|fC<|.int 2)<|AD (f2 AJ (AB 0)<|f2 Ad (AB 1)<|fC<|.int 1)<|AD (f2 AJ (AB 0)<|AB 1) AG)<|fC<|.int 0) [some<|.im<|.lst<|AI r,some<|.im<|.int k]=some (AH (AA r<|(k)-2) (AA r<|(k)-1) (AA r k)==0):=by
   refine A2<|AQ (A9 (AM (AQ rfl rfl<|B0 r ((k)-2) J J)<|AM (AQ rfl rfl<|B0 r ((k)-1) J J)<|AM (AQ rfl rfl<|B0 r (k) J J)<|Ab _) rfl<|Nd (C9 J hb _)<|C9 J hb _) rfl<|Ma _ _
  refine⟨λh=>?_,λh=>⟨_,?_,some<|.im<|.int k,rfl⟩⟩
  .rw[h]at et;exact(BU et).trans rfl
  .rw[h]at et;exact(BP et).trans rfl)
 unfold Fe;cases ha:(List.range r.length).any λk=>AH (AA r<|(k)-2) (AA r<|(k)-1) (AA r k)==0 with
 |true=>exact CU<|(Cq I0).trans<|H.1 ha
 |false=>
  obtain⟨ρ',e,a,rfl⟩:=H.2 ha;rw[sq<|(Cq I0).trans e];rfl
theorem XO(r:List Pt):Hw r = !Fe r:=by
 unfold Hw Fe;rw[List.not_any_eq_all_not]
theorem VE{a b c:Pt}(ha:Bd 1000 a)(hb:Bd 1000 b):Ho [pv a,pv b,pv c]=some (.cl<|.bl<|Ar a b c):=by
 refine B5 rfl ?_;unfold WX;have e1:=A2<|AQ (ρ:=A8 5 [pv a,pv b,pv c]) (fb:=fC<|.int 0) (A9 (AM (f:=AB 0) rfl<|AM (f:=AB 1) rfl<|AM (f:=AB 2) rfl<|Ab _) rfl<|Nd  ha hb) rfl<|Ij _ _;by_cases h:AH a b c=0
 .rw[show(!(AH a b c==0))=false by simp[h]]at e1;rw[sq<|(BP e1).trans rfl,sq<|BA (II (AM (Bu (AM (AQ rfl rfl<|Dm a)<|AM (AQ rfl rfl<|Dm b)<|Ab _)<|S5 _ _)<|AM (Bu (AM (AQ rfl rfl<|D4 a)<|AM (AQ rfl rfl<|D4 b)<|Ab _)<|S5 _ _)<|Ab _) rfl) rfl,sq<|BA (II (AM (Bu (AM (AQ rfl rfl<|Dm a)<|AM (AQ rfl rfl<|Dm b)<|Ab _)<|Mb _ _)<|AM (Bu (AM (AQ rfl rfl<|D4 a)<|AM (AQ rfl rfl<|D4 b)<|Ab _)<|Mb _ _)<|Ab _) rfl) rfl]
  have e2:Ar a b c=((decide (min a.1 b.1<=c.1)&&decide (c.1<=max a.1 b.1))&&(decide (min a.2 b.2<=c.2)&&decide (c.2<=max a.2 b.2))):=by
   rw[Ar,ACn,ACn,ABn h,ABV]
  rw[e2];exact Cy<|Kd (N3    rfl rfl rfl) λ_=>N3    rfl rfl rfl
 .rw[show(!(AH a b c==0))=true by simp[h]]at e1;rw[show Ar a b c=false by simp[Ar,h]];exact CU<|(BU e1).trans rfl
theorem VB{a b c d:Pt}(ha:Bd 1000 a)(hb:Bd 1000 b)(hc:Bd 1000 c)(hd:Bd 1000 d):Hn [pv a,pv b,pv c,pv d]=some (.cl<|.bl<|Bg a b c d):=by
 refine B5 rfl ?_;unfold WW;have e0:∀h:SF,AO (Aa 4<|BE<|AD (Av<|AD (AB 0)<|AD (AB 1)<|AD (AB 2) AG)<|AD (Av<|AD (AB 0)<|AD (AB 1)<|AD (AB 3) AG) AG) (AO (Aa 4<|f2 AZ (AB 4)<|BE<|AD (Av<|AD (AB 2)<|AD (AB 3)<|AD (AB 0) AG)<|AD (Av<|AD (AB 2)<|AD (AB 3)<|AD (AB 1) AG) AG) h) (A8 9 [pv a,pv b,pv c,pv d]) = h [some<|.im<|pv a,some<|.im<|pv b,some<|.im<|pv c,some<|.im<|pv d,some<|.im<|.lst [.tup [pv a,pv b,pv c],.tup [pv a,pv b,pv d],.tup [pv c,pv d,pv a],.tup [pv c,pv d,pv b]],none,none,none,none]:=λh=>by
  rw[sq  rfl];rw[sq (ρ':=[some<|.im<|pv a,some<|.im<|pv b,some<|.im<|pv c,some<|.im<|pv d,some<|.im<|.lst [.tup [pv a,pv b,pv c],.tup [pv a,pv b,pv d],.tup [pv c,pv d,pv a],.tup [pv c,pv d,pv b]],none,none,none,none]) rfl]
 rw[e0];have H:=GZ (enc:=λt:Pt×Pt×Pt=>PV.tup [pv t.1,pv t.2.1,pv t.2.2]) (gt:=Cd 3<|BO (Ag 5)<|BO (Ag 6)<|BO (Ag 7) Cn) (body:=Al (AN<|AU Ho<|AD (AB 5)<|AD (AB 6)<|AD (AB 7) AG) (Ak<|fC<|.bl true) Am)
  (c:=λt=>Ar t.1 t.2.1 t.2.2)
  (λρ=>∃x y z,ρ=[some<|.im<|pv a,some<|.im<|pv b,some<|.im<|pv c,some<|.im<|pv d,some<|.im<|.lst [.tup [pv a,pv b,pv c],.tup [pv a,pv b,pv d],.tup [pv c,pv d,pv a],.tup [pv c,pv d,pv b]],x,y,z,none]) (xs:=[(a,b,c),(a,b,d),(c,d,a),(c,d,b)]) ⟨none,none,none,rfl⟩ (by
  rintro⟨x1,x2,x3⟩ ht ρ ⟨x,y,z,rfl⟩;refine⟨_,rfl,?_⟩;have Xp:Bd 1000 x1/\Bd 1000 x2:=by
   simp only[AAi,ACQ,ACK,ADY]at ht;rcases ht with⟨rfl,rfl,_⟩|⟨rfl,rfl,_⟩|⟨rfl,rfl,_⟩|⟨rfl,rfl,_⟩<;>constructor<;>assumption
  have et:AN (AU Ho<|AD (AB 5)<|AD (AB 6)<|AD (AB 7) AG) [some<|.im<|pv a,some<|.im<|pv b,some<|.im<|pv c,some<|.im<|pv d,some<|.im<|.lst [.tup [pv a,pv b,pv c],.tup [pv a,pv b,pv d],.tup [pv c,pv d,pv a],.tup [pv c,pv d,pv b]],some<|.im<|pv x1,some<|.im<|pv x2,some<|.im<|pv x3,none]=some (Ar x1 x2 x3):=
   A2 (A9 (AM rfl<|AM rfl<|AM rfl<|Ab _) rfl<|VE Xp.1 Xp.2)
  refine⟨λh=>?_,λh=>⟨_,?_,some<|.im<|pv x1,some<|.im<|pv x2,some<|.im<|pv x3,rfl⟩⟩
  .rw[show Ar x1 x2 x3=true from h]at et;exact(BU et).trans rfl
  .rw[show Ar x1 x2 x3=false from h]at et;exact(BP et).trans rfl)
 have ea:([(a,b,c),(a,b,d),(c,d,a),(c,d,b)]).any (λt=>Ar t.1 t.2.1 t.2.2)=(Ar a b c||Ar a b d||Ar c d a||Ar c d b):=by
  simp only[ABM,AC9,ACR,Bool.or_assoc]
 rw[ea]at H;unfold Bg;have I0:∀x y z w:Option SV,Be true (AB 4) [some<|.im<|pv a,some<|.im<|pv b,some<|.im<|pv c,some<|.im<|pv d,some<|.im<|.lst [.tup [pv a,pv b,pv c],.tup [pv a,pv b,pv d],.tup [pv c,pv d,pv a],.tup [pv c,pv d,pv b]],x,y,z,w]=some (([(a,b,c),(a,b,d),(c,d,a),(c,d,b)]).map λt=>PV.tup [pv t.1,pv t.2.1,pv t.2.2]):=λ_ _ _ _=>rfl;cases ho:(Ar a b c||Ar a b d||Ar c d a||Ar c d b)with
 |true=>
  exact CU<|(Cq<|I0 _ _ _ _).trans<|H.1 ho
 |false=>
  obtain⟨ρ',e,x,y,z,rfl⟩:=H.2 ho;rw[sq<|(Cq<|I0 _ _ _ _).trans e];have sd:∀(f g h:EF)(u v w:Pt)(ρ:AX),Bd 1000 u->Bd 1000 v->f ρ=some (.cl<|pv u)->g ρ=some (.cl<|pv v)->h ρ=some (.cl<|pv w)->f2 BL (AU D7<|AD f<|AD g<|AD h AG) (fC<|.int 0) ρ=some (.cl<|.bl<|decide (AH u v w>0)):=λf g h u v w ρ b1 b2 e1 e2 e3=>
   AQ (A9 (AM e1<|AM e2<|AM e3<|Ab _) rfl<|Nd b1 b2) rfl (Ea _ _)
  rw[sq<|BA (AQ (sd _ _ _ a b c _ ha hb rfl rfl rfl) (sd _ _ _ a b d _ ha hb rfl rfl rfl)<|S6 _ _) rfl];exact Cy<|Kd  rfl λ_=>AQ (sd _ _ _ c d a _ hc hd rfl rfl rfl) (sd _ _ _ c d b _ hc hd rfl rfl rfl)<|S6 _ _
section
variable{α β:Type}{enc:α->PV}
theorem O9{gt:GF}{body:SF}(f:β->α->β)(R:Nat->β->AX->Prop):∀{xs:List α}{n:Nat}{b:β}{ρ:AX},R n b ρ->(∀i x,xs[i]? = some x->∀b ρ,R (n+i) b ρ->∃A5 BZ,gt (enc x) ρ=some A5/\body A5=some (.nx BZ)/\R (n+i+1) (f b x) BZ)->∃ρ',EH gt body (xs.map enc) ρ=some (.nx ρ')/\R (n+xs.length) (xs.foldl f b) ρ'
 |[],n,b,ρ,hR,_=>⟨ρ,rfl,hR⟩
 |x::xs,n,b,ρ,hR,H=>by
  obtain⟨A5,BZ,e1,e2,h2⟩:=H 0 x rfl b ρ hR;rw[AAT];unfold EH;rw[e1];dsimp only;rw[e2];obtain⟨ρ',e,h⟩:=O9 f R   h2 λi y hy b ρ hb=>by
   have:=H (i+1) y (by simpa using hy) b ρ (by rw[show n+(i+1)=n+1+i by lia];exact hb);rw[show n+1+i+1=n+(i+1)+1 by lia];exact this
  exact⟨ρ',e,by rw[AAc,show n+(xs.length+1)=n+1+xs.length by lia];exact h⟩
end
theorem XU(f:Int->Int):∀(n:Nat)(z:Int),((List.range n).foldl (λt (k:Nat)=>t+f k) z)=z+AL.AW f n
 |0,z=>by simp[AL.AW]
 |n+1,z=>by
  rw[ACA,ADM,XU f n z];simp[AL.AW];lia
theorem cg{r:List Pt}(hl:r.length<=1000)(h1:0<r.length)(hb:∀p∈r,Bd 1000 p):NX [.lst<|AI r]=some (.cl<|.int<|AL.KR r):=by
 refine B5 rfl ?_;unfold WM;rw[sq (ρ':=[some<|.im<|.lst<|AI r,some<|.im<|.int 0,none,none,none]) rfl];have I0:Bm (AD (fB Ah<|AD (AB 0) AG) AG) [some<|.im<|.lst<|AI r,some<|.im<|.int 0,none,none,none]=some ((List.range r.length).map λk:Nat=>PV.int<|k):=Dg (AM (Mi r _ rfl)<|Ab _) hl;obtain⟨ρ',e,a,b,c,rfl⟩:=TJ (enc:=λk:Nat=>PV.int<|k) (gt:=Ag 2) (body:=AO (GN 3 4<|AD (f2 AJ (AB 0)<|f2 Ad (AB 2)<|fC<|.int 1)<|AD (f2 AJ (AB 0)<|AB 2) AG)
  (Aa 1<|f2 Ad (f2 AZ (AB 1)<|f2 CL (f2 AJ (AB 3)<|fC<|.int 0)<|f2 AJ (AB 4)<|fC<|.int 1)<|f2 CL (f2 AJ (AB 3)<|fC<|.int 1)<|f2 AJ (AB 4)<|fC<|.int 0))
  (λ(t)(k)=>t+AL.B8 (AA r<|(k)-1) (AA r k)) (λt ρ=>∃a b c,ρ=[some<|.im<|.lst<|AI r,some<|.im<|.int t,a,b,c]) (xs:=List.range r.length)  ⟨none,none,none,rfl⟩ (by
  rintro k hk t ρ ⟨a,b,c,rfl⟩;have Bi:=AAP.mp hk;refine⟨_,[some<|.im<|.lst<|AI r,some<|.im<|.int<|t+AL.B8 (AA r<|(k)-1) (AA r k),some<|.im<|.int k,some<|.im<|pv<|AA r<|(k)-1,some<|.im<|pv<|AA r k],rfl,?_,_,_,_,rfl⟩;have h3:=C9 J hb<|(k)-1;have e1:GN 3 4 (AD (f2 AJ (AB 0)<|f2 Ad (AB 2)<|fC<|.int 1)<|AD (f2 AJ (AB 0)<|AB 2) AG) [some<|.im<|.lst<|AI r,some<|.im<|.int t,some<|.im<|.int k,b,c] = some (.nx [some<|.im<|.lst<|AI r,some<|.im<|.int t,some<|.im<|.int k,some<|.im<|pv<|AA r<|(k)-1,some<|.im<|pv<|AA r k]):=by
   exact Zf (AM (AQ rfl rfl<|B0 r ((k)-1) J J)<|AM (AQ rfl rfl<|B0 r (k) J J)<|Ab _) rfl
  refine(sq e1).trans ?_;have e2:t+(AA r<|(k)-1).1*(AA r k).2-(AA r<|(k)-1).2*(AA r k).1=t+AL.B8 (AA r<|(k)-1) (AA r k):=by unfold AL.B8;lia
  rw[<-e2];refine(BA (AQ (AQ  rfl (AQ (AQ rfl rfl<|Dm _) (AQ rfl rfl<|D4 _)<|Fs<|FY (by unfold Bd at h3;lia))<|GU _ _) (AQ (AQ rfl rfl<|D4 _) (AQ rfl rfl<|Dm _)<|Fs<|FY (by unfold Bd at h3;lia))<|C3 _ _) rfl).trans ?_
  rfl)
 rw[sq<|(Cq I0).trans e,XU λk=>AL.B8 (AA r<|k-1)<|AA r k,ABI]
 rfl
theorem V5{f:EF}{t:BF}{fe:EF}{ρ:AX}{cap:List Nat}{rv:RV}{r:List Pt}{c:Pt->Bool}{h:Pt->PV}(e:f ρ=some rv)(hp:rv.list=some (AI r))(hl:r.length<=1000) (H:∀p∈r,t (some (.im<|.int p.1)::some (.im<|.int p.2)::cap.map λj=>(ρ[j]?).join)=some (c p)/\(c p=true->∃x,fe (some (.im<|.int p.1)::some (.im<|.int p.2)::cap.map λj=>(ρ[j]?).join)=some x/\x.clean=some (h p))) :
 BS (Be false f) 2 cap (Cd 2<|BO (Ag 0)<|BO (Ag 1) Cn) t fe ρ=some (.fr<|(r.filter c).map h):=by
 refine ES (HI e hp) (by rw[B9];exact hl) ?_;refine JP   λp hp=>⟨_,rfl,?_⟩;exact H p hp
theorem RC{f:EF}{fe:EF}{ρ:AX}{cap:List Nat}{rv:RV}{r:List Pt}{h:Pt->PV}(e:f ρ=some rv)(hp:rv.list=some (AI r))(hl:r.length<=1000) (H:∀p∈r,∃x,fe (some (.im<|.int p.1)::some (.im<|.int p.2)::cap.map λj=>(ρ[j]?).join)=some x/\x.clean=some (h p)) :
 BS (Be false f) 2 cap (Cd 2<|BO (Ag 0)<|BO (Ag 1) Cn) Bn fe ρ=some (.fr<|r.map h):=by
 have:=V5 (t:=Bn)   e hp hl λp hp=>⟨rfl,λ_=>H p hp⟩;rw[this,ADs.mpr λ_ _=>rfl]
theorem O1(i a b:Int):BB true (.cl<|.int i) (.fr [.int a,.int b])=some (.cl<|.bl (!(i==a||i==b))):=by
 simp only[BB,RV.seq,RV.list,EY,AA5,ABM,AC9,ACR,AB0];rw[ACh ,ACh (a:=b)]
def GL(r:List Pt):Bool:=decide ((0:Int)<((r.filter λp=>decide (max (DK p.1) (DK p.2)>100)).length:Int))
def Ls(r:List Pt):Bool:=(List.range r.length).any λk=>(List.range k).any λj=>!(nb r.length<|(k:Int)-j)&&Bg (AA r<|(k:Int)-1) (AA r k) (AA r<|(j:Int)-1) (AA r j)
def Ja(r:List Pt):Bool:=!(!(decide ((3:Int)<=r.length)&&decide ((r.length:Int)<=12))||GL r)&&(!(!((dist r:Int)==(r.length:Int))||(Fe r||decide (AL.KR r<=0)))&&!Ls r)
theorem XJ(r:List Pt):GL r = !(r.all Ec):=by
 have h:∀p:Pt,decide (max (DK p.1) (DK p.2)>100) = !Ec p:=λp=>by
  unfold Ec;rw[<-ACn,<-decide_not];apply decide_eq_decide.mpr;lia
 unfold GL;rw[List.filter_congr  λp _=>h p];cases ha:r.all Ec with
 |true=>
  have:r.filter (λp=>!Ec p)=[]:=AC2.mpr λp hp=>by
   have:=ABH.mp ha p hp;simp[this]
  rw[this];rfl
 |false=>
  obtain⟨p,hp,hn⟩:=List.all_eq_false.mp ha;have hm:p∈r.filter (λp=>!Ec p):=ABx.mpr ⟨hp,by simpa using hn⟩;have:=AC0 hm;rw[ABn J];rfl
theorem cW{r:List Pt}(hl:r.length<=1000):LX [.lst<|AI r]=some (.cl<|.bl<|Ja r):=by
 refine B5 rfl ?_;unfold WS;rw[sq<|BA (Mi r _ rfl) rfl];show AO _ _ [some<|.im<|.lst<|AI r,some<|.im<|.int<|r.length,none,none]=_;have e1:(CZ (CY<|AN<|EA B7 B7 (fC<|.int 3) (AB 1)<|fC<|.int 12)<|AN<|f2 BL (fB Ah<|AD (BS (Be false<|AB 0) 2 [] (Cd 2<|BO (Ag 0)<|BO (Ag 1) Cn) (AN<|f2 BL (fB EG<|AD (fB C2<|AD (AB 0) AG)<|AD (fB C2<|AD (AB 1) AG) AG)<|fC<|.int 100)<|fC<|.int 1) AG)<|fC<|.int 0) [some<|.im<|.lst<|AI r,some<|.im<|.int<|r.length,none,none] = some (!(decide ((3:Int)<=r.length)&&decide ((r.length:Int)<=12))||GL r):=by
  refine HJ (FE<|A2<|N3 rfl rfl rfl) λ_=>?_;have ec:=V5 (f:=AB 0) (t:=AN<|f2 BL (fB EG<|AD (fB C2<|AD (AB 0) AG)<|AD (fB C2<|AD (AB 1) AG) AG)<|fC<|.int 100) (fe:=fC<|.int 1) (ρ:=[some<|.im<|.lst<|AI r,some<|.im<|.int<|r.length,none,none]) (cap:=[])     rfl rfl hl λp _=>⟨A2<|AQ (Bu (AM (Bu (AM rfl<|Ab _)<|MY p.1)<|AM (Bu (AM rfl<|Ab _)<|MY p.2)<|Ab _)<|Mb _ _) rfl<|Ea _ _,λ_=>⟨_,rfl,rfl⟩⟩
  refine A2<|AQ (Bu (AM ec<|Ab _)<|Yk _) rfl ?_;rw[AAO]
  rfl
 unfold Ja;cases h1:(!(decide ((3:Int)<=r.length)&&decide ((r.length:Int)<=12))||GL r)with
 |true=>
  rw[h1]at e1;exact CU<|(BU e1).trans rfl
 |false=>
  rw[h1]at e1;rw[sq<|(BP e1).trans rfl];simp only[AAt,ADI,AAJ,AAa]at h1;obtain⟨⟨X5,OX⟩,hf⟩:=h1;rw[XJ,ADI]at hf;have hb:∀p∈r,Bd 1000 p:=λp hp=>by
   have:=TX.mp<|ABH.mp hf p hp;unfold Bd at *;lia
  have ec:AD (AB 0) AG [some<|.im<|.lst<|AI r,some<|.im<|.int<|r.length,none,none]=some [.cl<|.lst<|AI r]:=rfl;have e2:(CZ (AN<|f2 CC (IK<|AB 0)<|AB 1)<|CZ (AN<|AU LW<|AD (AB 0) AG)<|AN<|f2 B7 (AU NX<|AD (AB 0) AG)<|fC<|.int 0) [some<|.im<|.lst<|AI r,some<|.im<|.int<|r.length,none,none] = some (!((dist r:Int)==(r.length))||(Fe r||decide (AL.KR r<=0))):=by
   refine HJ (A2<|AQ (W9 rfl rfl (Um r) (by unfold kl;rw[AAO];lia)) rfl<|Ij _ _) λ_=>?_;exact HJ (A2<|A9 ec rfl<|U8 J J hb) λ_=>A2<|AQ (A9 ec rfl<|cg J J hb) rfl<|HV _ _
  cases h2:(!((dist r:Int)==(r.length))||(Fe r||decide (AL.KR r<=0)))with
  |true=>
   rw[h2]at e2;exact CU<|(BU e2).trans rfl
  |false=>
   rw[h2]at e2;rw[sq<|(BP e2).trans rfl];have I0:Bm (AD (AB 1) AG) [some<|.im<|.lst<|AI r,some<|.im<|.int<|r.length,none,none]=some ((List.range r.length).map λk:Nat=>PV.int<|k):=Dg rfl hl;have H:=GZ  (gt:=Ag 2) (λρ=>∃a b,ρ=[some<|.im<|.lst<|AI r,some<|.im<|.int<|r.length,a,b]) (xs:=List.range r.length) ⟨none,none,rfl⟩ (by
    rintro k hk ρ ⟨a,b,rfl⟩;have Bi:=AAP.mp hk;refine⟨_,rfl,?_⟩;have hr:Bm (AD (AB 2) AG) [some<|.im<|.lst<|AI r,some<|.im<|.int<|r.length,some<|.im<|.int k,b]=some ((List.range k).map λd:Nat=>PV.int<|d):=Dg rfl J;have H2:=GZ (enc:=λk:Nat=>PV.int<|k) (gt:=Ag 3) (body:=(Al (AN<|f2 (BB true) (f2 Ap (f2 Ad (AB 2)<|AB 3)<|AB 1)<|BE<|AD (fC<|.int 1)<|AD (f2 Ad (AB 1)<|fC<|.int 1) AG) (Al (AN<|AU Hn<|AD (f2 AJ (AB 0)<|f2 Ad (AB 2)<|fC<|.int 1)<|AD (f2 AJ (AB 0)<|AB 2)<|AD (f2 AJ (AB 0)<|f2 Ad (AB 3)<|fC<|.int 1)<|AD (f2 AJ (AB 0)<|AB 3) AG) (Ak<|fC<|.bl false) Am) Am))
     (c:=λj=>!(nb r.length<|(k)-j)&&Bg (AA r<|(k)-1) (AA r k) (AA r<|(j)-1) (AA r j))
     (λρ=>∃b,ρ=[some<|.im<|.lst<|AI r,some<|.im<|.int<|r.length,some<|.im<|.int k,b]) (xs:=List.range k) ⟨b,rfl⟩ (by
     rintro j hj ρ ⟨b,rfl⟩;have CJ:=AAP.mp hj;refine⟨_,rfl,?_⟩;have et:AN (f2 (BB true) (f2 Ap (f2 Ad (AB 2)<|AB 3)<|AB 1)<|BE<|AD (fC<|.int 1)<|AD (f2 Ad (AB 1)<|fC<|.int 1) AG) [some<|.im<|.lst<|AI r,some<|.im<|.int<|r.length,some<|.im<|.int k,some<|.im<|.int j]=some (!(nb r.length<|(k)-j)):=
      A2 (AQ (AQ (AQ rfl rfl<|C3 _ _) rfl<|DM J) (GK rfl rfl)<|O1 _ _ _)
     have em:AN (AU Hn<|AD (f2 AJ (AB 0)<|f2 Ad (AB 2)<|fC<|.int 1)<|AD (f2 AJ (AB 0)<|AB 2)<|AD (f2 AJ (AB 0)<|f2 Ad (AB 3)<|fC<|.int 1)<|AD (f2 AJ (AB 0)<|AB 3) AG) [some<|.im<|.lst<|AI r,some<|.im<|.int<|r.length,some<|.im<|.int k,some<|.im<|.int j]=some (Bg (AA r<|(k)-1) (AA r k) (AA r<|(j)-1)<|AA r j):=
      A2 (A9 (AM (AQ rfl rfl<|B0 r ((k)-1) J J)<|AM (AQ rfl rfl<|B0 r (k) J J)<|AM (AQ rfl rfl<|B0 r ((j)-1) J J)<|AM (AQ rfl rfl<|B0 r (j) J J)<|Ab _) rfl<|VB (C9 J hb _) (C9 J hb _) (C9 J hb _)<|C9 J hb _)
     refine⟨λh=>?_,λh=>⟨_,?_,some<|.im<|.int j,rfl⟩⟩
     .simp only[AAJ]at h;rw[h.1]at et;rw[h.2]at em;exact(BU et).trans ((BU em).trans rfl)
     .cases hq:(!(nb r.length<|(k)-j))with
      |false=>rw[hq]at et;exact(BP et).trans rfl
      |true=>
       rw[hq,ABV]at h;rw[hq]at et;rw[h]at em;exact(BU et).trans ((BP em).trans rfl))
    refine⟨λh=>?_,λh=>?_⟩
    .exact(Cq hr).trans (H2.1 h)
    .obtain⟨ρ',e,b',rfl⟩:=H2.2 h;exact⟨_,(Cq hr).trans e,_,_,rfl⟩)
   unfold Ls;cases ha:(List.range r.length).any λk=>(List.range k).any λj=>!(nb r.length<|(k)-j)&&Bg (AA r<|(k)-1) (AA r k) (AA r<|(j)-1) (AA r j)with
   |true=>exact CU<|(Cq I0).trans<|H.1 ha
   |false=>
    obtain⟨ρ',e,a,b,rfl⟩:=H.2 ha;rw[sq<|(Cq I0).trans e];rfl
theorem Va(r:List Pt):JL r=true↔AL.Ll r:=by
 unfold JL AL.Ll;simp only[AAy,ABp,AAP,AAJ,not_and,Bool.not_eq_true];constructor
 .intro h k m h0 h1 h2 hn;have:=h k.toNat J (m-k-1).toNat;rw[AAW h0,AAW J,show k+1+(m-k-1)=m by lia]at this;exact this J hn
 .intro h k hk d hd h1;exact h k (k+1+d) J J J h1
theorem f6(r:List Pt):Ls r=false↔AL.Qv r:=by
 unfold Ls AL.Qv;simp only[ABp,AAP,AAJ,not_and,Bool.not_eq_true,AAy];constructor
 .intro h k j h0 h1 h2 hn;have:=h k.toNat J j.toNat J;rw[AAW h0,AAW J]at this;unfold M;rw[<-AL.PD,show k-1+1=k by lia,show j-1+1=j by lia];exact this hn
 .intro h k hk j hj h1;have:=h k j J J J h1;unfold M at this;rw[<-AL.PD,show(k:Int)-1+1=k by lia,show(j:Int)-1+1=j by lia]at this;exact this
theorem jS(r:List Pt):Ja r=DC r:=by
 have h1:(!Ls r)=JL r:=by
  rw[AB9,AAy,f6,Va];exact AL.dZ r
 unfold Ja DC;rw[h1,XJ,XO,AL.de];have h2:decide (0<AL.DG r) = !decide (AL.DG r<=0):=by
  rw[<-decide_not];apply decide_eq_decide.mpr;lia
 rw[h2];generalize (decide ((3:Int)<=r.length)&&decide ((r.length:Int)<=12))=b1;generalize r.all Ec=b2;generalize ((dist r:Int)==(r.length))=b3;generalize Fe r=b4;generalize decide (AL.DG r<=0)=b5;generalize JL r=b6;cases b1<;>cases b2<;>cases b3<;>cases b4<;>cases b5<;>cases b6<;>rfl
theorem GJ{f g:EF}{ρ:AX}{s:List Int}{k:Int}(e1:f ρ=some (.cl<|.rd<|Az s))(e2:g ρ=some (.cl<|.int k))(h:0<=k):AU Bh (AD f<|AD g AG) ρ=some (.cl<|.int<|Af s k):=
 A9 (AM e1<|AM e2<|Ab _) rfl (QP s k h)
theorem HH{f:EF}{ρ:AX}{i:Int}(n:Int)(e:f ρ=some (.cl<|.int i))(h:0<n:=by lia)(h2:n<1073741824:=by lia):f2 Bq f (fC<|.int n) ρ=some (.cl<|.int<|i / n):=AQ e rfl<|Oz h h2
theorem ER{f:EF}{ρ:AX}{i:Int}(n:Int)(e:f ρ=some (.cl<|.int i))(h:0<n:=by lia):f2 Ap f (fC<|.int n) ρ=some (.cl<|.int<|i%n):=AQ e rfl<|DM h
theorem IH{f g:EF}{ρ:AX}{i j:Int}(e:f ρ=some (.cl<|.int i))(e':g ρ=some (.cl<|.int j)):f2 AZ f g ρ=some (.cl<|.int<|i+j):=AQ e e'<|GU _ _
theorem Ke{f g:EF}{ρ:AX}{i j:Int}(e:f ρ=some (.cl<|.int i))(e':g ρ=some (.cl<|.int j)):f2 Ad f g ρ=some (.cl<|.int<|i-j):=AQ e e'<|C3 _ _
theorem JT{f:EF}{ρ:AX}{i:Int}(n:Int)(e:f ρ=some (.cl<|.int i)):AN (f2 A6 f<|fC<|.int n) ρ=some (i==n):=A2<|AQ e rfl<|Ma _ _
def Ey(s:List Int)(k count mode:Int)(b:Int×List Pt×List Pt)(d:Nat):Int×List Pt×List Pt:=
 let x:=if mode=3 then 1+(d:Int)else b.1+1+Af s (k+4+(1+(d:Int))) / 2%4
 let y:=if mode=3 then(1+(d:Int))*(count-1-(1+(d:Int)))else 1+Af s (k+4+(1+(d:Int))) / 8%9
 if Af s (k+4+(1+(d:Int)))%2=0 then(x,b.2.1 ++ [(x,0-y)],b.2.2)else(x,b.2.1,b.2.2 ++ [(x,y)])
def Cg(s:List Int)(k count:Int):Int×List Pt×List Pt:=(List.range (count-2).toNat).foldl (Ey s k count<|Af s (k+1)%4) (0,[],[])
noncomputable def EN(count:Int):List Pt:=(List.range count.toNat).map λj:Nat=>((j:Int),0-(j:Int)*(count-1-j))
noncomputable def CT(b:Int×List Pt×List Pt):List Pt:=[(0,0)]++b.2.1 ++ [(b.1+1,0)]++b.2.2.reverse
def Fx(s:List Int)(k count:Int):List Pt:=if Fe (CT<|Cg s k count)=true then EN count else CT (Cg s k count)
structure KN(i:Nat)(b:Int×List Pt×List Pt):Prop where
 lo:0<=b.1
 hi:b.1<=4*i
 len:b.2.1.length+b.2.2.length=i
 bl:∀p∈b.2.1,Bd 500 p
 bh:∀p∈b.2.2,Bd 500 p
theorem nM{a b:Int}{n m:Int}(h1 : -n<=a)(h2:a<=n)(h3 : -m<=b)(h4:b<=m) : -(n*m)<=a*b/\a*b<=n*m:=by
 have hm:0<=m:=J
 constructor
 .rcases ABW 0 a with ha|ha
  .have e1:=AAU h3 ha;have e2:=AAb h2 hm;rw[AC4]at e1;lia
  .have e1:=ADB ha h4;have e2:=AAb h1 hm;lia
 .rcases ABW 0 a with ha|ha
  .have e1:=AAU h4 ha;have e2:=AAb h2 hm;lia
  .have e1:=ADB ha h3;have e2:=AAb h1 hm;rw[AC4]at e1;lia
theorem Zr{s:List Int}{k count mode:Int}{i:Nat}{b:Int×List Pt×List Pt}(h1:3<=count)(h2:count<=12)(hi:(i)<count-2)(h:KN i b):KN (i+1)<|Ey s k count mode b i:=by
 obtain⟨x0,low,Bv⟩:=b;obtain⟨lo,hh,len,bl,bh⟩:=h;dsimp only at lo hh len bl bh;have hx:∀x,x=(if mode=3 then 1+(i:Int)else x0+1+Af s (k+4+(1+(i))) / 2%4)->0<=x/\x<=4*((i)+1):=λx e=>by
  subst e;split<;>lia
 have hy:∀y,y=(if mode=3 then(1+(i))*(count-1-(1+(i)))else 1+Af s (k+4+(1+(i))) / 8%9)->-121<=y/\y<=121:=λy e=>by
  subst e;split
  .have:=nM (n:=11) (m:=11) (a:=1+(i)) (b:=count-1-(1+(i))) J J J J;lia
  .lia
 unfold Ey;dsimp only;generalize ex:(if mode=3 then 1+(i:Int)else x0+1+Af s (k+4+(1+(i))) / 2%4)=x;generalize ey:(if mode=3 then(1+(i))*(count-1-(1+(i)))else 1+Af s (k+4+(1+(i))) / 8%9)=y;have GR:=hx x ex.symm;have Sl:=hy y ey.symm;split
 .refine⟨GR.1,by exact GR.2,by simp;lia,λp hp=>?_,bh⟩;rcases AAp.mp hp with z|z
  .exact bl p z
  .rw[AAh.mp z];unfold Bd;dsimp only;lia
 .refine⟨GR.1,by exact GR.2,by simp;lia,bl,λp hp=>?_⟩;rcases AAp.mp hp with z|z
  .exact bh p z
  .rw[AAh.mp z];unfold Bd;dsimp only;lia
theorem XT{s:List Int}{k count mode:Int}(h1:3<=count)(h2:count<=12):∀n:Nat,(n)<=count-2->KN n ((List.range n).foldl (Ey s k count mode) (0,[],[]))
 |0,_=>⟨AAB,AAB,rfl,(λp hp=>by cases hp),(λp hp=>by cases hp)⟩
 |n+1,hn=>by
  rw[ACA,ADM];exact Zr h1 h2 J<|XT h1 h2 n J
theorem Zq(s:List Int)(k:Int){count:Int}(h1:3<=count)(h2:count<=12):KN (count-2).toNat<|Cg s k count:=XT h1 h2 _ J
theorem Pr(b:Int×List Pt×List Pt):(CT b).length=b.2.1.length+b.2.2.length+2:=by simp[CT];lia
theorem uS{i:Nat}{b:Int×List Pt×List Pt}(h:KN i b)(hi:i<=100):∀p∈CT b,Bd 1000 p:=λp hp=>by
 unfold CT at hp;simp only[AAp,AAh,AB3]at hp;have:=h.lo;have:=h.hi;rcases hp with((rfl|hp)|rfl)|hp
 .unfold Bd;lia
 .have:=h.bl p hp;unfold Bd at *;lia
 .unfold Bd;lia
 .have:=h.bh p hp;unfold Bd at *;lia
theorem LD(a b:List Pt):AI (a++b)=AI a++AI b:=AA6 ..
theorem Yf(l:List Pt)(p:Pt)(h:l.length<1000):Cr (AI l) [pv p]=some (AI<|l ++ [p]):=by
 unfold Cr;dsimp only;rw[AAH (by rw[B9];exact h),LD]
 rfl
theorem PH{i:Nat}{k:List PV->List PV->Option (List PV)}{ga:AF}{ρ:AX}{ps qs Cs:List PV}{rs:List RV}(h:ρ[i]? = some (some<|.own ps))(e:ga ρ=some rs)(c:CW rs=some qs)(ek:k ps qs=some Cs):B6 i k ga ρ=some (.nx<|ρ.set i<|some<|.own Cs):=by
 unfold B6;rw[h,e];dsimp only;rw[c];dsimp only;rw[ek]
theorem Jk{x y:RV}{xs ys:List PV}(hx:x.list=some xs)(hy:y.list=some ys)(h:xs.length+ys.length<=1000):AZ x y=some (.fr<|xs++ys):=by
 have hc:MZ x y=some (.fr<|xs++ys):=by
  unfold MZ;rw[hx,hy];dsimp only;rw[AAH h]
 unfold AZ;split
 .cases hx
 .exact hc
theorem XA{f:EF}{ρ:AX}{r:RV}{ps:List PV}(e:f ρ=some r)(h:r.list=some ps):Fd f ρ=some (.fr ps.reverse):=by unfold Fd;rw[e];dsimp only;rw[h]
theorem c7(s:List Int)(k count:Int)(h0:0<=k)(h1:3<=count)(h2:count<=12):QY [.rd<|Az s,.int k,.int count]=some (.cl<|.lst<|AI<|Fx s k count):=by
 refine B5 rfl ?_;unfold WY;rw[sq<|BA (ER 4<|GJ   rfl rfl J) rfl];generalize kg:Af s (k+1)%4=mode;have ke:Cg s k count=(List.range (count-2).toNat).foldl (Ey s k count mode) (0,[],[]):=by unfold Cg;rw[kg]
 show AO _ _ [some<|.im<|.rd<|Az s,some<|.im<|.int k,some<|.im<|.int count,some<|.im<|.int mode,some<|.im<|.int 0,some<|.own [],some<|.own [],none,none,none,none]=_;have I0:ET (AD (fC<|.int 1)<|AD (f2 Ad (AB 2)<|fC<|.int 1) AG) [some<|.im<|.rd<|Az s,some<|.im<|.int k,some<|.im<|.int count,some<|.im<|.int mode,some<|.im<|.int 0,some<|.own [],some<|.own [],none,none,none,none]=some ((List.range (count-2).toNat).map λd:Nat=>PV.int<|1+(d)):=by
  unfold ET;rw[show AD (fC<|.int 1) (AD (f2 Ad (AB 2)<|fC<|.int 1) AG) [some<|.im<|.rd<|Az s,some<|.im<|.int k,some<|.im<|.int count,some<|.im<|.int mode,some<|.im<|.int 0,some<|.own [],some<|.own [],none,none,none,none]=some [.cl<|.int 1,.cl<|.int<|count-1]from rfl];dsimp only;rw[AAH ⟨⟨J,J⟩,⟨J,J⟩⟩,aA,show(count-1-1).toNat=(count-2).toNat by lia]
 obtain⟨ρ',e,⟨a7,a8,a9,rfl⟩,Ae⟩:=O9 (enc:=λd:Nat=>PV.int<|1+(d)) (gt:=Ag 7) (body:=(AO (Aa 8<|AU Bh<|AD (AB 0)<|AD (f2 AZ (f2 AZ (AB 1)<|fC<|.int 4)<|AB 7) AG)
  (AO (Aa 4<|f2 AZ (f2 AZ (AB 4)<|fC<|.int 1)<|f2 Ap (f2 Bq (AB 8)<|fC<|.int 2)<|fC<|.int 4)
  (AO (Aa 9<|f2 AZ (fC<|.int 1)<|f2 Ap (f2 Bq (AB 8)<|fC<|.int 8)<|fC<|.int 9)
  (AO (Al (AN<|f2 A6 (AB 3)<|fC<|.int 3) (AO (Aa 4<|AB 7)
  (Aa 9<|f2 CL (AB 7)<|f2 Ad (f2 Ad (AB 2)<|fC<|.int 1)<|AB 7)) Am)
  (Al (AN<|f2 A6 (f2 Ap (AB 8)<|fC<|.int 2)<|fC<|.int 0) (B6 5 Cr<|AD (Av<|AD (AB 4)<|AD (f2 Ad (fC<|.int 0)<|AB 9) AG) AG)<|B6 6 Cr<|AD (Av<|AD (AB 4)<|AD (AB 9) AG) AG))))))
  (Ey s k count mode) (λi b ρ=>(∃a7 a8 a9,ρ=[some<|.im<|.rd<|Az s,some<|.im<|.int k,some<|.im<|.int count,some<|.im<|.int mode,some<|.im<|.int b.1,some<|.own<|AI b.2.1,some<|.own<|AI b.2.2,a7,a8,a9,none])/\KN i b)
  (xs:=List.range (count-2).toNat) (n:=0) (b:=(0,[],[])) ⟨⟨none,none,none,rfl⟩,AAB,AAB,rfl,(λp hp=>by cases hp),(λp hp=>by cases hp)⟩ (by
  rintro i d hd b ρ ⟨⟨a7,a8,a9,rfl⟩,Ae⟩;have kO:=by
   have:=(AAL.mp hd).1;simpa using this
  have OS:=by
   have:=(AAL.mp hd).2;simpa using this.symm
  subst OS;rw[ACs]at Ae;have SK:=Zr (s:=s) (k:=k) (mode:=mode) h1 h2 J Ae;have Bj:=Ae.len;obtain⟨x0,low,Bv⟩:=b;refine⟨_,[some<|.im<|.rd<|Az s,some<|.im<|.int k,some<|.im<|.int count,some<|.im<|.int mode,some<|.im<|.int (Ey s k count mode (x0,low,Bv) d).1,some<|.own<|AI (Ey s k count mode (x0,low,Bv) d).2.1,some<|.own<|AI (Ey s k count mode (x0,low,Bv) d).2.2,some<|.im<|.int<|1+(d),some<|.im<|.int<|Af s<|k+4+(1+(d)),some (.im (.int (if mode=3 then(1+(d))*(count-1-(1+(d)))else 1+Af s (k+4+(1+(d))) / 8%9))),none],rfl,?_,⟨_,_,_,rfl⟩,by rw[ACs];exact SK⟩;dsimp only at Bj;unfold Ey;rw[sq<|BA (GJ   rfl rfl J) rfl];generalize Af s (k+4+(1+(d)))=c;show AO _ _ [some<|.im<|.rd<|Az s,some<|.im<|.int k,some<|.im<|.int count,some<|.im<|.int mode,some<|.im<|.int<|x0+1+c / 2%4,some<|.own<|AI low,some<|.own<|AI Bv,some<|.im<|.int<|1+(d),some<|.im<|.int c,some<|.im<|.int<|1+c / 8%9,none]=_;have em:=JT (f:=AB 3) (ρ:=[some<|.im<|.rd<|Az s,some<|.im<|.int k,some<|.im<|.int count,some<|.im<|.int mode,some<|.im<|.int<|x0+1+c / 2%4,some<|.own<|AI low,some<|.own<|AI Bv,some<|.im<|.int<|1+(d),some<|.im<|.int c,some<|.im<|.int<|1+c / 8%9,none])  3 rfl;have fin:∀x y:Int,Al (AN<|f2 A6 (f2 Ap (AB 8)<|fC<|.int 2)<|fC<|.int 0) (B6 5 Cr<|AD (Av<|AD (AB 4)<|AD (f2 Ad (fC<|.int 0)<|AB 9) AG) AG) (B6 6 Cr<|AD (Av<|AD (AB 4)<|AD (AB 9) AG) AG) [some<|.im<|.rd<|Az s,some<|.im<|.int k,some<|.im<|.int count,some<|.im<|.int mode,some<|.im<|.int x,some<|.own<|AI low,some<|.own<|AI Bv,some<|.im<|.int<|1+(d),some<|.im<|.int c,some<|.im<|.int y,none] = some (.nx [some<|.im<|.rd<|Az s,some<|.im<|.int k,some<|.im<|.int count,some<|.im<|.int mode,some (.im (.int (if c%2=0 then(x,low ++ [(x,0-y)],Bv)else(x,low,Bv ++ [(x,y)])).1)),some (.own (AI (if c%2=0 then(x,low ++ [(x,0-y)],Bv)else(x,low,Bv ++ [(x,y)])).2.1)),some (.own (AI (if c%2=0 then(x,low ++ [(x,0-y)],Bv)else(x,low,Bv ++ [(x,y)])).2.2)),some<|.im<|.int<|1+(d),some<|.im<|.int c,some<|.im<|.int y,none]):=λx y=>by
   have ec:=JT (f:=f2 Ap (AB 8)<|fC<|.int 2) (ρ:=[some<|.im<|.rd<|Az s,some<|.im<|.int k,some<|.im<|.int count,some<|.im<|.int mode,some<|.im<|.int x,some<|.own<|AI low,some<|.own<|AI Bv,some<|.im<|.int<|1+(d),some<|.im<|.int c,some<|.im<|.int y,none])  0<|ER 2 rfl;by_cases hc:c%2=0
   .rw[show(c%2==0)=true by simp[hc]]at ec;rw[BU ec,AAH hc];exact PH rfl (AM (x:=.cl<|pv (x,0-y)) rfl<|Ab _) rfl<|Yf low _ J
   .rw[show(c%2==0)=false by simp[hc]]at ec;rw[BP ec,AAG hc];exact PH rfl (AM (x:=.cl<|pv (x,y)) rfl<|Ab _) rfl<|Yf Bv _ J
  by_cases hm:mode=3
  .rw[show(mode==3)=true by simp[hm]]at em;simp only[AAH hm];refine Eq.trans (sq<|(BU em).trans ?_)<|fin _ _;refine(sq<|BA  rfl rfl).trans ?_;refine(BA (AQ   rfl rfl<|Fs<|FY J) rfl)
  .rw[show(mode==3)=false by simp[hm]]at em;simp only[AAG hm];exact(sq<|(BP em).trans rfl).trans (fin _ _))
 rw[sq<|(Cq I0).trans e,<-ke];have YB:=Zq s k h1 h2;have Bj:=YB.len;have zU:=Pr<|Cg s k count;have iP:f2 AZ (f2 AZ (f2 AZ (BE<|AD (Av<|AD (fC<|.int 0)<|AD (fC<|.int 0) AG) AG)<|AB 5)<|BE<|AD (Av<|AD (f2 AZ (AB 4)<|fC<|.int 1)<|AD (fC<|.int 0) AG) AG) (Fd<|AB 6) [some<|.im<|.rd<|Az s,some<|.im<|.int k,some<|.im<|.int count,some<|.im<|.int mode,some<|.im<|.int (Cg s k count).1,some<|.own<|AI (Cg s k count).2.1,some<|.own<|AI (Cg s k count).2.2,a7,a8,a9,none]=some (.fr<|AI<|CT<|Cg s k count):=by
  have l1:=B9 (Cg s k count).2.1;have l2:=B9 (Cg s k count).2.2;refine(AQ (AQ (AQ   rfl rfl<|Jk rfl rfl (by simp;lia))  rfl<|Jk rfl rfl (by simp;lia)) (XA rfl rfl)<|Jk rfl rfl (by simp;lia)).trans ?_;unfold CT;rw[LD,LD];unfold AI;rw[List.map_reverse]
  rfl
 rw[sq<|BA iP rfl];have ef:=A2<|A9 (ρ:=[some<|.im<|.rd<|Az s,some<|.im<|.int k,some<|.im<|.int count,some<|.im<|.int mode,some<|.im<|.int (Cg s k count).1,some<|.own<|AI (Cg s k count).2.1,some<|.own<|AI (Cg s k count).2.2,a7,a8,a9,some<|.im<|.lst<|AI<|CT<|Cg s k count]) (AM (f:=AB 10) rfl<|Ab _) rfl<|U8  J J<|uS YB J;unfold Fx;cases hf:Fe (CT<|Cg s k count)with
 |false=>
  rw[hf]at ef;exact(sq<|(BP ef).trans rfl).trans rfl
 |true=>
  rw[hf]at ef;have j7:count=(count.toNat):=J
  have eb:BS (Bm<|AD (AB 2) AG) 1 [2] (Ag 0) Bn (Av<|AD (AB 0)<|AD (f2 Ad (fC<|.int 0)<|f2 CL (AB 0)<|f2 Ad (f2 Ad (AB 1)<|fC<|.int 1)<|AB 0) AG) [some<|.im<|.rd<|Az s,some<|.im<|.int k,some<|.im<|.int count,some<|.im<|.int mode,some<|.im<|.int (Cg s k count).1,some<|.own<|AI (Cg s k count).2.1,some<|.own<|AI (Cg s k count).2.2,a7,a8,a9,some<|.im<|.lst<|AI<|CT<|Cg s k count]=some (.fr<|AI<|EN count):=by
   refine ES (Dg  (by rw[<-j7];rfl) J) (by simp;lia) ?_;unfold EN AI;rw[AA2];refine GD  λj hj=>⟨_,.cl<|pv ((j),0-(j)*(count-1-j)),rfl,?_,rfl⟩;have CJ:=AAP.mp hj;exact II (AM  rfl<|AM (Ke  rfl<|AQ   rfl rfl<|Fs<|FY J)<|Ab _) rfl
  exact(sq<|(BU ef).trans<|BA eb rfl).trans rfl
def wx(s:List Int)(k:Int):Nat->Int
 |0=>0
 |i+1=>wx s k i+1+Af s (k+5+(i:Int))%4
def wy(s:List Int)(k:Int):Nat->Int
 |0=>0
 |i+1=>wy s k i+1+Af s (k+5+(i:Int)) / 4%4
def LO(s:List Int)(k:Int):List Pt:=
 [(wx s k 0,wy s k 0),(wx s k 5,wy s k 0),(wx s k 5,wy s k 5),(wx s k 1,wy s k 5),(wx s k 1,wy s k 2),(wx s k 3,wy s k 2),(wx s k 3,wy s k 3),(wx s k 2,wy s k 3),(wx s k 2,wy s k 4),(wx s k 4,wy s k 4),(wx s k 4,wy s k 1),(wx s k 0,wy s k 1)]
noncomputable def upTo(f:Nat->Int)(n:Nat):List PV:=(List.range<|n+1).map λi=>PV.int<|f i
theorem ba(f:Nat->Int)(n:Nat):upTo f (n+1)=upTo f n ++ [.int<|f<|n+1]:=by unfold upTo;rw[ACA,AA6];rfl
theorem bZ(f:Nat->Int)(n:Nat):AJ (.bo<|upTo f n) (.cl<|.int (-1))=some (.cl<|.int<|f n):=by
 show(CH (upTo f n) (-1)).map _=_;have:CH (upTo f n) (-1)=some (.int<|f n):=by
  have hl:(upTo f n).length=n+1:=by simp[upTo]
  unfold CH Dl;rw[hl,AAG J,AAH J,show(-1+((n+1:Nat):Int)).toNat=n by lia];simp[upTo]
 rw[this];rfl
theorem Ye(l:List PV)(p:PV)(h:l.length<1000):Cr l [p]=some (l ++ [p]):=by
 unfold Cr;dsimp only;rw[AAH h]
theorem dC(s:List Int)(k:Int)(h0:0<=k):Na [.rd<|Az s,.int k]=some (.fr<|AI<|LO s k):=by
 refine B5 rfl ?_;show AO _ _ [some<|.im<|.rd<|Az s,some<|.im<|.int k,some<|.own [.int 0],some<|.own [.int 0],none,none,none]=_;have I0:Bm (AD (fC<|.int 5) AG) [some<|.im<|.rd<|Az s,some<|.im<|.int k,some<|.own [.int 0],some<|.own [.int 0],none,none,none]=some ((List.range 5).map λd:Nat=>PV.int<|d):=Dg  rfl J;obtain⟨ρ',e,a4,a5,rfl⟩:=O9 (enc:=λd:Nat=>PV.int<|d) (gt:=Ag 4) (body:=(AO (Aa 5<|AU Bh<|AD (AB 0)<|AD (f2 AZ (f2 AZ (AB 1)<|fC<|.int 5)<|AB 4) AG)
  (AO (B6 2 Cr<|AD (f2 AZ (f2 AZ (f2 AJ (AB 2)<|IL<|fC<|.int 1)<|fC<|.int 1)<|f2 Ap (AB 5)<|fC<|.int 4) AG)
  (B6 3 Cr<|AD (f2 AZ (f2 AZ (f2 AJ (AB 3)<|IL<|fC<|.int 1)<|fC<|.int 1)<|f2 Ap (f2 Bq (AB 5)<|fC<|.int 4)<|fC<|.int 4) AG))))
  (λ(u)(_)=>u) (λi _ ρ=>∃a4 a5,ρ=[some<|.im<|.rd<|Az s,some<|.im<|.int k,some<|.own<|upTo (wx s k) i,some<|.own<|upTo (wy s k) i,a4,a5,none]) (xs:=List.range 5)  (b:=()) ⟨none,none,rfl⟩ (by
  rintro i d hd _ ρ ⟨a4,a5,rfl⟩;have OS:=by
   have:=(AAL.mp hd).2;simpa using this.symm
  have kO:=by
   have:=(AAL.mp hd).1;simpa using this
  subst OS;rw[ACs];have HU:(upTo (wx s k) d).length=d+1:=by simp[upTo]
  have Kp:(upTo (wy s k) d).length=d+1:=by simp[upTo]
  refine⟨_,[some<|.im<|.rd<|Az s,some<|.im<|.int k,some<|.own<|upTo (wx s k)<|d+1,some<|.own<|upTo (wy s k)<|d+1,some<|.im<|.int d,some<|.im<|.int<|Af s<|k+5+(d),none],rfl,?_,_,_,rfl⟩;rw[sq<|BA (GJ   rfl rfl J) rfl];rw[ba,ba,wx,wy];refine(sq<|PH  rfl (AM (IH (IH (AQ rfl rfl<|bZ _ _) rfl)<|ER 4  rfl)<|Ab _) rfl<|Ye _ _ J).trans ?_;exact(PH  rfl (AM (IH (IH (AQ rfl rfl<|bZ _ _) rfl)<|ER 4<|HH 4  rfl)<|Ab _) rfl<|Ye _ _ J))
 rw[sq<|(Cq I0).trans e];refine(sq<|BA  rfl rfl).trans ?_;exact Pl rfl
theorem V8(r:List Pt)(n:Nat)(h:n<=r.length):Kb (AI r) none (some<|n)=AI (r.take n):=by
 unfold Kb;rw[HT.aN,HT.aM,B9,List.drop_zero,Nat.sub_zero,Nat.min_eq_left h,AI,AI,List.map_take]
theorem gA(r:List Pt)(n:Nat)(h:n<=r.length):Kb (AI r) (some<|n) none=AI (r.drop n):=by
 unfold Kb;rw[HT.aN,HT.aM,B9,Nat.min_eq_left h,AC1 (by simp[AI]),AI,AI,List.map_drop]
theorem XB{f g:EF}{ρ:AX}{rv:RV}{r:List Pt}{n:Nat}(e:f ρ=some rv)(hr:rv.list=some (AI r))(e2:g ρ=some (.cl<|.int<|n))(h:n<=r.length):DJ f Df (DI g) ρ=some (.fr<|AI<|r.take n):=by
 unfold DJ Df DI;rw[e,e2];dsimp only;rw[hr];dsimp only;rw[V8 r n h]
theorem W6{f g:EF}{ρ:AX}{rv:RV}{r:List Pt}{n:Nat}(e:f ρ=some rv)(hr:rv.list=some (AI r))(e2:g ρ=some (.cl<|.int<|n))(h:n<=r.length):DJ f (DI g) Df ρ=some (.fr<|AI<|r.drop n):=by
 unfold DJ Df DI;rw[e,e2];dsimp only;rw[hr];dsimp only;rw[gA r n h]
noncomputable def DO(r:List Pt)(c:Int):Nat:=(c%(r.length:Int)).toNat
theorem Pe{r:List Pt}(h:0<r.length)(c:Int):DO r c<r.length:=by
 have h2:=AAY c (b:=(r.length)) J;unfold DO;lia
theorem Zt{r:List Pt}(h:0<r.length)(c:Int):c%(r.length)=(DO r c):=by
 have h1:=AAj c (b:=(r.length)) J;unfold DO;lia
def Ed(r:List Pt)(c:Int):Pt:=((AA r<|DO r c).1+c / 16%33-16,(AA r<|DO r c).2+c / 1024%33-16)
def Gd(r:List Pt)(c:Int):List Pt:=r.take (DO r c) ++ [Ed r c]++r.drop (DO r c+1)
def LC(s:List Int)(k:Int)(r:List Pt)(d:Nat):List Pt:=
 let c:=Af s<|k+15+(d:Int)
 if(decide (max (DK (Ed r c).1) (DK (Ed r c).2)<80)&&Ja (Gd r c))=true then Gd r c else r
def LB(s:List Int)(k:Int)(r:List Pt):List Pt:=(List.range (Af s (k+1) / 4%5).toNat).foldl (LC s k) r
theorem qY{r:List Pt}(h:0<r.length)(c:Int):(Gd r c).length=r.length:=by
 have:=Pe h c;unfold Gd;simp only[AAn,ABd,AAc,ABi,ACH];lia
theorem c9(s:List Int)(k:Int)(h0:0<=k){r:List Pt}(h1:0<r.length)(h2:r.length<=100):QZ [.rd<|Az s,.int k,.lst<|AI r]=some (.cl<|.lst<|AI<|LB s k r)/\(LB s k r).length=r.length:=by
 have hn:Af s (k+1) / 4%5=((Af s (k+1) / 4%5).toNat):=J
 have I0:Bm (AD (f2 Ap (f2 Bq (AU Bh<|AD (AB 0)<|AD (f2 AZ (AB 1)<|fC<|.int 1) AG)<|fC<|.int 4)<|fC<|.int 5) AG) (A8 9 [.rd<|Az s,.int k,.lst<|AI r])=some ((List.range (Af s (k+1) / 4%5).toNat).map λd:Nat=>PV.int<|d):=
  Dg (AM (by rw[<-hn];exact ER 5<|HH 4<|GJ   rfl rfl J)<|Ab _) J
 obtain⟨ρ',e,⟨a3,a4,a5,a6,a7,a8,rfl⟩,Bj⟩:=TJ  (gt:=Ag 3) (body:=(AO (Aa 4<|AU Bh<|AD (AB 0)<|AD (f2 AZ (f2 AZ (AB 1)<|fC<|.int 15)<|AB 3) AG)<|AO (Aa 5<|f2 Ap (AB 4)<|fB Ah<|AD (AB 2) AG)<|AO (Aa 6<|f2 Ad (f2 AZ (f2 AJ (f2 AJ (AB 2)<|AB 5)<|fC<|.int 0)<|f2 Ap (f2 Bq (AB 4)<|fC<|.int 16)<|fC<|.int 33)<|fC<|.int 16)<|AO (Aa 7<|f2 Ad (f2 AZ (f2 AJ (f2 AJ (AB 2)<|AB 5)<|fC<|.int 1)<|f2 Ap (f2 Bq (AB 4)<|fC<|.int 1024)<|fC<|.int 33)<|fC<|.int 16)<|AO (Aa 8<|f2 AZ (f2 AZ (DJ (AB 2) Df<|DI<|AB 5)<|BE<|AD (Av<|AD (AB 6)<|AD (AB 7) AG) AG)<|DJ (AB 2) (DI<|f2 AZ (AB 5)<|fC<|.int 1) Df)<|Al (BY (AN<|f2 Bb (fB EG<|AD (fB C2<|AD (AB 6) AG)<|AD (fB C2<|AD (AB 7) AG) AG)<|fC<|.int 80)<|AN<|AU LX<|AD (AB 8) AG) (Aa 2<|AB 8) Am)) (LC s k) (λ(q) ρ=>(∃a3 a4 a5 a6 a7 a8,ρ=[some<|.im<|.rd<|Az s,some<|.im<|.int k,some<|.im<|.lst<|AI q,a3,a4,a5,a6,a7,a8])/\q.length=r.length)   (ρ:=A8 9 [.rd<|Az s,.int k,.lst<|AI r]) ⟨⟨none,none,none,none,none,none,rfl⟩,rfl⟩ (by
  rintro d hd q ρ ⟨⟨a3,a4,a5,a6,a7,a8,rfl⟩,hq⟩;have SS:0<q.length:=J
  unfold LC;dsimp only;have Wt:=GJ (f:=AB 0) (g:=f2 AZ (f2 AZ (AB 1)<|fC<|.int 15)<|AB 3) (ρ:=[some<|.im<|.rd<|Az s,some<|.im<|.int k,some<|.im<|.lst<|AI q,some<|.im<|.int d,a4,a5,a6,a7,a8])   rfl rfl J;generalize Af s (k+15+(d))=c at Wt ⊢;have hp:=Pe SS c;have MO:=Zt SS c;have hx:AJ (.cl<|.lst<|AI q) (.cl<|.int<|DO q c)=some (.cl<|pv<|AA q<|DO q c):=B0 q _ J J;have kd:=B9 q;have lG:=qY SS c;have pre:∀h:SF,AO (Aa 4<|AU Bh<|AD (AB 0)<|AD (f2 AZ (f2 AZ (AB 1)<|fC<|.int 15)<|AB 3) AG) (AO (Aa 5<|f2 Ap (AB 4)<|fB Ah<|AD (AB 2) AG)<|AO (Aa 6<|f2 Ad (f2 AZ (f2 AJ (f2 AJ (AB 2)<|AB 5)<|fC<|.int 0)<|f2 Ap (f2 Bq (AB 4)<|fC<|.int 16)<|fC<|.int 33)<|fC<|.int 16)<|AO (Aa 7<|f2 Ad (f2 AZ (f2 AJ (f2 AJ (AB 2)<|AB 5)<|fC<|.int 1)<|f2 Ap (f2 Bq (AB 4)<|fC<|.int 1024)<|fC<|.int 33)<|fC<|.int 16)<|AO (Aa 8<|f2 AZ (f2 AZ (DJ (AB 2) Df<|DI<|AB 5)<|BE<|AD (Av<|AD (AB 6)<|AD (AB 7) AG) AG)<|DJ (AB 2) (DI<|f2 AZ (AB 5)<|fC<|.int 1) Df) h)
    [some<|.im<|.rd<|Az s,some<|.im<|.int k,some<|.im<|.lst<|AI q,some<|.im<|.int d,a4,a5,a6,a7,a8] =
    h [some<|.im<|.rd<|Az s,some<|.im<|.int k,some<|.im<|.lst<|AI q,some<|.im<|.int d,some<|.im<|.int c,some<|.im<|.int<|DO q c,some<|.im<|.int (Ed q c).1,some<|.im<|.int (Ed q c).2,some<|.im<|.lst<|AI<|Gd q c]:=λh=>by
   rw[sq<|BA Wt rfl];refine(sq (BA (r:=.cl<|.int<|DO q c) (by
    rw[<-MO,<-kd];exact AQ   rfl rfl<|DM J) rfl)).trans ?_
   refine(sq<|BA (Ke (IH (AQ (AQ rfl rfl hx) rfl<|Dm _)<|ER 33<|HH 16  rfl) rfl) rfl).trans ?_;refine(sq<|BA (Ke (IH (AQ (AQ rfl rfl hx) rfl<|D4 _)<|ER 33<|HH 1024  rfl) rfl) rfl).trans ?_;refine(sq<|BA (AQ (AQ (XB   rfl rfl rfl J) (y:=.fr [pv<|Ed q c]) rfl<|Jk rfl rfl (by simp[AI];lia)) (W6   rfl rfl rfl J)<|Jk rfl rfl (by simp[AI];lia)) rfl).trans ?_;unfold Gd;rw[LD,LD]
   rfl
  have et:(BY (AN<|f2 Bb (fB EG<|AD (fB C2<|AD (AB 6) AG)<|AD (fB C2<|AD (AB 7) AG) AG)<|fC<|.int 80)<|AN<|AU LX<|AD (AB 8) AG) [some<|.im<|.rd<|Az s,some<|.im<|.int k,some<|.im<|.lst<|AI q,some<|.im<|.int d,some<|.im<|.int c,some<|.im<|.int<|DO q c,some<|.im<|.int (Ed q c).1,some<|.im<|.int (Ed q c).2,some<|.im<|.lst<|AI<|Gd q c] = some (decide (max (DK (Ed q c).1) (DK (Ed q c).2)<80)&&Ja (Gd q c)):=
   HG (A2<|AQ (Bu (AM (Bu (AM rfl<|Ab _)<|MY _)<|AM (Bu (AM rfl<|Ab _)<|MY _)<|Ab _)<|Mb _ _) rfl<|HX _ _) λ_=>A2<|A9 (AM rfl<|Ab _) rfl<|cW J
  cases hb:(decide (max (DK (Ed q c).1) (DK (Ed q c).2)<80)&&Ja (Gd q c))with
  |true=>
   rw[hb]at et;rw[AAH rfl];exact⟨_,_,rfl,(pre _).trans<|(BU et).trans<|BA  rfl rfl,⟨_,_,_,_,_,_,rfl⟩,J⟩
  |false=>
   rw[hb]at et;exact⟨_,_,rfl,(pre _).trans<|(BP et).trans rfl,⟨_,_,_,_,_,_,rfl⟩,hq⟩)
 refine⟨B5 rfl ?_,Bj⟩;exact(sq<|(Cq I0).trans e).trans rfl
noncomputable def Gf(z:Int)(p:Pt):Pt:=(p.1+z*p.2,p.2)
noncomputable def JU(p:Pt):Pt:=(0-p.1,p.2)
noncomputable def JV(p:Pt):Pt:=(p.1,0-p.2)
noncomputable def J4(p:Pt):Pt:=(p.2,p.1)
noncomputable def Il(x y:Int)(p:Pt):Pt:=(p.1+x,p.2+y)
def Dx(s:List Int)(k most:Int):List Pt:=if most=12/\Af s (k+1) / 20%6=5 then LO s k else Fx s k (3+Af s k%(most-2))
def DP(s:List Int)(k:Int):Int:=Af s (k+2) / 8%3-1
def Ee(s:List Int)(k most:Int):List Pt:=LB s k<|(Dx s k most).map<|Gf<|DP s k
def Gi(s:List Int)(k:Int)(r:List Pt):List Pt:=if Af s (k+2)%8%2=1 then(r.map JU).reverse else r
def J8(s:List Int)(k:Int)(r:List Pt):List Pt:=if Af s (k+2)%8 / 2%2=1 then(r.map JV).reverse else r
def P8(s:List Int)(k:Int)(r:List Pt):List Pt:=if Af s (k+2)%8 / 4=1 then(r.map J4).reverse else r
def DD(s:List Int)(k most:Int):List Pt:=P8 s k<|J8 s k<|Gi s k<|Ee s k most
noncomputable def Jy(r:List Pt)(n:Nat):List Pt:=r.drop n++r.take n
def drawn(s:List Int)(k most:Int):List Pt:=(Jy (DD s k most)<|DO (DD s k most)<|Af s<|k+3).map<|Il (Af s (k+3) / 16%41-20)<|Af s (k+4)%41-20
theorem p9(s:List Int)(k:Int){count:Int}(h1:3<=count)(h2:count<=12):((Fx s k count).length)=count:=by
 have h:=(Zq s k h1 h2).len;unfold Fx;split
 .simp[EN];lia
 .rw[Pr];lia
theorem dm(s:List Int)(k:Int){most:Int}(h1:3<=most)(h2:most<=12):3<=(Dx s k most).length/\((Dx s k most).length)<=most:=by
 unfold Dx;split
 .simp[LO];lia
 .have a:=AAj (Af s k) (b:=most-2) J;have b:=AAY (Af s k) (b:=most-2) J;have:=p9 s k (count:=3+Af s k%(most-2)) J J;lia
theorem Uo(s:List Int)(k:Int)(r:List Pt):(Gi s k r).length=r.length:=by unfold Gi;split<;>simp
theorem bN(s:List Int)(k:Int)(r:List Pt):(J8 s k r).length=r.length:=by unfold J8;split<;>simp
theorem wg(s:List Int)(k:Int)(r:List Pt):(P8 s k r).length=r.length:=by unfold P8;split<;>simp
theorem uN(r:List Pt)(q:Pt->Pt):(r.map<|pv∘q).reverse=AI ((r.map q).reverse):=by
 unfold AI;rw[List.map_reverse,AA2]
theorem dB(s:List Int)(k most:Int)(h0:0<=k)(h1:3<=most)(h2:most<=12):Qa [.rd<|Az s,.int k,.int most]=some (.fr<|AI<|drawn s k most)/\3<=(drawn s k most).length/\((drawn s k most).length)<=most:=by
 have hb:=dm s k h1 h2;have YE:=c9 s k h0 (r:=(Dx s k most).map<|Gf<|DP s k) (by simp;lia) (by simp;lia);have BM:(Ee s k most).length=(Dx s k most).length:=by rw[Ee,YE.2,AAO]
 have lG:(DD s k most).length=(Dx s k most).length:=by rw[DD,wg,bN,Uo,BM]
 have Eo:(drawn s k most).length=(Dx s k most).length:=by
  unfold drawn Jy;simp only[AAO,AAn,ACH,ABd];lia
 refine⟨?_,J,J⟩;refine B5 rfl ?_;unfold WZ;have em:=AAj (Af s k) (b:=most-2) J;have zC:=AAY (Af s k) (b:=most-2) J;rw[sq<|BA (GJ   rfl rfl h0) rfl];rw[sq<|BA (A9 (AM  rfl<|AM  rfl<|AM (IH  rfl<|AQ   rfl rfl<|DM J)<|Ab _) rfl<|c7 s k (3+Af s k%(most-2)) h0 J J) rfl];show AO _ _ [some<|.im<|.rd<|Az s,some<|.im<|.int k,some<|.im<|.int most,some<|.im<|.int<|Af s k,some<|.im<|.lst<|AI<|Fx s k<|3+Af s k%(most-2),none,none,none,none,none]=_;have e1:(Al (BY (AN<|f2 A6 (AB 2)<|fC<|.int 12)<|AN<|f2 A6 (f2 Ap (f2 Bq (AU Bh<|AD (AB 0)<|AD (f2 AZ (AB 1)<|fC<|.int 1) AG)<|fC<|.int 20)<|fC<|.int 6)<|fC<|.int 5) (Aa 4<|AU Na<|AD (AB 0)<|AD (AB 1) AG) Am) [some<|.im<|.rd<|Az s,some<|.im<|.int k,some<|.im<|.int most,some<|.im<|.int<|Af s k,some<|.im<|.lst<|AI<|Fx s k<|3+Af s k%(most-2),none,none,none,none,none] = some (.nx [some<|.im<|.rd<|Az s,some<|.im<|.int k,some<|.im<|.int most,some<|.im<|.int<|Af s k,some<|.im<|.lst<|AI<|Dx s k most,none,none,none,none,none]):=by
  have et:=HG (JT (f:=AB 2) (ρ:=[some<|.im<|.rd<|Az s,some<|.im<|.int k,some<|.im<|.int most,some<|.im<|.int<|Af s k,some<|.im<|.lst<|AI<|Fx s k<|3+Af s k%(most-2),none,none,none,none,none])  12 rfl) λ_=>JT 5<|ER 6<|HH 20<|GJ (f:=AB 0) (g:=f2 AZ (AB 1)<|fC<|.int 1)   rfl rfl J;unfold Dx;by_cases hc:most=12/\Af s (k+1) / 20%6=5
  .rw[show(most==12&&Af s (k+1) / 20%6==5)=true by simp[hc.1,hc.2]]at et;rw[AAH hc];exact(BU et).trans (BA (A9 (AM  rfl<|AM  rfl<|Ab _) rfl<|dC s k h0) rfl)
  .rw[show(most==12&&Af s (k+1) / 20%6==5)=false by
    rw[ADL];intro z;simp at z;exact hc z]at et
   rw[AAG hc];exact(BP et).trans rfl
 rw[sq e1];have Xq:∀(a4 a5 a6 a7 a8 a9:Option SV),AU Bh (AD (AB 0)<|AD (f2 AZ (AB 1)<|fC<|.int 2) AG) [some<|.im<|.rd<|Az s,some<|.im<|.int k,some<|.im<|.int most,some<|.im<|.int<|Af s k,a4,a5,a6,a7,a8,a9]=some (.cl<|.int<|Af s<|k+2):=λ_ _ _ _ _ _=>GJ   rfl rfl J;have Xr:∀(a4 a5 a6 a7 a8 a9:Option SV),AU Bh (AD (AB 0)<|AD (f2 AZ (AB 1)<|fC<|.int 3) AG) [some<|.im<|.rd<|Az s,some<|.im<|.int k,some<|.im<|.int most,some<|.im<|.int<|Af s k,a4,a5,a6,a7,a8,a9]=some (.cl<|.int<|Af s<|k+3):=λ_ _ _ _ _ _=>GJ   rfl rfl J;have j5:∀(a4 a5 a6 a7 a8 a9:Option SV),AU Bh (AD (AB 0)<|AD (f2 AZ (AB 1)<|fC<|.int 4) AG) [some<|.im<|.rd<|Az s,some<|.im<|.int k,some<|.im<|.int most,some<|.im<|.int<|Af s k,a4,a5,a6,a7,a8,a9]=some (.cl<|.int<|Af s<|k+4):=λ_ _ _ _ _ _=>GJ   rfl rfl J;rw[sq<|BA (Ke (ER 3<|HH 8<|Xq _ _ _ _ _ _) rfl) rfl];show AO _ _ [some<|.im<|.rd<|Az s,some<|.im<|.int k,some<|.im<|.int most,some<|.im<|.int<|Af s k,some<|.im<|.lst<|AI<|Dx s k most,some<|.im<|.int<|DP s k,none,none,none,none]=_;have iQ:BS (Be false<|AB 4) 2 [5] (Cd 2<|BO (Ag 0)<|BO (Ag 1) Cn) Bn (Av<|AD (f2 AZ (AB 0)<|f2 CL (AB 2)<|AB 1)<|AD (AB 1) AG) [some<|.im<|.rd<|Az s,some<|.im<|.int k,some<|.im<|.int most,some<|.im<|.int<|Af s k,some<|.im<|.lst<|AI<|Dx s k most,some<|.im<|.int<|DP s k,none,none,none,none] = some (.fr<|AI<|(Dx s k most).map<|Gf<|DP s k):=by
  unfold AI;rw[AA2];refine RC  rfl rfl J λp _=>⟨.cl<|pv<|Gf (DP s k) p,?_,rfl⟩;exact II (AM (IH  rfl<|AQ   rfl rfl<|Fs<|FY (by unfold DP;lia))<|AM  rfl<|Ab _) rfl
 rw[sq<|BA (A9 (AM  rfl<|AM  rfl<|AM iQ<|Ab _) rfl YE.1) rfl];show AO _ _ [some<|.im<|.rd<|Az s,some<|.im<|.int k,some<|.im<|.int most,some<|.im<|.int<|Af s k,some<|.im<|.lst<|AI<|Ee s k most,some<|.im<|.int<|DP s k,none,none,none,none]=_;rw[sq<|BA (ER 8<|Xq _ _ _ _ _ _) rfl];show AO _ _ [some<|.im<|.rd<|Az s,some<|.im<|.int k,some<|.im<|.int most,some<|.im<|.int<|Af s k,some<|.im<|.lst<|AI<|Ee s k most,some<|.im<|.int<|DP s k,some<|.im<|.int<|Af s (k+2)%8,none,none,none]=_;have tn:∀(q:Pt->Pt)(f:EF)(t:BF)(b:Bool)(r:List Pt),r.length<=1000->t [some<|.im<|.rd<|Az s,some<|.im<|.int k,some<|.im<|.int most,some<|.im<|.int<|Af s k,some<|.im<|.lst<|AI r,some<|.im<|.int<|DP s k,some<|.im<|.int<|Af s (k+2)%8,none,none,none]=some b->(∀p:Pt,f [some<|.im<|.int p.1,some<|.im<|.int p.2]=some (.cl<|pv<|q p))->Al t (Aa 4<|Fd<|BS (Be false<|AB 4) 2 [] (Cd 2<|BO (Ag 0)<|BO (Ag 1) Cn) Bn f) Am [some<|.im<|.rd<|Az s,some<|.im<|.int k,some<|.im<|.int most,some<|.im<|.int<|Af s k,some<|.im<|.lst<|AI r,some<|.im<|.int<|DP s k,some<|.im<|.int<|Af s (k+2)%8,none,none,none] = some (.nx [some<|.im<|.rd<|Az s,some<|.im<|.int k,some<|.im<|.int most,some<|.im<|.int<|Af s k,some (.im (.lst (AI (if b=true then(r.map q).reverse else r)))),some<|.im<|.int<|DP s k,some<|.im<|.int<|Af s (k+2)%8,none,none,none]):=λq f t b r hl et hf=>by
  cases b with
  |false=>exact(BP et).trans rfl
  |true=>
   rw[AAH rfl,BU et];have ec:=RC (f:=AB 4)  (ρ:=[some<|.im<|.rd<|Az s,some<|.im<|.int k,some<|.im<|.int most,some<|.im<|.int<|Af s k,some<|.im<|.lst<|AI r,some<|.im<|.int<|DP s k,some<|.im<|.int<|Af s (k+2)%8,none,none,none]) (cap:=[]) (h:=pv∘q)  rfl rfl hl λp _=>⟨_,hf p,rfl⟩;rw[<-uN];exact BA (XA ec rfl) rfl
 have bi:∀i n:Int,∀r r':List Pt,(if(i==n)=true then r else r')=(if i=n then r else r'):=λi n r r'=>by
  by_cases h:i=n
  .rw[AAH (by simpa using h),AAH h]
  .rw[AAG (by simpa using h),AAG h]
 have t1:=tn JU (Av<|AD (f2 Ad (fC<|.int 0)<|AB 0)<|AD (AB 1) AG) _ _ (Ee s k most) J (JT (f:=f2 Ap (AB 6)<|fC<|.int 2) 1<|ER 2  rfl) λp=>rfl;rw[bi]at t1;have t2:=tn JV (Av<|AD (AB 0)<|AD (f2 Ad (fC<|.int 0)<|AB 1) AG) _ _ (Gi s k<|Ee s k most) (by rw[Uo];lia) (JT (f:=f2 Ap (f2 Bq (AB 6)<|fC<|.int 2)<|fC<|.int 2) 1<|ER 2<|HH 2  rfl) λp=>rfl;rw[bi]at t2;have t3:=tn J4 (Av<|AD (AB 1)<|AD (AB 0) AG) _ _ (J8 s k<|Gi s k<|Ee s k most) (by rw[bN,Uo];lia) (JT (f:=f2 Bq (AB 6)<|fC<|.int 4) 1<|HH 4  rfl) λp=>rfl;rw[bi]at t3;rw[sq t1];refine(sq t2).trans ?_;refine(sq t3).trans ?_;show AO _ _ [some<|.im<|.rd<|Az s,some<|.im<|.int k,some<|.im<|.int most,some<|.im<|.int<|Af s k,some<|.im<|.lst<|AI<|DD s k most,some<|.im<|.int<|DP s k,some<|.im<|.int<|Af s (k+2)%8,none,none,none]=_;have Ks:0<(DD s k most).length:=J
 have k9:=Zt Ks<|Af s<|k+3;have zR:=Pe Ks<|Af s<|k+3;have e7:f2 Ap (AU Bh<|AD (AB 0)<|AD (f2 AZ (AB 1)<|fC<|.int 3) AG) (fB Ah<|AD (AB 4) AG) [some<|.im<|.rd<|Az s,some<|.im<|.int k,some<|.im<|.int most,some<|.im<|.int<|Af s k,some<|.im<|.lst<|AI<|DD s k most,some<|.im<|.int<|DP s k,some<|.im<|.int<|Af s (k+2)%8,none,none,none] = some (.cl<|.int<|DO (DD s k most)<|Af s<|k+3):=by
  rw[<-k9];exact AQ (Xr _ _ _ _ _ _)  (by rw[<-B9];rfl)<|DM J
 rw[sq<|BA e7 rfl];refine(sq<|BA (Ke (ER 41<|HH 16<|Xr _ _ _ _ _ _) rfl) rfl).trans ?_;refine(sq<|BA (Ke (ER 41<|j5 _ _ _ _ _ _) rfl) rfl).trans ?_;refine Pl ?_;show BS _ _ _ _ _ _ [some<|.im<|.rd<|Az s,some<|.im<|.int k,some<|.im<|.int most,some<|.im<|.int<|Af s k,some<|.im<|.lst<|AI<|DD s k most,some<|.im<|.int<|DP s k,some<|.im<|.int<|Af s (k+2)%8,some<|.im<|.int<|DO (DD s k most)<|Af s<|k+3,some<|.im<|.int<|Af s (k+3) / 16%41-20,some<|.im<|.int<|Af s (k+4)%41-20]=_;unfold drawn;have OT:=RC (f:=f2 AZ (DJ (AB 4) (DI<|AB 7) Df)<|DJ (AB 4) Df<|DI<|AB 7) (fe:=Av<|AD (f2 AZ (AB 0)<|AB 2)<|AD (f2 AZ (AB 1)<|AB 3) AG) (cap:=[8,9]) (h:=pv∘Il (Af s (k+3) / 16%41-20) (Af s (k+4)%41-20)) (ρ:=[some<|.im<|.rd<|Az s,some<|.im<|.int k,some<|.im<|.int most,some<|.im<|.int<|Af s k,some<|.im<|.lst<|AI<|DD s k most,some<|.im<|.int<|DP s k,some<|.im<|.int<|Af s (k+2)%8,some<|.im<|.int<|DO (DD s k most)<|Af s<|k+3,some<|.im<|.int<|Af s (k+3) / 16%41-20,some<|.im<|.int<|Af s (k+4)%41-20]) (rv:=.fr<|AI<|Jy (DD s k most)<|DO (DD s k most)<|Af s<|k+3) (by
   refine(AQ (W6   rfl rfl rfl J) (XB   rfl rfl rfl J)<|Jk rfl rfl (by simp[AI];lia)).trans ?_;unfold Jy;rw[LD]) rfl (by unfold Jy;simp;lia) λp _=>⟨.cl<|pv<|Il (Af s (k+3) / 16%41-20) (Af s (k+4)%41-20) p,rfl,rfl⟩
 rw[OT];unfold AI;rw[AA2]
theorem Wz:∀r:List Pt,PySem.PyData.eqvAll (CN<|AI r) (CN<|AI r)=true
 |[]=>by simp[AI,CN,PySem.PyData.eqvAll]
 |p::r=>by
  have ih:=Wz r;have e:CN (AI (p::r))=Ax (pv p)::CN (AI r):=by unfold AI;rw[AAT,CN]
  rw[e,PySem.PyData.eqvAll,ih];simp[pv,Ax,CN,PySem.PyData.eqv,PySem.PyData.eqvAll]
theorem TB:∀r:List Pt,PySem.PyData.canLayAll0 (CN<|AI r)=true/\PySem.PyData.depthAll (CN<|AI r)<=1
 |[]=>by simp[AI,CN,PySem.PyData.canLayAll0,PySem.PyData.depthAll]
 |p::r=>by
  have ih:=TB r;have e:CN (AI (p::r))=Ax (pv p)::CN (AI r):=by unfold AI;rw[AAT,CN]
  rw[e,PySem.PyData.canLayAll0,PySem.PyData.depthAll,ih.1];have h2:PySem.PyData.depth (Ax<|pv p)<=1:=by simp[pv,Ax,CN,PySem.PyData.depth,PySem.PyData.depthAll]
  refine⟨by rfl,J⟩
theorem Yg{x y:RV}{b:Bool}(hx:PySem.SeqAt.shaped (Ax x.any)=true)(hy:PySem.SeqAt.shaped (Ax y.any)=true)(h:PySem.PyData.eqv (Ax x.any) (Ax y.any)=b):A6 x y=some (.cl<|.bl b):=by
 unfold A6;rw[AAH ⟨hx,hy⟩,h]
open AL (AH Ar BC Bg AA M nb At Keeps Rm Rows Bl)
theorem Ur:∀(l acc:List<|List Int),(_root_.ST.Dt acc l).length<=acc.length+l.length/\((_root_.ST.Dt acc l).length=acc.length+l.length↔(l.Nodup/\∀x∈l,x∉acc))
 |[],acc=>by unfold _root_.ST.Dt;simp
 |k::r,acc=>by
  unfold _root_.ST.Dt;by_cases hk:k∈acc
  .rw[AAH hk];obtain⟨h1,h2⟩:=Ur r acc;refine⟨by rw[AAc];lia,⟨λh=>by rw[AAc]at h;lia,λh=>absurd hk (h.2 k AAf)⟩⟩
  .rw[AAG hk];obtain⟨h1,h2⟩:=Ur r (k::acc);rw[AAc]at h1 h2;refine⟨by rw[AAc];lia,?_⟩;rw[AAc,show acc.length+(r.length+1)=acc.length+1+r.length by lia,h2,ABz];constructor
   .rintro⟨a,b⟩;refine⟨⟨λhm=>b k hm AAf,a⟩,λx hx=>?_⟩;rcases AAi.mp hx with rfl|hx
    .exact hk
    .exact λhm=>b x hx<|AAX _ hm
   .rintro⟨⟨a,b⟩,c⟩;refine⟨b,λx hx hm=>?_⟩;rcases AAi.mp hm with rfl|hm
    .exact a hx
    .exact c x (AAX _ hx) hm
theorem mP(r:List Pt):(kl r).Nodup↔r.Nodup:=by
 unfold kl List.Nodup;rw[ACC];constructor
 .exact λh=>h.imp λAq e=>Aq<|by rw[e]
 .exact λh=>h.imp λ{a b} Aq e=>Aq (by
   simp only[ADb,and_true]at e;exact ABD e.1 e.2)
theorem Wo(r:List Pt):dist r=r.length↔r.Nodup:=by
 have:=(Ur (kl r) []).2;unfold dist;rw[show(kl r).length=r.length from AAO ..]at this;rw[show r.length=([]).length+r.length by simp,this,mP];simp
theorem Nn(r:List Pt):Hw r=true↔∀k:Nat,k<r.length->AH (AA r<|(k)-2) (AA r<|(k)-1) (AA r k)≠0:=by
 unfold Hw;simp[ABH]
theorem Q2{r:List Pt}(h0:0<r.length)(h:Hw r=true)(k:Int):AH (AA r<|k-2) (AA r<|k-1) (AA r k)≠0:=by
 have a:=AAj k (b:=(r.length)) J;have b:=AAY k (b:=(r.length)) J;have:=(Nn r).mp h (k%(r.length)).toNat J;rw[AAW a]at this;have e:∀d:Int,AA r (k%(r.length)-d)=AA r (k-d):=λd=>by
  unfold AL.AA;rw[Int.emod_sub_emod]
 rw[e,e,AL.FC]at this;exact this
theorem Jx(r:List Pt):DC r=true↔Rm r/\∀p∈r,Bd 100 p:=by
 unfold DC;simp only[AAJ,AAa,ABt,ABH,TX,Va];constructor
 .rintro⟨⟨h1,h2⟩,h3,h4,h5,h6,h7⟩;have hd:dist r=r.length:=J
  exact⟨⟨J,J,(Wo r).mp hd,Q2 J h5,AL.Qx J h6,h7⟩,h4⟩
 .rintro⟨R,h⟩;have h3:=R.l3;have FF:=R.Mf;refine⟨⟨J,J⟩,by rw[(Wo r).mpr R.nd],h,(Nn r).mpr λk _=>R.KU k,AL.dY R.apart,R.JM⟩
theorem mB(z:Int):Keeps (Gf z) 1 where
 one:=.inl rfl
 sd:=λa b c=>by unfold AH Gf;grind
 at_:=λa b p=>by
  unfold At Gf;constructor
  .rintro⟨q,s,h1,h2,h3,e1,e2⟩;exact⟨q,s,h1,h2,h3,by dsimp only at *;grind,by dsimp only at *;grind⟩
  .rintro⟨q,s,h1,h2,h3,e1,e2⟩;exact⟨q,s,h1,h2,h3,by dsimp only at *;grind,by dsimp only at *;grind⟩
 inj:=λa b h=>by
  unfold Gf at h;rw[ACQ]at h;obtain⟨h1,h2⟩:=h;rw[h2]at h1;exact ABD J h2
theorem l9(x y:Int):Keeps (Il x y) 1 where
 one:=.inl rfl
 sd:=λa b c=>by unfold AH Il;grind
 at_:=λa b p=>by
  unfold At Il;constructor
  .rintro⟨q,s,h1,h2,h3,e1,e2⟩;exact⟨q,s,h1,h2,h3,by dsimp only at *;grind,by dsimp only at *;grind⟩
  .rintro⟨q,s,h1,h2,h3,e1,e2⟩;exact⟨q,s,h1,h2,h3,by dsimp only at *;grind,by dsimp only at *;grind⟩
 inj:=λa b h=>by
  unfold Il at h;rw[ACQ]at h;exact ABD J J
theorem l7:Keeps JU (-1) where
 one:=.inr rfl
 sd:=λa b c=>by unfold AH JU;grind
 at_:=λa b p=>by
  unfold At JU;constructor
  .rintro⟨q,s,h1,h2,h3,e1,e2⟩;exact⟨q,s,h1,h2,h3,z9,by dsimp only at *;grind⟩
  .rintro⟨q,s,h1,h2,h3,e1,e2⟩;exact⟨q,s,h1,h2,h3,by dsimp only at *;grind,by dsimp only at *;grind⟩
 inj:=λa b h=>by
  unfold JU at h;rw[ACQ]at h;exact ABD J J
theorem l8:Keeps JV (-1) where
 one:=.inr rfl
 sd:=λa b c=>by unfold AH JV;grind
 at_:=λa b p=>by
  unfold At JV;constructor
  .rintro⟨q,s,h1,h2,h3,e1,e2⟩;exact⟨q,s,h1,h2,h3,by dsimp only at *;grind,z9⟩
  .rintro⟨q,s,h1,h2,h3,e1,e2⟩;exact⟨q,s,h1,h2,h3,by dsimp only at *;grind,by dsimp only at *;grind⟩
 inj:=λa b h=>by
  unfold JV at h;rw[ACQ]at h;exact ABD J J
theorem mC:Keeps J4 (-1) where
 one:=.inr rfl
 sd:=λa b c=>by unfold AH J4;grind
 at_:=λa b p=>by
  unfold At J4;constructor
  .rintro⟨q,s,h1,h2,h3,e1,e2⟩;exact⟨q,s,h1,h2,h3,by dsimp only at *;grind,by dsimp only at *;grind⟩
  .rintro⟨q,s,h1,h2,h3,e1,e2⟩;exact⟨q,s,h1,h2,h3,by dsimp only at *;grind,by dsimp only at *;grind⟩
 inj:=λa b h=>by
  unfold J4 at h;exact ABD J J
theorem FD{r:List Pt}{i:Nat}(h:i<r.length):AA r (i)=r[i]:=by
 unfold AL.AA;rw[AAF J J];simp[List.getD,h]
theorem Nw(r:List Pt):AA r (r.length)=AA r 0:=by
 have:=AL.EO r 0;rw[ABI]at this;exact this
theorem aI{r:List Pt}{m:Nat}(R:Rows r.length m λi=>AA r<|i)(FF:r.length<=12)(hb:Hw r=true):Rm r:=by
 have h3:=R.h3;refine⟨h3,FF,?_,Q2 J hb,AL.Qx J λk j h0 h1 h2 hn=>?_,?_⟩
 .refine ABC.mpr λi j hi hj Br=>?_;have:=R.inj Br hj;rw[FD hi,FD hj]at this;exact this
 .have hf:=AL.XM J J hn;unfold AL.Bs at hf;rw[AAF J J]at hf;have:=R.apart (i:=k.toNat) (j:=j.toNat) J J J J;rw[show((k.toNat))=k by lia,show((k.toNat+1:Nat))=k+1 by lia,show((j.toNat))=j by lia,show((j.toNat+1:Nat))=j+1 by lia]at this;exact AL.Y6 this
 .have:=R.JM;rw[AL.Lm];rw[AL.Bw ]at this
  .exact this
  .intro i _;unfold AL.GG;rw[show(((i:Int).toNat):Int)=i by lia,show((((i:Int)+1).toNat):Int)=i+1 by lia]
structure Li(mode:Int)(i:Nat)(b:Int×List Pt×List Pt):Prop where
 lo:0<=b.1
 hi:b.1<=4*i
 m3:mode=3->b.1=i
 len:b.2.1.length+b.2.2.length=i
 lp:b.2.1.Pairwise λp q=>p.1<q.1
 hp:b.2.2.Pairwise λp q=>p.1<q.1
 bl:∀p∈b.2.1,1<=p.1/\p.1<=b.1/\-30<=p.2/\p.2<=-1
 bh:∀p∈b.2.2,1<=p.1/\p.1<=b.1/\1<=p.2/\p.2<=30
theorem ZA{a b:Int}(ha:1<=a)(hb:1<=b)(h:a+b<=11):1<=a*b/\a*b<=30:=by
 have h1:=AAN (J:0<a) (J:0<b);have h2:0<=(a-b)*(a-b):=by
  rcases ABW a b with h|h
  .exact ABB J J
  .exact AAK J J
 have h3:=Int.mul_le_mul h h J J;lia
theorem qB{s:List Int}{k count mode:Int}{i:Nat}{b:Int×List Pt×List Pt}(h1:3<=count)(h2:count<=12)(hi:(i)<count-2)(h:Li mode i b):Li mode (i+1)<|Ey s k count mode b i:=by
 obtain⟨x0,low,Bv⟩:=b;obtain⟨lo,hh,m3,len,lp,hp,bl,bh⟩:=h;dsimp only at lo hh m3 len lp hp bl bh;unfold Ey;dsimp only;generalize ec:Af s (k+4+(1+(i)))=c;have hx:∀x,(if mode=3 then 1+(i:Int)else x0+1+c / 2%4)=x->x0<x/\x<=4*((i)+1)/\(mode=3->x=i+1):=λx e=>by
  subst e;by_cases hm:mode=3
  .rw[AAH hm];exact⟨J,J,λ_=>J⟩
  .rw[AAG hm];exact⟨J,J,λz=>absurd z hm⟩
 have hy:∀y,(if mode=3 then(1+(i))*(count-1-(1+(i)))else 1+c / 8%9)=y->1<=y/\y<=30:=λy e=>by
  subst e;by_cases hm:mode=3
  .rw[AAH hm];exact ZA J J J
  .rw[AAG hm];lia
 generalize ex:(if mode=3 then 1+(i:Int)else x0+1+c / 2%4)=x;generalize ey:(if mode=3 then(1+(i))*(count-1-(1+(i)))else 1+c / 8%9)=y;obtain⟨zY,Sj,YR⟩:=hx x ex;have Sl:=hy y ey;split
 .refine⟨by dsimp only;lia,by push_cast;lia,λz=>by exact YR z,by simp;lia,?_,hp,λp hp=>?_,λp hp=>?_⟩
  .refine ABQ.mpr ⟨lp,AAB,λa ha b hb=>?_⟩;rw[AAh.mp hb];have:=bl a ha;dsimp only;lia
  .rcases AAp.mp hp with z|z
   .have:=bl p z;dsimp only;lia
   .rw[AAh.mp z];dsimp only;lia
  .have:=bh p hp;dsimp only;lia
 .refine⟨by dsimp only;lia,by push_cast;lia,λz=>by exact YR z,by simp;lia,lp,?_,λp hp=>?_,λp hp=>?_⟩
  .refine ABQ.mpr ⟨hp,AAB,λa ha b hb=>?_⟩;rw[AAh.mp hb];have:=bh a ha;dsimp only;lia
  .have:=bl p hp;dsimp only;lia
  .rcases AAp.mp hp with z|z
   .have:=bh p z;dsimp only;lia
   .rw[AAh.mp z];dsimp only;lia
theorem Zs{s:List Int}{k count mode:Int}(h1:3<=count)(h2:count<=12):∀n:Nat,(n)<=count-2->Li mode n ((List.range n).foldl (Ey s k count mode) (0,[],[]))
 |0,_=>⟨AAB,AAB,λ_=>rfl,rfl,.nil,.nil,(λp hp=>by cases hp),(λp hp=>by cases hp)⟩
 |n+1,hn=>by
  rw[ACA,ADM];exact qB h1 h2 J<|Zs h1 h2 n J
theorem uT{mode:Int}{i:Nat}{b:Int×List Pt×List Pt}(h:Li mode i b)(hi:1<=i):Rows (CT b).length b.2.1.length λi=>AA (CT b)<|i:=by
 obtain⟨x0,low,Bv⟩:=b;obtain⟨lo,hh,m3,len,lp,hp,bl,bh⟩:=h;dsimp only at lo hh m3 len lp hp bl bh ⊢;have hl:(CT (x0,low,Bv)).length=low.length+Bv.length+2:=Pr _;have er:CT (x0,low,Bv)=((0,0)::(low ++ [(x0+1,0)]))++Bv.reverse:=by simp[CT]
 have iN:CT (x0,low,Bv) ++ [(0,0)]=((0,0)::low)++((x0+1,0)::(Bv.reverse ++ [(0,0)])):=by simp[CT]
 have pb:((0,0)::(low ++ [(x0+1,0)]):List Pt).Pairwise λp q=>p.1<q.1:=by
  refine ACq.mpr ⟨λp hp=>?_,ABQ.mpr ⟨lp,AAB,λa ha c hc=>?_⟩⟩
  .rcases AAp.mp hp with z|z
   .have:=bl p z;dsimp only;lia
   .rw[AAh.mp z];dsimp only;lia
  .rw[AAh.mp hc];have:=bl a ha;dsimp only;lia
 have pt:((x0+1,0)::(Bv.reverse ++ [(0,0)]):List Pt).Pairwise λp q=>q.1<p.1:=by
  refine ACq.mpr ⟨λp hp=>?_,ABQ.mpr ⟨List.pairwise_reverse.mpr hp,AAB,λa ha c hc=>?_⟩⟩
  .rcases AAp.mp hp with z|z
   .have:=bh p<|AB3.mp z;dsimp only;lia
   .rw[AAh.mp z];dsimp only;lia
  .rw[AAh.mp hc];have:=bh a<|AB3.mp ha;dsimp only;lia
 have gb:∀j:Nat,(hj:j<=low.length+1)->AA (CT (x0,low,Bv)) (j)=((0,0)::(low ++ [(x0+1,0)]):List Pt)[j]'(by simp;lia):=λj hj=>by
  rw[FD J];simp only[er];rw[ACL]
 have gt:∀j:Nat,(h1:low.length+1<=j)->(hj:j<=low.length+Bv.length+2)->AA (CT (x0,low,Bv)) (j)=((x0+1,0)::(Bv.reverse ++ [(0,0)]):List Pt)[j-(low.length+1)]'(by simp;lia):=λj h1 hj=>by
  have e:AA (CT (x0,low,Bv)) (j)=(CT (x0,low,Bv) ++ [(0,0)])[j]'(by simp[hl];lia):=by
   by_cases FG:j<(CT (x0,low,Bv)).length
   .rw[FD FG,ACL FG]
   .have CJ:j=(CT (x0,low,Bv)).length:=J
    subst CJ;rw[Nw];have:=by
     have:=gb 0 J;simpa using this
    rw[this];simp
  rw[e];simp only[iN];rw[List.getElem_append_right (by simp;lia)];simp
 refine⟨J,J,Nw _,λj hj=>?_,λj h1 hj=>?_,?_,?_,λj h1 hj=>?_,λj h1 hj=>?_⟩
 .rw[gb j J,gb (j+1) J];exact ABC.mp pb j (j+1) (by simp;lia) (by simp;lia) J
 .rw[gt j h1 J,gt (j+1) J J];exact ABC.mp pt (j-(low.length+1)) (j+1-(low.length+1)) (by simp;lia) (by simp;lia) J
 .rfl
 .rw[gb (low.length+1) J];simp
 .rw[gb j J];obtain⟨j',rfl⟩:∃j',j=j'+1:=⟨j-1,J⟩;rw[ACW,ACL J];have:=bl _<|AB2  (n:=j') J;lia
 .rw[gt j J J];obtain⟨j',CJ⟩:∃j',j-(low.length+1)=j'+1:=⟨j-(low.length+1)-1,J⟩;simp only[CJ];rw[ACW,ACL (by simp;lia)];have:=bh _ (AB3.mp<|AB2  (n:=j') (by simp;lia));lia
theorem IA{c:Int}{i:Nat}(h:(i)<c):AA (EN c) (i)=((i:Int),0-(i)*(c-1-i)):=by
 rw[FD (by simp[EN];lia)];simp[EN]
theorem u3(u v w d:Int):AH (u,0-u*(d-u)) (v,0-v*(d-v)) (w,0-w*(d-w))=(v-u)*(w-u)*(w-v):=by
 unfold AH;grind
theorem eQ{c:Int}(h:0<=c):((EN c).length)=c:=by simp[EN];lia
theorem eW{c:Int}(h1:3<=c)(h2:c<=12):Rm<|EN c:=by
 have hl:=eQ (c:=c) J;refine aI (m:=c.toNat-2) ⟨J,J,Nw _,λi hi=>?_,λi hi IZ=>?_,?_,?_,λi hi IZ=>?_,λi hi IZ=>J⟩ J<|(Nn _).mpr λk hk=>?_
 .rw[IA J,IA J];dsimp only;lia
 .have CQ:i=c.toNat-1:=J
  subst CQ;have e1:AA (EN c) ((c.toNat-1+1:Nat))=AA (EN c) 0:=by
   rw[<-Nw];congr 1;lia
  have e2:=IA (c:=c) (i:=0) J;rw[e1,IA J];rw[show((0:Nat):Int)=0 from rfl]at e2;rw[e2];dsimp only;lia
 .have e2:=IA (c:=c) (i:=0) J;rw[e2];simp
 .rw[IA J];dsimp only;rw[show c-1-((c.toNat-2+1:Nat))=0 by lia];lia
 .rw[IA J];dsimp only;have:=AAN (J:(0:Int)<i) (J:0<c-1-(i));lia
 .have e:∀j:Int,0<=j->j<c->AA (EN c) j=(j,0-j*(c-1-j)):=λj h0 h1=>by
   have:=IA (c:=c) (i:=j.toNat) J;rw[AAW h0]at this;exact this
  have e':∀j:Int,-c<=j->j<0->AA (EN c) j=(j+c,0-(j+c)*(c-1-(j+c))):=λj h0 h1=>by
   rw[<-AL.EO,hl];exact e (j+c) J J
  have ne3:∀u v w:Int,u≠v->u≠w->v≠w->AH (u,0-u*(c-1-u)) (v,0-v*(c-1-v)) (w,0-w*(c-1-w))≠0:=λu v w a b d=>by
   rw[u3];exact ADA (ADA J J) J
  by_cases Jf:2<=k
  .rw[e _ J J,e _ J J,e _ J J];exact ne3 _ _ _ J J J
  .by_cases kY:k=1
   .subst kY;rw[e' _ J J,e _ J J,e _ J J];exact ne3 _ _ _ J J J
   .have MK:k=0:=J
    subst MK;rw[e' _ J J,e' _ J J,e _ J J];exact ne3 _ _ _ J J J
def Gx(p:Pt):Prop:=-41<=p.1/\p.1<=41/\-30<=p.2/\p.2<=30
theorem qA(s:List Int)(k:Int){count:Int}(h1:3<=count)(h2:count<=12):Rm (Fx s k count)/\∀p∈Fx s k count,Gx p:=by
 have st:Li (Af s (k+1)%4) (count-2).toNat<|Cg s k count:=Zs h1 h2 _ J;unfold Fx;cases hf:Fe (CT<|Cg s k count)with
 |true=>
  refine⟨eW h1 h2,λp hp=>?_⟩;obtain⟨j,hj,rfl⟩:=ABG.mp hp;have CJ:=AAP.mp hj;unfold Gx;dsimp only;by_cases h0:j=0
  .subst h0;simp
  .by_cases hc:(j)=count-1
   .rw[hc,show count-1-(count-1)=0 by lia];lia
   .have:=ZA (a:=(j)) (b:=count-1-j) J J J;lia
 |false=>
  rw[AAG AAB];have hl:=Pr<|Cg s k count;have Bj:=st.len;refine⟨aI (uT st J) J (by rw[XO,hf];rfl),λp hp=>?_⟩;unfold CT at hp;simp only[AAp,AAh,AB3]at hp;have:=st.lo;have:=st.hi;unfold Gx;rcases hp with((rfl|hp)|rfl)|hp
  .simp
  .have:=st.bl p hp;lia
  .lia
  .have:=st.bh p hp;lia
theorem xO{a b c d:Pt}(h:a.1<c.1/\a.1<d.1/\b.1<c.1/\b.1<d.1\/a.2<c.2/\a.2<d.2/\b.2<c.2/\b.2<d.2):¬ Bl a b c d:=by
 rcases h with h|h
 .exact AL.UH (max a.1 b.1) (max a.1 b.1+1) J J J J J
 .exact AL.uo (max a.2 b.2) (max a.2 b.2+1) J J J J J
noncomputable def Ds:List Pt:=[(0,0),(5,0),(5,5),(1,5),(1,2),(3,2),(3,3),(2,3),(2,4),(4,4),(4,1),(0,1)]
noncomputable abbrev Ux(a b c d:Pt):Bool:=decide <| a.1.toNat<c.1.toNat/\a.1.toNat<d.1.toNat/\b.1.toNat<c.1.toNat/\b.1.toNat<d.1.toNat\/a.2.toNat<c.2.toNat/\a.2.toNat<d.2.toNat/\b.2.toNat<c.2.toNat/\b.2.toNat<d.2.toNat
abbrev xG(a b c:Pt):Prop:=a.1.toNat=b.1.toNat/\b.2.toNat=c.2.toNat/\a.2.toNat≠b.2.toNat/\b.1.toNat≠c.1.toNat\/a.2.toNat=b.2.toNat/\b.1.toNat=c.1.toNat/\a.1.toNat≠b.1.toNat/\b.2.toNat≠c.2.toNat
theorem Gk{X:Nat->Int}(h:∀i,X i<X (i+1)){i j:Nat}(Br:i<j):X i<X j:=by
 induction Br with
 |refl=>exact h _
 |step _ ih=>exact AD3 ih<|h _
theorem LP{X:Nat->Int}(h:∀i,X i<X (i+1)){i j:Nat}(Br:i≠j):X i-X j≠0:=by
 rcases Nat.lt_or_gt_of_ne Br with z|z
 .have:=Gk h z;lia
 .have:=Gk h z;lia
theorem xI{X Y:Nat->Int}(hX:∀i,X i<X (i+1))(hY:∀i,Y i<Y (i+1)):Rm<|Ds.map λp=>(X p.1.toNat,Y p.2.toNat):=by
 have hc:∀k,AA (Ds.map λp=>(X p.1.toNat,Y p.2.toNat)) k=(X (AA Ds k).1.toNat,Y (AA Ds k).2.toNat):=AL.DA AAC;refine⟨by show 3<=12;decide,by show 12<=12;decide,?_,Q2 (by show 0<12;decide)<|(Nn _).mpr λk hk=>?_,AL.Qx (by show 2<=12;decide) λk m h0 h1 h2 hn=>?_,?_⟩
 .refine List.Pairwise.map _ (λa b D3 e=>?_) (show Ds.Pairwise (λa b=>a.1.toNat≠b.1.toNat\/a.2.toNat≠b.2.toNat)by decide);injection e with e1 e2
  rcases D3 with z|z
  .exact LP hX z J
  .exact LP hY z J
 .rw[hc,hc,hc];unfold AH;rcases(AAD:∀k:Nat,k<12->xG (AA Ds<|(k)-2) (AA Ds<|(k)-1) (AA Ds k)) k hk with⟨a,b,c,d⟩|⟨a,b,c,d⟩
  .have:=ADA (LP hY c)<|LP hX d;dsimp only;rw[a,<-b];grind
  .have:=ADA (LP hX c)<|LP hY d;dsimp only;rw[a,<-b];grind
 .obtain⟨i,rfl⟩:=ADa h0;obtain⟨j,rfl⟩:=ADa (J:0<=m);have Xf:(j:Int)<12:=h2;have:=(AAD:∀j:Nat,j<12->∀i:Nat,i<j->nb 12 ((j)-i)=false->Ux (AA Ds i) (AA Ds<|(i)+1) (AA Ds j) (AA Ds<|(j)+1)\/Ux (AA Ds j) (AA Ds<|(j)+1) (AA Ds i) (AA Ds<|(i)+1)) j J i J hn;unfold M;rw[hc,hc,hc,hc];have w:∀{a b c d:Pt},Ux a b c d->¬ Bl (X a.1.toNat,Y a.2.toNat) (X b.1.toNat,Y b.2.toNat) (X c.1.toNat,Y c.2.toNat) (X d.1.toNat,Y d.2.toNat):=λh=>xO<|(of_decide_eq_true h).imp (λh=>⟨Gk hX h.1,Gk hX h.2.1,Gk hX h.2.2.1,Gk hX h.2.2.2⟩) λh=>⟨Gk hY h.1,Gk hY h.2.1,Gk hY h.2.2.1,Gk hY h.2.2.2⟩;exact AL.Y6<|this.elim w λh z=>w h z.symm
 .unfold AL.DG;have a:=hX 0;have b:=hX 1;have c:=hX 2;have d:=hX 3;have e:=hX 4
  have f:=hY 0;have g:=hY 1;have h:=hY 2;have i:=hY 3;have j:=hY 4
  have:=AAN (J:0<X 5-X 4) (J:0<Y 5-Y 0);have:=AAN (J:0<X 4-X 0) (J:0<Y 1-Y 0);have:=AAN (J:0<X 4-X 2) (J:0<Y 5-Y 4);have:=AAN (J:0<X 3-X 2) (J:0<Y 3-Y 2);have:=AAN (J:0<X 2-X 1) (J:0<Y 5-Y 2);simp[AL.AW,AA,Ds,AL.B8]
  grind
theorem cC(s:List Int)(k:Int)(i:Nat):wx s k i<wx s k (i+1)/\wx s k (i+1)<=wx s k i+4:=by
 rw[wx];lia
theorem cE(s:List Int)(k:Int)(i:Nat):wy s k i<wy s k (i+1)/\wy s k (i+1)<=wy s k i+4:=by
 rw[wy];lia
theorem cB(s:List Int)(k:Int):∀i:Nat,0<=wx s k i/\wx s k i<=4*i
 |0=>by simp[wx]
 |i+1=>by have:=cB s k i;have:=cC s k i;lia
theorem cD(s:List Int)(k:Int):∀i:Nat,0<=wy s k i/\wy s k i<=4*i
 |0=>by simp[wy]
 |i+1=>by have:=cD s k i;have:=cE s k i;lia
theorem xH(s:List Int)(k:Int):Rm (LO s k)/\∀p∈LO s k,Gx p:=by
 refine⟨xI (λi=>(cC s k i).1) λi=>(cE s k i).1,λp hp=>?_⟩;have key:∀i j:Nat,i<=5->j<=5->Gx (wx s k i,wy s k j):=λi j hi hj=>by
  have h1:=cB s k i;have h2:=cD s k j;unfold Gx;dsimp only;lia
 unfold LO at hp;simp only[AAi,ACK,ADY]at hp;rcases hp with rfl|rfl|rfl|rfl|rfl|rfl|rfl|rfl|rfl|rfl|rfl|rfl<;>exact key _ _ J J
theorem dq(s:List Int)(k:Int){most:Int}(h1:3<=most)(h2:most<=12):Rm (Dx s k most)/\∀p∈Dx s k most,Gx p:=by
 unfold Dx;split
 .exact xH s k
 .have a:=AAj (Af s k) (b:=most-2) J;have b:=AAY (Af s k) (b:=most-2) J;exact qA s k J J
theorem u6{z:Int}(hz:z = -1\/z=0\/z=1){p:Pt}(h:Gx p):Bd 80<|Gf z p:=by
 unfold Gx at h;unfold Bd Gf;dsimp only;rcases hz with rfl|rfl|rfl<;>lia
theorem YU{i:Int}(h:DK i<80) : -80<=i/\i<=80:=by
 unfold DK at h;split at h<;>lia
theorem qX{s:List Int}{k:Int}{r:List Pt}{d:Nat}(h:Rm r/\∀p∈r,Bd 80 p):Rm (LC s k r d)/\∀p∈LC s k r d,Bd 80 p:=by
 unfold LC;dsimp only;generalize Af s (k+15+(d))=c;split
 .rename_i hc;simp only[AAJ,AAa]at hc;obtain⟨h1,h2⟩:=hc;rw[jS]at h2;refine⟨((Jx _).mp h2).1,λp hp=>?_⟩;unfold Gd at hp;simp only[AAp,AAh]at hp;rcases hp with(hp|rfl)|hp
  .exact h.2 p<|ACd hp
  .have a:=YU (i:=(Ed r c).1) J;have b:=YU (i:=(Ed r c).2) J;exact⟨a.1,a.2,b.1,b.2⟩
  .exact h.2 p<|ACc hp
 .exact h
theorem qW{s:List Int}{k:Int}{r:List Pt}(h:Rm r/\∀p∈r,Bd 80 p):Rm (LB s k r)/\∀p∈LB s k r,Bd 80 p:=by
 unfold LB;generalize List.range (Af s (k+1) / 4%5).toNat=l
 induction l generalizing r with
 |nil=>exact h
 |cons d l ih=>exact ih<|qX h
theorem qZ(s:List Int)(k:Int){most:Int}(h1:3<=most)(h2:most<=12):Rm (Ee s k most)/\∀p∈Ee s k most,Bd 80 p:=by
 have hb:=dq s k h1 h2;refine qW ⟨hb.1.map<|mB _,λp hp=>?_⟩;obtain⟨q,hq,rfl⟩:=ABG.mp hp;exact u6 (by unfold DP;lia)<|hb.2 q hq
theorem T7{T:Pt->Pt}(k:Keeps T (-1))(hT:∀p,Bd 80 p->Bd 80 (T p)){r:List Pt}(h:Rm r/\∀p∈r,Bd 80 p):Rm (r.map T).reverse/\∀p∈(r.map T).reverse,Bd 80 p:=
 ⟨h.1.mapRev k,λp hp=>by
  obtain⟨q,hq,rfl⟩:=ABG.mp<|AB3.mp hp;exact hT q<|h.2 q hq⟩
theorem wo(s:List Int)(k:Int){most:Int}(h1:3<=most)(h2:most<=12):Rm (DD s k most)/\∀p∈DD s k most,Bd 80 p:=by
 have h:=qZ s k h1 h2;have t1:Rm (Gi s k<|Ee s k most)/\∀p∈Gi s k (Ee s k most),Bd 80 p:=by
  unfold Gi;split
  .exact T7 l7 (λp hp=>by unfold Bd JU at *;dsimp only at *;lia) h
  .exact h
 have t2:Rm (J8 s k<|Gi s k<|Ee s k most)/\∀p∈J8 s k (Gi s k<|Ee s k most),Bd 80 p:=by
  unfold J8;split
  .exact T7 l8 (λp hp=>by unfold Bd JV at *;dsimp only at *;lia) t1
  .exact t1
 unfold DD P8;split
 .exact T7 mC (λp hp=>by unfold Bd J4 at *;dsimp only at *;lia) t2
 .exact t2
theorem g4(s:List Int)(k:Int){most:Int}(h1:3<=most)(h2:most<=12):Rm (drawn s k most)/\∀p∈drawn s k most,Bd 100 p:=by
 have h:=wo s k h1 h2;have h3:=h.1.l3;have hp:=Pe (r:=DD s k most) J<|Af s<|k+3;refine⟨(h.1.Jy J).1.map<|l9 _ _,λp hp=>?_⟩;obtain⟨q,hq,rfl⟩:=ABG.mp hp;have Kr:q∈DD s k most:=by
  rcases AAp.mp hq with z|z
  .exact ACc z
  .exact ACd z
 have:=h.2 q Kr;unfold Bd Il at *
 lia
theorem g5(s:List Int)(k:Int){most:Int}(h1:3<=most)(h2:most<=12):DC (drawn s k most)=true:=(Jx _).mpr<|g4 s k h1 h2
open AL (AH Ar BC Bg AA M nb Rm)
theorem KA{g h:YF}{ρ ρ':AX}(e:g ρ=some (.o<|.nx ρ')):Bk g h ρ=h ρ':=by unfold Bk;rw[e]
theorem U2{g h:YF}{ρ:AX}{nm:PySem.Str}(e:g ρ=some (.ex nm)):Bk g h ρ=some (.ex nm):=by unfold Bk;rw[e]
theorem U1{t:BF}{g h:YF}{ρ:AX}(e:t ρ=some true):DR t g h ρ=g ρ:=by unfold DR;rw[e]
theorem U0{t:BF}{g h:YF}{ρ:AX}(e:t ρ=some false):DR t g h ρ=h ρ:=by unfold DR;rw[e]
theorem Hj{F:List PV->Option RV}{XF:List PV->Option PySem.Str}{ga:AF}{ρ:AX}{rs:List RV}{ps:List PV}{nm:PySem.Str}(ea:ga ρ=some rs)(ec:CW rs=some ps)(h:F ps=none/\XF ps=some nm):Bc F XF ga ρ=some (.ex nm):=by
 unfold Bc;rw[ea];dsimp only;rw[ec];dsimp only;rw[h.1,h.2]
theorem cL{F:List PV->Option RV}{XF:List PV->Option PySem.Str}{ga:AF}{ρ:AX}{rs:List RV}{ps:List PV}{r:RV}(ea:ga ρ=some rs)(ec:CW rs=some ps)(h:F ps=some r):Bc F XF ga ρ=some (.o<|.nx ρ):=by
 unfold Bc;rw[ea];dsimp only;rw[ec];dsimp only;rw[h]
theorem Nx{N n:Nat}{g:YF}{ps:List PV}{nm:PySem.Str}(hl:ps.length=n)(e:g (A8 N ps)=some (.ex nm)):Cu N n g ps=none/\Dd N n g ps=some nm:=by
 unfold Cu Dd;rw[AAH hl,AAH hl,e];exact⟨rfl,rfl⟩
theorem V9{N n:Nat}{g:YF}{ps:List PV}{ρ:AX}(hl:ps.length=n)(e:g (A8 N ps)=some (.o<|.nx ρ)):Cu N n g ps=some (.cl .A4):=by
 unfold Cu;rw[AAH hl,e]
 rfl
theorem WA{N n:Nat}{g:YF}{ps:List PV}{r:RV}(hl:ps.length=n)(e:g (A8 N ps)=some (.o<|.rt r)):Cu N n g ps=some r:=by
 unfold Cu;rw[AAH hl,e]
 rfl
theorem xR{g:SF}{ρ:AX}{r:RV}(e:g ρ=some (.rt r)):yL g ρ=some (.o<|.rt r):=by unfold yL;rw[e];rfl
theorem cS{r:List Pt}(h:DC r=true):E5 [.lst<|AI r]=some (.cl .A4):=by
 refine V9 (ρ:=A8 1 [.lst<|AI r]) rfl ?_;have e:=FE<|A2<|A9 (ρ:=A8 1 [.lst<|AI r]) (AM (f:=AB 0)  rfl<|Ab _) rfl<|cZ ;rw[h]at e;exact(U0 e).trans rfl
theorem LG{r:List Pt}(h:DC r=true):3<=r.length/\r.length<=12/\∀p∈r,Bd 1000 p:=by
 obtain⟨R,hb⟩:=(Jx r).mp h;exact⟨R.l3,R.Mf,λp hp=>by have:=hb p hp;unfold Bd at *;lia⟩
theorem W8{t:BF}{f g:EF}{ρ:AX}(e:t ρ=some true):HM t f g ρ=f ρ:=by unfold HM;rw[e]
theorem W7{t:BF}{f g:EF}{ρ:AX}(e:t ρ=some false):HM t f g ρ=g ρ:=by unfold HM;rw[e]
theorem W3{fa fb fc fd:EF}{ρ:AX}{i j k l:Int}(ha:fa ρ=some (.cl<|.int i))(hb:fb ρ=some (.cl<|.int j))(hc:fc ρ=some (.cl<|.int k))(hd:fd ρ=some (.cl<|.int l)):De B7 Bb Bb fa fb fc fd ρ=some (.cl<|.bl<|decide (i<=j)&&(decide (j<k)&&decide (k<l))):=by
 unfold De;rw[ha,hb];dsimp only;rw[HV];cases h:decide (i<=j)
 .rfl
 .dsimp only;rw[hc];dsimp only;rw[HX];cases h2:decide (j<k)
  .rfl
  .dsimp only;rw[hd];rfl
theorem c8{a b c:Pt}(ha:Bd 1000 a)(hb:Bd 1000 b):Nc [pw a b,pv c]=some (.cl<|.bl<|AL.pr a b c):=by
 refine B5 rfl ?_;unfold AL.pr;show AO _ _ [some<|.im<|pw a b,some<|.im<|pv c,some<|.im<|.bl<|decide (a.2>c.2),some<|.im<|.bl<|decide (b.2>c.2),none]=_;generalize decide (a.2>c.2)=x;generalize decide (b.2>c.2)=y;have et:AN (f2 A6 (AB 2)<|AB 3) [some<|.im<|pw a b,some<|.im<|pv c,some<|.im<|.bl x,some<|.im<|.bl y,none]=some (x==y):=A2<|AQ rfl rfl<|lu _ _;have es:Aa 4 (AU Ej<|AD (f2 AJ (AB 0)<|fC<|.int 0)<|AD (f2 AJ (AB 0)<|fC<|.int 1)<|AD (AB 1) AG) [some<|.im<|pw a b,some<|.im<|pv c,some<|.im<|.bl x,some<|.im<|.bl y,none]=some (.nx [some<|.im<|pw a b,some<|.im<|pv c,some<|.im<|.bl x,some<|.im<|.bl y,some<|.im<|.int<|AH a b c]):=
  BA (A9 (AM (AQ rfl rfl<|Jl a b)<|AM (AQ rfl rfl<|Jm a b)<|AM  rfl<|Ab _) rfl<|KG ha hb) rfl
 cases x<;>cases y
 .exact CU<|(BU et).trans rfl
 .rw[sq<|(BP et).trans rfl,sq es];exact Cy<|(W8 rfl).trans<|AQ rfl rfl<|Ea _ _
 .rw[sq<|(BP et).trans rfl,sq es];exact Cy<|(W7 rfl).trans<|AQ rfl rfl<|HX _ _
 .exact CU<|(BU et).trans rfl
theorem RT{f:EF}{ρ:AX}{bs:List Bool}(e:f ρ=some (.fr<|bs.map PV.bl)):fB Ii (AD f AG) ρ=some (.cl<|.bl<|bs.any id):=by
 refine Bu (AM e<|Ab _) ?_;simp only[Ii,RV.list,AAl,Np,AA5]
def place(ws:List<|Pt×Pt)(p:Pt):PySem.Str:=if(ws.any λw=>Ar w.1 w.2 p)=true then "on" else if((((ws.filter λw=>AL.pr w.1 w.2 p).length:Int)%2==1)=true)then "in" else "out"
theorem c6{ws:List (Pt×Pt)}{p:Pt}(hl:ws.length<=1000)(hb:∀w∈ws,Bd 1000 w.1/\Bd 1000 w.2):Qc [.lst<|BQ ws,pv p]=some (.cl<|.str<|place ws p):=by
 refine B5 rfl ?_;unfold We;have Ep:(BQ ws).length<=1000:=by simpa[BQ]using hl
 have c1:collect (Ag 0) Bn (AU F7<|AD (AB 1)<|AD (AB 0) AG) (By 1 [1]<|A8 3 [.lst<|BQ ws,pv p]) (BQ ws)=some ((ws.map λw=>Ar w.1 w.2 p).map PV.bl):=by
  rw[AA2];exact GD  λw hw=>⟨_,.cl<|.bl<|Ar w.1 w.2 p,rfl,A9 (AM  rfl<|AM  rfl<|Ab _) rfl<|LZ (hb w hw).1 (hb w hw).2,rfl⟩
 have c2:collect (Ag 0) (AN<|AU Nc<|AD (AB 0)<|AD (AB 1) AG) (AB 0) (By 1 [1]<|A8 3 [.lst<|BQ ws,pv p]) (BQ ws)=some (BQ<|ws.filter λw=>AL.pr w.1 w.2 p):=by
  exact JP   λw hw=>⟨_,rfl,A2<|A9 (AM  rfl<|AM  rfl<|Ab _) rfl<|c8 (hb w hw).1 (hb w hw).2,λ_=>⟨.cl<|pw w.1 w.2,rfl,rfl⟩⟩
 have e1:=A2<|RT<|ES (its:=Be false<|AB 0) (HI    rfl rfl) Ep c1;have e2:=ES (its:=Be false<|AB 0) (HI    rfl rfl) Ep c2;rw[show(ws.map λw=>Ar w.1 w.2 p).any id=ws.any λw=>Ar w.1 w.2 p by rw[ACI];rfl]at e1;unfold place;cases h:ws.any λw=>Ar w.1 w.2 p with
 |true=>
  rw[h]at e1;exact CU<|(BU e1).trans rfl
 |false=>
  rw[h]at e1;rw[sq<|(BP e1).trans rfl,sq<|BA e2 rfl];have BM:(BQ<|ws.filter λw=>AL.pr w.1 w.2 p).length=(ws.filter λw=>AL.pr w.1 w.2 p).length:=by simp[BQ]
  generalize (ws.filter λw=>AL.pr w.1 w.2 p)=vs at *
  have el:fB Ah (AD (AB 2) AG) ((A8 3 [.lst<|BQ ws,pv p]).set 2<|some<|.im<|.lst<|BQ vs)=some (.cl<|.int<|vs.length):=by rw[<-BM];rfl
  have e3:=A2<|AQ (AQ el (fb:=fC<|.int 2) rfl<|DM AAA) (fb:=fC<|.int 1) rfl<|Ma _ _;refine Cy ?_;cases h3:((vs.length:Int)%2==1)with
  |true=>rw[h3]at e3;exact(W8 e3).trans rfl
  |false=>rw[h3]at e3;exact(W7 e3).trans rfl
theorem S4{a b:PySem.Str}{c:Bool}(ha:PySem.SeqAt.shaped (Ax<|.str a)=true)(hb:PySem.SeqAt.shaped (Ax<|.str b)=true)(h:(a==b)=c):A6 (.cl<|.str a) (.cl<|.str b)=some (.cl<|.bl c):=
 Yg ha hb (by rw[<-h];show PySem.PyData.eqv (Ax<|.str a) (Ax<|.str b)=_;unfold Ax;simp[PySem.PyData.eqv])
theorem p8(ws:List<|Pt×Pt)(p:Pt):A6 (.cl<|.str<|place ws p) (.cl<|.str "in")=some (.cl<|.bl (!(ws.any λw=>Ar w.1 w.2 p)&&(((ws.filter λw=>AL.pr w.1 w.2 p).length:Int)%2==1))):=by
 have s1:PySem.SeqAt.shaped (Ax<|.str "on")=true:=AAD
 have s2:PySem.SeqAt.shaped (Ax<|.str "in")=true:=AAD
 have s3:PySem.SeqAt.shaped (Ax<|.str "out")=true:=AAD
 unfold place;cases (ws.any λw=>Ar w.1 w.2 p)
 .cases (((ws.filter λw=>AL.pr w.1 w.2 p).length:Int)%2==1)
  .exact S4 s3 s2 AAD
  .exact S4 s2 s2 AAD
 .refine S4 (a:="on") s1 s2 ?_;show(("on")==("in"))=false
  decide +kernel
theorem Uu{r:List Pt}(hb:∀p∈r,Bd 1000 p):∀w∈BW r,Bd 1000 w.1/\Bd 1000 w.2:=λw hw=>by
 obtain⟨k,_,rfl⟩:=ABG.mp hw;exact⟨C9 AAA hb _,C9 AAA hb _⟩
theorem bw(r:List Pt):(BW r).length=r.length:=by simp[BW]
theorem gP{r:List Pt}(hb:∀p∈r,Bd 100 p):∀p∈r.map AL.dbl,Bd 1000 p:=λp hp=>by
 obtain⟨q,hq,rfl⟩:=ABG.mp hp;have:=hb q hq;unfold Bd AL.dbl at *
 dsimp only;lia
theorem lV(w:List Pt)(p:Pt):(!((BW w).any λz=>Ar z.1 z.2 p)&&((((BW w).filter λz=>AL.pr z.1 z.2 p).length:Int)%2==1))=AL.Er w p:=by
 unfold AL.Er BW;rw[ACI,List.filter_map,AAO]
 rfl
theorem cy{r:List Pt}(h1:0<r.length)(hl:r.length<=1000)(hb:∀p∈r,Bd 100 p)(A B:Pt):Qb [.lst<|AI r,pw A B]=some (.cl<|.bl<|AL.Er (r.map AL.dbl) (A.1+B.1,A.2+B.2)):=by
 refine B5 rfl ?_;unfold Wb;have c1:collect (Ag 0) Bn (Av<|AD (f2 CL (fC<|.int 2)<|f2 AJ (AB 0)<|fC<|.int 0)<|AD (f2 CL (fC<|.int 2)<|f2 AJ (AB 0)<|fC<|.int 1) AG) (By 1 []<|A8 4 [.lst<|AI r,pw A B]) (AI r)=some (AI<|r.map AL.dbl):=by
  unfold AI;rw[AA2];exact GD  λp hp=>⟨_,.cl<|pv<|AL.dbl p,rfl,II (AM (AQ  rfl (AQ rfl rfl<|Dm p)<|Fs<|FY J)<|AM (AQ  rfl (AQ rfl rfl<|D4 p)<|Fs<|FY J)<|Ab _) rfl,rfl⟩
 have e1:=ES (its:=Be false<|AB 0) (HI    rfl rfl) (by rw[B9];exact hl) c1;rw[sq<|BA e1 rfl];rw[sq<|BA (r:=.cl<|pv (A.1+B.1,A.2+B.2)) rfl rfl];refine Cy ?_;have Kp:(r.map AL.dbl).length<=1000:=by simpa using hl
 refine(AQ (A9 (AM (A9 (AM  rfl<|Ab _) rfl<|Nf Kp<|by simpa using h1)<|AM  rfl<|Ab _) rfl<|c6 (by rw[bw];exact Kp)<|Uu<|gP hb) rfl<|p8 _ _).trans ?_;rw[lV]
theorem Wy(a b:Pt):PySem.PyData.eqv (Ax<|pv a) (Ax<|pv b)=decide (a=b):=by
 have:decide (a=b)=(a.1==b.1&&a.2==b.2):=by
  rw[AB9];simp[Prod.ext_iff]
 rw[this];simp[pv,Ax,CN,PySem.PyData.eqv,PySem.PyData.eqvAll]
theorem aW(a:Pt):PySem.SeqAt.shaped (Ax<|pv a)=true:=by
 have h1:PySem.PyData.canLay0 (Ax<|pv a)=true:=by simp[pv,Ax,CN,PySem.PyData.canLay0,PySem.PyData.canLayAll0]
 have h2:PySem.PyData.depth (Ax<|pv a)<=1:=by simp[pv,Ax,CN,PySem.PyData.depth,PySem.PyData.depthAll]
 unfold PySem.SeqAt.shaped;lia
theorem Yi(a c d:Pt):GV true (.cl<|pv a) (.cl<|pw c d)=some (.cl<|.bl (!(decide (a=c)||decide (a=d)))):=by
 unfold GV;have e:(RV.cl<|pw c d).seq=some [pv c,pv d]:=rfl;rw[e];dsimp only;have hx:(RV.cl<|pv a).any=pv a:=rfl;rw[hx,AAH ⟨aW a,by unfold aV;simp[aW]⟩,AAH rfl];unfold inD;rw[ABM,ABM,AC9,ACR,Wy,Wy,show decide (c=a)=decide (a=c)by simp[eq_comm],show decide (d=a)=decide (a=d)by simp[eq_comm]]
noncomputable def IM(A B:Pt)(w:Pt×Pt):Bool:=(!(decide (A=w.1)||decide (A=w.2)))&&(!(decide (B=w.1)||decide (B=w.2)))
theorem qH(r:List Pt)(A B:Pt):(((BW r).filter<|IM A B).map λw=>BC A B w.1 w.2).any id=AL.He r A B:=by
 unfold AL.He BW;rw[ACI,List.any_filter,ACI]
 rfl
def JQ(n i j:Int):Bool:=(decide (0<=i)&&(decide (i<j)&&decide (j<n)))&&!(nb n<|j-i)
def Pg(r:List Pt)(i j:Int):Bool:=JQ r.length i j&&(!AL.He r (AA r i) (AA r j)&&AL.Er (r.map AL.dbl) ((AA r i).1+(AA r j).1,(AA r i).2+(AA r j).2))
theorem cX{r:List Pt}(h:DC r=true)(i j:Int):NV [.lst<|AI r,.int i,.int j]=some (.cl<|.bl<|Pg r i j):=by
 obtain⟨h3,FF,hb⟩:=LG h;have jw:=((Jx r).mp h).2;refine B5 rfl ?_;unfold WI;have el:fB Ah (AD (AB 0) AG) (A8 5 [.lst<|AI r,.int i,.int j])=some (.cl<|.int<|r.length):=Mi r _ rfl;have et:(CZ (CY<|AN<|De B7 Bb Bb (fC<|.int 0) (AB 1) (AB 2)<|fB Ah<|AD (AB 0) AG)<|AN<|AU Hm<|AD (fB Ah<|AD (AB 0) AG)<|AD (AB 1)<|AD (AB 2) AG) (A8 5 [.lst<|AI r,.int i,.int j])=some (!(JQ r.length i j)):=by
  unfold JQ;rw[AD4,Bool.not_not];exact HJ (FE<|A2<|W3 rfl rfl rfl el) λ_=>A2<|A9 (AM el<|AM  rfl<|AM  rfl<|Ab _) rfl<|VD J
 unfold Pg;cases hc:JQ r.length i j with
 |false=>
  rw[hc]at et;exact CU<|(BU et).trans rfl
 |true=>
  rw[hc]at et;rw[sq<|(BP et).trans rfl];have Br:=by
   unfold JQ at hc;simp only[AAJ,AAa]at hc;exact hc.1
  have e1:Av (AD (f2 AJ (AB 0)<|AB 1)<|AD (f2 AJ (AB 0)<|AB 2) AG) (A8 5 [.lst<|AI r,.int i,.int j])=some (.cl<|pw (AA r i)<|AA r j):=
   II (AM (AQ rfl rfl<|B0 r i J J)<|AM (AQ rfl rfl<|B0 r j J J)<|Ab _) rfl
  rw[sq<|BA e1 rfl];show AO _ _ [some<|.im<|.lst<|AI r,some<|.im<|.int i,some<|.im<|.int j,some<|.im<|pw (AA r i)<|AA r j,none]=_;have bA:=C9 J hb i;have bB:=C9 J hb j;generalize AA r i=A at *
  generalize AA r j=B at *
  have Ep:(BQ<|BW r).length<=1000:=by simp[BQ,BW];lia
  have c1:collect (Ag 0) (BY (AN<|f2 (GV true) (f2 AJ (AB 1)<|fC<|.int 0)<|AB 0)<|AN<|f2 (GV true) (f2 AJ (AB 1)<|fC<|.int 1)<|AB 0) (AB 0) (By 1 [3] [some<|.im<|.lst<|AI r,some<|.im<|.int i,some<|.im<|.int j,some<|.im<|pw A B,none]) (BQ<|BW r)=some (BQ<|(BW r).filter<|IM A B):=by
   exact JP   λw hw=>⟨_,rfl,HG (A2<|AQ  (AQ rfl rfl<|Jl A B) rfl<|Yi _ _ _) λ_=>A2<|AQ  (AQ rfl rfl<|Jm A B) rfl<|Yi _ _ _,λ_=>⟨.cl<|pw w.1 w.2,rfl,rfl⟩⟩
  have e2:=ES (its:=Be false<|AU Hr<|AD (AB 0) AG)  (HI (A9 (AM  rfl<|Ab _) rfl<|Nf J J) rfl) Ep c1;rw[sq<|BA e2 rfl];show AO _ _ [some<|.im<|.lst<|AI r,some<|.im<|.int i,some<|.im<|.int j,some<|.im<|pw A B,some<|.im<|.lst<|BQ<|(BW r).filter<|IM A B]=_;have kG:(BQ<|(BW r).filter<|IM A B).length<=1000:=by
   have:=List.length_filter_le (IM A B)<|BW r;rw[bw]at this;simp only[BQ,AAO];lia
  have c2:collect (Ag 0) Bn (AU Hq<|AD (AB 1)<|AD (AB 0) AG) (By 1 [3] [some<|.im<|.lst<|AI r,some<|.im<|.int i,some<|.im<|.int j,some<|.im<|pw A B,some<|.im<|.lst<|BQ<|(BW r).filter<|IM A B]) (BQ<|(BW r).filter<|IM A B)=some ((((BW r).filter<|IM A B).map λw=>BC A B w.1 w.2).map PV.bl):=by
   rw[AA2];exact GD  λw hw=>⟨_,.cl<|.bl<|BC A B w.1 w.2,rfl,A9 (AM  rfl<|AM  rfl<|Ab _) rfl<|VC bA bB (Uu hb w (ABx.mp hw).1).1 (Uu hb w (ABx.mp hw).1).2,rfl⟩
  have e3:=A2<|RT<|ES (its:=Be false<|AB 4) (HI    rfl rfl) kG c2;rw[qH]at e3;cases hp:AL.He r A B with
  |true=>
   rw[hp]at e3;exact CU<|(BU e3).trans rfl
  |false=>
   rw[hp]at e3;rw[sq<|(BP e3).trans rfl];exact Cy<|A9 (AM  rfl<|AM  rfl<|Ab _) rfl<|cy J J jw A B
theorem Yh(i a b:Int):BB false (.cl<|.int i) (.fr [.int a,.int b])=some (.cl<|.bl (i==a||i==b)):=by
 simp only[BB,RV.seq,RV.list,EY,AA5,ABM,AC9,ACR,ABv,ACV];rw[ACh ,ACh (a:=b)]
noncomputable def FZ(n i j:Int):Bool:=(decide (0<=i)&&(decide (i<j)&&decide (j<n)))&&!((j-i)==1||(j-i)==n-1)
def Et(r:List Pt)(i j:Int):Bool:=FZ r.length i j&&(!AL.Jp r i j&&AL.Lr (AA r<|i-1) (AA r i) (AA r<|i+1) (AA r j))
theorem VA{r:List Pt}(h3:3<=r.length)(FF:r.length<=12)(hb:∀p∈r,Bd 1000 p)(i j:Int):Gn [.lst<|AI r,.int i,.int j]=some (.cl<|.bl<|Et r i j):=by
 refine B5 rfl ?_;unfold WV;rw[sq<|BA (Mi r (A8 10 [.lst<|AI r,.int i,.int j]) rfl) rfl];show AO _ _ [some<|.im<|.lst<|AI r,some<|.im<|.int i,some<|.im<|.int j,some<|.im<|.int<|r.length,none,none,none,none,none,none]=_;have et:(CZ (CY<|AN<|De B7 Bb Bb (fC<|.int 0) (AB 1) (AB 2)<|AB 3)<|AN<|f2 (BB false) (f2 Ad (AB 2)<|AB 1)<|BE<|AD (fC<|.int 1)<|AD (f2 Ad (AB 3)<|fC<|.int 1) AG) [some<|.im<|.lst<|AI r,some<|.im<|.int i,some<|.im<|.int j,some<|.im<|.int<|r.length,none,none,none,none,none,none]=some (!(FZ r.length i j)):=by
  unfold FZ;rw[AD4,Bool.not_not];exact HJ (FE<|A2<|W3 rfl rfl rfl rfl) λ_=>A2<|AQ (AQ   rfl rfl<|C3 _ _) (GK (AM  rfl<|AM (AQ   rfl rfl<|C3 _ _)<|Ab _) rfl)<|Yh _ _ _
 unfold Et;cases hc:FZ r.length i j with
 |false=>
  rw[hc]at et;exact CU<|(BU et).trans rfl
 |true=>
  rw[hc]at et;rw[sq<|(BP et).trans rfl,ABV];have Br:=by
   unfold FZ at hc;simp only[AAJ,AAa]at hc;exact hc.1
  rw[sq<|Zf   (AM (AQ rfl rfl<|B0 r i J J)<|AM (AQ rfl rfl<|B0 r j J J)<|Ab _) rfl];show AO _ _ [some<|.im<|.lst<|AI r,some<|.im<|.int i,some<|.im<|.int j,some<|.im<|.int<|r.length,some<|.im<|pv<|AA r i,some<|.im<|pv<|AA r j,none,none,none,none]=_;have bc:=λk=>C9 J hb k;have I0:Bm (AD (AB 3) AG) [some<|.im<|.lst<|AI r,some<|.im<|.int i,some<|.im<|.int j,some<|.im<|.int<|r.length,some<|.im<|pv<|AA r i,some<|.im<|pv<|AA r j,none,none,none,none]=some ((List.range r.length).map λk:Nat=>PV.int<|k):=Dg (AM rfl<|Ab _) J;have H:=GZ (enc:=λk:Nat=>PV.int<|k) (gt:=Ag 6) (body:=(AO (Al (BY (AN<|f2 (BB true) (AB 6)<|BE<|AD (AB 1)<|AD (AB 2) AG)<|AN<|AU Ho<|AD (AB 4)<|AD (AB 5)<|AD (f2 AJ (AB 0)<|AB 6) AG) (Ak<|fC<|.bl false) Am)<|AO (Aa 7<|f2 Ap (f2 AZ (AB 6)<|fC<|.int 1)<|AB 3)<|Al (BY (AN<|f2 (BB true) (AB 6)<|BE<|AD (AB 1)<|AD (AB 2) AG)<|AN<|f2 (BB true) (AB 7)<|BE<|AD (AB 1)<|AD (AB 2) AG) (Al (AN<|AU Hn<|AD (AB 4)<|AD (AB 5)<|AD (f2 AJ (AB 0)<|AB 6)<|AD (f2 AJ (AB 0)<|AB 7) AG) (Ak<|fC<|.bl false) Am) Am))
   (c:=λk=>((!((k)==i||(k)==j))&&Ar (AA r i) (AA r j) (AA r k))||(((!((k)==i||(k)==j))&&(!(((k)+1)%(r.length)==i||((k)+1)%(r.length)==j)))&&Bg (AA r i) (AA r j) (AA r k) (AA r<|((k)+1)%(r.length))))
   (λρ=>∃a b,ρ=[some<|.im<|.lst<|AI r,some<|.im<|.int i,some<|.im<|.int j,some<|.im<|.int<|r.length,some<|.im<|pv<|AA r i,some<|.im<|pv<|AA r j,a,b,none,none]) (xs:=List.range r.length)  ⟨none,none,rfl⟩ (by
   rintro k hk ρ ⟨a,b,rfl⟩;have Bi:=AAP.mp hk;refine⟨_,rfl,?_⟩;have l1:=AAY ((k)+1) (b:=(r.length)) J;have N2:(BY (AN<|f2 (BB true) (AB 6)<|BE<|AD (AB 1)<|AD (AB 2) AG)<|AN<|AU Ho<|AD (AB 4)<|AD (AB 5)<|AD (f2 AJ (AB 0)<|AB 6) AG) [some<|.im<|.lst<|AI r,some<|.im<|.int i,some<|.im<|.int j,some<|.im<|.int<|r.length,some<|.im<|pv<|AA r i,some<|.im<|pv<|AA r j,some<|.im<|.int<|k,b,none,none]=some ((!((k)==i||(k)==j))&&Ar (AA r i) (AA r j) (AA r k)):=
    HG (A2<|AQ rfl (GK (AM  rfl<|AM  rfl<|Ab _) rfl)<|O1 _ _ _) λ_=>A2<|A9 (AM  rfl<|AM  rfl<|AM (AQ rfl rfl<|B0 r (k) J J)<|Ab _) rfl<|VE (bc _)<|bc _
   have es:Aa 7 (f2 Ap (f2 AZ (AB 6)<|fC<|.int 1)<|AB 3) [some<|.im<|.lst<|AI r,some<|.im<|.int i,some<|.im<|.int j,some<|.im<|.int<|r.length,some<|.im<|pv<|AA r i,some<|.im<|pv<|AA r j,some<|.im<|.int<|k,b,none,none]=some (.nx [some<|.im<|.lst<|AI r,some<|.im<|.int i,some<|.im<|.int j,some<|.im<|.int<|r.length,some<|.im<|pv<|AA r i,some<|.im<|pv<|AA r j,some<|.im<|.int<|k,some<|.im<|.int<|((k)+1)%(r.length),none,none]):=
    BA (AQ (AQ   rfl rfl<|GU _ _)  rfl<|DM J) rfl
   have RS:(BY (AN<|f2 (BB true) (AB 6)<|BE<|AD (AB 1)<|AD (AB 2) AG)<|AN<|f2 (BB true) (AB 7)<|BE<|AD (AB 1)<|AD (AB 2) AG) [some<|.im<|.lst<|AI r,some<|.im<|.int i,some<|.im<|.int j,some<|.im<|.int<|r.length,some<|.im<|pv<|AA r i,some<|.im<|pv<|AA r j,some<|.im<|.int<|k,some<|.im<|.int<|((k)+1)%(r.length),none,none]=some ((!((k)==i||(k)==j))&&(!(((k)+1)%(r.length)==i||((k)+1)%(r.length)==j))):=
    HG (A2<|AQ rfl (GK (AM  rfl<|AM  rfl<|Ab _) rfl)<|O1 _ _ _) λ_=>A2<|AQ rfl (GK (AM  rfl<|AM  rfl<|Ab _) rfl)<|O1 _ _ _
   have W0:(AN<|AU Hn<|AD (AB 4)<|AD (AB 5)<|AD (f2 AJ (AB 0)<|AB 6)<|AD (f2 AJ (AB 0)<|AB 7) AG) [some<|.im<|.lst<|AI r,some<|.im<|.int i,some<|.im<|.int j,some<|.im<|.int<|r.length,some<|.im<|pv<|AA r i,some<|.im<|pv<|AA r j,some<|.im<|.int<|k,some<|.im<|.int<|((k)+1)%(r.length),none,none]=some (Bg (AA r i) (AA r j) (AA r k)<|AA r<|((k)+1)%(r.length)):=
    A2 (A9 (AM  rfl<|AM  rfl<|AM (AQ rfl rfl<|B0 r (k) J J)<|AM (AQ rfl rfl<|B0 r (((k)+1)%(r.length)) J J)<|Ab _) rfl<|VB (bc _) (bc _) (bc _)<|bc _)
   generalize ((!((k)==i||(k)==j))&&Ar (AA r i) (AA r j) (AA r k))=b1 at *
   generalize ((!((k)==i||(k)==j))&&(!(((k)+1)%(r.length)==i||((k)+1)%(r.length)==j)))=b2 at *
   generalize Bg (AA r i) (AA r j) (AA r k) (AA r<|((k)+1)%(r.length))=b3 at *
   cases b1 with
   |true=>exact⟨λ_=>CU<|(BU N2).trans rfl,λh=>by simp at h⟩
   |false=>
    cases b2 with
    |false=>exact⟨λh=>by simp at h,λ_=>⟨_,(sq<|(BP N2).trans rfl).trans<|(sq es).trans<|(BP RS).trans rfl,_,_,rfl⟩⟩
    |true=>
     cases b3 with
     |false=>exact⟨λh=>by simp at h,λ_=>⟨_,(sq<|(BP N2).trans rfl).trans<|(sq es).trans<|(BU RS).trans<|(BP W0).trans rfl,_,_,rfl⟩⟩
     |true=>exact⟨λ_=>(sq<|(BP N2).trans rfl).trans<|(sq es).trans<|(BU RS).trans<|(BU W0).trans rfl,λh=>by simp at h⟩)
  cases hl:AL.Jp r i j with
  |true=>exact CU<|(Cq I0).trans<|H.1 hl
  |false=>
   obtain⟨ρ',e,a,b,rfl⟩:=H.2 hl;rw[sq<|(Cq I0).trans e,ADm,ABV];have l0:=AAj (i+1) (b:=(r.length)) J;have l1:=AAY (i+1) (b:=(r.length)) J;have em:AA r ((i+1)%(r.length))=AA r (i+1):=AL.FC r _;have kn:=B0 r ((i+1)%(r.length)) J J;rw[em]at kn;have kp:=B0 r (i-1) J J;have fn:∀x y z w:Option SV,f2 AJ (AB 0) (f2 Ap (f2 AZ (AB 1)<|fC<|.int 1)<|AB 3) [some<|.im<|.lst<|AI r,some<|.im<|.int i,some<|.im<|.int j,some<|.im<|.int<|r.length,some<|.im<|pv<|AA r i,some<|.im<|pv<|AA r j,x,y,z,w]=some (.cl<|pv<|AA r<|i+1):=λ_ _ _ _=>
    AQ rfl (AQ (AQ   rfl rfl<|GU _ _)  rfl<|DM J) kn
   have fp:∀x y z w:Option SV,f2 AJ (AB 0) (f2 Ad (AB 1)<|fC<|.int 1) [some<|.im<|.lst<|AI r,some<|.im<|.int i,some<|.im<|.int j,some<|.im<|.int<|r.length,some<|.im<|pv<|AA r i,some<|.im<|pv<|AA r j,x,y,z,w]=some (.cl<|pv<|AA r<|i-1):=λ_ _ _ _=>
    AQ rfl (AQ   rfl rfl<|C3 _ _) kp
   have sd:∀(f g h:EF)(u v w:Pt)(ρ:AX),Bd 1000 u->Bd 1000 v->f ρ=some (.cl<|pv u)->g ρ=some (.cl<|pv v)->h ρ=some (.cl<|pv w)->f2 BL (AU D7<|AD f<|AD g<|AD h AG) (fC<|.int 0) ρ=some (.cl<|.bl<|decide (AH u v w>0)):=λf g h u v w ρ b1 b2 e1 e2 e3=>
    AQ (A9 (AM e1<|AM e2<|AM e3<|Ab _) rfl<|Nd b1 b2) rfl (Ea _ _)
   rw[sq<|BA (sd _ _ _ (AA r i) (AA r<|i+1) (AA r j) _ (bc _) (bc _) rfl (fn _ _ _ _) rfl) rfl];show AO _ _ [some<|.im<|.lst<|AI r,some<|.im<|.int i,some<|.im<|.int j,some<|.im<|.int<|r.length,some<|.im<|pv<|AA r i,some<|.im<|pv<|AA r j,a,b,some<|.im<|.bl<|decide (AH (AA r i) (AA r<|i+1) (AA r j)>0),none]=_;rw[sq<|BA (sd _ _ _ (AA r<|i-1) (AA r i) (AA r j) _ (bc _) (bc _) (fp _ _ _ _) rfl rfl) rfl];show AO _ _ [some<|.im<|.lst<|AI r,some<|.im<|.int i,some<|.im<|.int j,some<|.im<|.int<|r.length,some<|.im<|pv<|AA r i,some<|.im<|pv<|AA r j,a,b,some<|.im<|.bl<|decide (AH (AA r i) (AA r<|i+1) (AA r j)>0),some<|.im<|.bl<|decide (AH (AA r<|i-1) (AA r i) (AA r j)>0)]=_;have e4:=A2<|sd (f2 AJ (AB 0)<|f2 Ad (AB 1)<|fC<|.int 1) (AB 4) (f2 AJ (AB 0)<|f2 Ap (f2 AZ (AB 1)<|fC<|.int 1)<|AB 3) (AA r<|i-1) (AA r i) (AA r<|i+1) [some<|.im<|.lst<|AI r,some<|.im<|.int i,some<|.im<|.int j,some<|.im<|.int<|r.length,some<|.im<|pv<|AA r i,some<|.im<|pv<|AA r j,a,b,some<|.im<|.bl<|decide (AH (AA r i) (AA r<|i+1) (AA r j)>0),some<|.im<|.bl<|decide (AH (AA r<|i-1) (AA r i) (AA r j)>0)] (bc _) (bc _) (fp _ _ _ _) rfl<|fn _ _ _ _;unfold AL.Lr;by_cases h4:AH (AA r<|i-1) (AA r i) (AA r<|i+1)>0
   .rw[ABn h4]at e4;rw[AAH h4];exact CU<|(BU e4).trans<|Cy<|Kd rfl λ_=>rfl
   .rw[ABN h4]at e4;rw[AAG h4,sq<|(BP e4).trans rfl];exact Cy<|RU rfl λ_=>rfl
theorem mV{r:List Pt}(h:DC r=true)(i j:Int):Pg r i j=Et r i j:=by
 obtain⟨R,_⟩:=(Jx r).mp h;have h3:=R.l3;unfold Pg Et;have j8:JQ r.length i j=FZ r.length i j:=by
  unfold JQ FZ;cases hd:(decide (0<=i)&&(decide (i<j)&&decide (j<(r.length))))with
  |false=>rfl
  |true=>
   simp only[AAJ,AAa]at hd;unfold AL.nb;rw[AAF  J J]
 rw[j8];cases hc:FZ r.length i j with
 |false=>rfl
 |true=>
  rw[FZ,AAJ,AAJ,AAJ,AAa,AAa,AAa,AAy,AAt,AAd,AAd]at hc;obtain⟨⟨a,b,c⟩,d,e⟩:=hc;refine AL.mW R a J J c ?_;have f:AL.Bs r.length<|j-i:=by
   unfold AL.Bs;rw[AAF  J J];exact⟨J,d,e⟩
  have:=f.neg J;rw[show -(j-i)=i-j by lia]at this;exact this
theorem XG{g:AF}{ρ:AX}{i j:Nat}(e:g ρ=some [.cl<|.int<|i,.cl<|.int<|j])(hi:i<=1000)(hj:j<=1000):ET g ρ=some ((List.range<|j-i).map λt:Nat=>PV.int<|(i+t:Nat)):=by
 unfold ET;rw[e];dsimp only;rw[AAH (by unfold Hl;lia)];unfold LF;rw[show((j:Int)-(i)).toNat=j-i by lia];simp only[Int.natCast_add]
theorem W4{fa fb fc fd:EF}{ρ:AX}{i j k l:Int}(ha:fa ρ=some (.cl<|.int i))(hb:fb ρ=some (.cl<|.int j))(hc:fc ρ=some (.cl<|.int k))(hd:fd ρ=some (.cl<|.int l)):De Bb Bb Bb fa fb fc fd ρ=some (.cl<|.bl<|decide (i<j)&&(decide (j<k)&&decide (k<l))):=by
 unfold De;rw[ha,hb];dsimp only;rw[HX];cases h:decide (i<j)
 .rfl
 .dsimp only;rw[hc];dsimp only;rw[HX];cases h2:decide (j<k)
  .rfl
  .dsimp only;rw[hd];rfl
noncomputable def xB(e f:Pt):Bool:=(decide (e.1<f.1)&&(decide (f.1<e.2)&&decide (e.2<f.2)))||(decide (f.1<e.1)&&(decide (e.1<f.2)&&decide (f.2<e.2)))
theorem cJ(e f:Pt):xB e f=xB f e:=by unfold xB;rw[ADW]
theorem U6(e f:Pt):NT [pv e,pv f]=some (.cl<|.bl<|xB e f):=by
 refine B5 rfl ?_;exact Cy<|RU (W4 (AQ rfl rfl<|Dm e) (AQ rfl rfl<|Dm f) (AQ rfl rfl<|D4 e)<|AQ rfl rfl<|D4 f) λ_=>W4 (AQ rfl rfl<|Dm f) (AQ rfl rfl<|Dm e) (AQ rfl rfl<|D4 f)<|AQ rfl rfl<|D4 e
theorem iT{f:EF}{ρ:AX}{b:Bool}(e:f ρ=some (.cl<|.bl b)):Kg f ρ=some (.cl<|.bl (!b)):=by unfold Kg;rw[e]
theorem iR{f:EF}{ρ:AX}{bs:List Bool}(e:f ρ=some (.fr<|bs.map PV.bl)):fB Es (AD f AG) ρ=some (.cl<|.bl<|bs.all id):=by
 refine Bu (AM e<|Ab _) ?_;simp only[Es,RV.list,AAl,Np,AA5]
theorem Qt{its:IF}{own:Nat}{cap:List Nat}{g:GF}{fe:EF}{ρ:AX}{α:Type}{enc:α->PV}{h:α->Bool}{xs:List α}(e:its ρ=some (xs.map enc))(hl:xs.length<=1000)(H:∀x∈xs,∃A5,g (enc x) (By own cap ρ)=some A5/\fe A5=some (.cl<|.bl<|h x)):fB Es (AD (BS its own cap g Bn fe) AG) ρ=some (.cl<|.bl<|xs.all h):=by
 have:=iR  ((ES e (by rw[AAO];exact hl)<|GD  λx hx=>(by obtain⟨A5,a,b⟩:=H x hx;exact⟨A5,_,a,b,rfl⟩)).trans (by rw[AA2];rfl));rw[ADT]at this;exact this
theorem cz(e:Pt){N:List Pt}(hN:N.length<=1000):QQ [pv e,.lst<|AI N]=some (.cl<|.bl (!N.any (xB e))):=by
 refine B5 rfl ?_;have ec:=ES (own:=1) (cap:=[0]) (its:=Be false<|AB 1) (ρ:=A8 2 [pv e,.lst<|AI N]) (HI  rfl rfl) (by rw[B9];exact hN)<|GD  (g:=Ag 0) (fe:=AU NT<|AD (AB 1)<|AD (AB 0) AG)   λf _=>⟨_,_,rfl,A9 (AM  rfl<|AM  rfl<|Ab _) rfl<|U6 e f,rfl⟩;have:=iT (RT <|ec.trans (by rw[AA2];rfl));rw[ACI]at this;exact Cy this
theorem kp(c:Int->Int->Int->Int->Bool)(e f:Pt):GY c (.cl<|pv e) (.cl<|pv f)=some (.cl<|.bl<|c e.1 e.2 f.1 f.2):=rfl
section
variable{r N:List Pt}(h:DC r=true)(hN:N.length<=1000)
def ltB(N:List Pt)(k:Nat):Bool:=KY (AA N k).1 (AA N k).2 (AA N<|(k:Int)+1).1 (AA N<|(k:Int)+1).2
def Jw(N:List Pt):Bool:=(List.range<|N.length-1).all<|ltB N
def Kz(r N:List Pt):Bool:=N.all λe=>Et r e.1 e.2
def PU(N:List Pt):Bool:=(List.range N.length).all λk=>!(N.take k).any (xB<|AA N k)
def CP(r N:List Pt):Bool:=((N.length:Int)==(r.length:Int)-3)&&((Jw N&&Kz r N)&&PU N)
include hN in
theorem dA:Qd [.lst<|AI N]=some (.cl<|.bl<|Jw N):=by
 refine B5 rfl ?_;have l1:fB Ah (AD (AB 0) AG) (A8 1 [.lst<|AI N])=some (.cl<|.int<|N.length):=Bu (AM  rfl<|Ab _) (by rw[HW,B9]);have eR:=XG (g:=AD (fC<|.int 1)<|AD (fB Ah<|AD (AB 0) AG) AG)  (i:=1)  (AM  rfl<|AM l1<|Ab _) J hN;refine Cy (Qt eR (by rw[ABg];lia) λt ht=>?_);have ht:=AAP.mp ht;refine⟨_,rfl,?_⟩;refine AQ (AQ   rfl (AQ   rfl rfl (by rw[C3,show((1+t:Nat):Int)-1=(t)by lia]))<|B0 _ _ J J) (AQ   rfl rfl<|B0 _ _ J J) ?_;rw[show((1+t:Nat))=(t)+1 by lia]
 rfl
include h hN
theorem QR:NU [.lst<|AI r,.lst<|AI N]=some (.cl<|.bl<|CP r N):=by
 refine B5 rfl ?_;show AO _ _ [some<|.im<|.lst<|AI r,some<|.im<|.lst<|AI N]=_;have l1:fB Ah (AD (AB 1) AG) [some<|.im<|.lst<|AI r,some<|.im<|.lst<|AI N]=some (.cl<|.int<|N.length):=Bu (AM  rfl<|Ab _) (by rw[HW,B9]);have l0:fB Ah (AD (AB 0) AG) [some<|.im<|.lst<|AI r,some<|.im<|.lst<|AI N]=some (.cl<|.int<|r.length):=Bu (AM  rfl<|Ab _) (by rw[HW,B9]);have e0:=A2<|AQ l1 (AQ (fb:=fC<|.int 3)  l0 rfl<|C3 _ _)<|Ij _ _;unfold CP;cases c:(N.length:Int)==(r.length)-3
 .rw[c]at e0;exact(CU<|(BU e0).trans rfl).trans rfl
 rw[c]at e0;rw[sq<|(BP e0).trans rfl];have e1:=HJ (FE<|A2<|A9 (g:=AD (AB 1) AG) (ρ:=[some<|.im<|.lst<|AI r,some<|.im<|.lst<|AI N]) (AM  rfl<|Ab _) rfl<|dA hN) λ_=>FE (A2 (Qt (own:=1) (cap:=[0]) (its:=Be false<|AB 1) (g:=Ag 0) (fe:=AU NV<|AD (AB 1)<|AD (f2 AJ (AB 0)<|fC<|.int 0)<|AD (f2 AJ (AB 0)<|fC<|.int 1) AG)    (h:=λe=>Et r e.1 e.2) (HI  rfl rfl) hN λe _=>⟨_,rfl,by
  rw[<-mV h];exact A9 (AM  rfl<|AM (AQ rfl rfl<|Dm e)<|AM (AQ rfl rfl<|D4 e)<|Ab _) rfl<|cX h _ _⟩))
 rw[<-AD4]at e1
 change _=some (!(Jw N&&Kz r N))at e1
 cases d:Jw N&&Kz r N
 .rw[d]at e1;exact(CU<|(BU e1).trans rfl).trans rfl
 rw[d]at e1;rw[sq<|(BP e1).trans rfl];refine Cy (Qt (Dg (AM l1<|Ab _) hN) (by rw[ABg];exact hN) λk hk=>⟨_,rfl,?_⟩);have hk:=AAP.mp hk;refine A9 (rs:=[.cl<|pv<|AA N k,.fr<|AI<|N.take k]) (AM (AQ   rfl rfl<|B0 _ _ J J)<|AM ?_ (Ab _)) rfl (cz _ (by rw[ABd];lia));rw[<-V8 N k J]
 rfl
end
theorem cq(e f:Pt):KD [pv e,pv f]=some (.cl<|.bl<|xB e f):=U6 e f
section
variable{r N:List Pt}(h:DC r=true)(hN:N.length<=1000)
include h hN
def K8(r N:List Pt)(k:Nat):Bool:=(!Et r (AA N k).1 (AA N k).2||(decide ((0:Int)<k)&&G0 (AA N<|(k:Int)-1).1 (AA N<|(k:Int)-1).2 (AA N k).1 (AA N k).2))||decide (0<(((List.range k).filter λj:Nat=>xB (AA N j)<|AA N k).length:Int))
omit h hN in
theorem ZN(r N:List Pt):(∀k∈List.range N.length,K8 r N k=false)↔((Jw N&&Kz r N)&&PU N)=true:=by
 have hx:∀k,k<N.length->((N.take k).any (xB<|AA N k)=false↔decide (0<(((List.range k).filter λj:Nat=>xB (AA N j)<|AA N k).length:Int))=false):=λk hk=>by
  rw[ABo,show ¬ (0:Int)<(((List.range k).filter λj:Nat=>xB (AA N j)<|AA N k).length)↔((List.range k).filter λj:Nat=>xB (AA N j)<|AA N k).length=0 by lia,ADZ,AC2,ABp];constructor
  .intro H j hj;have hj:=AAP.mp hj;rw[cJ,FD (J:j<N.length)];exact H _<|ADN.mpr ⟨j,J,rfl⟩
  .intro H e he;obtain⟨j,hj,rfl⟩:=ADN.mp he;have:=H j<|AAP.mpr J;rw[cJ,FD (J:j<N.length)]at this;exact this
 rw[AAJ,AAJ];unfold Jw Kz PU K8 ltB KY G0;simp only[ABH,AAP,AAt,ADI,AAy,Bool.and_eq_false_iff,ABo (p:=(0:Int)<((_:Nat))),AAa];constructor
 .intro H;refine⟨⟨λk hk=>?_,λe he=>?_⟩,λk hk=>(hx k hk).mpr<|ABN (H k hk).2⟩
  .obtain⟨⟨_,b⟩,_⟩:=H (k+1) J;lia
  .obtain⟨k,hk,rfl⟩:=AB1 he;rw[<-FD hk];exact(H k hk).1.1
 .rintro⟨⟨a,b⟩,c⟩ k hk;refine⟨⟨?_,?_⟩,of_decide_eq_false<|(hx k hk).mp<|c k hk⟩
  .rw[FD hk];exact b _<|AB2 hk
  .by_cases k0:k=0
   .exact .inl J
   .have:=a (k-1) J;rw[show((k-1:Nat):Int)=(k)-1 by lia]at this;right;rw[ABo];lia
theorem cv:QW [.lst<|AI r,.lst<|AI N]=some (.cl<|.bl<|CP r N):=by
 obtain⟨h3,FF,hb⟩:=LG h;refine B5 rfl ?_;show AO _ _ [some<|.im<|.lst<|AI r,some<|.im<|.lst<|AI N,none]=_;have l1:∀x:Option SV,fB Ah (AD (AB 1) AG) [some<|.im<|.lst<|AI r,some<|.im<|.lst<|AI N,x]=some (.cl<|.int<|N.length):=λ_=>Bu (AM  rfl<|Ab _) (by rw[HW,B9]);have l0:∀x:Option SV,fB Ah (AD (AB 0) AG) [some<|.im<|.lst<|AI r,some<|.im<|.lst<|AI N,x]=some (.cl<|.int<|r.length):=λ_=>Bu (AM  rfl<|Ab _) (by rw[HW,B9]);have e0:=A2<|AQ (l1 none) (AQ (fb:=fC<|.int 3)  (l0 none) rfl<|C3 _ _)<|Ij _ _;unfold CP;cases c:(N.length:Int)==(r.length)-3
 .rw[c]at e0;exact(CU<|(BU e0).trans rfl).trans rfl
 rw[c]at e0;rw[sq<|(BP e0).trans rfl];have H:=GZ  (gt:=Ag 2) (body:=(AO (Al (CZ (CY<|AN<|AU Gn<|AD (AB 0)<|AD (f2 AJ (f2 AJ (AB 1)<|AB 2)<|fC<|.int 0)<|AD (f2 AJ (f2 AJ (AB 1)<|AB 2)<|fC<|.int 1) AG)<|BY (AN<|f2 BL (AB 2)<|fC<|.int 0)<|AN<|f2 (GY G0) (f2 AJ (AB 1)<|f2 Ad (AB 2)<|fC<|.int 1)<|f2 AJ (AB 1)<|AB 2) (Ak<|fC<|.bl false) Am)<|Al (AN<|f2 BL (fB Ah<|AD (BS (Bm<|AD (AB 2) AG) 1 [1,2] (Ag 0) (AN<|AU KD<|AD (f2 AJ (AB 1)<|AB 0)<|AD (f2 AJ (AB 1)<|AB 2) AG)<|AB 0) AG)<|fC<|.int 0) (Ak<|fC<|.bl false) Am)) (c:=K8 r N)  (λρ=>∃x,ρ=[some<|.im<|.lst<|AI r,some<|.im<|.lst<|AI N,x]) (xs:=List.range N.length)  ⟨none,rfl⟩ (by
  rintro k hk ρ ⟨x,rfl⟩;have hk:=AAP.mp hk;have ek:f2 AJ (AB 1) (AB 2) [some<|.im<|.lst<|AI r,some<|.im<|.lst<|AI N,some<|.im<|.int<|k]=some (.cl<|pv<|AA N k):=AQ   rfl rfl<|B0 _ _ J J;have eA:=HJ (FE<|A2<|A9  (AM (f:=AB 0)  rfl<|AM (AQ (fb:=fC<|.int 0) ek rfl<|Dm _)<|AM (AQ (fb:=fC<|.int 1) ek rfl<|D4 _)<|Ab _) rfl<|VA h3 FF hb _ _) λ_=>HG (A2<|AQ (fa:=AB 2) (fb:=fC<|.int 0)   rfl rfl<|Ea _ _) λz=>
   A2 (AQ (AQ (fa:=AB 1)  rfl (AQ (fa:=AB 2) (fb:=fC<|.int 1)   rfl rfl<|C3 _ _)<|B0 N ((k)-1) J J) ek<|kp G0 _ _)
  have ec:=ES (own:=1) (cap:=[1,2]) (its:=Bm<|AD (AB 2) AG) (g:=Ag 0) (t:=AN<|AU KD<|AD (f2 AJ (AB 1)<|AB 0)<|AD (f2 AJ (AB 1)<|AB 2) AG) (fe:=AB 0) (ρ:=[some<|.im<|.lst<|AI r,some<|.im<|.lst<|AI N,some<|.im<|.int<|k]) (Dg  (AM  rfl<|Ab _) J) (by rw[AAO,ABg];lia) (JP    λj hj=>by
   have hj:=AAP.mp hj;exact⟨_,rfl,A2<|A9 (AM (AQ   rfl rfl<|B0 _ _ J J)<|AM (AQ   rfl rfl<|B0 _ _ J J)<|Ab _) rfl<|cq _ _,λ_=>⟨_,rfl,rfl⟩⟩)
  have eB:=A2<|AQ (fb:=fC<|.int 0)  (Bu (AM ec<|Ab _)<|Yk _) rfl<|Ea _ _;rw[AAO]at eB;refine⟨_,rfl,λz=>?_,λz=>⟨[some<|.im<|.lst<|AI r,some<|.im<|.lst<|AI N,some<|.im<|.int<|k],?_,_,rfl⟩⟩
  all_goals unfold K8 at z
  .rcases Bool.or_eq_true_iff.mp z with z|z
   .rw[z]at eA;exact CU<|(BU eA).trans rfl
   .rw[z]at eB;cases d:(!Et r (AA N k).1 (AA N k).2||(decide ((0:Int)<k)&&G0 (AA N<|(k)-1).1 (AA N<|(k)-1).2 (AA N k).1 (AA N k).2))
    .rw[d]at eA;exact(sq<|(BP eA).trans rfl).trans ((BU eB).trans rfl)
    .rw[d]at eA;exact CU<|(BU eA).trans rfl
  .rw[AAt]at z;rw[z.1]at eA;rw[z.2]at eB;exact(sq<|(BP eA).trans rfl).trans ((BP eB).trans rfl))
 have eF:=Cq (gt:=Ag 2) (body:=(AO (Al (CZ (CY<|AN<|AU Gn<|AD (AB 0)<|AD (f2 AJ (f2 AJ (AB 1)<|AB 2)<|fC<|.int 0)<|AD (f2 AJ (f2 AJ (AB 1)<|AB 2)<|fC<|.int 1) AG)<|BY (AN<|f2 BL (AB 2)<|fC<|.int 0)<|AN<|f2 (GY G0) (f2 AJ (AB 1)<|f2 Ad (AB 2)<|fC<|.int 1)<|f2 AJ (AB 1)<|AB 2) (Ak<|fC<|.bl false) Am)<|Al (AN<|f2 BL (fB Ah<|AD (BS (Bm<|AD (AB 2) AG) 1 [1,2] (Ag 0) (AN<|AU KD<|AD (f2 AJ (AB 1)<|AB 0)<|AD (f2 AJ (AB 1)<|AB 2) AG)<|AB 0) AG)<|fC<|.int 0) (Ak<|fC<|.bl false) Am))<|Dg (AM (l1 none)<|Ab _) hN;cases d:(Jw N&&Kz r N)&&PU N
 .obtain⟨k,hk,z⟩:∃k∈List.range N.length,K8 r N k=true:=by
   refine AAz λq=>?_;have:=(ZN r N).mp λk hk=>by
    cases z:K8 r N k
    .rfl
    .exact absurd ⟨k,hk,z⟩ q
   rw[d]at this;cases this
  exact CU<|eF.trans<|H.1<|ADV.mpr ⟨k,hk,z⟩
 .obtain⟨ρ',e,x,rfl⟩:=H.2 (by
   rw[ADL,Ne,ADV];rintro⟨k,hk,z⟩;rw[(ZN r N).mpr d k hk]at z;cases z)
  exact(sq<|eF.trans e).trans rfl
end
theorem Y2{gt:GF}{body:SF}{enc:Nat->PV}(R:Nat->AX->Prop){n:Nat}{ρ:AX}(h0:R 0 ρ)(step:∀i,i<n->∀ρ,R i ρ->∃A5 BZ,gt (enc i) ρ=some A5/\body A5=some (.nx BZ)/\R (i+1) BZ) : ∃ρ',EH gt body ((List.range n).map enc) ρ=some (.nx ρ')/\R n ρ':=by
 have H:=O9    (λ(u)(_)=>u) (λi _ ρ=>R i ρ) (xs:=List.range n)  (b:=())  h0 λi x hx b ρ hR=>by
  have hi:=(AAL.mp hx).1;have Sj:=(AAL.mp hx).2;simp at hi Sj;subst Sj;rw[ACs]at hR ⊢;exact step i hi ρ hR
 rw[ABg,ACs]at H;exact H
theorem W5{f:EF}{g:AF}{ρ:AX}{r:RV}{rs:List RV}{ks:List (List Int)}{xs:List PV}{k:List Int}{p:PV}(e:f ρ=some r)(eg:g ρ=some rs)(ed:r.Cv=some (ks,xs))(ek:Iq rs=some k)(ep:C1 ks xs k=some p)(hk:Nat.ble k.length 1000=true:=by rfl):HL f g ρ=some (.cl p):=by
 unfold HL;rw[e,eg];dsimp only;rw[ed,ek];dsimp only;rw[AAH<|ACa hk,ep]
 rfl
theorem iS{i:Nat}{g:AF}{f:EF}{ρ:AX}{r:RV}{rs:List RV}{t:Option PySem.Addr}{ks:List (List Int)}{xs:List PV}{k:List Int}{p:PV}(e:f ρ=some r)(er:ρ[i]? = some (some<|.Dq t ks xs))(eg:g ρ=some rs)(ec:r.clean=some p)(ek:Iq rs=some k)(hl:ks.length<1000000)(hk:Nat.ble k.length 1000=true:=by rfl) : IQ i g f ρ=some (.nx<|ρ.set i<|some<|.Dq t (Fc ks k)<|HD ks xs k p):=by
 unfold IQ;rw[e,er,eg];dsimp only;rw[ec,ek];dsimp only;rw[AAH ⟨hl,ACa hk⟩]
noncomputable def kN(i j:Nat):List Int:=[(i:Int),(j:Int)]
theorem ly{i j k l:Nat}:kN i j=kN k l↔i=k/\j=l:=by
 unfold kN;lia
def DL(r:List Pt)(i j:Nat):Bool:=((j:Int)-(i:Int)==1||(j:Int)-(i:Int)==(r.length:Int)-1)||Et r (i:Int) (j:Int)
def Lg(r:List Pt)(ok:Nat->Nat->Prop)(b:Nat)(ks:List<|List Int)(xs:List PV):Prop:=ks.length=xs.length/\ks.length<=b/\∀x y,x<y->y<r.length->ok x y->C1 ks xs (kN x y)=some (.bl<|DL r x y)
theorem Lg.put{r:List Pt}{ok ZO:Nat->Nat->Prop}{b:Nat}{ks:List (List Int)}{xs:List PV}(h:Lg r ok b ks xs)(i j:Nat)(Ae:∀x y,x<y->y<r.length->ZO x y->(x=i/\y=j)\/ok x y):Lg r ZO (b+1) (Fc ks<|kN i j)<|HD ks xs (kN i j)<|.bl<|DL r i j:=by
 refine⟨gy h.1 _ _,ABF (gx _ _) (by have:=h.2.1;lia),λx y h1 h2 h3=>?_⟩;rw[gp h.1];by_cases e:kN x y=kN i j
 .rw[AAH e];obtain⟨rfl,rfl⟩:=ly.mp e
  rfl
 .rw[AAG e];rcases Ae x y h1 h2 h3 with⟨rfl,rfl⟩|hq
  .exact absurd rfl e
  .exact h.2.2 x y h1 h2 hq
theorem cw{r:List Pt}(h:DC r=true):∃ks xs,QX [.lst<|AI r]=some (.fd ks xs)/\ks≠[]/\∀x y,x<y->y<r.length->C1 ks xs (kN x y)=some (.bl<|DL r x y):=by
 obtain⟨h3,FF,hb⟩:=LG h;have el:fB Ah (AD (AB 0) AG) (A8 5 [.lst<|AI r])=some (.cl<|.int<|r.length):=by rw[<-B9];rfl
 obtain⟨ρ',e,ks,xs,c,d,rfl,hI⟩:=Y2  (gt:=Ag 3) (body:=(Cw (Bm<|AD (AB 3) AG) (Ag 4)<|IQ 2 (AD (AB 4)<|AD (AB 3) AG)<|DH (f2 (BB false) (f2 Ad (AB 3)<|AB 4)<|BE<|AD (fC<|.int 1)<|AD (f2 Ad (AB 1)<|fC<|.int 1) AG)<|AU Gn<|AD (AB 0)<|AD (AB 4)<|AD (AB 3) AG)) (λm ρ=>∃ks xs c d,ρ=[some<|.im<|.lst<|AI r,some<|.im<|.int<|r.length,some<|.Dq none ks xs,c,d]/\Lg r (λ_ y=>y<m) (12*m) ks xs) (n:=r.length)  ⟨[],[],none,none,rfl,rfl,AAB,λx y _ _ h=>J⟩ (by
  rintro m hm ρ ⟨ks,xs,c,d,rfl,hI⟩;obtain⟨ρ',e,O5,Uy,d',rfl,Ro⟩:=Y2  (gt:=Ag 4) (body:=(IQ 2 (AD (AB 4)<|AD (AB 3) AG)<|DH (f2 (BB false) (f2 Ad (AB 3)<|AB 4)<|BE<|AD (fC<|.int 1)<|AD (f2 Ad (AB 1)<|fC<|.int 1) AG)<|AU Gn<|AD (AB 0)<|AD (AB 4)<|AD (AB 3) AG)) (λf ρ=>∃ks xs d,ρ=[some<|.im<|.lst<|AI r,some<|.im<|.int<|r.length,some<|.Dq none ks xs,some<|.im<|.int<|m,d]/\Lg r (λx y=>y<m\/(y=m/\x<f)) (12*m+f) ks xs) (n:=m)  ⟨ks,xs,d,rfl,hI.1,hI.2.1,λx y h1 h2 h3=>hI.2.2 x y h1 h2 J⟩ (by
   rintro f hf ρ ⟨ks,xs,d,rfl,hI⟩;have eV:DH (f2 (BB false) (f2 Ad (AB 3)<|AB 4)<|BE<|AD (fC<|.int 1)<|AD (f2 Ad (AB 1)<|fC<|.int 1) AG) (AU Gn<|AD (AB 0)<|AD (AB 4)<|AD (AB 3) AG) [some<|.im<|.lst<|AI r,some<|.im<|.int<|r.length,some<|.Dq none ks xs,some<|.im<|.int<|m,some<|.im<|.int<|f]=some (.cl<|.bl<|DL r f m):=by
    exact RU (AQ (AQ   rfl rfl<|C3 _ _) (GK (AM  rfl<|AM (AQ   rfl rfl<|C3 _ _)<|Ab _) rfl)<|Yh _ _ _) λ_=>A9 (AM  rfl<|AM  rfl<|AM  rfl<|Ab _) rfl<|VA h3 FF hb _ _
   exact⟨_,_,rfl,iS    (k:=kN f m)   eV rfl rfl rfl rfl (by have:=hI.2.1;lia),_,_,_,rfl,hI.put f m λx y h1 h2 h3=>J⟩)
  exact⟨_,_,rfl,(Cq<|Dg (AM  rfl<|Ab _) J).trans e,_,_,_,_,rfl,Ro.1,by have:=Ro.2.1;lia,λx y h1 h2 h3=>Ro.2.2 x y h1 h2 J⟩)
 refine⟨ks,xs,B5 rfl ?_,λz=>?_,λx y h1 h2=>hI.2.2 x y h1 h2 h2⟩
 .unfold WU;rw[sq<|BA el rfl];rw[sq (ρ':=[some<|.im<|.lst<|AI r,some<|.im<|.int<|r.length,some<|.Dq none [] [],none,none]) rfl];rw[sq<|(Cq<|Dg (AM  rfl<|Ab _) J).trans e]
  rfl
 .have:=hI.2.2 0 1 J J J;rw[z]at this;cases this
theorem TC{r:List Pt}(h:DC r=true){i j:Nat}(Br:i<j)(hj:j<r.length):Et r (i) (j)=true↔AL.Line r (i) (j):=by
 obtain⟨R,_⟩:=(Jx r).mp h;have h3:=R.l3;unfold Et;constructor
 .intro e;rw[AAJ,AAJ,AAy]at e;obtain⟨hc,hb,hk⟩:=e;rw[FZ,AAJ,AAJ,AAJ,AAa,AAa,AAa,AAy,AAt,AAd,AAd]at hc;obtain⟨⟨a,b,c⟩,d,e⟩:=hc;have f:AL.Bs r.length<|(i)-j:=AL.L3 J;exact⟨(AL.O6 R.simple R.Ck a J J c f).mp hb,AL.RD.mp hk⟩
 .rintro⟨p,k⟩;have f:=AL.N6 J p.Cc J J;rw[AAJ,AAJ,AAy];refine⟨?_,(AL.O6 R.simple R.Ck J J J J p.Cc).mpr p,AL.RD.mpr k⟩;rw[FZ,AAJ,AAJ,AAJ,AAa,AAa,AAa,AAy,AAt,AAd,AAd];lia
theorem MX{r:List Pt}{i j:Nat}:DL r i j=true↔(j:Int)-i=1\/(j:Int)-i=(r.length)-1\/Et r i j=true:=by
 unfold DL;rw[ABq,ABq,ABt,ABt,or_assoc]
theorem lr{r:List Pt}(h:DC r=true){a b:Nat}(D3:a+1<b)(hb:b<r.length)(hj:DL r a b=true):∃c,a<c/\c<b/\DL r a c=true/\DL r c b=true:=by
 obtain⟨R,_⟩:=(Jx r).mp h;obtain⟨k,k1,k2,k3,k4⟩:=R.Nl (i:=(a)) (j:=(b)) J J J (by
  rcases MX.mp hj with c|c|c
  .lia
  .right;lia
  .exact .inl<|(TC h J hb).mp c)
 obtain⟨c,rfl⟩:∃c:Nat,k=(c):=⟨k.toNat,J⟩;refine⟨c,J,J,MX.mpr ?_,MX.mpr ?_⟩
 .rcases k3 with e|e
  .left;lia
  .exact .inr<|.inr<|(TC h J J).mpr e
 .rcases k4 with e|e
  .left;lia
  .exact .inr<|.inr<|(TC h J J).mpr e
abbrev NN:=Nat×Nat
noncomputable def FQ(T:List NN):Nat:=(T.map λe=>e.2-e.1-1).sum
noncomputable def Eb(T:List NN):Nat:=(T.map λe=>2*(e.2-e.1)-1).sum
def Xn(e f:NN):Prop:=(e.1<f.1/\f.1<e.2/\e.2<f.2)\/(f.1<e.1/\e.1<f.2/\f.2<e.2)
structure Dr(r:List Pt)(T L:List NN):Prop where
 seg:∀e∈T,e.1<e.2/\e.2<r.length/\DL r e.1 e.2=true
 Wn:T.Pairwise λe f=>e.2<=f.1\/f.2<=e.1
 ln:∀e∈L,e.1<e.2/\e.2<r.length/\Et r e.1 e.2=true
 out:∀e∈L,∀f∈T,(e.1<=f.1/\f.2<=e.2/\(e.1<f.1\/f.2<e.2))\/e.2<=f.1\/f.2<=e.1
 nx:L.Pairwise λe f=>e≠f/\¬ Xn e f
 ct:(T=[(0,r.length-1)]/\L=[])\/L.length+FQ T+3=r.length
theorem Uw(T U:List NN):FQ (T++U)=FQ T+FQ U:=by unfold FQ;rw[AA6,ADc]
theorem mz(T U:List NN):Eb (T++U)=Eb T+Eb U:=by unfold Eb;rw[AA6,ADc]
theorem Dr.drop{r:List Pt}{T L:List NN}{a b:Nat}(D:Dr r (T ++ [(a,b)]) L)(h3:3<=r.length)(h:¬ a+1<b):Dr r T L:=by
 have m:∀e∈T,e∈T ++ [(a,b)]:=λe he=>ABc _ he;refine⟨λe he=>D.seg e<|m e he,(ABQ.mp D.Wn).1,D.ln,λe he f hf=>D.out e he f<|m f hf,D.nx,?_⟩;rcases D.ct with⟨c,_⟩|c
 .have:=ABy List.getLast? c;simp at this;lia
 .rw[Uw,show FQ [(a,b)]=0 by simp[FQ];lia]at c;exact .inr c
theorem Dr.step{r:List Pt}{T L:List NN}{a b c:Nat}(D:Dr r (T ++ [(a,b)]) L)(ac:a<c)(cb:c<b)(j1:DL r a c=true)(j2:DL r c b=true):Dr r (T ++ [(a,c),(c,b)]) (if(b:Int)-a<(r.length:Int)-1 then L ++ [(a,b)]else L):=by
 obtain⟨h1,h2,h4⟩:=D.seg (a,b) AAB;have m:∀e∈T,e∈T ++ [(a,b)]:=λe he=>ABc _ he;obtain⟨p1,_,p2⟩:=ABQ.mp D.Wn;have p2:∀e∈T,e.2<=a\/b<=e.1:=λe he=>p2 e he (a,b) AAB;have sg:∀e∈T ++ [(a,c),(c,b)],e.1<e.2/\e.2<r.length/\DL r e.1 e.2=true:=λe he=>by
  rcases AAp.mp he with he|he
  .exact D.seg e<|m e he
  .simp only[AAi,ACK,ADY]at he;rcases he with rfl|rfl
   .exact⟨ac,J,j1⟩
   .exact⟨cb,h2,j2⟩
 have ds:(T ++ [(a,c),(c,b)]).Pairwise λe f=>e.2<=f.1\/f.2<=e.1:=by
  refine ABQ.mpr ⟨p1,AAB,λe he f hf=>?_⟩;have:=p2 e he;simp only[AAi,ACK,ADY]at hf;rcases hf with rfl|rfl<;>dsimp only<;>lia
 have ou:∀e∈L,∀f∈T ++ [(a,c),(c,b)],(e.1<=f.1/\f.2<=e.2/\(e.1<f.1\/f.2<e.2))\/e.2<=f.1\/f.2<=e.1:=λe he f hf=>by
  rcases AAp.mp hf with hf|hf
  .exact D.out e he f<|m f hf
  .have:=D.out e he (a,b) AAB;simp only[AAi,ACK,ADY]at hf;rcases hf with rfl|rfl<;>dsimp only at this ⊢ <;> lia
 have w:FQ [(a,b)]=FQ [(a,c),(c,b)]+1:=by simp[FQ];lia
 have w0:FQ [(a,b)]=b-a-1:=by simp[FQ]
 split
 .refine⟨sg,ds,λe he=>?_,λe he f hf=>?_,ABQ.mpr ⟨D.nx,AAB,λe he f hf=>?_⟩,?_⟩
  .rcases AAp.mp he with he|he
   .exact D.ln e he
   .rw[AAh]at he;subst he;refine⟨h1,h2,?_⟩;rcases MX.mp h4 with q|q|q
    .dsimp only at q;lia
    .dsimp only at q;lia
    .exact q
  .rcases AAp.mp he with he|he
   .exact ou e he f hf
   .rw[AAh]at he;subst he;rcases AAp.mp hf with hf|hf
    .have:=p2 f hf;dsimp only;lia
    .simp only[AAi,ACK,ADY]at hf;rcases hf with rfl|rfl<;>dsimp only<;>lia
  .rw[AAh]at hf;subst hf;have o:=D.out e he (a,b) AAB;dsimp only at o;refine⟨λq=>?_,λq=>?_⟩
   .rw[q]at o;dsimp only at o;lia
   .unfold Xn at q;dsimp only at q;lia
  .rcases D.ct with⟨q,_⟩|q
   .have:=ABy List.getLast? q;simp at this;lia
   .rw[Uw]at q ⊢;rw[AAn,AB8];lia
 .refine⟨sg,ds,D.ln,ou,D.nx,?_⟩;rcases D.ct with⟨q,rfl⟩|q
  .have:=by
    have:=ABy List.length q;simp at this;exact this
   subst this;rw[ABZ]at q ⊢;rw[ABi];dsimp only at *
   lia
  .rw[Uw]at q;lia
noncomputable def zz(e:NN):Pt:=((e.1:Int),(e.2:Int))
abbrev zs(L:List NN):List PV:=AI<|L.map zz
theorem U3(L:List NN):(zs L).length=L.length:=by rw[B9,AAO]
theorem m7{i:Nat}{ga:AF}{ρ:AX}{rs:List RV}{ps:List PV}{p:PV}(er:ρ[i]? = some (some<|.own ps))(ea:ga ρ=some rs)(ec:CW rs=some [p])(h:ps.length<1000):B6 i Cr ga ρ=some (.nx<|ρ.set i<|some<|.own<|ps ++ [p]):=by
 unfold B6;rw[er,ea];dsimp only;rw[ec];unfold Cr;dsimp only;rw[AAH h]
theorem qE{i:Nat}{gt:GF}{ρ ρ':AX}{ps:List PV}{p:PV}(er:ρ[i]? = some (some<|.own<|ps ++ [p]))(eg:gt p (ρ.set i<|some<|.own ps)=some ρ'):JY i gt ρ=some (.nx ρ'):=by
 unfold JY;rw[er];dsimp only;rw[AAn,AB8,Nat.add_sub_cancel,AAs<|AAS _,Nat.sub_self];dsimp only[List.getElem?_cons_zero];rw[List.dropLast_concat,eg]
def wT:BF:=AN<|f2 BL (fB Ah<|AD (AB 5) AG)<|fC<|.int 0
def wS:EF:=BS (ET<|AD (f2 AZ (AB 6)<|fC<|.int 1)<|AD (AB 7) AG) 1 [3,6,7] (Ag 0) (BY (AN<|HL (AB 1)<|AD (AB 2)<|AD (AB 0) AG)<|AN<|HL (AB 1)<|AD (AB 0)<|AD (AB 3) AG)<|AB 0
def wA:EF:=f2 AJ (AB 8)<|f2 Ap (f2 Bq (AU Bh<|AD (AB 0)<|AD (f2 AZ (AB 1)<|AB 6) AG)<|f2 AZ (fC<|.int 1)<|AB 7)<|fB Ah<|AD (AB 8) AG
def wG:SF:=AO (JY 5<|Cd 2<|BO (Ag 6)<|BO (Ag 7) Cn)<|Al (AN<|f2 BL (f2 Ad (AB 7)<|AB 6)<|fC<|.int 1) (AO (Aa 8 wS)<|AO (Aa 9 wA)<|AO (EB 5<|f2 AZ (AB 5)<|BE<|AD (Av<|AD (AB 6)<|AD (AB 9) AG)<|AD (Av<|AD (AB 9)<|AD (AB 7) AG) AG)<|Al (AN<|f2 Bb (f2 Ad (AB 7)<|AB 6)<|f2 Ad (fB Ah<|AD (AB 2) AG)<|fC<|.int 1) (B6 4 Cr<|AD (Av<|AD (AB 6)<|AD (AB 7) AG) AG) Am) Am
section
variable{s:List Int}{r:List Pt}{ks:List (List Int)}{xs:List PV}(h:DC r=true)(hd:∀x y,x<y->y<r.length->C1 ks xs (kN x y)=some (.bl (DL r x y)))
def wR(s:List Int)(r:List Pt)(ks:List<|List Int)(xs:List PV)(L T:List NN)(x:List<|Option SV):AX:=some (.im<|.rd<|Az s)::some (.im<|.int 20)::some (.im<|.lst<|AI r)::some (.im<|.Cv ks xs)::some (.own<|zs L)::some (.own<|zs T)::x
include h hd
theorem xD{L T:List NN}{a b:Nat}(D3:a+1<b)(hb:b<r.length)(x8 x9:Option SV):wS (wR s r ks xs L T [some<|.im<|.int<|a,some<|.im<|.int<|b,x8,x9])=some (.fr (((List.range<|b-(a+1)).filter λt=>DL r a (a+1+t)&&DL r (a+1+t) b).map λt:Nat=>PV.int<|(a+1+t:Nat))):=by
 obtain⟨h3,FF,_⟩:=LG h;refine ES (XG   (AM (AQ   rfl rfl<|by rfl)<|AM  rfl<|Ab _) J J) (by rw[AAO,ABg];lia)<|JP  λt ht=>⟨_,rfl,?_,λ_=>⟨.cl<|.int<|(a+1+t:Nat),rfl,rfl⟩⟩;have ht:=AAP.mp ht;exact HG (A2<|W5   rfl rfl rfl rfl<|hd a (a+1+t) J J) λ_=>A2<|W5   rfl rfl rfl rfl<|hd (a+1+t) b J hb
theorem xC{L T:List NN}{a b:Nat}(D:Dr r (T ++ [(a,b)]) L)(hT:T.length<=900)(x:List<|Option SV)(hx:x.length=4):∃L' T' x',wG (wR s r ks xs L (T ++ [(a,b)]) x)=some (.nx<|wR s r ks xs L' T' x')/\x'.length=4/\Dr r T' L'/\T'.length<=T.length+2/\Eb T'<Eb (T ++ [(a,b)]):=by
 obtain⟨h3,FF,_⟩:=LG h;obtain⟨x6,x7,x8,x9,rfl⟩:∃x6 x7 x8 x9,x=[x6,x7,x8,x9]:=by
  match x,hx with
  |[x6,x7,x8,x9],_=>exact⟨x6,x7,x8,x9,rfl⟩
 obtain⟨h1,h2,h4⟩:=D.seg (a,b) AAB;dsimp only at h1 h2 h4;unfold wG;rw[sq (ρ':=wR s r ks xs L T [some<|.im<|.int<|a,some<|.im<|.int<|b,x8,x9])<|qE   (by unfold wR zs AI;rw[AA6,AA6];rfl) rfl];have e1:AN (f2 BL (f2 Ad (AB 7)<|AB 6)<|fC<|.int 1) (wR s r ks xs L T [some<|.im<|.int<|a,some<|.im<|.int<|b,x8,x9])=some (decide ((1:Int)<(b)-a)):=A2<|AQ (AQ   rfl rfl<|C3 _ _)  rfl<|Ea _ _;by_cases c:a+1<b
 .rw[ABn J]at e1;rw[BU e1];have eS:=xD (s:=s) (L:=L) (T:=T) h hd c h2 x8 x9;generalize hF:((List.range<|b-(a+1)).filter λt=>DL r a (a+1+t)&&DL r (a+1+t) b)=F at eS;have zL:0<F.length:=by
   obtain⟨c,c1,c2,c3,c4⟩:=lr h c h2 h4;have:c-(a+1)∈F:=by
    rw[<-hF];refine ABx.mpr ⟨AAP.mpr J,?_⟩;rw[show a+1+(c-(a+1))=c by lia,c3,c4]
    rfl
   exact AC0 this
  have R8:=AAj (Af s (20+a) / (1+b)) (b:=(F.length)) J;have R9:=AAY (Af s (20+a) / (1+b)) (b:=(F.length)) J;have hm:(Af s (20+a) / (1+b)%(F.length)).toNat<F.length:=J
  have ht:=AB2 hm;have eA:wA (wR s r ks xs L T [some<|.im<|.int<|a,some<|.im<|.int<|b,some<|.im<|.lst (F.map λt:Nat=>PV.int<|(a+1+t:Nat)),x9])=some (.cl<|.int<|(a+1+F[(Af s (20+a) / (1+b)%(F.length)).toNat]:Nat)):=by
   refine AQ   rfl (AQ (AQ (A9 (AM  rfl<|AM (AQ   rfl rfl<|GU _ _)<|Ab _) rfl<|QP s _ J) (AQ   rfl rfl<|GU _ _)<|Oz J J) (Bu (AM  rfl<|Ab _)<|by rw[HW,AAO])<|DM J) ?_;show(CH (F.map λt:Nat=>PV.int<|(a+1+t:Nat)) _).map _=_;unfold CH Dl;rw[AAH R8,AAH (by rw[AAO];exact R9),AAl,ABK,AAV hm]
   rfl
  generalize F[(Af s (20+a) / (1+b)%(F.length)).toNat]=t at ht eA;rw[<-hF]at ht;obtain⟨ht,hj⟩:=ABx.mp ht;have ht:=AAP.mp ht;rw[AAJ]at hj;have D':=D.step  J J hj.1 hj.2;rw[sq (ρ':=wR s r ks xs L T [some<|.im<|.int<|a,some<|.im<|.int<|b,some<|.im<|.lst (F.map λt:Nat=>PV.int<|(a+1+t:Nat)),x9])<|BA eS rfl];rw[sq <|BA eA rfl];rw[sq (ρ':=wR s r ks xs L (T ++ [(a,a+1+t),(a+1+t,b)]) [some<|.im<|.int<|a,some<|.im<|.int<|b,some<|.im<|.lst (F.map λt:Nat=>PV.int<|(a+1+t:Nat)),some<|.im<|.int<|(a+1+t:Nat)]) ((set_own (AQ   rfl rfl (Jk rfl rfl (by rw[U3];show T.length+2<=_;lia)))).trans (by unfold wR zs AI;rw[AA6,AA6];rfl))];have e2:AN (f2 Bb (f2 Ad (AB 7)<|AB 6)<|f2 Ad (fB Ah<|AD (AB 2) AG)<|fC<|.int 1) (wR s r ks xs L (T ++ [(a,a+1+t),(a+1+t,b)]) [some<|.im<|.int<|a,some<|.im<|.int<|b,some<|.im<|.lst (F.map λt:Nat=>PV.int<|(a+1+t:Nat)),some<|.im<|.int<|(a+1+t:Nat)])=some (decide ((b:Int)-a<(r.length)-1)):=A2 (AQ (AQ   rfl rfl<|C3 _ _) (AQ  (Bu (AM  rfl<|Ab _)<|by rw[HW,B9]) rfl<|C3 _ _)<|HX _ _);have Fj:Eb (T ++ [(a,a+1+t),(a+1+t,b)])<Eb (T ++ [(a,b)]):=by
   simp[Eb];lia
  have ka:L.length<1000:=by
   rcases D.ct with⟨_,q⟩|q
   .rw[q];decide
   .lia
  by_cases q:(b:Int)-a<(r.length)-1
  .rw[ABn q]at e2;rw[AAH q]at D';rw[BU e2,m7   rfl (AM  rfl<|Ab _) rfl (by rw[U3];exact ka)];refine⟨L ++ [(a,b)],_,[some<|.im<|.int<|a,some<|.im<|.int<|b,some<|.im<|.lst (F.map λt:Nat=>PV.int<|(a+1+t:Nat)),some<|.im<|.int<|(a+1+t:Nat)],?_,rfl,D',AAB,Fj⟩;unfold wR zs AI;rw[AA6 (l₁:=L),AA6 (l₁:=L.map zz)]
   rfl
  .rw[ABN q]at e2;rw[AAG q]at D';rw[BP e2];exact⟨L,_,_,rfl,rfl,D',AAB,Fj⟩
 .rw[ABN J]at e1;rw[BP e1];refine⟨L,T,[some<|.im<|.int<|a,some<|.im<|.int<|b,x8,x9],rfl,rfl,D.drop h3 c,J,?_⟩;rw[mz];simp[Eb];lia
theorem b8:∀(f:Nat)(L T:List NN)(x:List<|Option SV),Dr r T L->Eb T<f->T.length+2*Eb T<=900->x.length=4->∃L' x',JE wT wG f (wR s r ks xs L T x)=some (.nx<|wR s r ks xs L' [] x')/\x'.length=4/\Dr r [] L'
 |0,_,_,_,_,hm,_,_=>absurd hm J
 |f+1,L,T,x,D,hm,hT,hx=>by
  have e0:wT (wR s r ks xs L T x)=some (decide ((0:Int)<(T.length))):=A2 (AQ (Bu (AM  rfl<|Ab _)<|by rw[Yj,U3])  rfl<|Ea _ _);unfold JE;rw[e0];rcases List.eq_nil_or_concat T with rfl|⟨T',⟨a,b⟩,rfl⟩
  .exact⟨L,x,rfl,hx,D⟩
  .rw[List.concat_eq_append]at *
   rw[ABn AAB];dsimp only;rw[AAn,AB8]at hT;obtain⟨L',T2,x',e,GR,D',hl,CK⟩:=xC  h hd D J x hx;rw[e];exact b8 f L' T2 x' D' J J GR
end
theorem Zd:∀Q:List Pt,K9 (AI Q)=some Q
 |[]=>rfl
 |q::Q=>by
  show(K9<|AI Q).map _=_;rw[Zd Q]
  rfl
theorem jL(Q:List Pt)(i:Nat)(hi:i<Q.length):(AI Q).getD i .A4=pv (Q.getD i (0,0)):=by
 unfold AI;rw[AA0,AA0,ABK,AAV hi]
 rfl
def C5(Q:List Pt):List Pt:=(Ct.ord Q).map λi=>Q.getD i (0,0)
theorem vE{f:EF}{ρ:AX}{r:RV}{Q:List Pt}(e:f ρ=some r)(hl:r.list=some (AI Q))(HQ:Q.length<64)(nd:Q.Nodup):fB Kx (AD f AG) ρ=some (.fr<|AI<|C5 Q):=by
 refine Bu (AM e<|Ab _) ?_;unfold Kx;dsimp only;rw[hl];dsimp only;rw[Zd];dsimp only;rw[AAH ⟨by rw[B9];exact HQ,nd⟩];unfold C5;rw[show AI ((Ct.ord Q).map λi=>Q.getD i (0,0))=(Ct.ord Q).map λi=>pv (Q.getD i (0,0))by unfold AI;rw[AA2];rfl]
 congr 2
 exact ACk λi hi=>jL Q i<|Ct.Tj nd i hi
theorem vK{Q:List Pt}(nd:Q.Nodup):(C5 Q).Perm Q:=by
 have:=(Ct.Tn nd).map λi=>Q.getD i (0,0);rw[show(List.range Q.length).map (λi=>Q.getD i (0,0))=Q from List.ext_getElem AAB λi h1 h2=>by simp[List.getD,h2]]at this;exact this
theorem vL{Q:List Pt}(nd:Q.Nodup):(C5 Q).Pairwise λp q=>KY p.1 p.2 q.1 q.2=true:=by
 unfold C5;rw[ACC];exact Ct.oq nd
theorem xW{e f:NN}(h:zz e=zz f):e=f:=by
 unfold zz at h;exact ABD J J
theorem xP{e f:NN}(h:¬ Xn e f):xB (zz e) (zz f)=false:=by
 unfold Xn at h;unfold xB zz;simp only[ABo];lia
theorem Dr.cut{r:List Pt}{L:List NN}(D:Dr r [] L)(h3:3<=r.length):(L.map zz).Nodup/\(C5<|L.map zz).length=L.length/\L.length+3=r.length/\CP r (C5<|L.map zz)=true:=by
 have hl:L.length+3=r.length:=by
  rcases D.ct with⟨q,_⟩|q
  .cases q
  .exact q
 have nd:(L.map zz).Nodup:=by
  unfold List.Nodup;rw[ACC];exact D.nx.imp λ{a b} k e=>k.1<|xW e
 have hp:=vK nd;have hz:(C5<|L.map zz).length=L.length:=by rw[hp.length_eq,AAO]
 have nx:∀e∈L,∀f∈L,¬ Xn e f:=λe he f hf=>by
  obtain⟨i,hi,rfl⟩:=AB1 he;obtain⟨j,hj,rfl⟩:=AB1 hf;have P:=ABC.mp D.nx;rcases Nat.lt_trichotomy i j with c|c|c
  .exact(P i j hi hj c).2
  .subst c;unfold Xn;lia
  .have:=(P j i hj hi c).2;unfold Xn at *
   lia
 refine⟨nd,hz,hl,?_⟩;unfold CP;rw[AAJ,AAJ,AAJ,ABt];refine⟨J,⟨?_,?_⟩,?_⟩
 .refine ABH.mpr λk hk=>?_;have hk:=AAP.mp hk;unfold ltB;rw[show(k:Int)+1=((k+1:Nat))by lia,FD (J:k<_),FD (J:k+1<_)];exact ABC.mp (vL nd) k (k+1) J J J
 .refine ABH.mpr λe he=>?_;obtain⟨f,hf,rfl⟩:=ABG.mp<|hp.mem_iff.mp he;exact(D.ln f hf).2.2
 .refine ABH.mpr λk hk=>?_;have hk:=AAP.mp hk;rw[AAy,ABp];intro e he;obtain⟨f,hf,rfl⟩:=ABG.mp<|hp.mem_iff.mp<|ACd he;obtain⟨g,hg,eg⟩:=ABG.mp (hp.mem_iff.mp (show AA (C5<|L.map zz) k∈C5 (L.map zz)by rw[FD hk];exact AB2 hk));rw[<-eg,xP<|nx g hg f hf];exact ABO
theorem cT(s:List Int){r:List Pt}(h:DC r=true):∃N:List Pt,QV [.rd<|Az s,.int 20,.lst<|AI r]=some (.fr<|AI N)/\CP r N=true/\N.length+3=r.length:=by
 obtain⟨h3,FF,_⟩:=LG h;obtain⟨ks,xs,ej,_,hd⟩:=cw h;obtain⟨L,x,ew,hx,D⟩:=b8  h hd 1000 [] [(0,r.length-1)] [none,none,none,none] ⟨λe he=>by
  rw[AAh]at he;subst he;exact⟨by dsimp only;lia,by dsimp only;lia,MX.mpr<|.inr<|.inl J⟩,AAB,λe he=>(nomatch he),λe he=>(nomatch he),.nil,.inl ⟨rfl,rfl⟩⟩ (by simp[Eb];lia) (by simp[Eb];lia) rfl
 obtain⟨nd,hz,hl,hc⟩:=D.cut h3;refine⟨C5<|L.map zz,B5 rfl ?_,hc,J⟩;unfold WQ;rw[sq<|BA (A9 (AM  rfl<|Ab _) rfl ej) rfl];rw[sq<|set_own<|GK (Ab _) rfl];have et:Av (AD (fC<|.int 0)<|AD (f2 Ad (fB Ah<|AD (AB 2) AG)<|fC<|.int 1) AG) (((A8 10 [.rd<|Az s,.int 20,.lst<|AI r]).set 3<|some<|.im<|.Cv ks xs).set 4<|some<|.own [])=some (.cl<|pv<|zz (0,r.length-1)):=(II  (AM  rfl<|AM (AQ  (Bu (AM  rfl<|Ab _)<|by rw[HW,B9]) rfl<|C3 _ _)<|Ab _) rfl).trans (by unfold pv zz;rw[show((r.length-1:Nat):Int)=(r.length)-1 by lia];rfl);rw[sq <|(set_own<|GK (AM et<|Ab _) rfl).trans rfl];refine(sq   ew).trans ?_;exact Pl<|vE  rfl rfl (by rw[AAO];lia) nd
def E6(l:List PV):Prop:=∀x∈l,∃p,x=pv p
theorem E6.AI:∀{l:List PV},E6 l->∃N,l=AI N
 |[],_=>⟨[],rfl⟩
 |x::l,h=>by
  obtain⟨N,e⟩:=E6.AI  λy hy=>h y<|.tail _ hy
  obtain⟨p,rfl⟩:=h x<|.head _;exact⟨p::N,by rw[e];rfl⟩
section
variable{l0:List PV}{how cell num:Int}{P:PV}
noncomputable def hR(l0:List PV)(how cell num:Int)(P:PV)(l:List PV)(a b:Option SV):AX:=[some<|.im<|.lst l0,some<|.im<|.int how,some<|.im<|.int cell,some<|.im<|.int num,some<|.own l,some<|.im P,a,b]
theorem Rp(l:List PV)(a b:Option SV):fB Ah (AD (AB 4) AG) (hR l0 how cell num P l a b)=some (.cl<|.int<|l.length):=Bu (AM  rfl<|Ab _)<|Yj _
theorem Xl(l:List PV)(a b:Option SV)(c:Int):AN (f2 A6 (AB 1)<|fC<|.int c) (hR l0 how cell num P l a b)=some (how==c):=A2<|AQ   rfl rfl<|Ma _ _
theorem jo(l:List PV)(a b:Option SV)(c:Int):BY (AN<|f2 A6 (AB 1)<|fC<|.int c) (AN<|f2 BL (fB Ah<|AD (AB 4) AG)<|fC<|.int 0) (hR l0 how cell num P l a b)=some ((how==c)&&decide ((0:Int)<l.length)):=HG (Xl l a b c) λ_=>A2<|AQ  (Rp l a b) rfl<|Ea _ _
theorem OM{l:List PV}(a b:Option SV)(h:0<l.length):f2 Ap (AB 2) (fB Ah<|AD (AB 4) AG) (hR l0 how cell num P l a b)=some (.cl<|.int<|cell%(l.length)):=AQ  rfl (Rp l a b)<|DM J
theorem Mn{n:Nat}(h:0<n):0<=cell%(n)/\cell%(n)<n:=⟨AAj _ J,AAY _ J⟩
theorem Sz{n:Nat}(h:0<n):Dl n (cell%(n))=some (cell%(n)).toNat:=by
 have:=Mn (cell:=cell) h;unfold Dl;rw[AAH this.1,AAH this.2]
theorem Xm{l:List PV}(a b:Option SV)(h:0<l.length):∃x∈l,f2 AJ (AB 4) (f2 Ap (AB 2)<|fB Ah<|AD (AB 4) AG) (hR l0 how cell num P l a b)=some (.cl x):=by
 have hb:=Mn (cell:=cell) h;have hi:(cell%(l.length)).toNat<l.length:=J
 refine⟨l[(cell%(l.length)).toNat],AB2 hi,AQ  rfl (OM a b h) ?_⟩;show(CH l _).map _=_;unfold CH;rw[Sz h,AAl,AAV hi]
 rfl
theorem Rq{k:List PV->List PV->Option (List PV)}{ga:AF}{l l':List PV}{qs:List PV}{rs:List RV}{a b:Option SV}(ea:ga (hR l0 how cell num P l a b)=some rs)(ec:CW rs=some qs)(ek:k l qs=some l'):B6 4 k ga (hR l0 how cell num P l a b)=some (.nx<|hR l0 how cell num P l' a b):=by
 unfold B6;rw[ea];show(match CW rs with|some qs=>(match k l qs with|some Cs=>_|none=>none)|none=>none)=_;rw[ec];dsimp only;rw[ek]
 rfl
def Gq(g:SF):Prop:=∀(l0:List PV)(how cell num:Int)(P:Pt)(l:List PV)(a b:Option SV),E6 l->l.length<=100->∃l' a' b',g (hR l0 how cell num (pv P) l a b)=some (.nx<|hR l0 how cell num (pv P) l' a' b')/\E6 l'/\l'.length<=l.length+1
theorem Oo{c:Int}{g:SF}(h:∀(l0:List PV)(how cell num:Int)(P:Pt)(l:List PV)(a b:Option SV),E6 l->0<l.length->l.length<=100->∃l' a' b',g (hR l0 how cell num (pv P) l a b)=some (.nx<|hR l0 how cell num (pv P) l' a' b')/\E6 l'/\l'.length<=l.length+1) : Gq<|Al (BY (AN<|f2 A6 (AB 1)<|fC<|.int c)<|AN<|f2 BL (fB Ah<|AD (AB 4) AG)<|fC<|.int 0) g Am:=λl0 how cell num P l a b hl h1=>by
 have e:=jo (l0:=l0) (how:=how) (cell:=cell) (num:=num) (P:=pv P) l a b c;cases d:(how==c)&&decide ((0:Int)<l.length)
 .rw[d]at e;exact⟨l,a,b,(BP e).trans rfl,hl,J⟩
 .rw[d]at e;rw[AAJ,AAa]at d;rw[BU e];exact h l0 how cell num P l a b hl J h1
theorem YQ{c:Int}{g:SF}(h:Gq g):Gq<|Al (AN<|f2 A6 (AB 1)<|fC<|.int c) g Am:=λl0 how cell num P l a b hl h1=>by
 have e:=Xl (l0:=l0) (how:=how) (cell:=cell) (num:=num) (P:=pv P) l a b c;cases d:(how==c)
 .rw[d]at e;exact⟨l,a,b,(BP e).trans rfl,hl,J⟩
 .rw[d]at e;rw[BU e];exact h l0 how cell num P l a b hl h1
theorem YV{l:List PV}{p:PV}{i:Int}(hl:E6 l)(hp:∃q,p=pv q)(hi:0<=i/\i<=l.length)(h1:l.length<=100):∃l',GW l [.int i,p]=some l'/\E6 l'/\l'.length<=l.length+1:=by
 unfold GW;dsimp only;rw[AAH ⟨by unfold KC;lia,J⟩];refine⟨_,rfl,λx hx=>?_,by simp;lia⟩;rcases AAp.mp hx with hx|hx
 .exact hl x<|ACd hx
 .rcases AAi.mp hx with rfl|hx
  .exact hp
  .exact hl x<|ACc hx
theorem aS{l:List PV}{p:PV}{i:Nat}(hl:E6 l)(hp:∃q,p=pv q):E6<|l.set i p:=λx hx=>by
 rcases List.mem_or_eq_of_mem_set hx with hx|rfl
 .exact hl x hx
 .exact hp
theorem aO{f:EF}{l:List PV}{a b:Option SV}{r:RV}{p:PV}(h:0<l.length)(e:f (hR l0 how cell num P l a b)=some r)(ec:r.clean=some p):HP 4 (f2 Ap (AB 2)<|fB Ah<|AD (AB 4) AG) f (hR l0 how cell num P l a b)=some (.nx<|hR l0 how cell num P (l.set (cell%(l.length)).toNat p) a b):=by
 unfold HP;rw[e,OM a b h];show(match r.clean,Dl l.length _ with|some p,some j=>_|_,_=>none)=_;rw[ec,Sz h]
 rfl
end
theorem cY{N:List Pt}(hN:N.length<=50)(how cell num:Int):∃N',NZ [.lst<|AI N,.int how,.int cell,.int num]=some (.fr<|AI N')/\N'.length<=N.length+6:=by
 have H1:Gq<|Al (BY (AN<|f2 A6 (AB 1)<|fC<|.int 1)<|AN<|f2 BL (fB Ah<|AD (AB 4) AG)<|fC<|.int 0) (B6 4 Jo<|AD (f2 Ap (AB 2)<|fB Ah<|AD (AB 4) AG) AG) Am:=Oo λl0 how cell num P l a b hl h0 h1=>by
  have hb:=Mn (cell:=cell) h0;refine⟨_,a,b,Rq (AM (OM a b h0)<|Ab _) rfl (l':=l.eraseIdx (cell%(l.length)).toNat) ?_,λx hx=>hl x<|List.mem_of_mem_eraseIdx hx,?_⟩
  .unfold Jo;dsimp only;rw[AAH (by unfold KC;lia),Sz h0]
   rfl
  .have:=List.length_eraseIdx_le l (cell%(l.length)).toNat;lia
 have H2:Gq<|Al (AN<|f2 A6 (AB 1)<|fC<|.int 2) (B6 4 GW<|AD (f2 Ap (AB 2)<|f2 AZ (fB Ah<|AD (AB 4) AG)<|fC<|.int 1)<|AD (AB 5) AG) Am:=YQ λl0 how cell num P l a b hl h1=>by
  have hb:=Mn (cell:=cell) (n:=l.length+1) J;obtain⟨l',e,h,hz⟩:=YV  (i:=cell%((l.length+1))) hl ⟨P,rfl⟩ J h1;exact⟨l',a,b,Rq (AM (AQ  rfl (AQ  (Rp l a b) rfl<|GU _ _)<|DM J)<|AM  rfl<|Ab _) rfl e,h,hz⟩
 have H3:Gq<|Al (BY (AN<|f2 A6 (AB 1)<|fC<|.int 3)<|AN<|f2 BL (fB Ah<|AD (AB 4) AG)<|fC<|.int 0) (B6 4 GW<|AD (f2 Ap (AB 2)<|fB Ah<|AD (AB 4) AG)<|AD (f2 AJ (AB 4)<|f2 Ap (AB 2)<|fB Ah<|AD (AB 4) AG) AG) Am:=Oo λl0 how cell num P l a b hl h0 h1=>by
  have hb:=Mn (cell:=cell) h0;obtain⟨x,hx,ex⟩:=Xm      a b h0;obtain⟨l',e,h,hz⟩:=YV  (i:=cell%(l.length)) hl (hl x hx) J h1;exact⟨l',a,b,Rq (AM (OM a b h0)<|AM ex<|Ab _) rfl e,h,hz⟩
 have H4:Gq<|Al (BY (AN<|f2 A6 (AB 1)<|fC<|.int 4)<|AN<|f2 BL (fB Ah<|AD (AB 4) AG)<|fC<|.int 0) (HP 4 (f2 Ap (AB 2)<|fB Ah<|AD (AB 4) AG)<|AB 5) Am:=Oo λl0 how cell num P l a b hl h0 h1=>
  ⟨_,a,b,aO  h0 rfl rfl,aS hl ⟨P,rfl⟩,by rw[ACS];lia⟩
 have H5:Gq<|Al (BY (AN<|f2 A6 (AB 1)<|fC<|.int 5)<|AN<|f2 BL (fB Ah<|AD (AB 4) AG)<|fC<|.int 0) (AO (JX (f2 AJ (AB 4)<|f2 Ap (AB 2)<|fB Ah<|AD (AB 4) AG)<|Cd 2<|BO (Ag 6)<|BO (Ag 7) Cn)<|HP 4 (f2 Ap (AB 2)<|fB Ah<|AD (AB 4) AG)<|Av<|AD (AB 7)<|AD (AB 6) AG) Am:=Oo λl0 how cell num P l a b hl h0 h1=>by
  obtain⟨x,hx,ex⟩:=Xm      a b h0;obtain⟨q,rfl⟩:=hl x hx;have ea:JX (f2 AJ (AB 4)<|f2 Ap (AB 2)<|fB Ah<|AD (AB 4) AG) (Cd 2<|BO (Ag 6)<|BO (Ag 7) Cn) (hR l0 how cell num (pv P) l a b)=some (.nx<|hR l0 how cell num (pv P) l (some<|.im<|.int q.1)<|some<|.im<|.int q.2):=by
   unfold JX;rw[ex]
   rfl
  exact⟨_,_,_,(sq ea).trans<|aO (r:=.cl<|pv (q.2,q.1)) h0 rfl rfl,aS hl ⟨_,rfl⟩,by rw[ACS];lia⟩
 have H6:Gq<|Al (AN<|f2 A6 (AB 1)<|fC<|.int 6) (Ki 4 Kw) Am:=YQ λl0 how cell num P l a b hl h1=>⟨l.reverse,a,b,rfl,λx hx=>hl x<|AB3.mp hx,by rw[ACj];lia⟩;have hl:E6<|AI N:=λx hx=>by
  obtain⟨p,_,rfl⟩:=ABG.mp hx;exact⟨p,rfl⟩
 have hz:=B9 N;obtain⟨l1,a1,b1,e1,p1,z1⟩:=H1 (AI N) how cell num (cell / 16%14-1,num / 16%14-1) (AI N) none none hl J;obtain⟨l2,a2,b2,e2,p2,z2⟩:=H2 (AI N) how cell num (cell / 16%14-1,num / 16%14-1) l1 a1 b1 p1 J;obtain⟨l3,a3,b3,e3,p3,z3⟩:=H3 (AI N) how cell num (cell / 16%14-1,num / 16%14-1) l2 a2 b2 p2 J;obtain⟨l4,a4,b4,e4,p4,z4⟩:=H4 (AI N) how cell num (cell / 16%14-1,num / 16%14-1) l3 a3 b3 p3 J;obtain⟨l5,a5,b5,e5,p5,z5⟩:=H5 (AI N) how cell num (cell / 16%14-1,num / 16%14-1) l4 a4 b4 p4 J;obtain⟨l6,a6,b6,e6,p6,z6⟩:=H6 (AI N) how cell num (cell / 16%14-1,num / 16%14-1) l5 a5 b5 p5 J;obtain⟨N',rfl⟩:=p6.AI;have za:=B9 N';refine⟨N',B5 rfl ?_,J⟩;unfold WT;rw[sq<|set_own<|Bu (AM  rfl<|Ab _) rfl];have md:∀(i:Nat)(x:Int)(ρ:AX),AB i ρ=some (.cl<|.int x)->f2 Ad (f2 Ap (f2 Bq (AB i)<|fC<|.int 16)<|fC<|.int 14) (fC<|.int 1) ρ=some (.cl<|.int<|x / 16%14-1):=λi x ρ e=>AQ  (AQ  (AQ  e rfl<|Oz AAC AAC) rfl<|DM AAC) rfl<|C3 _ _;rw[sq (ρ':=hR (AI N) how cell num (pv (cell / 16%14-1,num / 16%14-1)) (AI N) none none)<|BA (II (AM (md 2 cell _ rfl)<|AM (md 3 num _ rfl)<|Ab _) rfl) rfl];rw[sq e1,sq e2,sq e3,sq e4,sq e5,sq e6]
 rfl
section
variable{r N B:List Pt}(h:DC r=true)(hN:N.length<=1000)
include h
theorem RB{ρ:AX}(e:AB 0 ρ=some (.cl<|.lst<|AI r)):Bc E5 FW (AD (AB 0) AG) ρ=some (.o<|.nx ρ):=cL (AM e<|Ab _) rfl<|cS h
include hN
theorem cf:QT [.lst<|AI r,.lst<|AI N]=some (.cl<|.bl<|CP r N):=by
 refine WA rfl ?_;unfold RG;rw[KA<|RB h rfl];exact xR<|Cy<|A9  rfl rfl<|QR h hN
theorem Vv(hc:CP r N=false){i:Nat}{ρ:AX}(e:AB 0 ρ=some (.cl<|.lst<|AI r))(e1:AB i ρ=some (.cl<|.lst<|AI N)):Bc E4 E9 (AD (AB 0)<|AD (AB i) AG) ρ=some (.ex "NoCut"):=by
 refine Hj (AM e<|AM e1<|Ab _) rfl<|Nx rfl ?_;have et:=FE<|A2<|A9 (ρ:=A8 2 [.lst<|AI r,.lst<|AI N]) (AM (f:=AB 0)  rfl<|AM (f:=AB 1)  rfl<|Ab _) rfl<|QR h hN;rw[hc]at et;exact(U1 et).trans rfl
theorem fU(hc:CP r N=true){i:Nat}{ρ:AX}(e:AB 0 ρ=some (.cl<|.lst<|AI r))(e1:AB i ρ=some (.cl<|.lst<|AI N)):Bc E4 E9 (AD (AB 0)<|AD (AB i) AG) ρ=some (.o<|.nx ρ):=by
 refine cL  (AM e<|AM e1<|Ab _) rfl<|V9 (ρ:=A8 2 [.lst<|AI r,.lst<|AI N]) rfl ?_;have et:=FE<|A2<|A9 (ρ:=A8 2 [.lst<|AI r,.lst<|AI N]) (AM (f:=AB 0)  rfl<|AM (f:=AB 1)  rfl<|Ab _) rfl<|QR h hN;rw[hc]at et;exact(U0 et).trans rfl
theorem X2(hc:CP r N=false){k n:Nat}{g:YF}{ps:List PV}(hl:ps.length=n)(e:AB 0 (A8 k ps)=some (.cl<|.lst<|AI r))(e1:AB 1 (A8 k ps)=some (.cl<|.lst<|AI N)):Cu k n (Bk (Bc E5 FW<|AD (AB 0) AG)<|Bk (Bc E4 E9<|AD (AB 0)<|AD (AB 1) AG) g) ps=none/\Dd k n (Bk (Bc E5 FW<|AD (AB 0) AG)<|Bk (Bc E4 E9<|AD (AB 0)<|AD (AB 1) AG) g) ps=some "NoCut":=
 Nx hl ((KA<|RB h e).trans<|U2<|Vv h hN hc e e1)
theorem dQ(hc:CP r N=false)(hB:CP r B=true)(OK:B.length<=1000){k:Nat}(hk:k<7):NY [.lst<|AI r,.lst<|AI N,.lst<|AI B,.int<|k]=none/\Nk [.lst<|AI r,.lst<|AI N,.lst<|AI B,.int<|k]=some "NoCut":=by
 refine Nx rfl ?_;show Bk _ _ [some<|.im<|.lst<|AI r,some<|.im<|.lst<|AI N,some<|.im<|.lst<|AI B,some<|.im<|.int<|k]=_;have e:∀c:Int,AN (f2 A6 (AB 3)<|fC<|.int c) [some<|.im<|.lst<|AI r,some<|.im<|.lst<|AI N,some<|.im<|.lst<|AI B,some<|.im<|.int<|k]=some ((k)==c):=λc=>A2<|AQ   rfl rfl<|Ma _ _;have no:∀{c:Int}{g h:YF},(k)≠c->Bk (DR (AN<|f2 A6 (AB 3)<|fC<|.int c) g<|yL Am) h [some<|.im<|.lst<|AI r,some<|.im<|.lst<|AI N,some<|.im<|.lst<|AI B,some<|.im<|.int<|k]=h [some<|.im<|.lst<|AI r,some<|.im<|.lst<|AI N,some<|.im<|.lst<|AI B,some<|.im<|.int<|k]:=λ{c g h} d=>KA ((U0<|(e c).trans<|by rw[AAd.mpr d]).trans rfl);have yes:∀{c:Int}{g h:YF},(k)=c->g [some<|.im<|.lst<|AI r,some<|.im<|.lst<|AI N,some<|.im<|.lst<|AI B,some<|.im<|.int<|k]=some (.ex "NoCut")->Bk (DR (AN<|f2 A6 (AB 3)<|fC<|.int c) g<|yL Am) h [some<|.im<|.lst<|AI r,some<|.im<|.lst<|AI N,some<|.im<|.lst<|AI B,some<|.im<|.int<|k]=some (.ex "NoCut"):=λ{c g h} d q=>U2 ((U1<|(e c).trans<|by rw[ABt.mpr d]).trans q);by_cases c0:(k:Int)=0
 .exact yes c0<|Hj  rfl rfl<|X2 h hN hc rfl rfl rfl
 rw[no c0];by_cases c1:(k:Int)=1
 .exact yes c1<|Hj  rfl rfl<|X2 h hN hc rfl rfl rfl
 rw[no c1];by_cases c2:(k:Int)=2
 .exact yes c2<|Hj  rfl rfl<|X2 h hN hc rfl rfl rfl
 rw[no c2];by_cases c3:(k:Int)=3
 .exact yes c3<|Hj  rfl rfl<|X2 h hN hc rfl rfl rfl
 rw[no c3];by_cases c4:(k:Int)=4
 .exact yes c4<|Hj  rfl rfl<|X2 h hN hc rfl rfl rfl
 rw[no c4];by_cases c5:(k:Int)=5
 .exact yes c5<|Hj  rfl rfl<|X2 h hN hc rfl rfl rfl
 rw[no c5];refine(U1<|(e 6).trans<|by rw[ABt.mpr AAA]).trans (Hj  rfl rfl<|Nx rfl ?_);unfold RJ;rw[KA<|RB h rfl,KA<|fU h OK hB rfl rfl];exact U2<|Vv h hN hc rfl rfl
theorem cx(hc:CP r N=false)(hB:CP r B=true)(OK:B.length<=1000){k:Nat}(hk:k<7):LY [.lst<|AI r,.lst<|AI N,.lst<|AI B,.int<|k]=some (.cl<|.int 1):=by
 refine WA rfl ?_;unfold RH;rw[KA (ρ':=[some<|.im<|.lst<|AI r,some<|.im<|.lst<|AI N,some<|.im<|.lst<|AI B,some<|.im<|.int<|k,some<|.im<|.int (-1),none]) rfl];have et:LR 6 5 ["NoCut"] (Bc NY Nk<|AD (AB 0)<|AD (AB 1)<|AD (AB 2)<|AD (AB 3) AG) (Kj 4 5 QN) [some<|.im<|.lst<|AI r,some<|.im<|.lst<|AI N,some<|.im<|.lst<|AI B,some<|.im<|.int<|k,some<|.im<|.int (-1),none]=some (.o<|.nx [none,none,none,none,some<|.im<|.int 1,none]):=by
  unfold LR;rw[Hj  rfl rfl<|dQ h hN hc hB OK hk]
  rfl
 rw[KA et]
 rfl
end
theorem P9(r N:List Pt):PySem.SeqAt.shaped (Ax<|.lst [.lst<|AI r,.lst<|AI N])=true/\PySem.PyData.eqv (Ax<|.lst [.lst<|AI r,.lst<|AI N]) (Ax<|.lst [.lst<|AI r,.lst<|AI N])=true:=by
 have h:=TB r;have h':=TB N;constructor
 .simp only[PySem.SeqAt.shaped,Ax,CN,PySem.PyData.canLay0,PySem.PyData.canLayAll0,PySem.PyData.depth,PySem.PyData.depthAll,h.1,h'.1,ABV,AAa];omega
 .simp only[Ax,CN,PySem.PyData.eqv,PySem.PyData.eqvAll,Wz,Bool.and_self]
theorem lz(r N:List Pt):CC (.cl<|.lst [.lst<|AI r,.lst<|AI N]) (.fr [.lst<|AI r,.lst<|AI N])=some (.cl<|.bl false):=by
 have h:=P9 r N;exact(AAH ⟨h.1,h.1⟩).trans (ABy (λb=>some<|RV.cl<|PV.bl (!b)) h.2)
theorem ck(s:List Int):NW [.rd<|Az s]=some (.cl<|.bl true):=by
 obtain⟨er,h3,FF⟩:=dB s 0 12 AAA AAA AAA;have hr:=g5 s 0 (most:=12) AAA AAA;generalize drawn s 0 12=r at *
 obtain⟨B,eB,hB,OK⟩:=cT s hr;have ec:∀(k:Int)(ρ:AX),0<=k->AB 0 ρ=some (.cl<|.rd<|Az s)->AU Bh (AD (AB 0)<|AD (fC<|.int k) AG) ρ=some (.cl<|.int<|Af s k):=λk ρ hk e=>A9 (AM e<|AM  rfl<|Ab _) rfl<|QP s k hk;refine B5 rfl ?_;unfold WL;rw[sq<|BA (A9 (AM  rfl<|AM  rfl<|AM  rfl<|Ab _) rfl er) rfl];rw[sq<|BA (A9  rfl rfl eB) rfl];rw[sq (ρ':=[some<|.im<|.rd<|Az s,some<|.im<|.lst<|AI r,some<|.im<|.lst<|AI B,some<|.im<|.lst<|AI B,none,none,none,none])<|BA (Bu (AM  rfl<|Ab _) rfl) rfl];obtain⟨N,eN,hN⟩:∃N:List Pt,Al (AN<|f2 BL (f2 Ap (AU Bh<|AD (AB 0)<|AD (fC<|.int 40) AG)<|fC<|.int 4)<|fC<|.int 0) (Aa 3<|AU NZ<|AD (AB 2)<|AD (f2 AZ (fC<|.int 1)<|f2 Ap (f2 Bq (AU Bh<|AD (AB 0)<|AD (fC<|.int 40) AG)<|fC<|.int 4)<|fC<|.int 6)<|AD (AU Bh<|AD (AB 0)<|AD (fC<|.int 41) AG)<|AD (AU Bh<|AD (AB 0)<|AD (fC<|.int 42) AG) AG) Am [some<|.im<|.rd<|Az s,some<|.im<|.lst<|AI r,some<|.im<|.lst<|AI B,some<|.im<|.lst<|AI B,none,none,none,none]=some (.nx [some<|.im<|.rd<|Az s,some<|.im<|.lst<|AI r,some<|.im<|.lst<|AI B,some<|.im<|.lst<|AI N,none,none,none,none])/\N.length<=1000:=by
  have et:=A2<|AQ (fb:=fC<|.int 0)  (AQ (fb:=fC<|.int 4)  (ec 40 [some<|.im<|.rd<|Az s,some<|.im<|.lst<|AI r,some<|.im<|.lst<|AI B,some<|.im<|.lst<|AI B,none,none,none,none] AAC rfl) rfl<|DM AAC) rfl<|Ea _ _;cases d:decide ((0)<Af s 40%4)
  .rw[d]at et;exact⟨B,(BP et).trans rfl,AAA⟩
  .rw[d]at et;obtain⟨N,e,hl⟩:=cY (N:=B) AAA (1+Af s 40 / 4%6) (Af s 41)<|Af s 42;refine⟨N,(BU et).trans<|(BA (A9 (AM  rfl<|AM (AQ  rfl (AQ  (AQ  (ec 40 _ AAC rfl) rfl<|Oz AAC AAC) rfl<|DM AAC)<|GU _ _)<|AM (ec 41 _ AAC rfl)<|AM (ec 42 _ AAC rfl)<|Ab _) rfl e) rfl).trans rfl,AAA⟩
 rw[sq eN];rw[sq <|BA (GK (AM (Bu (AM  rfl<|Ab _) rfl)<|AM (Bu (AM  rfl<|Ab _) rfl)<|Ab _) rfl) rfl];rw[sq <|BA (A9  rfl rfl<|cf hr hN) rfl];rw[sq (ρ':=[some<|.im<|.rd<|Az s,some<|.im<|.lst<|AI r,some<|.im<|.lst<|AI B,some<|.im<|.lst<|AI N,some<|.im<|.lst [.lst<|AI r,.lst<|AI N],some<|.im<|.bl<|CP r N,some<|.im<|.bl<|CP r N,none])<|BA (A9  rfl rfl<|cv hr hN) rfl];have eT:∀x:Option SV,BE (AD (AB 1)<|AD (AB 3) AG) [some<|.im<|.rd<|Az s,some<|.im<|.lst<|AI r,some<|.im<|.lst<|AI B,some<|.im<|.lst<|AI N,some<|.im<|.lst [.lst<|AI r,.lst<|AI N],some<|.im<|.bl<|CP r N,some<|.im<|.bl<|CP r N,x]=some (.fr [.lst<|AI r,.lst<|AI N]):=λ_=>GK  rfl rfl;have e1:CZ (CY<|AN<|Kf "bool"<|AB 5) (CZ (AN<|f2 CC (AB 5)<|AB 6)<|AN<|f2 CC (AB 4)<|BE<|AD (AB 1)<|AD (AB 3) AG) [some<|.im<|.rd<|Az s,some<|.im<|.lst<|AI r,some<|.im<|.lst<|AI B,some<|.im<|.lst<|AI N,some<|.im<|.lst [.lst<|AI r,.lst<|AI N],some<|.im<|.bl<|CP r N,some<|.im<|.bl<|CP r N,none]=some (!true||(!(CP r N==CP r N)||false)):=
  HJ (FE<|A2 rfl) λ_=>HJ (A2<|AQ   rfl rfl<|S6 _ _) λ_=>A2<|AQ  rfl (eT none)<|lz r N
 rw[show(!true||(!(CP r N==CP r N)||false))=false by simp]at e1;rw[sq<|(BP e1).trans rfl];cases hc:CP r N
 .rw[sq<|(BP    rfl).trans rfl];have H:=GZ (enc:=λk:Nat=>PV.int<|k) (gt:=Ag 7) (body:=Al (AN<|f2 CC (AU LY<|AD (f2 AJ (AB 4)<|fC<|.int 0)<|AD (f2 AJ (AB 4)<|fC<|.int 1)<|AD (fB GX<|AD (AB 2) AG)<|AD (AB 7) AG)<|fC<|.int 1) (Ak<|fC<|.bl false) Am) (c:=λ_=>false) (r:=.cl<|.bl false)
   (λρ=>∃x,ρ=[some<|.im<|.rd<|Az s,some<|.im<|.lst<|AI r,some<|.im<|.lst<|AI B,some<|.im<|.lst<|AI N,some<|.im<|.lst [.lst<|AI r,.lst<|AI N],some<|.im<|.bl false,some<|.im<|.bl false,x])   ⟨none,rfl⟩ (by
   rintro k hk ρ ⟨x,rfl⟩;have em:AN (f2 CC (AU LY<|AD (f2 AJ (AB 4)<|fC<|.int 0)<|AD (f2 AJ (AB 4)<|fC<|.int 1)<|AD (fB GX<|AD (AB 2) AG)<|AD (AB 7) AG)<|fC<|.int 1) [some<|.im<|.rd<|Az s,some<|.im<|.lst<|AI r,some<|.im<|.lst<|AI B,some<|.im<|.lst<|AI N,some<|.im<|.lst [.lst<|AI r,.lst<|AI N],some<|.im<|.bl false,some<|.im<|.bl false,some<|.im<|.int<|k]=some (!((1)==1)):=A2<|AQ (A9  rfl rfl<|cx hr hN hc hB AAA<|AAP.mp hk) rfl<|Ij 1 1;exact⟨_,rfl,λq=>(nomatch q),λ_=>⟨_,(BP em).trans rfl,_,rfl⟩⟩)
  obtain⟨ρ',e,x,rfl⟩:=H.2 AAB;rw[sq<|(Cq<|Dg  rfl AAA).trans e];exact Cy<|AQ  rfl (eT x)<|Yg (P9 r N).1 (P9 r N).1 (P9 r N).2
 .exact CU<|(BU    rfl).trans rfl
end L2.EV
namespace L2.K
open PySem L2.PL
theorem dE(ns:List Int)(_:ns.length<=63):NW [.rd<|ns.map PV.int]=some (.cl<|.bl true):=L2.EV.ck ns
open PySem PySem.Spec PyProof.Rows L2.PL
set_option maxHeartbeats 0
seal AN f2 DB BY fB fC AU EA De BS AD HL RY HM Kf HN Be IK BE IL AG Df Kg CY DH CZ DI Fd Bm ET DJ Bn Av AB JX IQ Cw Al B6 Ki Ri Am GN JY Ak OH OI AO OJ Aa HP EB Kj Ag Cd Rj Bc DR yL Uz Bk LR C2 AZ Es Ii Cr Oy Bq A6 BL BB GV O0 GW AJ B7 Ah GX Bb EG HY Ap CL CC GY Jo Kw Kx Ad Mc dR BV DV Nh PX DF Gu Cb CG DX GC KI Hv KJ KL
noncomputable def top (i : Nat) : Stmt := PySem.Challenge.pw_threewards_k07_cuts_looked_at.main.body.getD i (.Pass ⟨0, 0, 0, 0⟩)
theorem dX{a b:Prop}(x:a)(f:a->b):a/\b:=⟨x,f x⟩
def Lw(K:W.Frag):List (Str×Nat)->Prop
 |[]=>True
 |(x,i)::l=>dR K x (top i)/\Lw K l
theorem dcs{K:W.Frag}{x:Str}{i:Nat}{l:List (Str×Nat)}(h:dR K x<|top i)(t:Lw K l):Lw K ((x,i)::l):=⟨h,t⟩
theorem dnl{K:W.Frag}:Lw K []:=trivial
theorem D8{X:Cx}{N ps:List Str}{st:Stmt}{scope:Scope}{Nb:List Str}{own:Nat}{cap:List Nat}(_:FS N ps st)(h1:X.env.scope=BR st)(h2:X.N=N)(h:(Q9 (BR st).names N scope Nb own cap&&(Nb.take own).all λx=>scope.names.lookup x==some .local||scope.names.lookup x==some .cell)=true):F6 X scope Nb own cap:=fM (by rw[h1,h2];exact(Bool.and_eq_true_iff.mp h).1)
theorem uk:FS ["script","room","good","lines","handed","found","due","how"] ["script"]<|top 84:=M7 AAD ⟨[_],rfl,rfl⟩
def Pz(K:W.Frag):Sp:=λvs H Q _=>∃(a:Addr)(ns:List Int),vs=[.ref a]/\CO K H a (ns.map V.int)/\ns.length<=63/\∀H',Q (.bl true) H'
theorem T5{K:W.Frag}{H:Hp}:∀ns:List Int,Ac K H (ns.map PV.int) (ns.map V.int)
 |[]=>by simp[Ac]
 |n::ns=>by
  rw[AAT,AAT,Ac];exact⟨_,_,rfl,by simp[Rep],T5 ns⟩
theorem wc{K:W.Frag}{G:Hp}{a:Addr}(ns:List Int)(h:∃(o:Obj)(its:Array Value)(n:Nat),K.lookup a=some o/\o.cls=.type "tuple"/\o.data=.seq its n/\its.size<=sizeLine/\An (ns.map V.int) its.toList):Rep K G (.tup<|ns.map PV.int)<|.ref a:=by
 unfold Rep;exact⟨a,ns.map V.int,rfl,.inr h,T5 ns⟩
theorem vH{K:W.Frag}{vs:List V}{H:Hp}{Q:VK}{E:XK}(h:Pz K vs H Q E):LI K 1 NW vs H Q E:=by
 obtain⟨a,ns,rfl,hS,hl,k⟩:=h;refine⟨rfl,H,[.rd<|ns.map PV.int],.cl<|.bl true,As.refl _,?_,dE ns hl,λv G' H' _ r=>?_⟩
 .unfold Ac;refine⟨_,_,rfl,?_,by unfold Ac;rfl⟩;unfold Rep;exact⟨a,_,rfl,hS,T5 ns⟩
 .rw[r.bl];exact k H'
def eR(K:W.Frag)(x:Str)(C:Addr):Prop:=W.nsIn K mainGlobals x=some (some<|.ref C)/\W.excIn K C [.type "ValueError",.type "Exception",.type "BaseException",.type "object"] "ValueError.__new__" = true
theorem all_mk{l:W.OpenLaw}{w:World}{K:W.Frag}{h:Heap}{mg:Str->Option Value}{fa:Addr}(X:K.In h)(G:h.Ns mainGlobals mg)(kE:mg "law" = some (.ref fa)) {wI:Tok} {wL wM:Tok} {Za:Addr} {TZ:Obj} {nN:Nat} {wJ:Tok} {wK:Tok} {C7:Addr} {NO:Addr} {NM:Addr} {NP:Addr} {NQ:Addr} {NR:Addr} (D:Lw K (("_law_cell",61)::("_law_side",63)::("_law_flat",64)::("_law_plain_room",65)::("_law_winding",66)::("_law_area",71)::("_law_on",69)::("_law_meet",70)::("_law_good",72)::("_law_pushed",67)::("_law_room",68)::("_law_line",73)::("_law_joined",77)::("_law_drawn_cut",78)::("_law_hurt",81)::("all_near",21)::("turn",8)::("all_bend",22)::("walls_of",24)::("are_neighbours",23)::("parts",10)::("lies_on",9)::("meet",11)::("walls_keep_apart",25)::("doubled_area",26)::("is_room",18)::("check_room",20)::("rises",36)::("passes_right_of",12)::("place_within",27)::("middle_is_inside",28)::("has_line",19)::("cross",37)::("crosses_none",38)::("cuts_up",35)::("is_cut",31)::("_law_cross",74)::("_law_is_cut",76)::("check_cut",33)::("triangles",32)::("dyes",44)::("keepers",45)::("seen",46)::("turned",52)::("way",53)::("_law_asked",82)::("_law_which",80)::("_law_met",83)::("law",84) :: [])) (zs:bR K ["len","range","min","max","abs","set","sorted","list","all","sum","any","isinstance","ValueError","bool"]) (xS:W.nsIn K mainGlobals "FARTHEST" = some (some<|.int 100 wI)) (xV:W.nsIn K mainGlobals "ORIGIN" = some (some<|.ref Za)) (xQ:K.lookup Za=some TZ) (xE:TZ.cls=.type "tuple") (w9:TZ.data=.seq #[.int 0 wL,.int 0 wM] nN) (xT:W.nsIn K mainGlobals "FEWEST_CORNERS" = some (some<|.int 3 wJ)) (xU:W.nsIn K mainGlobals "MOST_CORNERS" = some (some<|.int 12 wK)) (uC:eR K "NoCut" C7) (uE:eR K "NoRoom" NO) (uD:eR K "NoPoint" NM) (uG:eR K "NoTurn" NP) (uH:eR K "TooMany" NQ) (uI:eR K "WardError" NR) (jJ:W.findIn K (.ref C7) "__getattribute__" = some (some<|.builtin "BaseException.__getattribute__")) (jQ:W.findIn K (.ref C7) "__getattr__" = some none) (fV:W.findIn K (.ref C7) "__class__" = some (some<|.builtin "object.__class__")) (vI:W.specialIn K (.builtin "object.__class__") "__get__" = some (some<|.builtin "getset_descriptor.__get__")) (wN:W.takesIn K (.builtin "object.__class__")=some true) (nF:W.mroIn K C7 (.type "object")=some true) (mq:W.mroIn K C7 (.type "BaseException")=some true) (j9:W.hasDictIn K C7=true) (nT:(Value.ref C7==Value.ref NO)=false) (uf:W.subIn K (.ref C7) (.ref NO)=some false) (nS:(Value.ref C7==Value.ref NM)=false) (ue:W.subIn K (.ref C7) (.ref NM)=some false) (nU:(Value.ref C7==Value.ref NP)=false) (ug:W.subIn K (.ref C7) (.ref NP)=some false) (nV:(Value.ref C7==Value.ref NQ)=false) (uh:W.subIn K (.ref C7) (.ref NQ)=some false) (ui:W.subIn K (.ref C7) (.type "ValueError")=some true) (uj:W.subIn K (.ref NR) (.type "BaseException")=some true) (vJ:W.subIn K (.ref C7) (.ref NR)=some true) : ∃fd:FuncData,(∀(s:Shared)(v:Value),BindsTo s fd ⟨[v],[]⟩ [("script",v)])/\∀base:Heap,K.In base->base.Ns mainGlobals mg->Co l.prog w K mg base Dv 11 fa fd ["script"] (Pz K):=by
 have zG:∃t,mg "FARTHEST" = some (.int 100 t):=⟨_,W.mg_of X G xS⟩;have zJ:∃a,mg "ORIGIN" = some (.ref a)/\∀G,Rep K G (.tup [(.int 0),(.int 0)])<|.ref a:=⟨_,W.mg_of X G xV,λG=>wc [0,0] ⟨_,_,_,xQ,xE,w9,(by show 2<=sizeLine;decide),(.cons ⟨_,rfl⟩<|.cons ⟨_,rfl⟩ .nil)⟩⟩;have zH:∃t,mg "FEWEST_CORNERS" = some (.int 3 t):=⟨_,W.mg_of X G xT⟩;have zI:∃t,mg "MOST_CORNERS" = some (.int 12 t):=⟨_,W.mg_of X G xU⟩;obtain⟨xp,xw,xu,xr,xj,xx,xy,xq,xl,x5,xm,xo,xi,xn,_⟩:=Vl X G zs;obtain⟨GI,tU⟩:=uC;have mm:=W.mg_of X G GI;obtain⟨iA,tW⟩:=uE;have zf:=W.mg_of X G iA;obtain⟨h9,tV⟩:=uD;have ze:=W.mg_of X G h9;obtain⟨iB,tY⟩:=uG;have zg:=W.mg_of X G iB;obtain⟨iC,tZ⟩:=uH;have zh:=W.mg_of X G iC;obtain⟨iD,tj⟩:=uI;have zi:=W.mg_of X G iD;have KQ:LV K C7:=⟨jJ,jQ,fV,vI,wN,nF,mq,j9⟩;have xc:Ht K ["NoCut"] "NoRoom"<|.ref NO:=Kv GI KQ (O3 nT tW uf) rfl;have xZ:Ht K ["NoCut"] "NoCut"<|.ref C7:=Kv GI KQ mL rfl;have xa:Ht K ["NoCut"] "NoPoint"<|.ref NM:=Kv GI KQ (O3 nS tV ue) rfl;have xf:Ht K ["NoCut"] "NoTurn"<|.ref NP:=Kv GI KQ (O3 nU tY ug) rfl;have xg:Ht K ["NoCut"] "TooMany"<|.ref NQ:=Kv GI KQ (O3 nV tZ uh) rfl;have xh:Ht K ["NoCut"] "ValueError"<|.type "ValueError":=Kv GI KQ (mK AAD ui) rfl;have zt:∀(nm:Str) C,List.contains (["NoCut"]:List Str) nm=true->C8 K nm C->W.exmOne K (.ref C) (.ref NR)=some true:=λnm C hL hC=>by
  obtain rfl:=RE hL;obtain rfl:=C8.inj hC GI;exact iZ tj uj vJ
 have zx:∀(nm:Str),List.contains (["NoCut"]:List Str) nm=true->∃C,C8 K nm C:=λnm hL=>by
  obtain rfl:=RE hL;exact⟨_,GI⟩
 obtain⟨d0,d1,d2,d3,d4,d5,d6,d7,d8,d9,yF,yG,yH,yI,yJ,yK,yM,yN,yO,yP,yQ,yR,yS,yT,yW,yX,yY,yZ,ye,yf,yg,yh,yi,yj,yk,yn,yo,yq,yr,yu,yv,yw,yx,yz,y6,y7,y8,y9,gM,_⟩:=D;obtain⟨f,fd,F,hm⟩:=OA X G gM;have e:=kE.symm.trans hm;cases e;refine⟨fd,λs v=>EL.bt F uk s [v] rfl,λbase KB _=>?_⟩;have H:FS ["script","k","base"] ["script","k"] (top 61)/\BV l.prog w K mg base "_law_cell" 1 2 Bh/\FS ["one","two","point","across","up"] ["one","two","point"] (top 63)/\BV l.prog w K mg base "_law_side" 1 3 D7/\FS ["room","k"] ["room"] (top 64)/\BV l.prog w K mg base "_law_flat" 2 1 LW/\FS ["script","k","count","mode","x","low","high","j","cell","y","room"] ["script","k","count"] (top 65)/\BV l.prog w K mg base "_law_plain_room" 3 3 QY/\FS ["script","k","xs","ys","j","cell","plan"] ["script","k"] (top 66)/\BV l.prog w K mg base "_law_winding" 2 2 Na/\FS ["room","total","k","one","two"] ["room"] (top 71)/\BV l.prog w K mg base "_law_area" 1 1 NX/\FS ["one","two","point","low","high"] ["one","two","point"] (top 69)/\BV l.prog w K mg base "_law_on" 2 3 Ho/\FS ["one","two","three","four","some","a","b","point","first"] ["one","two","three","four"] (top 70)/\BV l.prog w K mg base "_law_meet" 3 4 Hn/\FS ["room","count","k","j"] ["room"] (top 72)/\BV l.prog w K mg base "_law_good" 4 1 LX/\FS ["script","k","room","j","cell","at","x","y","tried"] ["script","k","room"] (top 67)/\BV l.prog w K mg base "_law_pushed" 5 3 QZ/\FS ["script","k","most","cell","room","slant","turn_v","first","x","y"] ["script","k","most"] (top 68)/\BV l.prog w K mg base "_law_room" 6 3 Qa/\FS ["room","one","other","count","here","there","k","later","left","right"] ["room","one","other"] (top 73)/\BV l.prog w K mg base "_law_line" 4 3 Gn/\FS ["room","count","joined","other","one"] ["room"] (top 77)/\BV l.prog w K mg base "_law_joined" 5 1 QX/\FS ["script","k","room","joined","lines","todo","one","other","some","at"] ["script","k","room"] (top 78)/\BV l.prog w K mg base "_law_drawn_cut" 6 3 QV/\FS ["lines","how","cell","number","found","pair","one","other"] ["lines","how","cell","number"] (top 81)/\BV l.prog w K mg base "_law_hurt" 1 4 NZ/\FS ["corners"] ["corners"] (top 21)/\BV l.prog w K mg base "all_near" 1 1 NS/\FS ["one","other","third"] ["one","other","third"] (top 8)/\BV l.prog w K mg base "turn" 1 3 Ej/\FS ["corners"] ["corners"] (top 22)/\BV l.prog w K mg base "all_bend" 2 1 QO/\FS ["corners"] ["corners"] (top 24)/\BV l.prog w K mg base "walls_of" 1 1 Hr/\FS ["count","one","other"] ["count","one","other"] (top 23)/\BV l.prog w K mg base "are_neighbours" 1 3 Hm/\FS ["way","other","start_side","end_side"] ["way","other"] (top 10)/\BV l.prog w K mg base "parts" 2 2 La/\FS ["point","way","start","end","in_width","in_height"] ["point","way"] (top 9)/\BV l.prog w K mg base "lies_on" 2 2 F7/\FS ["way","other","touches_way","touches_other"] ["way","other"] (top 11)/\BV l.prog w K mg base "meet" 3 2 Hq/\FS ["corners","walls","k","m"] ["corners"] (top 25)/\BV l.prog w K mg base "walls_keep_apart" 4 1 Qe/\FS ["corners"] ["corners"] (top 26)/\BV l.prog w K mg base "doubled_area" 2 1 QS/\FS ["room"] ["room"] (top 18)/\BV l.prog w K mg base "is_room" 5 1 QU/\FS ["room"] ["room"] (top 20)/\DV l.prog w K mg base "check_room" 6 1 E5 FW/\FS ["lines"] ["lines"] (top 36)/\BV l.prog w K mg base "rises" 1 1 Qd/\FS ["way","point","start_above","end_above","side"] ["way","point"] (top 12)/\BV l.prog w K mg base "passes_right_of" 2 2 Nc/\FS ["walls","point","passed"] ["walls","point"] (top 27)/\BV l.prog w K mg base "place_within" 3 2 Qc/\FS ["corners","way","doubled","middle"] ["corners","way"] (top 28)/\BV l.prog w K mg base "middle_is_inside" 4 2 Qb/\FS ["room","one","other","way","far_walls"] ["room","one","other"] (top 19)/\BV l.prog w K mg base "has_line" 5 3 NV/\FS ["one","other"] ["one","other"] (top 37)/\BV l.prog w K mg base "cross" 1 2 NT/\FS ["line","lines"] ["line","lines"] (top 38)/\BV l.prog w K mg base "crosses_none" 2 2 QQ/\FS ["room","lines"] ["room","lines"] (top 35)/\BV l.prog w K mg base "cuts_up" 6 2 NU/\FS ["room","lines"] ["room","lines"] (top 31)/\DV l.prog w K mg base "is_cut" 7 2 QT dO/\FS ["line","other"] ["line","other"] (top 74)/\BV l.prog w K mg base "_law_cross" 1 2 KD/\FS ["room","lines","k"] ["room","lines"] (top 76)/\BV l.prog w K mg base "_law_is_cut" 5 2 QW/\FS ["room","lines"] ["room","lines"] (top 33)/\DV l.prog w K mg base "check_cut" 7 2 E4 E9/\FS ["room","lines"] ["room","lines"] (top 32)/\DV l.prog w K mg base "triangles" 8 2 VH VX/\FS ["room","lines"] ["room","lines"] (top 44)/\DV l.prog w K mg base "dyes" 8 2 U7 VU/\FS ["room","lines"] ["room","lines"] (top 45)/\DV l.prog w K mg base "keepers" 8 2 U9 VV/\FS ["room","lines","point","found","standing","triangle"] ["room","lines","point"] (top 46)/\DV l.prog w K mg base "seen" 8 3 VG VW/\FS ["room","lines","line"] ["room","lines","line"] (top 52)/\DV l.prog w K mg base "turned" 8 3 VI VY/\FS ["room","one","other","told","now","ear","unwanted"] ["room","one","other"] (top 53)/\DV l.prog w K mg base "way" 8 3 Qf Qr/\FS ["room","lines","good","how"] ["room","lines","good","how"] (top 82)/\DV l.prog w K mg base "_law_asked" 9 4 NY Nk/\FS ["e","told"] ["e"] (top 80)/\Nh l.prog w K mg base "_law_which" 1 QN/\FS ["room","lines","good","how","which","e"] ["room","lines","good","how"] (top 83)/\DV l.prog w K mg base "_law_met" 10 4 LY dP/\FS ["script","room","good","lines","handed","found","due","how"] ["script"] (top 84)/\Co l.prog w K mg base Dv 11 fa fd ["script"] (LI K 1 NW)/\True:=by
  have zm:∃C,C8 K "NoCut" C/\OwnCls "NoCut" C [.type "ValueError",.type "Exception",.type "BaseException",.type "object"] "ValueError.__new__" mg base:=⟨_,GI,oz KB mm tU⟩
  iterate 98
   refine dX ?_ λsc=>?_
   .first
     |exact M7 AAD ⟨[_],rfl,rfl⟩|exact M7 AAD ⟨[_,_],rfl,rfl⟩|exact M7 AAD ⟨[_,_,_],rfl,rfl⟩|exact M7 AAD ⟨[_,_,_,_],rfl,rfl⟩
     |refine gG (OA X G AAE) sc λhr hu Om Sg hc=>?_
     |refine gY (OA X G AAE) sc λhr hu Om Sg hc=>?_
     |refine gW (OA X G AAE) sc λhr hu hc=>?_
     |refine gL F sc λhr hu Om Sg hc=>?_
    repeat' first|(show _=_;first|exact rfl|exact ZK _|exact TF|exact ln2|exact TH|exact Y0|assumption|decide|with_unfolding_all rfl)|(show _\/_;first|exact Or.inl rfl|exact Or.inr rfl|exact Or.inr<|Or.inl rfl)|(show PX _ _ _;first|apply rO|apply qx|apply q0|apply qi (Fn.of (by first|assumption|exact DV.toG AAE) hr)|apply rL|apply qf|apply q8|apply rM|apply rB|apply qh|apply ql|apply rA|apply qm|apply qq|apply rC|apply qg|apply rG|apply rF|apply qj|apply qk|apply rH|apply rJ|apply qv|apply rK|apply rD|apply rE|apply q9|apply qt|apply qu|apply qz|apply qp|apply qo|apply qw|apply qr|apply Ip (fH hc) og AAE eK|apply Ip (fG hc) oa AAE eJ|apply Ip eY oV AAE dz|apply Ip fK oh AAE eM|apply rN fF oZ AAE eI|apply Ip (eZ hc) oW AAE eC|apply Ip (fL hc) om AAE eO|apply Ip (ee hc) oX AAE eE|exact Z1 (L:=["NoCut"]) (y:=.ref _) _ AAE (λ_ z=>z) (o9 AAE) AAE|exact Z1 (L:=["NoCut"]) (y:=.ty "ValueError") _ AAE (λ_ z=>z) (o8 (T:="ValueError") AAE AAD) AAE)|(show Cb _ _ _;first|apply Zb|apply o3|apply o4|apply M6|apply Tz)|(show DF _ _ _;first|apply sr|apply sy|apply sk|apply so|apply tD|apply tE)|(show CG _ _ _ _ _;first|apply sX|apply sW|apply sN|apply sD|apply sC|apply se|apply rg|apply sJ|apply sE|apply sZ|apply sY|apply r9|apply sO|apply sj|apply sM|apply sL|apply rh|apply sT|apply sS|apply sG|apply si)|(show DX _ _ _ _ _;first|apply rm|apply sI|apply sH)|(show Gu _ _ _;first|apply tG|apply tH|apply tI|apply tJ)|(show Gv _ _ _ _ _ _;first|apply tL AAE hr|apply tN|apply tS|apply tT|apply tO)|(show FU _ _ _ _ _ _;first|apply tQ|apply tR|apply tM|apply tP)|(show Hv _ _ _ _ _;first|apply rV|apply rT|apply rW)|(show KL _ _ _;first|apply rZ|apply rf)|(show KJ _ _ _;first|apply rX|apply rY)|(show KI _ _ _;first|apply rR|apply rS)|(show GC _ _ _;first|apply rP|apply rQ)|(show Lc _ _;first|apply jO|apply jP)|(show JH _ _;first|apply jM|apply jN)|(show Cj _ _ _;first|exact fZ|exact fX hu|exact fh|exact fg|exact fj hu|exact fo|exact ff|exact fq Sg|exact fi Om|exact fY Om)|(show F6 _ _ _ _ _;first|exact D8 sc rfl rfl (Nb:=["wall"]) AAD|exact D8 sc rfl rfl (Nb:=["x","y"]) AAD|exact D8 sc rfl rfl (Nb:=["corner"]) AAD|exact D8 sc rfl rfl (Nb:=["j","count"]) AAD|exact D8 sc rfl rfl (Nb:=["k","lines"]) AAD|exact D8 sc rfl rfl (Nb:=["wall","way"]) AAD|exact D8 sc rfl rfl (Nb:=["k","corners"]) AAD|exact D8 sc rfl rfl (Nb:=["line","room"]) AAD|exact D8 sc rfl rfl (Nb:=["wall","point"]) AAD|exact D8 sc rfl rfl (Nb:=["other","line"]) AAD|exact D8 sc rfl rfl (Nb:=["x","y","slant"]) AAD|exact D8 sc rfl rfl (Nb:=["j","lines","k"]) AAD|exact D8 sc rfl rfl (Nb:=["a","b","x","y"]) AAD|exact D8 sc rfl rfl (Nb:=["a","b","xs","ys"]) AAD|exact D8 sc rfl rfl (Nb:=["j","joined","one","other"]) AAD)|(show List.Nodup _;first|exact sc.nd|decide|(dsimp only[CI];decide +kernel))|assumption|decide|exact TF|exact ln2|exact TH|exact Y0|exact ZK _|exact PassesOwn.never|exact o7 λ_ _ z=>z|exact Sx|exact uK|exact PySem.F.excBase_ValueError|exact uR hr|(intro;first|rfl|skip)
  trivial
 iterate 97 (replace H:=H.2)
 exact H.1.imp λvs H Q E h=>vH h
theorem walk{l:W.OpenLaw}{q:Program}{loose:List Str}{XP:(Str->Option Value)->Heap->Prop}{YP:World->Heap->Prop}{d:DefRec}{K:Params->W.Frag}(hn:l.most=some 63)(MC:d.params.defaults=[]) (hY:∀(w:World)(h:Heap),YP w h->(K w.params).In h) (F:∀(w:World)(mg:Str->Option Value)(fa:Addr)(h:Heap),(K w.params).In h->h.Ns mainGlobals mg->mg d.name=some (.ref fa)->
  ∃fd:FuncData,(∀(s:Shared)(u:Value),BindsTo s fd ⟨[u],[]⟩ [("script",u)])/\∀base:Heap,(K w.params).In base->base.Ns mainGlobals mg->Co l.prog w (K w.params) mg base Dv 11 fa fd ["script"] (Pz<|K w.params)) :
 W.WalkO q loose XP YP l.row.toRowW d [] (λf vs=>PySem.call f vs):=
 L2.xF (n:=63) (k:=11) (x:="script") (CX:=λ_=>Dv) (sp:=λw=>Pz<|K w.params) hn AAC MC ⟨rfl,AAC,AAC⟩ hY F (λ_ _ a ns hl _ hS=>⟨a,ns,rfl,hS,hl,λ_=>rfl⟩) λ_ _ _ _ _ z=>z
end L2.K
end
namespace PySem.W.Fast
def tw9310456339234071105:=0
def tw17835486566697004915:=0
def tw31357666778025333:=0
def tw6457684473892391822:=0
def tw854861835914083437:=0
def tw15005110359799585725:=0
def tw10347450227434773550:=0
def tw14337350029936941881:=0
def tw4105757182843576827:=0
def tw15954172459613338003:=0
def tw6276152244862639137:=0
def tw14595013465986815295:=0
def tw15376883182724870312:=0
def tw11719173755491862537:=0
def tw8456489932086546381:=0
def tw7978888747948553366:=0
def tw8911637007891329098:=0
def tw16227941177320573258:=0
def tw2974781812112660449:=0
def tw3928518555687714121:=0
def tw14353695627288089573:=0
def tw12057540411634449006:=0
def tw16913963830829493572:=0
def tw16314083787092686071:=0
def tw1142212734581798806:=0
def tw6607226600213403872:=0
def tw2009627395008022935:=0
def tw3470710224749260350:=0
def tw5711788627511318960:=0
def tw9260610243851714345:=0
def tw9595057117288168625:=0
def tw2662002385970734115:=0
def tw15803820509259602668:=0
def tw7081140255627801702:=0
def tw13409731313387994378:=0
def tw11954668303442133940:=0
def tw1409327355694231648:=0
def tw14169775962693591151:=0
def tw9924694131039202529:=0
def tw12573880855291850987:=0
def tw11337634577391736507:=0
def tw17627741703830424837:=0
def tw5502830204420362753:=0
def tw5107582906395247442:=0
def tw1996379014421058855:=0
def tw16851087624153936370:=0
def tw11510345039919257731:=0
def tw12175556721686771682:=0
def tw16508802254195918589:=0
def tw16513560660200202633:=0
def tw12890642542512648262:=0
def tw3228271704377062198:=0
def tw8021189307433828170:=0
def tw6724062086240914803:=0
def tw14898137047914852245:=0
def tw8406955742423464683:=0
def tw15526582856867413996:=0
def tw7678378065663016877:=0
def tw1857614431929489701:=0
def tw11858809601068491785:=0
def tw9673364872451015824:=0
def tw3124819003890829757:=0
def tw14757831870525471636:=0
def tw14355176000711058144:=0
def tw226456561040121676:=0
def tw1577120102449586902:=0
def tw12534774796183708843:=0
def tw13109479812950018799:=0
def tw1439358644471081511:=0
def tw3510775997158485550:=0
def tw16773665540612054664:=0
def tw12434722534460945599:=0
def tw2525783795019848266:=0
def tw6082500924179564030:=0
def tw3160831412623083518:=0
def tw663480331208962099:=0
def tw6177798085165152314:=0
def tw17028733584624290193:=0
def tw2994463905760779507:=0
def tw2815813406904986096:=0
def tw5473094066911645732:=0
def tw16397816558167880109:=0
def tw14143611753669235418:=0
def tw5446975229656816422:=0
def tw9956280320210186034:=0
def tw9065975507642746879:=0
def tw15045304695502974606:=0
def tw9048067782840576605:=0
def tw16801774904932356499:=0
def tw706749306123491680:=0
def tw10948804047863755143:=0
def tw4665153999694648526:=0
def tw2046951974060692861:=0
def tw6845037602122163973:=0
def tw2534242263597317771:=0
def tw3654825681426255125:=0
def tw6123812211814634831:=0
def tw17026396012413572443:=0
def tw16794332583000881068:=0
def tw13135563454642838218:=0
def tw770465979695355494:=0
def tw11872358863425321225:=0
def tw1281925077201350232:=0
def tw14762094968134644207:=0
def tw6597055696189217866:=0
def tw8553753408757689970:=0
def tw10426163261251206100:=0
def tw15646106076048765315:=0
def tw4297249188714730883:=0
def tw9406253733691201798:=0
def tw15295047725497199146:=0
def tw12622643643925951016:=0
def tw3813469377511372447:=0
def tw15488374566422154041:=0
def tw6199251087587306470:=0
def tw15361033705394336976:=0
def tw1194175258739042467:=0
def tw7719909500194507382:=0
def tw3772114127424913008:=0
def tw4505620357675220448:=0
def tw16438056535978191416:=0
def tw10122153231121827592:=0
def tw3547597430675234628:=0
def tw17136885145407961538:=0
def tw3200067092051787763:=0
def tw13153939392075938707:=0
def tw17796188177043021400:=0
def tw16975689424551461616:=0
def tw13855460980238607934:=0
def tw11626032215761808382:=0
def tw12069094039434370402:=0
def tw2739194893600836518:=0
def tw4884089902106233150:=0
def tw11378613080986421953:=0
def tw13575126000789555550:=0
def tw16818785066409810195:=0
def tw11936676059190393138:=0
def tw15467500911887323375:=0
def tw13246027511445244618:=0
def tw17074144424849638907:=0
def tw15772152898951451735:=0
def tw7231250969047371683:=0
def tw9489070088391736077:=0
def tw2681013206515066745:=0
def tw9958225137598261280:=0
def tw7145892913933586359:=0
def tw7800196055658307637:=0
def tw486939140005926723:=0
def tw10263228904716516126:=0
def tw5108022185521144007:=0
def tw4334182841192046796:=0
def tw1411143438410448988:=0
def tw2671520496411563701:=0
def tw5189361969341265666:=0
def tw3822287248756900836:=0
def tw5395770183776572519:=0
def tw12169471260550312356:=0
def tw6253363006645814004:=0
def tw16841008375199439574:=0
def tw928782057547021768:=0
def tw18190659848672613375:=0
def tw2927378183242375400:=0
def tw15511755610431199247:=0
def tw16842449049873913510:=0
def tw8380579955159834159:=0
def tw18081011821683975403:=0
def tw13157979457679956813:=0
def tw18093684935155198406:=0
def tw13384271127986541983:=0
def tw11117915638465986101:=0
def tw2108408900834659811:=0
def tw11619281818120950223:=0
def tw1885966191849361325:=0
def tw23577211325032795:=0
def tw13205772705621020531:=0
def tw6630942159135621030:=0
def tw3984869746347923975:=0
def tw17510109974255080775:=0
def tw17010690625151488560:=0
def tw13642522617630677795:=0
def tw11135438429072259440:=0
def tw911744245931959576:=0
def tw13413688173769313392:=0
def tw10592447904754820821:=0
def tw1240570014000070066:=0
def tw4426477904323152706:=0
def tw2310095816290299694:=0
def tw13807806712899553091:=0
def tw1374826210665025790:=0
def tw83864048202246462:=0
def tw16203088199648395663:=0
def tw6824354304825255456:=0
def tw13351420350315455495:=0
def tw7627995875342362586:=0
def tw6646595967954347287:=0
def tw15691506225979978970:=0
def tw17426295309681307786:=0
def tw9713647143328405548:=0
def tw5477227035508082367:=0
def tw17199347565960068007:=0
def tw466134563357245721:=0
def tw15202005370365583178:=0
def tw16355244113417511747:=0
def tw14883392762004550557:=0
def tw6233285364762387494:=0
def tw1985596738998018259:=0
def tw9677111587008122777:=0
def tw4372737849023371010:=0
def tw17806451385535757793:=0
def tw9550239388899840394:=0
def tw3037203794279747539:=0
def tw13280943499921825783:=0
def tw2763471752373042296:=0
def tw17152492512638543710:=0
def tw15225219122673713555:=0
def tw169122017276687887:=0
def tw8681616875439095311:=0
def tw5883309601959710587:=0
def tw2882479687576103159:=0
def tw2631602768188144503:=0
def tw12369205940524190828:=0
def tw2416778579856939301:=0
def tw18094788355348030070:=0
def tw16028803167942583211:=0
def tw323694000714092734:=0
def tw9063540967466409077:=0
def tw9038507236975374497:=0
def tw16567591755282092894:=0
def tw14242886188759858500:=0
def tw2668121783545382798:=0
def tw13409651786812783025:=0
def tw11607242449044163030:=0
def tw9976499013164838512:=0
def tw181907325833939882:=0
def tw175269718078308864:=0
def tw1204371070950988079:=0
def tw10223731011929225244:=0
def tw2341469595038091009:=0
def tw12658181096451576234:=0
def tw15953538408607708645:=0
def tw12858053846415114425:=0
def tw7138850143691555008:=0
def tw14719873626349563486:=0
def tw10578252821110000380:=0
def tw7367529074801825909:=0
def tw15211826501498656604:=0
def tw14799085267941569833:=0
def tw10048698289934696073:=0
def tw16898201444803390574:=0
def tw7265401232557814736:=0
def tw14036511129440339854:=0
def tw8780289593502083774:=0
def tw7214808189315174039:=0
def tw2832403509011621567:=0
def tw206694713054292795:=0
def tw1398312653321039063:=0
def tw1229329329210630530:=0
def tw15498116841487444363:=0
def tw7182729394964131781:=0
def tw6889771191743794506:=0
def tw1496647268736212241:=0
def tw10995188847090560621:=0
def tw692966237244915696:=0
def tw17065207224909340515:=0
def tw6871708180150858065:=0
def tw18411449295614820086:=0
def tw15833377087965024212:=0
def tw12398965617755088121:=0
def tw10217107706741293054:=0
def tw14008782157433032396:=0
def tw13151552270880084839:=0
def tw639076822799344618:=0
def tw3988663929660267404:=0
def tw5255378560002021260:=0
def tw4039282670230519926:=0
def tw4695024054575970445:=0
def tw8140311913261882685:=0
def tw10083923179372158060:=0
def tw8886422387555424423:=0
def tw3687893135179443139:=0
def tw9765824027662923516:=0
def tw3633816413832634806:=0
def tw8630127081045512716:=0
def tw9922366389167168260:=0
def tw1712730275809665448:=0
def tw16311520853779050374:=0
def tw1790079234099085867:=0
def tw9864134325892699330:=0
def tw12461730890266324630:=0
def tw1489395537485101384:=0
def tw17523276359962744675:=0
def tw9462488841823007195:=0
def tw315230382758607261:=0
def tw16775962648021539742:=0
def tw13872599290581932120:=0
def tw13468904333301915825:=0
def tw11433179997082252310:=0
def tw7468300040083780376:=0
def tw5571026255678709111:=0
def tw18341678915654782188:=0
def tw1322654819643555319:=0
def tw12852561000927609822:=0
def tw11581508152562982108:=0
def tw9032086236862331059:=0
def tw13425441369670440650:=0
def tw10374845667175073927:=0
def tw1376648342702485081:=0
def tw11127169142385236376:=0
def tw1276288483171809165:=0
def tw3028312604076269939:=0
def tw179895383290494441:=0
def tw1440434840153556836:=0
def tw18115131068943429098:=0
def tw16322907761089057630:=0
def tw13518558805775831477:=0
def tw10510077600624728829:=0
def tw6037400260673608209:=0
def tw5846653097362423871:=0
def tw451855680667327263:=0
def tw3510078672775591086:=0
def tw1846996199836173341:=0
def tw13665795433364203493:=0
def tw4931238940981495006:=0
def tw8794738962640223934:=0
def tw7273242130748325849:=0
def tw3755831199952334655:=0
def tw17943344685359672192:=0
def tw1177025377969326835:=0
def tw10602419585466730529:=0
def tw7588180132233752443:=0
def tw5554430873102714522:=0
def tw7048045631784258710:=0
def tw3631225542214020678:=0
def tw18158239259899665600:=0
def tw14348101205585996735:=0
def tw14269248784067451976:=0
def tw7147787375999606421:=0
def tw5542960331199069365:=0
def tw15583853254971330833:=0
def tw15292402056774621175:=0
def tw14113639089623566966:=0
def tw10510875340419486437:=0
def tw9894558636823569315:=0
def tw9832165458243977008:=0
def tw964580286890502047:=0
def tw9256641930082122362:=0
def tw9106095674755887350:=0
def tw9083426898121050842:=0
def tw8632413687057983259:=0
def tw8529076273988226363:=0
def tw8405292216872586913:=0
def tw8291809135263765812:=0
def tw8242297237072587537:=0
def tw8181248046146573843:=0
def tw8175623370641423822:=0
def tw8148831878733403472:=0
def tw8106891915996136716:=0
def tw7883920977869474375:=0
def tw750881174977028477:=0
def tw7479643322920919463:=0
def tw7393289265435390319:=0
def tw7221854521796757923:=0
def tw7129269923437769349:=0
def tw6882464213368909062:=0
def tw6793836625600054204:=0
def tw6752815416092504942:=0
def tw674822580062372257:=0
def tw6673040308990176635:=0
def tw6583472393020866322:=0
def tw6453149758007323673:=0
def tw6395038630907305001:=0
def tw6271412398276311999:=0
def tw620671529411694822:=0
def tw5993362609911053120:=0
def tw5952996116624658541:=0
def tw5688524173426638319:=0
def tw5644267863279755768:=0
def tw5579523582506641546:=0
def tw5477264746947433305:=0
def tw5427093670975257861:=0
def tw5210864230951687697:=0
def tw5062523344435141939:=0
def tw4925571736279295355:=0
def tw4855948282700239190:=0
def tw4822780434434896289:=0
def tw4688282817103663468:=0
def tw4441015590720493975:=0
def tw4374007859803921231:=0
def tw4244850841142226910:=0
def tw4119326688575899960:=0
def tw3921934350807669190:=0
def tw3883716862462559704:=0
def tw348902559584836382:=0
def tw3481291343631861633:=0
def tw3461279078868606113:=0
def tw3452432944949766911:=0
def tw3428660335278994596:=0
def tw3160957550126721535:=0
def tw3126478380808781299:=0
def tw3004475688853153215:=0
def tw2963731734051563573:=0
def tw2643820140881582685:=0
def tw2053132757234799800:=0
def tw2035384603618392491:=0
def tw2008005369847731940:=0
def tw190140870326138838:=0
def tw18334199426570639922:=0
def tw17998383456876552081:=0
def tw17968105331734938081:=0
def tw17910140581560834771:=0
def tw17788076602334820774:=0
def tw17719263802783764784:=0
def tw17549243976291509195:=0
def tw17401650402679859543:=0
def tw1708519150029554267:=0
def tw16804235235693592032:=0
def tw16413421919906282914:=0
def tw16296204819176920430:=0
def tw16237516542569882378:=0
def tw16175405856744340163:=0
def tw16153285191223639231:=0
def tw15927201696050924586:=0
def tw15727122136348456926:=0
def tw15623596838069206910:=0
def tw1559162374347177891:=0
def tw15425367828670412665:=0
def tw14994053705093116909:=0
def tw1494989665230471344:=0
def tw14859721446145340747:=0
def tw14471092805647276841:=0
def tw14377845428585101261:=0
def tw14271607639437378646:=0
def tw14094432419208001787:=0
def tw14069199253821997366:=0
def tw14002729360723469113:=0
def tw13803461911092747161:=0
def tw13041479516966338190:=0
def tw12724221623917218164:=0
def tw12443661309097888427:=0
def tw12259841497505976593:=0
def tw12241131284753934812:=0
def tw12187838015117313657:=0
def tw12158928083626801640:=0
def tw12093277169564868327:=0
def tw11945691251010541528:=0
def tw11938034916081907432:=0
def tw11680262391889850845:=0
def tw11562762430998840174:=0
def tw11546907362472837043:=0
def tw11511439943484752716:=0
def tw11328122003080171862:=0
def tw11004687277730067105:=0
def tw10918150374505858989:=0
def tw10757000807090107632:=0
def tw10604075416562998984:=0
def tw10408276114346017439:=0
def tw1038005698378304910:=0
def tw10310132032320416549:=0
def tw10127105560639790016:=0
def tw1005565902610826529:=0
end PySem.W.Fast
open PySem PySem.W PyProof.Rows
set_option maxRecDepth 100000 in
set_option maxHeartbeats 0 in
theorem PySem.Challenge.cw_threewards_k07_cuts_looked_at_holds : PySem.Challenge.rw_threewards_k07_cuts_looked_at.Holds := by
  w_on; o_law; k_head; (case hw => w_witness2)
  k_fill
  refine L2.K.walk (l := PySem.Challenge.rw_threewards_k07_cuts_looked_at) rfl rfl (fun w h Y => PySem.W.kIn_of Y) ?F
  case F =>
    intro w mg fa h KX G hmg
    refine' L2.K.all_mk KX G hmg ..
    all_goals try first | ((refine' L2.K.dcs (L2.PL.dmk ?a ?b ?c ?d) ?_; (case a => k_is); (case b => k_is); (case c => k_is); (case d => k_is)); (repeat (refine' L2.K.dcs (L2.PL.dmk ?a ?b ?c ?d) ?_; (case a => k_is); (case b => k_is); (case c => k_is); (case d => k_is))); exact L2.K.dnl) | k_is | (refine' L2.PL.dmk ?a ?b ?c ?d; (case a => k_is); (case b => k_is); (case c => k_is); (case d => k_is)) | (refine' ⟨?_, ?_⟩; k_is; k_exc) | exact rfl | (refine' ⟨?_, ?_⟩; k_is; refine' ⟨?_, ?_⟩; k_is; refine' ⟨?_, ?_⟩; k_is; refine' ⟨?_, ?_⟩; k_is; refine' ⟨?_, ?_⟩; k_is; refine' ⟨?_, ?_⟩; k_is; refine' ⟨?_, ?_⟩; k_is; refine' ⟨?_, ?_⟩; k_is; refine' ⟨?_, ?_⟩; k_is; refine' ⟨?_, ?_⟩; k_is; refine' ⟨?_, ?_⟩; k_is; refine' ⟨?_, ?_⟩; k_is; refine' ⟨?_, ?_⟩; k_is; refine' ⟨?_, ?_⟩; k_is; trivial)
