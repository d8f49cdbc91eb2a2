import PyProof.Rows.All
import Wide.All
import OpenK.AllK
import Wide.FinOn
import Lean
import PyProof.EqAt
import PyProof.EqKinds
import PyProof.TupleCall
import PyProof.CompFree
import PyProof.CompUse
import PySem.SetOps
import PyProof.SetScanFacts
import PyProof.TupleKey
import PyProof.SetKind
import PyProof.Rows.SetFrom
import PyProof.IsRules
import PyProof.P3Eq
import PyProof.NeKinds
import KE.KSortTup
import KE.KTupSum
import PySem.Challenge.RW_threewards_k11_lines_turned
set_option Elab.async false
set_option linter.all false
set_option maxRecDepth 100000
set_option compiler.extract_closed false
set_option bootstrap.genMatcherCode false
namespace Internal
noncomputable section
theorem U{p:Prop}(h:p:=by first|with_reducible(first|assumption|exact Int.le_of_lt (by assumption)|exact Nat.le_of_lt (by assumption)|exact Int.ne_of_gt (by assumption)|exact Int.ne_of_lt (by assumption))|lia):p:=h
theorem AAb{p:Prop}(h:p:=by grind):p:=h
theorem AAc{p:Prop}(h:p:=by omega):p:=h
theorem AAd{p:Prop}(h:p:=by simp):p:=h
theorem AAe{p:Prop}(h:p:=by decide):p:=h
theorem AAf{p:Prop}(h:p:=by decide +kernel):p:=h
theorem AAg{p:Prop}(h:p:=by assumption):p:=h
def AAh:=@Int.emod_eq_of_lt
def AAi:=@List.length_map
def AAj:=@if_neg
def AAk:=@Bool.and_eq_true
def AAl:=@if_pos
def AAm:=@Int.le_of_lt
def AAn:=@List.getElem?_eq_some_iff
def AAo:=@Int.mul_nonneg
def AAp:=@Int.mul_eq_zero
def AAq:=@Int.mul_pos
def AAr:=@List.mem_range
def AAs:=@List.mem_cons_of_mem
def AAt:=@Int.mul_nonpos_of_nonneg_of_nonpos
def AAu:=@List.mem_cons_self
def AAv:=@Int.mul_le_mul_of_nonneg_left
def AAw:=@Nat.le_refl
def AAx:=@List.map_cons
def AAy:=@List.mem_cons
def AAz:=@Int.toNat_of_nonneg
def AA0:=@Nat.ne_of_lt
def AA1:=@List.getElem?_eq_getElem
def AA2:=@List.getElem?_set_ne
def AA3:=@Int.emod_lt_of_pos
def AA4:=@List.size_toArray
def AA5:=@Int.mul_le_mul_of_nonneg_right
def AA6:=@List.length_cons
def AA7:=@beq_eq_false_iff_ne
def AA8:=@Nat.lt_of_lt_of_le
def AA9:=@List.mem_singleton
def ABA:=@List.length_append
def ABB:=@Int.lt_or_gt_of_ne
def ABC:=@Int.emod_nonneg
def ABD:=@List.mem_map
def ABE:=@Option.bind_some
def ABF:=@Option.some.inj
def ABG:=@Int.add_zero
def ABH:=@List.getElem?_append_left
def ABI:=@Int.emod_emod_of_dvd
def ABJ:=@Bool.not_eq_true'
def ABK:=@List.all_eq_true
def ABL:=@List.getElem?_append_right
def ABM:=@List.mem_append
def ABN:=@Bool.or_eq_false_iff
def ABO:=@List.map_map
def ABP:=@Array.getElem?_eq_getElem
def ABQ:=@List.map_append
def ABR:=@Int.zero_mul
def ABS:=@Prod.ext
def ABT:=@Option.some.injEq
def ABU:=@Int.lt_trichotomy
def ABV:=@List.pairwise_iff_getElem
def ABW:=@List.getD_eq_getElem?_getD
def ABX:=@Ne.symm
def ABY:=@List.mem_append_right
def ABZ:=@Array.length_toList
def ABa:=@Classical.byContradiction
def ABb:=@Bool.or_eq_true
def ABc:=@List.any_cons
def ABd:=@List.length_range
def ABe:=@Nat.le_trans
def ABf:=@Int.mul_zero
def ABg:=@List.mem_filter
def ABh:=@List.length_singleton
def ABi:=@Option.map_some
def ABj:=@Int.not_le
def ABk:=@PySem.mem_of_lookup
def ABl:=@Int.add_mul_emod_self_left
def ABm:=@List.getElem?_map
def ABn:=@Int.mul_nonneg_of_nonpos_of_nonpos
def ABo:=@Int.le_of_mul_le_mul_left
def ABp:=@Int.le_refl
def ABq:=@decide_eq_true
def ABr:=@decide_eq_false
def ABs:=@List.append_nil
def ABt:=@Int.zero_add
def ABu:=@List.getElem?_cons_succ
def ABv:=@List.mem_of_getElem?
def ABw:=@beq_iff_eq
def ABx:=@List.pairwise_append
def ABy:=@Int.dvd_refl
def ABz:=@Int.sub_emod
def AB0:=@Int.mul_nonpos_of_nonpos_of_nonneg
def AB1:=@Array.getElem?_toList
def AB2:=@Int.le_total
def AB3:=@Int.add_emod
def AB4:=@PySem.W.kia_one
def AB5:=@Bool.eq_iff_iff
def AB6:=@List.nil_append
def AB7:=@Bool.false_ne_true
def AB8:=@Int.mul_lt_mul_of_pos_right
def AB9:=@List.getElem?_replicate
def ACA:=@List.mem_append_left
def ACB:=@List.lookup_cons
def ACC:=@Int.sub_self
def ACD:=@List.any_eq_false
def ACE:=@congrArg
def ACF:=@List.length_nil
def ACG:=@Int.eq_of_mul_eq_mul_left
def ACH:=@Int.mul_ediv_add_emod
def ACI:=@List.cons_append
def ACJ:=@List.pairwise_map
def ACK:=@List.nodup_cons
def ACL:=@List.range_succ
def ACN:=@List.getElem_of_mem
def ACO:=@List.getElem?_set_self
def ACP:=@Nat.zero_le
def ACQ:=@List.length_take
def ACR:=@List.length_replicate
def ACS:=@List.set_cons_zero
def ACT:=@if_true
def ACU:=@List.map_congr_left
def ACV:=@Int.emod_eq_emod_iff_emod_sub_eq_zero
def ACW:=@List.any_map
def ACX:=@Int.mul_comm
def ACY:=@List.length_filter_le
def ACZ:=@Nat.lt_irrefl
def ACa:=@Int.mul_lt_mul_of_pos_left
def ACb:=@Bool.or_false
def ACc:=@List.getElem?_of_mem
def ACd:=@List.drop_eq_getElem_cons
def ACe:=@Int.mul_neg_of_pos_of_neg
def ACf:=@Nat.le_of_lt
def ACg:=@List.getElem_mem
def ACh:=@Int.le_trans
def ACi:=@Int.sub_zero
def ACj:=@List.not_mem_nil
def ACk:=@List.mem_reverse
def ACl:=@List.getElem_append_left
def ACm:=@List.filterMap_cons
def ACn:=@PySem.F.plainAttrs_list
def ACo:=@decide_eq_false_iff_not
def ACp:=@Int.emod_eq_zero_of_dvd
def ACq:=@Int.dvd_of_emod_eq_zero
def ACr:=@Prod.mk.injEq
def ACs:=@List.find?_cons
def ACt:=@Bool.false_eq_true
def ACu:=@Int.mul_emod_right
def ACv:=@List.getElem_cons_succ
def ACw:=@List.length_pos_of_mem
def ACx:=@Int.mul_sub
def ACy:=@Nat.lt_succ_of_lt
def ACz:=@Bool.eq_false_iff
def AC0:=@Nat.lt_trichotomy
def AC1:=@Int.sub_nonneg
def AC2:=@Nat.le_of_ble_eq_true
def AC3:=@PyProof.Rows.callWith_type1
def AC4:=@List.length_drop
def AC5:=@List.mem_of_mem_take
def AC6:=@List.filter_cons
def AC7:=@Array.getElem?_eq_some_iff
def AC8:=@Array.perm_iff_toList_perm
def AC9:=@Int.emod_self
def ADA:=@Bool.beq_comm
def ADB:=@Int.sub_pos
def ADC:=@Prod.mk.inj
def ADD:=@List.countP_eq_zero
def ADE:=@Int.lt_of_mul_lt_mul_left
def ADF:=@Bool.decide_and
def ADG:=@List.mem_filterMap
def ADH:=@if_false
def ADI:=@Nat.lt_of_le_of_lt
def ADJ:=@List.map_nil
def ADK:=@List.pairwise_cons
def ADL:=@PyProof.Rows.F.entry_set_update_loop
def ADM:=@Nat.zero_add
def ADN:=@Int.le_of_eq
def ADO:=@Int.lt_of_le_of_lt
def ADP:=@Int.pos_of_mul_pos_right
def ADQ:=@List.set_cons_succ
def ADR:=@List.any_nil
def ADS:=@List.reverse_cons
def ADT:=@PySem.W.cellsFrom_some
def ADU:=@List.take_of_length_le
def ADV:=@List.filter_eq_nil_iff
def ADW:=@Int.neg_mul
def ADX:=@Int.mul_neg
def ADY:=@List.getElem_inj
def ADZ:=@Array.getElem?_setIfInBounds_ne
def ADa:=@List.of_mem_zip
def ADb:=@List.mem_of_mem_drop
def ADc:=@Int.mul_ne_zero
def ADd:=@Int.mul_le_mul_of_nonpos_left
def ADe:=@List.filter_eq_self
def ADf:=@Bool.false_and
def ADg:=@Int.one_mul
def ADh:=@Int.neg_neg
def ADi:=@List.getElem_range
def ADj:=@List.lookup_append
def ADk:=@List.zip_cons_cons
def ADl:=@Array.getD_eq_getD_getElem?
def ADm:=@Int.add_emod_right
def ADn:=@List.filter_append
def ADo:=@List.perm_append_singleton
def ADp:=@List.take_sublist
def ADq:=@Int.toNat_natCast
def ADr:=@List.foldl_append
def ADs:=@List.getElem?_take_of_lt
def ADt:=@Nat.succ_pos
def ADu:=@List.length_erase_of_mem
def ADv:=@List.nodup_range
def ADw:=@List.filterMap_cons_some
def ADx:=@List.drop_length
def ADy:=@List.all_map
def ADz:=@Bool.or_comm
def AD0:=@or_false
def AD1:=@List.countP_cons
def AD2:=@Int.eq_ofNat_of_zero_le
def AD3:=@List.length_set
def AD4:=@List.cons.injEq
def AD5:=@List.sum_append
def AD6:=@Option.map_eq_some_iff
def AD7:=@Nat.le_succ
def AD8:=@Int.mul_add
def AD9:=@Int.sub_mul
def AEA:=@Int.dvd_neg
def AEB:=@List.nodup_nil
def AEC:=@List.take_append_drop
def AED:=@List.dropLast_eq_take
def AEE:=@List.Perm.refl
def AEF:=@Bool.not_false
def AEG:=@Nat.mod_lt
def AEH:=@bne_iff_ne
def AEJ:=@PySem.W.hideAll_get
def AEK:=@List.getElem?_range
def AEL:=@List.length_reverse
def AEM:=@List.mem_map_of_mem
def AER:=@Nat.le_of_eq
def AET:=@Nat.lt_trans
def AEX:=@Int.lt_or_le
def AEY:=@Int.lt_trans
def AEZ:=@Nat.lt_or_ge
def AEc:=@Bool.not_and
def AEd:=@List.map_id'
def AEk:=@Int.mul_one
namespace L2
open PySem PySem.Spec PyProof.Rows
abbrev Key:=Sum Int Str
noncomputable def LH:Key->Value->Bool
 |.inl k,v=>Value.isInt k v
 |.inr x,v=>Value.isStrOf x v
noncomputable def nh(w:World):Key->Int
 |.inl k=>hashInt k
 |.inr x=>hashStr w x
theorem Hw:∀{k:Key}{v:Value},LH k v=true->(∃i t,k=Sum.inl i/\v=Value.int i t)\/(∃x t,k=Sum.inr x/\v=Value.str x t)
 |.inl i,v,h=>by obtain⟨t,e⟩:=Value.isInt_shape h;exact .inl ⟨i,t,rfl,e⟩
 |.inr x,v,h=>by obtain⟨t,e⟩:=Value.isStrOf_shape h;exact .inr ⟨x,t,rfl,e⟩
theorem nj(i:Int)(t:Tok):LH (.inl i) (.int i t)=true:=by simp[LH,Value.isInt]
theorem nq(x:Str)(t:Tok):LH (.inr x) (.str x t)=true:=by simp[LH,Value.isStrOf]
theorem nr(a b:Int):decide ((Sum.inl a:Key)=Sum.inl b)=(a==b):=by
 by_cases e:a=b
 .subst e;simp
 .have h:¬ (Sum.inl a:Key)=Sum.inl b:=λq=>e<|Sum.inl.inj q;rw[ABr h];exact(AA7.mpr e).symm
theorem ny(a b:Str):decide ((Sum.inr a:Key)=Sum.inr b)=decide (a=b):=by
 by_cases e:a=b
 .simp
 .have h:¬ (Sum.inr a:Key)=Sum.inr b:=λq=>e<|Sum.inr.inj q;simp only[ABr h,ABr e]
theorem nu(a:Int)(b:Str):decide ((Sum.inl a)=Sum.inr b)=false:=ABr λq=>nomatch q
theorem nv(a:Str)(b:Int):decide ((Sum.inr a)=Sum.inl b)=false:=ABr λq=>nomatch q
def FA(prog:Program)(w:World):PySem.KeyKind prog w Key where
 is:=LH
 hash:=nh w
 inj:=λv a b ha hb=>by
  rcases Hw ha with⟨i,t,rfl,rfl⟩|⟨x,t,rfl,rfl⟩
  .rcases Hw hb with⟨j,u,rfl,e⟩|⟨y,u,rfl,e⟩
   .injection e with e1 _;rw[e1]
   .exact nomatch e
  .rcases Hw hb with⟨j,u,rfl,e⟩|⟨y,u,rfl,e⟩
   .exact nomatch e
   .injection e with e1 _;rw[e1]
 byValue:=λk v h=>by rcases Hw h with⟨i,t,rfl,rfl⟩|⟨x,t,rfl,rfl⟩<;>rfl
 pyHash:=λhv h=>by
  rcases Hw hv with⟨i,t,rfl,rfl⟩|⟨x,t,rfl,rfl⟩
  .exact wpAny_pyHash_int h
  .exact wpAny_pyHash_str h
 eqBool:=λhu hv h=>by
  rcases Hw hu with⟨i,t,rfl,rfl⟩|⟨x,t,rfl,rfl⟩
  .rcases Hw hv with⟨j,u,rfl,rfl⟩|⟨y,u,rfl,rfl⟩
   .rw[nr]at h;exact wpAny_eqBool_int h
   .rw[nu]at h;exact SeqAt.EqAt.int_str i t y u _ _ _ _ h
  .rcases Hw hv with⟨j,u,rfl,rfl⟩|⟨y,u,rfl,rfl⟩
   .rw[nv]at h;exact SeqAt.EqAt.str_int x t j u _ _ _ _ h
   .rw[ny]at h;exact wpAny_eqBool_str h
 «strs»:=λk x t v h=>by
  rcases Hw h with⟨i,u,rfl,e⟩|⟨y,u,rfl,e⟩
  .exact nomatch e
  .injection e with e1 _
   subst e1;cases v<;>rfl
theorem om(prog:Program)(w:World)(i:Int)(t:Tok):(FA prog w).is (.inl i) (.int i t)=true:=nj i t
theorem oo(prog:Program)(w:World)(x:Str)(t:Tok):(FA prog w).is (.inr x) (.str x t)=true:=nq x t
inductive V where
 |Au|bl (b:Bool)|int (i:Int)|str (x:Str)|Rk (b:Array UInt8)|Kw (b:UInt64)|ref (a:Addr)|ty (n:String)
def RelV:V->Value->Prop
 |.Au,u=>u=Value.none
 |.bl b,u=>u=Value.bool b
 |.int i,u=>∃t,u=Value.int i t
 |.str x,u=>∃t,u=Value.str x t
 |.Rk b,u=>∃t,u=Value.bytes b t
 |.Kw b,u=>∃t,u=Value.float b t
 |.ref a,u=>u=Value.ref a
 |.ty n,u=>u=Value.type n
abbrev As:List V->List Value->Prop:=Paired RelV
theorem As.length{xs:List V}{us:List Value}(r:As xs us):xs.length=us.length:=Paired.length r
set_option tactic.hygienic false
theorem As.get:∀{xs:List V}{us:List Value}{i:Nat}{x:V},As xs us->xs[i]? = some x->∃u,us[i]? = some u/\RelV x u
 |_,_,_,_,.nil,e=>by simp at e
 |_,_,0,_,.cons r _,e=>by simp at e;subst e;exact⟨_,rfl,r⟩
 |_,_,i+1,x,.cons _ t,e=>by obtain⟨u,h1,h2⟩:=As.get t (by simpa using e);exact⟨u,by simpa using h1,h2⟩
theorem As.append:∀{xs ys:List V}{us ws:List Value},As xs us->As ys ws->As (xs++ys) (us++ws)
 |_,_,_,_,.nil,s=>s
 |_,_,_,_,.cons r t,s=>.cons r<|As.append t s
theorem As.take:∀{xs:List V}{us:List Value}(n:Nat),As xs us->As (xs.take n) (us.take n)
 |_,_,0,_=>.nil
 |_,_,_+1,.nil=>.nil
 |_,_,n+1,.cons r t=>.cons r<|As.take n t
theorem As.drop:∀{xs:List V}{us:List Value}(n:Nat),As xs us->As (xs.drop n) (us.drop n)
 |_,_,0,r=>r
 |_,_,_+1,.nil=>.nil
 |_,_,n+1,.cons _ t=>As.drop n t
def Fh:Option V->Option Value->Prop
 |some v,some u=>RelV v u
 |none,none=>True
 |_,_=>False
def KV{κ:Type}:List (κ×V)->List (κ×Value)->Prop:=Paired λ(p:κ×V)(q:κ×Value)=>p.1=q.1/\RelV p.2 q.2
noncomputable def kV:Key->V
 |.inl i=>.int i
 |.inr x=>.str x
inductive HO where
 |lst (xs:List V)
 |tup (xs:List V)
 |dK (AR:List<|Key×V)|dT (AR:List<|List Key×V)
 |set (S:Int->Bool) (n:Nat)
 |ins (C dx:Addr) (fs:List<|Str×V)
 |own (x:Addr)
 |xd (fs:List<|Str×V)
 |met (f x:Addr)
 |QI (lo hi:Int)
 |D5 (o:Obj) (u:HO)
 |JQ (ps:Array Value)
 |ext (φ:Heap->Prop)
abbrev Hp:=Addr->Option HO
noncomputable def upd(H:Hp)(a:Addr)(o:HO):Hp:=λb=>if b=a then some o else H b
theorem Cu{H:Hp}{a:Addr}{o:HO}:upd H a o a=some o:=by unfold upd;rw[AAl rfl]
theorem BH{H:Hp}{a b:Addr}{o:HO}(h:b≠a):upd H a o b=H b:=by unfold upd;rw[AAj h]
theorem o6{H:Hp}{a b:Addr}{o u:HO}(h:H a=some o)(h':H b=some u)(d:o≠u):a≠b:=by intro e;subst e;rw[h]at h';exact d<|ABF h'
theorem Df{H:Hp}{a b:Addr}{o:HO}(h:H a=some o)(h':H b=none):a≠b:=by intro e;subst e;rw[h]at h';contradiction
section
variable(P:Program)(w:World)
def B1(H:Hp)(h:Heap)(a:Addr):HO->Prop
 |.lst xs=>xs.length<=sizeLine/\∃(its:List Value)(n:Nat),As xs its/\h.get? a=some {cls:=.type "list",data:=.seq its.toArray n}
 |.tup xs=>xs.length<=sizeLine/\∃its:List Value,As xs its/\IsTup h a its.toArray
 |.dK AR=>AR.length<=sizeLine/\(a==sysModules)=false/\∃vs,KV AR vs/\h.DictOf (FA P w) a vs
 |.dT AR=>AR.length<=sizeLine/\(a==sysModules)=false/\∃xs:List<|List Key×Addr×Value,
  Paired (λ(p:List Key×V)(q:List Key×Addr×Value)=>p.1=q.1/\H q.2.1=some (.tup<|p.1.map kV)/\RelV p.2 q.2.2) AR xs/\
  ∃o es ep,h.get? a=some o/\o.ExactDict/\o.data=.dict es ep/\es.toList=xs.map (entryOfKey<|tupleKind<|FA P w)/\(xs.map (·.1)).Nodup
 |.set S n=>h.SetOf (intKind P w) a S n
 |.ins C dx fs=>H dx=some (.own a)/\fs.length<=1000/\dx≠a/\h.get? a=some (PySem.W.instObj C dx)/\
  ∃mA,h.Ns1 dx mA/\(∀f,Fh (fs.lookup f)<|mA f)/\PySem.Within mA (fs.map (·.1))
 |.own _=>∃o,h.get? a=some o
 |.xd fs=>∃mA,h.Ns1 a mA/\∀f,Fh (fs.lookup f)<|mA f
 |.QI lo hi=>∃t u v,h.get? a=some {cls:=.type "range",data:=.fields #[.int lo t,.int hi u,.int 1 v]}
 |.D5 o u=>h.get? a=some o/\B1 H h a u
 |.JQ ps=>h.get? a=some {cls:=.none,data:=.fields ps}
 |.met f x=>h.get? a=some (PySem.W.methodObj (.ref f)<|.ref x)
 |.ext φ=>φ h/\(∃o,h.get? a=some o)/\∀h1 h2:Heap,φ h1->(∀o,h1.get? a=some o->h2.get? a=some o)->φ h2
def Bo(H:Hp)(h:Heap):Prop:=∀a o,H a=some o->B1 P w H h a o
end
section
variable{P:Program}{w:World}{H H':Hp}{h h':Heap}{a:Addr}{o:HO}
theorem B1.lt(x:B1 P w H h a o):a<h.objs.size:=by
 cases o with
 |lst xs=>obtain⟨_,_,_,_,e⟩:=x;exact Heap.lt_size e
 |tup xs=>obtain⟨_,_,_,p⟩:=x;exact p.lt
 |dK AR=>obtain⟨_,_,_,_,o,_,_,e,_⟩:=x;exact Heap.lt_size e
 |dT AR=>obtain⟨_,_,_,_,o,_,_,e,_⟩:=x;exact Heap.lt_size e
 |set S n=>obtain⟨o,_,_,_,e,_⟩:=x;exact Heap.lt_size e
 |ins C dx fs=>obtain⟨_,_,_,e,_⟩:=x;exact Heap.lt_size e
 |own y=>obtain⟨_,e⟩:=x;exact Heap.lt_size e
 |xd fs=>obtain⟨_,⟨_,_,_,e,_⟩,_⟩:=x;exact Heap.lt_size e
 |QI lo hi=>obtain⟨_,_,_,e⟩:=x;exact Heap.lt_size e
 |D5 ob u=>obtain⟨e,_⟩:=x;exact Heap.lt_size e
 |JQ ps=>exact Heap.lt_size (show h.get? a=some _ from x)
 |met f y=>exact Heap.lt_size (show h.get? a=some _ from x)
 |ext φ=>obtain⟨_,⟨_,e⟩,_⟩:=x;exact Heap.lt_size e
theorem Paired.Pn{α β:Type}{F G:α->β->Prop}:∀{l₁:List α}{l₂:List β},Paired F l₁ l₂->(∀a b,F a b->G a b)->Paired G l₁ l₂
 |_,_,.nil,_=>.nil
 |_,_,.cons r t,f=>.cons (f _ _ r)<|Paired.Pn t f
theorem B1.ID(x:B1 P w H h a o)(k:∀b u,(b=a\/H b=some (.own a))->h.get? b=some u->h'.get? b=some u) (ho:∀b,H b=some (.own a)->H' b=some (.own a)) (ht:∀b xs,H b=some (.tup xs)->H' b=some (.tup xs)):B1 P w H' h' a o:=by
 induction o with
 |lst xs=>obtain⟨z,its,n,r,e⟩:=x;exact⟨z,its,n,r,k _ _ (.inl rfl) e⟩
 |tup xs=>obtain⟨z,its,r,ob,e,c⟩:=x;exact⟨z,its,r,ob,k _ _ (.inl rfl) e,c⟩
 |dK AR=>obtain⟨z,y,vs,r,ob,es,ep,e,c⟩:=x;exact⟨z,y,vs,r,ob,es,ep,k _ _ (.inl rfl) e,c⟩
 |dT AR=>
  obtain⟨z,y,xs,r,ob,es,ep,e,c⟩:=x;exact⟨z,y,xs,Paired.Pn r λp q z=>⟨z.1,ht _ _ z.2.1,z.2.2⟩,ob,es,ep,k _ _ (.inl rfl) e,c⟩
 |set S n=>obtain⟨ob,es,ep,t,e,c⟩:=x;exact⟨ob,es,ep,t,k _ _ (.inl rfl) e,c⟩
 |ins C dx fs=>
  obtain⟨d,z,ne,e,mA,⟨od,es,ep,e2,c⟩,r⟩:=x;exact⟨ho _ d,z,ne,k _ _ (.inl rfl) e,mA,⟨od,es,ep,k _ _ (.inr d) e2,c⟩,r⟩
 |own y=>obtain⟨ob,e⟩:=x;exact⟨ob,k _ _ (.inl rfl) e⟩
 |xd fs=>obtain⟨mA,⟨od,es,ep,e,c⟩,r⟩:=x;exact⟨mA,⟨od,es,ep,k _ _ (.inl rfl) e,c⟩,r⟩
 |QI lo hi=>obtain⟨t,u,v,e⟩:=x;exact⟨t,u,v,k _ _ (.inl rfl) e⟩
 |D5 ob u ih=>obtain⟨e,q⟩:=x;exact⟨k _ _ (.inl rfl) e,ih q⟩
 |JQ ps=>
  have e:=x;exact k a _ (.inl rfl) e
 |met f y=>
  have e:=x;exact k a _ (.inl rfl) e
 |ext φ=>obtain⟨p,⟨o,e⟩,st⟩:=x;exact⟨st _ _ p λo q=>k _ _ (.inl rfl) q,⟨o,k _ _ (.inl rfl) e⟩,st⟩
theorem Bo.lt(x:Bo P w H h)(e:H a=some o):a<h.objs.size:=(x a o e).lt
theorem Bo.fresh(x:Bo P w H h)(e:h.objs.size<=a):H a=none:=by
 cases q:H a with
 |none=>rfl
 |some u=>exact absurd (AA8 (x.lt q) e) (ACZ _)
theorem Bo.kept(x:Bo P w H h)(k:∀b u,h.get? b=some u->h'.get? b=some u):Bo P w H h':=λa o e=>
 (x a o e).ID (λb u _ q=>k b u q) (λ_ q=>q) λ_ _ q=>q
theorem Bo.laid(x:Bo P w H h)(k:∀b u,h.get? b=some u->h'.get? b=some u)(hp:h.objs.size<=a)(new:B1 P w (upd H a o) h' a o):Bo P w (upd H a o) h':=λb u e=>by
 have hn:=x.fresh hp;by_cases hb:b=a
 .subst hb;rw[Cu]at e;cases e;exact new
 .rw[BH hb]at e;exact(x b u e).ID (λc v _ q=>k c v q) (λc q=>by rw[BH<|Df q hn];exact q) λc xs q=>by rw[BH<|Df q hn];exact q
end
def Rd(H:Hp)(a:Addr)(u:HO):Prop:=H a=some u\/∃o,H a=some (.D5 o u)
theorem Rd.ok{P:Program}{w:World}{H:Hp}{h:Heap}{a:Addr}{u:HO}(r:Rd H a u)(x:Bo P w H h):B1 P w H h a u:=by
 rcases r with r|⟨o,r⟩
 .exact x a u r
 .obtain⟨_,q⟩:=x a _ r;exact q
def L6:Option HO->Prop
 |some (.lst _)=>True
 |some (.dK _)=>True
 |some (.dT _)=>True
 |some (.set _ _)=>True
 |some (.ins _ _ _)=>True
 |some (.ext _)=>True
 |_=>False
section
variable{P:Program}{w:World}{H:Hp}{h h':Heap}{x e:Addr}{o':HO}
theorem Bo.write(ok:Bo P w H h)(mu:L6<|H x)(he:e=x\/H e=some (.own x))(k:∀b u,b≠e->h.get? b=some u->h'.get? b=some u)(K1:∃u,h'.get? e=some u) (new:B1 P w (upd H x o') h' x o'):Bo P w (upd H x o') h':=λb u q=>by
 have JK:∀c y,H c=some (.own y)->c≠x:=λc y r z=>by subst z;rw[r]at mu;exact mu
 have pH:∀c xs,H c=some (.tup xs)->c≠x:=λc xs r z=>by subst z;rw[r]at mu;exact mu
 by_cases hb:b=x
 .subst hb;rw[Cu]at q;cases q;exact new
 .rw[BH hb]at q;by_cases Jx:b=e
  .have q':H b=some (.own x):=by
    rcases he with z|z
    .exact absurd (Jx.trans z) hb
    .rw[Jx];exact z
   rw[q]at q';cases q';obtain⟨v,hv⟩:=K1;exact⟨v,by rw[Jx];exact hv⟩
  .refine(ok b u q).ID (λc v hc r=>k c v ?_ r) (λc r=>by rw[BH<|JK c b r];exact r) λc xs r=>by rw[BH<|pH c xs r];exact r
   rcases hc with rfl|hc
   .exact Jx
   .rintro rfl;rcases he with z|z
    .exact JK c b hc z
    .rw[hc]at z;cases z;exact hb rfl
end
structure Un(fs ex:List Addr)(H H':Hp)(h h':Heap):Prop where
 keep:∀b o,h.get? b=some o->H b=none->b∉fs->b∉ex->h'.get? b=some o
 slot:∀b o,h.get? b=some o->H b=none->b∈fs->b∉ex->∃sl,h'.get? b=some {o with slots:=sl}
 free:∀b o,h.get? b=some o->H b=none->b∉ex->H' b=none
 there:∀b o,h.get? b=some o->b∉ex->∃o',h'.get? b=some o'
 Dj:∀b xs,H b=some (.tup xs)->H' b=some (.tup xs)
 D6:∀b o u,H b=some (.D5 o u)->H' b=some (.D5 o u)
 Eu:∀b ps,H b=some (.JQ ps)->∃more,H' b=some (.JQ<|ps++more)
section
variable{fs kF ex ex':List Addr}{H H1 H2:Hp}{h h1 h2 h':Heap}{a x e:Addr}{o:HO}
theorem Un.any(u:Un fs ex H H1 h h1){b:Addr}{ob:Obj}(q:h.get? b=some ob)(n:H b=none)(hx:b∉ex):∃sl,h1.get? b=some {ob with slots:=sl}:=by
 by_cases hb:b∈fs
 .exact u.slot b ob q n hb hx
 .exact⟨ob.slots,u.keep b ob q n hb hx⟩
theorem Un.kept(k:∀b u,h.get? b=some u->h'.get? b=some u):Un fs ex H H h h':=
 ⟨λb ob q _ _ _=>k b ob q,λb ob q _ _ _=>⟨ob.slots,k b ob q⟩,λ_ _ _ n _=>n,λb ob q _=>⟨ob,k b ob q⟩,λ_ _ q=>q,λ_ _ _ q=>q,λ_ ps q=>⟨#[],by rw[q];simp⟩⟩
theorem Un.refl:Un fs ex H H h h:=Un.kept λ_ _ q=>q
theorem Un.laid(k:∀b u,h.get? b=some u->h'.get? b=some u)(hp:h.objs.size<=a)(hn:H a=none):Un fs ex H (upd H a o) h h' where
 keep:=λb u q _ _ _=>k b u q
 slot:=λb u q _ _ _=>⟨u.slots,k b u q⟩
 free:=λb u q n _=>by rw[BH<|AA0<|AA8 (Heap.lt_size q) hp];exact n
 there:=λb u q _=>⟨u,k b u q⟩
 Dj:=λb xs q=>by rw[BH<|Df q hn];exact q
 D6:=λb u xs q=>by rw[BH<|Df q hn];exact q
 Eu:=λb ps q=>⟨#[],by rw[BH<|Df q hn,q];simp⟩
theorem Un.write(mu:L6<|H x)(he:e=x\/H e=some (.own x))(k:∀b u,b≠e->h.get? b=some u->h'.get? b=some u)(K1:∃u,h'.get? e=some u):Un fs ex H (upd H x o) h h':=by
 have hx:∀b,H b=none->b≠x:=λb n z=>by subst z;rw[n]at mu;exact mu
 have hb:∀b,H b=none->b≠e:=λb n z=>by
  subst z;rcases he with r|r
  .exact hx b n r
  .rw[n]at r;contradiction
 have hm:∀b u,H b=some u->¬ L6 (some u)->b≠x:=λb u q nm z=>by subst z;rw[q]at mu;exact nm mu
 refine⟨λb u q n _ _=>k b u (hb b n) q,λb u q n _ _=>⟨u.slots,k b u (hb b n) q⟩,λb u q n _=>by rw[BH<|hx b n];exact n,λb u q _=>?_,
  λb xs q=>by rw[BH<|hm b _ q λz=>z];exact q,λb u xs q=>by rw[BH<|hm b _ q λz=>z];exact q,λb ps q=>⟨#[],by rw[BH<|hm b _ q λz=>z,q];simp⟩⟩
 by_cases Jx:b=e
 .subst Jx;exact K1
 .exact⟨u,k b u Jx q⟩
end
noncomputable def KY(h:Heap)(H:Hp):List Addr:=(List.range h.objs.size).filter λa=>(H a).isSome
def Iu(h:Heap)(H:Hp):Heap:=PySem.W.hideAll h<|KY h H
theorem ll(h:Heap)(H:Hp):(Iu h H).objs.size=h.objs.size:=PySem.W.hideAll_size _ _
theorem lj{h:Heap}{H:Hp}{b:Addr}{o:Obj}(e:h.get? b=some o)(n:H b=none):(Iu h H).get? b=some o:=
 AEJ _ e λhm=>by have q:=(ABg.mp hm).2;rw[n]at q;simp at q
theorem pP{h:Heap}{H:Hp}{b:Addr}{o:Obj}(e:(Iu h H).get? b=some o):h.get? b=some o/\H b=none:=by
 have e':=PySem.W.of_hideAll (KY h H) e;refine⟨e',?_⟩;cases q:H b with
 |none=>rfl
 |some x=>
  have hm:b∈KY h H:=ABg.mpr ⟨AAr.mpr<|Heap.lt_size e',by simp[q]⟩;have z:(Iu h H).get? b=none:=PySem.W.hideAll_none (KY h H) hm;rw[z]at e;contradiction
structure Mod(K:PySem.W.Frag)(mg:Str->Option Value)(base:Heap):Prop where
 LI:K.In base
 glob:base.Ns mainGlobals mg
 blt:∃mb,base.Ns builtinsNs mb/\∀x:Str,x≠"__name__"->mb x=bootBuiltins x
 nolimit:base.NoLimit
structure Cx where
 prog:Program
 w:World
 K:PySem.W.Frag
 mg:Str->Option Value
 base:Heap
 A:Around
 N:List Str
 B5:Shared
 AU:Hp
 env:Env
 outer:List Env
 stack:List Env
 ex:List Addr
 fn:Str->Bool
 calm:Bool
 pn:List<|Addr×Obj
 xe:Value->Shared->Prop
noncomputable def Cp(l:List Env):List Addr:=l.filterMap (·.frame)
abbrev Cx.fs(X:Cx):List Addr:=Cp X.outer
def EE(sc:Scope)(x:Str):Prop:=sc.names.lookup x=some .local\/sc.names.lookup x=some .cell\/sc.names.lookup x=some .free
def Loc(sc:Scope)(x:Str):Prop:=sc.names.lookup x=some .local\/sc.names.lookup x=some .cell
def Look(env:Env)(h:Heap)(m:Str->Option Value)(x:Str)(u:Value):Prop:=
 (env.kindOf x=some .local/\m x=some u)\/((env.kindOf x=some .cell\/env.kindOf x=some .free)/\∃c,env.cells.lookup x=some c/\h.IsCell c (some u))
structure Cx.Ok(X:Cx):Prop where
 mod:Mod X.K X.mg X.base
 kind:X.env.scope.kind=.function
 glob:X.env.globals=mainGlobals
 blt:X.env.builtins=builtinsNs
 above:X.B5.heap.objs.size<=X.env.locals
 inj:∀x y c,X.env.cells.lookup x=some c->X.env.cells.lookup y=some c->x=y
 has:∀x,(X.env.kindOf x=some .cell\/X.env.kindOf x=some .free)->∃c,X.env.cells.lookup x=some c
 HW:∀x c,X.fn x=true->X.env.cells.lookup x=some c->X.B5.heap.objs.size<=c
 hd:X.calm=true->X.A.handled=none
 frames:X.A.frames=some X.stack
 EX:X.stack=X.outer\/(X.stack=X.env::X.outer/\X.env.frame=some X.env.locals)
 Ig:∀b∈X.ex,b≠X.env.locals/\∀x c,X.env.cells.lookup x=some c->c≠b
 bs:∀b o,X.base.get? b=some o->X.B5.heap.get? b=some o/\X.AU b=none
 E1:X.base.objs.size<=X.B5.heap.objs.size
 Hz:∀b o,X.base.get? b=some o->b∉X.ex
 Hf:∀b∈X.ex,b∉X.fs
 Dt:X.B5.heap.FunFrames X.base X.outer
 Fs:∀b∈X.fs,X.AU b=none
structure Inv(X:Cx)(AE:List (Addr×Obj))(σ:List (Option V))(H:Hp)(s:Shared):Prop where
 ok:X.Ok
 os:s.os=X.B5.os
 bare:AllBare s.gens
 base:Un X.fs X.ex X.AU H X.B5.heap s.heap
 loc:∃m,s.heap.Ns X.env.locals m/\∀(i:Nat)(x:Str)(v:V),X.N[i]? = some x->σ[i]? = some (some v)->EE X.env.scope x->∃u,RelV v u/\Look X.env s.heap m x u
 cell:∀x c,X.env.cells.lookup x=some c->∃v,s.heap.IsCell c v
 free:H X.env.locals=none
 Ds:∀x c,X.env.cells.lookup x=some c->H c=none
 pin:∀p∈X.pn++AE,s.heap.get? p.1=some p.2/\H p.1=none/\p.1≠X.env.locals/\p.1∉X.fs/\∀v,p.2.data≠.cell v
 Af:Bo X.prog X.w H s.heap
 len:σ.length=X.N.length
section
variable{X:Cx}{AE:List (Addr×Obj)}{σ:List (Option V)}{H H':Hp}{s:Shared}{h':Heap}
theorem Cx.Ok.o7(ok:X.Ok){b:Addr}{o:Obj}(e:X.base.get? b=some o):b∉X.fs:=λhb=>by have:=(ok.Dt.mem hb).1;rw[e]at this;contradiction
theorem Inv.bs(I:Inv X AE σ H s):∀b o,X.base.get? b=some o->s.heap.get? b=some o/\H b=none:=λb o e=>
 ⟨I.base.keep b o (I.ok.bs b o e).1 (I.ok.bs b o e).2 (I.ok.o7 e)<|I.ok.Hz b o e,I.base.free b o (I.ok.bs b o e).1 (I.ok.bs b o e).2<|I.ok.Hz b o e⟩
theorem Inv.bk(I:Inv X AE σ H s):∀b o,X.base.get? b=some o->s.heap.get? b=some o:=λb o e=>(I.bs b o e).1
theorem Inv.mod(I:Inv X AE σ H s):Mod X.K X.mg X.base:=I.ok.mod
theorem Inv.BC(I:Inv X AE σ H s):X.K.In s.heap:=I.ok.mod.LI.keeps I.bk
theorem Inv.lt(I:Inv X AE σ H s):X.env.locals<s.heap.objs.size:=let ⟨_,hn,_⟩:=I.loc;hn.lt
theorem Inv.sz(I:Inv X AE σ H s):X.B5.heap.objs.size<=s.heap.objs.size:=ABe I.ok.above<|ACf I.lt
theorem Inv.o9(I:Inv X AE σ H s){a:Addr}(h:s.heap.objs.size<=a):a∉X.fs:=λhb=>by obtain⟨_,o,ho,_⟩:=I.ok.Dt.mem hb;exact absurd (AA8 (Heap.lt_size ho)<|ABe I.sz h) (ACZ _)
theorem Inv.HZ(I:Inv X AE σ H s):∀x c,X.env.cells.lookup x=some c->c≠X.env.locals:=λx c e z=>by obtain⟨v,o,ho,hd⟩:=I.cell x c e;obtain⟨m,⟨o',es,ep,B3,Gj,_⟩,_⟩:=I.loc;rw[z,B3]at ho;cases ho;rw[Gj]at hd;contradiction
theorem Inv.Dt(I:Inv X AE σ H s):s.heap.FunFrames X.base X.outer:=by
 have all:∀(l:List Env),(∀b∈Cp l,b∈X.fs)->X.B5.heap.FunFrames X.base l->s.heap.FunFrames X.base l:=by
  intro l
  induction l with
  |nil=>intro _ _;trivial
  |cons env r ih=>
   intro hs hl;obtain⟨hk,⟨L,o,hf,hn,ho,hd⟩,hr⟩:=hl;have hL:=hs L (by unfold Cp;simp only[ACm,hf];exact AAu);obtain⟨sl,e⟩:=I.base.slot L o ho (I.ok.Fs L hL) hL λz=>I.ok.Hf L z hL
   exact⟨hk,⟨L,_,hf,hn,e,hd⟩,ih (λb hb=>hs b (by unfold Cp;simp only[ACm,hf];exact AAs _ hb)) hr⟩
 exact all X.outer (λ_ hb=>hb) I.ok.Dt
theorem Inv.stack(I:Inv X AE σ H s):s.heap.FunFrames X.base X.stack:=by
 rcases I.ok.EX with e|⟨e,hf⟩
 .rw[e];exact I.Dt
 .rw[e];obtain⟨m,hn,_⟩:=I.loc;refine .cons (by rw[I.ok.kind];decide) hf hn ?_ I.Dt;exact Heap.get?_none_of_le (ABe I.ok.E1 I.ok.above)
theorem Inv.NT(I:Inv X AE σ H s):∀b∈Cp X.stack,b∈X.env.locals::X.fs:=λb hb=>by
 rcases I.ok.EX with e|⟨e,hf⟩
 .rw[e]at hb;exact AAs _ hb
 .rw[e]at hb;unfold Cp at hb;simp only[ACm,hf]at hb;exact hb
theorem Inv.U6(I:Inv X AE σ H s):∀b∈Cp X.stack,H b=none:=λb hb=>by
 rcases AAy.mp (I.NT b hb)with e|hb
 .rw[e];exact I.free
 .obtain⟨_,o,ho,_⟩:=I.ok.Dt.mem hb;exact I.base.free b o ho (I.ok.Fs b hb) λz=>I.ok.Hf b z hb
theorem Inv.step{g':Array GenState}{t':Nat}{d':Drawn}{ch:List Addr}(I:Inv X AE σ H s) (Gh:∀b∈ch,(b∈X.ex\/X.B5.heap.objs.size<=b)/\b≠X.env.locals/\(∀x c,X.env.cells.lookup x=some c->c≠b)/\∀p∈X.pn++AE,p.1≠b) (keep:∀b o,b≠X.env.locals->b∉X.fs->b∉ch->s.heap.get? b=some o->H b=none->h'.get? b=some o) (slot:∀b o,b≠X.env.locals->b∈X.fs->b∉ch->s.heap.get? b=some o->H b=none->∃sl,h'.get? b=some {o with slots:=sl}) (free:∀b o,b∉ch->s.heap.get? b=some o->H b=none->H' b=none) (there:∀b o,b∉ch->s.heap.get? b=some o->∃o',h'.get? b=some o') (Dj:∀b xs,H b=some (.tup xs)->H' b=some (.tup xs)) (D6:∀b o u,H b=some (.D5 o u)->H' b=some (.D5 o u)) (Eu:∀b ps,H b=some (.JQ ps)->∃more,H' b=some (.JQ<|ps++more)) (ns:∀m,s.heap.Ns X.env.locals m->h'.Ns X.env.locals m) (Af:Bo X.prog X.w H' h') (hg:AllBare g') : Inv X AE σ H' {s with heap:=h',gens:=g',drawn:=d',toks:=t'}:=by
 have Zp:∀b o,X.B5.heap.get? b=some o->b≠X.env.locals:=λb o e=>AA0<|AA8 (Heap.lt_size e) I.ok.above;have P0:∀b o,X.B5.heap.get? b=some o->b∉X.ex->b∉ch:=λb o e hx hb=>by
  rcases(Gh b hb).1 with z|z
  .exact hx z
  .exact absurd (AA8 (Heap.lt_size e) z) (ACZ _)
 have cellK:∀x c,X.env.cells.lookup x=some c->∀v,s.heap.IsCell c v->h'.IsCell c v:=(by
  rintro x c e v ⟨o,ho,hd⟩;have NC:=λz=>(Gh c z).2.2.1 x c e rfl;by_cases hc:c∈X.fs
  .obtain⟨sl,q⟩:=slot c o (I.HZ x c e) hc NC ho<|I.Ds x c e;exact⟨_,q,hd⟩
  .exact⟨o,keep c o (I.HZ x c e) hc NC ho<|I.Ds x c e,hd⟩)
 refine⟨I.ok,I.os,hg,⟨λb o e n hb hx=>?_,λb o e n hb hx=>?_,λb o e n hx=>?_,λb o e hx=>?_,λb xs e=>Dj b xs<|I.base.Dj b xs e,λb o xs e=>D6 b o xs<|I.base.D6 b o xs e,λb ps e=>?_⟩,?_,λx c e=>?_,?_,λx c e=>?_,λp hp=>?_,Af,I.len⟩
 .exact keep b o (Zp b o e) hb (P0 b o e hx) (I.base.keep b o e n hb hx)<|I.base.free b o e n hx
 .obtain⟨sl,e1⟩:=I.base.slot b o e n hb hx;obtain⟨IC,e2⟩:=slot b _ (Zp b o e) hb (P0 b o e hx) e1<|I.base.free b o e n hx;exact⟨IC,e2⟩
 .obtain⟨o',e1⟩:=I.base.there b o e hx;exact free b o' (P0 b o e hx) e1<|I.base.free b o e n hx
 .obtain⟨o',e1⟩:=I.base.there b o e hx;exact there b o' (P0 b o e hx) e1
 .obtain⟨m1,e1⟩:=I.base.Eu b ps e;obtain⟨m2,e2⟩:=Eu b _ e1;exact⟨m1++m2,by rw[e2,Array.append_assoc]⟩
 .obtain⟨m,hn,hl⟩:=I.loc;refine⟨m,ns m hn,λi x v e1 e2 e3=>?_⟩;obtain⟨u,r,l⟩:=hl i x v e1 e2 e3;refine⟨u,r,?_⟩;rcases l with l|⟨k,c,e,z⟩
  .exact .inl l
  .exact .inr ⟨k,c,e,cellK x c e _ z⟩
 .obtain⟨v,z⟩:=I.cell x c e;exact⟨v,cellK x c e v z⟩
 .obtain⟨m,⟨o,_,_,ho,_⟩,_⟩:=I.loc;exact free _ o (λz=>(Gh _ z).2.1 rfl) ho I.free
 .obtain⟨v,o,ho,hd⟩:=I.cell x c e;exact free c o (λz=>(Gh c z).2.2.1 x c e rfl) ho<|I.Ds x c e
 .obtain⟨e,n,ne,nf,d⟩:=I.pin p hp;have NC:=λz=>(Gh p.1 z).2.2.2 p hp rfl;exact⟨keep p.1 p.2 ne nf NC e n,free p.1 p.2 NC e n,ne,nf,d⟩
theorem Inv.un{t':Nat}(I:Inv X AE σ H s)(u:Un X.fs [] H H' s.heap h')(Af:Bo X.prog X.w H' h'):Inv X AE σ H' {s with heap:=h',toks:=t'}:=by obtain⟨m,⟨o,es,ep,ho,r⟩,_⟩:=id I.loc;obtain⟨sl,hL⟩:=u.any ho I.free AAd;exact I.step (ch:=[]) (λ_ z=>nomatch z) (λb o _ hb _ e n=>u.keep b o e n hb AAd) (λb o _ hb _ e n=>u.slot b o e n hb AAd) (λb o _ e n=>u.free b o e n AAd) (λb o _ e=>u.there b o e AAd) u.Dj u.D6 u.Eu (λm' hm=>by obtain⟨o',es',R4,B3,r'⟩:=hm;rw[ho]at B3;cases B3;exact⟨_,es',R4,hL,r'⟩) Af I.bare
theorem Inv.call{g':Array GenState}{t':Nat}{d':Drawn}{ch:List Addr}(I:Inv X AE σ H s)(u:Un (Cp X.stack) ch H H' s.heap h')(Af:Bo X.prog X.w H' h')(hg:AllBare g') (Gh:∀b∈ch,(b∈X.ex\/X.B5.heap.objs.size<=b)/\b≠X.env.locals/\(∀x c,X.env.cells.lookup x=some c->c≠b)/\∀p∈X.pn++AE,p.1≠b) : Inv X AE σ H' {s with heap:=h',gens:=g',drawn:=d',toks:=t'}:=by
 obtain⟨m,⟨o,es,ep,ho,r⟩,_⟩:=id I.loc;obtain⟨sl,hL⟩:=u.any ho I.free λz=>(Gh _ z).2.1 rfl
 exact I.step Gh (λb o hL hb hc e n=>u.keep b o e n (λz=>(AAy.mp<|I.NT b z).elim hL hb) hc) (λb o _ _ hc e n=>u.any e n hc) (λb o hc e n=>u.free b o e n hc) (λb o hc e=>u.there b o e hc) u.Dj u.D6 u.Eu (λm' hm=>by obtain⟨o',es',R4,B3,r'⟩:=hm;rw[ho]at B3;cases B3;exact⟨_,es',R4,hL,r'⟩) Af hg
theorem Inv.turned{t':Nat}{it:Addr}(I:Inv X AE σ H s)(k:∀b o,b≠it->s.heap.get? b=some o->h'.get? b=some o)(hn:H it=none)(hL:it≠X.env.locals) (h1:it∈X.ex\/X.B5.heap.objs.size<=it) (h2:∀x c,X.env.cells.lookup x=some c->c≠it) (h3:∀p∈X.pn++AE,p.1≠it):Inv X AE σ H {s with heap:=h',toks:=t'}:=by
 have Zq:∀b u,H b=some u->b≠it:=λb u e z=>by rw[z,hn]at e;contradiction
 refine I.step (ch:=[it]) (λb hb=>?_) (λb o _ _ hc e _=>k b o (λz=>hc<|by simp[z]) e) (λb o _ _ hc e _=>⟨o.slots,k b o (λz=>hc<|by simp[z]) e⟩) (λ_ _ _ _ n=>n)
  (λb o hc e=>⟨o,k b o (λz=>hc<|by simp[z]) e⟩) (λ_ _ e=>e) (λ_ _ _ e=>e) (λb ps e=>⟨#[],by rw[e];simp⟩) (λm hm=>?_) (λb u e=>?_) I.bare
 .have e:=by simpa using hb
  subst e;exact⟨h1,hL,h2,h3⟩
 .obtain⟨o,es,ep,ho,r⟩:=hm;exact⟨o,es,ep,k _ o (ABX hL) ho,r⟩
 .refine(I.Af b u e).ID (λc v hc q=>k c v ?_ q) (λ_ q=>q) λ_ _ q=>q;rcases hc with z|z
  .rw[z];exact Zq b u e
  .exact Zq c _ z
theorem Inv.tok(I:Inv X AE σ H s)(t:Nat):Inv X AE σ H {s with toks:=t}:=I.un Un.refl I.Af
theorem Inv.kept{t':Nat}(I:Inv X AE σ H s)(k:∀b u,s.heap.get? b=some u->h'.get? b=some u):Inv X AE σ H {s with heap:=h',toks:=t'}:=I.un (Un.kept k)<|I.Af.kept k
theorem Inv.laid{a:Addr}{o:HO}{t':Nat}(I:Inv X AE σ H s)(k:∀b u,s.heap.get? b=some u->h'.get? b=some u)(hp:s.heap.objs.size<=a)(new:B1 X.prog X.w (upd H a o) h' a o) : Inv X AE σ (upd H a o) {s with heap:=h',toks:=t'}:=I.un (Un.laid k hp<|I.Af.fresh hp)<|I.Af.laid k hp new
theorem Inv.write{x e:Addr}{o:HO}{t':Nat}(I:Inv X AE σ H s)(mu:L6<|H x)(he:e=x\/H e=some (.own x))(k:∀b u,b≠e->s.heap.get? b=some u->h'.get? b=some u)(K1:∃u,h'.get? e=some u) (new:B1 X.prog X.w (upd H x o) h' x o):Inv X AE σ (upd H x o) {s with heap:=h',toks:=t'}:=I.un (Un.write mu he k K1)<|I.Af.write mu he k K1 new
theorem Inv.aN{P9:List (Addr×Obj)}(I:Inv X AE σ H s)(h:∀p∈P9,s.heap.get? p.1=some p.2/\H p.1=none/\p.1≠X.env.locals/\p.1∉X.fs/\∀v,p.2.data≠.cell v):Inv X P9 σ H s:=
 ⟨I.ok,I.os,I.bare,I.base,I.loc,I.cell,I.free,I.Ds,λp hp=>(ABM.mp hp).elim (λz=>I.pin p<|ACA _ z)<|h p,I.Af,I.len⟩
theorem UB{N:List Str}(hN:N.Nodup){i j:Nat}{x:Str}(a:N[i]? = some x)(b:N[j]? = some x):i=j:=by obtain⟨h1,e1⟩:=AAn.mp a;obtain⟨h2,e2⟩:=AAn.mp b;exact(ADY hN).mp (e1.trans e2.symm)
theorem bZ{M:Model}{A:Around}{E:Value->Shared->Prop}{i:Nat}{x:Str}{v:V}{u:Value}{Q:Unit->Shared->Prop}(I:Inv X AE σ H s)(hN:X.N.Nodup)(hi:X.N[i]? = some x)(hx:Loc X.env.scope x)(r:RelV v u) (h:∀s',Inv X AE (σ.set i<|some v) H s'->(∃a,Heap.SameBut a s.heap s'.heap/\(a=X.env.locals\/X.env.cells.lookup x=some a))->Q () s') (hf:X.fn x=true\/X.env.scope.names.lookup x=some .local:=by first|exact .inl rfl|exact .inr rfl|assumption):wpAny M A (storeName X.env x u) Q E s:=by
 obtain⟨m,hn,hl⟩:=id I.loc;have SY:(X.env.scope.kind == .class||(X.env.scope.kind == .module&&X.env.locals != X.env.globals))=false:=by rw[I.ok.kind];rfl
 have K2:i<σ.length:=by rw[I.len];exact(AAn.mp hi).1
 have HZ:=I.HZ;have tracked:∀{a:Addr}{h':Heap},(∃o,s.heap.get? a=some o/\H a=none)->Heap.SameBut a s.heap h'->Bo X.prog X.w H h':=λ{a h'} ha hs b ob e=>by
  obtain⟨_,_,Ip⟩:=ha;refine(I.Af b ob e).ID (λc w' hc q=>(hs.2 c ?_).trans q) (λ_ q=>q) λ_ _ q=>q;rintro rfl;rcases hc with rfl|hc
  .rw[Ip]at e;contradiction
  .rw[Ip]at hc;contradiction
 rcases hx with hk|hk
 .refine wpAny_storeName_local hk hn (λh' Sw hs=>?_) SY;obtain⟨oL,_,_,O2,_⟩:=id hn;refine h _ ⟨I.ok,I.os,I.bare,⟨λb o e n hb hx=>?_,λb o e n hb hx=>?_,I.base.free,λb o e hx=>?_,I.base.Dj,I.base.D6,I.base.Eu⟩,⟨_,Sw,λj y v' e1 e2 e3=>?_⟩,λy c e=>?_,I.free,I.Ds,λp hp=>?_,tracked ⟨oL,O2,I.free⟩ hs,by simpa using I.len⟩ ⟨_,hs,.inl rfl⟩
  .exact(hs.2 b<|AA0<|AA8 (Heap.lt_size e) I.ok.above).trans (I.base.keep b o e n hb hx)
  .obtain⟨sl,e1⟩:=I.base.slot b o e n hb hx;exact⟨sl,(hs.2 b<|AA0<|AA8 (Heap.lt_size e) I.ok.above).trans e1⟩
  .obtain⟨o',e1⟩:=I.base.there b o e hx;exact⟨o',(hs.2 b<|AA0<|AA8 (Heap.lt_size e) I.ok.above).trans e1⟩
  .by_cases hj:j=i
   .subst hj;rw[hi]at e1;cases e1;rw[ACO K2]at e2;cases e2;exact⟨u,r,.inl ⟨hk,AAd⟩⟩
   .rw[AA2<|ABX hj]at e2;obtain⟨u',r',q⟩:=hl j y v' e1 e2 e3;refine⟨u',r',?_⟩;rcases q with⟨k,e⟩|⟨k,c,e,z⟩
    .refine .inl ⟨k,?_⟩;have:y≠x:=λe=>hj<|UB hN e1<|e ▸ hi;simp[this,e]
    .exact .inr ⟨k,c,e,z.sameBut hs<|HZ y c e⟩
  .obtain⟨w',z⟩:=I.cell y c e;exact⟨w',z.sameBut hs<|HZ y c e⟩
  .obtain⟨e,n,ne,nf,d⟩:=I.pin p hp;exact⟨(hs.2 p.1 ne).trans e,n,ne,nf,d⟩
 .have Sf:X.fn x=true:=by
   rcases hf with z|z
   .exact z
   .rw[z]at hk;contradiction
  obtain⟨c,hc⟩:=I.ok.has x<|.inl hk;obtain⟨w',z⟩:=I.cell x c hc;refine wpAny_storeName_cell I.ok.kind hk hc z λh' Gg hs=>?_;obtain⟨oc,Yc,mL⟩:=id z;refine h {s with heap:=h'} ⟨I.ok,I.os,I.bare,⟨λb o e n hb hx=>?_,λb o e n hb hx=>?_,I.base.free,λb o e hx=>?_,I.base.Dj,I.base.D6,I.base.Eu⟩,⟨m,hn.sameBut hs<|ABX<|HZ x c hc,λj y v' e1 e2 e3=>?_⟩,λy c' e=>?_,I.free,I.Ds,λp hp=>?_,tracked ⟨oc,Yc,I.Ds x c hc⟩ hs,by simpa using I.len⟩ ⟨c,hs,.inr hc⟩
  .exact(hs.2 b<|AA0<|AA8 (Heap.lt_size e)<|I.ok.HW x c Sf hc).trans (I.base.keep b o e n hb hx)
  .obtain⟨sl,e1⟩:=I.base.slot b o e n hb hx;exact⟨sl,(hs.2 b<|AA0<|AA8 (Heap.lt_size e)<|I.ok.HW x c Sf hc).trans e1⟩
  .obtain⟨o',e1⟩:=I.base.there b o e hx;exact⟨o',(hs.2 b<|AA0<|AA8 (Heap.lt_size e)<|I.ok.HW x c Sf hc).trans e1⟩
  .by_cases hj:j=i
   .subst hj;rw[hi]at e1;cases e1;rw[ACO K2]at e2;cases e2;exact⟨u,r,.inr ⟨.inl hk,c,hc,Gg⟩⟩
   .rw[AA2<|ABX hj]at e2;obtain⟨u',r',q⟩:=hl j y v' e1 e2 e3;refine⟨u',r',?_⟩;rcases q with q|⟨k,c',e,z'⟩
    .exact .inl q
    .refine .inr ⟨k,c',e,z'.sameBut hs ?_⟩;rintro rfl;exact hj<|UB hN e1<|I.ok.inj _ _ _ e hc ▸ hi
  .by_cases Ek:c'=c
   .subst Ek;exact⟨_,Gg⟩
   .obtain⟨w2,z2⟩:=I.cell y c' e;exact⟨w2,z2.sameBut hs Ek⟩
  .obtain⟨e,n,ne,nf,d⟩:=I.pin p hp;refine⟨(hs.2 p.1 ?_).trans e,n,ne,nf,d⟩;intro q;rw[q,Yc]at e;have q':=ABF e;exact d w' (by rw[<-q'];exact mL)
theorem KR{M:Model}{A:Around}{E:Value->Shared->Prop}{i:Nat}{x:Str}{v:V}{u:Value}{Q:Unit->Shared->Prop}(I:Inv X AE σ H s)(hN:X.N.Nodup)(hi:X.N[i]? = some x)(hx:Loc X.env.scope x)(r:RelV v u) (h:∀s',Inv X AE (σ.set i<|some v) H s'->Q () s') (hf:X.fn x=true\/X.env.scope.names.lookup x=some .local:=by first|exact .inl rfl|exact .inr rfl|assumption):wpAny M A (storeName X.env x u) Q E s:=
 bZ I hN hi hx r (λs' I' _=>h s' I') hf
theorem Inv.WI{s':Shared}{ch:List Addr}(I:Inv X AE σ H s)(ho:s'.os=s.os)(u:Un (Cp X.stack) ch H H' s.heap s'.heap)(Af:Bo X.prog X.w H' s'.heap)(hg:AllBare s'.gens) (Gh:∀b∈ch,(b∈X.ex\/X.B5.heap.objs.size<=b)/\b≠X.env.locals/\(∀x c,X.env.cells.lookup x=some c->c≠b)/\∀p∈X.pn++AE,p.1≠b):Inv X AE σ H' s':=by obtain⟨h',g',d',t',o'⟩:=s';have e:o'=s.os:=ho;subst e;exact I.call u Af hg Gh
end
abbrev XK:=Value->Option Addr->Hp->Prop
abbrev St:=List<|Option V
abbrev VK:=V->Hp->Prop
abbrev TE:=St->Hp->VK->Prop
abbrev TT:=St->Hp->(Bool->Hp->Prop)->Prop
abbrev TA:=St->Hp->(List V->Hp->Prop)->Prop
structure Ends where
 nx:St->Hp->Prop
 rt:VK
 bk:St->Hp->Prop:=λ_ _=>False
 ct:St->Hp->Prop:=λ_ _=>False
abbrev TS:=Ends->St->Hp->Prop
def EP(X:Cx)(AE:List<|Addr×Obj)(σ:St)(Q:VK)(u:Value)(s':Shared):Prop:=∃v H',Inv X AE σ H' s'/\RelV v u/\Q v H'
def TP(X:Cx)(AE:List<|Addr×Obj)(σ:St)(Q:Bool->Hp->Prop)(b:Bool)(s':Shared):Prop:=∃H',Inv X AE σ H' s'/\Q b H'
def AP(X:Cx)(AE:List<|Addr×Obj)(σ:St)(Q:List V->Hp->Prop)(us:List Value)(s':Shared):Prop:=∃vs H',Inv X AE σ H' s'/\As vs us/\Q vs H'
def SP(X:Cx)(AE:List<|Addr×Obj)(D:Ends)(f:Flow)(s':Shared):Prop:=
 match f with
 |.next=>∃Ac H',Inv X AE Ac H' s'/\D.nx Ac H'
 |.brk=>∃Ac H',Inv X AE Ac H' s'/\D.bk Ac H'
 |.cont=>∃Ac H',Inv X AE Ac H' s'/\D.ct Ac H'
 |.ret u=>∃v Ac H',Inv X AE Ac H' s'/\RelV v u/\D.rt v H'
def PE(X:Cx)(e:Expr)(t:TE):Prop:=
 ∀(AE:List<|Addr×Obj)(s:Shared)(σ:St)(H:Hp)(Q:VK),Inv X AE σ H s->t σ H Q->wpAny (model X.prog X.w) X.A (eval e X.env) (EP X AE σ Q) X.xe s
def PT(X:Cx)(e:Expr)(t:TT):Prop:=
 ∀(AE:List<|Addr×Obj)(s:Shared)(σ:St)(H:Hp)(Q:Bool->Hp->Prop),Inv X AE σ H s->t σ H Q->wpAny (model X.prog X.w) X.A (isTrue e X.env<|eval e X.env) (TP X AE σ Q) X.xe s
def PW(X:Cx)(e:Expr)(t:TT):Prop:=
 ∀(whole:Sem Value)(AE:List<|Addr×Obj)(s:Shared)(σ:St)(H:Hp)(Q:Bool->Hp->Prop),Inv X AE σ H s->t σ H Q->wpAny (model X.prog X.w) X.A (isTrue e X.env whole) (TP X AE σ Q) X.xe s
theorem PW.pt{X:Cx}{e:Expr}{t:TT}(h:PW X e t):PT X e t:=h _
def PA(X:Cx)(es:List Expr)(t:TA):Prop:=
 ∀(pos:Pos)(AE:List<|Addr×Obj)(s:Shared)(σ:St)(H:Hp)(Q:List V->Hp->Prop),Inv X AE σ H s->t σ H Q->wpAny (model X.prog X.w) X.A (spliced<|backTo pos<|starEach es X.env) (AP X AE σ Q) X.xe s
def PS(X:Cx)(st:Stmt)(t:TS):Prop:=
 ∀(AE:List<|Addr×Obj)(s:Shared)(σ:St)(H:Hp)(D:Ends),Inv X AE σ H s->t D σ H->wpAny (model X.prog X.w) X.A (exec st X.env) (SP X AE D) X.xe s
def Ce(X:Cx)(st:List Stmt)(t:TS):Prop:=
 ∀(AE:List<|Addr×Obj)(s:Shared)(σ:St)(H:Hp)(D:Ends),Inv X AE σ H s->t D σ H->wpAny (model X.prog X.w) X.A (execs st X.env) (SP X AE D) X.xe s
theorem Aj{α:Type}{t:Sem α}{Q Q':α->Shared->Prop}{M:Model}{A:Around}{E:Value->Shared->Prop}{s:Shared}(h:wpAny M A t Q E s)(hQ:∀a s,Q a s->Q' a s):wpAny M A t Q' E s:=wpAny_mono h hQ λ_ _ x=>x
section
variable{X:Cx}
def VI(i:Nat):TE:=λσ H Q=>∃v,σ[i]? = some (some v)/\Q v H
def tC(v:V):TE:=λ_ H Q=>Q v H
theorem GA{i:Nat}{x:Str}{pos:Pos}(hN:X.N[i]? = some x)(hv:EE X.env.scope x)(hd:(x==("__debug__"))=false:=by decide)(BV:(x==("__classdict__"))=false:=by decide):PE X (.Name x pos)<|VI i:=by
 intro AE s σ H Q I h;obtain⟨v,e,h⟩:=h;obtain⟨m,hn,hl⟩:=I.loc;obtain⟨u,r,l⟩:=hl i x v hN e hv;have fin:EP X AE σ Q u s:=⟨v,H,I,r,h⟩;rcases l with⟨hk,hm⟩|⟨hk,c,hc,Om⟩
 .exact wpAny_Name (wpAny_loadName_local I.ok.kind hk hn hm fin) hd
 .rcases hk with hk|hk
  .exact wpAny_Name (wpAny_loadName_cell I.ok.kind hk hc Om fin) hd
  .exact wpAny_Name (wpAny_loadName_free I.ok.kind hk hc Om fin BV) hd
theorem aI{i j pos}:PE X (.Constant (.int i) j pos)<|tC<|.int i:=λ_ _ _ H _ I h=>wpAny_Constant_int ⟨.int i,H,I.tok _,⟨_,rfl⟩,h⟩
theorem qz{b j pos}:PE X (.Constant (.bool b) j pos)<|tC<|.bl b:=λ_ _ _ H _ I h=>Constant_bool ⟨.bl b,H,I,rfl,h⟩
theorem rJ{j pos}:PE X (.Constant .none j pos)<|tC .Au:=λ_ _ _ H _ I h=>Constant_none ⟨.Au,H,I,rfl,h⟩
theorem aJ{x j pos}:PE X (.Constant (.str x) j pos)<|tC<|.str x:=λ_ _ _ H _ I h=>Calls.Constant_str ⟨.str x,H,I.tok _,⟨_,rfl⟩,h⟩
def Gl(X:Cx)(x:Str):Prop:=X.env.kindOf x=some .globalImplicit
theorem LJ{E:Value->Shared->Prop}{AE:List (Addr×Obj)}{s:Shared}{σ:St}{H:Hp}{x:Str}{u:Value}{pos:Pos}{Q:Value->Shared->Prop}(I:Inv X AE σ H s)(hg:Gl X x)(hm:X.mg x=some u)(h:Q u s) (hd:(x==("__debug__"))=false:=by decide):wpAny (model X.prog X.w) X.A (eval (.Name x pos) X.env) Q E s:=
 Calls.Name_function_global I.ok.kind hg (Calls.loadGlobal_global (by rw[I.ok.glob];exact I.mod.glob.keeps I.bk) hm h) hd
theorem M5{E:Value->Shared->Prop}{AE:List (Addr×Obj)}{s:Shared}{σ:St}{H:Hp}{x:Str}{u:Value}{pos:Pos}{Q:Value->Shared->Prop}(I:Inv X AE σ H s)(hg:Gl X x)(hm:X.mg x=none)(hv:bootBuiltins x=some u)(h:Q u s) (hn:x≠"__name__":=by decide) (hd:(x==("__debug__"))=false:=by decide):wpAny (model X.prog X.w) X.A (eval (.Name x pos) X.env) Q E s:=by obtain⟨mb,h1,h2⟩:=I.mod.blt;exact Calls.Name_function_global I.ok.kind hg (Calls.loadGlobal_builtin (by rw[I.ok.glob];exact I.mod.glob.keeps I.bk) hm (by rw[I.ok.blt];exact h1.keeps I.bk) ((h2 x hn).trans hv) h) hd
theorem UX{x:Str}{v:V}{u:Value}{pos:Pos}(hg:Gl X x)(hm:X.mg x=some u)(r:RelV v u)(hd:(x==("__debug__"))=false:=by decide):PE X (.Name x pos)<|tC v:=
 λ_ _ _ H _ I h=>LJ I hg hm ⟨v,H,I,r,h⟩ hd
theorem UT{x:Str}{v:V}{u:Value}{pos:Pos}(hg:Gl X x)(hm:X.mg x=none)(hv:bootBuiltins x=some u)(r:RelV v u)(hn:x≠"__name__":=by decide)(hd:(x==("__debug__"))=false:=by decide):PE X (.Name x pos)<|tC v:=
 λ_ _ _ H _ I h=>M5 I hg hm hv ⟨v,H,I,r,h⟩ hn hd
variable{a b:Expr}{ta tb:TE}{pos:Pos}
def tB(t:TE):TT:=λσ H Q=>t σ H λx H1=>∃c,x=.bl c/\Q c H1
theorem sX{e:Expr}{t:TE}(h:PE X e t)(he:∀whole,isTrue e X.env whole=(do let v<-whole;standAt e.pos;holding [v] (truthy v)):=by intro _;rfl):PT X e<|tB t:=by intro AE s σ H Q I hw;refine isTrue_plain (Aj (h AE s σ H _ I hw) λv s1 ⟨x,H1,I1,r1,q1⟩=>?_)<|he _;obtain⟨d,rfl,q⟩:=q1;cases r1;exact wpAny_truthy_bool ⟨H1,I1,q⟩
variable{tA QV:TT}{BE:List Expr}
def bu(t u:TT):TT:=λσ H Q=>t σ H λc H1=>if c=true then u σ H1 Q else Q false H1
def cA(t u:TT):TT:=λσ H Q=>t σ H λc H1=>if c=true then Q true H1 else u σ H1 Q
def xh(t:TT):TT:=λσ H Q=>t σ H λc H1=>Q (!c) H1
theorem sk(ha:PT X a tA):PW X (.BoolOp .And [a] pos) tA:=by
 intro wh AE s σ H Q I h;refine isTrue_and<|Aj (ha AE s σ H Q I h) λc s1 e=>?_;cases c with
 |true=>exact isTrue_and_nil e
 |false=>exact e
theorem sr(ha:PT X a tA):PW X (.BoolOp .Or [a] pos) tA:=by
 intro wh AE s σ H Q I h;refine isTrue_or<|Aj (ha AE s σ H Q I h) λc s1 e=>?_;cases c with
 |false=>exact isTrue_or_nil e
 |true=>exact e
theorem sj(ha:PT X a tA)(hb:PW X (.BoolOp .And (b::BE) pos) QV):PW X (.BoolOp .And (a::b::BE) pos)<|bu tA QV:=by
 intro wh AE s σ H Q I h;refine isTrue_and<|Aj (ha AE s σ H _ I h) λc s1 ⟨H1,I1,q1⟩=>?_;cases c with
 |true=>exact hb wh AE s1 σ H1 Q I1 q1
 |false=>exact⟨H1,I1,q1⟩
theorem so(ha:PT X a tA)(hb:PW X (.BoolOp .Or (b::BE) pos) QV):PW X (.BoolOp .Or (a::b::BE) pos)<|cA tA QV:=by
 intro wh AE s σ H Q I h;refine isTrue_or<|Aj (ha AE s σ H _ I h) λc s1 ⟨H1,I1,q1⟩=>?_;cases c with
 |true=>exact⟨H1,I1,q1⟩
 |false=>exact hb wh AE s1 σ H1 Q I1 q1
theorem sW(ha:PT X a tA):PT X (.UnaryOp .Not a pos)<|xh tA:=by intro AE s σ H Q I h;exact isTrue_not<|ha AE s σ H (λc H1=>Q (!c) H1) I h
def xN(ta tb:TE):TE:=λσ H Q=>ta σ H λx H1=>∃c,x=.bl c/\if c=true then tb σ H1 Q else Q (.bl false) H1
def xj(ta tb:TE):TE:=λσ H Q=>ta σ H λx H1=>∃c,x=.bl c/\if c=true then Q (.bl true) H1 else tb σ H1 Q
def xi(ta:TE):TE:=λσ H Q=>ta σ H λx H1=>∃c,x=.bl c/\Q (.bl (!c)) H1
theorem rL{op}{t:TE}(h:PE X a t):PE X (.BoolOp op [a] pos) t:=λAE s σ H Q I hw=>BoolOp_one<|h AE s σ H Q I hw
theorem qy(ha:PE X a ta)(hb:PE X (.BoolOp .And (b::BE) pos) tb):PE X (.BoolOp .And (a::b::BE) pos)<|xN ta tb:=by
 intro AE s σ H Q I h;refine BoolOp_and<|Aj (ha AE s σ H _ I h) λv s1 ⟨x,H1,I1,r1,q1⟩=>?_;obtain⟨c,rfl,q1⟩:=q1;cases r1;refine wpAny_truthy_bool ?_;cases c with
 |true=>exact hb AE s1 σ H1 Q I1 q1
 |false=>exact⟨.bl false,H1,I1,rfl,q1⟩
theorem rN(ha:PE X a ta)(hb:PE X (.BoolOp .Or (b::BE) pos) tb):PE X (.BoolOp .Or (a::b::BE) pos)<|xj ta tb:=by
 intro AE s σ H Q I h;refine BoolOp_or<|Aj (ha AE s σ H _ I h) λv s1 ⟨x,H1,I1,r1,q1⟩=>?_;obtain⟨c,rfl,q1⟩:=q1;cases r1;refine wpAny_truthy_bool ?_;cases c with
 |false=>exact hb AE s1 σ H1 Q I1 q1
 |true=>exact⟨.bl true,H1,I1,rfl,q1⟩
theorem rK(ha:PE X a ta):PE X (.UnaryOp .Not a pos)<|xi ta:=by intro AE s σ H Q I h;refine UnaryOp_<|Aj (ha AE s σ H _ I h) λv s1 ⟨x,H1,I1,r1,q1⟩=>?_;obtain⟨c,rfl,q1⟩:=q1;cases r1;exact not_of<|wpAny_truthy_bool ⟨.bl (!c),H1,I1,rfl,q1⟩
def xW(t:TT)(ta tb:TE):TE:=λσ H Q=>t σ H λc H1=>if c=true then ta σ H1 Q else tb σ H1 Q
theorem rF{c:Expr}(hc:PT X c tA)(ha:PE X a ta)(hb:PE X b tb):PE X (.IfExp c a b pos)<|xW tA ta tb:=by
 intro AE s σ H Q I h;refine wpAny_IfExp<|Aj (hc AE s σ H _ I h) λd s1 ⟨H1,I1,q1⟩=>?_;cases d with
 |true=>exact ha AE s1 σ H1 Q I1 q1
 |false=>exact hb AE s1 σ H1 Q I1 q1
end
def CS(K:PySem.W.Frag)(H:Hp)(a:Addr)(xs:List V):Prop:=
 Rd H a (.lst xs)\/∃(o:Obj)(its:Array Value)(n:Nat),K.lookup a=some o/\o.cls=.type "list"/\o.dict=none/\o.data=.seq its n/\its.size<=sizeLine/\As xs its.toList
def Bs(K:PySem.W.Frag)(H:Hp)(a:Addr)(xs:List V):Prop:=
 Rd H a (.tup xs)\/∃(o:Obj)(its:Array Value)(n:Nat),K.lookup a=some o/\o.cls=.type "tuple"/\o.data=.seq its n/\its.size<=sizeLine/\As xs its.toList
noncomputable def fE:Value->Option V
 |.none=>some .Au
 |.bool b=>some<|.bl b
 |.int i _=>some<|.int i
 |.str x _=>some<|.str x
 |.bytes b _=>some<|.Rk b
 |.float b _=>some<|.Kw b
 |.ref a=>some<|.ref a
 |.type n=>some<|.ty n
 |_=>none
theorem RelV.abs{x:V}{u:Value}(r:RelV x u):fE u=some x:=by
 cases x with
 |Au=>cases r;rfl
 |bl _=>cases r;rfl
 |int _=>obtain⟨t,rfl⟩:=r;rfl
 |str _=>obtain⟨t,rfl⟩:=r;rfl
 |Rk _=>obtain⟨t,rfl⟩:=r;rfl
 |Kw _=>obtain⟨t,rfl⟩:=r;rfl
 |ref _=>cases r;rfl
 |ty _=>cases r;rfl
theorem RelV.inj{x y:V}{u:Value}(r:RelV x u)(q:RelV y u):x=y:=ABF<|r.abs.symm.trans q.abs
theorem As.inj:∀{xs ys:List V}{us:List Value},As xs us->As ys us->xs=ys
 |_,_,_,.nil,.nil=>rfl
 |_,_,_,.cons r t,.cons r' t'=>by rw[r.inj r',As.inj t t']
section
variable{X:Cx}{AE:List (Addr×Obj)}{σ:St}{H:Hp}{s:Shared}{a:Addr}{xs ys:List V}
theorem Inv.list(I:Inv X AE σ H s)(h:CS X.K H a xs):∃its:List Value,As xs its/\PlainL s.heap a its.toArray/\xs.length<=sizeLine:=by
 rcases h with h|⟨o,its,n,hk,hc,hd,hs,hz,r⟩
 .obtain⟨z,its,n,r,e⟩:=h.ok I.Af;exact⟨its,r,⟨_,n,e,rfl,rfl,rfl⟩,z⟩
 .refine⟨its.toList,r,⟨o,n,I.BC a o hk,hc,hd,by simpa using hs⟩,?_⟩;have e:=r.length;simp only[ABZ]at e;lia
theorem Inv.tuple(I:Inv X AE σ H s)(h:Bs X.K H a xs):∃its:List Value,As xs its/\IsTup s.heap a its.toArray/\xs.length<=sizeLine:=by
 rcases h with h|⟨o,its,n,hk,hc,hs,hz,r⟩
 .obtain⟨z,its,r,p⟩:=h.ok I.Af;exact⟨its,r,p,z⟩
 .refine⟨its.toList,r,⟨o,I.BC a o hk,hc,n,by simpa using hs⟩,?_⟩;have e:=r.length;simp only[ABZ]at e;lia
theorem Inv.oK(I:Inv X AE σ H s)(h:CS X.K H a xs)(h':CS X.K H a ys):xs=ys:=by
 obtain⟨its,r,⟨o,n,e,_,_,d⟩,_⟩:=I.list h;obtain⟨PK,r',⟨o',n',e',_,_,d'⟩,_⟩:=I.list h';rw[e]at e';cases e';rw[d]at d';injection d' with d1 _
 have:=by simpa using ACE Array.toList d1
 subst this;exact r.inj r'
end
noncomputable abbrev Cx.HC(X:Cx)(E:Value->Shared->Prop):Cx:={X with xe:=E}
abbrev Cx.KD(X:Cx):Cx:=X.HC λ_ _=>False
theorem Cx.Ok.HC{X:Cx}(ok:X.Ok)(E:Value->Shared->Prop):(X.HC E).Ok:=
 ⟨ok.mod,ok.kind,ok.glob,ok.blt,ok.above,ok.inj,ok.has,ok.HW,ok.hd,ok.frames,ok.EX,ok.Ig,ok.bs,ok.E1,ok.Hz,ok.Hf,ok.Dt,ok.Fs⟩
theorem Cx.Ok.JV{X:Cx}{E:Value->Shared->Prop}(ok:(X.HC E).Ok):X.Ok:=
 ⟨ok.mod,ok.kind,ok.glob,ok.blt,ok.above,ok.inj,ok.has,ok.HW,ok.hd,ok.frames,ok.EX,ok.Ig,ok.bs,ok.E1,ok.Hz,ok.Hf,ok.Dt,ok.Fs⟩
section
variable{X:Cx}{AE:List (Addr×Obj)}{σ:St}{H:Hp}{s:Shared}{E:Value->Shared->Prop}
theorem Inv.HC(I:Inv X AE σ H s)(E:Value->Shared->Prop):Inv (X.HC E) AE σ H s:=⟨I.ok.HC E,I.os,I.bare,I.base,I.loc,I.cell,I.free,I.Ds,I.pin,I.Af,I.len⟩
theorem Inv.JV(I:Inv (X.HC E) AE σ H s):Inv X AE σ H s:=⟨I.ok.JV,I.os,I.bare,I.base,I.loc,I.cell,I.free,I.Ds,I.pin,I.Af,I.len⟩
theorem SP.JV{D:Ends}{f:Flow}{s':Shared}(h:SP (X.HC E) AE D f s'):SP X AE D f s':=by
 cases f with
 |next=>obtain⟨Ac,H',I,q⟩:=h;exact⟨Ac,H',I.JV,q⟩
 |brk=>obtain⟨Ac,H',I,q⟩:=h;exact⟨Ac,H',I.JV,q⟩
 |cont=>obtain⟨Ac,H',I,q⟩:=h;exact⟨Ac,H',I.JV,q⟩
 |ret u=>obtain⟨v,Ac,H',I,r,q⟩:=h;exact⟨v,Ac,H',I.JV,r,q⟩
theorem Ce.KD{st:List Stmt}{t:TS}(h:Ce X.KD st t):Ce X st t:=λAE s σ H D I hw=>
 wpAny_mono (h AE s σ H D (I.HC _) hw) (λ_ _ q=>q.JV) λ_ _ z=>False.elim z
end
section
variable{X:Cx}{st:Stmt}{BE:List Stmt}{t u:TS}{e:Expr}{te:TE}{pos:Pos}
def xc:TS:=λD σ H=>D.nx σ H
def xq(t u:TS):TS:=λD σ H=>t {D with nx:=u D} σ H
theorem sN:Ce X [] xc:=λ_ _ σ H _ I h=>wpAny_execs_nil ⟨σ,H,I,h⟩
theorem af(h1:PS X st t)(h2:Ce X BE u):Ce X (st::BE)<|xq t u:=by
 intro AE s σ H D I h;refine wpAny_execs_cons<|Aj (h1 AE s σ H {D with nx:=u D} I h) λf s1 q=>?_;cases f with
 |next=>
  obtain⟨Ac,H',I',q⟩:=q;exact h2 AE s1 Ac H' D I' q
 |ret v=>exact q
 |brk=>exact q
 |cont=>exact q
theorem ah(h1:PS X st t):Ce X [st] t:=by
 intro AE s σ H D I h;refine wpAny_execs_cons<|Aj (h1 AE s σ H D I h) λf s1 q=>?_;cases f with
 |next=>exact wpAny_execs_nil q
 |ret v=>exact q
 |brk=>exact q
 |cont=>exact q
theorem Inv.quiet{AE:List (Addr×Obj)}{σ:St}{H:Hp}{s:Shared}(I:Inv X AE σ H s):interactive X.env=false:=by simp[interactive,I.ok.kind]
def b9(te:TE):TS:=λD σ H=>te σ H λ_ H1=>D.nx σ H1
theorem aa(he:PE X e te)(hs:swapsWith e none pos.line X.env=pure false:=by rfl):PS X (.Expr e pos)<|b9 te:=by intro AE s σ H D I h;exact wpAny_Expr_any (Aj (he AE s σ H _ I h) (by rintro v s1 ⟨x,H1,I1,r1,q1⟩;exact⟨σ,H1,I1,q1⟩)) I.quiet hs
def xo(te:TE):TS:=λD σ H=>te σ H D.rt
theorem QD(he:PE X e te):PS X (.Return (some e) pos)<|xo te:=by intro AE s σ H D I h;exact wpAny_Return_some<|Aj (he AE s σ H _ I h) (by rintro v s1 ⟨x,H1,I1,r1,q1⟩;exact⟨x,σ,H1,I1,r1,q1⟩)
def xX(c:TT)(t u:TS):TS:=λD σ H=>c σ H λb H1=>if b=true then t D σ H1 else u D σ H1
theorem ae{c:Expr}{a b:List Stmt}{tc:TT}(hc:PT X c tc)(ha:Ce X a t)(hb:Ce X b u):PS X (.If c a b pos)<|xX tc t u:=by
 intro AE s σ H D I h;refine wpAny_If<|Aj (hc AE s σ H _ I h) λd s1 ⟨H1,I1,q1⟩=>?_;cases d with
 |true=>exact ha AE s1 σ H1 D I1 q1
 |false=>exact hb AE s1 σ H1 D I1 q1
def xa:TS:=λ_ _ _=>False
theorem sG:PS X st xa:=λ_ _ _ _ _ _ h=>h.elim
end
abbrev TG:=V->St->Hp->(St->Hp->Prop)->Prop
abbrev HU:=List V->St->Hp->(St->Hp->Prop)->Prop
def PG(X:Cx)(Lg:Expr)(t:TG):Prop:=
 ∀(AE:List<|Addr×Obj)(s:Shared)(σ:St)(H:Hp)(v:V)(u:Value)(Q:St->Hp->Prop),Inv X AE σ H s->RelV v u->t v σ H Q->wpAny (model X.prog X.w) X.A (assign Lg X.env u) (λ_ s'=>∃Ac H',Inv X AE Ac H' s'/\Q Ac H') X.xe s
def GU(X:Cx)(ts:List Expr)(t:HU):Prop:=
 ∀(AE:List<|Addr×Obj)(s:Shared)(σ:St)(H:Hp)(vs:List V)(us:List Value)(Q:St->Hp->Prop),Inv X AE σ H s->As vs us->t vs σ H Q->wpAny (model X.prog X.w) X.A (assignInOrder ((assignEach ts X.env).map (·.2)) us) (λ_ s'=>∃Ac H',Inv X AE Ac H' s'/\Q Ac H') X.xe s
section
variable{X:Cx}{pos:Pos}
def MW(i:Nat):TG:=λv σ H Q=>Q (σ.set i<|some v) H
theorem UY{i:Nat}{x:Str}(hN:X.N.Nodup)(hi:X.N[i]? = some x)(hx:Loc X.env.scope x)(hf:X.fn x=true\/X.env.scope.names.lookup x=some .local:=by first|exact .inl rfl|exact .inr rfl|assumption):PG X (.Name x pos)<|MW i:=by intro AE s σ H v u Q I r h;exact wpAny_assign_Name<|KR I hN hi hx r (λs' I'=>⟨_,H,I',h⟩) hf
def kL:HU:=λvs σ H Q=>vs=[]/\Q σ H
def kJ(t:TG)(u:HU):HU:=λvs σ H Q=>∃v r,vs=v::r/\t v σ H λAc H'=>u r Ac H' Q
theorem aM:GU X [] kL:=by intro AE s σ H vs us Q I r h;obtain⟨e,h⟩:=h;exact assignInOrder_nil ⟨σ,H,I,h⟩
theorem UZ{e:Expr}{es:List Expr}{t:TG}{u:HU}(h1:PG X e t)(h2:GU X es u) (hs:(assignEach (e::es) X.env).map (·.2)=assign e X.env::(assignEach es X.env).map (·.2):=by rfl):GU X (e::es)<|kJ t u:=by
 intro AE s σ H vs us Q I r h;obtain⟨v,vr,e1,h⟩:=h;subst e1;cases r with
 |cons r rr=>
  rw[hs];refine assignInOrder_cons<|Aj (h1 AE s σ H _ _ _ I r h) λ_ s1 ⟨FJ,H1,I1,q1⟩=>?_;exact h2 AE s1 FJ H1 _ _ Q I1 rr q1
def kM(K:PySem.W.Frag)(n:Nat)(t:HU):TG:=λv σ H Q=>∃a xs,v=.ref a/\Bs K H a xs/\xs.length=n/\t xs σ H Q
theorem aL{es:List Expr}{k:Nat}{t:HU}{n:Nat}(hc:X.calm=true)(h:GU X es t) (hn:(assignEach es X.env).length=n:=by rfl) (F4:(assignEach es X.env).findIdx? (·.1)=none:=by rfl):PG X (.Tuple es k pos)<|kM X.K n t:=by intro AE s σ H v u Q I r hw;obtain⟨a,xs,e1,hq,hl,hw⟩:=hw;subst e1;cases r;obtain⟨its,rv,ht,hz⟩:=I.tuple hq;refine assign_Tuple_tuple (I.ok.hd hc) ht (by simp[hn,<-hl,rv.length]) F4 λh' hx=>?_;have I1:Inv X AE σ H {s with heap:=h'}:=I.kept λb o e=>hx b o (AA0<|Heap.lt_size e) e;exact h AE _ σ H xs _ Q I1 (by simpa using rv) hw
def NX(te:TE)(g:TG):TS:=λD σ H=>te σ H λx H1=>g x σ H1 D.nx
theorem aZ{tg e:Expr}{te:TE}{g:TG}(he:PE X e te)(hg:PG X tg g)(hs:swapsWithSole [tg] e pos.line X.env=pure false:=by rfl)(hw:swappedStores [tg] e X.env=pure none:=by rfl) (h1:(assignEach [tg] X.env).map (·.2)=[assign tg X.env]:=by rfl):PS X (.Assign [tg] e pos)<|NX te g:=by intro AE s σ H D I h;refine wpAny_Assign_stores (Aj (he AE s σ H _ I h) λv s1 ⟨x,H1,I1,r1,q1⟩=>?_) hs hw;rw[h1];exact Aj (hg AE s1 σ H1 x v _ I1 r1 q1) λ_ s2 q=>q
theorem QE{i:Nat}{x:Str}{e:Expr}{te:TE}{pos':Pos}(hN:X.N.Nodup)(hi:X.N[i]? = some x)(hx:Loc X.env.scope x)(he:PE X e te)(hs:swapsWith e (some<|.Name x pos') pos.line X.env=pure false:=by rfl)(hf:X.fn x=true\/X.env.scope.names.lookup x=some .local:=by first|exact .inl rfl|exact .inr rfl|assumption) : PS X (.Assign [.Name x pos'] e pos)<|NX te<|MW i:=by intro AE s σ H D I h;refine wpAny_Assign_Name (Aj (he AE s σ H _ I h) λv s1 ⟨y,H1,I1,r1,q1⟩=>?_) hs;exact KR I1 hN hi hx r1 (λs2 I2=>⟨_,H1,I2,q1⟩) hf
def xl(i j:Nat)(ta:TA):TS:=λD σ H=>ta σ H λvs H1=>∃v w,vs=[v,w]/\D.nx ((σ.set i<|some v).set j<|some w) H1
theorem sH{i j:Nat}{x y:Str}{a b:Expr}{ta:TA}{px py pt:Pos}{kt k2 KJ}(hc:X.calm=true)(hN:X.N.Nodup)(hi:X.N[i]? = some x)(hj:X.N[j]? = some y)(Bm:i≠j) (hx:X.env.scope.names.lookup x=some .local) (hy:X.env.scope.names.lookup y=some .local) (ha:PA X [a,b] ta) (hw:swappedStores [.Tuple [.Name x px,.Name y py] kt pt] (.Tuple [a,b] k2 KJ) X.env=pure (some [x,y])) (hs:swapsWithSole [.Tuple [.Name x px,.Name y py] kt pt] (.Tuple [a,b] k2 KJ) pos.line X.env=pure false:=by rfl) : PS X (.Assign [.Tuple [.Name x px,.Name y py] kt pt] (.Tuple [a,b] k2 KJ) pos)<|xl i j ta:=by
 intro AE s σ H D I h;refine wpAny_bind<|wpAny_standAt ?_;refine wpAny_bind<|wpAny_pure ?_;refine wpAny_bind<|Tuple_<|Aj (ha _ AE s σ H _ I h) λus s1 ⟨vs,H1,I1,r1,q1⟩=>?_;obtain⟨v,w,e1,q1⟩:=q1;subst e1;obtain⟨u1,u2,rfl,rv,Cs⟩:∃u1 u2,us=[u1,u2]/\RelV v u1/\RelV w u2:=by
  cases r1 with
  |cons p q=>
   cases q with
   |cons p' q'=>
    cases q';exact⟨_,_,rfl,p,p'⟩
 refine wpAny_newObj_type ?_ (by show 2<=sizeLine;decide);have I2:Inv X AE σ H1 {s1 with heap:=s1.heap.push {cls:=.type "tuple",data:=.seq [u1,u2].toArray}}:=I1.kept λb o e=>Heap.get?_push_of_some _ e;rw[hw];refine wpAny_bind<|wpAny_pure ?_;refine wpAny_bind<|wpAny_rule<|wpAny_bind<|unpackItems_tuple (items:=#[u1,u2]) (I.ok.hd hc) (IsTup.new s1.heap _) λh' E6=>?_;have I3:=I2.kept (t':=s1.toks) λb o e=>E6 b o (AA0<|Heap.lt_size e) e;refine wpAny_bind<|assignInOrder_cons<|wpAny_bindName<|KR I3 hN hj (.inl hy) Cs (λs2 I4=>?_)<|.inr hy;refine assignInOrder_cons<|wpAny_bindName<|KR I4 hN hi (.inl hx) rv (λs3 I5=>assignInOrder_nil<|wpAny_pure ?_)<|.inr hx;rw[List.set_comm _ _<|ABX Bm]at I5;exact⟨_,H1,I5,q1⟩
end
section
variable{X:Cx}{pos:Pos}
def xy(c:TT)(tb:TS):TS:=λD σ H=>∃W:Nat->St->Hp->Prop,(∃m,W m σ H)/\∀m σ H,W m σ H->
 c σ H λb H1=>if b=true then ∃N:St->Hp->Prop,(∀Ac H',N Ac H'->∃m',m'<m/\W m' Ac H')/\tb {D with nx:=N,ct:=N,bk:=D.nx} σ H1 else D.nx σ H1
theorem sM{c:Expr}{body:List Stmt}{tc:TT}{tb:TS}(hp:PassesOwn (model X.prog X.w) X.A X.env X.xe)(hc:PT X c tc)(hb:Ce X body tb):PS X (.While c body [] pos)<|xy tc tb:=by
 intro AE s σ H D I h;obtain⟨W,⟨m0,w0⟩,turn⟩:=h;refine wpAny_While<|codeAny_whileLoop (λn s'=>∃Ac H',Inv X AE Ac H' s'/\W n Ac H') ?_ m0 ⟨σ,H,I,w0⟩;rintro n s1 ⟨FJ,H1,I1,w1⟩;refine wpAny_passesOwn hp<|Aj (hc AE s1 FJ H1 _ I1<|turn n FJ H1 w1) λb s2 ⟨H2,I2,q2⟩=>?_;cases b with
 |true=>
  obtain⟨N,hN,q2⟩:=q2;refine wpAny_passesOwn hp<|Aj (hb AE s2 FJ H2 _ I2 q2) λf s3 q3=>?_;cases f with
  |next=>
   obtain⟨EA,H3,I3,n3⟩:=q3;obtain⟨m',hm,w3⟩:=hN EA H3 n3;exact⟨m',hm,EA,H3,I3,w3⟩
  |cont=>
   obtain⟨EA,H3,I3,n3⟩:=q3;obtain⟨m',hm,w3⟩:=hN EA H3 n3;exact⟨m',hm,EA,H3,I3,w3⟩
  |brk=>exact q3
  |ret v=>exact q3
 |false=>
  exact wpAny_execs_nil ⟨FJ,H2,I2,q2⟩
end
structure It where
 go:Nat->Hp->Prop
 Ql:Nat->Hp->V->Hp->Prop
 stop:Nat->Hp->Prop
def Ff(X:Cx)(AE:List<|Addr×Obj)(H:Hp)(b:Addr):Prop:=
 H b=none/\b≠X.env.locals/\b∉X.fs/\(b∈X.ex\/X.B5.heap.objs.size<=b)/\(∀x c,X.env.cells.lookup x=some c->c≠b)/\∀p∈X.pn++AE,p.1≠b
theorem Inv.SM{X:Cx}{AE:List (Addr×Obj)}{σ:St}{H H':Hp}{s:Shared}{b:Addr}(I:Inv X AE σ H s)(hb:s.heap.objs.size<=b)(hn:H' b=none):Ff X AE H' b:=by
 refine⟨hn,Nat.ne_of_gt<|AA8 I.lt hb,I.o9 hb,.inr<|ABe I.sz hb,λx c e z=>?_,λp hp z=>?_⟩
 .obtain⟨v,q⟩:=I.cell x c e;exact absurd (AA8 q.lt (by rw[z];exact hb)) (ACZ _)
 .exact absurd (AA8 (Heap.lt_size (I.pin p hp).1) (by rw[z];exact hb)) (ACZ _)
structure Turn(P:Program)(w:World)(K:PySem.W.Frag)(tg:Expr)(J:It)(fp:List Addr)(it:Addr)(tn:Nat->Heap->Prop):Prop where
 mem:it∈fp
 obj:∀i h,tn i h->∀b∈fp,∃o,h.get? b=some o/\∀v,o.data≠.cell v
 keep:∀i h h',tn i h->(∀b∈fp,∀o,h.get? b=some o->h'.get? b=some o)->tn i h'
 item:∀(X:Cx),X.prog=P->X.w=w->X.K=K->X.calm=true->∀(i:Nat)(AE:List<|Addr×Obj)(s:Shared)(σ:St)(H:Hp)(E:Value->Shared->Prop),Inv X AE σ H s->(∀b∈fp,Ff X AE H b)->tn i s.heap->J.go i H->wpAny (model P w) X.A (pyNext<|.ref it) (λr s1=>∃u,r=some u/\
   wpAny (model P w) X.A (letOwnedTupleGo tg (.ref it) u) (λ_ s2=>∃x H',Inv X AE σ H' s2/\RelV x u/\J.Ql i H x H'/\tn (i+1) s2.heap/\∀b∈fp,H' b=none) E s1) E s
 done:∀(X:Cx),X.prog=P->X.w=w->X.K=K->X.calm=true->∀(i:Nat)(AE:List<|Addr×Obj)(s:Shared)(σ:St)(H:Hp)(E:Value->Shared->Prop),Inv X AE σ H s->(∀b∈fp,Ff X AE H b)->tn i s.heap->J.stop i H->wpAny (model P w) X.A (pyNext<|.ref it) (λr s1=>r=none/\Inv X AE σ H s1) E s
 self:∀(A:Around)(i:Nat)(s:Shared)(Q:Value->Shared->Prop)(E:Value->Shared->Prop),tn i s.heap->Q (.ref it) s->wpAny (model P w) A (pyIter<|.ref it) Q E s
abbrev TI:=St->Hp->(It->Hp->Prop)->Prop
def Vq(X:Cx)(AE:List<|Addr×Obj)(σ:St)(tg:Expr)(R:It->Hp->Prop)(PN:Value)(s2:Shared):Prop:=
 ∃(it:Addr)(fp:List Addr)(tn:Nat->Heap->Prop)(J:It)(H':Hp),PN=.ref it/\Inv X AE σ H' s2/\Turn X.prog X.w X.K tg J fp it tn/\tn 0 s2.heap/\(∀b∈fp,Ff X AE H' b)/\R J H'
def PI(X:Cx)(tg iter:Expr)(wi:TI):Prop:=
 ∀(AE:List<|Addr×Obj)(s:Shared)(σ:St)(H:Hp)(R:It->Hp->Prop),Inv X AE σ H s->wi σ H R->wpAny (model X.prog X.w) X.A (eval iter X.env) (λv s1=>wpAny (model X.prog X.w) X.A (pyIter v) (Vq X AE σ tg R) X.xe s1) X.xe s
theorem X8{M:Model}{A:Around}{E:Value->Shared->Prop}{s:Shared}{tg:Expr}{it:Addr}{u:Value}{o:Obj}{n:String}{vs:Array Value}{Q:Unit->Shared->Prop}(ho:s.heap.get? it=some o)(hc:o.cls=.type n)(hd:o.data=.fields vs) (hn:["enumerate","zip","dict_itemiterator","dict_reverseitemiterator","odict_iterator","itertools.zip_longest","itertools.pairwise"].contains n=false) (hQ:Q () s):wpAny M A (letOwnedTupleGo tg (.ref it) u) Q E s:=by
 cases tg<;>first
  |exact wpAny_pure hQ
  |(cases u<;>first
   |exact wpAny_pure hQ
   |(
    refine wpAny_bind<|wpAny_load ho ?_;rw[hc,hd];show wpAny M A (if(["enumerate","zip","dict_itemiterator","dict_reverseitemiterator","odict_iterator","itertools.zip_longest","itertools.pairwise"].contains n&&vs[0]? == some (rawInt _))=true then _ else _) Q E s;rw[AAj (by intro h;rw[hn]at h;contradiction)];exact wpAny_pure hQ))
noncomputable def RE(K:PySem.W.Frag)(a:Addr):It:=
 ⟨λi H=>∃xs x,CS K H a xs/\xs[i]? = some x,λi H x H'=>H'=H/\∀xs,CS K H a xs->xs[i]? = some x,λi H=>∃xs,CS K H a xs/\xs.length<=i⟩
noncomputable def L4(lo:Int)(n:Nat):It:=⟨λi _=>i<n,λi H x H'=>H'=H/\x=.int (lo+i),λi _=>n<=i⟩
theorem yi{P:Program}{w:World}{K:PySem.W.Frag}{tg:Expr}(a it:Addr):Turn P w K tg (RE K a) [it] it (λi h=>h.IsListIter it a i) where
 mem:=AAd
 obj:=λi h st b hb=>by
  have e:=by simpa using hb
  subst e;obtain⟨o,e,c,d⟩:=st;exact⟨o,e,λv z=>by rw[d]at z;injection z⟩
 keep:=λi h h' st k=>st.at λo e=>k it AAd o e
 item:=by intro X hP hw hK hc i AE s σ H E I hf st hg;subst hP hw hK;obtain⟨xs,x,hq,hx⟩:=hg;obtain⟨its,rv,p,hz⟩:=I.list hq;obtain⟨u,hu,ru⟩:=rv.get hx;obtain⟨f0,f1,f2,f3,f4,f5⟩:=hf it AAd;refine wpAny_pyNext_list_item st p.isList (by simpa using hu) λh' G9 sb=>?_;have I1:Inv X AE σ H {s with heap:=h'}:=I.turned (λb o hb e=>(sb.2 b hb).trans e) f0 f1 f3 f4 f5;obtain⟨o,e,c,d⟩:=id G9;exact⟨u,rfl,X8 e c d AAe ⟨x,H,I1,ru,⟨rfl,λys hy=>by rw[I.oK hy hq];exact hx⟩,G9,λb hb=>(hf b hb).1⟩⟩
 done:=by intro X hP hw hK hc i AE s σ H E I hf st hg;subst hP hw hK;obtain⟨xs,hq,hx⟩:=hg;obtain⟨its,rv,p,hz⟩:=I.list hq;obtain⟨f0,f1,f2,f3,f4,f5⟩:=hf it AAd;have hl:=rv.length;exact wpAny_pyNext_list_end (I.ok.hd hc) st p.isList (by simp;lia) λh' eb=>⟨rfl,I.turned (λb o hb e=>eb b o hb e) f0 f1 f3 f4 f5⟩
 self:=λ_ _ _ _ _ st h=>wpAny_pyIter_listiter st h
theorem yj{P:Program}{w:World}{K:PySem.W.Frag}{tg:Expr}(it:Addr)(lo:Int)(n:Nat):Turn P w K tg (L4 lo n) [it] it (λi h=>IsRangeIter h it (lo+(i)*1) ((n)-(i)) 1) where
 mem:=AAd
 obj:=λi h st b hb=>by
  have e:=by simpa using hb
  subst e;exact⟨_,st,λv z=>by have z':Data.fields _=Data.cell v:=z;injection z'⟩
 keep:=λi h h' st k=>k it AAd _ st
 item:=by intro X hP hw hK hc i AE s σ H E I hf st hg;subst hP hw hK;obtain⟨f0,f1,f2,f3,f4,f5⟩:=hf it AAd;have W:=Walks.range (prog:=X.prog) (w:=X.w) (I.ok.hd hc) it lo 1 n;refine W.item i s _ _ hg st λv h' tk hv G9 kk=>?_;obtain⟨t,rfl⟩:=hv;have I1:Inv X AE σ H {s with heap:=h',toks:=tk}:=I.turned (λb o hb e=>kk b o (by simpa using hb) e) f0 f1 f3 f4 f5;refine⟨_,rfl,X8 G9 rfl rfl AAe ⟨.int<|lo+i,H,I1,⟨t,?_⟩,⟨rfl,rfl⟩,G9,λb hb=>(hf b hb).1⟩⟩;rw[AEk]
 done:=by intro X hP hw hK hc i AE s σ H E I hf st hg;subst hP hw hK;obtain⟨f0,f1,f2,f3,f4,f5⟩:=hf it AAd;exact wpAny_pyNext_range_end (I.ok.hd hc) st (by have:n<=i:=hg;lia) λh' eb=>⟨rfl,I.turned (λb o hb e=>eb b o hb e) f0 f1 f3 f4 f5⟩
 self:=λ_ _ _ _ _ st h=>wpAny_pyIter_rangeiter st h
section
variable{X:Cx}{tg:Expr}
def m7(K:PySem.W.Frag)(tl:TE):TI:=λσ H R=>tl σ H λx H1=>∃a,x=.ref a/\(∃xs,CS K H1 a xs)/\R (RE K a) H1
theorem rR{l:Expr}{tl:TE}(hl:PE X l tl):PI X tg l<|m7 X.K tl:=by
 intro AE s σ H R I h;refine Aj (hl AE s σ H _ I h) λv s1 ⟨x,H1,I1,r1,q1⟩=>?_;obtain⟨a,e,⟨xs,hq⟩,q⟩:=q1;subst e;cases r1;obtain⟨its,rv,p,hz⟩:=I1.list hq;refine wpAny_pyIter_list p.isList ?_;refine⟨s1.heap.objs.size,[s1.heap.objs.size],_,_,H1,rfl,I1.kept λb o e=>Heap.get?_push_of_some _ e,yi a _,⟨_,Heap.get?_push_size _ rfl,rfl,rfl⟩,λb hb=>?_,q⟩;have e:=by simpa using hb
 subst e;exact I1.SM (AAw _)<|I1.Af.fresh<|AAw _
theorem av{AE:List (Addr×Obj)}{σ:St}{H:Hp}{s:Shared}{R:It->Hp->Prop}{E:Value->Shared->Prop}{lo hi:Int}{t u v:Tok}{tk:Nat}(I:Inv X AE σ H s)(h1 : -(2 ^ 62)<=lo)(h2:lo<2 ^ 62)(h3 : -(2 ^ 62)<=hi)(h4:hi<2 ^ 62) (q:R (L4 lo (hi-lo).toNat) H):wpAny (model X.prog X.w) X.A (pyIter<|.ref s.heap.objs.size) (Vq X AE σ tg R) E {s with heap:=s.heap.push {cls:=.type "range",data:=.fields #[.int lo t,.int hi u,.int 1 v]},toks:=tk}:=by
 refine wpAny_pyIter_range (IsRange.new ..) (small_one h1 h2 h3 h4) ?_;have I1:Inv X AE σ H {s with heap:=s.heap.push {cls:=.type "range",data:=.fields #[.int lo t,.int hi u,.int 1 v]},toks:=tk}:=I.kept λb o e=>Heap.get?_push_of_some _ e;refine⟨(s.heap.push {cls:=.type "range",data:=.fields #[.int lo t,.int hi u,.int 1 v]}).objs.size,[(s.heap.push {cls:=.type "range",data:=.fields #[.int lo t,.int hi u,.int 1 v]}).objs.size],_,_,H,rfl,I1.kept λb o e=>Heap.get?_push_of_some _ e,yj _ lo (hi-lo).toNat,?_,λb hb=>?_,q⟩
 .have e1:lo+((0:Nat))*1=lo:=AAd
  have e2:(((hi-lo).toNat))-((0:Nat))=Builtin.Range.rangeSize lo hi 1:=by rw[rangeSize_one];split<;>lia
  rw[e1,e2];exact Heap.get?_push_size _ rfl
 .have e:b=(s.heap.push {cls:=.type "range",data:=.fields #[.int lo t,.int hi u,.int 1 v]}).objs.size:=by simpa using hb
  subst e;exact I1.SM (AAw _)<|I1.Af.fresh<|AAw _
def m8(ta:TA):TI:=λσ H R=>ta σ H λvs H1=>∃j:Int,vs=[.int j]/\-(2 ^ 62)<=j/\j<2 ^ 62/\R (L4 0 j.toNat) H1
def m9(ta:TA):TI:=λσ H R=>ta σ H λvs H1=>∃i j:Int,vs=[.int i,.int j]/\(-(2 ^ 62)<=i/\i<2 ^ 62/\-(2 ^ 62)<=j/\j<2 ^ 62)/\R (L4 i (j-i).toNat) H1
theorem rS{a:Expr}{ta:TA}{p pos:Pos}(hg:Gl X "range")(hm:X.mg "range" = none)(ha:PA X [a] ta)(hs:starEach [a] X.env=[(false,eval a X.env)]:=by rfl):PI X tg (.Call (.Name "range" p) [a] [] pos)<|m8 ta:=by
 intro AE s σ H R I h;refine Call_<|M5 I hg hm boot_range<|AC3 (Aj (ha pos AE s σ H _ I h) λus s1 ⟨vs,H1,I1,r1,q1⟩=>?_) hs rfl;obtain⟨j,e,q1,q2,q⟩:=q1;subst e;cases r1 with
 |cons r rr=>
  cases rr;obtain⟨t,rfl⟩:=r;exact call_range_1<|av I1 U AAc q1 q2<|by simpa using q
theorem rT{a b:Expr}{ta:TA}{p pos:Pos}(hg:Gl X "range")(hm:X.mg "range" = none)(ha:PA X [a,b] ta)(hs:starEach [a,b] X.env=[(false,eval a X.env),(false,eval b X.env)]:=by rfl)(O8:starEach [b] X.env=[(false,eval b X.env)]:=by rfl) : PI X tg (.Call (.Name "range" p) [a,b] [] pos)<|m9 ta:=by
 intro AE s σ H R I h;refine Call_ (M5 I hg hm boot_range<|AC3 (Aj (ha pos AE s σ H _ I h) λus s1 ⟨vs,H1,I1,r1,q1⟩=>?_) (by rw[hs,O8]) (by rw[O8];rfl));obtain⟨i,j,e,⟨q1,q2,q3,q4⟩,q⟩:=q1;subst e;cases r1 with
 |cons r rr=>
  cases rr with
  |cons r' rr=>
   cases rr;obtain⟨t,rfl⟩:=r;obtain⟨t',rfl⟩:=r';exact call_range_2<|av I1 q1 q2 q3 q4 q
def xV(wi:TI)(g:TG)(tb:TS):TS:=λD σ H=>wi σ H λJ H1=>∃W:Nat->Nat->St->Hp->Prop,(∃m,W 0 m σ H1)/\∀i m σ H,W i m σ H->
 (J.stop i H/\D.nx σ H)\/(J.go i H/\∃N:St->Hp->Prop,(∀Ac H',N Ac H'->∃m',m'<m/\W (i+1) m' Ac H')/\∀x H',J.Ql i H x H'->g x σ H' λDG H2=>tb {D with nx:=N,ct:=N,bk:=D.nx} DG H2)
noncomputable def NK(fp:List Addr)(h:Heap):List<|Addr×Obj:=fp.filterMap λb=>(h.get? b).map λo=>(b,o)
theorem Pr{fp:List Addr}{h:Heap}{b:Addr}{o:Obj}(hb:b∈fp)(e:h.get? b=some o):(b,o)∈NK fp h:=ADG.mpr ⟨b,hb,by rw[e];rfl⟩
theorem pS{fp:List Addr}{h:Heap}{p:Addr×Obj}(hp:p∈NK fp h):p.1∈fp/\h.get? p.1=some p.2:=by
 obtain⟨b,hb,e⟩:=ADG.mp hp;cases q:h.get? b with
 |none=>rw[q]at e;contradiction
 |some o=>
  rw[q]at e;have e':=ABF e;subst e';exact⟨hb,q⟩
theorem Inv.pinned{AE:List (Addr×Obj)}{σ:St}{H:Hp}{s:Shared}{fp:List Addr}(I:Inv X AE σ H s)(hf:∀b∈fp,Ff X AE H b)(ho:∀b∈fp,∃o,s.heap.get? b=some o/\∀v,o.data≠.cell v):Inv X (AE++NK fp s.heap) σ H s:=
 I.aN λp hp=>(ABM.mp hp).elim (λz=>I.pin p<|ABY _ z) λz=>by obtain⟨hb,e⟩:=pS z;obtain⟨f0,f1,f2,_⟩:=hf p.1 hb;obtain⟨o,e',d⟩:=ho p.1 hb;rw[e]at e';cases e';exact⟨e,f0,f1,f2,d⟩
theorem Inv.Qe{AE pl:List (Addr×Obj)}{σ:St}{H:Hp}{s:Shared}(I:Inv X (AE++pl) σ H s):Inv X AE σ H s:=I.aN λp hp=>I.pin p<|ABY _<|ACA _ hp
theorem sE{iter:Expr}{body:List Stmt}{wi:TI}{g:TG}{tb:TS}{pos:Pos}(hp:PassesOwn (model X.prog X.w) X.A X.env X.xe)(hc:X.calm=true)(hi:PI X tg iter wi)(hg:PG X tg g)(hb:Ce X body tb) (hs:∀x,foldedSetIterable iter X.env x=pure x:=by intro _;rfl):PS X (.For tg iter body [] pos)<|xV wi g tb:=by
 intro AE s σ H D I h;refine wpAny_For (Aj (hi AE s σ H _ I h) λv s1 h1=>Aj h1 λPN s2 h2=>?_) hs;obtain⟨it,fp,tn,J,H2,e,I2,T,JN,f2,W,⟨m0,w0⟩,turn⟩:=h2;subst e;have U4:∀{H':Hp},(∀b∈fp,H' b=none)->∀b∈fp,Ff X AE H' b:=λhn b hb=>⟨hn b hb,(f2 b hb).2⟩;refine codeAny_forLoop_any (λn s'=>∃i Ac H',Inv X AE Ac H' s'/\tn i s'.heap/\(∀b∈fp,H' b=none)/\W i n Ac H') ?_ m0 ⟨0,σ,H2,I2,JN,λb hb=>(f2 b hb).1,w0⟩;rintro n s3 ⟨i,EA,H3,I3,Es,MV,w3⟩;rcases turn i n EA H3 w3 with⟨stop,qn⟩|⟨go,N,hN,step⟩
 .refine wpAny_passesOwn hp<|Aj (T.done X rfl rfl rfl hc i AE s3 EA H3 X.xe I3 (U4 MV) Es stop) λr s4 ⟨hr,I4⟩=>?_;subst hr;exact wpAny_execs_nil ⟨EA,H3,I4,qn⟩
 .refine wpAny_passesOwn hp<|Aj (T.item X rfl rfl rfl hc i AE s3 EA H3 X.xe I3 (U4 MV) Es go) λr s4 ⟨u,hr,h4⟩=>?_;subst hr;refine wpAny_passesOwn hp<|Aj h4 λ_ s5 ⟨x,H5,I5,r5,y5,Fc,SN⟩=>?_;have RC:=I5.pinned (U4 SN)<|T.obj _ _ Fc;refine wpAny_passesOwn hp<|Aj (hg _ s5 EA H5 x u _ RC r5<|step x H5 y5) λ_ s6 ⟨Lm,H6,I6,q6⟩=>?_;refine wpAny_passesOwn hp<|Aj (hb _ s6 Lm H6 _ I6 q6) λf s7 q7=>?_;have again:∀{GN:St}{H7:Hp},Inv X (AE++NK fp s5.heap) GN H7 s7->N GN H7->∃m,m<n/\∃i Ac H',Inv X AE Ac H' s7/\tn i s7.heap/\(∀b∈fp,H' b=none)/\W i m Ac H':=λ{GN H7} I7 n7=>by obtain⟨m',hm,w7⟩:=hN GN H7 n7;refine⟨m',hm,i+1,GN,H7,I7.Qe,T.keep _ _ _ Fc λb hb o e=>(I7.pin (b,o)<|ABY _<|ABY _<|Pr hb e).1,λb hb=>?_,w7⟩;obtain⟨o,e,d⟩:=T.obj _ _ Fc b hb;exact(I7.pin (b,o)<|ABY _<|ABY _<|Pr hb e).2.1
  cases f with
  |next=>obtain⟨GN,H7,I7,n7⟩:=q7;exact again I7 n7
  |cont=>obtain⟨GN,H7,I7,n7⟩:=q7;exact again I7 n7
  |brk=>obtain⟨GN,H7,I7,q7⟩:=q7;exact⟨GN,H7,I7.Qe,q7⟩
  |ret v=>obtain⟨x7,GN,H7,I7,r7,q7⟩:=q7;exact⟨x7,GN,H7,I7.Qe,r7,q7⟩
end
abbrev R2:=V->V->Hp->VK->Prop
def BY(X:Cx)(f:Value->Value->Sem Value)(r:R2):Prop:=
 ∀(AE:List<|Addr×Obj)(s:Shared)(σ:St)(H:Hp)(x y:V)(v u:Value)(Q:VK),Inv X AE σ H s->RelV x v->RelV y u->r x y H Q->wpAny (model X.prog X.w) X.A (f v u) (EP X AE σ Q) X.xe s
def RL(X:Cx)(f:Value->Sem Value)(r:V->Hp->VK->Prop):Prop:=
 ∀(AE:List<|Addr×Obj)(s:Shared)(σ:St)(H:Hp)(x:V)(v:Value)(Q:VK),Inv X AE σ H s->RelV x v->r x H Q->wpAny (model X.prog X.w) X.A (f v) (EP X AE σ Q) X.xe s
def Cz(X:Cx)(f:Value)(r:List V->Hp->VK->Prop):Prop:=
 ∀(AE:List<|Addr×Obj)(s:Shared)(σ:St)(H:Hp)(xs:List V)(us:List Value)(Q:VK),Inv X AE σ H s->As xs us->r xs H Q->wpAny (model X.prog X.w) X.A (call f us) (EP X AE σ Q) X.xe s
def NY(r:R2)(ta tb:TE):TE:=λσ H Q=>ta σ H λx H1=>tb σ H1 λy H2=>r x y H2 Q
def xx(r:V->Hp->VK->Prop)(ta:TE):TE:=λσ H Q=>ta σ H λx H1=>r x H1 Q
def rI(C:Int->Int->Prop)(g:Int->Int->V):R2:=λx y H Q=>∃i j,x=.int i/\y=.int j/\C i j/\Q (g i j) H
def IB(g:Int->Int->V):R2:=λx y H Q=>∃i j,x=.int i/\y=.int j/\Q (g i j) H
def rU(g:Int->V):V->Hp->VK->Prop:=λx H Q=>∃i,x=.int i/\Q (g i) H
section
variable{X:Cx}{a b c:Expr}{ta tb tc:TE}{pos:Pos}
theorem Rc(ha:PE X a ta)(hb:PE X b tb){AE:List (Addr×Obj)}{s:Shared}{σ:St}{H:Hp}{R:V->V->Hp->Prop}(I:Inv X AE σ H s) (h:ta σ H λx H1=>tb σ H1 λy H2=>R x y H2) {Q:Value->Shared->Prop} {f:Value->Value->Sem Value}
 (hf:∀v u s2 x y H2,Inv X AE σ H2 s2->RelV x v->RelV y u->R x y H2->wpAny (model X.prog X.w) X.A (f v u) Q X.xe s2) :
 wpAny (model X.prog X.w) X.A (eval a X.env) (λv BN=>wpAny (model X.prog X.w) X.A (eval b X.env) (λu GJ=>wpAny (model X.prog X.w) X.A (f v u) Q X.xe GJ) X.xe BN) X.xe s:=by
 refine Aj (ha AE s σ H _ I h) λv s1 ⟨x,H1,I1,r1,q1⟩=>?_;refine Aj (hb AE s1 σ H1 _ I1 q1) λu s2 ⟨y,H2,I2,r2,q2⟩=>?_;exact hf v u s2 x y H2 I2 r1 r2 q2
theorem rM{op:Operator}{r:R2}(ho:BY X (binaryOp op) r)(ha:PE X a ta)(hb:PE X b tb):PE X (.BinOp a op b pos)<|NY r ta tb:=by intro AE s σ H Q I h;exact wpAny_BinOp<|Rc ha hb I h λv u s2 x y H2 I2 rx ry q=>ho AE s2 σ H2 x y v u Q I2 rx ry q
theorem aK{op:UnaryOp}{r:V->Hp->VK->Prop}(ho:RL X (unaryOp op) r)(ha:PE X a ta):PE X (.UnaryOp op a pos)<|xx r ta:=by intro AE s σ H Q I h;exact UnaryOp_<|Aj (ha AE s σ H _ I h) (by rintro v s1 ⟨x,H1,I1,r1,q1⟩;exact ho AE s1 σ H1 x v Q I1 r1 q1)
theorem UL{f:Value->Value->Sem Value}{C:Int->Int->Prop}{g:Int->Int->Int} (rule:∀(i j:Int)(t u:Tok)(s:Shared)(Q:Value->Shared->Prop)(E:Value->Shared->Prop),C i j->Q (.int (g i j) s.toks) {s with toks:=s.toks+1}->wpAny (model X.prog X.w) X.A (f (.int i t)<|.int j u) Q E s) : BY X f<|rI C λi j=>.int<|g i j:=by intro AE s σ H x y v u Q I rx ry h;obtain⟨i,j,rfl,rfl,hc,q⟩:=h;obtain⟨t,rfl⟩:=rx;obtain⟨t',rfl⟩:=ry;exact rule i j t t' s _ _ hc ⟨.int<|g i j,H,I.tok _,⟨_,rfl⟩,q⟩
theorem Z4{f:Value->Value->Sem Value}{g:Int->Int->Int} (rule:∀(i j:Int)(t u:Tok)(s:Shared)(Q:Value->Shared->Prop)(E:Value->Shared->Prop),Q (.int (g i j) s.toks) {s with toks:=s.toks+1}->wpAny (model X.prog X.w) X.A (f (.int i t)<|.int j u) Q E s) : BY X f<|IB λi j=>.int<|g i j:=by intro AE s σ H x y v u Q I rx ry h;obtain⟨i,j,rfl,rfl,q⟩:=h;obtain⟨t,rfl⟩:=rx;obtain⟨t',rfl⟩:=ry;exact rule i j t t' s _ _ ⟨.int<|g i j,H,I.tok _,⟨_,rfl⟩,q⟩
theorem UK{f:Value->Value->Sem Value}{g:Int->Int->Bool} (rule:∀(i j:Int)(t u:Tok)(s:Shared)(Q:Value->Shared->Prop)(E:Value->Shared->Prop),Q (.bool<|g i j) s->wpAny (model X.prog X.w) X.A (f (.int i t)<|.int j u) Q E s) : BY X f<|IB λi j=>.bl<|g i j:=by intro AE s σ H x y v u Q I rx ry h;obtain⟨i,j,rfl,rfl,q⟩:=h;obtain⟨t,rfl⟩:=rx;obtain⟨t',rfl⟩:=ry;exact rule i j t t' s _ _ ⟨.bl<|g i j,H,I,rfl,q⟩
def Lo(i j:Int):Prop:=0<j/\j<1073741824
def Ew(i j:Int):Prop:=(-(2 ^ 64)<i/\i<2 ^ 64)\/(-(2 ^ 64)<j/\j<2 ^ 64)
theorem Ew.ok{i j:Int}(h:Ew i j):IntMulOk i j:=by
 rcases h with⟨h1,h2⟩|⟨h1,h2⟩
 .exact .of_left<|intBits_le_64 h1 h2
 .exact .of_right<|intBits_le_64 h1 h2
theorem p8:BY X (binaryOp .Add)<|IB λi j=>.int<|i+j:=Z4 λ_ _ _ _ _ _ _ q=>add_int q
theorem qO:BY X (binaryOp .Sub)<|IB λi j=>.int<|i-j:=Z4 λ_ _ _ _ _ _ _ q=>sub_int q
theorem qK:BY X (binaryOp .Mult)<|rI Ew λi j=>.int<|i*j:=UL λ_ _ _ _ _ _ _ hc q=>mul_int q hc.ok
theorem qB:BY X (binaryOp .FloorDiv)<|rI Lo λi j=>.int<|i / j:=UL λi j _ _ _ _ _ hc q=>by have h1:=hc.1;have h2:=hc.2;exact floordiv_int AAc (by rw[Int.fdiv_eq_ediv_of_nonneg i AAc];exact q)<|.inl<|PyProof.noPylong_small AAc
theorem qJ:BY X (binaryOp .Mod)<|rI (λ_ j=>0<j) λi j=>.int<|i%j:=UL λi j _ _ _ _ _ hc q=>by exact mod_int' U (by rw[Int.fmod_eq_emod_of_nonneg i U];exact q)
theorem yw{f:Value->Sem Value}{g:Int->Int} (rule:∀(i:Int)(t:Tok)(s:Shared)(Q:Value->Shared->Prop)(E:Value->Shared->Prop),Q (.int (g i) s.toks) {s with toks:=s.toks+1}->wpAny (model X.prog X.w) X.A (f<|.int i t) Q E s) : RL X f<|rU λi=>.int<|g i:=by intro AE s σ H x v Q I rx h;obtain⟨i,rfl,q⟩:=h;obtain⟨t,rfl⟩:=rx;exact rule i t s _ _ ⟨.int<|g i,H,I.tok _,⟨_,rfl⟩,q⟩
theorem cW:RL X (unaryOp .USub)<|rU λi=>.int (-i):=yw λ_ _ _ _ _ q=>neg_int q
end
section
variable{X:Cx}{a b c:Expr}{ta tb tc:TE}{pos:Pos}
theorem qH:BY X (compareOp .Lt)<|IB λi j=>.bl<|decide (i<j):=UK λ_ _ _ _ _ _ _ q=>lt_int q
theorem qG:BY X (compareOp .LtE)<|IB λi j=>.bl<|decide (i<=j):=UK λ_ _ _ _ _ _ _ q=>le_int q
theorem qC:BY X (compareOp .Gt)<|IB λi j=>.bl<|decide (j<i):=UK λ_ _ _ _ _ _ _ q=>gt_int q
theorem BY.or{f:Value->Value->Sem Value}{r r':R2}(h:BY X f r)(h':BY X f r'):BY X f (λx y H Q=>r x y H Q\/r' x y H Q):=by
 intro AE s σ H x y v u Q I rx ry q;rcases q with q|q
 .exact h AE s σ H x y v u Q I rx ry q
 .exact h' AE s σ H x y v u Q I rx ry q
theorem Zu(b:Expr){op:CmpOp}(h:op≠.In:=by decide)(h2:op≠.NotIn:=by decide):behindInMarks op b=false:=by
 have e1:(op==CmpOp.In)=false:=by cases op<;>first|rfl|exact absurd rfl h
 have e2:(op==CmpOp.NotIn)=false:=by cases op<;>first|rfl|exact absurd rfl h2
 cases b<;>simp[behindInMarks,e1,e2]
theorem rB{op:CmpOp}{r:R2}(ho:BY X (compareOp op) r)(ha:PE X a ta)(hb:PE X b tb)(hm:behindInMarks op b=false):PE X (.Compare a [op] [b] pos)<|NY r ta tb:=by intro AE s σ H Q I h;exact wpAny_Compare1 (Rc ha hb I h λv u s2 x y H2 I2 rx ry q=>ho AE s2 σ H2 x y v u Q I2 rx ry q) hm
def VH(t:TE):TT:=λσ H Q=>t σ H λx H'=>∃k,x=.bl k/\Q k H'
theorem sT{op:CmpOp}{r:R2}(ho:BY X (compareOp op) r)(ha:PE X a ta)(hb:PE X b tb)(hm:behindInMarks op b=false):PT X (.Compare a [op] [b] pos)<|VH<|NY r ta tb:=by
 intro AE s σ H Q I h;refine wpAny_isTrue_Compare1 (Aj (ha AE s σ H _ I h) λv s1 ⟨x,H1,I1,r1,q1⟩=>Aj (hb AE s1 σ H1 _ I1 q1) λu s2 ⟨y,H2,I2,r2,q2⟩=>
  Aj (ho AE s2 σ H2 x y v u _ I2 r1 r2 q2) λc s3 ⟨z,H3,I3,r3,k,e,q3⟩=>?_) hm
 subst e;cases r3;exact wpAny_truthy_bool ⟨H3,I3,q3⟩
def VE(r r':R2)(ta tb tc:TE):TE:=λσ H Q=>ta σ H λx H1=>tb σ H1 λy H2=>r x y H2 λz H3=>∃k,z=.bl k/\
 (if k=true then tc σ H3 λw' H4=>r' y w' H4 Q else Q (.bl false) H3)
theorem q9{op B4:CmpOp}{r r':R2}(ho:BY X (compareOp op) r)(B3:BY X (compareOp B4) r')(ha:PE X a ta)(hb:PE X b tb)(hc:PE X c tc) (hm:lastMarks [op,B4] [b,c]=false:=by with_unfolding_all rfl):PE X (.Compare a [op,B4] [b,c] pos)<|VE r r' ta tb tc:=by
 intro AE s σ H Q I h;refine Compare_chain (Aj (ha AE s σ H _ I h) λv s1 ⟨x,H1,I1,r1,q1⟩=>chain_link (Aj (hb AE s1 σ H1 _ I1 q1) λu s2 ⟨y,H2,I2,r2,q2⟩=>
  Aj (ho AE s2 σ H2 x y v u _ I2 r1 r2 q2) λd s3 ⟨z,H3,I3,r3,k,e,q3⟩=>?_)) hm
 subst e;cases r3;refine wpAny_truthy_bool ?_;cases k with
 |false=>exact ite_ff ⟨.bl false,H3,I3,rfl,q3⟩
 |true=>exact ite_tt<|chain_last<|Aj (hc AE s3 σ H3 _ I3 q3) (by rintro w' s4 ⟨z',H4,I4,r4,q4⟩;exact B3 AE s4 σ H4 y z' u w' Q I4 r2 r4 q4)
theorem sO{op B4:CmpOp}{r r':R2}(ho:BY X (compareOp op) r)(B3:BY X (compareOp B4) r')(ha:PE X a ta)(hb:PE X b tb)(hc:PE X c tc) (hm:lastMarks [op,B4] [b,c]=false:=by with_unfolding_all rfl):PT X (.Compare a [op,B4] [b,c] pos)<|VH<|VE r r' ta tb tc:=by
 intro AE s σ H Q I h;refine isTrue_chain (Aj (ha AE s σ H _ I h) λv s1 ⟨x,H1,I1,r1,q1⟩=>test_link (Aj (hb AE s1 σ H1 _ I1 q1) λu s2 ⟨y,H2,I2,r2,q2⟩=>
  Aj (ho AE s2 σ H2 x y v u _ I2 r1 r2 q2) λd s3 ⟨z,H3,I3,r3,k,e,q3⟩=>?_)) hm
 subst e;cases r3;refine wpAny_truthy_bool ?_;cases k with
 |false=>
  obtain⟨k',e',q'⟩:=q3;cases e';exact ite_ff ⟨H3,I3,q'⟩
 |true=>
  refine ite_tt<|test_last<|Aj (hc AE s3 σ H3 _ I3 q3) λw' s4 ⟨z',H4,I4,r4,q4⟩=>Aj (B3 AE s4 σ H4 y z' u w' _ I4 r2 r4 q4) λd' s5 ⟨z2,H5,I5,r5,k2,e2,q5⟩=>?_;subst e2;cases r5;exact wpAny_truthy_bool ⟨H5,I5,q5⟩
theorem Tu:(sizeLine)<2 ^ 63:=AAe
theorem vals1{x:V}{us:List Value}(r:As [x] us):∃u,us=[u]/\RelV x u:=by
 cases r with
 |cons r1 r2=>cases r2;exact⟨_,rfl,r1⟩
theorem vals2{x y:V}{us:List Value}(r:As [x,y] us):∃u w',us=[u,w']/\RelV x u/\RelV y w':=by
 cases r with
 |cons r1 r2=>
  cases r2 with
  |cons r3 r4=>cases r4;exact⟨_,_,rfl,r1,r3⟩
theorem gF:Cz X (.builtin "abs") (λxs H Q=>∃i,xs=[.int i]/\Q (.int (if i<0 then -i else i)) H):=by intro AE s σ H xs us Q I r h;obtain⟨i,rfl,q⟩:=h;obtain⟨u,rfl,t,rfl⟩:=vals1 r;exact call_abs_int λu tk=>⟨.int (if i<0 then -i else i),H,I.tok _,⟨_,rfl⟩,q⟩
theorem gQ(hc:X.calm=true):Cz X (.builtin "max") (λxs H Q=>∃i j,xs=[.int i,.int j]/\Q (.int (if j>i then j else i)) H):=by
 intro AE s σ H xs us Q I r h;obtain⟨i,j,rfl,q⟩:=h;obtain⟨u,w',rfl,⟨t,rfl⟩,⟨t',rfl⟩⟩:=vals2 r;refine max_two_ints (I.ok.hd hc) λh' tk k=>⟨_,H,I.kept k,?_,q⟩;by_cases hj:j>i
 .rw[AAl hj,AAl hj];exact⟨_,rfl⟩
 .rw[AAj hj,AAj hj];exact⟨_,rfl⟩
theorem gS(hc:X.calm=true):Cz X (.builtin "min") (λxs H Q=>∃i j,xs=[.int i,.int j]/\Q (.int (if j<i then j else i)) H):=by
 intro AE s σ H xs us Q I r h;obtain⟨i,j,rfl,q⟩:=h;obtain⟨u,w',rfl,⟨t,rfl⟩,⟨t',rfl⟩⟩:=vals2 r;refine min_two_ints (I.ok.hd hc) λh' tk k=>⟨_,H,I.kept k,?_,q⟩;by_cases hj:j<i
 .rw[AAl hj,AAl hj];exact⟨_,rfl⟩
 .rw[AAj hj,AAj hj];exact⟨_,rfl⟩
end
set_option tactic.hygienic true
structure RG(h:Heap)(x dx C:Addr)(mA:Str->Option Value):Prop where
 obj:h.get? x=some (PySem.W.instObj C dx)
 ns:h.Ns1 dx mA
 ne:dx≠x
theorem oP{h:Heap}{dx:Addr}{mA:Str->Option Value}(n:h.Ns1 dx mA):∃od,h.get? dx=some od/\∀name,PySem.W.lookIn name od=some (mA name):=by
 obtain⟨o,es,ep,ho,hd,hk,_,hm⟩:=n;refine⟨o,ho,λname=>?_⟩;have e:=hm name;unfold nsFind findBy at e;rw[<-Array.find?_toList]at e;unfold PySem.W.lookIn;rw[hd];dsimp only;split
 .rename_i y q;rw[q]at e;exact ACE some e
 .rename_i q;rw[q]at e;have a:es.toList.any (·.refKey)=false:=by rw[ACD];intro y hy;obtain⟨z,t,Sl⟩:=hk y<|Array.mem_toList_iff.mp hy;simp[DictEntry.refKey,Sl]
  have a':¬ es.toList.any (·.refKey)=true:=by rw[a];exact AB7
  rw[AAj a'];exact ACE some e
set_option tactic.hygienic false
theorem RG.look{h:Heap}{x dx C:Addr}{mA:Str->Option Value}(I:RG h x dx C mA):∃od,PySem.W.InstAt h x (PySem.W.instObj C dx) C (some od)/\∀name,PySem.W.lookIn name od=some (mA name):=
 let ⟨od,ho,hl⟩:=oP I.ns
 ⟨od,⟨I.obj,rfl,rfl,ho⟩,hl⟩
section
variable{prog:Program}{w:World}{A:Around}{E:Value->Shared->Prop}{s:Shared}{K:PySem.W.Frag}{x dx C f:Addr}{mA:Str->Option Value}{name:Str}{v:Value}
end
theorem Fh.some_of{v:V}{o:Option Value}(r:Fh (some v) o):∃u,o=some u/\RelV v u:=by
 cases o with
 |none=>exact(show False from r).elim
 |some u=>exact⟨u,rfl,r⟩
section
variable{P:Program}{w:World}{H H':Hp}{h h':Heap}{a C dx:Addr}{fs kF:List (Str×V)}
theorem nE(Af:Bo P w H h)(e:H a=some (.ins C dx fs)):∃mA,RG h a dx C mA/\(∀f,Fh (fs.lookup f)<|mA f)/\PySem.Within mA (fs.map (·.1))/\fs.length<=1000/\H dx=some (.own a):=by obtain⟨d,z,ne,ob,mA,n,r,q⟩:=(show B1 P w H h a (.ins C dx fs)from Af a _ e);exact⟨mA,⟨ob,n,ne⟩,r,q,z,d⟩
end
structure Qp(K:PySem.W.Frag)(C:Addr):Prop where
 pg:PySem.W.plainGet K C Str.empty=true
 hd:PySem.W.hasDictIn K C=true
 po:PySem.W.plainOver K C=true
 sa:PySem.W.findIn K (.ref C) "__setattr__" = some (some<|.builtin "object.__setattr__")
theorem Qp.get{K:PySem.W.Frag}{C:Addr}(c:Qp K C)(f:Str):PySem.W.plainGet K C f=true:=c.pg
structure zX(K:PySem.W.Frag)(C:Addr)(f:Str)(v:V)(u:Value):Prop where
 at_:PySem.W.findIn K (.ref C) f=some (some u)
 rel:RelV v u
 get:PySem.W.specialIn K u "__get__" = some none
 cp:PySem.W.copiedNames.contains f=false
structure Meth(K:PySem.W.Frag)(C:Addr)(m:Str)(f:Addr):Prop where
 at_:PySem.W.findIn K (.ref C) m=some (some<|.ref f)
 fn:PySem.W.isFn K (.ref f)=true
 kp:PySem.W.keepIn K (.ref f)=true
section
variable{X:Cx}{AE:List (Addr×Obj)}{σ:St}{H:Hp}{s:Shared}{a C dx:Addr}{fs:List (Str×V)}{f:Str}{v:V}{A:Around}{E:Value->Shared->Prop}
end
section
variable{X:Cx}{o e value:Expr}{f:Str}{pos pos' EZ:Pos}{ta tv:TE}
end
section
variable{X:Cx}{AE:List (Addr×Obj)}{σ:St}{H:Hp}{s:Shared}{A:Around}{E:Value->Shared->Prop}{Q:Value->Shared->Prop}{c:Value}{b:Bool}
inductive Ez(K:PySem.W.Frag)(H:Hp):V->Value->Prop where
 |Au:Ez K H .Au<|.type "NoneType"
 |bl (x:Bool):Ez K H (.bl x)<|.type "bool"
 |int (i:Int):Ez K H (.int i)<|.type "int"
 |str (x:Str):Ez K H (.str x)<|.type "str"
 |Kw (x:UInt64):Ez K H (.Kw x)<|.type "float"
 |lst {a:Addr} {xs:List V} (e:H a=some (.lst xs)):Ez K H (.ref a)<|.type "list"
 |D5 {a:Addr} {o:Obj} {xs:List V} (e:H a=some (.D5 o<|.lst xs)):Ez K H (.ref a)<|.type "list"
 |tup {a:Addr} {xs:List V} (e:H a=some (.tup xs)):Ez K H (.ref a)<|.type "tuple"
 |dK {a:Addr} {AR:List (Key×V)} (e:H a=some (.dK AR)):Ez K H (.ref a)<|.type "dict"
 |dT {a:Addr} {AR:List (List Key×V)} (e:H a=some (.dT AR)):Ez K H (.ref a)<|.type "dict"
 |ins {a C dx:Addr} {fs:List (Str×V)} (e:H a=some (.ins C dx fs)) (cl:Qp K C) (ha:PySem.W.findIn K (.ref C) "__class__" = some (some<|.builtin "object.__class__")) (hn:PySem.W.specialIn K (.builtin "object.__class__") "__get__" = some (some<|.builtin "getset_descriptor.__get__")) (K7:PySem.W.takesIn K (.builtin "object.__class__")=some true) (hm:PySem.W.mroIn K C (.type "object")=some true):Ez K H (.ref a)<|.ref C
theorem nJ{x:V}{u t:Value}(I:Inv X AE σ H s)(rx:RelV x u)(ty:Ez X.K H x t)(e:PySem.W.kitOne X.K t c=some b)(h:∀tk,Q (.bool b) {s with toks:=tk}) : wpAny (model X.prog X.w) A (call (.builtin "isinstance") [u,c]) Q E s:=by
 cases ty with
 |Au=>cases (show u=Value.none from rx);exact AB4 PySem.W.kitx_none I.BC True.intro e (λz=>nomatch z) h
 |bl y=>cases (show u=Value.bool y from rx);exact AB4 PySem.W.kitx_bool I.BC True.intro e (λz=>nomatch z) h
 |int i=>obtain⟨t,q⟩:=(show ∃t,u=Value.int i t from rx);cases q;exact AB4 PySem.W.kitx_int I.BC True.intro e (λz=>nomatch z) h
 |str y=>obtain⟨t,q⟩:=(show ∃t,u=Value.str y t from rx);cases q;exact AB4 PySem.W.kitx_str I.BC True.intro e (λz=>nomatch z) h
 |Kw y=>obtain⟨t,q⟩:=(show ∃t,u=Value.float y t from rx);cases q;exact AB4 PySem.W.kitx_float I.BC True.intro e (λz=>nomatch z) h
 |@lst a xs ea=>
  cases (show u=Value.ref a from rx);obtain⟨_,_,n,_,h1⟩:=(show B1 X.prog X.w H s.heap a (.lst xs)from I.Af a _ ea);exact AB4 PySem.W.kitx_list I.BC ⟨_,h1,rfl⟩ e (λz=>nomatch z) h
 |@D5 a ob xs ea=>
  cases (show u=Value.ref a from rx);obtain⟨_,_,_,n,_,h1⟩:=(show B1 X.prog X.w H s.heap a (.D5 ob<|.lst xs)from I.Af a _ ea);exact AB4 PySem.W.kitx_list I.BC ⟨_,h1,rfl⟩ e (λz=>nomatch z) h
 |@tup a xs ea=>
  cases (show u=Value.ref a from rx);obtain⟨_,_,_,p⟩:=(show B1 X.prog X.w H s.heap a (.tup xs)from I.Af a _ ea);obtain⟨o,h1,h2,_⟩:=p;exact AB4 PySem.W.kitx_tuple I.BC ⟨o,h1,h2⟩ e (λz=>nomatch z) h
 |@dK a AR ea=>
  cases (show u=Value.ref a from rx);obtain⟨_,_,vs,_,p⟩:=(show B1 X.prog X.w H s.heap a (.dK AR)from I.Af a _ ea);obtain⟨o,es,ep,h1,h2,_⟩:=p;exact AB4 PySem.W.kitx_dict I.BC ⟨o,h1,h2.1⟩ e (λz=>nomatch z) h
 |@dT a AR ea=>
  cases (show u=Value.ref a from rx);obtain⟨_,_,xs,_,o,es,ep,h1,h2,_⟩:=(show B1 X.prog X.w H s.heap a (.dT AR)from I.Af a _ ea);exact AB4 PySem.W.kitx_dict I.BC ⟨o,h1,h2.1⟩ e (λz=>nomatch z) h
 |@ins a C dx fs ea cl ha hn K7 hm=>
  cases (show u=Value.ref a from rx);obtain⟨mA,O,_⟩:=nE I.Af ea;obtain⟨od,J,_⟩:=O.look;exact AB4 (PySem.W.kitx_own (cl.get _) cl.hd ha hn K7 hm) I.BC J e (λz=>nomatch z) h
end
structure Br(k:Nat)(A:Around):Prop where
 hd:A.handled=none
 dp:A.depth+3*k+5<recursionLimit
 un:A.units+16*k+200<cLine
theorem Br.mono{j k:Nat}{A:Around}(r:Br k A)(h:j<=k):Br j A:=⟨r.hd,by have:=r.dp;lia,by have:=r.un;omega⟩
theorem Br.deeper{k:Nat}{A:Around}(r:Br (k+1) A)(env:Env):Br k<|A.deeper env:=
 ⟨r.hd,by have:=r.dp;show A.depth+1+3*k+5<_;lia,by have:=r.un;show A.units+3+16*k+200<_;omega⟩
theorem Br.depth{k:Nat}{A:Around}(r:Br k A):A.depth<recursionLimit:=by have:=r.dp;lia
theorem Br.units{k:Nat}{A:Around}(r:Br k A):A.units+64<cLine:=by have:=r.un;lia
def xf:TA:=λ_ H Q=>Q [] H
def xS(ta:TE)(tr:TA):TA:=λσ H Q=>ta σ H λx H1=>tr σ H1 λxs H2=>Q (x::xs) H2
section
variable{X:Cx}{e:Expr}{es:List Expr}{te:TE}{t:TA}{pos:Pos}
theorem F9:PA X [] xf:=λ_ _ _ _ H Q I h=>Calls.spliced_nil ⟨[],H,I,.nil,h⟩
theorem EW(ha:PE X e te)(hr:PA X es t)(hs:starEach (e::es) X.env=(false,eval e X.env)::starEach es X.env:=by rfl):PA X (e::es)<|xS te t:=by intro pos AE s σ H Q I h;rw[hs];show wpAny _ _ (spliced ((false,eval e X.env)::backTo pos (starEach es X.env))) _ _ s;refine Calls.spliced_cons<|Aj (ha AE s σ H _ I h) λu s1 ⟨x,H1,I1,r1,q1⟩=>?_;exact Aj (hr pos AE s1 σ H1 _ I1 q1) (by rintro us s2 ⟨xs,H2,I2,r2,q2⟩;exact⟨x::xs,H2,I2,.cons r1 r2,q2⟩)
def xw(t:TA):TE:=λσ H Q=>t σ H λxs H1=>xs.length<=sizeLine/\∀p,H1 p=none->Q (.ref p) (upd H1 p<|.tup xs)
def xY(t:TA):TE:=λσ H Q=>t σ H λxs H1=>xs.length<=sizeLine/\∀p,H1 p=none->Q (.ref p) (upd H1 p<|.lst xs)
theorem P8{x1}(h:PA X es t):PE X (.Tuple es x1 pos)<|xw t:=by intro AE s σ H Q I hq;refine wpAny_Tuple_spliced (Aj (h pos AE s σ H _ I hq) λus s1 ⟨xs,H1,I1,r,z,q⟩=>⟨by rw[<-r.length];exact z,?_⟩);have hf:=I1.Af.fresh<|AAw _;refine⟨.ref s1.heap.objs.size,upd H1 s1.heap.objs.size<|.tup xs,I1.laid (λb u e=>Heap.get?_push_of_some _ e) (AAw _) ?_,rfl,q _ hf⟩;exact⟨z,us,r,⟨_,Heap.get?_push_size _ rfl,rfl,_,rfl⟩⟩
theorem rH(h:PA X es t):PE X (.List es pos)<|xY t:=by intro AE s σ H Q I hq;refine wpAny_List_spliced (Aj (h pos AE s σ H _ I hq) λus s1 ⟨xs,H1,I1,r,z,q⟩=>⟨by rw[<-r.length];exact z,?_⟩);have hf:=I1.Af.fresh<|AAw _;refine⟨.ref s1.heap.objs.size,upd H1 s1.heap.objs.size<|.lst xs,I1.laid (λb u e=>Heap.get?_push_of_some _ e) (AAw _) ?_,rfl,q _ hf⟩;exact⟨z,us,0,r,Heap.get?_push_size _ rfl⟩
end
abbrev Sp:=List V->Hp->VK->XK->Prop
abbrev EB:=List Env->Hp->Shared->XK->Value->Shared->Prop
structure JY(P:Program)(w:World)(K:PySem.W.Frag)(mg:Str->Option Value)(base:Heap)(A:Around)(outer:List Env)(s:Shared)(H:Hp):Prop where
 frames:A.frames=some outer
 mod:Mod K mg base
 bs:∀b o,base.get? b=some o->s.heap.get? b=some o/\H b=none
 E1:base.objs.size<=s.heap.objs.size
 Dt:s.heap.FunFrames base outer
 Fs:∀b∈Cp outer,H b=none
 Af:Bo P w H s.heap
 bare:AllBare s.gens
def CE(outer:List Env)(P:Program)(w:World)(H:Hp)(s:Shared)(Q:VK)(u:Value)(s':Shared):Prop:=
 ∃v H',s'.os=s.os/\AllBare s'.gens/\Un (Cp outer) [] H H' s.heap s'.heap/\Bo P w H' s'.heap/\RelV v u/\Q v H'
def CR(CX:EB)(outer:List Env)(P:Program)(w:World)(H:Hp)(s:Shared)(Q:VK)(E:XK)(r:Result)(s':Shared):Prop:=
 match r with
 |.ok (.ret u)=>CE outer P w H s Q u s'
 |.ok _=>False
 |.error e=>CX outer H s E e s'
structure Cd(P:Program)(w:World)(K:PySem.W.Frag)(mg:Str->Option Value)(base:Heap)(CX:EB)(k:Nat)(f:Addr)(fd:FuncData)(ps:List Str)(sp:Sp):Prop where
 len:∀vs H Q E,sp vs H Q E->vs.length=ps.length
 run:∀(A:Around)(outer:List Env)(s:Shared)(H:Hp)(args:Args)(us:List Value)(vs:List V)(Q:VK)(E:XK),Br k A->JY P w K mg base A outer s H->BindsTo s fd args (ps.zip us)->As vs us->sp vs H Q E->codeAny (model P w) A (.call (.ref f) args) (CR CX outer P w H s Q E) s
theorem Cd.mono{P:Program}{w:World}{K:PySem.W.Frag}{mg:Str->Option Value}{base:Heap}{CX:EB}{j k:Nat}{f:Addr}{fd:FuncData}{ps:List Str}{sp:Sp}(F:Cd P w K mg base CX j f fd ps sp)(h:j<=k) : Cd P w K mg base CX k f fd ps sp:=⟨F.len,λA outer s H args us vs Q E hr=>F.run A outer s H args us vs Q E<|hr.mono h⟩
theorem Cd.imp{P:Program}{w:World}{K:PySem.W.Frag}{mg:Str->Option Value}{base:Heap}{CX:EB}{k:Nat}{f:Addr}{fd:FuncData}{ps:List Str}{sp bW:Sp}(F:Cd P w K mg base CX k f fd ps sp) (h:∀vs H Q E,bW vs H Q E->sp vs H Q E):Cd P w K mg base CX k f fd ps bW:=
 ⟨λvs H Q E q=>F.len vs H Q E<|h _ _ _ _ q,λA outer s H args us vs Q E hr he hb hv hs=>F.run A outer s H args us vs Q E hr he hb hv<|h _ _ _ _ hs⟩
section
variable{X:Cx}{AE:List (Addr×Obj)}{σ:St}{H:Hp}{s s':Shared}
theorem Inv.R3(I:Inv X AE σ H s):JY X.prog X.w X.K X.mg X.base X.A X.stack s H:=
 ⟨I.ok.frames,I.ok.mod,I.bs,ABe I.ok.E1 I.sz,I.stack,I.U6,I.Af,I.bare⟩
theorem Inv.after{Q:VK}{u:Value}(I:Inv X AE σ H s)(h:CE X.stack X.prog X.w H s Q u s'):EP X AE σ Q u s':=by obtain⟨v,H',os,bare,un,Af,r,q⟩:=h;obtain⟨hh,g,d,t,qf⟩:=s';obtain rfl:qf=s.os:=os;exact⟨v,H',I.call un Af bare λb z=>absurd z AAd,r,q⟩
end
def xQ(sp:Sp)(Jk:List V)(E:XK)(t:TA):TE:=λσ H Q=>t σ H λvs H1=>sp (vs++Jk) H1 Q E
def Binds(K:PySem.W.Frag)(fd:FuncData)(ps:List Str)(ds:List Value):Prop:=
 ∀(s:Shared)(us:List Value),K.In s.heap->(us++ds).length=ps.length->BindsTo s fd ⟨us,[]⟩ (ps.zip<|us++ds)
theorem Binds.all{K:PySem.W.Frag}{fd:FuncData}{ps:List Str}(h:∀us:List Value,us.length=ps.length->bindArgs fd ⟨us,[]⟩=pure (ps.zip us)):Binds K fd ps []:=λs us _ hl=>by rw[ABs]at hl ⊢;exact .of_eq<|h us hl
def Passes(CX:EB)(X:Cx)(E:XK):Prop:=∀(AE:List<|Addr×Obj)(σ:St)(H:Hp)(s:Shared)(e:Value)(s':Shared),Inv X AE σ H s->CX X.stack H s E e s'->X.xe e s'
section
variable{X:Cx}{CX:EB}{k:Nat}{f C:Addr}{fd:FuncData}{ps:List Str}{sp:Sp}{Jk:List V}{ds:List Value}{E:XK}{x m:Str}{p pos apos:Pos}{e o:Expr}{es:List Expr}{ta:TE}{t:TA}
theorem wK{AE:List (Addr×Obj)}{σ:St}{H:Hp}{s:Shared}{Q:VK}{us:List Value}{vs:List V}(F:Cd X.prog X.w X.K X.mg X.base CX k f fd ps sp)(hr:Br k X.A)(hb:Binds X.K fd ps ds)(hd:As Jk ds)(hx:Passes CX X E) (I:Inv X AE σ H s) (r:As vs us) (h:sp (vs++Jk) H Q E):wpAny (model X.prog X.w) X.A (call (.ref f) us) (EP X AE σ Q) X.xe s:=by
 have r2:=r.append hd;have hl:(us++ds).length=ps.length:=by rw[<-r2.length];exact F.len _ _ _ _ h
 refine wpAny_call<|codeAny_mono (F.run X.A X.stack s H ⟨us,[]⟩ (us++ds) (vs++Jk) Q E hr I.R3 (hb s us I.BC hl) r2 h) λr s' hq=>?_;cases r with
 |error e=>exact hx AE σ H s e s' I hq
 |ok fl=>
  cases fl with
  |ret u=>exact I.after hq
  |next=>exact False.elim hq
  |brk=>exact False.elim hq
  |cont=>exact False.elim hq
theorem UW(F:Cd X.prog X.w X.K X.mg X.base CX k f fd ps sp)(hr:Br k X.A)(hg:Gl X x)(hm:X.mg x=some (.ref f))(hk:PySem.W.keepIn X.K (.ref f)=true)(hb:Binds X.K fd ps ds)(hd:As Jk ds)(hx:Passes CX X E) (ha:PA X (e::es) t) (CA:(x==("__debug__"))=false:=by decide) (he:starEach (e::es) X.env=(false,eval e X.env)::starEach es X.env:=by rfl) (A7:(backTo pos<|starEach es X.env).any (·.1)=false:=by rfl) : PE X (.Call (.Name x p) (e::es) [] pos)<|xQ sp Jk E t:=by intro AE s σ H Q I h;refine wpAny_Call_Name_kw<|LJ I hg hm ?_ CA;refine PySem.W.callWith_K I.ok.mod.LI hk (Aj (ha pos AE s σ H _ I h) λus s1 ⟨vs,H1,I1,r,q⟩=>⟨I1.BC,?_⟩) he A7;exact wK F hr hb hd hx I1 r q
structure Mk(K:PySem.W.Frag)(C f:Addr):Prop where
 makes:PySem.W.makesIn K C=true
 init:PySem.W.findIn K (.ref C) "__init__" = some (some<|.ref f)
 fn:PySem.W.isFn K (.ref f)=true
 kp:PySem.W.keepIn K (.ref C)=true
end
section
variable{X:Cx}{CX:EB}{k:Nat}{f C:Addr}{fd:FuncData}{ps ks:List Str}{sp:Sp}{E:XK}{x m:Str}{p pos apos AAM:Pos}{e o:Expr}{es:List Expr}{kws:List Keyword}{te ta:TE}{t tk:TA}{nm:Option Str}
structure zY(K:PySem.W.Frag)(fd:FuncData)(ps ks:List Str)(g:List Value->List Value->List Value)(gV:List V->List V->List V):Prop where
 to:∀(s:Shared)(us ws:List Value),K.In s.heap->(g us ws).length=ps.length->BindsTo s fd ⟨us,ks.zip ws⟩ (ps.zip<|g us ws)
 rel:∀{vs:List V}{us:List Value}{zs:List V}{ws:List Value},As vs us->As zs ws->As (gV vs zs) (g us ws)
variable{g:List Value->List Value->List Value}{gV:List V->List V->List V}
end
structure HI(N P:List Str)(sc:Scope):Prop where
 kind:sc.kind=.function
 co:sc.isCoroutine=false
 gen:sc.isGenerator=false
 nd:N.Nodup
 pre:N.take P.length=P
 par:∀x∈P,sc.names.lookup x=some .local\/sc.names.lookup x=some .cell
 o8:∀y∈sc.names,y.2≠.free
theorem V5{kindOf:Str->Option NameKind}{x:Str}:∀{binds:List (Str×Value)}{m:Str->Option Value},(∀v,(x,v)∉binds)->bindL kindOf binds m x=m x
 |[],_,_=>rfl
 |(n,v)::r,m,h=>by
  unfold bindL;rw[V5 λw hw=>h w<|AAs _ hw];split
  .have:x≠n:=by rintro rfl;exact h v AAu
   simp[this]
  .rfl
theorem V3{kindOf:Str->Option NameKind}{x:Str}:∀{binds:List (Str×Value)}{m:Str->Option Value},(∀v,(x,v)∉binds)->bindC kindOf binds m x=m x
 |[],_,_=>rfl
 |(n,v)::r,m,h=>by
  unfold bindC;rw[V3 λw hw=>h w<|AAs _ hw];split
  .rfl
  .have:x≠n:=by rintro rfl;exact h v AAu
   simp[this]
theorem V4{kindOf:Str->Option NameKind}{x:Str}{v:Value}:∀{P:List Str}{vs:List Value}{i:Nat}{m:Str->Option Value},P.Nodup->P[i]? = some x->vs[i]? = some v->kindOf x=some .local->bindL kindOf (P.zip vs) m x=some v
 |[],_,_,_,_,h,_,_=>by simp at h
 |_::_,[],_,_,_,_,h,_=>by simp at h
 |p::P,w::vs,0,m,nd,h1,h2,hk=>by simp at h1 h2;subst h1;subst h2;show bindL kindOf ((p,w)::P.zip vs) m p=_;unfold bindL;rw[V5 λv hv=>(ACK.mp nd).1 (ADa hv).1,AAl hk];simp
 |p::P,w::vs,i+1,m,nd,h1,h2,hk=>by show bindL kindOf ((p,w)::P.zip vs) m x=_;exact V4 (ACK.mp nd).2 (by simpa using h1) (by simpa using h2) hk
theorem V2{kindOf:Str->Option NameKind}{x:Str}{v:Value}:∀{P:List Str}{vs:List Value}{i:Nat}{m:Str->Option Value},P.Nodup->P[i]? = some x->vs[i]? = some v->kindOf x≠some .local->bindC kindOf (P.zip vs) m x=some v
 |[],_,_,_,_,h,_,_=>by simp at h
 |_::_,[],_,_,_,_,h,_=>by simp at h
 |p::P,w::vs,0,m,nd,h1,h2,hk=>by simp at h1 h2;subst h1;subst h2;show bindC kindOf ((p,w)::P.zip vs) m p=_;unfold bindC;rw[V3 λv hv=>(ACK.mp nd).1 (ADa hv).1,AAj hk];simp
 |p::P,w::vs,i+1,m,nd,h1,h2,hk=>by show bindC kindOf ((p,w)::P.zip vs) m x=_;exact V2 (ACK.mp nd).2 (by simpa using h1) (by simpa using h2) hk
noncomputable def start(N:List Str)(vs:List V):St:=vs.map some++List.replicate (N.length-vs.length) none
noncomputable def Fl(CX:EB)(P:Program)(w:World)(K:PySem.W.Frag)(mg:Str->Option Value)(base:Heap)(N:List Str)(qual:Str)(scope:Scope)(f:Addr)(cd:Value)(A:Around)(outer:List Env)(s:Shared)(H:Hp)(E:XK):Cx where
 prog:=P
 w:=w
 K:=K
 mg:=mg
 base:=base
 A:=A.deeper<|envOfC qual scope s.heap.objs.size f cd
 N:=N
 B5:=s
 AU:=H
 env:=envOfC qual scope s.heap.objs.size f cd
 outer:=outer
 stack:=envOfC qual scope s.heap.objs.size f cd::outer
 ex:=[]
 calm:=true
 fn:=λ_=>true
 pn:=[]
 xe:=λe s'=>wpAny (model P w) (A.deeper<|envOfC qual scope s.heap.objs.size f cd) (leaving (envOfC qual scope s.heap.objs.size f cd) e) (λ_ JM=>CX outer H s E e JM) (λe' JM=>CX outer H s E e' JM) s'
theorem OB{sc:Scope}{n:Nat}{x:Str}(h:sc.names.lookup x=some .cell):∃c,(cellsFrom n sc.names []).lookup x=some c:=by have q:=ADT sc.names n []<|.inl h;exact Option.isSome_iff_exists.mp q
theorem Yu{CX:EB}{P:Program}{w:World}{K:PySem.W.Frag}{mg:Str->Option Value}{base:Heap}{N ps:List Str}{qual:Str}{scope:Scope}{f:Addr}{cd:Value}{A:Around}{outer:List Env}{s s1:Shared}{H:Hp}{E:XK}{us:List Value}{vs:List V} (S:HI N ps scope) (hd:A.handled=none) (e0:JY P w K mg base A outer s H) (hl:vs.length=ps.length) (r:As vs us) (x:InCallC s s.heap.objs.size (bindL (envOfC qual scope s.heap.objs.size f cd).kindOf (ps.zip us) λ_=>none) (cellsFrom (s.heap.objs.size+1) scope.names []) (bindC (envOfC qual scope s.heap.objs.size f cd).kindOf (ps.zip us) λ_=>none) s1) :
 Inv (Fl CX P w K mg base N qual scope f cd A outer s H E) [] (start N vs) H s1:=by
 have A7:ps.length<=N.length:=by have:=ACE List.length S.pre;rw[ACQ]at this;lia
 obtain⟨h1,tk,rfl,hk⟩:=x.done;have ND:∀b:Addr,b∉(Fl CX P w K mg base N qual scope f cd A outer s H E).ex:=λb z=>absurd (show b∈([])from z) AAd;refine⟨⟨e0.mod,S.kind,rfl,rfl,AAw _,λy z c h1 h2=>?_,λy hy=>?_,λy c _ h=>?_,λ_=>hd,Around.frames_deeper e0.frames,.inr ⟨rfl,rfl⟩,λb z=>absurd z (ND b),e0.bs,e0.E1,λb _ _=>ND b,λb z=>absurd z (ND b),e0.Dt,e0.Fs⟩,
  rfl,e0.bare,Un.kept hk,⟨_,x.toInCall.ns,λi y v h1 h2 h3=>?_⟩,λy c h=>⟨_,x.cell y c h⟩,e0.Af.fresh<|AAw _,λy c h=>?_,λp hp=>absurd (show p∈([])from hp) AAd,e0.Af.kept hk,?_⟩
 .exact name_of_addr x.apart (ABk h1)<|ABk h2
 .rcases hy with hy|hy
  .exact OB hy
  .exact absurd rfl (S.o8 _<|ABk hy)
 .exact ACf<|x.above y c<|ABk h
 .have hi:i<vs.length:=by
   unfold start at h2;by_cases hi:i<vs.length
   .exact hi
   .rw[ABL<|by simpa using hi]at h2;rw[AB9]at h2;split at h2<;>nomatch h2
  have ha:vs[i]? = some v:=by
   unfold start at h2;rw[ABH (by simpa using hi),ABm]at h2;cases e:vs[i]? with
   |none=>rw[e]at h2;contradiction
   |some a=>rw[e]at h2;cases h2;rfl
  obtain⟨u,hu,rv⟩:=r.get ha;have hp:ps[i]? = some y:=by rw[<-S.pre,ADs U];exact h1
  have Zo:ps.Nodup:=by rw[<-S.pre];exact S.nd.sublist<|ADp _ _
  refine⟨u,rv,?_⟩;rcases S.par y (ABv hp)with k|k
  .exact .inl ⟨k,V4 Zo hp hu k⟩
  .obtain⟨c,e⟩:=OB k;refine .inr ⟨.inl k,c,e,?_⟩;have q:=x.cell y c e;rw[V2 Zo hp hu (by show scope.names.lookup y≠_;rw[k];decide)]at q;exact q
 .exact e0.Af.fresh<|ACf<|x.above y c<|ABk h
 .unfold start;show _=N.length;simp only[ABA,AAi,ACR];lia
theorem Xw{CX:EB}{P:Program}{w:World}{K:PySem.W.Frag}{mg:Str->Option Value}{base:Heap}{k:Nat}{f:Addr}{name qual:Str}{params:Arguments}{body:List Stmt}{scope:Scope}{dV kV doc pm A1 ct oc:Value}{an od:Option Addr} {F8:Array (Option Value)} {N ps:List Str} {sp:Sp} (lk:K.lookup f=some ⟨oc,od,.func<|PySem.W.fnOf name qual params body scope dV kV doc pm an A1 ct,F8⟩) (BV:PySem.W.codeIn K A1 qual=true) (S:HI N ps scope) (len:∀vs H Q E,sp vs H Q E->vs.length=ps.length) (Fv:∀(A:Around)(outer:List Env)(s:Shared)(H:Hp)(vs:List V)(Q:VK)(E:XK),Br k (A.deeper<|envOfC qual scope s.heap.objs.size f A1)->sp vs H Q E->
  ∃t,Ce (Fl CX P w K mg base N qual scope f A1 A outer s H E) body t/\t {nx:=λ_ H'=>Q .Au H',rt:=Q} (start N vs) H) :
 Cd P w K mg base CX (k+1) f (PySem.W.fnOf name qual params body scope dV kV doc pm an A1 ct) ps sp:=by
 refine⟨len,λA outer s H args us vs Q E hr e0 hb r DY=>?_⟩;have hl:=len _ _ _ _ DY;have KX:=e0.mod.LI.keeps λb o e=>(e0.bs b o e).1;have lim:=e0.mod.nolimit.keeps λb o e=>(e0.bs b o e).1;have Sn:∀y∈ps.zip us,scope.names.lookup y.1=some .local\/(scope.names.lookup y.1=some .cell/\((cellsFrom (s.heap.objs.size+1) scope.names []).lookup y.1).isSome=true):=(by
  rintro⟨n,v⟩ hy;rcases S.par n (ADa hy).1 with q|q
  .exact .inl q
  .exact .inr ⟨q,ADT _ _ _<|.inl q⟩)
 refine codeAny_call_function hr.depth (KX _ _ lk) rfl S.co S.gen rfl (PySem.W.codeRec_of KX BV)<|hb _ _ _ _ ?_;refine wpAny_newFunctionEnv_cells S.kind Sn λenv he s1 x=>?_;subst he;refine⟨lim.keeps x.toInCall.keep,codeAny_func ?_⟩;obtain⟨t,ht,hq⟩:=Fv A outer s H vs Q E (hr.deeper _) DY;have I:Inv (Fl CX P w K mg base N qual scope f A1 A outer s H E) [] (start N vs) H s1:=Yu S hr.hd e0 hl r x;refine wpAny_mono (ht [] s1 (start N vs) H _ I hq) (λfl s' hs=>?_) λe s' hs=>hs;have fin:∀{Ac:St}{H':Hp}{v:V}{u:Value},Inv (Fl CX P w K mg base N qual scope f A1 A outer s H E) [] Ac H' s'->RelV v u->Q v H'->CE outer P w H s Q u s':=
  λ{Ac H' v u} J rv q=>⟨v,H',J.os,J.bare,J.base,J.Af,rv,q⟩
 cases fl with
 |ret u=>
  obtain⟨v,Ac,H',J,rv,q⟩:=hs;exact fin J rv q
 |next=>
  obtain⟨Ac,H',J,q⟩:=hs;exact fin (v:=V.Au) J rfl q
 |brk=>
  obtain⟨_,_,_,q⟩:=hs;exact False.elim q
 |cont=>
  obtain⟨_,_,_,q⟩:=hs;exact False.elim q
section
variable{X:Cx}{x:Str}{p pos:Pos}{e:Expr}{es:List Expr}{t:TA}{id T:String}{r:List V->Hp->VK->Prop}
def VD(r:List V->Hp->VK->Prop)(t:TA):TE:=λσ H Q=>t σ H λvs H1=>r vs H1 Q
theorem NJ(hc:Cz X (.builtin id) r)(hg:Gl X x)(hm:X.mg x=none)(hv:bootBuiltins x=some (.builtin id))(ha:PA X (e::es) t)(hn:x≠"__name__":=by decide)(CA:(x==("__debug__"))=false:=by decide) (he:starEach (e::es) X.env=(false,eval e X.env)::starEach es X.env:=by rfl) (A7:(backTo pos<|starEach es X.env).any (·.1)=false:=by rfl):PE X (.Call (.Name x p) (e::es) [] pos)<|VD r t:=by intro AE s σ H Q I h;refine wpAny_Call_Name_kw<|M5 I hg hm hv ?_ hn CA;exact PyProof.Rows.callWith_builtin1 (Aj (ha pos AE s σ H _ I h) (by rintro us s1 ⟨vs,H1,I1,r1,q1⟩;exact hc AE s1 σ H1 vs us Q I1 r1 q1)) he A7
theorem aH(hc:Cz X (.type T) r)(hg:Gl X x)(hm:X.mg x=none)(hv:bootBuiltins x=some (.type T))(ha:PA X (e::es) t)(hn:x≠"__name__":=by decide)(CA:(x==("__debug__"))=false:=by decide) (he:starEach (e::es) X.env=(false,eval e X.env)::starEach es X.env:=by rfl) (A7:(backTo pos<|starEach es X.env).any (·.1)=false:=by rfl):PE X (.Call (.Name x p) (e::es) [] pos)<|VD r t:=by intro AE s σ H Q I h;refine wpAny_Call_Name_kw<|M5 I hg hm hv ?_ hn CA;exact AC3 (Aj (ha pos AE s σ H _ I h) (by rintro us s1 ⟨vs,H1,I1,r1,q1⟩;exact hc AE s1 σ H1 vs us Q I1 r1 q1)) he A7
end
end L2
namespace HT
open PySem PyProof.Rows
section
open PySem.SeqAt
open PySem.AutoSeq1 (wpAny_loadPart')
open PySem.MeetsSeq PySem.MeetsSeq2 PySem.MeetsSeq3
end
section
variable{prog:Program}{w:World}{A:Around}{E:Value->Shared->Prop}{s:Shared}
noncomputable def DF(n d:Nat):Option Int->Nat
 |none=>d
 |some v=>if v<0 then(v+(n:Int)).toNat else min v.toNat n
theorem bK(n d:Nat):DF n d none=d:=rfl
theorem bJ(n d k:Nat):DF n d (some<|k)=min k n:=by show(if(k:Int)<0 then((k:Int)+(n)).toNat else min (k:Int).toNat n)=min k n;rw[AAj U,ADq]
end
end HT
set_option tactic.hygienic false
namespace L2
open PySem PySem.Spec PyProof.Rows
abbrev TO:=St->Hp->(Option Int->Hp->Prop)->Prop
def PO(X:Cx)(e:Option Expr)(t:TO):Prop:=
 ∀(AE:List<|Addr×Obj)(s:Shared)(σ:St)(H:Hp)(Q:Option Int->Hp->Prop),Inv X AE σ H s->t σ H Q->wpAny (model X.prog X.w) X.A (evalPart e X.env) (λu s'=>∃o H',Inv X AE σ H' s'/\IsPart u o/\Q o H') X.xe s
def xg:TO:=λ_ H Q=>Q none H
def xm(t:TE):TO:=λσ H Q=>t σ H λx H1=>∃i,x=.int i/\Q (some i) H1
theorem intsAre_of{ns:List Int}:∀{us:List Value},As (ns.map V.int) us->IntsAre us ns:=by
 induction ns with
 |nil=>intro us r;cases r;exact .nil
 |cons n ns ih=>
  intro us r;cases r with
  |cons r1 r2=>
   obtain⟨t,e⟩:=r1;subst e;exact .cons n t<|ih r2
section
variable{X:Cx}{e:Expr}{te:TE}{lo hi:Option Expr}{tl th:TO}{pos p2:Pos}
theorem ri:PO X none xg:=by intro AE s σ H Q I h;exact wpAny_pure ⟨none,H,I,.none,h⟩
theorem rk(h:PE X e te):PO X (some e)<|xm te:=by intro AE s σ H Q I hw;refine Aj (h AE s σ H _ I hw) λu s1 ⟨x,H1,I1,r1,q1⟩=>?_;obtain⟨i,rfl,q⟩:=q1;obtain⟨t,rfl⟩:=r1;exact⟨some i,H1,I1,.int i t,q⟩
def Vv(X:Cx)(r:V->Option Int->Option Int->Hp->VK->Prop):Prop:=
 ∀(AE:List<|Addr×Obj)(s:Shared)(σ:St)(H:Hp)(x:V)(v vl vu:Value)(lo hi:Option Int)(sl:Addr)(Q:VK),Inv X AE σ H s->RelV x v->s.heap.IsSliceOf sl vl vu .none->IsPart vl lo->IsPart vu hi->r x lo hi H Q->∃T id,typeLookup (.type T) "__getitem__" = pure (some<|.builtin id)/\s.TypeIs v T/\wpAny (model X.prog X.w) X.A (getItem v<|.ref sl) (EP X AE σ Q) X.xe s
def xr(r:V->Option Int->Option Int->Hp->VK->Prop)(te:TE)(tl th:TO):TE:=λσ H Q=>te σ H λx H1=>tl σ H1 λl H2=>th σ H2 λu H3=>r x l u H3 Q
theorem rP{r:V->Option Int->Option Int->Hp->VK->Prop}(hr:Vv X r)(he:PE X e te)(hl:PO X lo tl)(hu:PO X hi th):PE X (.Subscript e (.Slice lo hi none p2) pos)<|xr r te tl th:=by intro AE s σ H Q I h;refine Subscript_<|Aj (he AE s σ H _ I h) λv s1 ⟨x,H1,I1,r1,q1⟩=>?_;refine wpAny_Slice<|Aj (hl AE s1 σ H1 _ I1 q1) λvl s2 ⟨l,H2,I2,pl,q2⟩=>Aj (hu AE s2 σ H2 _ I2 q2) λvu s3 ⟨u,H3,I3,pu,q3⟩=>?_;refine wpAny_pure ?_;have I4:Inv X AE σ H3 {s3 with heap:=s3.heap.push {cls:=.type "slice",data:=.fields #[vl,vu,.none]}}:=I3.kept λb ob q=>Heap.get?_push_of_some _ q;obtain⟨T,id,hT,ht,hg⟩:=hr AE {s3 with heap:=s3.heap.push {cls:=.type "slice",data:=.fields #[vl,vu,.none]}} σ H3 x v vl vu l u s3.heap.objs.size Q I4 r1 (Heap.IsSliceOf.new ..) pl pu q3;exact tail_any ht hT hg<|by with_unfolding_all rfl
def OD(xs:List V)(lo hi:Option Int):List V:=(xs.drop<|HT.DF xs.length 0 lo).take<|HT.DF xs.length xs.length hi-HT.DF xs.length 0 lo
theorem iD(xs:List V)(lo hi:Option Int):(OD xs lo hi).length<=xs.length:=by unfold OD;rw[ACQ,AC4];omega
end
noncomputable def Gp(n:Nat)(i:Int):Option Nat:=if 0<=i then(if i<n then some i.toNat else none)else if -(n:Int)<=i then some (i+n).toNat else none
def CY{α:Type}(xs:List α)(i:Int):Option α:=(Gp xs.length i).bind λj=>xs[j]?
theorem nL{n:Nat}{i:Int}{j:Nat}(h:Gp n i=some j):seqIndex? i n=some j/\j<n/\-(n)<=i/\i<n:=by
 unfold Gp at h;by_cases h0:0<=i
 .rw[AAl h0]at h;by_cases h1:i<n
  .rw[AAl h1]at h;have e:=ABF h;exact⟨by rw[seqIndex_of h0 h1,e],AAc,AAc,h1⟩
  .rw[AAj h1]at h;contradiction
 .rw[AAj h0]at h;by_cases h1 : -(n)<=i
  .rw[AAl h1]at h;have e:=ABF h;exact⟨by rw[seqIndex_neg AAc h1,e],AAc,h1,AAc⟩
  .rw[AAj h1]at h;contradiction
theorem Vy{α:Type}{xs:List α}{i:Int}{v:α}(h:CY xs i=some v):∃j,seqIndex? i xs.length=some j/\xs[j]? = some v/\j<xs.length/\-(xs.length)<=i/\i<xs.length:=by
 unfold CY at h;cases e:Gp xs.length i with
 |none=>rw[e]at h;contradiction
 |some j=>
  rw[e]at h;obtain⟨h1,h2,h3,h4⟩:=nL e;exact⟨j,h1,h,h2,h3,h4⟩
def Vr(b:Expr):Prop:=∀o i,subscripted b false o i=operate [o,i] (getItem o i)
def IP(X:Cx)(r:R2):Prop:=
 ∀(value slice:Expr)(AE:List<|Addr×Obj)(s:Shared)(σ:St)(H:Hp)(x y:V)(v u:Value)(Q:VK),Inv X AE σ H s->RelV x v->RelV y u->r x y H Q->subscripted slice false v u=operate [v,u] (getItem v u)->wpAny (model X.prog X.w) X.A (subscriptTail value slice v u) (EP X AE σ Q) X.xe s
def Vp(X:Cx)(id:String)(r:V->List V->Hp->VK->Prop):Prop:=
 ∀(AE:List<|Addr×Obj)(s:Shared)(σ:St)(H:Hp)(x:V)(xs:List V)(v:Value)(us:List Value)(Q:VK),Inv X AE σ H s->RelV x v->As xs us->r x xs H Q->wpAny (model X.prog X.w) X.A (call (.builtin id) (v::us)) (EP X AE σ Q) X.xe s
section
variable{X:Cx}{a b:Expr}{ta tb:TE}{pos:Pos}
theorem IP.or{r r':R2}(h:IP X r)(h':IP X r'):IP X (λx y H Q=>r x y H Q\/r' x y H Q):=by
 intro value slice AE s σ H x y v u Q I rx ry q hs;rcases q with q|q
 .exact h value slice AE s σ H x y v u Q I rx ry q hs
 .exact h' value slice AE s σ H x y v u Q I rx ry q hs
theorem rG{r:R2}(hr:IP X r)(ha:PE X a ta)(hb:PE X b tb)(hs:Vr b):PE X (.Subscript a b pos)<|NY r ta tb:=by intro AE s σ H Q I h;exact Subscript_<|Rc ha hb I h λv u s2 x y H2 I2 rx ry q=>hr a b AE s2 σ H2 x y v u Q I2 rx ry q<|hs _ _
def ak(K:PySem.W.Frag):R2:=λx y H Q=>∃p xs i v,x=.ref p/\y=.int i/\CS K H p xs/\CY xs i=some v/\Q v H
def aq(K:PySem.W.Frag):R2:=λx y H Q=>∃p xs i v,x=.ref p/\y=.int i/\Bs K H p xs/\CY xs i=some v/\Q v H
theorem nN:IP X<|ak X.K:=by
 intro value slice AE s σ H x y v u Q I rx ry h hs;obtain⟨p,xs,i,z,rfl,rfl,hq,he,q⟩:=h;cases rx;obtain⟨t,rfl⟩:=ry;obtain⟨its,r,pl,hz⟩:=I.list hq;obtain⟨j,h1,h2,h3,h4,h5⟩:=Vy he;obtain⟨w,ew,Cs⟩:=r.get h2;have hl:=r.length;have hn:=Tu;have fin:EP X AE σ Q w s:=⟨z,H,I,Cs,q⟩;by_cases h0:0<=i
 .have hj:=by rw[seqIndex_of h0 h5]at h1;exact ABF h1
  exact item_listR pl.isList h0 U (by rw[hj];simpa using ew) fin hs
 .have hj:(i+(its.toArray.size)).toNat=j:=by rw[seqIndex_neg AAc h4]at h1;rw[AA4,<-hl];exact ABF h1
  exact subscriptTail_builtinR pl.isList.typeIs slot_list_getitem.lookup (wpAny_getItem_list_neg pl.isList AAc (by rw[AA4]<;>lia) U (by rw[hj];simpa using ew) ⟨rfl,fin⟩) hs
theorem nO:IP X<|aq X.K:=by intro value slice AE s σ H x y v u Q I rx ry h hs;obtain⟨p,xs,i,z,rfl,rfl,hq,he,q⟩:=h;cases rx;obtain⟨t,rfl⟩:=ry;obtain⟨its,r,pl,hz⟩:=I.tuple hq;obtain⟨j,h1,h2,h3,h4,h5⟩:=Vy he;obtain⟨w,ew,Cs⟩:=r.get h2;have hl:=r.length;have hn:=Tu;have fin:EP X AE σ Q w s:=⟨z,H,I,Cs,q⟩;exact subscriptTail_builtinR pl.typeIs slot_tuple_getitem.lookup (getItem_tuple pl AAc AAc (by rw[AA4,<-hl];exact h1) (by simpa using ew) ⟨rfl,fin⟩) hs
theorem xA(lo hi:Option Int)(n:Nat):(sliceBounds lo hi none n).1=((HT.DF n 0 lo))/\(sliceBounds lo hi none n).2.1=((HT.DF n n hi))/\(sliceBounds lo hi none n).2.2=1:=by
 refine⟨?_,?_,rfl⟩
 .cases lo with
  |none=>simp[sliceBounds,HT.DF]
  |some i=>
   simp only[sliceBounds,HT.DF,Option.getD_none,show(1:Int)>0 by decide,ACT];by_cases h:i<0
   .simp only[h,ACT]<;>omega
   .simp only[h,ADH]<;>omega
 .cases hi with
  |none=>simp[sliceBounds,HT.DF]
  |some i=>
   simp only[sliceBounds,HT.DF,Option.getD_none,show(1:Int)>0 by decide,ACT];by_cases h:i<0
   .simp only[h,ACT]<;>omega
   .simp only[h,ADH]<;>omega
theorem w9(its:List Value)(lo hi:Option Int):slicePick its.toArray lo hi none=((its.drop<|HT.DF its.length 0 lo).take<|HT.DF its.length its.length hi-HT.DF its.length 0 lo).toArray:=by obtain⟨h1,h2,h3⟩:=xA lo hi its.toArray.size;unfold slicePick;simp only[h1,h2,h3];simp only[sliceRange_one,pick_run]<;>rfl
def vj(K:PySem.W.Frag):V->Option Int->Option Int->Hp->VK->Prop:=λx lo hi H Q=>∃a xs,x=.ref a/\CS K H a xs/\∀p,H p=none->Q (.ref p) (upd H p<|.lst<|OD xs lo hi)
theorem w5:Vv X<|vj X.K:=by intro AE s σ H x v vl vu lo hi sl Q I rx hs pl pu h;obtain⟨a,xs,rfl,hx,q⟩:=h;cases rx;obtain⟨its,r,ht,hz⟩:=I.list hx;have Bg:=r.length;refine⟨"list",_,slot_list_getitem.lookup,ht.isList.typeIs,?_⟩;refine wpAny_getItem_list_slice ht.isList hs pl pu .none AAd ?_ (by rw[AA4]<;>lia);rw[w9,<-Bg];refine⟨.ref s.heap.objs.size,_,I.laid (λb ob q=>Heap.get?_push_of_some _ q) (AAw _) ?_,rfl,q _<|I.Af.fresh<|AAw _⟩;exact⟨ABe (iD xs lo hi) hz,_,0,(r.drop<|HT.DF xs.length 0 lo).take<|HT.DF xs.length xs.length hi-HT.DF xs.length 0 lo,Heap.get?_push_size _ rfl⟩
noncomputable def Ik:V->Bool
 |.Au=>true
 |.bl _=>true
 |.int _=>true
 |.str _=>true
 |_=>false
noncomputable def IZ:V->V->Bool
 |.Au,.Au=>true
 |.bl a,.bl b=>a==b
 |.bl a,.int b=>(if a then 1 else 0)==b
 |.int a,.bl b=>a==(if b then 1 else 0)
 |.int a,.int b=>a==b
 |.str a,.str b=>a==b
 |_,_=>false
theorem jV{A:Around}{s:Shared}{y x:V}{u v:Value}(ry:RelV y u)(rx:RelV x v)(fy:Ik y=true)(fx:Ik x=true):SeqAt.EqAt A s u v<|IZ y x:=by
 cases y with
 |Au=>
  cases ry;cases x with
  |Au=>cases rx;exact SeqAt.EqAt.same _
  |bl b=>cases rx;exact SeqAt.EqAt.none_bool b
  |int b=>obtain⟨t,rfl⟩:=rx;exact SeqAt.EqAt.none_int b t
  |str b=>obtain⟨t,rfl⟩:=rx;exact SeqAt.EqAt.none_str b t
  |_=>exact absurd (show false=true from fx) AB7
 |bl a=>
  cases ry;cases x with
  |Au=>cases rx;exact SeqAt.EqAt.bool_none a
  |bl b=>cases rx;exact SeqAt.EqAt.bool_bool a b
  |int b=>obtain⟨t,rfl⟩:=rx;exact SeqAt.EqAt.bool_int a b t
  |str b=>obtain⟨t,rfl⟩:=rx;exact SeqAt.EqAt.bool_str a b t
  |_=>exact absurd (show false=true from fx) AB7
 |int a=>
  obtain⟨t',rfl⟩:=ry;cases x with
  |Au=>cases rx;exact SeqAt.EqAt.int_none a t'
  |bl b=>cases rx;exact SeqAt.EqAt.int_bool a t' b
  |int b=>obtain⟨t,rfl⟩:=rx;exact SeqAt.EqAt.int_int a t' b t
  |str b=>obtain⟨t,rfl⟩:=rx;exact SeqAt.EqAt.int_str a t' b t
  |_=>exact absurd (show false=true from fx) AB7
 |str a=>
  obtain⟨t',rfl⟩:=ry;cases x with
  |Au=>cases rx;exact SeqAt.EqAt.str_none a t'
  |bl b=>cases rx;exact SeqAt.EqAt.str_bool a t' b
  |int b=>obtain⟨t,rfl⟩:=rx;exact SeqAt.EqAt.str_int a t' b t
  |str b=>obtain⟨t,rfl⟩:=rx;exact SeqAt.EqAt.str_str a t' b t
  |_=>exact absurd (show false=true from fx) AB7
 |_=>exact absurd (show false=true from fy) AB7
def EI(x:V)(u:Value):Bool:=match u with
 |.none=>IZ .Au x
 |.bool b=>IZ (.bl b) x
 |.int i _=>IZ (.int i) x
 |.str z _=>IZ (.str z) x
 |_=>false
theorem XT{x y:V}{u:Value}(r:RelV y u)(f:Ik y=true):EI x u=IZ y x:=by
 cases y with
 |Au=>cases r;rfl
 |bl b=>cases r;rfl
 |int i=>obtain⟨t,rfl⟩:=r;rfl
 |str z=>obtain⟨t,rfl⟩:=r;rfl
 |_=>exact absurd (show false=true from f) AB7
theorem MB{x:V}:∀{xs:List V}{us:List Value},As xs us->xs.all Ik=true->us.any (EI x)=xs.any λy=>IZ y x
 |_,_,.nil,_=>rfl
 |y::xs,u::us,.cons r t,f=>by simp only[List.all_cons,AAk]at f;rw[ABc,ABc,XT r f.1,MB t f.2]
theorem M8{A:Around}{s:Shared}{x:V}{v:Value}(rx:RelV x v)(fx:Ik x=true):∀{xs:List V}{us:List Value},As xs us->xs.all Ik=true->∀u∈us,SeqAt.EqAt A s u v (EI x u)
 |_,_,.nil,_=>λu hu=>by cases hu
 |y::xs,u::us,.cons r t,f=>λu' hu=>by
  simp only[List.all_cons,AAk]at f;rcases AAy.mp hu with rfl|hu
  .rw[XT r f.1];exact jV r rx f.1 fx
  .exact M8 rx fx t f.2 u' hu
def PJ(x:V)(xs:List V):Bool:=xs.any λy=>IZ y x
def Ug(K:PySem.W.Frag)(neg:Bool):R2:=λx y H Q=>∃p xs,y=.ref p/\(CS K H p xs\/Bs K H p xs)/\Ik x=true/\xs.all Ik=true/\Q (.bl (if neg then !PJ x xs else PJ x xs)) H
theorem qE:BY X (compareOp .In)<|Ug X.K false:=by
 intro AE s σ H x y v u Q I rx ry h;obtain⟨p,xs,rfl,hq,fx,fs,q⟩:=h;cases ry;rcases hq with hq|hq
 .obtain⟨its,r,pl,hz⟩:=I.list hq;refine SeqAt.in_listAt (EI x) pl.isList (λw hw=>M8 rx fx r fs w<|by simpa using hw) ⟨.bl _,H,I,rfl,?_⟩;rw[show its.toArray.any (EI x)=its.any (EI x)by simp,MB r fs];exact q
 .obtain⟨its,r,pl,hz⟩:=I.tuple hq;refine SeqAt.in_tupleAt (EI x) pl (λw hw=>M8 rx fx r fs w<|by simpa using hw) ⟨.bl _,H,I,rfl,?_⟩;rw[show its.toArray.any (EI x)=its.any (EI x)by simp,MB r fs];exact q
theorem qN:BY X (compareOp .NotIn)<|Ug X.K true:=by
 intro AE s σ H x y v u Q I rx ry h;obtain⟨p,xs,rfl,hq,fx,fs,q⟩:=h;cases ry;rcases hq with hq|hq
 .obtain⟨its,r,pl,hz⟩:=I.list hq;refine SeqAt.notIn_listAt (EI x) pl.isList (λw hw=>M8 rx fx r fs w<|by simpa using hw) ⟨.bl _,H,I,rfl,?_⟩;rw[show its.toArray.any (EI x)=its.any (EI x)by simp,MB r fs];exact q
 .obtain⟨its,r,pl,hz⟩:=I.tuple hq;refine SeqAt.notIn_tupleAt (EI x) pl (λw hw=>M8 rx fx r fs w<|by simpa using hw) ⟨.bl _,H,I,rfl,?_⟩;rw[show its.toArray.any (EI x)=its.any (EI x)by simp,MB r fs];exact q
theorem gO:Cz X (.builtin "len") (λxs H Q=>∃p ys,xs=[.ref p]/\(CS X.K H p ys\/Bs X.K H p ys)/\Q (.int ys.length) H):=by
 intro AE s σ H xs us Q I r h;obtain⟨p,ys,rfl,hq,q⟩:=h;obtain⟨u,rfl,rx⟩:=vals1 r;cases rx;have hn:=Tu;rcases hq with hq|hq
 .obtain⟨its,r',pl,hz⟩:=I.list hq;have Bg:=r'.length;exact Calls.call_len_list pl.isList (by simp only[AA4]<;>omega) ⟨.int ys.length,H,I.tok _,⟨s.toks+1,by rw[AA4,Bg]⟩,q⟩
 .obtain⟨its,r',pl,hz⟩:=I.tuple hq;have Bg:=r'.length;exact len_tuple pl (by simp only[AA4]<;>omega) ⟨.int ys.length,H,I.tok _,⟨s.toks+1,by rw[AA4,Bg]⟩,q⟩
theorem gP:Cz X (.type "list") (λxs H Q=>∃p ys,xs=[.ref p]/\(CS X.K H p ys\/Bs X.K H p ys)/\∀l,H l=none->Q (.ref l) (upd H l<|.lst ys)):=by
 intro AE s σ H xs us Q I r h;obtain⟨p,ys,rfl,hq,q⟩:=h;obtain⟨u,rfl,rx⟩:=vals1 r;cases rx;have fin:∀(its:List Value),As ys its->ys.length<=sizeLine->∀(h':Heap)(c':Nat),(∀b o',s.heap.get? b=some o'->h'.get? b=some o')->h'.get? s.heap.objs.size=some {cls:=.type "list",dict:=none,data:=.seq its.toArray c',slots:=#[]}->EP X AE σ Q (.ref s.heap.objs.size) {s with heap:=h'}:=λits r' hz h' c' kp e=>
  ⟨.ref s.heap.objs.size,_,I.laid kp (AAw _) (show B1 X.prog X.w _ h' _ (.lst ys)from⟨hz,its,c',r',e⟩),rfl,q _<|I.Af.fresh<|AAw _⟩
 rcases hq with hq|hq
 .obtain⟨its,r',pl,hz⟩:=I.list hq;have Bg:=r'.length;obtain⟨o,ho,hc,n,hd⟩:=pl.isList;exact call_list_seq p (.inl rfl) ho hc hd (λh' c' kp e=>fin its r' hz h' c' kp e) (by simp only[AA4]<;>omega)
 .obtain⟨its,r',pl,hz⟩:=I.tuple hq;have Bg:=r'.length;obtain⟨o,ho,hc,n,hd⟩:=pl;exact call_list_seq p (.inr rfl) ho hc hd (λh' c' kp e=>fin its r' hz h' c' kp e) (by simp only[AA4]<;>omega)
def VM(K:PySem.W.Frag)(T:String)(x:V)(H:Hp):Prop:=match x with
 |.str _=>T = "str"
 |.int _=>T = "int"
 |.ref p=>(T = "list"/\∃xs,CS K H p xs)\/(T = "tuple"/\∃o,K.lookup p=some o/\o.cls=.type "tuple"/\o.dict=none)\/
  (T = "dict"/\((∃AR,H p=some (.dK AR))\/∃AR,H p=some (.dT AR)))\/(T = "set"/\∃S n,H p=some (.set S n))
 |_=>False
theorem cQ{AE:List (Addr×Obj)}{σ:St}{H:Hp}{s:Shared}{T:String}{x:V}{v:Value}(I:Inv X AE σ H s)(r:RelV x v)(ty:VM X.K T x H) : s.TypeIs v T/\∀a,v=.ref a->∃ob,s.heap.get? a=some ob/\ob.dict=none:=by
 cases x with
 |str z=>
  obtain⟨t,rfl⟩:=r;cases (show T = "str" from ty);exact⟨typeIs_str s z t,λ_ e=>nomatch e⟩
 |int i=>
  obtain⟨t,rfl⟩:=r;cases (show T = "int" from ty);exact⟨typeIs_int s i t,λ_ e=>nomatch e⟩
 |ref p=>
  cases r;rcases ty with⟨rfl,xs,hq⟩|⟨rfl,o,hk,hc,hd⟩|⟨rfl,hk⟩|⟨rfl,S,n,hk⟩
  .obtain⟨its,_,pl,_⟩:=I.list hq;refine⟨pl.isList.typeIs,λa e=>?_⟩;cases e;obtain⟨o,n,e,c,hd,_⟩:=pl;exact⟨o,e,hd⟩
  .refine⟨⟨o,I.BC p o hk,hc⟩,λa e=>?_⟩;cases e;exact⟨o,I.BC _ o hk,hd⟩
  .have z:∃o,s.heap.get? p=some o/\o.ExactDict:=by
    rcases hk with⟨AR,hk⟩|⟨AR,hk⟩
    .obtain⟨_,_,_,_,o,_,_,e,ex,_⟩:=I.Af p _ hk;exact⟨o,e,ex⟩
    .obtain⟨_,_,_,_,o,_,_,e,ex,_⟩:=I.Af p _ hk;exact⟨o,e,ex⟩
   obtain⟨o,e,ex⟩:=z;refine⟨⟨o,e,ex.1⟩,λa e2=>?_⟩;cases e2;exact⟨o,e,ex.2.1⟩
  .obtain⟨o,_,_,_,e,ex,_⟩:=I.Af p _ hk;refine⟨⟨o,e,ex.1⟩,λa e2=>?_⟩;cases e2;exact⟨o,e,ex.2.1⟩
 |_=>exact False.elim ty
def xP(K:PySem.W.Frag)(T:String)(r:V->List V->Hp->VK->Prop)(to:TE):TE:=λσ H Q=>to σ H λx H1=>VM K T x H1/\r x [] H1 Q
def b7(K:PySem.W.Frag)(T:String)(r:V->List V->Hp->VK->Prop)(to:TE)(t:TA):TE:=λσ H Q=>to σ H λx H1=>VM K T x H1/\t σ H1 λxs H2=>r x xs H2 Q
variable{o e:Expr}{es:List Expr}{to:TE}{t:TA}{name:Str}{apos Ay:Pos}{T id:String}{r:V->List V->Hp->VK->Prop}
theorem q0(pa:PlainAttrs T)(slot:Slot T name id)(TM:typeOf (.builtin id)=pure (.type "method_descriptor"))(hm:Vp X id r)(ho:PE X o to) (Fu:attributeBase o name X.env (eval o X.env)=eval o X.env:=by rfl) (Fz:(apos.endLine==Ay.line)=true:=by rfl):PE X (.Call (.Attribute o name apos) [] [] Ay)<|xP X.K T r to:=by intro AE s σ H Q I h;refine wpAny_Call_method0_late Fu Fz<|Aj (ho AE s σ H _ I h) λv s1 ⟨x,H1,I1,r1,ty,q1⟩=>?_;obtain⟨h1,h2⟩:=cQ I1 r1 ty;exact⟨T,id,pa,slot,TM,h1,h2,Calls.callWith_builtin rfl<|PySem.evalArgs_none<|hm AE s1 σ H1 x [] v [] Q I1 r1 .nil q1⟩
theorem UU(pa:PlainAttrs T)(slot:Slot T name id)(TM:typeOf (.builtin id)=pure (.type "method_descriptor"))(hm:Vp X id r)(ho:PE X o to)(ha:PA X (e::es) t) (Fu:attributeBase o name X.env (eval o X.env)=eval o X.env:=by rfl) (Gk:((backTo Ay<|starEach (e::es) X.env).all (λx=>!x.1)&&(backToKw Ay<|keywordEach [] X.env).all (λx=>x.1.isSome)
  && decide ((e::es).length+([]:List Keyword).length+(if([]:List Keyword).isEmpty then 0 else 1)<30))=true:=by rfl)
 (Fz:(apos.endLine==Ay.line)=true:=by rfl) (hs:starEach (e::es) X.env=(false,eval e X.env)::starEach es X.env:=by rfl) (J4:(backTo Ay<|starEach es X.env).any (·.1)=false:=by rfl) :
 PE X (.Call (.Attribute o name apos) (e::es) [] Ay) (b7 X.K T r to t):=by
 intro AE s σ H Q I h;refine wpAny_Call_method_late Fu Gk Fz rfl<|Aj (ho AE s σ H _ I h) λv s1 ⟨x,H1,I1,r1,ty,q1⟩=>?_;obtain⟨h1,h2⟩:=cQ I1 r1 ty;refine⟨T,id,pa,slot,TM,h1,h2,?_⟩;have hA:=ha Ay AE s1 σ H1 _ I1 q1;rw[hs]at hA ⊢;refine Calls.callWith_builtin (by show(false||(backTo Ay<|starEach es X.env).any (·.1))=false;rw[J4]<;>rfl)<|Calls.evalArgs_plain ?_;exact Aj hA (by rintro us s2 ⟨vs,H2,I2,r2,q2⟩;exact hm AE s2 σ H2 x vs v us Q I2 r1 r2 q2)
end
def N2(X:Cx)(id:String)(r:V->List V->Hp->VK->Prop):Prop:=
 ∀(AE:List<|Addr×Obj)(s:Shared)(σ:St)(H:Hp)(x:V)(xs:List V)(v:Value)(us:List Value)(Q:VK),Inv X AE σ H s->RelV x v->As xs us->r x xs H Q->wpAny (model X.prog X.w) X.A (call (.builtin id) (v::us)) (EP X AE σ Q) X.xe s
theorem As.one:∀{x:V}{us:List Value},As [x] us->∃u,us=[u]/\RelV x u
 |_,_,.cons r .nil=>⟨_,rfl,r⟩
theorem As.zero:∀{us:List Value},As [] us->us=[]
 |_,.nil=>rfl
theorem As.dropLast{xs:List V}{us:List Value}(h:As xs us):As xs.dropLast us.dropLast:=by
 induction h with
 |nil=>exact .nil
 |cons r t ih=>
  cases t with
  |nil=>exact .nil
  |cons q t'=>exact .cons r ih
theorem As.reverse{xs:List V}{us:List Value}(h:As xs us):As xs.reverse us.reverse:=by
 induction h with
 |nil=>exact .nil
 |cons r t ih=>simp only[ADS,ADS];exact As.append ih<|.cons r .nil
theorem jX{α:Type}(l:List α):l.eraseIdx (l.length-1)=l.dropLast:=by
 induction l with
 |nil=>rfl
 |cons a r ih=>
  cases r with
  |nil=>rfl
  |cons b r=>
   have e:(a::b::r).length-1=((b::r).length-1)+1:=by
    have h1:(a::b::r).length=r.length+2:=rfl;have h2:(b::r).length=r.length+1:=rfl
    assumption
   simp only[e,List.eraseIdx_cons_succ,ih]
   all_goals rfl
section
variable{X:Cx}{AE:List (Addr×Obj)}{σ:St}{H:Hp}{s:Shared}{l b:Addr}{xs ys zs:List V}
theorem Inv.ZY{its PK:List Value}{n:Nat}{f:Array Value->Array Value}{t':Nat}(I:Inv X AE σ H s)(hH:H l=some (.lst xs)) (e:s.heap.get? l=some {cls:=.type "list",data:=.seq its.toArray n}) (hf:f its.toArray=PK.toArray) (hv:As ys PK) (hz:ys.length<=sizeLine) : Inv X AE σ (upd H l<|.lst ys) {s with heap:=s.heap.update l<|Obj.mapSeq f,toks:=t'}:=by have q:=PySem.IsL.update e f;rw[hf]at q;refine I.write (by rw[hH];exact trivial) (.inl rfl) (λb' u hb hu=>(Heap.get?_update_other s.heap (Obj.mapSeq f) (ABX hb)).trans hu) ⟨_,q⟩ ?_;exact⟨hz,PK,_,hv,q⟩
theorem Inv.oN{its:List Value}{t':Nat}(I:Inv X AE σ H s)(hv:As ys its)(hz:ys.length<=sizeLine) : Inv X AE σ (upd H s.heap.objs.size<|.lst ys) {s with heap:=s.heap.push {cls:=.type "list",data:=.seq its.toArray},toks:=t'}:=
 I.laid (λ_ _ q=>Heap.get?_push_of_some _ q) (AAw _) ⟨hz,its,0,hv,Heap.get?_push_size _ rfl⟩
theorem Inv.fresh(I:Inv X AE σ H s):H s.heap.objs.size=none:=I.Af.fresh<|AAw _
theorem Inv.ZZ(I:Inv X AE σ H s)(hH:H l=some (.lst xs)):xs.length<=sizeLine/\∃(its:List Value)(n:Nat),As xs its/\xs.length=its.length/\s.heap.get? l=some {cls:=.type "list",data:=.seq its.toArray n}:=by obtain⟨z,its,n,r,e⟩:=I.Af l _ hH;exact⟨z,its,n,r,r.length,e⟩
end
section
variable{X:Cx}
def aj:V->List V->Hp->VK->Prop:=λx vs H Q=>∃l xs y,x=.ref l/\vs=[y]/\H l=some (.lst xs)/\xs.length<sizeLine/\Q .Au (upd H l<|.lst<|xs ++ [y])
theorem Zk:N2 X "list.append" aj:=by
 intro AE s σ H x vs v us Q I rx rv h;obtain⟨l,xs,y,rfl,rfl,hH,hz,q⟩:=h;cases rx;obtain⟨u,rfl,ru⟩:=rv.one;obtain⟨z,its,n,r,hl,e⟩:=I.ZZ hH;refine call_meets F.slot_list_append ⟨_,e,rfl⟩ F.entry_list_append (F.args_list_append_2 _ _) (PySem.list_append l its.toArray n u (by rw[AA4];lia)) ⟨e,?_⟩;refine⟨.Au,_,I.ZY hH e AAd (r.append<|.cons ru .nil) ?_,rfl,q⟩;simp only[ABA,ABh]
 assumption
def vi:V->List V->Hp->VK->Prop:=λx vs H Q=>∃l xs y,x=.ref l/\vs=[]/\H l=some (.lst xs)/\xs[xs.length-1]? = some y/\Q y (upd H l<|.lst xs.dropLast)
theorem oy:N2 X "list.pop" vi:=by
 intro AE s σ H x vs v us Q I rx rv h;obtain⟨l,xs,y,rfl,rfl,hH,hy,q⟩:=h;cases rx;have mj:=rv.zero;subst mj;obtain⟨z,its,n,r,hl,e⟩:=I.ZZ hH;obtain⟨u,hu,ru⟩:=r.get hy;have TV:=by show its.toArray[its.length-1]? = some u;rw[<-AB1,<-hl];exact hu
 refine call_meets F.slot_list_pop ⟨_,e,rfl⟩ F.entry_list_pop (F.args_list_pop_1 _) (MeetsSeq.list_pop_last l its.toArray n u TV (by rw[AA4];lia)) ⟨e,?_⟩;refine⟨y,_,I.ZY hH e ?_ r.dropLast ?_,ru,q⟩
 .rw[AA4,List.eraseIdxIfInBounds_toArray,jX]
 .rw[List.length_dropLast];omega
end
section
variable{prog:Program}{w:World}{A:Around}{E:Value->Shared->Prop}{s:Shared}
end
section
variable{X:Cx}
end
end L2
namespace VZ
open PySem PySem.W PySem.Calls PyProof.Rows
theorem nG{P:Params}{h:Heap}:∀(ns:List Int)(vs:List Value),WellAll P h vs (ns.map WData.int)->IntsAre vs ns:=by
 intro ns
 induction ns with
 |nil=>
  intro vs w;cases w;exact .nil
 |cons n ns ih=>
  intro vs w;cases w with
  |cons a b=>
   cases a;exact .cons _ _<|ih _ b
theorem wb{l:OpenLaw}{n:Nat}(hn:l.most=some n){P:Params}{h:Heap}{args:List WData}{vals:List Value} (O6:l.row.toRowW.claim.pre args=true) (E5:WellAll P h vals args) : ∃a vs ns,vals=[Value.ref a]/\args=[WData.list<|ns.map WData.int]/\h.get? a=some {cls:=.type "list",data:=.seq vs.toArray}/\IntsAre vs ns/\ns.length<=n:=by
 have BJ:WShape.hasAll [] args [.list .int]=true:=(pre_splitW O6).1;have hc:l.pre.holds [] {args:=args}=true:=(pre_splitW O6).2;obtain⟨d,r,rfl,h1,h2⟩:=hasAllW_cons BJ;obtain rfl:=hasAllW_nil h2;obtain⟨xs,rfl,h3⟩:=hasW_list h1;obtain⟨ns,rfl⟩:=items_int h3;have Bg:ns.length<=n:=by
  have h4:=by have h4:=(holds_andW hc).1;rw[hn]at h4;exact h4
  have h5:=condW_of h4<|w_not<|w_lt w_lit<|w_len_list<|w_arg rfl;rw[AAi]at h5;refine Nat.le_of_not_lt λq=>?_;have q':(n:Int)<((ns.length)):=AAc
  first
   |(rw[ABq q']at h5;exact absurd h5 AAe)
   |(simp at h5)
 cases E5 with
 |cons w1 w2=>
  cases w2;cases w1 with
  |list ho Bf=>exact⟨_,_,ns,rfl,rfl,ho,nG ns _ Bf,Bg⟩
theorem ro(l:OpenLaw)(args:List WData):l.row.toRowW.claim.post args (.bool true) args=true:=
 postW_of (show WShape.has [] (.bool true) .bool=true by first|rfl|decide|simp[WShape.has]) (show(WTm.eq .res<|.lit<|.bool true).value [] {args:=args,res:=some<|.bool true,after:=args}=some (.bool<|true==true)from w_eq_bool (w_res rfl) w_lit) rfl
theorem fS{l:OpenLaw}{n:Nat}{q:Program}{loose:List Str}{XP:(Str->Option Value)->Heap->Prop}{YP:World->Heap->Prop}{d:DefRec} (hn:l.most=some n) (Hk:d.params.defaults=[]) (call:∀(w:World)(B5 BN:Shared)(mg mb:Str->Option Value)(fa:Addr)(o:Obj)(pm cd doc:Value)(a:Addr)(vs:List Value)(ns:List Int),
  Ground q loose [] XP w B5 mg mb BN.heap->YP w BN.heap->
  BN.heap.get? fa=some o->o.data=.func (docDef d.name d.params d.body d.scope pm cd doc)->BN.heap.CodeRec cd d.name->mg d.name=some (.ref fa)->
  BN.heap.get? a=some {cls:=.type "list",data:=.seq vs.toArray}->IntsAre vs ns->ns.length<=n->BN.gens=#[]->
  codeAny (model l.prog w) callerA (.call (.ref fa) ⟨[.ref a],[]⟩) (λr s'=>r=.ok (.ret<|.bool true)/\OldK BN.heap s'.heap/\s'.os=BN.os/\AllBare s'.gens) BN) :
 WalkO q loose XP YP l.row.toRowW d [] (λf vs=>PySem.call f vs):=by
 intro w B5 BN mg mb G Y fa o pm cd doc dV kV ho hd BV hD hmg hg args vals as O6 AAH hrd E5 Ow;obtain rfl:dV=.none:=Dflts.none hD Hk;obtain rfl:kV=.none:=Dflts.noKw hD;obtain⟨a,vs,ns,rfl,rfl,Sz,hints,Bg⟩:=wb hn O6 E5;refine enter_call<|codeAny_mono (call w B5 BN mg mb fa o pm cd doc a vs ns G Y ho (fd_plain hd) BV hmg Sz hints Bg hg) λr s' hq=>?_;obtain⟨rfl,h2,h3,h4⟩:=hq;exact⟨.inl ⟨.bool true,.bool true,[],rfl,λ_=>rfl,.bool true,ro l _,λ_=>⟨List.Pairwise.nil,λ_ hm=>(nomatch hm)⟩⟩,h2,h3,h4⟩
section
variable{prog:Program}{w:World}{A:Around}{E:Value->Shared->Prop}{s:Shared}{K:Frag}
end
end VZ
namespace L2
open PySem PySem.Spec PyProof.Rows
theorem cv:∀{vs:List Value}{ns:List Int},IntsAre vs ns->As (ns.map V.int) vs
 |_,_,.nil=>.nil
 |_,_,.cons n t h=>.cons ⟨t,rfl⟩<|cv h
def RH(H:Hp):Prop:=∀b,H b=none\/∃o xs,H b=some (.D5 o<|.lst xs)
theorem oD{P:Program}{w:World}{K:PySem.W.Frag}{mg mb:Str->Option Value}{CX:EB}{k:Nat}{fa a:Addr}{fd:FuncData}{x:Str}{sp:Sp}{BN:Shared}{vs:List Value}{ns:List Int} (KX:K.In BN.heap) (F3:BN.heap.Ns mainGlobals mg) (hb:BN.heap.Ns builtinsNs mb) (lG:∀x:Str,x≠"__name__"->mb x=bootBuiltins x) (l6:BN.heap.NoLimit) (hg:BN.gens=#[]) (ha:BN.heap.get? a=some {cls:=.type "list",data:=.seq vs.toArray}) (hi:IntsAre vs ns) (hl:ns.length<=sizeLine) (hr:Br k callerA) (F:∀base:Heap,K.In base->base.Ns mainGlobals mg->Cd P w K mg base CX k fa fd [x] sp) (lH:∀(s:Shared)(u:Value),BindsTo s fd ⟨[u],[]⟩ [(x,u)]) (DY:∀H:Hp,RH H->CS K H a (ns.map V.int)->sp [.ref a] H (λv _=>v=.bl true) λ_ _ _=>False)
 (SU:∀H e s',CX [] H BN (λ_ _ _=>False) e s'->False) :
 codeAny (model P w) callerA (.call (.ref fa) ⟨[.ref a],[]⟩) (λr s'=>r=.ok (.ret<|.bool true)/\OldK BN.heap s'.heap/\s'.os=BN.os/\AllBare s'.gens) BN:=by
 have rv:=cv hi;have oF:=hi.length;have core:∀H:Hp,RH H->CS K H a (ns.map V.int)->Bo P w H BN.heap->(∀b,H b≠none->b=a)->(H a≠none->K.lookup a=none)->codeAny (model P w) callerA (.call (.ref fa) ⟨[.ref a],[]⟩) (λr s'=>r=.ok (.ret<|.bool true)/\OldK BN.heap s'.heap/\s'.os=BN.os/\AllBare s'.gens) BN:=by
  intro H hO hS Af hA hK;have V1:∀{b:Addr}{o:Obj},BN.heap.get? b=some o->H b=none->(Iu BN.heap H).get? b=some o:=λe n=>lj e n;have ND:∀{b:Addr}{o:Obj}{es:Array DictEntry}{ep:Nat},BN.heap.get? b=some o->o.data=.dict es ep->H b=none:=λ{b o es ep} e d=>by
   cases q:H b with
   |none=>rfl
   |some u=>
    have e':=hA b (by rw[q];simp);subst e';rw[ha]at e;cases e;have d':=d
    contradiction
  have P2:∀{b:Addr}{m:Str->Option Value},BN.heap.Ns b m->(Iu BN.heap H).Ns b m:=λ{b m} ⟨o,es,ep,e,d,r⟩=>⟨o,es,ep,V1 e<|ND e d,d,r⟩;have YB:=λb o e=>V1 (KX b o e) (by
   cases q:H b with
   |none=>rfl
   |some u=>
    have e':=hA b (by rw[q];simp);subst e';rw[hK (by rw[q];simp)]at e;contradiction)
  have hM:Mod K mg<|Iu BN.heap H:=⟨YB,P2 F3,⟨mb,P2 hb,lG⟩,let ⟨mc,h1,h2⟩:=l6;⟨mc,P2 h1,h2⟩⟩;have e0:JY P w K mg (Iu BN.heap H) callerA [] BN H:=⟨rfl,hM,λb o e=>pP e,AER<|ll _ _,trivial,λb hb=>absurd (show b∈([])from hb) AAd,Af,.of_eq hg⟩;refine codeAny_mono ((F _ YB<|P2 F3).run callerA [] BN H ⟨[.ref a],[]⟩ [.ref a] [.ref a] _ _ hr e0 (lH BN<|.ref a) (.cons rfl .nil)<|DY H hO hS) λr s' h=>?_;cases r with
  |error e=>exact(SU H e s' h).elim
  |ok fl=>
   cases fl with
   |next=>exact False.elim h
   |brk=>exact False.elim h
   |cont=>exact False.elim h
   |ret u=>
    obtain⟨v,H',os,bare,un,S0,r',q⟩:=h;have q':=q;subst q';obtain rfl:u=Value.bool true:=r';refine⟨rfl,OldK.of_keep λb o e=>?_,os,bare⟩;cases q:H b with
    |none=>exact un.keep b o e q (by intro z;exact absurd (show b∈([])from z) AAd) AAd
    |some u=>
     rcases hO b with z|⟨ob,xs,z⟩
     .rw[q]at z;contradiction
     .have z2:=un.D6 b ob _ z;obtain⟨e1,_⟩:=Af b _ z;obtain⟨e2,_⟩:=S0 b _ z2;rw[e]at e1;cases e1;exact e2
 cases hk:K.lookup a with
 |some o=>
  have e:=KX a o hk;rw[ha]at e;cases e;refine core (λ_=>none) (λ_=>.inl rfl) (.inr ⟨_,vs.toArray,_,hk,rfl,rfl,rfl,by rw[AA4,oF];exact hl,by simpa using rv⟩) (λb u z=>by have z':(none)=some u:=z;contradiction) (λb z=>absurd rfl z) λz=>absurd rfl z
 |none=>
  refine core (λb=>if b=a then some (.D5 {cls:=.type "list",data:=.seq vs.toArray}<|.lst<|ns.map V.int)else none) (λb=>?_) (.inl<|.inr ⟨{cls:=.type "list",data:=.seq vs.toArray},AAl rfl⟩) (λb u z=>?_) (λb z=>?_) λ_=>hk
  .by_cases hb:b=a
   .exact .inr ⟨_,_,AAl hb⟩
   .exact .inl<|AAj hb
  .by_cases hb:b=a
   .have z':=(AAl hb).symm.trans z;cases z';subst hb;exact⟨ha,by rw[AAi];exact hl,vs,_,rv,ha⟩
   .have z':=(AAj hb).symm.trans z;injection z'
  .by_cases hb:b=a
   .exact hb
   .exact absurd (AAj hb) z
theorem zH{l:PySem.W.OpenLaw}{n k:Nat}{q:Program}{loose:List Str}{XP:(Str->Option Value)->Heap->Prop}{YP:World->Heap->Prop}{d:DefRec}{K:Params->PySem.W.Frag}{CX:World->EB}{sp:World->Sp}{x:Str} (hn:l.most=some n) (Ox:n<=sizeLine) (Hk:d.params.defaults=[]) (hr:Br k callerA) (hY:∀(w:World)(h:Heap),YP w h->(K w.params).In h) (F:∀(w:World)(mg:Str->Option Value)(fa:Addr)(h:Heap),(K w.params).In h->h.Ns mainGlobals mg->mg d.name=some (.ref fa)->
  ∃fd:FuncData,(∀(s:Shared)(u:Value),BindsTo s fd ⟨[u],[]⟩ [(x,u)])/\∀base:Heap,(K w.params).In base->base.Ns mainGlobals mg->Cd l.prog w (K w.params) mg base (CX w) k fa fd [x] (sp w))
 (DY:∀(w:World)(H:Hp)(a:Addr)(ns:List Int),ns.length<=n->RH H->CS (K w.params) H a (ns.map V.int)->sp w [.ref a] H (λv _=>v=.bl true) λ_ _ _=>False)
 (SU:∀(w:World)(H:Hp)(s:Shared)(e:Value)(s':Shared),CX w [] H s (λ_ _ _=>False) e s'->False) :
 PySem.W.WalkO q loose XP YP l.row.toRowW d [] (λf vs=>PySem.call f vs):=by
 refine VZ.fS hn Hk λw B5 BN mg mb fa o pm cd doc a vs ns G Y ho hd BV hmg Sz hints Bg hg=>?_;have KX:=hY w _ Y;obtain⟨fd,hb,hF⟩:=F w mg fa _ KX G.T.g hmg;exact oD KX G.T.g G.T.b G.T.builtins G.T.nolimit hg Sz hints (ABe Bg Ox) hr hF hb (λH hO hS=>DY w H a ns Bg hO hS) λH e s'=>SU w H BN e s'
noncomputable def Ha(s:Stmt):Arguments:=match s with
 |.FunctionDef _ a _ _ _ _ _ _ _ _=>a
 |_=>{posonlyargs:=[],args:=[],vararg:=none,kwonlyargs:=[],kw_defaults:=[],kwarg:=none,defaults:=[]}
noncomputable def D2(s:Stmt):List Stmt:=match s with
 |.FunctionDef _ _ b _ _ _ _ _ _ _=>b
 |_=>[]
noncomputable def BU(s:Stmt):Scope:=match s with
 |.FunctionDef _ _ _ _ _ _ sc _ _ _=>sc
 |_=>{kind:=.function,names:=[],isGenerator:=false,isCoroutine:=false}
abbrev Dx:EB:=λ_ _ _ _ _ _=>False
abbrev E0:XK:=λ_ _ _=>False
theorem aF{X:Cx}:Passes Dx X E0:=λ_ _ _ _ _ _ _ h=>h.elim
structure Ec(K:PySem.W.Frag)(x qual:Str)(st:Stmt)(f:Addr)(fd:FuncData):Prop where
 ex:∃(oc:Value)(od:Option Addr)(kV doc pm:Value)(an:Option Addr)(A1 ct:Value)(F8:Array<|Option Value),fd=PySem.W.fnOf x qual (Ha st) (D2 st) (BU st) .none kV doc pm an A1 ct/\K.lookup f=some ⟨oc,od,.func fd,F8⟩/\PySem.W.codeIn K A1 qual=true
 kp:PySem.W.keepIn K (.ref f)=true
section
variable{P:Program}{w:World}{K:PySem.W.Frag}{mg:Str->Option Value}{base:Heap}
theorem Ec.ok{x qual:Str}{st:Stmt}{f:Addr}{fd:FuncData}{N ps:List Str}{k:Nat}{sp:Sp}(F:Ec K x qual st f fd)(S:HI N ps<|BU st)(len:∀vs H Q E,sp vs H Q E->vs.length=ps.length) (Fv:∀(A1:Value)(A:Around)(outer:List Env)(s:Shared)(H:Hp)(vs:List V)(Q:VK)(E:XK),Br k (A.deeper<|envOfC qual (BU st) s.heap.objs.size f A1)->sp vs H Q E->
  ∃t,Ce (Fl Dx P w K mg base N qual (BU st) f A1 A outer s H E).KD (D2 st) t/\t {nx:=λ_ H'=>Q .Au H',rt:=Q} (start N vs) H):Cd P w K mg base Dx (k+1) f fd ps sp:=by
 obtain⟨oc,od,kV,doc,pm,an,A1,ct,F8,rfl,lk,BV⟩:=F.ex;refine Xw lk BV S len λA outer s H vs Q E hr DY=>?_;obtain⟨t,h,q⟩:=Fv A1 A outer s H vs Q E hr DY;exact⟨t,h.KD,q⟩
theorem Ec.binds{x qual:Str}{st:Stmt}{f:Addr}{fd:FuncData}{ps:List Str}(F:Ec K x qual st f fd) (h:∀(kV doc pm:Value)(an:Option Addr)(A1 ct:Value)(us:List Value),us.length=ps.length->bindArgs (PySem.W.fnOf x qual (Ha st) (D2 st) (BU st) .none kV doc pm an A1 ct) ⟨us,[]⟩=pure (ps.zip us)):Binds K fd ps []:=by obtain⟨oc,od,kV,doc,pm,an,A1,ct,F8,rfl,lk,BV⟩:=F.ex;exact .all<|h kV doc pm an A1 ct
theorem kG{x qual:Str}{st:Stmt}{f:Addr}{oc:Value}{od an:Option Addr}{F8:Array (Option Value)}{kV doc pm A1 ct:Value}(l:K.lookup f=some ⟨oc,od,.func<|PySem.W.fnOf x qual (Ha st) (D2 st) (BU st) .none kV doc pm an A1 ct,F8⟩) (c:PySem.W.codeIn K A1 qual=true) (k:PySem.W.keepIn K (.ref f)=true):Ec K x qual st f<|PySem.W.fnOf x qual (Ha st) (D2 st) (BU st) .none kV doc pm an A1 ct:=⟨⟨oc,od,kV,doc,pm,an,A1,ct,F8,rfl,l,c⟩,k⟩
end
theorem bS{n:Nat}(h:n<=1000):n<sizeLine:=ADI h AAe
section
variable{X:Cx}
theorem pv(i:Nat){x:Str}{pos:Pos}(hN:X.N[i]? = some x:=by rfl)(hv:EE X.env.scope x:=by first|exact Or.inl rfl|exact Or.inr (Or.inl rfl)|exact Or.inr<|Or.inr rfl)(hd:(x==("__debug__" : Str))=false:=by decide) (BV:(x==("__classdict__" : Str))=false:=by decide):PE X (.Name x pos)<|VI i:=GA hN hv hd BV
end
theorem Yv{A B:Prop}(h:B):if false=true then A else B:=by exact h
theorem Yw{A B:Prop}(h:A):if true=true then A else B:=by exact h
def Ak(H H':Hp):Prop:=∀b o,H b=some o->H' b=some o
theorem Ak.refl(H:Hp):Ak H H:=λ_ _ h=>h
theorem Ak.trans{H H1 H2:Hp}(a:Ak H H1)(b:Ak H1 H2):Ak H H2:=λc o h=>b c o<|a c o h
theorem Ak.free{H H':Hp}(e:Ak H H'){l:Addr}(h:H' l=Option.none):H l=Option.none:=by
 cases q:H l with
 |none=>rfl
 |some o=>
  rw[e l o q]at h
  contradiction
theorem Ak.seq{K:PySem.W.Frag}{H H':Hp}{a:Addr}{xs:List V}(e:Ak H H')(h:CS K H a xs):CS K H' a xs:=by
 rcases h with(h|⟨o,h⟩)|h
 .exact .inl<|.inl<|e _ _ h
 .exact .inl<|.inr ⟨o,e _ _ h⟩
 .exact .inr h
section
variable{κ:Type}[DecidableEq κ]
noncomputable def GL(AR:List<|κ×V)(k:κ):Option V:=(AR.find? λkv=>decide (kv.1=k)).map (·.2)
noncomputable def FD(AR:List<|κ×V)(k:κ)(v:V):List<|κ×V:=
 if(AR.any λkv=>decide (kv.1=k))=true then AR.map (λkv=>if kv.1=k then(kv.1,v)else kv)else AR ++ [(k,v)]
theorem Qi{p:κ×V}{r:List (κ×V)}{k:κ}(e:p.1=k):GL (p::r) k=some p.2:=by simp[GL,ACs,e]
theorem Qh{p:κ×V}{r:List (κ×V)}{k:κ}(e:¬ p.1=k):GL (p::r) k=GL r k:=by simp[GL,ACs,e]
theorem cq(k:κ):∀AR:List<|κ×V,(AR.any λkv=>decide (kv.1=k))=(GL AR k).isSome
 |[]=>rfl
 |p::r=>by
  rw[ABc];by_cases e:p.1=k
  .simp only[Qi e,ABq e,Bool.true_or,Option.isSome_some]
  .rw[Qh e,ABr e,Bool.false_or];exact cq k r
theorem ZO(AR:List<|κ×V)(k:κ)(v:V):(FD AR k v).length<=AR.length+1:=by
 unfold FD;split
 .rw[AAi];omega
 .rw[ABA,AA6,ACF];omega
theorem Fh.nI{o:Option V}{u:Option Value}(r:Fh o u):o.isSome=u.isSome:=by
 cases o with
 |none=>cases u with
  |none=>rfl
  |some _=>exact(show False from r).elim
 |some _=>cases u with
  |none=>exact(show False from r).elim
  |some _=>rfl
theorem KV.val{AR:List (κ×V)}{vs:List (κ×Value)}(r:KV AR vs)(k:κ):Fh (GL AR k)<|valueAt vs k:=by
 unfold KV at r
 induction r with
 |nil=>exact True.intro
 |@cons p q ps qs h t ih=>
  obtain⟨h1,h2⟩:=h;by_cases e:p.1=k
  .have e':q.1=k:=h1.symm.trans e;have b:valueAt (q::qs) k=some q.2:=by simp[valueAt,ACs,e']
   rw[Qi e,b];exact h2
  .have e':¬ q.1=k:=λz=>e<|h1.trans z;have b:valueAt (q::qs) k=valueAt qs k:=by simp[valueAt,ACs,e']
   rw[Qh e,b];exact ih
theorem KV.any{AR:List (κ×V)}{vs:List (κ×Value)}(r:KV AR vs)(k:κ):(AR.any λkv=>decide (kv.1=k))=vs.any λkv=>decide (kv.1=k):=by
 unfold KV at r
 induction r with
 |nil=>rfl
 |cons h t ih=>rw[ABc,ABc,ih,h.1]
theorem KV.Ui{AR:List (κ×V)}{vs:List (κ×Value)}(r:KV AR vs)(k:κ){y:V}{u:Value}(ry:RelV y u) : KV (AR.map λkv=>if kv.1=k then(kv.1,y)else kv) (vs.map λkv=>if kv.1=k then(kv.1,u)else kv):=by
 unfold KV at r ⊢
 induction r with
 |nil=>exact .nil
 |@cons p q ps qs h t ih=>
  rw[AAx,AAx];refine .cons ?_ ih;obtain⟨h1,h2⟩:=h;by_cases e:p.1=k
  .rw[AAl e,AAl<|h1.symm.trans e];exact⟨h1,ry⟩
  .rw[AAj e,AAj λz=>e<|h1.trans z];exact⟨h1,h2⟩
theorem KV.put{AR:List (κ×V)}{vs:List (κ×Value)}(r:KV AR vs)(k:κ){y:V}{u:Value}(ry:RelV y u):KV (FD AR k y)<|stored vs k u:=by
 unfold FD stored;rw[r.any k];by_cases e:(vs.any λkv=>decide (kv.1=k))=true
 .rw[AAl e,AAl e];exact r.Ui k ry
 .rw[AAj e,AAj e];exact Paired.snoc r ⟨rfl,ry⟩
theorem KV.length{AR:List (κ×V)}{vs:List (κ×Value)}(r:KV AR vs):AR.length=vs.length:=Paired.length r
end
theorem Tq{P:Program}{w:World}{k:Key}{u:Value}(r:RelV (kV k) u):(FA P w).is k u=true:=by
 cases k with
 |inl i=>obtain⟨t,e⟩:=(show ∃t,u=Value.int i t from r);subst e;exact om P w i t
 |inr x=>obtain⟨t,e⟩:=(show ∃t,u=Value.str x t from r);subst e;exact oo P w x t
theorem Yy{P:Program}{w:World}:∀{ks:List Key}{us:List Value},As (ks.map kV) us->ItemsAre (FA P w) ks us
 |[],_,r=>by rw[ADJ]at r;cases r;exact .nil
 |k::ks,_,r=>by
  rw[AAx]at r;cases r with
  |cons h t=>exact .cons (Tq h)<|Yy t
abbrev KT(H:Hp):List (List Key×V)->List (List Key×Addr×Value)->Prop:=Paired λp q=>p.1=q.1/\H q.2.1=some (.tup<|p.1.map kV)/\RelV p.2 q.2.2
theorem KT.val{H:Hp}{AR:List (List Key×V)}{xs:List (List Key×Addr×Value)}(r:KT H AR xs)(k:List Key):Fh (GL AR k) ((atKey xs k).map (·.2)):=by
 induction r with
 |nil=>exact True.intro
 |@cons p q ps qs h t ih=>
  obtain⟨h1,_,h2⟩:=h;by_cases e:p.1=k
  .have e':q.1=k:=h1.symm.trans e;have b:atKey (q::qs) k=some q.2:=by simp[atKey,ACs,e']
   rw[Qi e,b];exact h2
  .have e':¬ q.1=k:=λz=>e<|h1.trans z;have b:atKey (q::qs) k=atKey qs k:=by simp[atKey,ACs,e']
   rw[Qh e,b];exact ih
theorem KT.Ui{H:Hp}{AR:List (List Key×V)}{xs:List (List Key×Addr×Value)}(r:KT H AR xs)(k:List Key){y:V}{u:Value}(ry:RelV y u) : KT H (AR.map λkv=>if kv.1=k then(kv.1,y)else kv)<|xs.map<|putAt k u:=by
 induction r with
 |nil=>exact .nil
 |@cons p q ps qs h t ih=>
  rw[AAx,AAx];refine .cons ?_ ih;obtain⟨h1,h2,h3⟩:=h;unfold putAt;by_cases e:p.1=k
  .rw[AAl e,AAl<|h1.symm.trans e];exact⟨h1,h2,ry⟩
  .rw[AAj e,AAj λz=>e<|h1.trans z];exact⟨h1,h2,h3⟩
theorem KT.put{H:Hp}{AR:List (List Key×V)}{xs:List (List Key×Addr×Value)}(r:KT H AR xs)(k:List Key){b:Addr}{y:V}{u:Value}(hb:H b=some (.tup<|k.map kV))(ry:RelV y u) : KT H (FD AR k y)<|storedH xs k b u:=by
 have e:(AR.any λkv=>decide (kv.1=k))=(atKey xs k).isSome:=by rw[cq,(r.val k).nI,Option.isSome_map]
 unfold FD storedH;rw[e];by_cases q:(atKey xs k).isSome=true
 .rw[AAl q,AAl q];exact r.Ui k ry
 .rw[AAj q,AAj q];exact Paired.snoc r ⟨rfl,hb,ry⟩
theorem KT.keeps{H H':Hp}{AR:List (List Key×V)}{xs:List (List Key×Addr×Value)}(r:KT H AR xs)(ht:∀b ys,H b=some (.tup ys)->H' b=some (.tup ys)):KT H' AR xs:=
 Paired.Pn r λ_ _ z=>⟨z.1,ht _ _ z.2.1,z.2.2⟩
section
variable{P:Program}{w:World}{H:Hp}{h:Heap}{a:Addr}
theorem ay{u:HO}(ok:Bo P w H h)(e:Rd H a u):B1 P w H h a u:=e.ok ok
theorem Rx{AR:List (Key×V)}(ok:Bo P w H h)(e:Rd H a<|.dK AR):AR.length<=sizeLine/\(a==sysModules)=false/\∃vs,KV AR vs/\h.DictOf (FA P w) a vs:=
 show B1 P w H h a (.dK AR)from ay ok e
theorem i4{AR:List (Key×V)}(ok:Bo P w H h)(e:H a=some (.dK AR)):AR.length<=sizeLine/\(a==sysModules)=false/\∃vs,KV AR vs/\h.DictOf (FA P w) a vs:=Rx ok<|.inl e
theorem Ts{ks:List Key}(ok:Bo P w H h)(e:H a=some (.tup<|ks.map kV)):(tupleKind<|FA P w).is h ks a:=by obtain⟨_,its,r,o,h1,h2,n,h3⟩:=(show B1 P w H h a (.tup<|ks.map kV)from ok a _ e);exact⟨o,its.toArray,n,h1,h2,h3,by simpa using Yy r⟩
theorem Ry{AR:List (List Key×V)}(ok:Bo P w H h)(e:Rd H a<|.dT AR):AR.length<=sizeLine/\(a==sysModules)=false/\∃xs,KT H AR xs/\h.DictOfH (tupleKind<|FA P w) a xs:=by
 obtain⟨z,y,xs,r,o,es,ep,h1,h2,h3,h4,h5⟩:=(show B1 P w H h a (.dT AR)from ay ok e);refine⟨z,y,xs,r,o,es,ep,h1,h2,h3,h4,λx hx=>?_,h5⟩;have all:∀{l:List (List Key×V)}{m:List (List Key×Addr×Value)},KT H l m->∀x∈m,(tupleKind<|FA P w).is h x.1 x.2.1:=by
  intro l m q
  induction q with
  |nil=>intro x hx;exact nomatch hx
  |@cons p q ps qs hq t ih=>
   intro x hx;rcases AAy.mp hx with e|hx
   .subst e;exact Ts ok (by rw[<-hq.1];exact hq.2.1)
   .exact ih x hx
 exact all r x hx
theorem jC{AR:List (List Key×V)}(ok:Bo P w H h)(e:H a=some (.dT AR)):AR.length<=sizeLine/\(a==sysModules)=false/\∃xs,KT H AR xs/\h.DictOfH (tupleKind<|FA P w) a xs:=Ry ok<|.inl e
end
def Qr(H:Hp)(a:Addr)(y:V)(r:Option V):Prop:=
 (∃AR k,Rd H a (.dK AR)/\y=kV k/\r=GL AR k)\/∃AR k b,Rd H a (.dT AR)/\y=.ref b/\H b=some (.tup<|k.map kV)/\r=GL AR k
def Va(H:Hp)(a:Addr)(y v:V)(H':Hp):Prop:=
 (∃AR k,H a=some (.dK AR)/\y=kV k/\AR.length<sizeLine/\H'=upd H a (.dK<|FD AR k v))\/
 ∃AR k b,H a=some (.dT AR)/\y=.ref b/\H b=some (.tup<|k.map kV)/\AR.length<sizeLine/\H'=upd H a (.dT<|FD AR k v)
section
variable{X:Cx}{AE:List (Addr×Obj)}{σ:St}{H:Hp}{s:Shared}{a:Addr}{y v:V}{u r:Value}{o:Option V}{A:Around}{E:Value->Shared->Prop}
theorem Inv.big(I:Inv X AE σ H s):sysModules<s.heap.objs.size:=by have h:mainGlobals<s.heap.objs.size:=(I.mod.glob.keeps I.bk).lt;exact AET AAe h
theorem iO{Q:Value->Shared->Prop}(hu:A.units+1<cLine)(I:Inv X AE σ H s)(g:Qr H a y<|some v)(ry:RelV y u)(h:∀w' s',Inv X AE σ H s'->RelV v w'->Q w' s') : wpAny (model X.prog X.w) A (getItem (.ref a) u) Q E s:=by
 rcases g with⟨AR,k,e,ey,l⟩|⟨AR,k,b,e,ey,eb,l⟩
 .subst ey;obtain⟨z,hd,vs,rel,dd⟩:=Rx I.Af e;obtain⟨w',hw,Cs⟩:=Fh.some_of (v:=v) (o:=valueAt vs k) (by rw[l];exact rel.val k);exact wpAny_getItem_of (Tq ry) dd.mapOf hw<|h w' _ (I.tok _) Cs
 .subst ey;cases (show u=Value.ref b from ry);obtain⟨z,hd,xs,rel,dd⟩:=Ry I.Af e;obtain⟨w',hw,Cs⟩:=Fh.some_of (v:=v) (o:=(atKey xs k).map (·.2)) (by rw[l];exact rel.val k);obtain⟨p,hp,S4⟩:=AD6.mp hw;refine wpAny_getItem_heap (tupleKind_room_in1 hu) (Ts I.Af eb) dd hp ?_;rw[S4];exact h w' _ (I.tok _) Cs
theorem Wg{h':Heap}{t':Nat}{ob:HO}(I:Inv X AE σ H s)(mu:L6<|H a)(hs:Heap.SameBut a s.heap h')(he:∃q,h'.get? a=some q)(new:B1 X.prog X.w (upd H a ob) h' a ob) : Inv X AE σ (upd H a ob) {s with heap:=h',toks:=t'}:=
 I.write (x:=a) (e:=a) mu (.inl rfl) (λb q hb z=>(hs.2 b hb).trans z) he new
theorem iz{P:Program}{w:World}{H':Hp}{h':Heap}{AR:List (Key×V)}{vs:List (Key×Value)}(z:AR.length<=sizeLine)(hd:(a==sysModules)=false)(rel:KV AR vs)(dd:h'.DictOf (FA P w) a vs) : B1 P w H' h' a<|.dK AR:=⟨z,hd,vs,rel,dd⟩
theorem iP{H':Hp}{Q:Unit->Shared->Prop}(hu:A.units+1<cLine)(I:Inv X AE σ H s)(g:Va H a y v H')(ry:RelV y u)(rv:RelV v r)(h:∀s',Inv X AE σ H' s'->Q () s') : wpAny (model X.prog X.w) A (setItem (.ref a) u r) Q E s:=by
 rcases g with⟨AR,k,e,ey,l,eH⟩|⟨AR,k,b,e,ey,eb,l,eH⟩
 .subst ey eH;obtain⟨z,hd,vs,rel,dd⟩:=i4 I.Af e;have hz:vs.length<=sizeLine:=by rw[<-rel.length];exact z
  have hl:(FD AR k v).length<=sizeLine:=by have:=ZO AR k v;omega
  refine wpAny_setItem_pairs (hsz:=hz) (Tq ry) dd λh' OH hs=>h _ ?_;have he:∃q,h'.get? a=some q:=let ⟨q,_,_,hq,_⟩:=OH;⟨q,hq⟩
  exact Wg I (by rw[e];exact True.intro) hs he<|iz hl hd (rel.put k rv) OH
 .subst ey eH;cases (show u=Value.ref b from ry);obtain⟨z,hd,xs,rel,dd⟩:=jC I.Af e;have hz:xs.length<=sizeLine:=by rw[<-Paired.length rel];exact z
  have hl:(FD AR k v).length<=sizeLine:=by have:=ZO AR k v;omega
  refine wpAny_setItem_heap (hsz:=hz) (tupleKind_room_in1 hu) (Ts I.Af eb) dd λh' OH hs=>h _ ?_;obtain⟨q,es,ep,hq,h2,h3,h4,_,h5⟩:=OH;refine Wg I (by rw[e];exact True.intro) hs ⟨q,hq⟩ ⟨hl,hd,_,(rel.put k eb rv).keeps λc ys ec=>?_,q,es,ep,hq,h2,h3,h4,h5⟩;rw[BH<|o6 ec e λz=>nomatch z];exact ec
end
section
variable{X:Cx}{AE:List (Addr×Obj)}{σ:St}{H:Hp}{s:Shared}{a:Addr}{AR:List (Key×V)}{k:Key}{u:Value}{A:Around}{E:Value->Shared->Prop}
end
def RF(i:Expr):Prop:=∀ov iv,subscripted i false ov iv=operate [ov,iv] (getItem ov iv)
theorem xM{prog:Program}{w:World}{A:Around}{E:Value->Shared->Prop}{s:Shared}{env:Env}{value slice:Expr}{pos:Pos}{T id:String}{Q:Value->Shared->Prop} (hl:typeLookup (.type T) "__getitem__" = pure (some<|.builtin id)) (hs:RF slice) (h:wpAny (model prog w) A (eval value env) (λo BN=>wpAny (model prog w) A (eval slice env) (λi GJ=>GJ.TypeIs o T/\wpAny (model prog w) A (getItem o i) Q E GJ) E BN) E s) :
 wpAny (model prog w) A (eval (.Subscript value slice pos) env) Q E s:=by
 refine Subscript_<|wpAny_mono h (λo BN Iy=>wpAny_mono Iy (λi GJ K8=>?_) λ_ _ x=>x) λ_ _ x=>x;obtain⟨hT,K8⟩:=K8;unfold subscriptTail;refine wpAny_bind ?_;rw[getitemInPython_of_ne hT.not_modules];refine wpAny_bind<|wpAny_specialOf hT hl ?_;have fin:wpAny (model prog w) A (subscripted slice false o i) (λr JP=>wpAny (model prog w) A (letTemporaryGo value o r >>= λ_=>pure r) Q E JP) E GJ:=by rw[hs o i];exact wpAny_operating<|wpAny_mono K8 (λr JP PH=>wpAny_bind<|wpAny_letTemporaryGo<|wpAny_pure PH) λ_ _ x=>x
 first
  |exact wpAny_pure<|wpAny_bind fin
  |exact wpAny_bind<|wpAny_pure<|wpAny_bind fin
  |exact wpAny_bind fin
theorem iy{X:Cx}{AE:List (Addr×Obj)}{σ:St}{H:Hp}{s:Shared}{a:Addr}{y:V}{o:Option V}(I:Inv X AE σ H s)(g:Qr H a y o):s.TypeIs (.ref a) "dict":=by
 rcases g with⟨AR,k,e,_,_⟩|⟨AR,k,b,e,_,_,_⟩
 .obtain⟨_,_,vs,_,dd⟩:=Rx I.Af e;exact dd.typeIs
 .obtain⟨_,_,xs,_,dd⟩:=Ry I.Af e;exact dd.typeIs
def xT(td ty:TE):TE:=λσ H Q=>td σ H λx H1=>ty σ H1 λy H2=>∃a v,x=.ref a/\Qr H2 a y (some v)/\Q v H2
def wO(td ty tv:TE):TS:=λD σ H=>tv σ H λv H1=>td σ H1 λx H2=>ty σ H2 λy H3=>∃a H4,x=.ref a/\Va H3 a y v H4/\D.nx σ H4
section
variable{X:Cx}{o i e value:Expr}{pos pos' EZ:Pos}{td ty tv:TE}
theorem rD(hu:X.A.units+1<cLine)(ho:PE X o td)(hi:PE X i ty)(hs:RF i):PE X (.Subscript o i pos)<|xT td ty:=by intro AE s σ H Q I h;refine xM PySem.F.slot_dict_getitem.lookup hs<|Aj (ho AE s σ H _ I h) λu s1 ⟨x,H1,I1,rx,q1⟩=>Aj (hi AE s1 σ H1 _ I1 q1) λiv s2 ⟨y,H2,I2,ry,a,v,ex,g,q2⟩=>?_;subst ex;obtain rfl:u=Value.ref a:=rx;exact⟨iy I2 g,iO hu I2 g ry λw' s3 I3 Cs=>⟨v,H2,I3,Cs,q2⟩⟩
theorem sD(hu:X.A.units+1<cLine)(ho:PE X o td)(hi:PE X i ty)(hv:PE X value tv)(hs:swapsWith value (some<|.Subscript o i pos') pos.line X.env=pure false) : PS X (.Assign [.Subscript o i pos'] value pos)<|wO td ty tv:=by intro AE s σ H D I h;refine wpAny_Assign_Subscript (Aj (hv AE s σ H _ I h) λr s1 ⟨v,H1,I1,rv,q1⟩=>Aj (ho AE s1 σ H1 _ I1 q1) λu s2 ⟨x,H2,I2,rx,q2⟩=>Aj (hi AE s2 σ H2 _ I2 q2) λiv s3 ⟨y,H3,I3,ry,a,H4,ex,g,q3⟩=>?_) hs;subst ex;obtain rfl:u=Value.ref a:=rx;exact iP hu I3 g ry rv λs4 I4=>⟨σ,H4,I4,q3⟩
end
theorem jB{P:Program}{w:World}{H:Hp}(h:Heap)(hb:sysModules<h.objs.size):B1 P w H (h.push {cls:=.type "dict",data:=.dict #[]}) h.objs.size<|.dT []:=
 ⟨ACP _,AA7.mpr<|ABX<|AA0 hb,[],.nil,_,#[],0,Heap.get?_push_size _ rfl,⟨rfl,rfl,rfl⟩,rfl,rfl,AEB⟩
def xU:TE:=λ_ H Q=>∀p,H p=none->Q (.ref p) (upd H p<|.dT [])
section
variable{X:Cx}{pos:Pos}
theorem rE:PE X (.Dict [] [] pos) xU:=λAE s σ H Q I h=>
 wpAny_Dict_empty ⟨.ref s.heap.objs.size,_,I.laid (a:=s.heap.objs.size) (o:=.dT []) (t':=s.toks) (λ_ _ q=>Heap.get?_push_of_some _ q) (AAw _)<|jB s.heap I.big,rfl,h _<|I.Af.fresh<|AAw _⟩
end
end L2
set_option linter.all false
namespace L2
set_option tactic.hygienic true
open PySem
noncomputable def Dp(cells:List<|Str×Addr):List (Str×NameKind)->List (Str×Addr)->List (Str×Addr)
 |[],acc=>acc
 |(n,k)::r,acc=>if(k==NameKind.free)=true then(match cells.lookup n with|some c=>Dp cells r ((n,c)::acc)|none=>Dp cells r acc)else Dp cells r acc
theorem WN{scope:Scope}{env:Env}(h:∀y∈scope.names,y.2=.free->∃c,env.cells.lookup y.1=some c):closureFor scope env=pure (Dp env.cells scope.names []):=by
 simp only[closureFor];generalize ([]:List<|Str×Addr)=acc;revert h acc;generalize scope.names=l
 induction l with
 |nil=>intro h acc;simp[Dp]
 |cons x r ih=>
  intro h acc;obtain⟨n,k⟩:=x;rw[List.forIn_cons];by_cases hk:(k==NameKind.free)=true
  .have Bi:k=.free:=by simpa using hk
   obtain⟨c,hc⟩:=h (n,k) (AAu) Bi;have Gg:cellOf env n=pure c:=by unfold cellOf;rw[show env.cells.lookup n=some c from hc]
   simp only[Dp,hk,ACT,Gg,pure_bind];rw[show List.lookup n env.cells=some c from hc];exact ih (λy hy=>h y<|AAs _ hy) _
  .simp only[Dp,hk,ADH,pure_bind,ACt];exact ih (λy hy=>h y<|AAs _ hy) _
theorem HY{cells:List (Str×Addr)}:∀{l:List (Str×NameKind)}{acc:List (Str×Addr)}{x:Str}{c:Addr},(∀y d,acc.lookup y=some d->cells.lookup y=some d)->(Dp cells l acc).lookup x=some c->cells.lookup x=some c
 |[],acc,x,c,ha,h=>ha x c h
 |(n,k)::r,acc,x,c,ha,h=>by
  unfold Dp at h;split at h
  .split at h
   .rename_i d hd;refine HY (l:=r) (acc:=(n,d)::acc) (λy e hy=>?_) h;rw[ACB]at hy;split at hy
    .rename_i TX;have:y=n:=by simpa using TX
     subst this;rw[hd];exact hy
    .exact ha y e hy
   .exact HY (l:=r) ha h
  .exact HY (l:=r) ha h
theorem g9{prog:Program}{w:World}{A:Around}{R:Result->Shared->Prop}{s:Shared}{elt Lg iter:Expr}{ifs:List Expr}{scope:Scope}{pos:Pos}{it acc:Value}{env:Env}(I:Nat->Shared->Prop) (turn:∀n s,I n s->wpAny (model prog w) A (pyNext it) (λr BN=>match r with
  |none=>R (.ok .next) BN
  |some v=>wpAny (model prog w) A (letOwnedTupleGo Lg it v) (λ_ bq=>wpAny (model prog w) A (assign Lg env v) (λ_ GJ=>
   wpAny (model prog w) A (forIn ifs true λc r=>if r=true then do let ok<-isTrue c env<|eval c env;pure (ForInStep.yield ok)else pure (ForInStep.yield r)) (λok JP=>
    if ok=true then wpAny (model prog w) A (eval elt env) (λx QU=>
     wpAny (model prog w) A (call (.builtin "list.append") [acc,x]) (λ_ br=>∃m,m<n/\I m br) (λ_ _=>False) QU) (λ_ _=>False) JP
    else ∃m,m<n/\I m JP) (λ_ _=>False) GJ) (λ_ _=>False) bq) (λ_ _=>False) BN) (λ_ _=>False) s)
 (n:Nat) (h:I n s) :
 codeAny (model prog w) A (.compLoop (.ListComp elt [⟨Lg,iter,ifs,0⟩] scope pos) 0 it acc env) R s:=by
 refine codeAny_loop rfl I (λn s hI=>?_) n h;show wpAny _ A ((compTurn (.ListComp elt [⟨Lg,iter,ifs,0⟩] scope pos) 0 it acc env).onRaise (λx=>do noteFrame x env;theTreesLotGoes x)) _ _ s;refine wpAny_noted ?_;rw[compTurn_list];refine wpAny_bind<|wpAny_standAt<|wpAny_bind<|wpAny_mono (turn n s hI) (λr BN Iy=>?_) λ_ _ h'=>False.elim h';cases r with
 |none=>exact wpAny_pure Iy
 |some v=>
  refine wpAny_bind<|wpAny_mono Iy (λ_ bq mz=>?_) λ_ _ h'=>False.elim h';refine wpAny_bind<|wpAny_mono mz (λ_ GJ K8=>wpAny_bind<|wpAny_mono K8 (λok JP PH=>?_) λ_ _ h'=>False.elim h') λ_ _ h'=>False.elim h';cases ok with
  |false=>exact wpAny_pure ⟨rfl,PH⟩
  |true=>
   exact wpAny_bind<|wpAny_bind<|wpAny_mono PH (λx QU Yq=>wpAny_bind<|wpAny_mono Yq (λ_ br Mr=>wpAny_pure<|wpAny_pure ⟨rfl,Mr⟩) λ_ _ h'=>False.elim h') λ_ _ h'=>False.elim h'
end L2
set_option linter.all false
namespace ST
open PySem PySem.SetTable
theorem WR(l:List Nat)(j:Nat):l.countP (· < j)<=l.length:=List.countP_le_length
theorem NS:∀(l:List Nat)(j:Nat),l.Pairwise (· < ·)->∀i (h:i<l.length),(l[i]<j↔i<l.countP (· < j))
 |[],_,_,i,h=>by simp at h
 |x::r,j,hs,i,h=>by
  obtain⟨h1,h2⟩:=ADK.mp hs;by_cases hx:x<j
  .rw[List.countP_cons_of_pos<|by simpa using hx];cases i with
   |zero=>simp[hx]
   |succ i=>
    have:=NS r j h2 i (by simpa using h);simp only[ACv];lia
  .have Bf:∀y∈r,¬ y<j:=λy hy=>by have:=h1 y hy;lia
   have h0:r.countP (· < j)=0:=ADD.mpr λy hy=>by simpa using Bf y hy
   rw[List.countP_cons_of_neg (by simpa using hx),h0];cases i with
   |zero=>simp[hx]
   |succ i=>
    simp only[ACv];have:=Bf _ (ACg<|by simpa using h);lia
theorem Ra(xs:Array Nat)(j:Nat)(hs:xs.toList.Pairwise (· < ·)):∀(f lo hi:Nat),hi-lo<=f->hi<=xs.size->lo<=xs.toList.countP (· < j)->xs.toList.countP (· < j)<=hi->below.go xs j f lo hi=xs.toList.countP (· < j)
 |0,lo,hi,h1,h2,h3,h4=>by unfold below.go;lia
 |f+1,lo,hi,h1,h2,h3,h4=>by
  unfold below.go;by_cases BM:lo<hi
  .rw[AAl BM];have hm:(lo+hi) / 2<xs.size:=U
   have hg:xs.getD ((lo+hi) / 2) j=xs.toList[(lo+hi) / 2]'(by simpa using hm):=by simp[Array.getD,hm]
   have:=NS xs.toList j hs ((lo+hi) / 2) (by simpa using hm);dsimp only;rw[hg];by_cases hc:xs.toList[(lo+hi) / 2]'(by simpa using hm)<j
   .rw[AAl hc];exact Ra xs j hs f _ hi U h2 U h4
   .rw[AAj hc];exact Ra xs j hs f lo _ U U h3 (by have:=λz=>hc<|this.mpr z;lia)
  .rw[AAj BM];lia
theorem RZ(xs:Array Nat)(j:Nat)(hs:xs.toList.Pairwise (· < ·)):below xs j=xs.toList.countP (· < j):=by exact Ra xs j hs xs.size 0 xs.size U (AAw _) (ACP _) (by have:=WR xs.toList j;simpa using this)
theorem MF(xs:Array Nat)(j:Nat)(hs:xs.toList.Pairwise (· < ·))(i:Nat)(h:xs[i]? = some j):below xs j=i:=by
 obtain⟨hi,e⟩:=AC7.mp h;rw[RZ xs j hs];have h1:=NS xs.toList j hs i (by simpa using hi);have e':xs.toList[i]'(by simpa using hi)=j:=by simpa using e
 rw[e']at h1;by_cases h3:xs.toList.countP (· < j)=i
 .exact h3
 .have hl:xs.toList.countP (· < j)<xs.toList.length:=by rw[ABZ];lia
  have h4:=NS xs.toList j hs _ hl;have h5:=ABV.mp hs _ _ hl (by simpa using hi) U;rw[e']at h5;lia
theorem bQ{t:SetTable}(hs:t.place.toList.Pairwise (· < ·)){i j:Nat}(h:t.place[i]? = some j):t.slot j=.live i:=by unfold slot;dsimp only;rw[MF _ _ hs i h,h];simp
theorem xC{t:SetTable}(hd:t.dummies=#[]){j:Nat}(h:j∉t.place.toList):t.slot j=.empty:=by
 unfold slot;have h1:¬ (t.place[below t.place j]? == some j)=true:=by intro z;rw[ABw]at z;have:=Array.mem_of_getElem? z;exact h<|by simpa using this
 rw[AAj h1];have h2:has t.dummies j=false:=by rw[hd];simp[has]
 rw[h2];simp
theorem nF(xs:Array Nat)(j:Nat)(hs:xs.toList.Pairwise (· < ·))(hj:j∉xs.toList):(insertAt xs (below xs j) j).toList.Pairwise (· < ·):=by
 rw[SetTable.toList_insertAt,RZ xs j hs];have DY:=NS xs.toList j hs;rw[ABx];refine⟨hs.sublist<|ADp _ _,?_,?_⟩
 .rw[ADK];refine⟨λy hy=>?_,hs.sublist<|List.drop_sublist _ _⟩;obtain⟨k,hk,e⟩:=ACN hy;rw[List.getElem_drop]at e;rw[AC4]at hk;have:=DY (xs.toList.countP (· < j)+k) U;have Ap:y≠j:=λz=>hj<|z ▸ ADb hy;rw[e]at this;lia
 .intro a ha b hb;obtain⟨k,hk,e⟩:=ACN ha;rw[List.getElem_take]at e;rw[ACQ]at hk;have h1:=DY k U;rw[e]at h1;have Im:=h1.mpr U;rcases AAy.mp hb with rfl|hb
  .exact Im
  .obtain⟨k',Bi,e'⟩:=ACN hb;rw[List.getElem_drop]at e';rw[AC4]at Bi;have:=DY (xs.toList.countP (· < j)+k') U;rw[e']at this;lia
noncomputable def CF(mask i:Nat):Nat:=runEnd mask i-i
theorem wJ(mask i:Nat):CF mask i<=9:=by unfold CF runEnd;split<;>lia
def HV(mask:Nat)(p:Probe):Probe:=
 if p.more>0 then {p with j:=p.j+1,more:=p.more-1}else
 {p with j:=(leap mask p.i p.perturb).1,more:=CF mask (leap mask p.i p.perturb).1,i:=(leap mask p.i p.perturb).1,perturb:=(leap mask p.i p.perturb).2}
def xJ(mask:Nat)(h:Int):Probe:={j:=bits h%(mask+1),more:=CF mask<|bits h%(mask+1),i:=bits h%(mask+1),perturb:=bits h,dummy:=none}
def road(mask:Nat)(h:Int):Nat->Probe
 |0=>xJ mask h
 |n+1=>HV mask<|road mask h n
theorem bG(mask:Nat)(h:Int):∀n,(road mask h n).dummy=none
 |0=>rfl
 |n+1=>by have:=bG mask h n;unfold road HV;split<;>simpa using this
noncomputable def BQ(mask:Nat):Nat->Nat×Nat->Nat×Nat
 |0,x=>x
 |n+1,x=>leap mask (BQ mask n x).1 (BQ mask n x).2
noncomputable def L0(mask:Nat)(h:Int):Nat×Nat:=(bits h%(mask+1),bits h)
theorem QL(mask:Nat)(h:Int)(r i pt:Nat)(hr:road mask h r=⟨i,CF mask i,i,pt,none⟩):∀k,k<=CF mask i->road mask h (r+k)=⟨i+k,CF mask i-k,i,pt,none⟩
 |0,_=>by simpa using hr
 |k+1,hk=>by have ih:=QL mask h r i pt hr k U;show HV mask (road mask h<|r+k)=_;rw[ih];unfold HV;rw[AAl (by show CF mask i-k>0;lia)];simp only[and_true];lia
theorem bH(mask:Nat)(h:Int):∀n,∃r,r<=10*n/\road mask h r=⟨(BQ mask n<|L0 mask h).1,CF mask (BQ mask n<|L0 mask h).1,(BQ mask n<|L0 mask h).1,(BQ mask n<|L0 mask h).2,none⟩
 |0=>⟨0,AAw _,rfl⟩
 |n+1=>by
  obtain⟨r,hr,e⟩:=bH mask h n;have h1:=QL mask h r _ _ e _<|AAw _;have hl:=wJ mask (BQ mask n<|L0 mask h).1;refine⟨r+CF mask (BQ mask n<|L0 mask h).1+1,U,?_⟩;show HV mask (road mask h<|r+CF mask (BQ mask n<|L0 mask h).1)=_;rw[h1];unfold HV;rw[AAj (by show ¬ (CF mask _-CF mask _>0);lia)]
  rfl
theorem fY(h:Int):bits h<2 ^ 64:=by unfold bits;lia
theorem ZM(mask:Nat)(x:Nat×Nat):∀n,(BQ mask n x).2=x.2 / 32 ^ n
 |0=>by simp[BQ]
 |n+1=>by unfold BQ leap;dsimp only;rw[ZM mask x n,Nat.div_div_eq_div_mul,Nat.pow_succ]
theorem rQ(mask:Nat)(h:Int)(n:Nat)(hn:13<=n):(BQ mask n<|L0 mask h).2=0:=by rw[ZM];have h1:=fY h;have h2:2 ^ 64<=32 ^ n:=ABe AAe<|Nat.pow_le_pow_right AAe hn;exact Nat.div_eq_of_lt<|AA8 h1 h2
noncomputable def AA(mask:Nat):Nat->Nat->Nat
 |0,i=>i
 |n+1,i=>(AA mask n i*5+1)%(mask+1)
theorem ZL(mask:Nat)(h:Int):∀n,(BQ mask (13+n)<|L0 mask h).1=AA mask n (BQ mask 13<|L0 mask h).1
 |0=>rfl
 |n+1=>by show(leap mask (BQ mask (13+n)<|L0 mask h).1 (BQ mask (13+n)<|L0 mask h).2).1=_;rw[rQ mask h (13+n) U,ZL mask h n];show(AA mask n _*5+1+0 / 32)%(mask+1)=(AA mask n _*5+1)%(mask+1);simp
theorem oE(mask:Nat)(h:Int):∀n,(BQ mask n<|L0 mask h).1<mask+1
 |0=>AEG _<|ADt _
 |n+1=>AEG _<|ADt _
theorem iK:∀i<8,∀j<8,∃n<8,AA 7 n i=j:=AAe
theorem iJ:∀i<32,∀j<32,∃n<32,AA 31 n i=j:=AAf
def Good(mask:Nat):Prop:=mask=7\/mask=31
theorem ZN{mask:Nat}(hm:Good mask)(h:Int){j:Nat}(hj:j<=mask):∃n,n<turns mask-1/\(BQ mask n<|L0 mask h).1=j:=by
 have hl:=oE mask h 13;have:∃n<mask+1,AA mask n (BQ mask 13<|L0 mask h).1=j:=by
  rcases hm with rfl|rfl
  .exact iK _ hl j U
  .exact iJ _ hl j U
 obtain⟨n,hn,e⟩:=this;exact⟨13+n,by unfold turns;lia,by rw[ZL];exact e⟩
theorem wC{mask:Nat}(hm:Good mask)(h:Int){j:Nat}(hj:j<=mask):∃n,n<10*turns mask/\(road mask h n).j=j:=by obtain⟨n,hn,e⟩:=ZN hm h hj;obtain⟨r,hr,er⟩:=bH mask h n;exact⟨r,by unfold turns at *;lia,by rw[er];exact e⟩
theorem Zs:∀(l1 l2:List Nat),l1.Nodup->(∀x∈l1,x∈l2)->l1.length<=l2.length
 |[],_,_,_=>ACP _
 |x::r,l2,hn,hs=>by obtain⟨h1,h2⟩:=ACK.mp hn;have hx:=hs x AAu;have:=Zs r (l2.erase x) h2 λy hy=>(List.mem_erase_of_ne (show y≠x from λz=>h1<|z ▸ hy)).mpr<|hs y<|AAs _ hy;rw[ADu hx]at this;have hp:=ACw hx;rw[AA6];lia
theorem X2(mask:Nat)(L:List Nat)(hn:L.Nodup)(hl:L.length<=mask)(hle:∀j∈L,j<=mask):∃j,j<=mask/\j∉L:=by refine ABa λh=>?_;have Bf:∀j,j∈List.range (mask+1)->j∈L:=λj hj=>ABa λz=>h ⟨j,by have:=AAr.mp hj;lia,z⟩;have:=Zs _ _ (ADv) Bf;rw[ABd]at this;lia
theorem j0{mask:Nat}(hm:Good mask)(h:Int)(L:List Nat)(hn:L.Nodup)(hl:L.length<=mask)(hle:∀j∈L,j<=mask):∃n,n<10*turns mask/\(road mask h n).j∉L/\∀m<n,(road mask h m).j∈L:=by
 obtain⟨j,hj,lu⟩:=X2 mask L hn hl hle;obtain⟨n,hn,e⟩:=wC hm h hj;have key:∀k,(∃n,n<k/\(road mask h n).j∉L)->∃n,n<k/\(road mask h n).j∉L/\∀m<n,(road mask h m).j∈L:=by
  intro k
  induction k with
  |zero=>rintro⟨n,hn,_⟩;lia
  |succ k ih=>
   rintro⟨n,hn,e⟩;by_cases hex:∃n,n<k/\(road mask h n).j∉L
   .obtain⟨n',h1,h2,h3⟩:=ih hex;exact⟨n',U,h2,h3⟩
   .have mH:n=k:=by
     by_cases z:n<k
     .exact absurd ⟨n,z,e⟩ hex
     .lia
    subst mH;exact⟨n,hn,e,λm hm=>ABa λz=>hex ⟨m,hm,z⟩⟩
 exact key _ ⟨n,hn,by rw[e];exact lu⟩
end ST
set_option linter.all false
namespace ST
open PySem PySem.SetTable
theorem aX{t:SetTable}(hs:t.place.toList.Pairwise (· < ·))(hd:t.dummies=#[])(hashAt:Nat->Int)(h:Int)(N:Nat)(hN:(road t.mask h N).j∉t.place.toList):∀(f n:Nat),n<=N->N-n<f->(∀m,n<=m->m<N->(road t.mask h m).j∈t.place.toList)->(∃m i,n<=m/\m<N/\t.place[i]? = some (road t.mask h m).j/\hashAt i=h/\(∀k,n<=k->k<m->∀i',t.place[i']? = some (road t.mask h k).j->hashAt i'≠h)/\probe.go t hashAt h f (road t.mask h n)=some (.candidate (road t.mask h m).j i<|road t.mask h<|m+1))\/((∀k,n<=k->k<N->∀i',t.place[i']? = some (road t.mask h k).j->hashAt i'≠h)/\probe.go t hashAt h f (road t.mask h n)=some (.empty (road t.mask h N).j none))
 |0,n,_,hf,_=>U
 |f+1,n,hn,hf,Bf=>by
  by_cases he:n=N
  .subst he;right;refine⟨λk h1 h2=>U,?_⟩;unfold probe.go;rw[xC hd hN];rw[bG]
  .have Gn:=Bf n (AAw _) U;obtain⟨i,hi⟩:=ACc Gn;have CT:=by simpa using hi
   have O9:=bQ hs CT;have inj:∀i',t.place[i']? = some (road t.mask h n).j->i'=i:=λi' e=>by rw[<-MF _ _ hs i' e,MF _ _ hs i CT]
   by_cases hh:hashAt i=h
   .left;refine⟨n,i,AAw _,U,CT,hh,λk h1 h2=>U,?_⟩;unfold probe.go;rw[O9];dsimp only;rw[AAl<|by simpa using hh]
    rfl
   .have step:probe.go t hashAt h (f+1) (road t.mask h n)=probe.go t hashAt h f (road t.mask h<|n+1):=by
     conv=>lhs;unfold probe.go
     rw[O9];dsimp only;rw[AAj<|by simpa using hh]
     rfl
    rw[step];have Ap:∀i',t.place[i']? = some (road t.mask h n).j->hashAt i'≠h:=λi' e=>by rw[inj i' e];exact hh
    rcases aX hs hd hashAt h N hN f (n+1) U U (λm h1 h2=>Bf m U h2)with⟨m,i2,h1,h2,h3,h4,h5,h6⟩|⟨h5,h6⟩
    .left;refine⟨m,i2,U,h2,h3,h4,λk k1 k2=>?_,h6⟩;by_cases kn:k=n
     .subst kn;exact Ap
     .exact h5 k U k2
    .right;refine⟨λk k1 k2=>?_,h6⟩;by_cases kn:k=n
     .subst kn;exact Ap
     .exact h5 k U k2
section
variable{prog:Program}{w:World}{A:Around}{E:Value->Shared->Prop}{s:Shared}
abbrev Cr(prog:Program)(w:World):=intKind prog w
noncomputable abbrev BJ(prog:Program)(w:World)(k:List Int):Int:=tupleKeyHash (Cr prog w) k
structure Ey(prog:Program)(w:World)(h:Heap)(es:Array (Int×Value))(t:SetTable)(kk:List (List Int)):Prop where
 Jj:t.dummies=#[]
 LQ:Good t.mask
 CG:t.place.toList.Pairwise (· < ·)
 le:∀j∈t.place.toList,j<=t.mask
 sz:t.place.size=es.size
 OT:es.size*5<t.mask*3
 len:kk.length=es.size
 ent:∀(i:Nat)(hh:Int)(v:Value),es[i]? = some (hh,v)->∃k b,kk[i]? = some k/\v=.ref b/\IsTupleKey (Cr prog w) h k b/\hh=BJ prog w k
 nd:kk.Nodup
 reach:∀(i j:Nat)(k:List Int),t.place[i]? = some j->kk[i]? = some k->∃n,(road t.mask (BJ prog w k) n).j=j/\∀m<n,(road t.mask (BJ prog w k) m).j∈t.place.toList
theorem Ey.fits{h:Heap}{es:Array (Int×Value)}{t:SetTable}{kk:List (List Int)}(T:Ey prog w h es t kk):t.fits es.size=true:=by unfold SetTable.fits SetTable.fill;rw[T.Jj,T.sz];have:=T.OT;simp;lia
theorem Ey.kP{h:Heap}{es:Array (Int×Value)}{t:SetTable}{kk:List (List Int)}(T:Ey prog w h es t kk):t.gaveWay=false:=by unfold SetTable.gaveWay;rcases T.LQ with e|e<;>rw[e]<;>rfl
theorem pO(n:Nat){v:Value}(h:carriedByValue v=true):ofAClassStatement n v=pure false:=by
 cases v with
 |ref a=>simp[carriedByValue]at h
 |_=>first|rfl|(cases n<;>rfl)
theorem c8{ks:List Int}{b:Addr}{Q:Bool->Shared->Prop}(hk:IsTupleKey (Cr prog w) s.heap ks b)(h:Q false s):wpAny (model prog w) A (ofAClassStatement 8<|.ref b) Q E s:=by
 have hT:=hk.typeIs;obtain⟨o,items,n,ho,hc,hd,hi⟩:=hk;unfold ofAClassStatement;refine wpAny_bind<|wpAny_typeOf hT ?_;refine wpAny_bind<|wpAny_pure ?_;refine wpAny_bind<|wpAny_seqItems ho hd ?_;refine wpAny_bind ?_;rw[<-Array.forIn_toList];refine wpAny_forIn_list _ (λBE r s'=>r.1=none/\s'=s/\∀v∈BE,carriedByValue v=true) _ ?_ ?_ _ _ ⟨rfl,rfl,hi.byValue⟩
 .rintro v BE r s' ⟨hr,rfl,Bf⟩;rw[pO _<|Bf v AAu];exact wpAny_pure ⟨rfl,rfl,λu TN=>Bf u<|AAs _ TN⟩
 .rintro⟨r1,r2⟩ s' ⟨hr,rfl,_⟩;subst hr;exact wpAny_pure h
theorem zN{k:List Int}{b:Addr}{l:List Value}{Q:Bool->Shared->Prop}(hx:IsTupleKey (Cr prog w) s.heap k b)(hl:∀v∈l,∃k' b',v=.ref b'/\IsTupleKey (Cr prog w) s.heap k' b')(h:Q false s):wpAny (model prog w) A (searchCouldBeSeen (.ref b) l) Q E s:=by
 refine wpAny_bind ?_;refine wpAny_forIn_list _ (λBE r s'=>r.1=none/\s'=s/\∀v∈BE,∃k' b',v=.ref b'/\IsTupleKey (Cr prog w) s.heap k' b') _ ?_ ?_ _ _ ⟨rfl,rfl,hl⟩
 .rintro v BE r s' ⟨hr,rfl,Bf⟩;obtain⟨k',b',rfl,Bi⟩:=Bf v AAu;have Yi:=λu hu=>Bf u<|AAs _ hu;refine wpAny_ite_split (λ_=>wpAny_pure ⟨rfl,rfl,Yi⟩) λ_=>?_;refine wpAny_bind<|wpAny_eqIsQuiet_tuple hx ?_;refine wpAny_bind<|wpAny_eqIsQuiet_tuple Bi ?_;refine wpAny_bind<|c8 hx ?_;refine wpAny_bind<|c8 Bi ?_;exact wpAny_pure ⟨rfl,rfl,Yi⟩
 .rintro⟨r1,r2⟩ s' ⟨hr,rfl,_⟩;subst hr;exact wpAny_pure h
theorem c9{a:Addr}{o:Obj}{es:Array (Int×Value)}{ep:Nat}{t:SetTable}{kk:List (List Int)}{k:List Int}{b:Addr}{N:Nat}{Q:SetFound->Shared->Prop} (ho:s.heap.get? a=some o) (hd:o.data=.set es ep t) (T:Ey prog w s.heap es t kk) (hu:A.units<cLine) (hx:IsTupleKey (Cr prog w) s.heap k b) (MZ:N<10*turns t.mask) (hN:(road t.mask (BJ prog w k) N).j∉t.place.toList) (Bf:∀m<N,(road t.mask (BJ prog w k) m).j∈t.place.toList) (h1:k∈kk->Q (.there none) s) (h2:k∉kk->Q (.free (road t.mask (BJ prog w k) N).j false) s) : ∀(f n:Nat)(U3:Option Probe),U3.getD (t.probeStart<|BJ prog w k)=road t.mask (BJ prog w k) n->n<=N->N-n<f->(∀(i j:Nat),kk[i]? = some k->t.place[i]? = some j->∀m<n,(road t.mask (BJ prog w k) m).j≠j)->
  wpAny (model prog w) A (setSearchFrom a (.ref b) (BJ prog w k) true f U3) Q E s
 |0,n,_,_,_,hf,_=>U
 |f+1,n,U3,F4,hn,hf,O0=>by
  refine wpAny_bind<|wpAny_setState_of ho hd T.fits ?_;dsimp only;rw[T.kP];simp only[ACt,ADH];rw[F4];have S7:=aX T.CG T.Jj (λi=>(es[i]?.map (·.1)).getD 0) (BJ prog w k) N hN (10*turns t.mask) n hn U λm _ hm=>Bf m hm;rcases S7 with⟨m,i,m1,m2,m3,m4,m5,m6⟩|⟨m5,m6⟩
  .generalize S6:SetTable.probe t _ _ _=pr;have S5:=S6.symm.trans m6;subst S5;dsimp only;have hi:i<es.size:=by rw[<-T.sz];exact(AC7.mp m3).1
   obtain⟨⟨hh,v⟩,ev⟩:∃x,es[i]? = some x:=⟨es[i],ABP hi⟩;obtain⟨k',b',ek,rfl,Bi,rfl⟩:=T.ent i hh v ev;have lT:∀u∈(es.filter λx=>x.1==BJ prog w k).toList.map (λx=>x.2),∃k' b',u=Value.ref b'/\IsTupleKey (Cr prog w) s.heap k' b':=λu hu=>by
    obtain⟨⟨h',u'⟩,hm,rfl⟩:=ABD.mp hu;have CN:=by have:=ABg.mp (by simpa using hm:(h',u')∈es.toList.filter (λx=>x.1==BJ prog w k));simpa using this.1
    obtain⟨i',jQ⟩:=Array.getElem?_of_mem CN;obtain⟨k2,b2,_,e2,J0,_⟩:=T.ent i' h' u' jQ;exact⟨k2,b2,e2,J0⟩
   refine wpAny_ite_split (λ_=>wpAny_bind<|zN hx lT ?_) λ_=>?_
   all_goals
    rw[ev];refine wpAny_bind<|wpAny_holding<|wpAny_eqBool_tuple hu Bi hx ?_;refine wpAny_bind<|wpAny_setState_of ho hd T.fits ?_;dsimp only;by_cases Hm:k'=k
    .subst Hm;simp only[decide_true];exact wpAny_pure<|h1<|ABv ek
    .rw[ABr Hm];have TH:t.sameMemory t.moves t.mask=some true:=by unfold SetTable.sameMemory;simp
     rw[TH];dsimp only;rw[AAl rfl,bQ T.CG m3];dsimp only;rw[ev];refine wpAny_bind<|wpAny_isSame_ref_self ?_;refine c9 ho hd T hu hx MZ hN Bf h1 h2 f (m+1) _ rfl U U λi2 j2 e2 p2 m' CN=>?_;by_cases mD:m'<n
     .exact O0 i2 j2 e2 p2 m' mD
     .by_cases F1:m'=m
      .subst F1;intro z;have:i2=i:=by rw[<-MF _ _ T.CG i2 p2,<-z,MF _ _ T.CG i m3]
       subst this;rw[ek]at e2;exact Hm<|ABF e2
      .intro z;have Ap:=m5 m' U U i2 (by rw[z];exact p2);have Ir:i2<es.size:=by rw[<-T.sz];exact(AC7.mp p2).1
       obtain⟨⟨Sj,v2⟩,Ia⟩:∃x,es[i2]? = some x:=⟨es[i2],ABP Ir⟩;obtain⟨k3,b3,MO,_,_,e3⟩:=T.ent i2 Sj v2 Ia;rw[e2]at MO;cases MO;apply Ap;rw[Ia];exact e3
  .generalize S6:SetTable.probe t _ _ _=pr;have S5:=S6.symm.trans m6;subst S5;refine wpAny_pure<|h2 λGn=>?_;obtain⟨i,ei⟩:=ACc Gn;have hi:i<t.place.size:=by rw[T.sz,<-T.len];exact(AAn.mp ei).1
   have hp:=ABP hi;obtain⟨n1,e1,hb⟩:=T.reach i _ k hp ei;have YY:n1<N:=by
    by_cases z:n1<N
    .exact z
    .exfalso;by_cases z2:n1=N
     .subst z2;apply hN;rw[e1];exact ABv (by rw[AB1];exact hp)
     .exact hN<|hb N U
   by_cases Sx:n1<n
   .exact O0 i _ ei hp n1 Sx e1
   .have Ap:=m5 n1 U YY i (by rw[e1];exact hp);have Ir:i<es.size:=by rw[<-T.sz];exact hi
    obtain⟨⟨Sj,v2⟩,Ia⟩:∃x,es[i]? = some x:=⟨es[i],ABP Ir⟩;obtain⟨k3,b3,MO,_,_,e3⟩:=T.ent i Sj v2 Ia;rw[ei]at MO;cases MO;apply Ap;rw[Ia];exact e3
end
end ST
set_option linter.all false
namespace ST
open PySem PySem.SetTable
def rI(mask:Nat)(h:Int):Nat->Nat
 |0=>0
 |n+1=>rI mask h n+CF mask (BQ mask n<|L0 mask h).1+1
theorem QK(mask:Nat)(h:Int):∀n,road mask h (rI mask h n)=⟨(BQ mask n<|L0 mask h).1,CF mask (BQ mask n<|L0 mask h).1,(BQ mask n<|L0 mask h).1,(BQ mask n<|L0 mask h).2,none⟩
 |0=>rfl
 |n+1=>by
  have h1:=QL mask h (rI mask h n) _ _ (QK mask h n) _<|AAw _;show HV mask (road mask h<|rI mask h n+CF mask (BQ mask n<|L0 mask h).1)=_;rw[h1];unfold HV;rw[AAj (by show ¬ (CF mask _-CF mask _>0);lia)]
  rfl
def Fg(Am:Array<|Option Nat)(j:Nat):Prop:=(Am.getD j<|some 0).isSome=true
theorem bI(mask i:Nat):runEnd mask i+1-i=CF mask i+1:=by unfold CF runEnd;split<;>lia
theorem Xp(p:Nat->Bool):∀(n:Nat),match (List.range n).find? p with|some k=>k<n/\p k=true/\∀m<k,p m=false|none=>∀m<n,p m=false:=by
 intro n;cases h:(List.range n).find? p with
 |none=>
  intro m hm;have:=List.find?_eq_none.mp h m (AAr.mpr hm);simpa using this
 |some k=>
  obtain⟨h1,as,bs,e,h2⟩:=List.find?_eq_some_iff_append.mp h;have hk:k∈List.range n:=by rw[e];simp
  refine⟨AAr.mp hk,h1,λm hm=>?_⟩;have Bg:as.length=k:=by
   have hg:(List.range n)[as.length]? = some k:=by rw[e];simp
   obtain⟨hl,hv⟩:=AAn.mp hg;rw[ADi]at hv;exact hv
  have CN:=by
   have hg:(List.range n)[m]? = some m:=by rw[AEK (by have:=AAr.mp hk;lia)]
   rw[e,ABH U]at hg;exact ABv hg
  simpa using h2 m CN
theorem kC{mask:Nat}(Am:Array<|Option Nat)(h:Int)(ns:Nat)(Ip:¬ Fg Am (BQ mask ns<|L0 mask h).1):∀(d n f:Nat),n+d=ns->d<f->(∀m<rI mask h n,Fg Am (road mask h m).j)->∃N,(∀m<N,Fg Am (road mask h m).j)/\¬ Fg Am (road mask h N).j/\layClean.free mask Am f (BQ mask n<|L0 mask h).1 (BQ mask n<|L0 mask h).2=some (road mask h N).j:=by
 intro d
 induction d with
 |zero=>
  intro n f hn hf Bf;obtain⟨f,rfl⟩:∃g,f=g+1:=⟨f-1,U⟩;have Sw:n=ns:=U
  subst Sw;refine⟨rI mask h n,Bf,by rw[QK];exact Ip,?_⟩;unfold layClean.free;rw[bI];have:=Xp (λk=>(Am.getD ((BQ mask n<|L0 mask h).1+k)<|some 0).isNone)<|CF mask (BQ mask n<|L0 mask h).1+1;have h0:(Am.getD ((BQ mask n<|L0 mask h).1+0)<|some 0).isNone=true:=by unfold Fg at Ip;simpa using Ip
  cases Md:(List.range<|CF mask (BQ mask n<|L0 mask h).1+1).find? (λk=>(Am.getD ((BQ mask n<|L0 mask h).1+k)<|some 0).isNone)with
  |none=>
   rw[Md]at this;have z:=this 0 U;rw[h0]at z;cases z
  |some k=>
   rw[Md]at this;obtain⟨k1,k2,k3⟩:=this;by_cases hk:k=0
   .subst hk;rw[QK];simp
   .have z:=k3 0 U;rw[h0]at z;cases z
 |succ d ih=>
  intro n f hn hf Bf;obtain⟨f,rfl⟩:∃g,f=g+1:=⟨f-1,U⟩;unfold layClean.free;rw[bI];have:=Xp (λk=>(Am.getD ((BQ mask n<|L0 mask h).1+k)<|some 0).isNone)<|CF mask (BQ mask n<|L0 mask h).1+1;have O7:∀k,k<=CF mask (BQ mask n<|L0 mask h).1->(road mask h<|rI mask h n+k).j=(BQ mask n<|L0 mask h).1+k:=λk hk=>by rw[QL mask h (rI mask h n) _ _ (QK mask h n) k hk]
  cases Md:(List.range<|CF mask (BQ mask n<|L0 mask h).1+1).find? (λk=>(Am.getD ((BQ mask n<|L0 mask h).1+k)<|some 0).isNone)with
  |some k=>
   rw[Md]at this;obtain⟨k1,k2,k3⟩:=this;refine⟨rI mask h n+k,λm hm=>?_,?_,by rw[O7 k U]⟩
   .by_cases Sv:m<rI mask h n
    .exact Bf m Sv
    .have z:=k3 (m-rI mask h n) U;have e:=O7 (m-rI mask h n) U;rw[show rI mask h n+(m-rI mask h n)=m by lia]at e;rw[e];unfold Fg;cases hq:Am.getD ((BQ mask n<|L0 mask h).1+(m-rI mask h n)) (some 0)with
     |none=>rw[hq]at z;cases z
     |some _=>rfl
   .rw[O7 k U];unfold Fg;intro z;cases hq:Am.getD ((BQ mask n<|L0 mask h).1+k) (some 0)with
    |none=>rw[hq]at z;cases z
    |some _=>rw[hq]at k2;cases k2
  |none=>
   rw[Md]at this;have lD:=λm hm=>by
    by_cases Sv:m<rI mask h n
    .exact Bf m Sv
    .have CN:m<rI mask h n+CF mask (BQ mask n<|L0 mask h).1+1:=hm;have z:=this (m-rI mask h n) U;have e:=O7 (m-rI mask h n) U;rw[show rI mask h n+(m-rI mask h n)=m by lia]at e;rw[e];unfold Fg;cases hq:Am.getD ((BQ mask n<|L0 mask h).1+(m-rI mask h n)) (some 0)with
     |none=>rw[hq]at z;cases z
     |some _=>rfl
   exact ih (n+1) f U U lD
structure Laid(mask:Nat)(hs:List Int)(Am:Array (Option Nat))(js:List Nat):Prop where
 sz:Am.size=mask+1
 len:js.length=hs.length
 nd:js.Nodup
 le:∀j∈js,j<=mask
 own:∀(k j:Nat),js[k]? = some j->Am[j]? = some (some k)
 Au:∀j,j<=mask->j∉js->Am[j]? = some none
 reach:∀(k j:Nat)(h:Int),js[k]? = some j->hs[k]? = some h->∃n,(road mask h n).j=j/\∀m<n,(road mask h m).j∈js
theorem Laid.UD{mask:Nat}{hs:List Int}{Am:Array (Option Nat)}{js:List Nat}(L:Laid mask hs Am js){j:Nat}(hj:j<=mask):Fg Am j↔j∈js:=by
 unfold Fg;constructor
 .intro z;refine ABa λhn=>?_;have e:=L.Au j hj hn;have BM:j<Am.size:=by rw[L.sz];lia
  rw[ABP BM]at e;simp only[BM,dif_pos]at z;have e':=ABF e;rw[show Am.getInternal j BM=Am[j]from rfl,e']at z;cases z
 .intro hm;obtain⟨k,hk⟩:=ACc hm;have e:=L.own k j hk;have BM:j<Am.size:=by rw[L.sz];lia
  rw[ABP BM]at e;simp only[BM,dif_pos];have e':=ABF e;rw[show Am.getInternal j BM=Am[j]from rfl,e']
  rfl
theorem QJ{mask:Nat}(h:Int):∀n,(road mask h n).j<=mask/\(road mask h n).j+(road mask h n).more<=mask/\(road mask h n).i<=mask
 |0=>by have h1:bits h%(mask+1)<mask+1:=AEG _<|ADt _;show bits h%(mask+1)<=mask/\bits h%(mask+1)+CF mask (bits h%(mask+1))<=mask/\bits h%(mask+1)<=mask;unfold CF runEnd;split<;>lia
 |n+1=>by
  obtain⟨h1,h2,h3⟩:=QJ (mask:=mask) h n;unfold road HV;split
  .dsimp only;lia
  .dsimp only;have h4:(leap mask (road mask h n).i (road mask h n).perturb).1<mask+1:=AEG _<|ADt _;unfold CF runEnd;split<;>lia
theorem ZK{mask:Nat}(hm:Good mask):∀(BE hs:List Int)(Am:Array<|Option Nat)(js:List Nat),Laid mask hs Am js->hs.length+BE.length<=mask->∃P7 Tj,Laid mask (hs++BE) P7 Tj/\(BE.foldl (init:=some (Am,hs.length)) λacc h=>(do
  let (Am,k)<-acc
  let j<-layClean.free mask Am (turns mask) (bits h%(mask+1))<|bits h
  pure (Am.setIfInBounds j<|some k,k+1)))=some (P7,(hs++BE).length)
 |[],hs,Am,js,L,_=>⟨Am,js,by simpa using L,AAd⟩
 |h::BE,hs,Am,js,L,Bg=>by
  have hl:js.length<=mask:=by rw[L.len];lia
  obtain⟨j,hj,FT⟩:=X2 mask js L.nd hl L.le;obtain⟨ns,F3,jU⟩:=ZN hm h hj;have Ip:¬ Fg Am (BQ mask ns<|L0 mask h).1:=by rw[jU,L.UD hj];exact FT
  obtain⟨N,ko,kq,kr⟩:=kC Am h ns Ip ns 0 (turns mask) U (by unfold turns at *;lia) (λm hm=>by simp[rI]at hm);have hle:=(QJ (mask:=mask) h N).1;have YC:=λz=>kq<|(L.UD hle).mpr z;have hsz:(road mask h N).j<Am.size:=by rw[L.sz];lia
  have L':Laid mask (hs ++ [h]) (Am.setIfInBounds (road mask h N).j<|some hs.length)<|js ++ [(road mask h N).j]:=by
   refine⟨by simpa using L.sz,by simp[L.len],?_,λx hx=>?_,λk x hk=>?_,λx hx PF=>?_,λk x h' hk hh=>?_⟩
   .rw[List.nodup_append];exact⟨L.nd,AAd,λa ha b hb=>by rw[AA9]at hb;subst hb;intro z;exact YC<|z ▸ ha⟩
   .rcases ABM.mp hx with hx|hx
    .exact L.le x hx
    .rw[AA9]at hx;subst hx;exact hle
   .by_cases Fy:k<js.length
    .rw[ABH Fy]at hk;have PF:(road mask h N).j≠x:=λz=>YC<|z ▸ ABv hk;rw[ADZ PF];exact L.own k x hk
    .rw[ABL U]at hk;have Mh:k=js.length:=by have:=(AAn.mp hk).1;simp at this;lia
     subst Mh;simp at hk;subst hk;rw[Array.getElem?_setIfInBounds_self_of_lt hsz,L.len]
   .have h1:=λz=>PF<|ACA _ z;have h2:(road mask h N).j≠x:=λz=>PF (ABY _<|by simp[z]);rw[ADZ h2];exact L.Au x hx h1
   .by_cases Fy:k<js.length
    .rw[ABH Fy]at hk;rw[ABH (by rw[<-L.len];exact Fy)]at hh;obtain⟨n,e,hb⟩:=L.reach k x h' hk hh;exact⟨n,e,λm hm=>ACA _<|hb m hm⟩
    .rw[ABL U]at hk;have Mh:k=js.length:=by have:=(AAn.mp hk).1;simp at this;lia
     subst Mh;simp at hk;subst hk;rw[ABL (by rw[L.len];exact AAw _),L.len]at hh;simp at hh;subst hh;exact⟨N,rfl,λm hm=>ACA _<|(L.UD (QJ _ m).1).mp<|ko m hm⟩
  obtain⟨P7,Tj,L2,e2⟩:=ZK hm BE (hs ++ [h]) _ _ L' (by simp at Bg ⊢;lia);refine⟨P7,Tj,by simpa using L2,?_⟩;rw[List.foldl_cons];have mZ:(do
   let (Am,k)<-(some (Am,hs.length))
   let j<-layClean.free mask Am (turns mask) (bits h%(mask+1))<|bits h
   pure (Am.setIfInBounds j<|some k,k+1))=some (Am.setIfInBounds (road mask h N).j<|some hs.length,(hs ++ [h]).length):=by
   show(layClean.free mask Am (turns mask) (bits h%(mask+1))<|bits h).bind _=_;have:layClean.free mask Am (turns mask) (bits h%(mask+1)) (bits h)=some (road mask h N).j:=kr;rw[this];simp
  rw[mZ,e2];simp
theorem oC{mask:Nat}(hm:Good mask)(hs:Array Int)(hl:hs.size<=mask):∃Am js,Laid mask hs.toList Am js/\layClean mask hs=some Am:=by
 have L0:Laid mask [] (Array.replicate (mask+1) none) []:=by refine⟨AAd,rfl,AEB,AAd,AAd,λj hj _=>?_,AAd⟩;rw[Array.getElem?_replicate,AAl U]
 obtain⟨Am,js,L,e⟩:=ZK hm hs.toList [] _ _ L0 (by simpa using hl);refine⟨Am,js,by simpa using L,?_⟩;unfold layClean;rw[<-Array.foldl_toList];have e':=e;simp only[ACF]at e';rw[e']
 rfl
end ST
set_option linter.all false
namespace ST
open PySem PySem.SetTable
theorem OV{α β:Type}(f:α->Option β):∀(l:List α)(_:∀x∈l,∃y,f x=some y)(i:Nat),(l.filterMap f)[i]? = (l[i]?).bind f
 |[],_,i=>AAd
 |x::r,h,i=>by
  obtain⟨y,hy⟩:=h x AAu;rw[ADw hy];cases i with
  |zero=>simp[hy]
  |succ i=>
   exact OV f r (λz hz=>h z<|AAs _ hz) i
noncomputable def live(mask:Nat)(Am:Array<|Option Nat):List<|Nat×Nat:=(List.range<|mask+1).filterMap λj=>(Am.getD j none).map (j,·)
theorem LL{mask:Nat}{hs:List Int}{Am:Array (Option Nat)}{js:List Nat}(L:Laid mask hs Am js)(j k:Nat):(j,k)∈live mask Am↔js[k]? = some j:=by
 unfold live;rw[ADG];constructor
 .rintro⟨j',CM,e⟩;have lr:j'<=mask:=by have:=AAr.mp CM;lia
  have BM:j'<Am.size:=by rw[L.sz];lia
  cases ho:Am.getD j' none with
  |none=>rw[ho]at e;cases e
  |some k'=>
   rw[ho]at e;simp only[ABi,ABT,ACr]at e;obtain⟨rfl,rfl⟩:=e;simp only[Array.getD,BM]at ho;have B3:Am[j']? = some (some k'):=by rw[ABP BM];exact ACE some ho
   by_cases hm:j'∈js
   .obtain⟨k2,J0⟩:=ACc hm;have:=L.own k2 j' J0;rw[B3]at this;simp only[ABT]at this;subst this;exact J0
   .have:=L.Au j' lr hm;rw[B3]at this;cases this
 .intro h;have hj:=L.le j<|ABv h;have BM:j<Am.size:=by rw[L.sz];lia
  refine⟨j,AAr.mpr U,?_⟩;have:=L.own k j h;rw[ABP BM]at this;have e:Am.getD j none=some k:=by simp only[Array.getD,BM];exact ABF this
  rw[e];rfl
theorem ZS(mask:Nat)(Am:Array<|Option Nat):(live mask Am).Pairwise (λa b=>a.1<b.1):=by
 unfold live;rw[List.pairwise_filterMap];refine List.pairwise_lt_range.imp ?_;intro a b BA x hx y hy;cases ha:Am.getD a none with
 |none=>rw[ha]at hx;cases hx
 |some k=>
  cases hb:Am.getD b none with
  |none=>rw[hb]at hy;cases hy
  |some l=>
   rw[ha]at hx;rw[hb]at hy;cases hx;cases hy;exact BA
theorem oM{mask:Nat}{hs:List Int}{Am:Array (Option Nat)}{js:List Nat}(L:Laid mask hs Am js):((live mask Am).map (·.2)).Perm<|List.range hs.length:=by
 have F2:((live mask Am).map (·.2)).Nodup:=by show List.Pairwise _ _;rw[ACJ];have J5:=ZS mask Am;have Gn:∀x∈live mask Am,js[x.2]? = some x.1:=λx hx=>(LL L x.1 x.2).mp hx;refine(List.Pairwise.and_mem.mp J5).imp ?_;rintro a b ⟨ha,hb,BA⟩ z;have h1:=Gn a ha;have h2:=Gn b hb;rw[z,h2]at h1;lia
 refine(List.perm_ext_iff_of_nodup F2 ADv).mpr λk=>?_;rw[ABD,AAr];constructor
 .rintro⟨⟨j,k'⟩,hm,rfl⟩;have:=(LL L j k').mp hm;rw[<-L.len];exact(AAn.mp this).1
 .intro hk;rw[<-L.len]at hk;exact⟨(js[k],k),(LL L _ _).mpr<|AA1 hk,rfl⟩
section
variable{prog:Program}{w:World}{A:Around}{E:Value->Shared->Prop}{s:Shared}
structure RJ(prog:Program)(w:World)(h:Heap)(es:Array (Int×Value))(kk:List (List Int)):Prop where
 len:kk.length=es.size
 ent:∀(i:Nat)(hh:Int)(v:Value),es[i]? = some (hh,v)->∃k b,kk[i]? = some k/\v=.ref b/\IsTupleKey (Cr prog w) h k b/\hh=BJ prog w k
 nd:kk.Nodup
theorem v3{h:Heap}{es:Array (Int×Value)}{t:SetTable}{kk:List (List Int)}(T:RJ prog w h es kk)(hw:sizeAbove n=32)(hsz:es.size*5<93) : ∃t' order JF,t.relaid (es.map (·.1)) n=some (t',order)/\(order.filterMap (es[·]?)).size=es.size/\Ey prog w h (order.filterMap (es[·]?)) t' JF/\JF.Perm kk:=by
 have hm:Good 31:=.inr rfl;obtain⟨Am,js,L,e⟩:=oC hm (es.map (·.1)) (by simp;lia);have ER:=oM L;have lb:((es.map (·.1)).toList).length=es.size:=AAd
 rw[lb]at ER;have BM:∀k∈(live 31 Am).map (·.2),k<es.size:=λk hk=>AAr.mp<|ER.mem_iff.mp hk;have lU:∀k∈(live 31 Am).map (·.2),∃y,es[k]? = some y:=λk hk=>⟨es[k]'(BM k hk),ABP _⟩;have Hm:∀k∈(live 31 Am).map (·.2),∃y,kk[k]? = some y:=λk hk=>⟨kk[k]'(by rw[T.len];exact BM k hk),AA1 _⟩;have l7:=by have:=ER.length_eq;simpa using this
 have el:(((live 31 Am).map (·.2)).toArray.filterMap (es[·]?)).toList=((live 31 Am).map (·.2)).filterMap (λk=>es[k]?):=by rw[Array.toList_filterMap]
 have Hn:(((live 31 Am).map (·.2)).toArray.filterMap (es[·]?)).size=es.size:=by rw[<-ABZ,el];have h1:=(ER.filterMap λk=>es[k]?).length_eq;rw[h1,filterMap_getElem?_range];simp
 have So:=by have h1:=ER.filterMap λk=>kk[k]?;rw[<-T.len,List.filterMap_getElem?_range_length]at h1;exact h1
 refine⟨{mask:=31,place:=((live 31 Am).map (·.1)).toArray,dummies:=#[],finger:=t.finger,led:=t.led,moves:=t.movedTo<|sizeAbove n-1,plain:=t.plain},((live 31 Am).map (·.2)).toArray,((live 31 Am).map (·.2)).filterMap λk=>kk[k]?,?_,Hn,?_,So⟩
 .unfold relaid laid;rw[hw,e]
  rfl
 .refine⟨rfl,hm,?_,λj hj=>?_,by rw[Hn];simpa using l7,by rw[Hn];exact hsz,?_,λi hh v hv=>?_,So.nodup_iff.mpr T.nd,λi j k hp hk=>?_⟩
  .rw[ACJ];exact ZS 31 Am
  .have CM:j∈(live 31 Am).map (·.1):=by simpa using hj
   obtain⟨⟨j',k⟩,CN,rfl⟩:=ABD.mp CM;exact L.le _<|ABv<|(LL L j' k).mp CN
  .rw[Hn,<-T.len];exact So.length_eq
  .rw[<-AB1,el,OV _ _ lU]at hv;rw[OV _ _ Hm];cases ho:((live 31 Am).map (·.2))[i]? with
   |none=>rw[ho]at hv;cases hv
   |some k=>
    rw[ho]at hv;exact T.ent k hh v hv
  .rw[OV _ _ Hm]at hk;have FU:((live 31 Am).map (·.1))[i]? = some j:=by simpa using hp
   rw[ABm]at FU hk;cases hl:(live 31 Am)[i]? with
   |none=>rw[hl]at FU;cases FU
   |some x=>
    obtain⟨j',k'⟩:=x;rw[hl]at FU hk;simp only[ABi,ABT]at FU;subst FU;have ly:=(LL L j' k').mp<|ABv hl;have Bi:=by simpa using hk
    have Fy:k'<es.size:=by rw[<-T.len];exact(AAn.mp Bi).1
    obtain⟨⟨hh,v⟩,ev⟩:∃x,es[k']? = some x:=⟨es[k'],ABP Fy⟩;obtain⟨k2,b2,e2,_,_,e3⟩:=T.ent k' hh v ev;rw[Bi]at e2;cases e2;have lZ:((es.map (·.1)).toList)[k']? = some (BJ prog w k):=by
     rw[AB1,Array.getElem?_map,ev,e3]
     rfl
    obtain⟨n1,r1,r2⟩:=L.reach k' j' _ ly lZ;refine⟨n1,r1,λm CN=>?_⟩;have:=r2 m CN;obtain⟨q,hq⟩:=ACc this;have:=(LL L _ q).mpr hq;have:(road 31 (BJ prog w k) m).j∈(live 31 Am).map (·.1):=ABD.mpr ⟨_,this,rfl⟩;simpa using this
end
end ST
set_option linter.all false
namespace ST
open PySem PySem.SetTable
section
variable{prog:Program}{w:World}{A:Around}{E:Value->Shared->Prop}{s:Shared}
theorem ZF{h h':Heap}{ks:List Int}{a d:Addr}{o:Obj}{es ep}{t:SetTable}(x:IsTupleKey (Cr prog w) h ks a)(ho:h.get? d=some o)(hd:o.data=.set es ep t)(hs:Heap.SameBut d h h'):IsTupleKey (Cr prog w) h' ks a:=by
 obtain⟨o',items,n,B3,hc,Gj,hi⟩:=x;have Ap:a≠d:=by rintro rfl;obtain rfl:o'=o:=ABF<|B3.symm.trans ho;rw[hd]at Gj;exact nomatch Gj
 exact⟨o',items,n,(hs.2 a Ap).trans B3,hc,Gj,hi⟩
theorem Ey.move{h h':Heap}{es:Array (Int×Value)}{t:SetTable}{kk:List (List Int)}(T:Ey prog w h es t kk)(m:∀k b,IsTupleKey (Cr prog w) h k b->IsTupleKey (Cr prog w) h' k b):Ey prog w h' es t kk:=
 ⟨T.Jj,T.LQ,T.CG,T.le,T.sz,T.OT,T.len,λi hh v e=>let ⟨k,b,e1,e2,e3,e4⟩:=T.ent i hh v e;⟨k,b,e1,e2,m k b e3,e4⟩,T.nd,T.reach⟩
theorem zO{k:List Int}{b:Addr}{Q:Bool->Shared->Prop}(hx:IsTupleKey (Cr prog w) s.heap k b)(h:Q true s):wpAny (model prog w) A (hashByValue 8<|.ref b) Q E s:=by
 have hT:=hx.typeIs;obtain⟨o,items,n,ho,hc,hd,hi⟩:=hx;refine wpAny_bind<|wpAny_specialOf hT F.slot_tuple_hash.lookup ?_;refine wpAny_bind<|wpAny_seqItems ho hd ?_;refine wpAny_bind ?_;rw[<-Array.forIn_toList];have Bf:∀{x:List Int}{vs:List Value},ItemsAre (Cr prog w) x vs->∀v∈vs,∃i t,v=Value.int i t:=by
  intro x vs hx
  induction hx with
  |nil=>intro v hv;simp at hv
  |@cons k v' ks vs h1 _ ih=>
   intro v hv;rcases AAy.mp hv with rfl|hv
   .obtain⟨t,e⟩:=Value.isInt_shape h1;exact⟨_,t,e⟩
   .exact ih v hv
 refine wpAny_forIn_list _ (λBE r s'=>r.1=none/\s'=s/\∀v∈BE,∃i t,v=Value.int i t) _ ?_ ?_ _ _ ⟨rfl,rfl,Bf hi⟩
 .rintro v BE r s' ⟨hr,rfl,Bf⟩;obtain⟨i,t,rfl⟩:=Bf v AAu;exact wpAny_pure ⟨rfl,rfl,λu TN=>Bf u<|AAs _ TN⟩
 .rintro⟨r1,r2⟩ s' ⟨hr,rfl,_⟩;subst hr;exact wpAny_pure h
theorem Ta{α:Type}(xs:Array α)(p:Nat)(x:α)(hp:p<=xs.size)(i:Nat):(insertAt xs p x)[i]? = if i<p then xs[i]? else if i=p then some x else xs[i-1]?:=by
 rw[<-AB1,SetTable.toList_insertAt];by_cases h1:i<p
 .rw[AAl h1,ABH (by simp;lia),ADs h1,AB1]
 .rw[AAj h1,ABL (by rw[ACQ];simp;lia)];have e:(List.take p xs.toList).length=p:=by rw[ACQ];simp;lia
  rw[e];by_cases h2:i=p
  .subst h2;simp
  .rw[AAj h2];obtain⟨d,hd⟩:∃d,i-p=d+1:=⟨i-p-1,U⟩;rw[hd,ABu,List.getElem?_drop,AB1]
   congr 1
   lia
theorem Yt{α:Type}(xs:List α)(p:Nat)(x:α)(hp:p<=xs.length)(i:Nat):(xs.take p++x::xs.drop p)[i]? = if i<p then xs[i]? else if i=p then some x else xs[i-1]?:=by have:=Ta xs.toArray p x (by simpa using hp) i;rw[<-AB1,SetTable.toList_insertAt]at this;simpa using this
theorem si{h:Heap}{es:Array (Int×Value)}{t:SetTable}{kk:List (List Int)}{k:List Int}{b:Addr}{N:Nat}(T:Ey prog w h es t kk)(hx:IsTupleKey (Cr prog w) h k b)(hk:k∉kk) (hN:(road t.mask (BJ prog w k) N).j∉t.place.toList) (Bf:∀m<N,(road t.mask (BJ prog w k) m).j∈t.place.toList) (t1:SetTable) (F5:t1.mask=t.mask/\t1.dummies=t.dummies/\t1.place=(t.put (road t.mask (BJ prog w k) N).j).1.place) : ∃JF,JF.Perm (k::kk)/\RJ prog w h (insertAt es (t.put (road t.mask (BJ prog w k) N).j).2 (BJ prog w k,.ref b)) JF/\(insertAt es (t.put (road t.mask (BJ prog w k) N).j).2 (BJ prog w k,Value.ref b)).size=es.size+1/\t1.place.size=es.size+1/\
  ((es.size+1)*5<t.mask*3->Ey prog w h (insertAt es (t.put (road t.mask (BJ prog w k) N).j).2 (BJ prog w k,.ref b)) t1 JF):=by
 obtain⟨m1,m2,m3⟩:=F5;have hp:(t.put (road t.mask (BJ prog w k) N).j).2=below t.place (road t.mask (BJ prog w k) N).j:=rfl;have A7:(t.put (road t.mask (BJ prog w k) N).j).1.place=insertAt t.place (below t.place (road t.mask (BJ prog w k) N).j) (road t.mask (BJ prog w k) N).j:=rfl;rw[A7]at m3;rw[hp];have Oj:below t.place (road t.mask (BJ prog w k) N).j<=t.place.size:=by rw[RZ _ _ T.CG];have:=WR t.place.toList (road t.mask (BJ prog w k) N).j;simpa using this
 generalize YT:(road t.mask (BJ prog w k) N).j=jj at *
 generalize mU:below t.place jj=p at *
 have Fy:kk.length=t.place.size:=by rw[T.sz];exact T.len
 have hsz:(insertAt es p (BJ prog w k,Value.ref b)).size=es.size+1:=by rw[<-ABZ,SetTable.toList_insertAt];simp;have:=T.sz;lia
 have hsz2:t1.place.size=es.size+1:=by rw[m3,<-ABZ,SetTable.toList_insertAt];simp;have:=T.sz;lia
 have ER:=by
  have:=List.perm_middle (a:=k) (l₁:=kk.take p) (l₂:=kk.drop p)
  rwa [AEC]at this
 have T0:RJ prog w h (insertAt es p (BJ prog w k,.ref b)) (kk.take p++k::kk.drop p):=by
  refine⟨?_,λi hh v e=>?_,ER.nodup_iff.mpr<|ACK.mpr ⟨hk,T.nd⟩⟩
  .rw[hsz,ER.length_eq,AA6,T.len]
  .rw[Ta es p _ (by rw[<-T.sz];exact Oj)]at e;rw[Yt kk p k (by rw[Fy];exact Oj)];by_cases h1:i<p
   .rw[AAl h1]at e ⊢;exact T.ent i hh v e
   .rw[AAj h1]at e ⊢;by_cases h2:i=p
    .rw[AAl h2]at e ⊢;cases e;exact⟨k,b,rfl,rfl,hx,rfl⟩
    .rw[AAj h2]at e ⊢;exact T.ent (i-1) hh v e
 refine⟨_,ER,T0,hsz,hsz2,λGk=>?_⟩;have Gn:∀x∈t.place.toList,x∈t1.place.toList:=λx E6=>by rw[m3];exact(SetTable.insertAt_perm t.place p jj).mem_iff.mpr (by simpa using Or.inl (by simpa using E6))
 refine⟨by rw[m2,T.Jj],by rw[m1];exact T.LQ,?_,λj hj=>?_,by rw[hsz2,hsz],by rw[hsz,m1];exact Gk,T0.len,T0.ent,T0.nd,λi j k' Iw Iv=>?_⟩
 .rw[m3,<-mU];exact nF t.place jj T.CG hN
 .rw[m3]at hj;have:=(SetTable.insertAt_perm t.place p jj).mem_iff.mp hj;rw[m1];rw[Array.toList_push]at this;rcases ABM.mp this with z|z
  .exact T.le j z
  .rw[AA9]at z;rw[z,<-YT];exact(QJ _ N).1
 .rw[m3,Ta t.place p jj Oj]at Iw;rw[Yt kk p k (by rw[Fy];exact Oj)]at Iv;rw[m1];by_cases h1:i<p
  .rw[AAl h1]at Iw Iv;obtain⟨n,r1,r2⟩:=T.reach i j k' Iw Iv;exact⟨n,r1,λm hm=>Gn _<|r2 m hm⟩
  .rw[AAj h1]at Iw Iv;by_cases h2:i=p
   .rw[AAl h2]at Iw Iv;cases Iw;cases Iv;exact⟨N,YT,λm hm=>Gn _<|Bf m hm⟩
   .rw[AAj h2]at Iw Iv;obtain⟨n,r1,r2⟩:=T.reach (i-1) j k' Iw Iv;exact⟨n,r1,λm hm=>Gn _<|r2 m hm⟩
def HR(prog:Program)(w:World)(h:Heap)(a:Addr)(ks:List<|List Int):Prop:=
 ∃o es ep t kk,h.get? a=some o/\o.ExactSet/\o.data=.set es ep t/\Ey prog w h es t kk/\kk.Perm ks
theorem X6{h:Heap}{a:Addr}{o:Obj}{es:Array (Int×Value)}{ep:Nat}{t:SetTable}{es':Array (Int×Value)}{t':SetTable}(ho:h.get? a=some o)(hd:o.data=.set es ep t) : (h.update a<|Obj.putSet es' t').get? a=some {o with data:=.set es' (ep+1) t'}:=by have:=Heap.get?_update_self (Obj.putSet es' t') ho (by rw[putSet_of es' t' hd];rfl);rw[putSet_of es' t' hd]at this;exact this
theorem zL{a:Addr}{ks:List (List Int)}{k:List Int}{b:Addr}{Q:Bool->Shared->Prop}(hS:HR prog w s.heap a ks)(hx:IsTupleKey (Cr prog w) s.heap k b)(hu:A.units<cLine)(Gk:ks.length+1<=18) (h:∀h' r,Heap.SameBut a s.heap h'->HR prog w h' a (if k∈ks then ks else k::ks)->Q r {s with heap:=h'}):wpAny (model prog w) A (setAddHashed a (.ref b)<|BJ prog w k) Q E s:=by
 obtain⟨o,es,ep,t,kk,ho,hex,hd,T,ER⟩:=hS;refine wpAny_holding<|wpAny_bind<|wpAny_setState_of ho hd T.fits ?_;dsimp only;have F2:=T.CG.imp λh=>AA0 h;have Bg:t.place.toList.length<=t.mask:=by have h1:=T.sz;have h2:=T.OT;simp;lia
 obtain⟨N,MZ,hN,Bf⟩:=j0 T.LQ (BJ prog w k) t.place.toList F2 Bg T.le;have Fy:=ER.length_eq;refine wpAny_bind (c9 ho hd T hu hx MZ hN Bf ?_ ?_ 100000 0 none rfl (ACP _) (by have:=T.LQ;unfold turns at MZ;rcases this with e|e<;>rw[e]at MZ<;>lia) (λ_ _ _ _ m hm=>U))
 .intro hk;refine wpAny_pure ?_;have:=h s.heap false<|Heap.SameBut.refl a s.heap;rw[AAl<|ER.mem_iff.mp hk]at this;exact this ⟨o,es,ep,t,kk,ho,hex,hd,T,ER⟩
 .intro hk;have YV:=λz=>hk<|ER.mem_iff.mpr z;refine wpAny_bind<|wpAny_setState_of ho hd T.fits ?_;have fin:∀t1:SetTable,(t1.mask=t.mask/\t1.dummies=t.dummies/\t1.place=(t.put (road t.mask (BJ prog w k) N).j).1.place)->wpAny (model prog w) A (do
    storeSet a (insertAt es (t.put (road t.mask (BJ prog w k) N).j).2 (BJ prog w k,.ref b)) t1
    if(
     !false&&t1.tooFull)=true then do
     setRelay a (grown<|es.size+1)
     pure true
     else pure true) Q E s:=by
   intro t1 F5;obtain⟨JF,FU,T0,hsz,hsz2,hT⟩:=si T hx hk hN Bf t1 F5;have Sd:t1.fill=es.size+1:=by
    unfold SetTable.fill;rw[hsz2,F5.2.1,T.Jj]
    rfl
   have hsn:es.size=ks.length:=by rw[<-T.len,Fy]
   refine wpAny_bind (wpAny_storeSet_of ho hd ?_ (by rw[hsz,sizeLine_eq];lia));have hg:=X6 (es':=insertAt es (t.put (road t.mask (BJ prog w k) N).j).2 (BJ prog w k,Value.ref b)) (t':=t1) ho hd;have Mn:=Heap.SameBut.update s.heap a<|Obj.putSet (insertAt es (t.put (road t.mask (BJ prog w k) N).j).2 (BJ prog w k,Value.ref b)) t1;generalize AAG:insertAt es (t.put (road t.mask (BJ prog w k) N).j).2 (BJ prog w k,Value.ref b)=MQ at *
   have mv:∀k2 b2,IsTupleKey (Cr prog w) s.heap k2 b2->IsTupleKey (Cr prog w) (s.heap.update a<|Obj.putSet MQ t1) k2 b2:=λ_ _ z=>ZF z ho hd Mn;have Yf:=FU.trans<|ER.cons k;by_cases Jz:t1.tooFull=true
   .rw[AAl (by rw[Jz];rfl)];have hf:=by unfold SetTable.tooFull at Jz;rw[Sd,F5.1]at Jz;simpa using Jz
    have Mi:t.mask=7/\es.size=4:=by
     have h1:=T.OT;rcases T.LQ with e|e
     .rw[e]at h1 hf;exact⟨e,U⟩
     .rw[e]at hf;lia
    have YM:sizeAbove (grown<|es.size+1)=32:=by rw[Mi.2];rfl
    obtain⟨t',order,n6,mW,Yo,T',S4⟩:=v3 T0 YM (by rw[hsz,Mi.2];decide);have lW:t1.fits MQ.size=true:=by
     unfold SetTable.fits;rw[Sd,hsz2,hsz,F5.1,Mi.1,Mi.2]
     rfl
    refine wpAny_bind ?_;refine wpAny_bind<|wpAny_setState_of hg rfl lW ?_;rw[YM];refine wpAny_bind (wpAny_of_eq (a:=(order.filterMap (MQ[·]?),t')) ?_ ?_)
    .rw[mW];show(if(_ != _)=true then _ else _)=_;rw[Yo];simp
    .refine wpAny_storeSet_of hg rfl ?_ (by rw[Yo,hsz,Mi.2];decide);have Yk:=Heap.SameBut.update (s.heap.update a<|Obj.putSet MQ t1) a (Obj.putSet (order.filterMap (MQ[·]?)) t');refine wpAny_pure ?_;have:=h _ true<|Mn.trans Yk;rw[AAj YV]at this;refine this ⟨_,_,_,_,n6,X6 hg rfl,hex,rfl,T'.move λ_ _ z=>ZF (mv _ _ z) hg rfl Yk,S4.trans Yf⟩
   .rw[AAj<|by simpa using Jz];refine wpAny_pure ?_;have:=h _ true Mn;rw[AAj YV]at this;refine this ⟨_,_,_,_,JF,hg,hex,rfl,(hT ?_).move mv,Yf⟩;unfold SetTable.tooFull at Jz;rw[Sd,F5.1]at Jz;lia
  by_cases A7:(t.put (road t.mask (BJ prog w k) N).j).1.plain=true
  .rw[AAl A7];refine wpAny_bind<|zO hx ?_;simp only[ACT];refine fin _ ⟨rfl,?_,rfl⟩;show(if has t.dummies _=true then _ else t.dummies)=t.dummies;rw[T.Jj];simp[has]
  .rw[AAj A7];refine wpAny_bind<|wpAny_pure ?_;simp only[ACT];refine fin _ ⟨rfl,?_,rfl⟩;show(if has t.dummies _=true then _ else t.dummies)=t.dummies;rw[T.Jj];simp[has]
end
end ST
set_option linter.all false
set_option maxRecDepth 100000
namespace ST
open PySem PySem.SetTable
section
variable{prog:Program}{w:World}{A:Around}{E:Value->Shared->Prop}{s:Shared}
noncomputable def D9:List (List Int)->List (List Int)->List (List Int)
 |acc,[]=>acc
 |acc,k::r=>D9 (if k∈acc then acc else k::acc) r
theorem cX:∀(l acc:List<|List Int),(D9 acc l).length<=acc.length+l.length
 |[],acc=>by unfold D9;simp
 |k::r,acc=>by refine ABe (cX r _) ?_;split<;>simp<;>lia
theorem M3{h h':Heap}{k:List Int}{b:Addr}(z:IsTupleKey (Cr prog w) h k b)(m:∀o,h.get? b=some o->h'.get? b=some o):IsTupleKey (Cr prog w) h' k b:=by obtain⟨o',items,n,B3,hc,Gj,hi⟩:=z;exact⟨o',items,n,m o' B3,hc,Gj,hi⟩
def eX(S I:Addr)(h h':Heap):Prop:=∀b o,b≠S->b≠I->h.get? b=some o->h'.get? b=some o
theorem zB{l S I:Addr}{items:Array Value}{kks:List (List Int)}(hh:A.in1.handled=none)(hu:A.in1.units<cLine)(Ma:S≠I)(Ov:l≠S)(Sr:l≠I){R:Result->Shared->Prop}(Bg:kks.length=items.size)(YX:items.size<=17) : ∀(k i:Nat)(s:Shared)(acc:List<|List Int),items.size-i=k->i<=items.size->acc.length<=i->s.heap.IsList l items->s.heap.IsListIter I l i->HR prog w s.heap S acc->
  (∀(j:Nat)(v:Value),items[j]? = some v->∃q b,kks[j]? = some q/\v=.ref b/\b≠S/\b≠I/\IsTupleKey (Cr prog w) s.heap q b)->
  (∀h' tk,eX S I s.heap h'->HR prog w h' S (D9 acc<|kks.drop i)->R (.ok<|.ret .none) {s with heap:=h',toks:=tk})->
  codeAny (model prog w) A (.builtin "set.update.loop" ⟨[.ref S,.ref I],[]⟩) R s:=by
 intro k
 induction k with
 |zero=>
  intro i s acc hk hi lC hl hI hS hit hR;have YO:i=items.size:=U
  refine codeAny_builtin ADL ?_;refine wpAny_bind (wpAny_pyNext_list_end hh hI hl (by simp;lia) λh' eb=>?_);have ky:HR prog w h' S acc:=by obtain⟨o,es,ep,t,kk,ho,hex,hd,T,hp⟩:=hS;refine⟨o,es,ep,t,kk,eb S o Ma ho,hex,hd,T.move λk' b z=>?_,hp⟩;obtain⟨oI,Sy,lJ,Sb⟩:=hI;refine M3 z λo' e=>eb b o' (λzz=>?_) e;subst zz;obtain⟨o2,nK,n2,J3,lI,hd2,_⟩:=z;rw[Sy]at J3;cases J3;rw[Sb]at hd2;cases hd2
  refine wpAny_pure ?_;have:=hR h' s.toks λb o h1 h2 e=>eb b o h2 e;rw[List.drop_of_length_le (U:kks.length<=i)]at this;exact this ky
 |succ k ih=>
  intro i s acc hk hi lC hl hI hS hit hR;have BM:i<items.size:=U
  have hv:=ABP BM;obtain⟨q,b,eq,ev,hbS,lF,Sl⟩:=hit i _ hv;refine codeAny_builtin ADL ?_;refine wpAny_bind<|wpAny_pyNext_list_item hI hl hv λh1 kg sb=>?_;have moved:∀c o,c≠I->s.heap.get? c=some o->h1.get? c=some o:=λc o hc e=>(sb.2 c hc).trans e;rw[ev];refine wpAny_bind<|wpAny_holding ?_;refine wpAny_holding ?_;have YU:=M3 Sl λo e=>moved b o lF e;have kz:HR prog w h1 S acc:=by obtain⟨o,es,ep,t,kk,ho,hex,hd,T,hp⟩:=hS;refine⟨o,es,ep,t,kk,moved S o Ma ho,hex,hd,T.move λk' c z=>?_,hp⟩;obtain⟨oI,Sy,lJ,Sb⟩:=hI;refine M3 z λo' e=>moved c o' (λzz=>?_) e;subst zz;obtain⟨o2,nK,n2,J3,lI,hd2,_⟩:=z;rw[Sy]at J3;cases J3;rw[Sb]at hd2;cases hd2
  refine wpAny_bind<|wpAny_pyHash_tuple hu YU ?_;refine zL (s:={s with heap:=h1,toks:=s.toks+(q.length+1)}) kz YU hu U λh2 r wQ Kz=>?_;refine wpAny_pure ⟨plainId_quiet PyProof.Rows.F.plain_set_update_loop _,?_⟩;have Py:∀c o,c≠S->h1.get? c=some o->h2.get? c=some o:=λc o hc e=>(wQ.2 c hc).trans e;refine ih (i+1) _ _ U BM ?_ ?_ ?_ Kz (λj v hj=>?_) λh3 tk ht k6=>?_
  .split
   .lia
   .simp;lia
  .exact hl.at λo e=>Py l o Ov<|moved l o Sr e
  .exact kg.at λo e=>Py I o (ABX Ma) e
  .obtain⟨q',b',e1,e2,e3,e4,e5⟩:=hit j v hj;exact⟨q',b',e1,e2,e3,e4,M3 e5 λo e=>Py b' o e3<|moved b' o e4 e⟩
  .have Mb:kks.drop i=q::kks.drop (i+1):=by
    have K4:i<kks.length:=U
    rw[ACd K4];rw[AA1 K4]at eq;rw[ABF eq]
   refine hR h3 tk (λc o c1 c2 e=>ht c o c1 c2<|Py c o c1<|moved c o c2 e) ?_;rw[Mb];exact k6
end
end ST
set_option linter.all false
set_option maxRecDepth 100000
namespace ST
open PySem PySem.SetTable
section
variable{prog:Program}{w:World}{A:Around}{E:Value->Shared->Prop}{s:Shared}
noncomputable abbrev Hd(led:Bool):Obj:={cls:=.type "set",dict:=none,data:=.set #[] 0 (.fresh 0 0 led)}
theorem kE{h:Heap}(led:Bool):Ey prog w h #[] (.fresh 0 0 led) []:=
 by
 refine⟨rfl,.inl rfl,.nil,(λj hj=>by cases hj),rfl,(AAe:0*5<7*3),rfl,λi hh v e=>?_,AEB,λi j k e _=>?_⟩
 .simp at e
 .simp[SetTable.fresh]at e
set_option maxHeartbeats 3200000 in
theorem gZ{l:Addr}{items:Array Value}{kks:List (List Int)}{Q:Value->Shared->Prop}(hh:A.handled=none)(hu:A.units+8<cLine)(hl:s.heap.IsList l items)(Bg:kks.length=items.size)(YX:items.size<=17) (hit:∀(j:Nat)(v:Value),items[j]? = some v->∃q b,kks[j]? = some q/\v=.ref b/\IsTupleKey (Cr prog w) s.heap q b) (h:∀(h':Heap)(tk:Nat),HR prog w h' s.heap.objs.size (D9 [] kks)->(∀b o,s.heap.get? b=some o->h'.get? b=some o)->Q (.ref s.heap.objs.size) {s with heap:=h',toks:=tk}) : wpAny (model prog w) A (call (.type "set") [.ref l]) Q E s:=by
 obtain⟨c0,tl0,AAI⟩:=F.called_set.mro;have AAS:=F.called_set.made;have AAW:=F.called_set.sub;refine wpAny_call<|codeAny_of_tree ?_;show wpAny _ _ (callAny (.type "set") _) _ _ _;refine wpAny_pure ⟨Code.quiet_builtin _ AAf,codeAny_builtin F.entry_type_call ?_⟩;rw[Around.under_plain (weight_type_call_type "set" [.ref l] []) rfl];have nt0:=F.called_set.notType;have cc0:=F.called_set.canCreate;have ct0:=F.typeCall_set_1<|.ref l
 repeat (any_goals (first|assumption|wp_step))
 let made (led:Bool):Shared:={s with heap:=s.heap.push (Hd led)}
 refine codeAny_mono (code_set_new_1 (.ref l) (E:=E) (Q₁:=λob st=>∃led:Bool,ob=.ref s.heap.objs.size/\st=made led) λled=>⟨led,rfl,rfl⟩) λr1 st1 S9=>?_;cases r1 with
 |error e=>exact S9
 |ok fl=>
  cases fl with
  |ret ob=>
   obtain⟨led,rfl,rfl⟩:=S9;have X5:(s.heap.push<|Hd led).get? s.heap.objs.size=some (Hd led):=Heap.get?_push_size _ rfl;have yv:Shared.TypeIs (made led) (.ref s.heap.objs.size) "set":=⟨_,X5,rfl⟩;have li0:=F.called_set.init.lookup;have z9:=F.called_set.init.bind<|.ref s.heap.objs.size;show wpAny _ _ _ _ _ (made led)
   repeat (any_goals (first|assumption|wp_step))
   refine codeAny_mono (codeAny_call_builtin (R:=wants (λrv JN=>rv=.none/\∃h2 tk,JN={s with heap:=h2,toks:=tk}/\HR prog w h2 s.heap.objs.size (D9 [] kks)/\(∀b o,s.heap.get? b=some o->h2.get? b=some o)) E)
    F.called_set.init.plain F.entry_set_init (check_set_init_1 yv ?_)) λr2 JN TB=>?_
   .obtain⟨ol,O3,Oo,nl,E4⟩:=id hl;obtain⟨AAU,pN,AAV,qg⟩:=ol;simp only at Oo E4;subst Oo;subst E4;have mO:(s.heap.push<|Hd led).get? l=some {cls:=.type "list",dict:=pN,data:=.seq items nl,slots:=qg}:=Heap.get?_push_of_some _ O3;have AAL:=F.sub_list_set;have AAK:=F.sub_list_frozenset;have Ap:(Value.type "list" == Value.type "dict")=false:=AAe
    have Hn:(s.heap.push<|Hd led).IsList l items:=⟨_,mO,rfl,nl,rfl⟩;unfold Builtin.«set.__init__» noKeywords Builtin.Frozenset.updateFrom;generalize ku:pyIter=PI
    wp_walk
    subst ku;refine wpAny_pyIter_list Hn ?_;refine wpAny_bind<|wpAny_runValue ?_;have Ov:l<s.heap.objs.size:=Heap.lt_size O3;have PC:(s.heap.push<|Hd led).objs.size=s.heap.objs.size+1:=Heap.size_push ..;have Ma:s.heap.objs.size≠(s.heap.push<|Hd led).objs.size:=by rw[PC];exact AA0<|Nat.lt_succ_self _
    have Sr:l≠(s.heap.push<|Hd led).objs.size:=by rw[PC];exact AA0<|ACy Ov
    refine zB (l:=l) (items:=items) (kks:=kks) (S:=s.heap.objs.size) (I:=(s.heap.push<|Hd led).objs.size) (by simp[hh]) (by simp;lia) Ma (AA0 Ov) Sr Bg YX (items.size-0) 0 _ [] U (ACP _) (ACP _) (Hn.push _) ⟨_,Heap.get?_push_size _ rfl,rfl,rfl⟩ ?hS0 ?hit ?hR
    case hS0=>exact⟨_,_,_,_,[],Heap.get?_push_of_some _ X5,⟨rfl,rfl,rfl⟩,rfl,kE led,.nil⟩
    case hit=>
     intro j v hj;obtain⟨q,b,e1,e2,e3⟩:=hit j v hj;have hb:b<s.heap.objs.size:=by obtain⟨o2,_,_,e4,_⟩:=e3;exact Heap.lt_size e4
     exact⟨q,b,e1,e2,AA0 hb,by rw[PC];exact AA0<|ACy hb,M3 e3 λo e=>Heap.get?_push_of_some _ (Heap.get?_push_of_some _ e)⟩
    case hR=>
     intro h2 tk ht Kz;rw[List.drop_zero]at Kz;refine wpAny_pure ?_;show wpAny _ _ (ret Value.none) _ _ _;refine wpAny_pure ⟨rfl,h2,tk,rfl,Kz,λb o e=>?_⟩;have hb:=Heap.lt_size e;exact ht b o (AA0 hb) (by rw[PC];exact AA0<|ACy hb)<|Heap.get?_push_of_some _ (Heap.get?_push_of_some _ e)
   .cases r2 with
    |error e=>exact TB
    |ok j3=>
     cases j3 with
     |ret rv=>
      obtain⟨rfl,h2,tk,rfl,Kz,J0⟩:=TB
      repeat (any_goals (first|assumption|wp_step))
      exact h _ _ Kz J0
     |_=>exact TB.elim
  |_=>exact S9.elim
end
end ST
namespace L2
open PySem PySem.Spec PyProof.Rows
noncomputable def GD(env:Env):Str×NameKind->Str×NameKind:=λ(n,k)=>if(k==NameKind.free&&env.scope.kind == .function&&env.kindOf n==some .cell)then(n,NameKind.cell)else(n,k)
theorem bD(env:Env)(y:Str×NameKind):(GD env y).1=y.1:=by unfold GD;dsimp only;split<;>rfl
theorem bE(env:Env)(y:Str×NameKind):((GD env y).2=.cell/\y.2=.free)\/(GD env y).2=y.2:=by
 unfold GD;dsimp only;split
 .rename_i h;simp only[AAk,ABw]at h;exact .inl ⟨rfl,h.1.1⟩
 .exact .inr rfl
theorem ZW{env:Env}:∀{names:List (Str×NameKind)}{x:Str},names.lookup x=some .free->(names.map<|GD env).lookup x=some .cell\/(names.map<|GD env).lookup x=some .free
 |[],_,h=>by simp at h
 |(n,k)::r,x,h=>by
  have ih:=@ZW env r x;have e1:=bD env (n,k);have e2:=bE env (n,k);rw[AAx];generalize GD env (n,k)=y at e1 e2;obtain⟨m,j⟩:=y;obtain rfl:m=n:=e1;cases hx:x==m with
  |true=>
   simp only[ACB,hx]at h ⊢;cases h;rcases e2 with⟨z,_⟩|z
   .exact .inl<|ACE some z
   .exact .inr<|ACE some z
  |false=>
   simp only[ACB,hx]at h ⊢;exact ih h
theorem X3{env:Env}:∀{names:List (Str×NameKind)}{x:Str},((names.map<|GD env).lookup x=some .cell\/(names.map<|GD env).lookup x=some .free)->(x,NameKind.free)∈names\/names.lookup x=some .cell
 |[],_,h=>by simp at h
 |(n,k)::r,x,h=>by
  have ih:=@X3 env r x;have e1:=bD env (n,k);have e2:=bE env (n,k);rw[AAx]at h;generalize GD env (n,k)=y at e1 e2 h;obtain⟨m,j⟩:=y;obtain rfl:m=n:=e1;cases hx:x==m with
  |true=>
   obtain rfl:x=m:=by simpa using hx
   simp only[ACB,hx,ABT]at h ⊢;rcases e2 with⟨_,rfl⟩|rfl
   .exact .inl AAu
   .rcases h with rfl|rfl
    .exact .inr rfl
    .exact .inl AAu
  |false=>
   simp only[ACB,hx]at h ⊢;rcases ih h with e|e
   .exact .inl<|AAs _ e
   .exact .inr e
theorem OC:∀(names:List<|Str×NameKind)(n:Nat)(acc:List<|Str×Addr),cellsFrom n names acc=cellsFrom n names []++acc
 |[],_,_=>rfl
 |(x,k)::r,n,acc=>by
  unfold cellsFrom;split
  .simp only[OC r (n+1) ((x,n)::acc),OC r (n+1) [(x,n)],List.append_assoc];rfl
  .exact OC r n acc
theorem Rn:∀(names:List<|Str×NameKind)(n:Nat)(acc:List<|Str×Addr){x:Str}{c:Addr},(x,c)∈cellsFrom n names acc->(x,c)∈acc\/(x,NameKind.cell)∈names
 |[],_,_,_,_,h=>.inl h
 |(y,k)::r,n,acc,x,c,h=>by
  unfold cellsFrom at h;split at h
  .rename_i hk;rcases Rn r _ _ h with z|z
   .rcases AAy.mp z with e|e
    .right;have e1:x=y:=ACE Prod.fst e;have e2:=by simpa using hk
     rw[e1,e2];exact AAu
    .exact .inl e
   .exact .inr<|AAs _ z
  .rcases Rn r _ _ h with z|z
   .exact .inl z
   .exact .inr<|AAs _ z
theorem LM{l m:List (Str×Addr)}{x:Str}{c:Addr}(h:(l++m).lookup x=some c):l.lookup x=some c\/(l.lookup x=none/\m.lookup x=some c):=by
 rw[ADj]at h;cases e:l.lookup x with
 |none=>rw[e]at h;exact .inr ⟨rfl,h⟩
 |some d=>rw[e]at h;exact .inl h
theorem zM{M:Model}{A:Around}{E:Value->Shared->Prop}{s:Shared}{scope:Scope}{globals:Addr}{closure:List (Str×Addr)}{qual:Str}{outer:Env}{Q:Env->Shared->Prop} (hQ:Q {scope:=scope,locals:=s.heap.objs.size,globals:=globals,cells:=cellsFrom (s.heap.objs.size+1) scope.names []++closure,qual:=qual,func:=none,code:=outer.code,frame:=outer.frame,builtins:=outer.builtins} {s with heap:=pushCells (s.heap.push {cls:=.type "dict",data:=.dict #[]}) scope.names}) : wpAny M A (newFunctionEnv scope globals closure [] qual none .none<|some outer) Q E s:=by simp only[newFunctionEnv,Option.isSome_some,ACT];refine wpAny_bind<|wpAny_alloc ?_;refine wpAny_bind (wpAny_layCells _ (λname kind cells=>by cases l4:kind==NameKind.cell<;>simp[l4]) _ _ _ _ ?_);rw[show({s with heap:=s.heap.push {cls:=.type "dict",data:=.dict #[]}}:Shared).heap.objs.size=s.heap.objs.size+1 from Heap.size_push ..,OC];exact wpAny_bind<|wpAny_pure<|wpAny_pure hQ
theorem Ko{cells:List (Str×Addr)}{x:Str}{c:Addr}(hc:cells.lookup x=some c):∀{l:List (Str×NameKind)}{acc:List (Str×Addr)},((x,NameKind.free)∈l\/acc.lookup x=some c)->(Dp cells l acc).lookup x=some c
 |[],acc,h=>by
  rcases h with h|h
  .contradiction
  .exact h
 |(n,k)::r,acc,h=>by
  unfold Dp;by_cases hk:(k==NameKind.free)=true
  .rw[AAl hk];by_cases hn:x=n
   .subst hn;rw[hc];exact Ko hc<|.inr<|by simp[ACB]
   .have hx:(x==n)=false:=by simpa using hn
    have h':(x,NameKind.free)∈r\/acc.lookup x=some c:=by
     rcases h with h|h
     .rcases AAy.mp h with e|e
      .exact absurd (ACE Prod.fst e) hn
      .exact .inl e
     .exact .inr h
    cases hd:cells.lookup n with
    |none=>exact Ko hc h'
    |some d=>
     refine Ko hc ?_;rcases h' with e|e
     .exact .inl e
     .right;simp only[ACB,hx];exact e
  .rw[AAj hk];refine Ko hc ?_;rcases h with h|h
   .rcases AAy.mp h with e|e
    .have:k=.free:=(ACE Prod.snd e).symm;rw[this]at hk;exact absurd rfl hk
    .exact .inl e
   .exact .inr h
def CL(X:Cx)(Nb:List Str)(scope:Scope)(C:Addr)(s:Shared)(H:Hp)(fp:List Addr)(AE:List<|Addr×Obj):Cx:=
 {X with N:=Nb,B5:=s,AU:=H,env:=compEnvC scope (cellsFrom (C+1) scope.names []++Dp X.env.cells scope.names []) C X.env,outer:=X.stack,stack:=X.stack,ex:=fp,fn:=λx=>scope.names.lookup x==some NameKind.cell,pn:=X.pn++AE,xe:=λ_ _=>False}
def GV(X:Cx)(ifs:List Expr)(t:TT):Prop:=
 ∀(AE:List<|Addr×Obj)(s:Shared)(σ:St)(H:Hp)(Q:Bool->Hp->Prop),Inv X AE σ H s->t σ H Q->wpAny (model X.prog X.w) X.A (forIn ifs true λc r=>if r=true then do let ok<-isTrue c X.env<|eval c X.env;pure (ForInStep.yield ok)else pure (ForInStep.yield r)) (TP X AE σ Q) X.xe s
theorem rX{X:Cx}:GV X [] (λ_ H Q=>Q true H):=λ_ _ _ H _ I h=>wpAny_tests_nil ⟨H,I,h⟩
theorem rY{X:Cx}{c:Expr}{t:TT}(h:PT X c t):GV X [c] t:=λAE s σ H Q I q=>wpAny_tests_one<|h AE s σ H Q I q
structure GP(X:Cx)(scope:Scope)(Nb:List Str)(own:Nat)(cap:List Nat):Prop where
 kind:scope.kind=.function
 cell:∀y∈scope.names,y.2=.cell->scope.names.lookup y.1=some .cell
 loc:∀x∈scope.names,x.2=.local->scope.names.lookup x.1=some .local
 free:∀y∈scope.names,y.2=.free->X.env.kindOf y.1=some .cell\/X.env.kindOf y.1=some .free
 len:Nb.length=own+cap.length
 cap:∀k j,cap[k]? = some j->∃x,Nb[own+k]? = some x/\X.N[j]? = some x/\scope.names.lookup x=some .free
noncomputable def Fi(own:Nat)(cap:List Nat)(σ:St):St:=List.replicate own none++cap.map λj=>(σ[j]?).join
theorem gj{own:Nat}{cap:List Nat}{σ:St}{i:Nat}{v:V}(h:(Fi own cap σ)[i]? = some (some v)):∃k j,i=own+k/\cap[k]? = some j/\σ[j]? = some (some v):=by
 unfold Fi at h;by_cases hi:i<own
 .rw[ABH (by simpa using hi),AB9]at h;split at h<;>simp at h
 .rw[ABL (by simpa using hi),ABm]at h;simp only[ACR]at h;cases hj:cap[i-own]? with
  |none=>rw[hj]at h;simp at h
  |some j=>
   rw[hj]at h;simp only[ABi,ABT]at h;refine⟨i-own,j,AAc,hj,?_⟩;cases hs:σ[j]? with
   |none=>rw[hs]at h;simp at h
   |some o=>rw[hs]at h;simp at h;rw[h]
section
variable{X:Cx}{tg iter elt:Expr}{ifs:List Expr}{scope:Scope}{pos:Pos}{Nb:List Str}{own:Nat}{cap:List Nat}{wi:TI}{g:TG}{ti:TT}{te:TE}
def b8(own:Nat)(cap:List Nat)(g:TG)(ti:TT)(te:TE)(J:It)(σ:St)(H1:Hp)(Q:VK):Prop:=∀D,H1 D=none->∃W:Nat->Nat->St->Hp->Prop,(∃m,W 0 m (Fi own cap σ)<|upd H1 D<|.lst [])/\∀i m Ac H',W i m Ac H'->(J.stop i H'/\Q (.ref D) H')\/(J.go i H'/\∃N:St->Hp->Prop,(∀Dk Cv,N Dk Cv->∃m',m'<m/\W (i+1) m' Dk Cv)/\
  ∀x Cv,J.Ql i H' x Cv->g x Ac Cv λDG H2=>ti DG H2 λb H3=>if b=true then te DG H3 λv H4=>∃ys,H4 D=some (.lst ys)/\ys.length<sizeLine/\N DG (upd H4 D<|.lst<|ys ++ [v])else N DG H3)
theorem NI{C:Addr}{x:Str}{c:Addr}(h:(cellsFrom (C+1) scope.names []).lookup x=some c):C<c:=by
 let h0:Heap:={objs:=Array.replicate (C+1) default}
 have ok:=cellsFrom_ok scope.names h0 (C+1) [] ⟨λ_ _ hm=>(nomatch hm),List.Pairwise.nil⟩ (by simp[h0]);rw[show h0.objs.size=C+1 by simp[h0]]at ok;exact(ok.empty x c<|ABk h).2
theorem own_apart{C:Addr}:(cellsFrom (C+1) scope.names []).Pairwise λx y=>x.2≠y.2:=by
 let h0:Heap:={objs:=Array.replicate (C+1) default}
 have ok:=cellsFrom_ok scope.names h0 (C+1) [] ⟨λ_ _ hm=>(nomatch hm),List.Pairwise.nil⟩ (by simp[h0]);rw[show h0.objs.size=C+1 by simp[h0]]at ok;exact ok.apart
theorem WM{AE:List (Addr×Obj)}{s:Shared}{σ:St}{H:Hp}(I:Inv X AE σ H s){l:List (Str×NameKind)}{x:Str}{c:Addr}(h:(Dp X.env.cells l []).lookup x=some c):c<s.heap.objs.size:=by obtain⟨v,o,ho,_⟩:=I.cell x c (HY (λ_ _ z=>by contradiction) h);exact Heap.lt_size ho
theorem iI{C:Addr}{s:Shared}{H:Hp}{fp:List Addr}{AE:List (Addr×Obj)}{σ:St}(O:GP X scope Nb own cap)(I:Inv X AE σ H s)(f:∀b∈fp,Ff X AE H b)(hC:s.heap.objs.size<=C)(Me:∀b∈fp,b<s.heap.objs.size) : (CL X Nb scope C s H fp AE).Ok:=by
 refine⟨I.ok.mod,O.kind,I.ok.glob,I.ok.blt,hC,λx y c h1 h2=>?_,λx hx=>?_,λx c h h2=>?_,I.ok.hd,I.ok.frames,.inl rfl,λb hb=>⟨?_,λx c h=>?_⟩,I.bs,ABe I.ok.E1 I.sz,λb o e hb=>?_,λb hb z=>?_,I.stack,I.U6⟩
 .rcases LM h1 with z1|⟨_,z1⟩<;>rcases LM h2 with z2|⟨_,z2⟩
  .exact name_of_addr own_apart (ABk z1)<|ABk z2
  .exact absurd (NI z1) (Nat.not_lt.mpr<|ABe (ACf<|WM I z2) hC)
  .exact absurd (NI z2) (Nat.not_lt.mpr<|ABe (ACf<|WM I z1) hC)
  .exact I.ok.inj x y c (HY (λ_ _ z=>by cases z) z1)<|HY (λ_ _ z=>by cases z) z2
 .show ∃c,(cellsFrom (C+1) scope.names []++Dp X.env.cells scope.names []).lookup x=some c;rw[ADj];rcases X3 hx with hm|hm
  .obtain⟨c,hc⟩:=I.ok.has x<|O.free _ hm rfl;cases (cellsFrom (C+1) scope.names []).lookup x with
   |none=>exact⟨c,Ko hc<|.inl hm⟩
   |some d=>exact⟨d,rfl⟩
  .obtain⟨c,hc⟩:=OB hm;exact⟨c,by rw[hc];rfl⟩
 .have hx:=by simpa[CL]using h
  obtain⟨c',Gg⟩:=OB hx;rcases LM h2 with z|⟨z,_⟩
  .exact ABe hC<|ACf<|NI z
  .rw[Gg]at z;contradiction
 .exact AA0<|AA8 (Me b hb) hC
 .rcases LM h with z|⟨_,z⟩
  .exact ABX<|AA0<|AET (AA8 (Me b hb) hC)<|NI z
  .exact(f b hb).2.2.2.2.1 x c (HY (λ_ _ z=>by contradiction) z)
 .rcases(f b hb).2.2.2.1 with z|z
  .exact I.ok.Hz b o e z
  .exact absurd (AA8 (Heap.lt_size e)<|ABe I.ok.E1 z) (ACZ _)
 .rcases AAy.mp (I.NT b z)with e|e
  .exact(f b hb).2.1 e
  .exact(f b hb).2.2.1 e
theorem iH{C:Addr}{s s':Shared}{H H':Hp}{fp:List Addr}{AE:List (Addr×Obj)}{σ:St}{m:Str->Option Value}(O:GP X scope Nb own cap)(I:Inv X AE σ H s)(ok:(CL X Nb scope C s H fp AE).Ok) (mP:s'.os=s.os) (hg:AllBare s'.gens) (u:Un (Cp X.stack) fp H H' s.heap s'.heap) (k:∀b o,s.heap.get? b=some o->s'.heap.get? b=some o) (hC:s.heap.objs.size<=C) (hn:s'.heap.Ns C m) (hf:H' C=none) (YZ:∀b o,s.heap.get? b=some o->H b=none->H' b=none) (Af:Bo X.prog X.w H' s'.heap) (Ye:∀x c,(cellsFrom (C+1) scope.names []).lookup x=some c->s'.heap.IsCell c none/\H' c=none) : Inv (CL X Nb scope C s H fp AE) [] (Fi own cap σ) H' s':=by
 refine⟨ok,mP,hg,u,⟨m,hn,λi x v h1 h2 h3=>?_⟩,λx c h=>?_,hf,λx c h=>?_,λp hp=>?_,Af,?_⟩
 .obtain⟨kk,j,rfl,hj,hs⟩:=gj h2;obtain⟨y,e1,e2,e3⟩:=O.cap kk j hj;have my:=by have Im:Nb[own+kk]? = some x:=h1;rw[e1]at Im;exact ABF Im
  subst my;have hm:=ABk e3;have hk:=O.free _ hm rfl;have hv:EE X.env.scope y:=by
   rcases hk with z|z
   .exact .inr<|.inl z
   .exact .inr<|.inr z
  obtain⟨m0,Mj,hl⟩:=I.loc;obtain⟨u0,r,l⟩:=hl j y v e2 hs hv;refine⟨u0,r,?_⟩;rcases l with⟨l,_⟩|⟨_,c,hc,Om⟩
  .rcases hk with z|z<;>(rw[l]at z;contradiction)
  .refine .inr ⟨ZW e3,c,?_,Om.keeps k⟩;show(cellsFrom (C+1) scope.names []++Dp X.env.cells scope.names []).lookup y=some c;rw[ADj];cases eo:(cellsFrom (C+1) scope.names []).lookup y with
   |none=>exact Ko hc<|.inl hm
   |some d=>
    rcases Rn _ _ _ (ABk eo)with z|z
    .exact nomatch z
    .have:=O.cell _ z rfl;rw[e3]at this;contradiction
 .rcases LM h with z|⟨_,z⟩
  .exact⟨_,(Ye x c z).1⟩
  .obtain⟨v,z⟩:=I.cell x c (HY (λ_ _ z=>by cases z) z);exact⟨v,z.keeps k⟩
 .rcases LM h with z|⟨_,z⟩
  .exact(Ye x c z).2
  .have hc:=HY (λ_ _ z=>by cases z) z;obtain⟨v,o,ho,_⟩:=I.cell x c hc;exact YZ c o ho<|I.Ds x c hc
 .have FU:p∈X.pn++AE:=by have:p∈(X.pn++AE) ++ []:=hp;simpa using this
  obtain⟨e,n,ne,nf,d⟩:=I.pin p FU;refine⟨k _ _ e,YZ _ _ e n,AA0<|AA8 (Heap.lt_size e) hC,λz=>?_,d⟩;rcases AAy.mp (I.NT p.1 z)with q|q
  .exact ne q
  .exact nf q
 .show(Fi own cap σ).length=Nb.length;rw[O.len];simp[Fi]
theorem WV{AE:List (Addr×Obj)}{s:Shared}{σ:St}{H:Hp}{Q:VK}{it:Addr}{fp:List Addr}{tn:Nat->Heap->Prop}{J:It}{E:Value->Shared->Prop}{RR:Value->Addr->Result->Shared->Prop}(hc:X.calm=true)(O:GP X scope Nb own cap) (hg:∀C s H fp AE,PG (CL X Nb scope C s H fp AE) tg g) (ht:∀C s H fp AE,GV (CL X Nb scope C s H fp AE) ifs ti) (he:∀C s H fp AE,PE (CL X Nb scope C s H fp AE) elt te) (I:Inv X AE σ H s) (T:Turn X.prog X.w X.K tg J fp it tn) (st:tn 0 s.heap) (f:∀b∈fp,Ff X AE H b) (hW:b8 own cap g ti te J σ H Q) (kx:∀(D C:Addr)(s':Shared)(H':Hp)(m:Str->Option Value),Inv X AE σ H' s'->s'.heap.Ns C m->Ff X AE H' C->Q (.ref D) H'->RR (.ref D) C (.ok .next) s') : wpAny (model X.prog X.w) X.A (newList []) (λacc JP=>wpAny (model X.prog X.w) X.A (newFunctionEnv scope X.env.globals (Dp X.env.cells scope.names []) [] X.env.qual none .none<|some X.env) (λWL QU=>
  codeAny (model X.prog X.w) X.A (.compStart (.ListComp elt [⟨tg,iter,ifs,0⟩] scope pos) 0 (.ref it) acc {WL with scope:=relabel scope X.env}) (RR acc WL.locals) QU) E JP) E s:=by
 have Me:∀b∈fp,b<s.heap.objs.size:=λb hb=>by obtain⟨o,e,_⟩:=T.obj _ _ st b hb;exact Heap.lt_size e
 refine wpAny_newObj_type<|zM ?_;dsimp only;have hD:=I.Af.fresh<|AAw _;obtain⟨W,⟨m0,w0⟩,turn⟩:=hW s.heap.objs.size hD;generalize SW:s.heap.push {cls:=.type "list",dict:=none,data:=.seq ([]).toArray}=H2;have Ya:=(Heap.Ns.new H2<|.type "dict").keeps<|pushCells_keeps scope.names _;have Sa:=cellsFrom_ok scope.names (H2.push {cls:=.type "dict",data:=.dict #[]}) (H2.objs.size+1) [] ⟨λ_ _ hm=>(nomatch hm),List.Pairwise.nil⟩ (by rw[Heap.size_push];exact AAw _);rw[Heap.size_push]at Sa;have UI:∀b o,H2.get? b=some o->(pushCells (H2.push {cls:=.type "dict",data:=.dict #[]}) scope.names).get? b=some o:=λb o e=>pushCells_keeps _ _ b o<|Heap.get?_push_of_some _ e;generalize hh1:pushCells (H2.push {cls:=.type "dict",data:=.dict #[]}) scope.names=Iy at Ya Sa UI ⊢;have hC:H2.objs.size=s.heap.objs.size+1:=by rw[<-SW,Heap.size_push]
 have Ky:s.heap.objs.size<=H2.objs.size:=by rw[hC];exact AD7 _
 have kf:s.heap.objs.size≠H2.objs.size:=by rw[hC];exact AA0<|Nat.lt_succ_self _
 have old:=λb o e=>UI b o<|SW ▸ Heap.get?_push_of_some _ e;have fF:=UI _ _<|SW ▸ Heap.get?_push_size _ rfl;have mM:Bo X.prog X.w (upd H s.heap.objs.size<|.lst []) Iy:=I.Af.laid old (AAw _) ⟨ACP _,[],0,.nil,fF⟩;have ok:=iI O I f Ky Me;have fC:∀{H':Hp},H' H2.objs.size=none->Ff X AE H' H2.objs.size:=λhn=>I.SM Ky hn;have Ib:∀tk:Nat,Inv (CL X Nb scope H2.objs.size s H fp AE) [] (Fi own cap σ) (upd H s.heap.objs.size<|.lst []) {s with heap:=Iy,toks:=tk}:=λtk=>
  iH O I ok rfl I.bare (Un.laid old (AAw _) hD) old Ky Ya (by rw[BH<|ABX kf];exact I.Af.fresh Ky) (λb o e n=>by rw[BH<|AA0<|Heap.lt_size e];exact n) mM (λx c e=>⟨(Sa.empty x c<|ABk e).1,by have BM:=NI e;rw[BH<|ABX<|AA0<|ADI Ky BM];exact I.Af.fresh<|ABe Ky<|ACf BM⟩)
 have kB:∀b∈fp,(upd H s.heap.objs.size<|.lst []) b=none:=λb hb=>by rw[BH<|AA0<|Me b hb];exact(f b hb).1
 have U5:∀{H':Hp},(∀b∈fp,H' b=none)->∀b∈fp,Ff (CL X Nb scope H2.objs.size s H fp AE) [] H' b:=λhn b hb=>by
  refine⟨hn b hb,(ok.Ig b hb).1,ok.Hf b hb,.inl hb,(ok.Ig b hb).2,λp hp=>?_⟩;have FU:p∈X.pn++AE:=by have:p∈(X.pn++AE) ++ []:=hp;simpa using this
  exact(f b hb).2.2.2.2.2 p FU
 have lM:∀b∈fp,(b∈X.ex\/X.B5.heap.objs.size<=b)/\b≠X.env.locals/\(∀x c,X.env.cells.lookup x=some c->c≠b)/\∀p∈X.pn++AE,p.1≠b:=λb hb=>by obtain⟨_,f1,_,f3,f4,f5⟩:=f b hb;exact⟨f3,f1,f4,f5⟩
 have loop:∀tk:Nat,codeAny (model X.prog X.w) X.A (.compLoop (.ListComp elt [⟨tg,iter,ifs,0⟩] scope pos) 0 (.ref it) (.ref s.heap.objs.size)<|compEnvC scope (cellsFrom (H2.objs.size+1) scope.names []++Dp X.env.cells scope.names []) H2.objs.size X.env) (RR (.ref s.heap.objs.size) H2.objs.size) {s with heap:=Iy,toks:=tk}:=λtk=>by
  refine g9 (λn s'=>∃i Ac H',Inv (CL X Nb scope H2.objs.size s H fp AE) [] Ac H' s'/\tn i s'.heap/\(∀b∈fp,H' b=none)/\W i n Ac H') ?_ m0 ⟨0,_,_,Ib tk,T.keep _ _ _ st λb _ o e=>old b o e,kB,w0⟩;rintro n s3 ⟨i,EA,H3,I3,Es,MV,w3⟩;rcases turn i n EA H3 w3 with⟨stop,qn⟩|⟨go,N,hN,step⟩
  .refine Aj (T.done (CL X Nb scope H2.objs.size s H fp AE) rfl rfl rfl hc i [] s3 EA H3 _ I3 (U5 MV) Es stop) λr s4 ⟨hr,I4⟩=>?_;subst hr;obtain⟨m4,mG,_⟩:=I4.loc;exact kx _ _ s4 H3 m4 (I.WI I4.os I4.base I4.Af I4.bare lM) mG (fC I4.free) qn
  .refine Aj (T.item (CL X Nb scope H2.objs.size s H fp AE) rfl rfl rfl hc i [] s3 EA H3 _ I3 (U5 MV) Es go) λr s4 ⟨u,hr,h4⟩=>?_;subst hr;refine Aj h4 λ_ s5 ⟨x,H5,I5,r5,y5,Fc,SN⟩=>?_;have RC:=I5.pinned (U5 SN)<|T.obj _ _ Fc;refine Aj (hg H2.objs.size s H fp AE _ s5 EA H5 x u _ RC r5<|step x H5 y5) λ_ s6 ⟨Lm,H6,I6,q6⟩=>?_;refine Aj (ht H2.objs.size s H fp AE _ s6 Lm H6 _ I6 q6) λb s7 ⟨H7,I7,q7⟩=>?_;have again:∀{Nf:St}{H8:Hp}{s8:Shared},Inv (CL X Nb scope H2.objs.size s H fp AE) ([]++NK fp s5.heap) Nf H8 s8->N Nf H8->∃m,m<n/\∃i Ac H',Inv (CL X Nb scope H2.objs.size s H fp AE) [] Ac H' s8/\tn i s8.heap/\(∀b∈fp,H' b=none)/\W i m Ac H':=λ{Nf H8 s8} I8 n8=>by obtain⟨m',hm,w8⟩:=hN Nf H8 n8;refine⟨m',hm,i+1,Nf,H8,I8.Qe,T.keep _ _ _ Fc λb hb o e=>(I8.pin (b,o)<|ABY _<|ABY _<|Pr hb e).1,λb hb=>?_,w8⟩;obtain⟨o,e,d⟩:=T.obj _ _ Fc b hb;exact(I8.pin (b,o)<|ABY _<|ABY _<|Pr hb e).2.1
   cases b with
   |false=>
    exact again I7 q7
   |true=>
    refine Aj (he H2.objs.size s H fp AE _ s7 Lm H7 _ I7 q7) λy s8 ⟨v,H8,I8,r8,ys,e8,z8,n8⟩=>?_;refine Aj (Zk _ s8 Lm H8 (.ref s.heap.objs.size) [v] (.ref s.heap.objs.size) [y] (λ_ H9=>N Lm H9) I8 rfl (.cons r8 .nil) ⟨_,ys,v,rfl,rfl,e8,z8,n8⟩) (by rintro _ s9 ⟨_,H9,I9,_,n9⟩;exact again I9 n9)
 refine codeAny_compStart_list (loop _) ?_;exact T.self _ 0 _ _ _ (T.keep _ _ _ st λb _ o e=>old b o e)<|loop _
def VG(own:Nat)(cap:List Nat)(wi:TI)(g:TG)(ti:TT)(te:TE):TE:=λσ H Q=>wi σ H λJ H1=>b8 own cap g ti te J σ H1 Q
theorem rC(hc:X.calm=true)(O:GP X scope Nb own cap)(hi:PI X tg iter wi)(hg:∀C s H fp AE,PG (CL X Nb scope C s H fp AE) tg g)(ht:∀C s H fp AE,GV (CL X Nb scope C s H fp AE) ifs ti)(he:∀C s H fp AE,PE (CL X Nb scope C s H fp AE) elt te) (hs:∀x,foldedSetIterable iter X.env x=pure x:=by intro _;rfl):PE X (.ListComp elt [⟨tg,iter,ifs,0⟩] scope pos)<|VG own cap wi g ti te:=by intro AE s σ H Q I h;refine wpAny_comprehension_free rfl hs (WN λy hy hk=>I.ok.has _<|O.free y hy hk) O.kind O.loc<|Aj (hi AE s σ H _ I h) λxv s1 h1=>Aj h1 λPN s2 h2=>?_;obtain⟨it,fp,tn,J,H2,rfl,I2,T,JN,f2,hW⟩:=h2;refine WV hc O hg ht he I2 T JN f2 hW λD C s' H' m I' hn fC q=>?_;refine⟨m,hn,λh' J5=>⟨.ref D,H',I'.turned (λb o hb e=>J5.extBut b o hb e) fC.1 fC.2.1 fC.2.2.2.1 fC.2.2.2.2.1 fC.2.2.2.2.2,rfl,q⟩⟩
theorem sJ{y:Str}{py bX:Pos}{i:Nat}(hN:X.N.Nodup)(CT:X.N[i]? = some y)(hx:Loc X.env.scope y)(hc:X.calm=true)(O:GP X scope Nb own cap)(hi:PI X tg iter wi)(hg:∀C s H fp AE,PG (CL X Nb scope C s H fp AE) tg g)(ht:∀C s H fp AE,GV (CL X Nb scope C s H fp AE) ifs ti)(he:∀C s H fp AE,PE (CL X Nb scope C s H fp AE) elt te) (Ho:swapsWith (.ListComp elt [⟨tg,iter,ifs,0⟩] scope pos) (some<|.Name y py) bX.line X.env=pure true:=by rfl) (hs:∀x,foldedSetIterable iter X.env x=pure x:=by intro _;rfl) (hf:X.fn y=true\/X.env.scope.names.lookup y=some .local:=by first|exact .inl rfl|exact .inr rfl|assumption) : PS X (.Assign [.Name y py] (.ListComp elt [⟨tg,iter,ifs,0⟩] scope pos) bX)<|NX (VG own cap wi g ti te)<|MW i:=by
 intro AE s σ H D I h;rw[exec_Assign_Name_used _ _ _ _ Ho];refine wpAny_bind<|wpAny_standAt<|wpAny_bind ?_;refine wpAny_bind (wpAny_mono (wpAny_comprehension_free rfl hs (WN λy hy hk=>I.ok.has _<|O.free y hy hk) O.kind O.loc
  (Aj (hi AE s σ H _ I h) λxv s1 h1=>Aj h1 λPN s2 h2=>?_)) (λ_ s' hq=>wpAny_pure<|wpAny_pure hq) λ_ _ e=>e)
 obtain⟨it,fp,tn,J,H2,rfl,I2,T,JN,f2,hW⟩:=h2;refine WV hc O hg ht he I2 T JN f2 hW λD' C s' H' m I' hn fC q=>?_;refine wpAny_assign_Name<|bZ I' hN CT hx (v:=.ref D') rfl (λJM eK ⟨a,Mn,ha⟩=>?_) hf;have ke:C≠a:=by
  rcases ha with rfl|ha
  .exact fC.2.1
  .exact ABX<|fC.2.2.2.2.1 y a ha
 refine⟨m,hn.sameBut Mn ke,λh' J5=>?_⟩;exact⟨_,H',eK.turned (λb o hb e=>J5.extBut b o hb e) fC.1 fC.2.1 fC.2.2.2.1 fC.2.2.2.2.1 fC.2.2.2.2.2,q⟩
end
theorem B1.has{P:Program}{w:World}{H:Hp}{h:Heap}{a:Addr}{o:HO}(x:B1 P w H h a o):∃ob,h.get? a=some ob:=by
 cases o with
 |lst xs=>obtain⟨_,_,_,_,e⟩:=x;exact⟨_,e⟩
 |tup xs=>obtain⟨_,_,_,ob,e,_⟩:=x;exact⟨_,e⟩
 |dK AR=>obtain⟨_,_,_,_,o,_,_,e,_⟩:=x;exact⟨_,e⟩
 |dT AR=>obtain⟨_,_,_,_,o,_,_,e,_⟩:=x;exact⟨_,e⟩
 |set S n=>obtain⟨o,_,_,_,e,_⟩:=x;exact⟨_,e⟩
 |ins C dx fs=>obtain⟨_,_,_,e,_⟩:=x;exact⟨_,e⟩
 |own y=>obtain⟨_,e⟩:=x;exact⟨_,e⟩
 |xd fs=>obtain⟨_,⟨_,_,_,e,_⟩,_⟩:=x;exact⟨_,e⟩
 |QI lo hi=>obtain⟨_,_,_,e⟩:=x;exact⟨_,e⟩
 |D5 ob u=>obtain⟨e,_⟩:=x;exact⟨_,e⟩
 |JQ ps=>exact⟨_,(show h.get? a=some _ from x)⟩
 |met f y=>exact⟨_,(show h.get? a=some _ from x)⟩
 |ext φ=>obtain⟨_,⟨_,e⟩,_⟩:=x;exact⟨_,e⟩
structure N0(P:Program)(w:World)(outer:List Env)(H:Hp)(s:Shared)(ea:Addr)(cls:Value)(B:Heap)(H':Hp)(s':Shared):Prop where
 os:s'.os=s.os
 bare:AllBare s'.gens
 un:Un (Cp outer) [] H H' s.heap s'.heap
 Af:Bo P w H' s'.heap
 OU:∃a0,Heap.FlyingW B outer ea cls a0 s'.heap
 nw:s.heap.get? ea=none
 he:H' ea=none
 b1:∀b o,s.heap.get? b=some o->b∉Cp outer->∃o',B.get? b=some o'/\(H b=none->o'=o)
 b2:∀b o,(H' b).isSome=true->s'.heap.get? b=some o->B.get? b=some o
def GO(P:Program)(w:World):EB:=λouter H s E e s'=>∃ea cls B H',e=.ref ea/\N0 P w outer H s ea cls B H' s'/\E cls none H'
section
variable{P:Program}{w:World}{outer:List Env}{H H':Hp}{s s':Shared}{ea:Addr}{cls:Value}{B EO:Heap}
theorem N0.then(F:N0 P w outer H s ea cls B H' s')(st:B.StaysIn EO)(us:s'.heap.UpToSlots EO):Un (Cp outer) [] H H' s.heap EO/\Bo P w H' EO:=by
 have slot:∀b o,s.heap.get? b=some o->H b=none->b∈Cp outer->∃sl,EO.get? b=some {o with slots:=sl}:=λb o e n hb=>by obtain⟨sl,e1⟩:=F.un.slot b o e n hb AAd;obtain⟨a0,fl⟩:=F.OU;obtain⟨_,o',e2,nf⟩:=fl.2.2.1.mem hb;rw[e1]at e2;cases e2;obtain⟨IC,e3⟩:=us b _ e1 nf;exact⟨IC,e3⟩
 refine⟨⟨λb o e n hb _=>?_,λb o e n hb _=>slot b o e n hb,λb o e n _=>F.un.free b o e n AAd,λb o e _=>?_,F.un.Dj,F.un.D6,F.un.Eu⟩,λa o e=>?_⟩
 .obtain⟨o',e1,e2⟩:=F.b1 b o e hb;have:=e2 n;subst this;exact st _ _ e1
 .by_cases hb:b∈Cp outer
  .obtain⟨a0,fl⟩:=F.OU;obtain⟨_,o',e2,nf⟩:=fl.2.2.1.mem hb;obtain⟨IC,e3⟩:=us b _ e2 nf;exact⟨_,e3⟩
  .obtain⟨o',e1,_⟩:=F.b1 b o e hb;exact⟨_,st _ _ e1⟩
 .refine(F.Af a o e).ID (λb u hb q=>st _ _<|F.b2 b u ?_ q) (λ_ q=>q) λ_ _ q=>q;rcases hb with rfl|hb
  .rw[e];rfl
  .rw[hb];rfl
end
section
variable{X:Cx}{AE:List (Addr×Obj)}{σ:St}{H H':Hp}{s s':Shared}{ea:Addr}{cls:Value}{B h':Heap}{vs:List Value}{M:Model}
structure L3(X:Cx):Prop where
 EX:X.stack=X.env::X.outer
 fr:X.env.frame=some X.env.locals
 ex:X.ex=[]
theorem Inv.NF(I:Inv X AE σ H s){b:Addr}{o:Obj}(e:X.B5.heap.get? b=some o)(hb:b∉X.fs):b∉Cp X.stack:=λz=>by
 rcases AAy.mp (I.NT b z)with q|q
 .exact absurd (AA8 (Heap.lt_size e) I.ok.above) (by rw[q];exact ACZ _)
 .exact hb q
theorem Inv.old(I:Inv X AE σ H s)(d:X.ex=[]){b:Addr}(e:s.heap.get? b=none):X.B5.heap.get? b=none:=by
 cases q:X.B5.heap.get? b with
 |none=>rfl
 |some o=>
  obtain⟨o',z⟩:=I.base.there b o q (by rw[d];simp);rw[e]at z;contradiction
theorem vt{E:XK}{E':Value->Shared->Prop}(d:L3 X)(I:Inv X AE σ H s)(hm:Heap.MadeExcOf s.heap h' ea cls vs)(hE:E cls none H) : wpAny M X.A (leaving X.env<|.ref ea) (λ_ JM=>GO X.prog X.w X.outer X.AU X.B5 E (.ref ea) JM) E' {s with heap:=h'}:=by
 have fm:∀env∈X.stack,∀a,env.frame=some a->a∈Cp X.stack:=λenv he a ha=>ADG.mpr ⟨env,he,ha⟩;have Mf:X.A.frames=some (X.env::X.outer):=by rw[<-d.EX];exact I.ok.frames
 have hx:∀b,b∉X.ex:=λb z=>by rw[d.ex]at z;nomatch z
 have KY:∀b,(H b).isSome=true->b∉Cp X.stack:=λb z q=>by rw[I.U6 b q]at z;contradiction
 have hl:s.heap.FunFrames (PySem.W.hideAll s.heap<|Cp X.stack) (X.env::X.outer):=by rw[<-d.EX];exact PySem.W.funFrames_hide I.stack fm
 refine wpAny_leaves_madeW Mf d.fr (λb o q=>PySem.W.of_hideAll _ q) hl hm λEO t x1 x2 x3 x4=>?_;have E7:∀b o,s.heap.get? b=some o->b∉Cp X.stack->(PySem.W.hideAll s.heap<|Cp X.stack).get? b=some o:=λb o e hb=>AEJ _ e hb;have slot:∀b o,s.heap.get? b=some o->b∈X.fs->∃sl,EO.get? b=some {o with slots:=sl}:=λb o e hb=>by obtain⟨_,o',e2,nf⟩:=I.Dt.mem hb;rw[e]at e2;cases e2;exact x4 b _ (hm.keeps _ _ e) nf
 have TJ:∀b,(H b).isSome=true->∃o,s.heap.get? b=some o:=λb z=>by
  cases q:H b with
  |none=>rw[q]at z;contradiction
  |some o=>exact(I.Af b o q).has
 refine⟨ea,cls,_,H,rfl,⟨I.os,I.bare,⟨λb o e n hb _=>?_,λb o e n hb _=>?_,λb o e n _=>I.base.free b o e n<|hx b,λb o e _=>?_,I.base.Dj,I.base.D6,I.base.Eu⟩,λa o e=>?_,⟨_,x1⟩,I.old d.ex hm.new,?_,λb o e hb=>?_,λb o z e=>?_⟩,hE⟩
 .exact x1.1 _ _<|E7 b o (I.base.keep b o e n hb<|hx b)<|I.NF e hb
 .obtain⟨sl,e1⟩:=I.base.slot b o e n hb<|hx b;obtain⟨IC,e2⟩:=slot b _ e1 hb;exact⟨IC,e2⟩
 .obtain⟨o',e1⟩:=I.base.there b o e<|hx b;by_cases hb:b∈X.fs
  .obtain⟨IC,e2⟩:=slot b _ e1 hb;exact⟨_,e2⟩
  .exact⟨_,x1.1 _ _<|E7 b o' e1<|I.NF e hb⟩
 .refine(I.Af a o e).ID (λb u hb q=>x1.1 _ _<|E7 b u q<|KY b ?_) (λ_ q=>q) λ_ _ q=>q;rcases hb with rfl|hb
  .rw[e];rfl
  .rw[hb];rfl
 .cases q:H ea with
  |none=>rfl
  |some o=>
   obtain⟨ob,z⟩:=(I.Af ea o q).has;rw[hm.new]at z;contradiction
 .obtain⟨o',e1⟩:=I.base.there b o e<|hx b;refine⟨o',E7 b o' e1<|I.NF e hb,λn=>?_⟩;have:=I.base.keep b o e n hb<|hx b;rw[e1]at this;exact ABF this
 .obtain⟨o1,e1⟩:=TJ b z;have e2:=E7 b o1 e1<|KY b z;have e3:=x1.1 _ _ e2;rw[show EO.get? b=some o from e]at e3;rw[e2];exact e3.symm
theorem qu{E:XK}{E':Value->Shared->Prop}(d:L3 X)(I:Inv X AE σ H s)(F:N0 X.prog X.w X.stack H s ea cls B H' s')(hE:E cls none H') : wpAny M X.A (leaving X.env<|.ref ea) (λ_ JM=>GO X.prog X.w X.outer X.AU X.B5 E (.ref ea) JM) E' s':=by
 have Mf:X.A.frames=some (X.env::X.outer):=by rw[<-d.EX];exact I.ok.frames
 have hx:∀b,b∉X.ex:=λb z=>by rw[d.ex]at z;nomatch z
 obtain⟨a0,fl⟩:=F.OU;refine wpAny_leaves_onW Mf d.fr (by rw[<-d.EX];exact fl) λEO SE us=>?_;obtain⟨u,ok⟩:=F.then SE.1 us
 have TJ:∀b,(H' b).isSome=true->∃o,s'.heap.get? b=some o:=λb z=>by
  cases q:H' b with
  |none=>rw[q]at z;contradiction
  |some o=>exact(F.Af b o q).has
 refine⟨ea,cls,B,H',rfl,⟨F.os.trans I.os,F.bare,⟨λb o e n hb _=>?_,λb o e n hb _=>?_,λb o e n _=>?_,λb o e _=>?_,λb xs q=>u.Dj b xs<|I.base.Dj b xs q,λb o xs q=>u.D6 b o xs<|I.base.D6 b o xs q,λb ps q=>?_⟩,ok,⟨a0,SE⟩,I.old d.ex F.nw,F.he,λb o e hb=>?_,λb o z e=>?_⟩,hE⟩
 .exact u.keep b o (I.base.keep b o e n hb<|hx b) (I.base.free b o e n<|hx b) (I.NF e hb) AAd
 .obtain⟨sl,e1⟩:=I.base.slot b o e n hb<|hx b;obtain⟨IC,e2⟩:=u.any e1 (I.base.free b o e n<|hx b) AAd;exact⟨IC,e2⟩
 .obtain⟨o',e1⟩:=I.base.there b o e<|hx b;exact u.free b o' e1 (I.base.free b o e n<|hx b) AAd
 .obtain⟨o',e1⟩:=I.base.there b o e<|hx b;exact u.there b o' e1 AAd
 .obtain⟨m1,e1⟩:=I.base.Eu b ps q;obtain⟨m2,e2⟩:=u.Eu b _ e1;exact⟨m1++m2,by rw[e2,Array.append_assoc]⟩
 .obtain⟨o1,e1⟩:=I.base.there b o e<|hx b;obtain⟨o',e2,e3⟩:=F.b1 b o1 e1<|I.NF e hb;refine⟨o',e2,λn=>?_⟩;have z:=I.base.keep b o e n hb<|hx b;rw[e1]at z;exact(e3<|I.base.free b o e n<|hx b).trans (ABF z)
 .obtain⟨o1,e1⟩:=TJ b z;have e2:=F.b2 b o1 z e1;have e3:=SE.1 _ _ e2;rw[show EO.get? b=some o from e]at e3;rw[e2];exact e3.symm
end
set_option tactic.hygienic true
theorem qj{K:PySem.W.Frag}{h₀:Heap}{mg:Str->Option Value}{x:Str}{C:Addr}{IU:List Value}{JI:String}(X:K.In h₀)(G:mg x=some (.ref C))(q:PySem.W.excIn K C IU JI=true):OwnCls x C IU JI mg h₀:=by
 refine⟨G,?_⟩;unfold PySem.W.excIn at q;split at q
 .rename_i dd cd sl ho;split at q
  .rename_i C' bm k0 k1 k2 k3 n k5 hm hs;simp only[AAk,ABw,ABJ]at q;obtain⟨⟨⟨⟨⟨rfl,rfl⟩,YL⟩,ht⟩,Af⟩,Oz⟩:=q;obtain⟨nm,bs,mro,ns,qn,hd,sn,sub,ab,col,del⟩:=cd;dsimp only at hm YL Af Oz;subst hm YL;have O9:sl=#[k0,k1,k2,k3,some<|.builtin n,k5]:=by obtain⟨l⟩:=sl;simp only at hs;rw[hs]
   subst O9;exact⟨bm,ns,nm,qn,bs,hd,sn,sub,ab,col,dd,k0,k1,k2,k3,k5,_,X _ _ ho,.of_isNs<|PySem.W.isNs_of_in X Af,PySem.W.nsMap_none_of_in X Af Oz,PySem.W.tail_of_in X ht⟩
  .contradiction
 .contradiction
set_option tactic.hygienic false
section
variable{X:Cx}{E:XK}{x:Str}{C:Addr}{IU:List Value}{B JI TZ:String}{np Ay pos:Pos}{OP:Expr}{BE:List Expr}{ta:TA}
def Raises(X:Cx)(E:XK):Prop:=∀(AE:List<|Addr×Obj)(σ:St)(H:Hp)(s:Shared)(h':Heap)(e:Addr)(cls:Value)(vs:List Value),Inv X AE σ H s->Heap.MadeExcOf s.heap h' e cls vs->E cls none H->X.xe (.ref e) {s with heap:=h'}
def xn(E:XK)(C:Addr)(ta:TA):TS:=λ_ σ H=>ta σ H λvs H1=>vs.length<=sizeLine/\E (.ref C) none H1
theorem sI(O:OwnCls x C IU JI X.mg X.base)(FB:ExcBaseFacts B JI TZ IU)(hc:X.calm=true)(hg:Gl X x)(ha:PA X (OP::BE) ta)(hx:Raises X E)(hd:(x==("__debug__"))=false:=by decide) (he:starEach (OP::BE) X.env=(false,eval OP X.env)::starEach BE X.env:=by rfl) (A7:(backTo Ay<|starEach BE X.env).any (·.1)=false:=by rfl) : PS X (.Raise (some<|.Call (.Name x np) (OP::BE) [] Ay) none pos)<|xn E C ta:=by
 intro AE s σ H D I h;obtain⟨tl,N,nm,q,bs,hdct,sn,sub,ab,col,dd,k0,k1,k2,k3,k5,mN,hC,hN,Oz,T⟩:=O.obj;refine wpAny_Raise_call_subT (nm:=nm) (q:=q) (N:=N) (bs:=bs) (hdct:=hdct) (sn:=sn) (sub:=sub) (ab:=ab) (col:=col) (dd:=dd) (k0:=k0) (k1:=k1) (k2:=k2) (k3:=k3) (k5:=k5) FB (T.hasType FB.hasBase) (I.ok.hd hc) (by rw[he];show(false||(backTo Ay<|starEach BE X.env).any (·.1))=false;rw[A7];rfl) Oz<|LJ I hg O.bound ⟨rfl,?_⟩ hd
 have h2:=ha Ay AE s σ H _ I h;rw[he]at h2 ⊢;refine Calls.evalArgs_plain<|wpAny_mono h2 (λus GJ ⟨vs,H1,I1,r1,q1,q2⟩=>⟨rfl,?_,I1.bk _ _ hC,hN.keeps I1.bk,T.keeps I1.bk,λh' e hm=>hx AE σ H1 GJ h' e _ _ I1 hm q2⟩) λ_ _ y=>y;rw[<-r1.length];exact q1
end
section
variable{P:Program}{w:World}{K:PySem.W.Frag}{mg:Str->Option Value}{base:Heap}{N:List Str}{qual:Str}{scope:Scope}{f:Addr}{cd:Value}{A:Around}{outer:List Env}{s:Shared}{H:Hp}{E E':XK}
abbrev MK(P:Program)(w:World)(K:PySem.W.Frag)(mg:Str->Option Value)(base:Heap)(N:List Str)(qual:Str)(scope:Scope)(f:Addr)(cd:Value)(A:Around)(outer:List Env)(s:Shared)(H:Hp)(E:XK):Cx:=Fl (GO P w) P w K mg base N qual scope f cd A outer s H E
theorem Tg:L3<|MK P w K mg base N qual scope f cd A outer s H E:=⟨rfl,rfl,rfl⟩
theorem vv:Raises (MK P w K mg base N qual scope f cd A outer s H E) E:=λ_ _ _ _ _ _ _ _ I hm hE=>vt Tg I hm hE
theorem qv(hE:∀cls H',E' cls none H'->E cls none H'):Passes (GO P w) (MK P w K mg base N qual scope f cd A outer s H E) E':=by intro AE σ H1 s1 e s' I h;obtain⟨ea,cls,B,H',rfl,F,q⟩:=h;exact qu Tg I F<|hE _ _ q
end
section
variable{X:Cx}{AE:List (Addr×Obj)}{σ:St}{H:Hp}{s:Shared}
noncomputable def Cx.re(X:Cx)(Cy:Value->Shared->Prop)(pn':List<|Addr×Obj):Cx:={X with xe:=Cy,pn:=pn'}
theorem Inv.re{Cy:Value->Shared->Prop}(I:Inv X AE σ H s):Inv (X.re Cy<|X.pn++AE) [] σ H s:=
 ⟨⟨I.ok.mod,I.ok.kind,I.ok.glob,I.ok.blt,I.ok.above,I.ok.inj,I.ok.has,I.ok.HW,I.ok.hd,I.ok.frames,I.ok.EX,I.ok.Ig,I.ok.bs,I.ok.E1,I.ok.Hz,I.ok.Hf,I.ok.Dt,I.ok.Fs⟩,I.os,I.bare,I.base,I.loc,I.cell,I.free,I.Ds,λp hp=>I.pin p (by have:p∈(X.pn++AE) ++ []:=hp;simpa using this),I.Af,I.len⟩
theorem Inv.NZ{Cy:Value->Shared->Prop}{P9:List (Addr×Obj)}(I:Inv (X.re Cy<|X.pn++AE) P9 σ H s):Inv X AE σ H s:=
 ⟨⟨I.ok.mod,I.ok.kind,I.ok.glob,I.ok.blt,I.ok.above,I.ok.inj,I.ok.has,I.ok.HW,I.ok.hd,I.ok.frames,I.ok.EX,I.ok.Ig,I.ok.bs,I.ok.E1,I.ok.Hz,I.ok.Hf,I.ok.Dt,I.ok.Fs⟩,I.os,I.bare,I.base,I.loc,I.cell,I.free,I.Ds,λp hp=>I.pin p<|ACA _ hp,I.Af,I.len⟩
noncomputable def Cx.E4(X:Cx)(ea:Addr):Cx:={X with A:=X.A.mark<|some<|.ref ea,calm:=false,xe:=λ_ _=>False}
theorem Inv.E4{ea:Addr}(I:Inv X AE σ H s):Inv (X.E4 ea) AE σ H s:=
 ⟨⟨I.ok.mod,I.ok.kind,I.ok.glob,I.ok.blt,I.ok.above,I.ok.inj,I.ok.has,I.ok.HW,(λz=>by contradiction),I.ok.frames,I.ok.EX,I.ok.Ig,I.ok.bs,I.ok.E1,I.ok.Hz,I.ok.Hf,I.ok.Dt,I.ok.Fs⟩,I.os,I.bare,I.base,I.loc,I.cell,I.free,I.Ds,I.pin,I.Af,I.len⟩
theorem Inv.Qd{ea:Addr}(ok:X.Ok)(I:Inv (X.E4 ea) AE σ H s):Inv X AE σ H s:=
 ⟨ok,I.os,I.bare,I.base,I.loc,I.cell,I.free,I.Ds,I.pin,I.Af,I.len⟩
def Ed(ea C:Addr)(h:Heap):Prop:=∃o,h.get? ea=some o/\o.cls=.ref C
theorem Inv.yQ{ea C:Addr}(I:Inv X AE σ H s)(hn:H ea=none)(hs:X.B5.heap.get? ea=none)(hx:Ed ea C s.heap)(hL:ea≠X.env.locals)(hC:∀x c,X.env.cells.lookup x=some c->c≠ea)(hp:∀p∈X.pn++AE,p.1≠ea) : Inv X AE σ (upd H ea<|.ext<|Ed ea C) s:=by
 have ne:∀b o,H b=some o->b≠ea:=λb o e z=>by rw[z,hn]at e;contradiction
 refine⟨I.ok,I.os,I.bare,⟨I.base.keep,I.base.slot,λb o e n hx=>?_,I.base.there,λb xs e=>?_,λb o u e=>?_,λb ps e=>?_⟩,I.loc,I.cell,?_,λx c e=>?_,λp q=>?_,λb o e=>?_,I.len⟩
 .rw[BH (λz=>by rw[z,hs]at e;contradiction)];exact I.base.free b o e n hx
 .rw[BH<|ne _ _<|I.base.Dj b xs e];exact I.base.Dj b xs e
 .rw[BH<|ne _ _<|I.base.D6 b o u e];exact I.base.D6 b o u e
 .obtain⟨m,q⟩:=I.base.Eu b ps e;exact⟨m,by rw[BH<|ne _ _ q];exact q⟩
 .rw[BH<|ABX hL];exact I.free
 .rw[BH<|hC x c e];exact I.Ds x c e
 .obtain⟨a,b,c,d,f⟩:=I.pin p q;exact⟨a,by rw[BH<|hp p q];exact b,c,d,f⟩
 .by_cases z:b=ea
  .subst z;rw[Cu]at e;cases e;refine⟨hx,?_,(by rintro h1 h2 ⟨o,a,b⟩ k;exact⟨o,k o a,b⟩)⟩;obtain⟨o,q,_⟩:=hx;exact⟨o,q⟩
  .rw[BH z]at e;exact(I.Af b o e).ID (λc u _ q=>q) (λc q=>by rw[BH<|ne _ _ q];exact q) λc xs q=>by rw[BH<|ne _ _ q];exact q
theorem name_goes{M:Model}{A:Around}{E:Value->Shared->Prop}{i:Nat}{n:Str}{pos:Pos}{Q:Unit->Shared->Prop}(I:Inv X AE σ H s)(hN:X.N.Nodup)(hi:X.N[i]? = some n)(hl:X.env.scope.names.lookup n=some .local) (h:∀s',Inv X AE (σ.set i none) H s'->Q () s'):wpAny M A (do bindName X.env n .none;unbindBehindTheSuite X.env n pos) Q E s:=by
 have SY:(X.env.scope.kind == .class||(X.env.scope.kind == .module&&X.env.locals != X.env.globals))=false:=by rw[I.ok.kind];rfl
 refine wpAny_bind<|wpAny_bindName<|KR I hN hi (.inl hl) (v:=.Au) rfl (λs1 I1=>?_)<|.inr hl;refine wpAny_onRaise ?_;refine wpAny_bind<|wpAny_point<|wpAny_bind ?_;unfold deleteName;have Gm:X.env.kindOf n=some .local:=hl;simp only[Gm,SY];obtain⟨m,hn,Ow⟩:=id I1.loc;have hm:(m n).isSome=true:=by
  have K2:i<σ.length:=by rw[I.len];exact(AAn.mp hi).1
  obtain⟨u,_,l⟩:=Ow i n .Au hi (by rw[ACO K2])<|.inl hl;rcases l with⟨_,l⟩|⟨l,_⟩
  .rw[l];rfl
  .rcases l with l|l<;>(rw[Gm]at l;contradiction)
 refine wpAny_bind<|wpAny_nsDel_keeps hn λK8 v mI J6=>?_;rw[hm];refine wpAny_pure<|wpAny_point<|h _ ?_;have old:∀b o,X.B5.heap.get? b=some o->b≠X.env.locals:=λb o e=>AA0<|AA8 (Heap.lt_size e) I.ok.above;refine⟨I1.ok,I1.os,I1.bare,⟨λb o e n hb hx=>?_,λb o e n hb hx=>?_,I1.base.free,λb o e hx=>?_,I1.base.Dj,I1.base.D6,I1.base.Eu⟩,⟨_,mI,λj y v' e1 e2 e3=>?_⟩,λy c e=>?_,I1.free,I1.Ds,λp hp=>?_,λb ob e=>?_,by simpa using I.len⟩
 .exact(J6.2 b<|old b o e).trans (I1.base.keep b o e n hb hx)
 .obtain⟨sl,e1⟩:=I1.base.slot b o e n hb hx;exact⟨sl,(J6.2 b<|old b o e).trans e1⟩
 .obtain⟨o',e1⟩:=I1.base.there b o e hx;exact⟨o',(J6.2 b<|old b o e).trans e1⟩
 .have hj:j≠i:=λz=>by
   subst z;have K2:j<σ.length:=by rw[I.len];exact(AAn.mp hi).1
   rw[ACO K2]at e2;nomatch e2
  rw[AA2<|ABX hj]at e2;have TX:y≠n:=λz=>hj<|UB hN (z ▸ e1) hi;obtain⟨u,r,l⟩:=Ow j y v' e1 (by rw[AA2<|ABX hj];exact e2) e3;refine⟨u,r,?_⟩;rcases l with⟨l1,l2⟩|⟨k,c,e,z⟩
  .exact .inl ⟨l1,(AAj TX).trans l2⟩
  .exact .inr ⟨k,c,e,z.sameBut J6<|I1.HZ y c e⟩
 .obtain⟨w',z⟩:=I1.cell y c e;exact⟨w',z.sameBut J6<|I1.HZ y c e⟩
 .obtain⟨e,n,ne,nf,d⟩:=I1.pin p hp;exact⟨(J6.2 p.1 ne).trans e,n,ne,nf,d⟩
 .refine(I1.Af b ob e).ID (λc w' hc q=>(J6.2 c ?_).trans q) (λ_ q=>q) λ_ _ q=>q;rintro rfl;rcases hc with rfl|hc
  .rw[I1.free]at e;contradiction
  .rw[I1.free]at hc;contradiction
end
section
variable{X:Cx}{body Fd:List Stmt}{Kn:Stmt}{x n:Str}{np O5 pos:Pos}{Wc:Addr}{i:Nat}{tb:XK->TS}{ts:TS}
end
open PySem PySem.Spec PyProof.Rows PySem.W PySem.Builtin PySem.Builtin.ObjectAttr PySem.Builtin.Getset_descriptor
section
variable{K:Frag}{x D:Addr}{M:Model}{h:Heap}{prog:Program}{w:World}{A:Around}{E:Value->Shared->Prop}{s:Shared}
theorem jf{n:Str}{a g:Value}(X:K.In h)(ha:findIn K (.ref D) n=some (some a))(hn:specialIn K a "__get__" = some (some g))(K7:takesIn K a=some true):Looks M h (find (.ref x) (.ref D) n)<|.bind g a:=
 (looks_findIn X ha).andThen ((show Looks M h (getOf<|some a) (some g)from looks_specialIn X hn).andThen ((show Looks M h (dataDescriptor? (some a) (some g)) (some (g,a))from(looks_takesIn X K7).andThen .now).andThen<|Looks.tag .now))
theorem je{Q:Option Value->Shared->Prop}(X:K.In s.heap)(p:Ed x D s.heap)(lX:findIn K (.ref D) "__getattribute__" = some (some<|.builtin "BaseException.__getattribute__"))(hk:findIn K (.ref D) "__getattr__" = some none) (ha:findIn K (.ref D) "__class__" = some (some<|.builtin "object.__class__")) (hn:specialIn K (.builtin "object.__class__") "__get__" = some (some<|.builtin "getset_descriptor.__get__")) (K7:takesIn K (.builtin "object.__class__")=some true) (hm:mroIn K D (.type "object")=some true) (hb:mroIn K D (.type "BaseException")=some true) (h:Q (some<|.ref D) {s with toks:=s.toks+1}):wpAny (model prog w) A (getAttr? (.ref x) "__class__") Q E s:=by
 obtain⟨o,ho,hc⟩:=p;obtain⟨hp,g,d,t,os⟩:=s;have ty:Looks (model prog w) hp (typeOf<|.ref x)<|.ref D:=hc ▸ (Looks.ld ho).andThen .now;have f0:=looks_findIn (M:=model prog w) X lX;have f1:=jf (M:=model prog w) (x:=x) X ha hn K7;have f2:=looks_findIn (M:=model prog w) X hk;have f3:=looks_mroIn (M:=model prog w) X hm;have f4:=looks_mroIn (M:=model prog w) X hb;have mY:splitId "BaseException.__getattribute__" = some ("BaseException","__getattribute__"):=AAf
 refine wpAny_bind<|wpAny_mkText<|wpAny_bind<|wpAny_attempt<|wpAny_holding<|wpAny_bind<|ty.at<|wpAny_bind<|f0.at ?_;dsimp only;have bd:=F.excAttr_ValueError.ga.bind<|.ref x;have pl:=F.excAttr_ValueError.ga.plain;have ag:=F.args_bexc_ga (.ref x)<|.str "__class__" t;refine wpAny_bind ?_;refine f2.at<|wpAny_bind<|wpAny_attempt<|wpAny_holding ?_;refine wpAny_bind<|wpAny_of_eq bd<|wpAny_call ?_;refine codeAny_call_builtin pl F.entry_bexc_ga ?_;simp only[mY];refine wpAny_bind<|wpAny_bind<|ty.at<|f4.at ?_;refine wpAny_of_eq ag ?_;refine wpAny_bind<|wpAny_pure ?_;refine wpAny_bind<|wpAny_pure ?_;refine wpAny_bind<|ty.at<|wpAny_bind<|f1.at ?_;unfold bindTo
 repeat (first|with_reducible refine wpAny_bind ?_|with_reducible refine wpAny_holding ?_|with_reducible refine wpAny_rule ?_)
 refine wpAny_call<|codeAny_call_builtin KF.slot_gs.plain KF.entry_gs<|KF.slot_gs.check _ _ _ _ _ _ _ _ KF.type_class (KF.args_gs _ _ _) ?_;refine wpAny_bind<|wpAny_pure ?_
 delta descrGetter descrCheckInstance descrNameAndClass isInstance
 simp only[KF.owner_class]
 repeat lk
 refine⟨Code.quiet_builtin _ AAf,codeAny_builtin KF.entry_class ?_⟩
 repeat lk
 exact h
structure Lp(K:Frag)(D:Addr):Prop where
 ga:findIn K (.ref D) "__getattribute__" = some (some<|.builtin "BaseException.__getattribute__")
 gn:findIn K (.ref D) "__getattr__" = some none
 cl:findIn K (.ref D) "__class__" = some (some<|.builtin "object.__class__")
 sp:specialIn K (.builtin "object.__class__") "__get__" = some (some<|.builtin "getset_descriptor.__get__")
 tk:takesIn K (.builtin "object.__class__")=some true
 mr:mroIn K D (.type "object")=some true
 mb:mroIn K D (.type "BaseException")=some true
 hd:hasDictIn K D=true
theorem n5(Z:Lp K D):KitX K (.ref x) (.ref D) (Ed x D) where
 ty:=(by rintro _ _ _ ⟨_,ho,hc⟩;exact hc ▸ (Looks.ld ho).andThen .now)
 it:=λ_ _ X _=>by
  obtain⟨c,hc,_⟩:=any_some Z.hd;unfold clsIn at hc;split at hc
  .rename_i ho;exact λ_ _ _ _ k q=>wpAny_bind<|wpAny_loadPart (k _ _<|X _ _ ho)<|wpAny_pure q
  .contradiction
 ne:=λh tp dd its n sl X me=>by
  obtain⟨c,hc,_⟩:=any_some Z.hd;refine ACz.mpr λq=>?_;obtain rfl:D=tp:=Value.ref.inj<|ABw.mp q;unfold clsIn at hc;split at hc
  .rename_i ho;cases (X _ _ ho).symm.trans me
  .contradiction
 ca:=λX p k=>je X p Z.ga Z.gn Z.cl Z.sp Z.tk Z.mr Z.mb k
end
structure Dy(k:Nat)(A:Around):Prop where
 dp:A.depth+3*k+5<recursionLimit
 un:A.units+16*k+200<cLine
theorem Dy.deeper{k:Nat}{A:Around}(r:Dy (k+1) A)(env:Env):Dy k<|A.deeper env:=by have h:=(Br.deeper (A:={A with handled:=none}) ⟨rfl,r.dp,r.un⟩ env);exact⟨h.dp,h.un⟩
structure Ly(P:Program)(w:World)(K:PySem.W.Frag)(mg:Str->Option Value)(base:Heap)(k:Nat)(f:Addr)(fd:FuncData)(ps:List Str)(sp:List V->Hp->VK->Prop):Prop where
 len:∀vs H Q,sp vs H Q->vs.length=ps.length
 run:∀(A:Around)(outer:List Env)(s:Shared)(H:Hp)(args:Args)(us:List Value)(vs:List V)(Q:VK),Dy k A->JY P w K mg base A outer s H->BindsTo s fd args (ps.zip us)->As vs us->sp vs H Q->codeAny (model P w) A (.call (.ref f) args) (λr s'=>match r with|.ok (.ret u)=>CE outer P w H s Q u s'|_=>False) s
def OE(P:Program)(w:World)(K:PySem.W.Frag)(mg:Str->Option Value)(base:Heap)(N:List Str)(qual:Str)(scope:Scope)(f:Addr)(cd:Value)(A:Around)(outer:List Env)(s:Shared)(H:Hp):Cx:=
 {Fl Dx P w K mg base N qual scope f cd A outer s H E0 with calm:=false,xe:=λ_ _=>False}
theorem nH{P:Program}{w:World}{K:PySem.W.Frag}{mg:Str->Option Value}{base:Heap}{N ps:List Str}{qual:Str}{scope:Scope}{f:Addr}{cd:Value}{A:Around}{outer:List Env}{s s1:Shared}{H:Hp}{us:List Value}{vs:List V} (S:HI N ps scope) (e0:JY P w K mg base A outer s H) (hl:vs.length=ps.length) (r:As vs us) (x:InCallC s s.heap.objs.size (bindL (envOfC qual scope s.heap.objs.size f cd).kindOf (ps.zip us) λ_=>none) (cellsFrom (s.heap.objs.size+1) scope.names []) (bindC (envOfC qual scope s.heap.objs.size f cd).kindOf (ps.zip us) λ_=>none) s1) :
 Inv (OE P w K mg base N qual scope f cd A outer s H) [] (start N vs) H s1:=by
 have e1:JY P w K mg base {A with handled:=none} outer s H:=⟨e0.frames,e0.mod,e0.bs,e0.E1,e0.Dt,e0.Fs,e0.Af,e0.bare⟩;have I:=Yu (CX:=Dx) (E:=E0) S rfl e1 hl r x;exact⟨⟨I.ok.mod,I.ok.kind,I.ok.glob,I.ok.blt,I.ok.above,I.ok.inj,I.ok.has,I.ok.HW,(λz=>by contradiction),I.ok.frames,I.ok.EX,I.ok.Ig,I.ok.bs,I.ok.E1,I.ok.Hz,I.ok.Hf,I.ok.Dt,I.ok.Fs⟩,I.os,I.bare,I.base,I.loc,I.cell,I.free,I.Ds,I.pin,I.Af,I.len⟩
theorem j9{P:Program}{w:World}{K:PySem.W.Frag}{mg:Str->Option Value}{base:Heap}{k:Nat}{f:Addr}{x qual:Str}{st:Stmt}{fd:FuncData}{N ps:List Str}{sp:List V->Hp->VK->Prop}(F:Ec K x qual st f fd)(S:HI N ps<|BU st) (len:∀vs H Q,sp vs H Q->vs.length=ps.length) (Fv:∀(A1:Value)(A:Around)(outer:List Env)(s:Shared)(H:Hp)(vs:List V)(Q:VK),Dy k (A.deeper<|envOfC qual (BU st) s.heap.objs.size f A1)->sp vs H Q->
  ∃t,Ce (OE P w K mg base N qual (BU st) f A1 A outer s H) (D2 st) t/\t {nx:=λ_ H'=>Q .Au H',rt:=Q} (start N vs) H):Ly P w K mg base (k+1) f fd ps sp:=by
 obtain⟨oc,od,kV,doc,pm,an,A1,ct,F8,rfl,lk,BV⟩:=F.ex;refine⟨len,λA outer s H args us vs Q hr e0 hb r DY=>?_⟩;have KX:=e0.mod.LI.keeps λb o e=>(e0.bs b o e).1;have Sn:∀y∈ps.zip us,(BU st).names.lookup y.1=some .local\/((BU st).names.lookup y.1=some .cell/\((cellsFrom (s.heap.objs.size+1) (BU st).names []).lookup y.1).isSome=true):=(by rintro⟨n,v⟩ hy;exact(S.par n (ADa hy).1).elim .inl λq=>.inr ⟨q,ADT _ _ _<|.inl q⟩);refine codeAny_call_function (by have:=hr.dp;lia) (KX _ _ lk) rfl S.co S.gen rfl (PySem.W.codeRec_of KX BV)<|hb _ _ _ _<|wpAny_newFunctionEnv_cells S.kind Sn λenv he s1 x=>?_;subst he;refine⟨(e0.mod.nolimit.keeps λb o e=>(e0.bs b o e).1).keeps x.toInCall.keep,codeAny_func ?_⟩;obtain⟨t,ht,hq⟩:=Fv A1 A outer s H vs Q (hr.deeper _) DY;refine wpAny_mono (ht [] s1 (start N vs) H _ (nH S e0 (len _ _ _ DY) r x) hq) (λfl s' hs=>?_) λe s' z=>z.elim;cases fl with
 |ret u=>
  obtain⟨v,Ac,H',J,rv,q⟩:=hs;exact⟨v,H',J.os,J.bare,J.base,J.Af,rv,q⟩
 |next=>
  obtain⟨Ac,H',J,q⟩:=hs;exact⟨.Au,H',J.os,J.bare,J.base,J.Af,rfl,q⟩
 |brk=>obtain⟨_,_,_,q⟩:=hs;exact q.elim
 |cont=>obtain⟨_,_,_,q⟩:=hs;exact q.elim
section
variable{X:Cx}{k:Nat}{f:Addr}{fd:FuncData}{ps:List Str}{sp:List V->Hp->VK->Prop}{x:Str}{p pos:Pos}{e:Expr}{es:List Expr}{t:TA}
def xR(sp:List V->Hp->VK->Prop)(t:TA):TE:=λσ H Q=>t σ H λvs H1=>sp vs H1 Q
theorem q8(F:Ly X.prog X.w X.K X.mg X.base k f fd ps sp)(hr:Dy k X.A)(hg:Gl X x)(hm:X.mg x=some (.ref f))(hk:PySem.W.keepIn X.K (.ref f)=true)(hb:Binds X.K fd ps []) (ha:PA X (e::es) t) (CA:(x==("__debug__"))=false:=by decide) (he:starEach (e::es) X.env=(false,eval e X.env)::starEach es X.env:=by rfl) (A7:(backTo pos<|starEach es X.env).any (·.1)=false:=by rfl) : PE X (.Call (.Name x p) (e::es) [] pos)<|xR sp t:=by
 intro AE s σ H Q I h;refine wpAny_Call_Name_kw<|LJ I hg hm ?_ CA;refine PySem.W.callWith_K I.ok.mod.LI hk (Aj (ha pos AE s σ H _ I h) λus s1 ⟨vs,H1,I1,r,q⟩=>⟨I1.BC,?_⟩) he A7;have hl:us.length=ps.length:=by rw[<-r.length];exact F.len _ _ _ q
 have hB:=hb s1 us I1.BC (by simpa using hl);rw[ABs]at hB;refine wpAny_call<|codeAny_mono (F.run X.A X.stack s1 H1 ⟨us,[]⟩ us vs Q hr I1.R3 hB r q) λr s' hq=>?_;cases r with
 |error e=>exact hq.elim
 |ok fl=>
  cases fl with
  |ret u=>exact I1.after hq
  |next=>exact hq.elim
  |brk=>exact hq.elim
  |cont=>exact hq.elim
end
end L2
set_option genInjectivity false
set_option genSizeOf false
namespace L2.PL
set_option tactic.hygienic true
open PySem PySem.Spec PyProof.Rows
inductive PV where
 |Au|bl (b:Bool)|int (i:Int)|str (x:Str)|tup (xs:List PV)|lst (xs:List PV)
 |rd (xs:List PV)
 |Co (ks:List<|List Int) (xs:List PV)
inductive RV where
 |cl (p:PV)|bo (ps:List PV)|fr (ps:List PV)
 |bd (ks:List<|List Int) (xs:List PV)|fd (ks:List<|List Int) (xs:List PV)
 |tf (p:PV) (ps:List PV)
inductive SV where
 |im (p:PV)|own (ps:List PV)
 |Dg (t:Option Addr) (ks:List<|List Int) (xs:List PV)
 |KG (AR:List<|Int×Int)
 |exc (nm:Str)
abbrev AX:=List<|Option SV
noncomputable def Cj(k:List Int):List Key:=k.map Sum.inl
mutual
def Rep(K:W.Frag)(H:Hp):PV->V->Prop
 |.Au,v=>v=.Au
 |.bl b,v=>v=.bl b
 |.int i,v=>v=.int i
 |.str x,v=>v=.str x
 |.tup xs,v=>∃a vs,v=.ref a/\Bs K H a vs/\Ab K H xs vs
 |.lst xs,v=>∃a vs,v=.ref a/\Rd H a (.lst vs)/\Ab K H xs vs
 |.rd xs,v=>∃a vs,v=.ref a/\CS K H a vs/\Ab K H xs vs
 |.Co ks xs,v=>∃a AR,v=.ref a/\Rd H a (.dT AR)/\AR.map (·.1)=ks.map Cj/\Ab K H xs (AR.map (·.2))
def Ab(K:W.Frag)(H:Hp):List PV->List V->Prop
 |[],vs=>vs=[]
 |x::xs,vs=>∃v r,vs=v::r/\Rep K H x v/\Ab K H xs r
end
theorem Rd.same{H H':Hp}{a:Addr}{o:HO}(s:Ak H H')(h:Rd H a o):Rd H' a o:=by
 rcases h with h|⟨ob,h⟩
 .exact .inl<|s _ _ h
 .exact .inr ⟨ob,s _ _ h⟩
theorem Bs.same{K:W.Frag}{H H':Hp}{a:Addr}{xs:List V}(s:Ak H H')(h:Bs K H a xs):Bs K H' a xs:=by
 rcases h with h|h
 .exact .inl<|Rd.same s h
 .exact .inr h
mutual
theorem Rep.same{K:W.Frag}{H H':Hp}(s:Ak H H'):∀{p:PV}{v:V},Rep K H p v->Rep K H' p v
 |.Au,_,h=>h
 |.bl _,_,h=>h
 |.int _,_,h=>h
 |.str _,_,h=>h
 |.tup _,_,h=>by unfold Rep at h ⊢;obtain⟨a,vs,e,q,r⟩:=h;exact⟨a,vs,e,Bs.same s q,Ab.same s r⟩
 |.lst _,_,h=>by unfold Rep at h ⊢;obtain⟨a,vs,e,q,r⟩:=h;exact⟨a,vs,e,Rd.same s q,Ab.same s r⟩
 |.rd _,_,h=>by unfold Rep at h ⊢;obtain⟨a,vs,e,q,r⟩:=h;exact⟨a,vs,e,Ak.seq s q,Ab.same s r⟩
 |.Co _ _,_,h=>by unfold Rep at h ⊢;obtain⟨a,vs,e,q,k,r⟩:=h;exact⟨a,vs,e,Rd.same s q,k,Ab.same s r⟩
theorem Ab.same{K:W.Frag}{H H':Hp}(s:Ak H H'):∀{ps:List PV}{vs:List V},Ab K H ps vs->Ab K H' ps vs
 |[],_,h=>h
 |_::_,_,h=>by unfold Ab at h ⊢;obtain⟨v,r,e,q,t⟩:=h;exact⟨v,r,e,Rep.same s q,Ab.same s t⟩
end
set_option tactic.hygienic false
theorem Ab.paired{K:W.Frag}{H:Hp}:∀{ps:List PV}{vs:List V},Ab K H ps vs->Paired (Rep K H) ps vs
 |[],_,h=>by subst h;exact .nil
 |_::_,_,h=>by obtain⟨v,r,e,q,t⟩:=h;subst e;exact .cons q<|Ab.paired t
theorem Ab.of{K:W.Frag}{H:Hp}:∀{ps:List PV}{vs:List V},Paired (Rep K H) ps vs->Ab K H ps vs
 |_,_,.nil=>by rfl
 |_,_,.cons q t=>by exact⟨_,_,rfl,q,Ab.of t⟩
section
variable{α β:Type}{F:α->β->Prop}
theorem KH:∀{xs:List α}{us:List β}{i:Nat}{x:α},Paired F xs us->xs[i]? = some x->∃u,us[i]? = some u/\F x u
 |_,_,_,_,.nil,e=>by simp at e
 |_,_,0,_,.cons r _,e=>by simp at e;subst e;exact⟨_,rfl,r⟩
 |_,_,i+1,x,.cons _ t,e=>by obtain⟨u,h1,h2⟩:=KH t (by simpa using e);exact⟨u,by simpa using h1,h2⟩
theorem UP:∀{xs:List α}{us:List β}{i:Nat}{u:β},Paired F xs us->us[i]? = some u->∃x,xs[i]? = some x/\F x u
 |_,_,_,_,.nil,e=>by simp at e
 |_,_,0,_,.cons r _,e=>by simp at e;subst e;exact⟨_,rfl,r⟩
 |_,_,i+1,x,.cons _ t,e=>by obtain⟨u,h1,h2⟩:=UP t (by simpa using e);exact⟨u,by simpa using h1,h2⟩
theorem LS:∀{xs ys:List α}{us ws:List β},Paired F xs us->Paired F ys ws->Paired F (xs++ys) (us++ws)
 |_,_,_,_,.nil,s=>s
 |_,_,_,_,.cons r t,s=>.cons r<|LS t s
theorem UQ:∀{xs:List α}{us:List β}(n:Nat),Paired F xs us->Paired F (xs.take n) (us.take n)
 |_,_,0,_=>.nil
 |_,_,_+1,.nil=>.nil
 |_,_,n+1,.cons r t=>.cons r<|UQ n t
theorem Z7:∀{xs:List α}{us:List β}(n:Nat),Paired F xs us->Paired F (xs.drop n) (us.drop n)
 |_,_,0,r=>r
 |_,_,_+1,.nil=>.nil
 |_,_,n+1,.cons _ t=>Z7 n t
theorem qq{xs:List α}{us:List β}(h:Paired F xs us):Paired F xs.reverse us.reverse:=by
 induction h with
 |nil=>exact .nil
 |cons r t ih=>simp only[ADS,ADS];exact LS ih<|.cons r .nil
end
inductive Mu(H:Hp)(a:Addr):Prop
 |l {xs:List V} (h:H a=some (.lst xs)):Mu H a
 |d {AR:List (List Key×V)} (h:H a=some (.dT AR)):Mu H a
 |k {AR:List (Key×V)} (h:H a=some (.dK AR)):Mu H a
theorem Mu.same{H H':Hp}{a:Addr}(s:Ak H H'):Mu H a->Mu H' a
 |.l h=>.l<|s _ _ h
 |.d h=>.d<|s _ _ h
 |.k h=>.k<|s _ _ h
theorem Mu.get{H:Hp}{a:Addr}:Mu H a->∃o,H a=some o
 |.l h=>⟨_,h⟩
 |.d h=>⟨_,h⟩
 |.k h=>⟨_,h⟩
structure Ar(G H G' H':Hp):Prop where
 gg:Ak G G'
 hh:Ak H H'
 sub:Ak G' H'
 ex:∀a,Mu H a->G a=none->G' a=none
theorem Ar.refl{G H:Hp}(h:Ak G H):Ar G H G H:=⟨Ak.refl _,Ak.refl _,h,λ_ _ n=>n⟩
theorem Ar.trans{G H G1 H1 G2 H2:Hp}(a:Ar G H G1 H1)(b:Ar G1 H1 G2 H2):Ar G H G2 H2:=
 ⟨a.gg.trans b.gg,a.hh.trans b.hh,b.sub,λc h n=>b.ex c (h.same a.hh)<|a.ex c h n⟩
noncomputable def DX(G' H H':Hp):Hp:=λa=>match G' a with|some o=>some o|none=>match H a with|some _=>none|none=>H' a
theorem Jt{G' H H':Hp}:Ak G'<|DX G' H H':=λa o h=>by unfold DX;rw[h]
theorem SS{G' H H':Hp}{a:Addr}{o:HO}(s:Ak G' H')(h:H a=none)(h':H' a=some o):DX G' H H' a=some o:=by
 unfold DX;cases e:G' a with
 |some o'=>rw[s _ _ e]at h';exact h'
 |none=>rw[h];exact h'
theorem Ar.all{G H G' H':Hp}(s:Ar G H G' H'):Ar G H (DX G' H H') H':=by
 refine⟨s.gg.trans Jt,s.hh,λa o h=>?_,λa h n=>?_⟩
 .unfold DX at h;cases e:G' a with
  |some o'=>rw[e]at h;cases h;exact s.sub _ _ e
  |none=>
   rw[e]at h;cases e2:H a with
   |some _=>rw[e2]at h;contradiction
   |none=>rw[e2]at h;exact h
 .unfold DX;obtain⟨o,ho⟩:=h.get;rw[s.ex a h n,ho]
theorem Ar.new{G H:Hp}(s:Ak G H){a:Addr}(o:HO)(h:H a=none):Ar G H (upd G a o)<|upd H a o:=by
 have g:=s.free h;refine⟨λb u q=>by rw[BH<|Df q g];exact q,λb u q=>by rw[BH<|Df q h];exact q,λb u q=>?_,λb q n=>?_⟩
 .by_cases e:b=a
  .subst e;rw[Cu]at q ⊢;exact q
  .rw[BH e]at q ⊢;exact s _ _ q
 .obtain⟨o,ho⟩:=q.get;rw[BH<|Df ho h];exact n
theorem Ar.Gx{G H:Hp}(s:Ak G H){a:Addr}(o:HO)(h:H a=none):Ar G H G<|upd H a o:=by have g:=s.free h;exact⟨Ak.refl _,λb u q=>by rw[BH<|Df q h];exact q,λb u q=>by rw[BH<|Df q g];exact s _ _ q,λ_ _ n=>n⟩
def Bt(K:W.Frag)(H G' H':Hp):RV->V->Prop
 |.cl p,v=>Rep K G' p v
 |.bo ps,v=>∃a vs,v=.ref a/\G' a=none/\H' a=some (.lst vs)/\Ab K G' ps vs
 |.fr ps,v=>∃a vs,v=.ref a/\H a=none/\G' a=none/\H' a=some (.lst vs)/\Ab K G' ps vs
 |.bd ks xs,v=>∃a AR,v=.ref a/\G' a=none/\H' a=some (.dT AR)/\AR.map (·.1)=ks.map Cj/\Ab K G' xs (AR.map (·.2))
 |.fd ks xs,v=>∃a AR,v=.ref a/\H a=none/\G' a=none/\H' a=some (.dT AR)/\AR.map (·.1)=ks.map Cj/\Ab K G' xs (AR.map (·.2))
 |.tf p ps,v=>∃a l x vs,v=.ref a/\Bs K G' a [x,.ref l]/\Rep K G' p x/\H l=none/\G' l=none/\H' l=some (.lst vs)/\Ab K G' ps vs
theorem Bt.step{K:W.Frag}{H G1 H1 G2 H2:Hp}{r:RV}{v:V}(s:Ar G1 H1 G2 H2)(h:Bt K H G1 H1 r v):Bt K H G2 H2 r v:=by
 cases r with
 |cl p=>exact Rep.same s.gg h
 |bo ps=>
  obtain⟨a,vs,e,g,q,r⟩:=h;exact⟨a,vs,e,s.ex a (.l q) g,s.hh _ _ q,Ab.same s.gg r⟩
 |fr ps=>
  obtain⟨a,vs,e,n,g,q,r⟩:=h;exact⟨a,vs,e,n,s.ex a (.l q) g,s.hh _ _ q,Ab.same s.gg r⟩
 |bd ks xs=>
  obtain⟨a,vs,e,g,q,k,r⟩:=h;exact⟨a,vs,e,s.ex a (.d q) g,s.hh _ _ q,k,Ab.same s.gg r⟩
 |fd ks xs=>
  obtain⟨a,vs,e,n,g,q,k,r⟩:=h;exact⟨a,vs,e,n,s.ex a (.d q) g,s.hh _ _ q,k,Ab.same s.gg r⟩
 |tf p ps=>
  obtain⟨a,l,x,vs,e,t,rx,n,g,q,r⟩:=h;exact⟨a,l,x,vs,e,Bs.same s.gg t,Rep.same s.gg rx,n,s.ex l (.l q) g,s.hh _ _ q,Ab.same s.gg r⟩
theorem Bt.back{K:W.Frag}{H0 H G' H':Hp}{r:RV}{v:V}(s:Ak H0 H)(h:Bt K H G' H' r v):Bt K H0 G' H' r v:=by
 cases r with
 |cl p=>exact h
 |bo ps=>exact h
 |fr ps=>
  obtain⟨a,vs,e,n,g,q,r⟩:=h;exact⟨a,vs,e,s.free n,g,q,r⟩
 |bd ks xs=>exact h
 |fd ks xs=>
  obtain⟨a,vs,e,n,g,q,r⟩:=h;exact⟨a,vs,e,s.free n,g,q,r⟩
 |tf p ps=>
  obtain⟨a,l,x,vs,e,t,rx,n,q⟩:=h;exact⟨a,l,x,vs,e,t,rx,s.free n,q⟩
noncomputable def RV.list:RV->Option (List PV)
 |.cl (.lst ps)=>some ps
 |.bo ps=>some ps
 |.fr ps=>some ps
 |_=>none
theorem Bt.list{K:W.Frag}{H G' H':Hp}{r:RV}{v:V}{ps:List PV}(sub:Ak G' H')(h:Bt K H G' H' r v)(e:r.list=some ps):∃a vs,v=.ref a/\Rd H' a (.lst vs)/\Ab K G' ps vs:=by
 cases r with
 |cl p=>
  cases p with
  |lst qs=>
   simp only[RV.list,ABT]at e;subst e;have h':=h;obtain⟨a,vs,e,q,r⟩:=h';exact⟨a,vs,e,Rd.same sub q,r⟩
  |_=>simp[RV.list]at e
 |bo qs=>
  simp only[RV.list,ABT]at e;subst e;obtain⟨a,vs,e,g,q,r⟩:=h;exact⟨a,vs,e,.inl q,r⟩
 |fr qs=>
  simp only[RV.list,ABT]at e;subst e;obtain⟨a,vs,e,n,g,q,r⟩:=h;exact⟨a,vs,e,.inl q,r⟩
 |bd ks xs=>simp[RV.list]at e
 |fd ks xs=>simp[RV.list]at e
 |tf p ps=>simp[RV.list]at e
noncomputable def RV.clean:RV->Option PV
 |.cl p=>some p
 |.fr ps=>some<|.lst ps
 |.fd ks xs=>some<|.Co ks xs
 |.tf p ps=>some<|.tup [p,.lst ps]
 |.bo _=>none
 |.bd _ _=>none
theorem Bt.clean{K:W.Frag}{H G' H':Hp}{r:RV}{v:V}{p:PV}(sub:Ak G' H')(h:Bt K H G' H' r v)(e:r.clean=some p):Rep K (DX G' H H') p v:=by
 cases r with
 |cl q=>
  simp only[RV.clean,ABT]at e;subst e;exact Rep.same Jt h
 |bo qs=>simp[RV.clean]at e
 |fr qs=>
  simp only[RV.clean,ABT]at e;subst e;obtain⟨a,vs,e,n,g,q,r⟩:=h;exact⟨a,vs,e,.inl<|SS sub n q,Ab.same Jt r⟩
 |bd ks xs=>simp[RV.clean]at e
 |fd ks xs=>
  simp only[RV.clean,ABT]at e;subst e;obtain⟨a,vs,e,n,g,q,k,r⟩:=h;exact⟨a,vs,e,.inl<|SS sub n q,k,Ab.same Jt r⟩
 |tf p ps=>
  simp only[RV.clean,ABT]at e;subst e;obtain⟨a,l,x,vs,e,t,rx,n,g,q,r⟩:=h;refine⟨a,_,e,Bs.same Jt t,?_⟩;have z:Rep K (DX G' H H') (.lst ps)<|.ref l:=by exact⟨l,vs,rfl,.inl<|SS sub n q,Ab.same Jt r⟩
  exact⟨_,_,rfl,Rep.same Jt rx,_,_,rfl,z,rfl⟩
def DI(K:W.Frag)(nm:Str)(C:Addr):Prop:=W.nsIn K mainGlobals nm=some (some<|.ref C)
theorem DI.inj{K:W.Frag}{nm:Str}{C D:Addr}(a:DI K nm C)(b:DI K nm D):C=D:=by unfold DI at a b;rw[a]at b;simpa using b
noncomputable def oB(p:Int×Int):Key×V:=(.inl p.1,.int p.2)
def Ki(K:W.Frag)(G H:Hp):SV->V->Prop
 |.exc nm,v=>∃a C,v=.ref a/\DI K nm C/\G a=some (.ext<|Ed a C)
 |.im p,v=>Rep K G p v
 |.own ps,v=>∃a vs,v=.ref a/\G a=none/\H a=some (.lst vs)/\Ab K G ps vs
 |.Dg t ks xs,v=>∃a AR,v=.ref a/\G a=none/\H a=some (.dT AR)/\AR.map (·.1)=ks.map Cj/\Ab K G xs (AR.map (·.2))/\∀b,t=some b->a=b
 |.KG AR,v=>∃a,v=.ref a/\G a=none/\H a=some (.dK<|AR.map oB)
theorem Ki.step{K:W.Frag}{G H G' H':Hp}{sv:SV}{v:V}(s:Ar G H G' H')(h:Ki K G H sv v):Ki K G' H' sv v:=by
 cases sv with
 |exc nm=>
  obtain⟨a,C,e,n,q⟩:=h;exact⟨a,C,e,n,s.gg _ _ q⟩
 |im p=>exact Rep.same s.gg h
 |own ps=>
  obtain⟨a,vs,e,g,q,r⟩:=h;exact⟨a,vs,e,s.ex a (.l q) g,s.hh _ _ q,Ab.same s.gg r⟩
 |Dg t ks xs=>
  obtain⟨a,vs,e,g,q,k,r,z⟩:=h;exact⟨a,vs,e,s.ex a (.d q) g,s.hh _ _ q,k,Ab.same s.gg r,z⟩
 |KG AR=>
  obtain⟨a,e,g,q⟩:=h;exact⟨a,e,s.ex a (.k q) g,s.hh _ _ q⟩
noncomputable def SV.ES:SV->Bool
 |.own _=>true
 |.Dg _ _ _=>true
 |.KG _=>true
 |_=>false
structure B7(K:W.Frag)(G H:Hp)(ρ:AX)(σ:St):Prop where
 sub:Ak G H
 slot:∀(i:Nat)(sv:SV),ρ[i]? = some (some sv)->∃v,σ[i]? = some (some v)/\Ki K G H sv v
 apart:∀(i j:Nat)(s t:SV)(a b:Addr),i≠j->ρ[i]? = some (some s)->s.ES=true->ρ[j]? = some (some t)->t.ES=true->σ[i]? = some (some<|.ref a)->σ[j]? = some (some<|.ref b)->a≠b
 len:ρ.length=σ.length
theorem B7.step{K:W.Frag}{G H G' H':Hp}{ρ:AX}{σ:St}(s:Ar G H G' H')(h:B7 K G H ρ σ):B7 K G' H' ρ σ:=
 ⟨s.sub,λi sv e=>let ⟨v,e1,q⟩:=h.slot i sv e;⟨v,e1,q.step s⟩,h.apart,h.len⟩
set_option tactic.hygienic true
abbrev EF:=AX->Option RV
def tX(K:W.Frag)(f:EF):TE:=λσ H Q=>∃G ρ r,B7 K G H ρ σ/\f ρ=some r/\∀v G' H',Ar G H G' H'->Bt K H G' H' r v->Q v H'
def PX(X:Cx)(e:Expr)(f:EF):Prop:=PE X e<|tX X.K f
abbrev BF:=AX->Option Bool
def FG(K:W.Frag)(f:BF):TT:=λσ H Q=>∃G ρ b,B7 K G H ρ σ/\f ρ=some b/\∀G' H',Ar G H G' H'->Q b H'
def DR(X:Cx)(e:Expr)(f:BF):Prop:=PT X e<|FG X.K f
def HN(X:Cx)(e:Expr)(f:BF):Prop:=PW X e<|FG X.K f
abbrev AF:=AX->Option (List RV)
def C1(K:W.Frag)(H G' H':Hp):List RV->List V->Prop:=Paired<|Bt K H G' H'
def QX(K:W.Frag)(f:AF):TA:=λσ H Q=>∃G ρ rs,B7 K G H ρ σ/\f ρ=some rs/\∀vs G' H',Ar G H G' H'->C1 K H G' H' rs vs->Q vs H'
def Cf(X:Cx)(es:List Expr)(f:AF):Prop:=PA X es<|QX X.K f
theorem PE.imp{X:Cx}{e:Expr}{t t':TE}(h:PE X e t)(i:∀σ H Q,t' σ H Q->t σ H Q):PE X e t':=λAE s σ H Q I q=>h AE s σ H Q I<|i σ H Q q
theorem PT.imp{X:Cx}{e:Expr}{t t':TT}(h:PT X e t)(i:∀σ H Q,t' σ H Q->t σ H Q):PT X e t':=λAE s σ H Q I q=>h AE s σ H Q I<|i σ H Q q
theorem PW.imp{X:Cx}{e:Expr}{t t':TT}(h:PW X e t)(i:∀σ H Q,t' σ H Q->t σ H Q):PW X e t':=λwh AE s σ H Q I q=>h wh AE s σ H Q I<|i σ H Q q
theorem PA.imp{X:Cx}{es:List Expr}{t t':TA}(h:PA X es t)(i:∀σ H Q,t' σ H Q->t σ H Q):PA X es t':=λpos AE s σ H Q I q=>h pos AE s σ H Q I<|i σ H Q q
theorem PS.imp{X:Cx}{st:Stmt}{t t':TS}(h:PS X st t)(i:∀D σ H,t' D σ H->t D σ H):PS X st t':=λAE s σ H D I q=>h AE s σ H D I<|i D σ H q
theorem Ce.imp{X:Cx}{st:List Stmt}{t t':TS}(h:Ce X st t)(i:∀D σ H,t' D σ H->t D σ H):Ce X st t':=λAE s σ H D I q=>h AE s σ H D I<|i D σ H q
noncomputable def AB(i:Nat):EF:=λρ=>match ρ[i]? with|some (some<|.im p)=>some (.cl p)|some (some<|.own ps)=>some (.bo ps)|some (some<|.Dg _ ks xs)=>some (.bd ks xs)|_=>none
noncomputable def fC(p:PV):EF:=λ_=>some<|.cl p
section
variable{X:Cx}{a b c e:Expr}{es:List Expr}{fa fb fc f:EF}{pos:Pos}
theorem uO(i:Nat){x:Str}{pos:Pos}(hN:X.N[i]? = some x)(hv:EE X.env.scope x)(hd:(x==("__debug__"))=false) (BV:(x==("__classdict__"))=false):PX X (.Name x pos)<|AB i:=by
 refine PE.imp (GA hN hv hd BV) λσ H Q ⟨G,ρ,r,R,e,q⟩=>?_;unfold AB at e;split at e
 .rename_i p hp;cases e;obtain⟨v,e1,q1⟩:=R.slot i _ hp;exact⟨v,e1,q v G H (Ar.refl R.sub) q1⟩
 .rename_i ps hp;cases e;obtain⟨v,e1,q1⟩:=R.slot i _ hp;exact⟨v,e1,q v G H (Ar.refl R.sub) q1⟩
 .rename_i ks xs hp;cases e;obtain⟨v,e1,a,vs,e,g,w,k,r,_⟩:=R.slot i _ hp;exact⟨v,e1,q v G H (Ar.refl R.sub) ⟨a,vs,e,g,w,k,r⟩⟩
 .contradiction
set_option tactic.hygienic false
theorem LZ{v:V}{p:PV}(h:PE X e<|tC v)(hr:∀G,Rep X.K G p v):PX X e<|fC p:=
 PE.imp h (by rintro σ H Q ⟨G,ρ,r,R,e,q⟩;cases e;exact q v G H (Ar.refl R.sub)<|hr G)
theorem tV{i:Int}{j}{pos}:PX X (.Constant (.int i) j pos)<|fC<|.int i:=LZ aI λ_=>by rfl
theorem tE{i:Bool}{j}{pos}:PX X (.Constant (.bool i) j pos)<|fC<|.bl i:=LZ qz λ_=>by rfl
theorem uK{i:Str}{j}{pos}:PX X (.Constant (.str i) j pos)<|fC<|.str i:=LZ aJ λ_=>by rfl
theorem uD{j}{pos}:PX X (.Constant .none j pos)<|fC .Au:=LZ rJ λ_=>by rfl
noncomputable def f2(k:RV->RV->Option RV)(fa fb:EF):EF:=λρ=>match fa ρ with|none=>none|some x=>match fb ρ with|none=>none|some y=>k x y
def DJ(K:W.Frag)(k:RV->RV->Option RV)(r:R2):Prop:=
 ∀(x y z:RV)(H0 G H:Hp)(vx vy:V)(Q:VK),Ak G H->Ak H0 H->k x y=some z->Bt K H0 G H x vx->Bt K H0 G H y vy->(∀v G' H',Ar G H G' H'->Bt K H0 G' H' z v->Q v H')->r vx vy H Q
theorem QW{K:W.Frag}{k:RV->RV->Option RV}{r:R2}(hk:DJ K k r){σ:St}{H:Hp}{Q:VK}(h:tX K (f2 k fa fb) σ H Q):NY r (tX K fa) (tX K fb) σ H Q:=by
 obtain⟨G,ρ,z,R,e,q⟩:=h;unfold f2 at e;cases ea:fa ρ with
 |none=>rw[ea]at e;contradiction
 |some x=>
  rw[ea]at e;cases eb:fb ρ with
  |none=>rw[eb]at e;contradiction
  |some y=>
   rw[eb]at e;refine⟨G,ρ,x,R,ea,λvx G1 H1 s1 rx=>⟨G1,ρ,y,R.step s1,eb,λvy G2 H2 s2 ry=>?_⟩⟩;exact hk x y z H G2 H2 vx vy Q s2.sub (s1.hh.trans s2.hh) e (rx.step s2) (ry.back s1.hh) λv G' H' s3 rz=>q v G' H' ((s1.trans s2).trans s3) rz
theorem NL{op:Operator}{k:RV->RV->Option RV}{r:R2}(ho:BY X (binaryOp op) r)(hk:DJ X.K k r)(ha:PX X a fa)(hb:PX X b fb):PX X (.BinOp a op b pos)<|f2 k fa fb:=
 PE.imp (rM ho ha hb) λ_ _ _ h=>QW hk h
def scalar:V->PV->Prop
 |.int i,.int j=>i=j
 |.bl i,.bl j=>i=j
 |.str i,.str j=>i=j
 |.Au,.Au=>True
 |_,_=>False
theorem scalar.rep{K:W.Frag}{G:Hp}{v:V}{p:PV}(h:scalar v p):Rep K G p v:=by cases v<;>cases p<;>simp only[scalar]at h<;>first|exact h.elim|(subst h;rfl)|(rfl)
set_option tactic.hygienic true
theorem Bt.int{K:W.Frag}{H0 G H:Hp}{i:Int}{v:V}(h:Bt K H0 G H (.cl<|.int i) v):v=.int i:=by have h':=h;exact h'
theorem Bt.bl{K:W.Frag}{H0 G H:Hp}{i:Bool}{v:V}(h:Bt K H0 G H (.cl<|.bl i) v):v=.bl i:=by have h':=h;exact h'
noncomputable def kI(C:Int->Int->Prop)[∀i j,Decidable<|C i j](g:Int->Int->PV):RV->RV->Option RV
 |.cl (.int i),.cl (.int j)=>if C i j then some (.cl<|g i j)else none
 |_,_=>none
theorem UJ{K:W.Frag}{C:Int->Int->Prop}[∀i j,Decidable<|C i j]{C':Int->Int->Prop}{g:Int->Int->PV}{g':Int->Int->V}(hC:∀i j,C i j->C' i j)(hg:∀i j,C i j->scalar (g' i j) (g i j)):DJ K (kI C g)<|rI C' g':=by
 intro x y z H0 G H vx vy Q sub _ e rx ry q;unfold kI at e;split at e
 .rename_i i j;split at e
  .rename_i hc;cases e;exact⟨i,j,rx.int,ry.int,hC i j hc,q _ G H (Ar.refl sub) (hg i j hc).rep⟩
  .contradiction
 .contradiction
theorem NG{K:W.Frag}{g:Int->Int->PV}{g':Int->Int->V}(hg:∀i j,scalar (g' i j)<|g i j):DJ K (kI (λ_ _=>True) g)<|IB g':=by
 intro x y z H0 G H vx vy Q sub _ e rx ry q;unfold kI at e;split at e
 .rename_i i j;cases e;exact⟨i,j,rx.int,ry.int,q _ G H (Ar.refl sub) (hg i j).rep⟩
 .contradiction
end
end L2.PL
namespace L2.PL
open PySem PySem.Spec PyProof.Rows
section
set_option tactic.hygienic true
variable{X:Cx}{a b c e:Expr}{es:List Expr}{fa fb fc f:EF}{pos:Pos}
instance{i j:Int}:Decidable<|Ew i j:=by unfold Ew;infer_instance
instance{i j:Int}:Decidable<|Lo i j:=by unfold Lo;infer_instance
def Ad:RV->RV->Option RV:=kI (λ_ _=>True) λi j=>.int<|i-j
def CP:RV->RV->Option RV:=kI Ew λi j=>.int<|i*j
def CB:RV->RV->Option RV:=kI Lo λi j=>.int<|i / j
def A4:RV->RV->Option RV:=kI (λ_ j=>0<j) λi j=>.int<|i%j
theorem uL(ha:PX X a fa)(hb:PX X b fb):PX X (.BinOp a .Sub b pos)<|f2 Ad fa fb:=NL qO (NG λ_ _=>rfl) ha hb
theorem t9(ha:PX X a fa)(hb:PX X b fb):PX X (.BinOp a .Mult b pos)<|f2 CP fa fb:=NL qK (UJ (λ_ _ h=>h) λ_ _ _=>rfl) ha hb
theorem tO(ha:PX X a fa)(hb:PX X b fb):PX X (.BinOp a .FloorDiv b pos)<|f2 CB fa fb:=NL qB (UJ (λ_ _ h=>h) λ_ _ _=>rfl) ha hb
theorem t8(ha:PX X a fa)(hb:PX X b fb):PX X (.BinOp a .Mod b pos)<|f2 A4 fa fb:=NL qJ (UJ (λ_ _ h=>h) λ_ _ _=>rfl) ha hb
def Ue:R2:=λx y H Q=>∃l b xs zs,x=.ref l/\y=.ref b/\Rd H l (.lst xs)/\Rd H b (.lst zs)/\xs.length+zs.length<=sizeLine/\∀p,H p=none->Q (.ref p) (upd H p<|.lst<|xs++zs)
theorem p9:BY X (binaryOp .Add) Ue:=by
 intro AE s σ H x y v u Q I rx ry h;obtain⟨l,b,xs,zs,rfl,rfl,hH,hB,hz,q⟩:=h;cases rx;cases ry;obtain⟨z,its,n,r,e⟩:=hH.ok I.Af;obtain⟨z2,PM,n2,r2,e2⟩:=hB.ok I.Af;have hl:=r.length;have K3:=r2.length;refine PySem.P.add_list e e2 ?_ (by rw[AA4,AA4];lia);have ea:its.toArray++PM.toArray=(its++PM).toArray:=AAd
 rw[ea];exact⟨.ref _,_,I.oN (r.append r2) (by rw[ABA];omega),rfl,q _ I.fresh⟩
def Mx(x y:RV):Option RV:=match x.list,y.list with
 |some xs,some ys=>if xs.length+ys.length<=1000 then some (.fr<|xs++ys)else none
 |_,_=>none
theorem small{n:Nat}(h:n<=1000):n<=sizeLine:=ACf<|bS h
theorem Ab.len{K:W.Frag}{H:Hp}{ps:List PV}{vs:List V}(h:Ab K H ps vs):ps.length=vs.length:=Paired.length h.paired
theorem pe{K:W.Frag}:DJ K Mx Ue:=by
 intro x y z H0 G H vx vy Q sub sh e rx ry q;unfold Mx at e;split at e
 .rename_i xs ys ex ey;split at e
  .cases e;obtain⟨l,vs,rfl,hl,rl⟩:=rx.list sub ex;obtain⟨b,us,rfl,hb,rb⟩:=ry.list sub ey;have e1:=rl.len;have e2:=rb.len;refine⟨l,b,vs,us,rfl,rfl,hl,hb,small U,λp hp=>?_⟩;refine q (.ref p) G _ (Ar.Gx sub _ hp) ?_;refine⟨p,vs++us,rfl,sh.free hp,sub.free hp,Cu,Ab.of<|LS rl.paired rb.paired⟩
  .contradiction
 .contradiction
def Aa(x y:RV):Option RV:=match x,y with
 |.cl (.int i),.cl (.int j)=>some<|.cl<|.int<|i+j
 |x,y=>Mx x y
theorem pd{K:W.Frag}:DJ K Aa (λx y H Q=>IB (λi j=>.int<|i+j) x y H Q\/Ue x y H Q):=by
 intro x y z H0 G H vx vy Q sub sh e rx ry q;unfold Aa at e;split at e
 .rename_i i j;exact .inl<|NG (g:=λi j=>.int<|i+j) (g':=λi j=>.int<|i+j) (λ_ _=>rfl) (.cl<|.int i) (.cl<|.int j) z H0 G H vx vy Q sub sh (by simpa[kI]using e) rx ry q
 .exact .inr<|pe _ _ z H0 G H vx vy Q sub sh e rx ry q
theorem sy(ha:PX X a fa)(hb:PX X b fb):PX X (.BinOp a .Add b pos)<|f2 Aa fa fb:=NL (p8.or p9) pd ha hb
noncomputable def Fo(fa:EF):EF:=λρ=>match fa ρ with|some (.cl<|.int i)=>some (.cl<|.int (-i))|_=>none
theorem uC(ha:PX X a fa):PX X (.UnaryOp .USub a pos)<|Fo fa:=PE.imp (aK cW ha) (by
 rintro σ H Q ⟨G,ρ,r,R,e,q⟩;unfold Fo at e;split at e
 .rename_i i ea;cases e;exact⟨G,ρ,_,R,ea,λv G' H' s rv=>⟨i,rv.int,q _ G' H' s<|by rfl⟩⟩
 .contradiction)
def Bw:RV->RV->Option RV:=kI (λ_ _=>True) λi j=>.bl<|decide (i<j)
def B8:RV->RV->Option RV:=kI (λ_ _=>True) λi j=>.bl<|decide (i<=j)
def CC:RV->RV->Option RV:=kI (λ_ _=>True) λi j=>.bl<|decide (j<i)
structure Cc(X:Cx)(op:CmpOp)(k:RV->RV->Option RV):Prop where
 ex:∃r,BY X (compareOp op) r/\DJ X.K k r
theorem gz:Cc X .Lt Bw:=⟨_,qH,NG λ_ _=>rfl⟩
theorem gy:Cc X .LtE B8:=⟨_,qG,NG λ_ _=>rfl⟩
theorem gu:Cc X .Gt CC:=⟨_,qC,NG λ_ _=>rfl⟩
theorem tK{op:CmpOp}{k:RV->RV->Option RV}(hc:Cc X op k)(ha:PX X a fa)(hb:PX X b fb)(hm:behindInMarks op b=false):PX X (.Compare a [op] [b] pos)<|f2 k fa fb:=by obtain⟨r,ho,hk⟩:=hc.ex;exact PE.imp (rB ho ha hb hm) λ_ _ _ h=>QW hk h
noncomputable def AQ(f:EF):BF:=λρ=>match f ρ with|some (.cl<|.bl b)=>some b|_=>none
theorem QZ{K:W.Frag}{σ:St}{H:Hp}{Q:Bool->Hp->Prop}(h:FG K (AQ f) σ H Q):tX K f σ H λx H'=>∃k,x=.bl k/\Q k H':=by
 obtain⟨G,ρ,r,R,e,q⟩:=h;unfold AQ at e;split at e
 .rename_i b eb;cases e;exact⟨G,ρ,_,R,eb,λv G' H' s rv=>⟨_,rv.bl,q G' H' s⟩⟩
 .contradiction
theorem vG{op:CmpOp}{k:RV->RV->Option RV}(hc:Cc X op k)(ha:PX X a fa)(hb:PX X b fb)(hm:behindInMarks op b=false):DR X (.Compare a [op] [b] pos)<|AQ<|f2 k fa fb:=by obtain⟨r,ho,hk⟩:=hc.ex;exact PT.imp (sT ho ha hb hm) λ_ _ _ h=>QW hk<|QZ h
noncomputable def EL(k k':RV->RV->Option RV)(fa fb fc:EF):EF:=λρ=>match fa ρ,fb ρ with
 |some x,some y=>match k x y with
  |some (.cl<|.bl true)=>(match fc ρ with|some z=>k' y z|none=>none)
  |some (.cl<|.bl false)=>some<|.cl<|.bl false
  |_=>none
 |_,_=>none
theorem cE{K:W.Frag}{k k':RV->RV->Option RV}{r r':R2}(hk:DJ K k r)(Bi:DJ K k' r'){σ:St}{H:Hp}{Q:VK}(h:tX K (EL k k' fa fb fc) σ H Q):VE r r' (tX K fa) (tX K fb) (tX K fc) σ H Q:=by
 obtain⟨G,ρ,z,R,e,q⟩:=h;unfold EL at e;split at e
 .rename_i x y ea eb;refine⟨G,ρ,x,R,ea,λvx G1 H1 s1 rx=>⟨G1,ρ,y,R.step s1,eb,λvy G2 H2 s2 ry=>?_⟩⟩;split at e
  .rename_i ek;cases ec:fc ρ with
   |none=>rw[ec]at e;contradiction
   |some w=>
    rw[ec]at e;refine hk x y _ H G2 H2 vx vy _ s2.sub (s1.hh.trans s2.hh) ek (rx.step s2) (ry.back s1.hh) λv G3 H3 s3 rv=>⟨true,rv.bl,?_⟩;refine⟨G3,ρ,w,(R.step s1).step<|s2.trans s3,ec,λvw G4 H4 s4 Cs=>?_⟩;exact Bi y w z H G4 H4 vy vw Q s4.sub (((s1.trans s2).trans s3).trans s4).hh e ((ry.back s1.hh).step<|s3.trans s4) (Cs.back ((s1.trans s2).trans s3).hh) λv G5 H5 s5 GG=>q v G5 H5 ((((s1.trans s2).trans s3).trans s4).trans s5) GG
  .rename_i ek;cases e;refine hk x y _ H G2 H2 vx vy _ s2.sub (s1.hh.trans s2.hh) ek (rx.step s2) (ry.back s1.hh) λv G3 H3 s3 rv=>⟨false,rv.bl,?_⟩;exact q _ G3 H3 ((s1.trans s2).trans s3)<|by rfl
  .contradiction
 .contradiction
set_option tactic.hygienic false
theorem tI{op B4:CmpOp}{k k':RV->RV->Option RV}(hc:Cc X op k)(Gg:Cc X B4 k')(ha:PX X a fa)(hb:PX X b fb)(Ek:PX X c fc)(hm:lastMarks [op,B4] [b,c]=false) : PX X (.Compare a [op,B4] [b,c] pos)<|EL k k' fa fb fc:=by obtain⟨r,ho,hk⟩:=hc.ex;obtain⟨r',B3,Bi⟩:=Gg.ex;exact PE.imp (q9 ho B3 ha hb Ek hm) λ_ _ _ h=>cE hk Bi h
theorem vD{op B4:CmpOp}{k k':RV->RV->Option RV}(hc:Cc X op k)(Gg:Cc X B4 k')(ha:PX X a fa)(hb:PX X b fb)(Ek:PX X c fc)(hm:lastMarks [op,B4] [b,c]=false) : DR X (.Compare a [op,B4] [b,c] pos)<|AQ<|EL k k' fa fb fc:=by obtain⟨r,ho,hk⟩:=hc.ex;obtain⟨r',B3,Bi⟩:=Gg.ex;exact PT.imp (sO ho B3 ha hb Ek hm) λ_ _ _ h=>cE hk Bi<|QZ h
noncomputable def CH(t u:BF):BF:=λρ=>match t ρ with|some true=>u ρ|some false=>some false|none=>none
noncomputable def Bb(t u:BF):BF:=λρ=>match t ρ with|some true=>some true|some false=>u ρ|none=>none
noncomputable def Be(t:BF):BF:=λρ=>(t ρ).map (!·)
variable{ta tb tc:BF}{BE:List Expr}
theorem yE{K:W.Frag}{σ:St}{H:Hp}{Q:Bool->Hp->Prop}(h:FG K (CH ta tb) σ H Q):bu (FG K ta) (FG K tb) σ H Q:=by
 obtain⟨G,ρ,r,R,e,q⟩:=h;unfold CH at e;split at e
 .rename_i ea;refine⟨G,ρ,true,R,ea,λG1 H1 s1=>?_⟩;exact⟨G1,ρ,r,R.step s1,e,λG2 H2 s2=>q G2 H2<|s1.trans s2⟩
 .rename_i ea;cases e;refine⟨G,ρ,false,R,ea,λG1 H1 s1=>?_⟩;exact q G1 H1 s1
 .contradiction
theorem yF{K:W.Frag}{σ:St}{H:Hp}{Q:Bool->Hp->Prop}(h:FG K (Bb ta tb) σ H Q):cA (FG K ta) (FG K tb) σ H Q:=by
 obtain⟨G,ρ,r,R,e,q⟩:=h;unfold Bb at e;split at e
 .rename_i ea;cases e;refine⟨G,ρ,true,R,ea,λG1 H1 s1=>?_⟩;exact q G1 H1 s1
 .rename_i ea;refine⟨G,ρ,false,R,ea,λG1 H1 s1=>?_⟩;exact⟨G1,ρ,r,R.step s1,e,λG2 H2 s2=>q G2 H2<|s1.trans s2⟩
 .contradiction
theorem vL(ha:DR X a ta):HN X (.BoolOp .And [a] pos) ta:=sk ha
theorem vN(ha:DR X a ta):HN X (.BoolOp .Or [a] pos) ta:=sr ha
theorem vK(ha:DR X a ta)(hb:HN X (.BoolOp .And (b::BE) pos) tb):HN X (.BoolOp .And (a::b::BE) pos)<|CH ta tb:=PW.imp (sj ha hb) λ_ _ _ h=>yE h
theorem vM(ha:DR X a ta)(hb:HN X (.BoolOp .Or (b::BE) pos) tb):HN X (.BoolOp .Or (a::b::BE) pos)<|Bb ta tb:=PW.imp (so ha hb) λ_ _ _ h=>yF h
theorem vJ(h:HN X e ta):DR X e ta:=h.pt
theorem vH(ha:DR X a ta):DR X (.UnaryOp .Not a pos)<|Be ta:=PT.imp (sW ha) (by
 rintro σ H Q ⟨G,ρ,r,R,e,q⟩;unfold Be at e;cases ea:ta ρ with
 |none=>rw[ea]at e;contradiction
 |some k=>
  rw[ea]at e;cases e;exact⟨G,ρ,k,R,ea,λG1 H1 s1=>q G1 H1 s1⟩)
theorem vI(ha:PX X a fa)(he:∀whole,isTrue a X.env whole=(do let v<-whole;standAt a.pos;holding [v] (truthy v))):DR X a<|AQ fa:=
 PT.imp (sX ha he) λ_ _ _ h=>QZ h
noncomputable def C8(f g:EF):EF:=λρ=>match f ρ with|some (.cl<|.bl true)=>g ρ|some (.cl<|.bl false)=>some (.cl<|.bl false)|_=>none
noncomputable def DN(f g:EF):EF:=λρ=>match f ρ with|some (.cl<|.bl false)=>g ρ|some (.cl<|.bl true)=>some (.cl<|.bl true)|_=>none
noncomputable def Jm(f:EF):EF:=λρ=>match f ρ with|some (.cl<|.bl b)=>some (.cl<|.bl (!b))|_=>none
theorem uG{op}(h:PX X a fa):PX X (.BoolOp op [a] pos) fa:=rL h
theorem tD(ha:PX X a fa)(hb:PX X (.BoolOp .And (b::BE) pos) fb):PX X (.BoolOp .And (a::b::BE) pos)<|C8 fa fb:=PE.imp (qy ha hb) (by
 rintro σ H Q ⟨G,ρ,r,R,e,q⟩;unfold C8 at e;split at e
 .rename_i ea;refine⟨G,ρ,_,R,ea,λv G1 H1 s1 rv=>⟨true,rv.bl,?_⟩⟩;exact⟨G1,ρ,r,R.step s1,e,λv2 G2 H2 s2 r2=>q v2 G2 H2 (s1.trans s2)<|r2.back s1.hh⟩
 .rename_i ea;cases e;refine⟨G,ρ,_,R,ea,λv G1 H1 s1 rv=>⟨false,rv.bl,?_⟩⟩;exact q _ G1 H1 s1<|by rfl
 .contradiction)
theorem uH(ha:PX X a fa)(hb:PX X (.BoolOp .Or (b::BE) pos) fb):PX X (.BoolOp .Or (a::b::BE) pos)<|DN fa fb:=PE.imp (rN ha hb) (by
 rintro σ H Q ⟨G,ρ,r,R,e,q⟩;unfold DN at e;split at e
 .rename_i ea;refine⟨G,ρ,_,R,ea,λv G1 H1 s1 rv=>⟨false,rv.bl,?_⟩⟩;exact⟨G1,ρ,r,R.step s1,e,λv2 G2 H2 s2 r2=>q v2 G2 H2 (s1.trans s2)<|r2.back s1.hh⟩
 .rename_i ea;cases e;refine⟨G,ρ,_,R,ea,λv G1 H1 s1 rv=>⟨true,rv.bl,?_⟩⟩;exact q _ G1 H1 s1<|by rfl
 .contradiction)
set_option tactic.hygienic true
theorem uE(ha:PX X a fa):PX X (.UnaryOp .Not a pos)<|Jm fa:=PE.imp (rK ha) (by
 rintro σ H Q ⟨G,ρ,r,R,e,q⟩;unfold Jm at e;split at e
 .rename_i b ea;cases e;exact⟨G,ρ,_,R,ea,λv G1 H1 s1 rv=>⟨b,rv.bl,q _ G1 H1 s1<|by rfl⟩⟩
 .contradiction)
noncomputable def Hh(t:BF)(f g:EF):EF:=λρ=>match t ρ with|some true=>f ρ|some false=>g ρ|none=>none
set_option tactic.hygienic false
theorem tT(hc:DR X c tc)(ha:PX X a fa)(hb:PX X b fb):PX X (.IfExp c a b pos)<|Hh tc fa fb:=PE.imp (rF hc ha hb) (by
 rintro σ H Q ⟨G,ρ,r,R,e,q⟩;unfold Hh at e;split at e
 .rename_i ec;refine⟨G,ρ,true,R,ec,λG1 H1 s1=>?_⟩;exact⟨G1,ρ,r,R.step s1,e,λv2 G2 H2 s2 r2=>q v2 G2 H2 (s1.trans s2)<|r2.back s1.hh⟩
 .rename_i ec;refine⟨G,ρ,false,R,ec,λG1 H1 s1=>?_⟩;exact⟨G1,ρ,r,R.step s1,e,λv2 G2 H2 s2 r2=>q v2 G2 H2 (s1.trans s2)<|r2.back s1.hh⟩
 .contradiction)
noncomputable def AH:AF:=λ_=>some []
noncomputable def AD(f:EF)(g:AF):AF:=λρ=>match f ρ,g ρ with|some x,some xs=>some (x::xs)|_,_=>none
variable{g:AF}
theorem Ud:Cf X [] AH:=PA.imp F9 (by rintro σ H Q ⟨G,ρ,r,R,e,q⟩;cases e;exact q [] G H (Ar.refl R.sub) .nil)
theorem C1.step{K:W.Frag}{H G1 H1 G2 H2:Hp}(s:Ar G1 H1 G2 H2):∀{rs:List RV}{vs:List V},C1 K H G1 H1 rs vs->C1 K H G2 H2 rs vs
 |_,_,.nil=>.nil
 |_,_,.cons r t=>.cons (r.step s)<|C1.step s t
theorem C1.back{K:W.Frag}{H0 H G' H':Hp}(s:Ak H0 H):∀{rs:List RV}{vs:List V},C1 K H G' H' rs vs->C1 K H0 G' H' rs vs
 |_,_,.nil=>.nil
 |_,_,.cons r t=>.cons (r.back s)<|C1.back s t
set_option tactic.hygienic true
theorem NM(ha:PX X e f)(hr:Cf X es g)(hs:starEach (e::es) X.env=(false,eval e X.env)::starEach es X.env:=by rfl):Cf X (e::es)<|AD f g:=PA.imp (EW ha hr hs) (by
 rintro σ H Q ⟨G,ρ,r,R,e,q⟩;unfold AD at e;split at e
 .rename_i x xs ea eb;cases e;refine⟨G,ρ,x,R,ea,λv G1 H1 s1 rv=>⟨G1,ρ,xs,R.step s1,eb,λvs G2 H2 s2 rs=>?_⟩⟩;exact q (v::vs) G2 H2 (s1.trans s2)<|.cons (rv.step s2)<|C1.back s1.hh rs
 .contradiction)
def CZ:List RV->Option (List PV)
 |[]=>some []
 |r::rs=>match r.clean,CZ rs with|some p,some ps=>some (p::ps)|_,_=>none
theorem IW{K:W.Frag}{H G' H':Hp}(sub:Ak G' H'):∀{rs:List RV}{vs:List V}{ps:List PV},C1 K H G' H' rs vs->CZ rs=some ps->Ab K (DX G' H H') ps vs
 |_,_,_,.nil,e=>by cases e;rfl
 |_,_,_,.cons r t,e=>by
  unfold CZ at e;split at e
  .rename_i p ps e1 e2;cases e;exact⟨_,_,rfl,r.clean sub e1,IW sub t e2⟩
  .contradiction
def Ao(g:AF):EF:=λρ=>match g ρ with|some rs=>(match CZ rs with|some ps=>if ps.length<=1000 then some (.cl<|.tup ps)else none|none=>none)|none=>none
def BB(g:AF):EF:=λρ=>match g ρ with|some rs=>(match CZ rs with|some ps=>if ps.length<=1000 then some (.fr ps)else none|none=>none)|none=>none
theorem uM{x1}(h:Cf X es g):PX X (.Tuple es x1 pos)<|Ao g:=PE.imp (P8 h) (by
 rintro σ H Q ⟨G,ρ,r,R,e,q⟩;unfold Ao at e;split at e
 .rename_i rs eg;split at e
  .rename_i ps ep;split at e
   .cases e;refine⟨G,ρ,rs,R,eg,λvs G1 H1 s1 rv=>?_⟩;have rl:=IW s1.sub rv ep;have hl:=rl.len;refine⟨small U,λp hp=>?_⟩;have s2:=s1.all;have s3:=Ar.new s2.sub (.tup vs) hp;refine q (.ref p) _ _ (s2.trans s3) ?_;exact⟨p,vs,rfl,.inl<|.inl Cu,Ab.same s3.gg rl⟩
   .contradiction
  .contradiction
 .contradiction)
theorem t7(h:Cf X es g):PX X (.List es pos)<|BB g:=PE.imp (rH h) (by
 rintro σ H Q ⟨G,ρ,r,R,e,q⟩;unfold BB at e;split at e
 .rename_i rs eg;split at e
  .rename_i ps ep;split at e
   .cases e;refine⟨G,ρ,rs,R,eg,λvs G1 H1 s1 rv=>?_⟩;have rl:=IW s1.sub rv ep;have hl:=rl.len;refine⟨small U,λp hp=>?_⟩;have s2:=s1.all;refine q (.ref p) _ _ (s2.trans<|Ar.Gx s2.sub (.lst vs) hp) ?_;exact⟨p,vs,rfl,s1.hh.free hp,s2.sub.free hp,Cu,rl⟩
   .contradiction
  .contradiction
 .contradiction)
end
section
variable{X:Cx}{a b c e:Expr}{es:List Expr}{fa fb fc f:EF}{g:AF}{pos:Pos}
def ao(K:W.Frag):R2:=λx y H Q=>ak K x y H Q\/aq K x y H Q
theorem nM:IP X<|ao X.K:=nN.or nO
def RV.seq:RV->Option (List PV)
 |.cl (.tup ps)=>some ps
 |.cl (.rd ps)=>some ps
 |r=>r.list
def AJ(x y:RV):Option RV:=match x.seq,y with
 |some ps,.cl (.int i)=>(CY ps i).map .cl
 |_,_=>none
theorem Ab.CY{K:W.Frag}{H:Hp}{ps:List PV}{vs:List V}{i:Int}{p:PV}(h:Ab K H ps vs)(e:CY ps i=some p):∃v,CY vs i=some v/\Rep K H p v:=by
 unfold L2.CY at e ⊢;rw[<-h.len];cases ei:Gp ps.length i with
 |none=>rw[ei]at e;contradiction
 |some j=>
  rw[ei]at e;exact KH h.paired e
theorem Bt.seq{K:W.Frag}{H G' H':Hp}{r:RV}{v:V}{ps:List PV}(sub:Ak G' H')(h:Bt K H G' H' r v)(e:r.seq=some ps):∃a vs,v=.ref a/\(CS K H' a vs\/Bs K H' a vs)/\Ab K G' ps vs:=by
 by_cases ht:∃qs,r=.cl (.tup qs)
 .obtain⟨qs,rfl⟩:=ht;simp only[RV.seq,ABT]at e;subst e;have h':=h;obtain⟨a,vs,e,q,r⟩:=h';exact⟨a,vs,e,.inr<|Bs.same sub q,r⟩
 by_cases hd:∃qs,r=.cl (.rd qs)
 .obtain⟨qs,rfl⟩:=hd;simp only[RV.seq,ABT]at e;subst e;have h':=h;obtain⟨a,vs,e,q,r⟩:=h';exact⟨a,vs,e,.inl<|Ak.seq sub q,r⟩
 .have e':r.list=some ps:=by
   cases r with
   |cl p=>cases p<;>first|exact e|exact absurd ⟨_,rfl⟩ ht|exact absurd ⟨_,rfl⟩ hd
   |bo ps=>exact e
   |fr ps=>exact e
   |bd _ _=>exact e
   |fd _ _=>exact e
   |tf _ _=>exact e
  obtain⟨a,vs,e,q,r⟩:=h.list sub e';exact⟨a,vs,e,.inl<|.inl q,r⟩
set_option tactic.hygienic true
theorem pz{K:W.Frag}:DJ K AJ<|ao K:=by
 intro x y z H0 G H vx vy Q sub sh e rx ry q;unfold AJ at e;split at e
 .rename_i ps i ex;cases ei:CY ps i with
  |none=>rw[ei]at e;contradiction
  |some p=>
   rw[ei]at e;cases e;obtain⟨a,vs,rfl,hq,rl⟩:=rx.seq sub ex;obtain⟨v,ev,rv⟩:=rl.CY ei;have Ot:=q v G H (Ar.refl sub) rv;rcases hq with hq|hq
   .exact .inl ⟨a,vs,i,v,rfl,ry.int,hq,ev,Ot⟩
   .exact .inr ⟨a,vs,i,v,rfl,ry.int,hq,ev,Ot⟩
 .contradiction
theorem tw(ha:PX X a fa)(hb:PX X b fb)(hs:Vr b):PX X (.Subscript a b pos)<|f2 AJ fa fb:=PE.imp (rG nM ha hb hs) λ_ _ _ h=>QW pz h
abbrev OF:=AX->Option (Option Int)
noncomputable def Dq:OF:=λ_=>some none
noncomputable def DU(f:EF):OF:=λρ=>match f ρ with|some (.cl<|.int i)=>some (some i)|_=>none
def yD(K:W.Frag)(f:OF):TO:=λσ H Q=>∃G ρ r,B7 K G H ρ σ/\f ρ=some r/\∀G' H',Ar G H G' H'->Q r H'
def Kf(X:Cx)(e:Option Expr)(f:OF):Prop:=PO X e<|yD X.K f
theorem PO.imp{X:Cx}{e:Option Expr}{t t':TO}(h:PO X e t)(i:∀σ H Q,t' σ H Q->t σ H Q):PO X e t':=λAE s σ H Q I q=>h AE s σ H Q I<|i σ H Q q
theorem ud:Kf X none Dq:=PO.imp ri (by rintro σ H Q ⟨G,ρ,r,R,e,q⟩;cases e;exact q G H<|Ar.refl R.sub)
theorem ue(h:PX X e f):Kf X (some e)<|DU f:=PO.imp (rk h) (by
 rintro σ H Q ⟨G,ρ,r,R,e,q⟩;unfold DU at e;split at e
 .rename_i i ei;cases e;exact⟨G,ρ,_,R,ei,λv G' H' s rv=>⟨i,rv.int,q G' H' s⟩⟩
 .contradiction)
def Kq(xs:List PV)(lo hi:Option Int):List PV:=(xs.drop<|HT.DF xs.length 0 lo).take<|HT.DF xs.length xs.length hi-HT.DF xs.length 0 lo
def DW(f:EF)(l u:OF):EF:=λρ=>match f ρ,l ρ,u ρ with
 |some x,some lo,some hi=>(match x.list with|some ps=>some (.fr<|Kq ps lo hi)|none=>none)
 |_,_,_=>none
theorem uJ{lo hi:Option Expr}{l u:OF}{p2:Pos}(he:PX X e f)(hl:Kf X lo l)(hu:Kf X hi u):PX X (.Subscript e (.Slice lo hi none p2) pos)<|DW f l u:=PE.imp (rP w5 he hl hu) (by
 rintro σ H Q ⟨G,ρ,r,R,e,q⟩;unfold DW at e;split at e
 .rename_i x oO CT ex el eu;split at e
  .rename_i ps ep;cases e;refine⟨G,ρ,x,R,ex,λv G1 H1 s1 rv=>⟨G1,ρ,oO,R.step s1,el,λG2 H2 s2=>⟨G2,ρ,CT,(R.step s1).step s2,eu,λG3 H3 s3=>?_⟩⟩⟩;obtain⟨a,vs,rfl,hq,rl⟩:=(rv.step<|s2.trans s3).list s3.sub ep;refine⟨a,vs,rfl,.inl hq,λp hp=>?_⟩;refine q (.ref p) _ _ (((s1.trans s2).trans s3).trans<|Ar.Gx s3.sub _ hp) ?_;refine⟨p,_,rfl,((s1.trans s2).trans s3).hh.free hp,s3.sub.free hp,Cu,?_⟩
   delta Kq OD
   rw[rl.len];exact Ab.of<|UQ _<|Z7 _ rl.paired
  .cases e
 .cases e)
def xp(te:TE):TE:=λσ H Q=>te σ H λx H1=>∃a xs,x=.ref a/\Rd H1 a (.lst xs)/\∀p,H1 p=none->Q (.ref p) (upd H1 p<|.lst xs.reverse)
theorem rO{te:TE}{j p1 p2 p3}(he:PE X e te):PE X (.Subscript e (.Slice none none (some<|.UnaryOp .USub (.Constant (.int 1) j p1) p2) p3) pos)<|xp te:=by intro AE s σ H Q I h;refine Subscript_<|Aj (he AE s σ H _ I h) λv s1 ⟨x,H1,I1,r1,q1⟩=>?_;refine wpAny_Slice ?_;refine wpAny_pure ?_;refine wpAny_pure ?_;refine Aj (aK cW (aI) AE s1 σ H1 (λv H2=>v=.int (-1)/\H2=H1) I1 ⟨1,rfl,rfl,rfl⟩) λst s3 ⟨y,H3,I3,r3,q3⟩=>?_;obtain⟨rfl,rfl⟩:=q3;obtain⟨t,rfl⟩:=r3;obtain⟨a,xs,rfl,hq,q⟩:=q1;cases r1;have I4:Inv X AE σ H3 {s3 with heap:=s3.heap.push {cls:=.type "slice",data:=.fields #[.none,.none,.int (-1) t]}}:=I3.kept λb ob q=>Heap.get?_push_of_some _ q;obtain⟨z,its,n,r,e⟩:=hq.ok I4.Af;have hl:=r.length;have YW:Heap.IsList (s3.heap.push {cls:=.type "slice",data:=.fields #[.none,.none,.int (-1) t]}) a its.toArray:=⟨_,e,rfl,n,rfl⟩;refine tail_any YW.typeIs slot_list_getitem.lookup ?_ (by with_unfolding_all rfl);refine wpAny_getItem_list_slice YW (Heap.IsSliceOf.new ..) .none .none (.int _ _) AAd ?_ (by rw[AA4]<;>lia);rw[W.krv_pick];refine⟨.ref _,_,I4.laid (λb ob q=>Heap.get?_push_of_some _ q) (AAw _) ?_,rfl,q _<|I4.Af.fresh<|AAw _⟩;exact⟨by rw[AEL];exact z,_,0,r.reverse,Heap.get?_push_size _ rfl⟩
def Fp(f:EF):EF:=λρ=>match f ρ with|some x=>(match x.list with|some ps=>some (.fr ps.reverse)|none=>none)|none=>none
theorem uI{j p1 p2 p3}(he:PX X e f):PX X (.Subscript e (.Slice none none (some<|.UnaryOp .USub (.Constant (.int 1) j p1) p2) p3) pos)<|Fp f:=PE.imp (rO he) (by
 rintro σ H Q ⟨G,ρ,r,R,e,q⟩;unfold Fp at e;split at e
 .rename_i x ex;split at e
  .rename_i ps ep;cases e;refine⟨G,ρ,x,R,ex,λv G1 H1 s1 rv=>?_⟩;obtain⟨a,vs,rfl,hq,rl⟩:=rv.list s1.sub ep;refine⟨a,vs,rfl,hq,λp hp=>?_⟩;exact q (.ref p) _ _ (s1.trans<|Ar.Gx s1.sub _ hp) ⟨p,_,rfl,s1.hh.free hp,s1.sub.free hp,Cu,Ab.of<|qq rl.paired⟩
  .contradiction
 .contradiction)
def Le(K:W.Frag)(n:Nat)(F:List PV->Option RV):Sp:=λvs H Q _=>vs.length=n/\∃G ps r,Ak G H/\Ab K G ps vs/\F ps=some r/\∀v G' H',Ar G H G' H'->Bt K H G' H' r v->Q v H'
def AS(F:List PV->Option RV)(g:AF):EF:=λρ=>match g ρ with|some rs=>(match CZ rs with|some ps=>F ps|none=>none)|none=>none
structure Fn(X:Cx)(x:Str)(n:Nat)(F:List PV->Option RV):Prop where
 ex:∃k f fd ps,Cd X.prog X.w X.K X.mg X.base Dx k f fd ps (Le X.K n F)/\Br k X.A/\X.mg x=some (.ref f)/\W.keepIn X.K (.ref f)=true/\Binds X.K fd ps []/\ps.length=n
theorem tG{x:Str}{n:Nat}{F:List PV->Option RV}{p:Pos}(hF:Fn X x n F)(ha:Cf X (e::es) g)(hn:(e::es).length=n)(hg:Gl X x)(CA:(x==("__debug__"))=false)(he:starEach (e::es) X.env=(false,eval e X.env)::starEach es X.env)(A7:(backTo pos<|starEach es X.env).any (·.1)=false) (Hl:∀ρ rs,g ρ=some rs->rs.length=n):PX X (.Call (.Name x p) (e::es) [] pos)<|AS F g:=by
 obtain⟨k,f,fd,ps,G,hr,hm,hk,hb,mS⟩:=hF.ex;refine PE.imp (UW G hr hg hm hk hb .nil aF ha CA he A7) λσ H Q ⟨G,ρ,r,R,e,q⟩=>?_;unfold AS at e;split at e
 .rename_i rs eg;split at e
  .rename_i qs eq;refine⟨G,ρ,rs,R,eg,λvs G1 H1 s1 rv=>⟨?_,DX G1 H H1,qs,r,s1.all.sub,?_,e,λv G' H' s GG=>q v G' H' (s1.all.trans s)<|GG.back s1.hh⟩⟩
   .rw[ABs,<-Hl ρ rs eg];exact(Paired.length rv).symm
   .rw[ABs];exact IW s1.sub rv eq
  .contradiction
 .contradiction
mutual
noncomputable def PV.flat:PV->Bool
 |.tup xs=>PV.Kv xs
 |.lst _=>false
 |.rd _=>false
 |.Co _ _=>false
 |_=>true
noncomputable def PV.Kv:List PV->Bool
 |[]=>true
 |x::xs=>x.flat&&PV.Kv xs
end
def RV.flat:RV->Bool
 |.cl p=>p.flat
 |.fr ps=>PV.Kv ps
 |.fd _ xs=>PV.Kv xs
 |.tf _ _=>false
 |.bo _=>false
 |.bd _ _=>false
noncomputable def RV.any:RV->PV
 |.cl p=>p
 |.bo ps=>.lst ps
 |.fr ps=>.lst ps
 |.bd ks xs=>.Co ks xs
 |.fd ks xs=>.Co ks xs
 |.tf p ps=>.tup [p,.lst ps]
theorem Bt.any{K:W.Frag}{H G' H':Hp}{r:RV}{v:V}(sub:Ak G' H')(h:Bt K H G' H' r v):Rep K H' r.any v:=by
 cases r with
 |cl p=>exact Rep.same sub h
 |bo ps=>
  obtain⟨a,vs,e,g,q,r⟩:=h;exact⟨a,vs,e,.inl q,Ab.same sub r⟩
 |fr ps=>
  obtain⟨a,vs,e,n,g,q,r⟩:=h;exact⟨a,vs,e,.inl q,Ab.same sub r⟩
 |bd ks xs=>
  obtain⟨a,vs,e,g,q,k,r⟩:=h;exact⟨a,vs,e,.inl q,k,Ab.same sub r⟩
 |fd ks xs=>
  obtain⟨a,vs,e,n,g,q,k,r⟩:=h;exact⟨a,vs,e,.inl q,k,Ab.same sub r⟩
 |tf p ps=>
  obtain⟨a,l,x,vs,e,t,rx,n,g,q,r⟩:=h;refine⟨a,_,e,Bs.same sub t,?_⟩;have z:Rep K H' (.lst ps)<|.ref l:=by exact⟨l,vs,rfl,.inl q,Ab.same sub r⟩
  exact⟨_,_,rfl,Rep.same sub rx,_,_,rfl,z,rfl⟩
theorem C1.any{K:W.Frag}{H G' H':Hp}(sub:Ak G' H'):∀{rs:List RV}{vs:List V},C1 K H G' H' rs vs->Ab K H' (rs.map RV.any) vs
 |_,_,.nil=>by rfl
 |_,_,.cons r t=>by exact⟨_,_,rfl,r.any sub,C1.any sub t⟩
noncomputable def Gf(G1 H1 G':Hp):Hp:=λa=>match G1 a with|some o=>some o|none=>match H1 a with|some (.lst _)=>none|some (.dT _)=>none|some (.dK _)=>none|some o=>some o|none=>G' a
theorem kR{G1 H1 G' H':Hp}(sub:Ak G1 H1)(hh:Ak H1 H')(s':Ak G' H'):Ar G1 H1 (Gf G1 H1 G') H':=by
 refine⟨λa o h=>by unfold Gf;rw[h],hh,λa o h=>?_,λa h n=>by unfold Gf;rcases h with h|h|h<;>rw[n,h]⟩;unfold Gf at h;split at h
 .rename_i o' e;cases h;exact hh _ _<|sub _ _ e
 .split at h
  .cases h
  .cases h
  .cases h
  .rename_i e;cases h;exact hh _ _ e
  .exact s' _ _ h
theorem X7{G1 H1 G' H':Hp}{a:Addr}{o:HO}(sub:Ak G1 H1)(hh:Ak H1 H')(s':Ak G' H')(h:G' a=some o)(hn:∀xs,o≠.lst xs)(hd:∀AR,o≠.dT AR)(hk:∀AR,o≠.dK AR):Gf G1 H1 G' a=some o:=by
 have h':=s' _ _ h;unfold Gf;split
 .rename_i o' e;have:=hh _ _<|sub _ _ e;rw[h']at this;exact this.symm
 .split
  .rename_i xs e;have:=hh _ _ e;rw[h']at this;exact absurd (ABF this) (hn _)
  .rename_i xs e;have:=hh _ _ e;rw[h']at this;exact absurd (ABF this) (hd _)
  .rename_i xs e;have:=hh _ _ e;rw[h']at this;exact absurd (ABF this) (hk _)
  .rename_i o' _ _ _ e;have:=hh _ _ e;rw[h']at this;exact this.symm
  .exact h
mutual
theorem Rep.flat{K:W.Frag}{G1 H1 G' H':Hp}(sub:Ak G1 H1)(hh:Ak H1 H')(s':Ak G' H'):∀{p:PV}{v:V},p.flat=true->Rep K G' p v->Rep K (Gf G1 H1 G') p v
 |.Au,_,_,h=>h
 |.bl _,_,_,h=>h
 |.int _,_,_,h=>h
 |.str _,_,_,h=>h
 |.tup xs,v,f,h=>by
  unfold Rep at h ⊢;unfold PV.flat at f;obtain⟨a,vs,e,q,r⟩:=h;refine⟨a,vs,e,?_,Ab.flat sub hh s' f r⟩;rcases q with(q|⟨o,q⟩)|q
  .exact .inl<|.inl<|X7 sub hh s' q (λ_ z=>nomatch z) (λ_ z=>nomatch z) λ_ z=>nomatch z
  .exact .inl<|.inr ⟨o,X7 sub hh s' q (λ_ z=>nomatch z) (λ_ z=>nomatch z) λ_ z=>nomatch z⟩
  .exact .inr q
 |.lst _,_,f,_=>by unfold PV.flat at f;cases f
 |.rd _,_,f,_=>by unfold PV.flat at f;cases f
 |.Co _ _,_,f,_=>by unfold PV.flat at f;cases f
theorem Ab.flat{K:W.Frag}{G1 H1 G' H':Hp}(sub:Ak G1 H1)(hh:Ak H1 H')(s':Ak G' H'):∀{ps:List PV}{vs:List V},PV.Kv ps=true->Ab K G' ps vs->Ab K (Gf G1 H1 G') ps vs
 |[],_,_,h=>h
 |p::ps,_,f,h=>by unfold Ab at h ⊢;unfold PV.Kv at f;rw[AAk]at f;obtain⟨v,r,e,q,t⟩:=h;exact⟨v,r,e,Rep.flat sub hh s' f.1 q,Ab.flat sub hh s' f.2 t⟩
end
def Ih(F:List PV->Option RV)(g:AF):EF:=λρ=>match g ρ with|some rs=>F (rs.map RV.any)|none=>none
set_option tactic.hygienic false
theorem tH{x:Str}{n:Nat}{F:List PV->Option RV}{p:Pos}(hF:Fn X x n F)(Se:∀ps r,F ps=some r->r.flat=true)(ha:Cf X (e::es) g)(hn:(e::es).length=n)(hg:Gl X x)(CA:(x==("__debug__"))=false)(he:starEach (e::es) X.env=(false,eval e X.env)::starEach es X.env)(A7:(backTo pos<|starEach es X.env).any (·.1)=false) (Hl:∀ρ rs,g ρ=some rs->rs.length=n):PX X (.Call (.Name x p) (e::es) [] pos)<|Ih F g:=by
 obtain⟨k,f,fd,ps,G,hr,hm,hk,hb,mS⟩:=hF.ex;refine PE.imp (UW G hr hg hm hk hb .nil aF ha CA he A7) λσ H Q ⟨G,ρ,r,R,e,q⟩=>?_;unfold Ih at e;split at e
 .rename_i rs eg;refine⟨G,ρ,rs,R,eg,λvs G1 H1 s1 rv=>⟨?_,H1,_,r,Ak.refl _,?_,e,λv G' H' s GG=>?_⟩⟩
  .rw[ABs,<-Hl ρ rs eg];exact(Paired.length rv).symm
  .rw[ABs];exact C1.any s1.sub rv
  .have st:=kR s1.sub s.hh s.sub;refine q v _ H' (s1.trans st) ?_;have hf:=Se _ _ e;cases r with
   |cl p=>exact Rep.flat s1.sub s.hh s.sub hf GG
   |bo ps=>contradiction
   |fr ps=>
    obtain⟨a,vs,e,n,g,q,r⟩:=GG;refine⟨a,vs,e,s1.hh.free n,?_,q,Ab.flat s1.sub s.hh s.sub hf r⟩;unfold Gf;rw[s1.sub.free n,n];exact g
   |bd _ _=>contradiction
   |tf _ _=>contradiction
   |fd ks xs=>
    obtain⟨a,vs,e,n,g,q,k,r⟩:=GG;refine⟨a,vs,e,s1.hh.free n,?_,q,k,Ab.flat s1.sub s.hh s.sub hf r⟩;unfold Gf;rw[s1.sub.free n,n];exact g
 .contradiction
theorem jl(ρ:AX)(rs:List RV)(h:AH ρ=some rs):rs.length=0:=by cases h;rfl
set_option tactic.hygienic true
theorem OQ{n:Nat}(h:∀ρ rs,g ρ=some rs->rs.length=n)(ρ:AX)(rs:List RV)(e:AD f g ρ=some rs):rs.length=n+1:=by
 unfold AD at e;split at e
 .rename_i x xs _ eb;cases e;rw[AA6,h ρ xs eb]
 .contradiction
noncomputable def fB(k:List RV->Option RV)(g:AF):EF:=λρ=>match g ρ with|some rs=>k rs|none=>none
def ED(K:W.Frag)(k:List RV->Option RV)(r:List V->Hp->VK->Prop):Prop:=
 ∀(rs:List RV)(z:RV)(H0 G H:Hp)(vs:List V)(Q:VK),Ak G H->Ak H0 H->k rs=some z->C1 K H0 G H rs vs->(∀v G' H',Ar G H G' H'->Bt K H0 G' H' z v->Q v H')->r vs H Q
theorem cC{K:W.Frag}{k:List RV->Option RV}{r:List V->Hp->VK->Prop}(hk:ED K k r){σ:St}{H:Hp}{Q:VK}(h:tX K (fB k g) σ H Q):VD r (QX K g) σ H Q:=by
 obtain⟨G,ρ,z,R,e,q⟩:=h;unfold fB at e;split at e
 .rename_i rs eg;exact⟨G,ρ,rs,R,eg,λvs G1 H1 s1 rv=>hk rs z H G1 H1 vs Q s1.sub s1.hh e rv λv G' H' s rz=>q v G' H' (s1.trans s) rz⟩
 .contradiction
theorem GC{x:Str}{id:String}{k:List RV->Option RV}{r:List V->Hp->VK->Prop}{p:Pos}(hc:Cz X (.builtin id) r)(hk:ED X.K k r)(hm:X.mg x=none)(hv:bootBuiltins x=some (.builtin id))(ha:Cf X (e::es) g)(hg:Gl X x:=by rfl)(hn:x≠"__name__":=by decide)(CA:(x==("__debug__"))=false:=by decide) (he:starEach (e::es) X.env=(false,eval e X.env)::starEach es X.env:=by rfl) (A7:(backTo pos<|starEach es X.env).any (·.1)=false:=by rfl):PX X (.Call (.Name x p) (e::es) [] pos)<|fB k g:=
 PE.imp (NJ hc hg hm hv ha hn CA he A7) λ_ _ _ h=>cC hk h
theorem uN{x:Str}{T:String}{k:List RV->Option RV}{r:List V->Hp->VK->Prop}{p:Pos}(hc:Cz X (.type T) r)(hk:ED X.K k r)(hm:X.mg x=none)(hv:bootBuiltins x=some (.type T))(ha:Cf X (e::es) g)(hg:Gl X x)(hn:x≠"__name__")(CA:(x==("__debug__"))=false) (he:starEach (e::es) X.env=(false,eval e X.env)::starEach es X.env) (A7:(backTo pos<|starEach es X.env).any (·.1)=false):PX X (.Call (.Name x p) (e::es) [] pos)<|fB k g:=
 PE.imp (aH hc hg hm hv ha hn CA he A7) λ_ _ _ h=>cC hk h
set_option tactic.hygienic false
theorem C1.one{K:W.Frag}{H0 G H:Hp}{r:RV}{vs:List V}(h:C1 K H0 G H [r] vs):∃v,vs=[v]/\Bt K H0 G H r v:=by
 cases h with
 |cons r t=>cases t;exact⟨_,rfl,r⟩
theorem C1.two{K:W.Frag}{H0 G H:Hp}{r r':RV}{vs:List V}(h:C1 K H0 G H [r,r'] vs):∃v v',vs=[v,v']/\Bt K H0 G H r v/\Bt K H0 G H r' v':=by
 cases h with
 |cons r t=>
  cases t with
  |cons r' t=>cases t;exact⟨_,_,rfl,r,r'⟩
set_option tactic.hygienic true
def Av:List RV->Option RV
 |[r]=>r.seq.map λps=>.cl<|.int ps.length
 |_=>none
theorem qS:ED X.K Av (λxs H Q=>∃p ys,xs=[.ref p]/\(CS X.K H p ys\/Bs X.K H p ys)/\Q (.int ys.length) H):=by
 intro rs z H0 G H vs Q sub sh e rv q;unfold Av at e;split at e
 .rename_i r;cases es:r.seq with
  |none=>rw[es]at e;contradiction
  |some ps=>
   rw[es]at e;cases e;obtain⟨v,rfl,hv⟩:=rv.one;obtain⟨a,us,rfl,hq,rl⟩:=hv.seq sub es;refine⟨a,us,rfl,hq,q _ G H (Ar.refl sub) ?_⟩;show Rep _ _ _ _;unfold Rep;rw[rl.len]
 .contradiction
theorem tx{p:Pos}(hm:X.mg "len" = none)(ha:Cf X (e::es) g)(hg:Gl X "len")(he:starEach (e::es) X.env=(false,eval e X.env)::starEach es X.env)(A7:(backTo pos<|starEach es X.env).any (·.1)=false):PX X (.Call (.Name "len" p) (e::es) [] pos)<|fB Av g:=
 GC gO qS hm PySem.boot_len ha hg AAe AAe he A7
noncomputable def DC:List RV->Option RV
 |[.cl<|.int i]=>some (.cl (.int (if i<0 then -i else i)))
 |_=>none
noncomputable def D8:List RV->Option RV
 |[.cl<|.int i,.cl<|.int j]=>some (.cl (.int (if j>i then j else i)))
 |_=>none
noncomputable def Gu:List RV->Option RV
 |[.cl<|.int i,.cl<|.int j]=>some (.cl (.int (if j<i then j else i)))
 |_=>none
theorem qP:ED X.K DC (λxs H Q=>∃i,xs=[.int i]/\Q (.int (if i<0 then -i else i)) H):=by
 intro rs z H0 G H vs Q sub sh e rv q;unfold DC at e;split at e
 .rename_i i;cases e;obtain⟨v,rfl,hv⟩:=rv.one;exact⟨i,by rw[hv.int],q _ G H (Ar.refl sub)<|by rfl⟩
 .contradiction
theorem qU:ED X.K D8 (λxs H Q=>∃i j,xs=[.int i,.int j]/\Q (.int (if j>i then j else i)) H):=by
 intro rs z H0 G H vs Q sub sh e rv q;unfold D8 at e;split at e
 .rename_i i j;cases e;obtain⟨v,v',rfl,hv,Mp⟩:=rv.two;exact⟨i,j,by rw[hv.int,Mp.int],q _ G H (Ar.refl sub)<|by rfl⟩
 .contradiction
theorem qW:ED X.K Gu (λxs H Q=>∃i j,xs=[.int i,.int j]/\Q (.int (if j<i then j else i)) H):=by
 intro rs z H0 G H vs Q sub sh e rv q;unfold Gu at e;split at e
 .rename_i i j;cases e;obtain⟨v,v',rfl,hv,Mp⟩:=rv.two;exact⟨i,j,by rw[hv.int,Mp.int],q _ G H (Ar.refl sub)<|by rfl⟩
 .contradiction
def JD:List RV->Option RV
 |[r]=>r.seq.map .fr
 |_=>none
theorem qT:ED X.K JD (λxs H Q=>∃p ys,xs=[.ref p]/\(CS X.K H p ys\/Bs X.K H p ys)/\∀l,H l=none->Q (.ref l) (upd H l<|.lst ys)):=by
 intro rs z H0 G H vs Q sub sh e rv q;unfold JD at e;split at e
 .rename_i r;cases es:r.seq with
  |none=>rw[es]at e;contradiction
  |some ps=>
   rw[es]at e;cases e;obtain⟨v,rfl,hv⟩:=rv.one;obtain⟨a,us,rfl,hq,rl⟩:=hv.seq sub es;exact⟨a,us,rfl,hq,λl hl=>q _ _ _ (Ar.Gx sub _ hl) ⟨l,us,rfl,sh.free hl,sub.free hl,Cu,rl⟩⟩
 .contradiction
noncomputable def DB:List PV->Option (List Int)
 |[]=>some []
 |.int i::r=>(DB r).map (i :: ·)
 |_=>none
noncomputable def FO:List PV->Option (List Bool)
 |[]=>some []
 |.bl i::r=>(FO r).map (i :: ·)
 |_=>none
set_option tactic.hygienic false
theorem JA{K:W.Frag}{G:Hp}:∀{ps:List PV}{vs:List V}{ns:List Int},DB ps=some ns->Ab K G ps vs->vs=ns.map V.int
 |[],vs,ns,e,h=>by cases e;exact h
 |.int i::r,vs,ns,e,h=>by
  unfold DB at e;cases er:DB r with
  |none=>rw[er]at e;contradiction
  |some ms=>
   rw[er]at e;cases e;obtain⟨v,us,rfl,hv,t⟩:=h;subst hv;rw[JA er t,AAx]
 |.Au::_,_,_,e,_=>by contradiction
 |.bl _::_,_,_,e,_=>by contradiction
 |.str _::_,_,_,e,_=>by contradiction
 |.tup _::_,_,_,e,_=>by contradiction
 |.lst _::_,_,_,e,_=>by contradiction
 |.rd _::_,_,_,e,_=>by contradiction
 |.Co _ _::_,_,_,e,_=>by contradiction
theorem MG{K:W.Frag}{G:Hp}:∀{ps:List PV}{vs:List V}{ns:List Bool},FO ps=some ns->Ab K G ps vs->vs=ns.map V.bl
 |[],vs,ns,e,h=>by cases e;exact h
 |.bl i::r,vs,ns,e,h=>by
  unfold FO at e;cases er:FO r with
  |none=>rw[er]at e;contradiction
  |some ms=>
   rw[er]at e;cases e;obtain⟨v,us,rfl,hv,t⟩:=h;subst hv;rw[MG er t,AAx]
 |.Au::_,_,_,e,_=>by contradiction
 |.int _::_,_,_,e,_=>by contradiction
 |.str _::_,_,_,e,_=>by contradiction
 |.tup _::_,_,_,e,_=>by contradiction
 |.lst _::_,_,_,e,_=>by contradiction
 |.rd _::_,_,_,e,_=>by contradiction
 |.Co _ _::_,_,_,e,_=>by contradiction
theorem Ri:∀{bs:List Bool}{us:List Value},As (bs.map V.bl) us->LSm.BoolsAre us bs
 |[],us,r=>by cases r;exact .nil
 |b::bs,us,r=>by
  cases r with
  |cons r1 r2=>cases r1;exact .cons b<|Ri r2
theorem gd(hc:X.calm=true):Cz X (.builtin "sum") (λxs H Q=>∃(p:Addr)(ns:List Int),xs=[.ref p]/\Rd H p (.lst<|ns.map V.int)/\Q (.int ns.sum) H):=by
 intro AE s σ H xs us Q I r h;obtain⟨p,ns,rfl,hq,q⟩:=h;obtain⟨u,rfl,rx⟩:=vals1 r;cases rx;obtain⟨z,its,n,rv,e⟩:=hq.ok I.Af;have hi:=intsAre_of rv;obtain⟨xs,hx⟩:=hi.allInts.items;have hl:s.heap.IsList p its.toArray:=⟨_,e,rfl,n,rfl⟩;have Gm:=hx ▸ hl;refine sum_intListG (I.ok.hd hc) Gm λh' tk t' hk=>?_;have e1:ns=xs.toList.map (·.1):=by rw[<-nums_intItems,<-hx];exact(show numsOf its.toArray.toList=ns from hi.numsOf).symm
 have e2:preSum (numAt xs) xs.size=ns.sum:=by rw[preSum_eq,ADU AAd,e1]
 rw[e2];exact⟨.int ns.sum,H,I.kept hk,⟨_,rfl⟩,q⟩
theorem gH(hc:X.calm=true):Cz X (.builtin "all") (λxs H Q=>∃(p:Addr)(bs:List Bool),xs=[.ref p]/\Rd H p (.lst<|bs.map V.bl)/\Q (.bl<|bs.all id) H):=by
 intro AE s σ H xs us Q I r h;obtain⟨p,bs,rfl,hq,q⟩:=h;obtain⟨u,rfl,rx⟩:=vals1 r;cases rx;obtain⟨z,its,n,rv,e⟩:=hq.ok I.Af;have hb:=Ri rv;have hl:s.heap.IsList p its.toArray:=⟨_,e,rfl,n,rfl⟩;have BM:=Heap.lt_size e;refine call_all_walk<|wpAny_pyIter_list hl ?_;refine⟨s.heap.objs.size,[s.heap.objs.size,p],[s.heap.objs.size],its.toArray.size,_,_,λi=>(bs[i]?).getD true,rfl,Walks.list (A:=X.A.in1) (I.ok.hd hc) _ p (AA0 BM) its.toArray,
  ⟨⟨_,Heap.get?_push_size _ rfl,rfl,rfl⟩,hl.push _⟩,λi v s' Q' E' hP hQ=>?_,λh' tk hk=>?_⟩
 .obtain⟨b,e,rfl⟩:=hb.get i v (by simpa using hP);simp only[e]at hQ;exact wpAny_truthy_bool hQ
 .have e:((List.range its.toArray.size).all λi=>(bs[i]?).getD true)=bs.all id:=by rw[AA4,hb.length];exact LSm.range_all bs
  rw[e];exact⟨.bl<|bs.all id,H,I.kept<|LSm.kept_iter hk,rfl,q⟩
theorem gI(hc:X.calm=true):Cz X (.builtin "any") (λxs H Q=>∃(p:Addr)(bs:List Bool),xs=[.ref p]/\Rd H p (.lst<|bs.map V.bl)/\Q (.bl<|bs.any id) H):=by
 intro AE s σ H xs us Q I r h;obtain⟨p,bs,rfl,hq,q⟩:=h;obtain⟨u,rfl,rx⟩:=vals1 r;cases rx;obtain⟨z,its,n,rv,e⟩:=hq.ok I.Af;have hb:=Ri rv;have hl:s.heap.IsList p its.toArray:=⟨_,e,rfl,n,rfl⟩;have BM:=Heap.lt_size e;refine call_any_walk<|wpAny_pyIter_list hl ?_;refine⟨s.heap.objs.size,[s.heap.objs.size,p],[s.heap.objs.size],its.toArray.size,_,_,λi=>(bs[i]?).getD false,rfl,Walks.list (A:=X.A.in1) (I.ok.hd hc) _ p (AA0 BM) its.toArray,
  ⟨⟨_,Heap.get?_push_size _ rfl,rfl,rfl⟩,hl.push _⟩,λi v s' Q' E' hP hQ=>?_,λh' tk hk=>?_⟩
 .obtain⟨b,e,rfl⟩:=hb.get i v (by simpa using hP);simp only[e]at hQ;exact wpAny_truthy_bool hQ
 .have e:((List.range its.toArray.size).any λi=>(bs[i]?).getD false)=bs.any id:=by rw[AA4,hb.length];exact LSm.range_any bs
  rw[e];exact⟨.bl<|bs.any id,H,I.kept<|LSm.kept_iter hk,rfl,q⟩
set_option tactic.hygienic true
def Mz:List RV->Option RV
 |[r]=>(r.list.bind DB).map λns=>.cl<|.int ns.sum
 |_=>none
def E8:List RV->Option RV
 |[r]=>(r.list.bind FO).map λns=>.cl<|.bl<|ns.all id
 |_=>none
def JC:List RV->Option RV
 |[r]=>(r.list.bind FO).map λns=>.cl<|.bl<|ns.any id
 |_=>none
theorem qZ:ED X.K Mz (λxs H Q=>∃(p:Addr)(ns:List Int),xs=[.ref p]/\Rd H p (.lst<|ns.map V.int)/\Q (.int ns.sum) H):=by
 intro rs z H0 G H vs Q sub sh e rv q;unfold Mz at e;split at e
 .rename_i r;cases es:r.list with
  |none=>rw[es]at e;contradiction
  |some ps=>
   rw[es]at e;cases ei:DB ps with
   |none=>rw[ABE,ei]at e;contradiction
   |some ns=>
    rw[ABE,ei]at e;cases e;obtain⟨v,rfl,hv⟩:=rv.one;obtain⟨a,us,rfl,hq,rl⟩:=hv.list sub es;rw[JA ei rl]at hq;exact⟨a,ns,rfl,hq,q _ G H (Ar.refl sub)<|by rfl⟩
 .contradiction
theorem qQ:ED X.K E8 (λxs H Q=>∃(p:Addr)(ns:List Bool),xs=[.ref p]/\Rd H p (.lst<|ns.map V.bl)/\Q (.bl<|ns.all id) H):=by
 intro rs z H0 G H vs Q sub sh e rv q;unfold E8 at e;split at e
 .rename_i r;cases es:r.list with
  |none=>rw[es]at e;contradiction
  |some ps=>
   rw[es]at e;cases ei:FO ps with
   |none=>rw[ABE,ei]at e;contradiction
   |some ns=>
    rw[ABE,ei]at e;cases e;obtain⟨v,rfl,hv⟩:=rv.one;obtain⟨a,us,rfl,hq,rl⟩:=hv.list sub es;rw[MG ei rl]at hq;exact⟨a,ns,rfl,hq,q _ G H (Ar.refl sub)<|by rfl⟩
 .contradiction
theorem qR:ED X.K JC (λxs H Q=>∃(p:Addr)(ns:List Bool),xs=[.ref p]/\Rd H p (.lst<|ns.map V.bl)/\Q (.bl<|ns.any id) H):=by
 intro rs z H0 G H vs Q sub sh e rv q;unfold JC at e;split at e
 .rename_i r;cases es:r.list with
  |none=>rw[es]at e;contradiction
  |some ps=>
   rw[es]at e;cases ei:FO ps with
   |none=>rw[ABE,ei]at e;contradiction
   |some ns=>
    rw[ABE,ei]at e;cases e;obtain⟨v,rfl,hv⟩:=rv.one;obtain⟨a,us,rfl,hq,rl⟩:=hv.list sub es;rw[MG ei rl]at hq;exact⟨a,ns,rfl,hq,q _ G H (Ar.refl sub)<|by rfl⟩
 .contradiction
end
end L2.PL
namespace L2.PL
open PySem PySem.Spec PyProof.Rows
def C0(ρ:AX)(σ:St)(ρ':AX)(Ac:St):Prop:=∀(i:Nat)(s:SV),s.ES=true->ρ'[i]? = some (some s)->ρ[i]? = some (some s)/\Ac[i]? = σ[i]?
theorem C0.refl(ρ:AX)(σ:St):C0 ρ σ ρ σ:=λ_ _ _ h=>⟨h,rfl⟩
theorem C0.trans{ρ A9 Ba:AX}{σ FJ DG:St}(a:C0 ρ σ A9 FJ)(b:C0 A9 FJ Ba DG):C0 ρ σ Ba DG:=λi ps o h=>by obtain⟨h1,e1⟩:=b i ps o h;obtain⟨h2,e2⟩:=a i ps o h1;exact⟨h2,e1.trans e2⟩
abbrev GF:=PV->AX->Option AX
def QY(K:W.Frag)(g:GF):TG:=λv σ H Q=>∃G ρ p ρ',B7 K G H ρ σ/\Rep K G p v/\g p ρ=some ρ'/\∀Ac,B7 K G H ρ' Ac->C0 ρ σ ρ' Ac->Q Ac H
def HM(X:Cx)(tg:Expr)(g:GF):Prop:=PG X tg<|QY X.K g
abbrev HJ:=List PV->AX->Option AX
def yC(K:W.Frag)(g:HJ):HU:=λvs σ H Q=>∃G ρ ps ρ',B7 K G H ρ σ/\Ab K G ps vs/\g ps ρ=some ρ'/\∀Ac,B7 K G H ρ' Ac->C0 ρ σ ρ' Ac->Q Ac H
def Kd(X:Cx)(ts:List Expr)(g:HJ):Prop:=GU X ts<|yC X.K g
theorem PG.imp{X:Cx}{e:Expr}{t t':TG}(h:PG X e t)(i:∀v σ H Q,t' v σ H Q->t v σ H Q):PG X e t':=λAE s σ H v u Q I r q=>h AE s σ H v u Q I r<|i v σ H Q q
theorem GU.imp{X:Cx}{e:List Expr}{t t':HU}(h:GU X e t)(i:∀v σ H Q,t' v σ H Q->t v σ H Q):GU X e t':=λAE s σ H v u Q I r q=>h AE s σ H v u Q I r<|i v σ H Q q
theorem get_set{α:Type}{l:List (Option α)}{i j:Nat}{x y:α}(h:(l.set i<|some x)[j]? = some (some y)):(j=i/\x=y)\/(j≠i/\l[j]? = some (some y)):=by
 by_cases e:j=i
 .subst e;by_cases hl:j<l.length
  .rw[ACO hl]at h;left;exact⟨rfl,by simpa using h⟩
  .rw[List.set_eq_of_length_le U]at h;rw[List.getElem?_eq_none U]at h;contradiction
 .right;rw[AA2<|ABX e]at h;exact⟨e,h⟩
theorem set_slot{α:Type}{l:List (Option α)}{i:Nat}{x:α}(h:i<l.length):(l.set i<|some x)[i]? = some (some x):=by rw[ACO h]
theorem T4{α:Type}{l:List (Option α)}{i:Nat}{x y:α}(h:(l.set i<|some x)[i]? = some (some y)):i<l.length:=by have:=(AAn.mp h).1;simpa using this
theorem B7.DP{K:W.Frag}{G H:Hp}{ρ:AX}{σ:St}{i:Nat}{p:PV}{v:V}(R:B7 K G H ρ σ)(h:Rep K G p v):B7 K G H (ρ.set i<|some<|.im p)<|σ.set i<|some v:=by
 refine⟨R.sub,λj sv e=>?_,λj k ps qs a b Ap e1 o1 e2 o2 e3 e4=>?_,by simpa using R.len⟩
 .rcases get_set e with⟨rfl,rfl⟩|⟨hj,e'⟩
  .have hl:=T4 e;exact⟨v,set_slot (by rw[<-R.len];exact hl),h⟩
  .obtain⟨w,e1,q⟩:=R.slot j sv e';exact⟨w,by rw[AA2<|ABX hj];exact e1,q⟩
 .rcases get_set e1 with⟨_,z⟩|⟨h1,e1⟩
  .subst z;contradiction
  .rcases get_set e2 with⟨_,z⟩|⟨h2,e2⟩
   .subst z;contradiction
   .rw[AA2<|ABX h1]at e3;rw[AA2<|ABX h2]at e4;exact R.apart j k ps qs a b Ap e1 o1 e2 o2 e3 e4
theorem C0.DP{ρ:AX}{σ:St}{i:Nat}{p:PV}{v:V}:C0 ρ σ (ρ.set i<|some<|.im p)<|σ.set i<|some v:=λj ps o h=>by
 rcases get_set h with⟨_,z⟩|⟨hj,e⟩
 .subst z;contradiction
 .exact⟨e,by rw[AA2<|ABX hj]⟩
noncomputable def Ae(i:Nat):GF:=λp ρ=>some<|ρ.set i<|some<|.im p
section
variable{X:Cx}{a b c e tg iter:Expr}{es:List Expr}{fa fb fc f:EF}{ga:AF}{g:GF}{gs:HJ}{pos:Pos}
theorem uP(i:Nat){x:Str}(hN:X.N.Nodup)(hi:X.N[i]? = some x)(hx:Loc X.env.scope x)(hf:X.fn x=true\/X.env.scope.names.lookup x=some .local):HM X (.Name x pos)<|Ae i:=
 PG.imp (UY hN hi hx hf) (by rintro v σ H Q ⟨G,ρ,p,ρ',R,rp,e,q⟩;cases e;exact q _ (R.DP rp) C0.DP)
noncomputable def C9:HJ:=λps ρ=>match ps with|[]=>some ρ|_=>none
noncomputable def Bc(g:GF)(h:HJ):HJ:=λps ρ=>match ps with|p::r=>(match g p ρ with|some A9=>h r A9|none=>none)|[]=>none
theorem uS:Kd X [] C9:=GU.imp aM (by
 rintro v σ H Q ⟨G,ρ,ps,ρ',R,rp,e,q⟩;unfold C9 at e;split at e
 .cases e;exact⟨rp,q σ R<|C0.refl _ _⟩
 .contradiction)
set_option tactic.hygienic true
theorem uR(h1:HM X e g)(h2:Kd X es gs)(hs:(assignEach (e::es) X.env).map (·.2)=assign e X.env::(assignEach es X.env).map (·.2)):Kd X (e::es)<|Bc g gs:=GU.imp (UZ h1 h2 hs) (by
 rintro v σ H Q ⟨G,ρ,ps,ρ',R,rp,e,q⟩;unfold Bc at e;split at e
 .rename_i p r;split at e
  .rename_i A9 e1;obtain⟨u,us,rfl,ru,rs⟩:=rp;exact⟨u,us,rfl,G,ρ,p,A9,R,ru,e1,λFJ R1 k1=>⟨G,A9,r,ρ',R1,rs,e,λDG R2 k2=>q DG R2<|k1.trans k2⟩⟩
  .contradiction
 .contradiction)
noncomputable def C3(n:Nat)(gs:HJ):GF:=λp ρ=>match p with|.tup ps=>if ps.length=n then gs ps ρ else none|_=>none
theorem uQ{k:Nat}{n:Nat}(hc:X.calm=true)(h:Kd X es gs)(hn:(assignEach es X.env).length=n)(F4:(assignEach es X.env).findIdx? (·.1)=none):HM X (.Tuple es k pos)<|C3 n gs:=
 PG.imp (aL hc h hn F4) (by
  rintro v σ H Q ⟨G,ρ,p,ρ',R,rp,e,q⟩;unfold C3 at e;split at e
  .rename_i ps;split at e
   .rename_i hl;obtain⟨a,vs,rfl,hq,rl⟩:=rp;exact⟨a,vs,rfl,Bs.same R.sub hq,by rw[<-rl.len];exact hl,G,ρ,ps,ρ',R,rl,e,q⟩
   .contradiction
  .contradiction)
structure RD(J:It)(K:W.Frag)(G Hx:Hp)(ps:List PV):Prop where
 ex:∃vs,Ab K G ps vs/\∀H,Ak Hx H->(∀(i:Nat)(x:V),vs[i]? = some x->J.go i H/\∀y H',J.Ql i H y H'->H'=H/\y=x)/\J.stop vs.length H
abbrev IF:=AX->Option (List PV)
def cD(K:W.Frag)(cl:Bool)(f:IF):TI:=λσ H R=>∃G ρ ps,B7 K G H ρ σ/\f ρ=some ps/\∀J G' H',Ar G H G' H'->RD J K G' (if cl=true then G' else H') ps->R J H'
def IQ(X:Cx)(cl:Bool)(tg iter:Expr)(f:IF):Prop:=PI X tg iter<|cD X.K cl f
theorem PI.imp{X:Cx}{tg iter:Expr}{t t':TI}(h:PI X tg iter t)(i:∀σ H Q,t' σ H Q->t σ H Q):PI X tg iter t':=λAE s σ H Q I q=>h AE s σ H Q I<|i σ H Q q
theorem Yz{K:W.Frag}{G Hx:Hp}{ps:List PV}{vs:List V}{a:Addr}(h:Ab K G ps vs)(hq:Rd Hx a<|.lst vs):RD (RE K a) K G Hx ps:=by refine⟨vs,h,λH s=>⟨λi x e=>⟨⟨vs,x,.inl<|Rd.same s hq,e⟩,λy H' ⟨e1,e2⟩=>⟨e1,?_⟩⟩,⟨vs,.inl<|Rd.same s hq,AAw _⟩⟩⟩;have:=e2 vs<|.inl<|Rd.same s hq;rw[e]at this;exact(ABF this).symm
def BG(cl:Bool)(f:EF):IF:=λρ=>match f ρ with|some r=>(if cl=true then(match r.clean with|some (.lst ps)=>some ps|_=>none)else r.list)|none=>none
theorem uW{cl:Bool}(h:PX X iter f):IQ X cl tg iter<|BG cl f:=PI.imp (rR h) (by
 rintro σ H Q ⟨G,ρ,ps,R,e,q⟩;unfold BG at e;split at e
 .rename_i r er;refine⟨G,ρ,r,R,er,λv G' H' s rv=>?_⟩;cases cl with
  |true=>
   rw[AAl rfl]at e;split at e
   .rename_i qs ec;cases e;have rc:=rv.clean s.sub ec;obtain⟨a,vs,rfl,hq,rl⟩:=rc;exact⟨a,rfl,⟨vs,.inl<|Rd.same s.all.sub hq⟩,q _ _ _ s.all<|Yz rl hq⟩
   .contradiction
  |false=>
   obtain⟨a,vs,rfl,hq,rl⟩:=rv.list s.sub e;exact⟨a,rfl,⟨vs,.inl hq⟩,q _ _ _ s<|Yz rl hq⟩
 .contradiction)
noncomputable def La(i j:Int):List PV:=(List.range (j-i).toNat).map λ(k:Nat)=>.int<|i+(k:Int)
theorem Y0{K:W.Frag}{G Hx:Hp}{i:Int}{n:Nat}:RD (L4 i n) K G Hx<|(List.range n).map λ(k:Nat)=>.int<|i+(k):=by
 refine⟨(List.range n).map λ(k:Nat)=>.int<|i+(k),?_,λH _=>⟨λk x e=>?_,by show n<=_;simp⟩⟩
 .have key:∀l:List Nat,Ab K G (l.map λk=>PV.int<|i+(k:Nat))<|l.map λk=>V.int<|i+(k:Nat):=by
   intro l
   induction l with
   |nil=>rfl
   |cons x r ih=>
    exact⟨_,_,rfl,by rfl,ih⟩
  exact key _
 .rw[ABm]at e;cases e2:(List.range n)[k]? with
  |none=>rw[e2]at e;contradiction
  |some m=>
   rw[e2]at e;obtain⟨h1,h2⟩:=AAn.mp e2;rw[ADi]at h2;subst h2;cases e;exact⟨(show k<n by simpa using h1),(by rintro y H' ⟨e1,e2⟩;exact⟨e1,e2⟩)⟩
def IH(i:Int):Prop:=-(2 ^ 62)<=i/\i<2 ^ 62
instance{i:Int}:Decidable<|IH i:=by unfold IH;infer_instance
def Bu(g:AF):IF:=λρ=>match g ρ with|some [.cl<|.int j]=>if IH j then some (La 0 j)else none|_=>none
def DV(g:AF):IF:=λρ=>match g ρ with|some [.cl<|.int i,.cl<|.int j]=>if IH i/\IH j then some (La i j)else none|_=>none
theorem uX{cl:Bool}{p:Pos}(hm:X.mg "range" = none)(ha:Cf X [a] ga)(hg:Gl X "range")(hs:starEach [a] X.env=[(false,eval a X.env)]):IQ X cl tg (.Call (.Name "range" p) [a] [] pos)<|Bu ga:=PI.imp (rS hg hm ha hs) (by
 rintro σ H Q ⟨G,ρ,ps,R,e,q⟩;unfold Bu at e;split at e
 .rename_i j er;split at e
  .rename_i hj;cases e;refine⟨G,ρ,_,R,er,λv G' H' s rv=>?_⟩;obtain⟨w,rfl,hw⟩:=rv.one;refine⟨j,by rw[hw.int],hj.1,hj.2,q _ _ _ s ?_⟩;have:=Y0 (K:=X.K) (G:=G') (Hx:=if cl=true then G' else H') (i:=0) (n:=j.toNat);simpa[La]using this
  .contradiction
 .contradiction)
theorem uY{cl:Bool}{p:Pos}(hm:X.mg "range" = none)(ha:Cf X [a,b] ga)(hg:Gl X "range")(hs:starEach [a,b] X.env=[(false,eval a X.env),(false,eval b X.env)])(O8:starEach [b] X.env=[(false,eval b X.env)]):IQ X cl tg (.Call (.Name "range" p) [a,b] [] pos)<|DV ga:=PI.imp (rT hg hm ha hs O8) (by
 rintro σ H Q ⟨G,ρ,ps,R,e,q⟩;unfold DV at e;split at e
 .rename_i i j er;split at e
  .rename_i hj;cases e;refine⟨G,ρ,_,R,er,λv G' H' s rv=>?_⟩;obtain⟨w,w',rfl,hw,mq⟩:=rv.two;refine⟨i,j,by rw[hw.int,mq.int],⟨hj.1.1,hj.1.2,hj.2.1,hj.2.2⟩,q _ _ _ s ?_⟩;exact Y0
  .contradiction
 .contradiction)
noncomputable def B2(own:Nat)(cap:List Nat)(ρ:AX):AX:=List.replicate own none++cap.map λj=>(ρ[j]?).join
def collect(g:GF)(t:BF)(fe:EF)(IG:AX):List PV->Option (List PV)
 |[]=>some []
 |x::xs=>match g x IG with
  |none=>none
  |some A9=>match t A9 with
   |none=>none
   |some false=>collect g t fe IG xs
   |some true=>match fe A9 with
    |none=>none
    |some r=>match r.clean,collect g t fe IG xs with
     |some p,some ps=>some (p::ps)
     |_,_=>none
def BI(its:IF)(own:Nat)(cap:List Nat)(g:GF)(t:BF)(fe:EF):EF:=λρ=>match its ρ with
 |none=>none
 |some xs=>if xs.length<=1000 then(collect g t fe (B2 own cap ρ) xs).map .fr else none
set_option tactic.hygienic false
theorem B7.cap{K:W.Frag}{G H:Hp}{ρ:AX}{σ:St}(R:B7 K G H ρ σ)(own:Nat)(cap:List Nat)(F2:cap.Nodup):B7 K G H (B2 own cap ρ)<|Fi own cap σ:=by
 have get:∀{i:Nat}{sv:SV},(B2 own cap ρ)[i]? = some (some sv)->∃k j,i=own+k/\cap[k]? = some j/\ρ[j]? = some (some sv):=by
  intro i sv h;unfold B2 at h;by_cases hi:i<own
  .rw[ABH (by simpa using hi),AB9]at h;split at h<;>simp at h
  .rw[ABL (by simpa using hi),ABm]at h;simp only[ACR]at h;cases hj:cap[i-own]? with
   |none=>rw[hj]at h;simp at h
   |some j=>
    rw[hj]at h;simp only[ABi,ABT]at h;refine⟨i-own,j,U,hj,?_⟩;cases hs:ρ[j]? with
    |none=>rw[hs]at h;simp at h
    |some o=>rw[hs]at h;simp at h;rw[h]
 have put:∀{k j:Nat}{v:V},cap[k]? = some j->σ[j]? = some (some v)->(Fi own cap σ)[own+k]? = some (some v):=by
  intro k j v h1 h2;unfold Fi;rw[ABL AAd,ABm];simp only[ACR,Nat.add_sub_cancel_left,h1,ABi,h2]
  rfl
 refine⟨R.sub,λi sv e=>?_,λi j ps qs a b Ap e1 o1 e2 o2 e3 e4=>?_,by simp[B2,Fi]⟩
 .obtain⟨k,j,rfl,hj,e'⟩:=get e;obtain⟨v,ev,q⟩:=R.slot j sv e';exact⟨v,put hj ev,q⟩
 .obtain⟨k1,j1,rfl,YQ,MN⟩:=get e1;obtain⟨k2,j2,rfl,YR,OK⟩:=get e2;obtain⟨v1,XW,_⟩:=R.slot j1 _ MN;obtain⟨v2,Ia,_⟩:=R.slot j2 _ OK;rw[put YQ XW]at e3;rw[put YR Ia]at e4;cases e3;cases e4;refine R.apart j1 j2 ps qs a b (λz=>Ap ?_) MN o1 OK o2 XW Ia;subst z;obtain⟨l1,q1⟩:=AAn.mp YQ;obtain⟨l2,q2⟩:=AAn.mp YR;have:=(ADY F2).mp<|q1.trans q2.symm;lia
theorem B7.NH{K:W.Frag}{G H:Hp}{ρ:AX}{σ:St}(R:B7 K G H ρ σ):∀(j:Nat)(s:SV)(b:Addr),s.ES=true->ρ[j]? = some (some s)->σ[j]? = some (some<|.ref b)->H b≠none:=λj s b o e1 e2 z=>by
 obtain⟨v,ev,q⟩:=R.slot j _ e1;rw[ev]at e2;cases e2;cases s with
 |im p=>contradiction
 |exc nm=>contradiction
 |own ps=>
  obtain⟨a,vs,h,_,ha,_⟩:=q;cases h;rw[z]at ha;contradiction
 |Dg t ks xs=>
  obtain⟨a,vs,h,_,ha,_⟩:=q;cases h;rw[z]at ha;contradiction
 |KG AR=>
  obtain⟨a,h,_,ha⟩:=q;cases h;rw[z]at ha;contradiction
theorem B7.weak{K:W.Frag}{G H:Hp}{ρ ρ':AX}{σ:St}(R:B7 K G H ρ' σ)(h:∀(k:Nat)(sv:SV),ρ[k]? = some (some sv)->ρ'[k]? = some (some sv))(hl:ρ.length=ρ'.length):B7 K G H ρ σ:=
 ⟨R.sub,λi sv e=>R.slot i sv<|h i sv e,λi j ps qs a b Ap e1 o1 e2 o2 e3 e4=>R.apart i j ps qs a b Ap (h _ _ e1) o1 (h _ _ e2) o2 e3 e4,hl.trans R.len⟩
theorem B7.VO{K:W.Frag}{G H:Hp}{ρ:AX}{σ:St}{D:Addr}{o:HO}(R:B7 K G H ρ σ)(g:G D=none)(h:∀(k:Nat)(s:SV),s.ES=true->ρ[k]? = some (some s)->σ[k]?≠some (some<|.ref D)):B7 K G (upd H D o) ρ σ:=by
 refine⟨λb u q=>by rw[BH<|Df q g];exact R.sub _ _ q,λi sv e=>?_,R.apart,R.len⟩;obtain⟨v,e1,q⟩:=R.slot i sv e;refine⟨v,e1,?_⟩;cases sv with
 |exc nm=>exact q
 |im p=>exact q
 |own ps=>
  obtain⟨a,vs,rfl,ga,ha,r⟩:=q;refine⟨a,vs,rfl,ga,?_,r⟩;rw[BH λz=>h i _ rfl e<|by rw[e1,z]];exact ha
 |Dg t ks xs=>
  obtain⟨a,vs,rfl,ga,ha,r⟩:=q;refine⟨a,vs,rfl,ga,?_,r⟩;rw[BH λz=>h i _ rfl e<|by rw[e1,z]];exact ha
 |KG AR=>
  obtain⟨a,rfl,ga,ha⟩:=q;refine⟨a,rfl,ga,?_⟩;rw[BH λz=>h i _ rfl e<|by rw[e1,z]];exact ha
theorem Ar.VO{G H G' H':Hp}{D:Addr}{o:HO}(s:Ar G H G' H')(h:H D=none)(g:G' D=none):Ar G H G'<|upd H' D o:=
 ⟨s.gg,λb u q=>by rw[BH<|Df q h];exact s.hh _ _ q,λb u q=>by rw[BH<|Df q g];exact s.sub _ _ q,s.ex⟩
def Ja(own:Nat)(g:GF):Prop:=∀p ρ ρ',g p ρ=some ρ'->ρ'.length=ρ.length/\∀(k:Nat),own<=k->ρ'[k]? = ρ[k]?
def Lz(own:Nat)(g:HJ):Prop:=∀p ρ ρ',g p ρ=some ρ'->ρ'.length=ρ.length/\∀(k:Nat),own<=k->ρ'[k]? = ρ[k]?
theorem kT{own i:Nat}(h:i<own):Ja own<|Ae i:=λp ρ ρ' e=>by cases e;exact⟨AD3,λk hk=>AA2 U⟩
theorem kX{own:Nat}:Lz own C9:=λp ρ ρ' e=>by
 unfold C9 at e;split at e
 .cases e;exact⟨rfl,λ_ _=>rfl⟩
 .contradiction
set_option tactic.hygienic true
theorem kW{own:Nat}(h1:Ja own g)(h2:Lz own gs):Lz own<|Bc g gs:=λp ρ ρ' e=>by
 unfold Bc at e;split at e
 .split at e
  .rename_i A9 e1;obtain⟨a1,a2⟩:=h1 _ _ _ e1;obtain⟨b1,b2⟩:=h2 _ _ _ e;exact⟨b1.trans a1,λk hk=>(b2 k hk).trans<|a2 k hk⟩
  .contradiction
 .contradiction
theorem kU{own n:Nat}(h:Lz own gs):Ja own<|C3 n gs:=λp ρ ρ' e=>by
 unfold C3 at e;split at e
 .split at e
  .exact h _ _ _ e
  .contradiction
 .contradiction
theorem gi{own:Nat}{cap:List Nat}{ρ:AX}{k:Nat}{sv:SV}(h:(B2 own cap ρ)[k]? = some (some sv)):own<=k:=by
 unfold B2 at h;by_cases hi:k<own
 .rw[ABH (by simpa using hi),AB9]at h;split at h<;>simp at h
 .lia
theorem cG{K:W.Frag}{own:Nat}{cap:List Nat}{its:IF}{t:BF}{fe:EF}(F2:cap.Nodup)(hk:Ja own g){σ:St}{H:Hp}{Q:VK}(h:tX K (BI its own cap g t fe) σ H Q):VG own cap (cD K false its) (QY K g) (FG K t) (tX K fe) σ H Q:=by
 obtain⟨G,ρ,r,R,e,q⟩:=h;unfold BI at e;split at e
 .contradiction
 .rename_i xs ex;split at e
  .cases ec:collect g t fe (B2 own cap ρ) xs with
   |none=>rw[ec]at e;contradiction
   |some zs=>
    rw[ec]at e;cases e;refine⟨G,ρ,xs,R,ex,λJ G1 H1 s1 J1=>λD hD=>?_⟩;obtain⟨vs,rl,hJ⟩:=J1.ex;have Bg:=rl.len;have R1:=(R.step s1).cap own cap F2;refine⟨λi m Ac H'=>m=xs.length-i/\i<=xs.length/\∃G' ys ps BE,Ar G1 H1 G' H'/\G' D=none/\H' D=some (.lst ys)/\Ab K G' ps ys/\ps.length<=i/\collect g t fe (B2 own cap ρ) (xs.drop i)=some BE/\ps++BE=zs/\
     B7 K G' H' (B2 own cap ρ) Ac/\(∀(k:Nat)(s:SV),s.ES=true->(B2 own cap ρ)[k]? = some (some s)->Ac[k]?≠some (some<|.ref D)),⟨xs.length,AAd,ACP _,G1,[],[],zs,Ar.Gx s1.sub _ hD,s1.sub.free hD,Cu,by rfl,AAw _,by exact ec,rfl,?_,?_⟩,?_⟩
    .exact R1.step<|Ar.Gx s1.sub _ hD
    .intro k s ho Bi z;exact R1.NH k s D ho Bi z hD
    .rintro i m Ac H' ⟨rfl,hi,G',ys,ps,BE,st,gD,MY,rp,A7,Gi,Oi,RO,hold⟩;obtain⟨Si,TK⟩:=hJ H' st.hh;by_cases BM:i<xs.length
     .right;have Mq:vs[i]? = some vs[i]:=AA1 AAc;obtain⟨go,yl⟩:=Si i _ Mq;have TU:=AA1 BM;have TC:Rep K G' xs[i] vs[i]:=by obtain⟨u,eu,ru⟩:=KH rl.paired TU;rw[Mq]at eu;cases eu;exact Rep.same st.gg ru
      have Mb:=ACd BM;rw[Mb]at Gi;unfold collect at Gi;split at Gi
      .contradiction
      .rename_i A9 e1;obtain⟨kl,kk⟩:=hk _ _ _ e1;have hw:∀(k:Nat)(sv:SV),(B2 own cap ρ)[k]? = some (some sv)->A9[k]? = some (some sv):=λk sv h=>by rw[kk k<|gi h];exact h
       refine⟨go,λDk Cv=>∃GR dO Eo QG,Ar G1 H1 GR Cv/\GR D=none/\Cv D=some (.lst dO)/\Ab K GR Eo dO/\Eo.length<=i+1/\collect g t fe (B2 own cap ρ) (xs.drop<|i+1)=some QG/\Eo++QG=zs/\
        B7 K GR Cv (B2 own cap ρ) Dk/\(∀(k:Nat)(s:SV),s.ES=true->(B2 own cap ρ)[k]? = some (some s)->Dk[k]?≠some (some<|.ref D)),λDk Cv hN=>⟨xs.length-(i+1),AAc,rfl,AAg,hN⟩,λy H3 hy=>?_⟩
       obtain⟨rfl,rfl⟩:=yl y H3 hy;refine⟨G',B2 own cap ρ,xs[i],A9,RO,TC,e1,λFJ L8 pW=>?_⟩;have S3:∀(k:Nat)(s:SV),s.ES=true->(B2 own cap ρ)[k]? = some (some s)->FJ[k]?≠some (some<|.ref D):=λk qs o h z=>by obtain⟨h1,h2⟩:=pW k qs o<|hw k _ h;rw[h2]at z;exact hold k qs o h z
       split at Gi
       .contradiction
       .rename_i et;refine⟨G',A9,false,L8,et,λG2 H2 s2=>?_⟩;exact⟨G2,ys,ps,BE,st.trans s2,s2.ex D (.l MY) gD,s2.hh _ _ MY,Ab.same s2.gg rp,U,Gi,Oi,(L8.step s2).weak hw kl.symm,S3⟩
       .rename_i et;refine⟨G',A9,true,L8,et,λG2 H2 s2=>?_⟩;refine Yw ?_;split at Gi
        .contradiction
        .rename_i rr er;split at Gi
         .rename_i p QG ep jN;cases Gi;refine⟨G2,A9,rr,L8.step s2,er,λv G3 H3 s3 rv=>?_⟩;have QN:=s3.all;have YA:=s2.hh _ _ MY;have kK:=s2.ex D (.l MY) gD;have SO:=QN.ex D (.l YA) kK;have hys:=rp.len.symm;refine⟨ys,s3.hh _ _ YA,ADI (U:ys.length<=1000) AAe,DX G3 H2 H3,ys ++ [v],ps ++ [p],QG,?_,SO,Cu,?_,?_,jN,?_,?_,S3⟩
          .exact((st.trans s2).trans QN).VO hD SO
          .exact Ab.of<|LS (Ab.same (s2.gg.trans QN.gg) rp).paired<|.cons (rv.clean s3.sub ep) .nil
          .simp only[ABA,ABh];lia
          .rw[List.append_assoc];exact Oi
          .exact(((L8.step s2).step QN).weak hw kl.symm).VO SO S3
         .contradiction
     .left;have Sk:i=xs.length:=U
      subst Sk;rw[ADx]at Gi;cases Gi;rw[ABs]at Oi;subst Oi;refine⟨by rw[Bg];exact TK,q _ G' H' (s1.trans st) ⟨D,ys,rfl,s1.hh.free hD,gD,MY,rp⟩⟩
  .contradiction
variable{ifs:List Expr}{elt:Expr}{scope:Scope}{Nb:List Str}{own:Nat}{cap:List Nat}{its:IF}{t:BF}{fe:EF}
def Ke(X:Cx)(ifs:List Expr)(t:BF):Prop:=GV X ifs<|FG X.K t
theorem GV.imp{X:Cx}{e:List Expr}{t t':TT}(h:GV X e t)(i:∀σ H Q,t' σ H Q->t σ H Q):GV X e t':=λAE s σ H Q I q=>h AE s σ H Q I<|i σ H Q q
noncomputable def Bl:BF:=λ_=>some true
theorem uZ:Ke X [] Bl:=GV.imp rX (by rintro σ H Q ⟨G,ρ,r,R,e,q⟩;cases e;exact q G H<|Ar.refl R.sub)
theorem uc(h:DR X c t):Ke X [c] t:=rY h
theorem tL(hc:X.calm=true)(O:GP X scope Nb own cap)(F2:cap.Nodup)(hk:Ja own g)(hi:IQ X false tg iter its)(hg:∀C s H fp AE,HM (CL X Nb scope C s H fp AE) tg g)(ht:∀C s H fp AE,Ke (CL X Nb scope C s H fp AE) ifs t)(he:∀C s H fp AE,PX (CL X Nb scope C s H fp AE) elt fe) (hs:∀x,foldedSetIterable iter X.env x=pure x):PX X (.ListComp elt [⟨tg,iter,ifs,0⟩] scope pos)<|BI its own cap g t fe:=
 PE.imp (rC (g:=QY X.K g) (ti:=FG X.K t) (te:=tX X.K fe) hc O hi hg ht he hs) λ_ _ _ h=>cG F2 hk h
end
inductive Out where
 |nx (ρ:AX)|rt (r:RV)|bk (ρ:AX)|ct (ρ:AX)
abbrev SF:=AX->Option Out
structure SR(K:W.Frag)(AW AU G H:Hp)(ρ:AX)(σ:St):Prop where
 r:B7 K G H ρ σ
 gg:Ak AW G
 hh:Ak AU H
 ex:∀a,Mu AU a->AW a=none->G a=none
 new:∀(i:Nat)(s:SV)(a:Addr),s.ES=true->ρ[i]? = some (some s)->σ[i]? = some (some<|.ref a)->AU a=none
theorem SR.step{K:W.Frag}{AW AU G H G' H':Hp}{ρ:AX}{σ:St}(s:Ar G H G' H')(h:SR K AW AU G H ρ σ):SR K AW AU G' H' ρ σ:=
 ⟨h.r.step s,h.gg.trans s.gg,h.hh.trans s.hh,λa e n=>s.ex a (e.same h.hh)<|h.ex a e n,h.new⟩
theorem SR.JO{K:W.Frag}{AW AU G H:Hp}{ρ:AX}{σ:St}(h:SR K AW AU G H ρ σ):Ar AW AU G H:=⟨h.gg,h.hh,h.r.sub,h.ex⟩
theorem SR.turn{K:W.Frag}{AW AU G H:Hp}{ρ ρ':AX}{σ Ac:St}(h:SR K AW AU G H ρ σ)(r:B7 K G H ρ' Ac)(k:C0 ρ σ ρ' Ac):SR K AW AU G H ρ' Ac:=
 ⟨r,h.gg,h.hh,h.ex,λi ps a o e1 e2=>by obtain⟨h1,h2⟩:=k i ps o e1;exact h.new i ps a o h1<|h2 ▸ e2⟩
def Jc(K:W.Frag)(AW AU G:Hp)(D:Ends):Out->Prop
 |.nx ρ'=>∀Ac G' H',Ak G G'->SR K AW AU G' H' ρ' Ac->D.nx Ac H'
 |.bk ρ'=>∀Ac G' H',Ak G G'->SR K AW AU G' H' ρ' Ac->D.bk Ac H'
 |.ct ρ'=>∀Ac G' H',Ak G G'->SR K AW AU G' H' ρ' Ac->D.ct Ac H'
 |.rt r=>∀v G' H',Ar AW AU G' H'->Bt K AU G' H' r v->D.rt v H'
theorem Jc.mono{K:W.Frag}{AW AU G G1:Hp}{D:Ends}{o:Out}(s:Ak G G1)(h:Jc K AW AU G D o):Jc K AW AU G1 D o:=by
 cases o with
 |nx ρ=>exact λAc G' H' q=>h Ac G' H'<|s.trans q
 |bk ρ=>exact λAc G' H' q=>h Ac G' H'<|s.trans q
 |ct ρ=>exact λAc G' H' q=>h Ac G' H'<|s.trans q
 |rt r=>exact h
def Lf(K:W.Frag)(AW AU:Hp)(g:SF):TS:=λD σ H=>∃G ρ o,SR K AW AU G H ρ σ/\g ρ=some o/\Jc K AW AU G D o
def Cg(X:Cx)(AW AU:Hp)(st:Stmt)(g:SF):Prop:=PS X st<|Lf X.K AW AU g
def Dm(X:Cx)(AW AU:Hp)(st:List Stmt)(g:SF):Prop:=Ce X st<|Lf X.K AW AU g
noncomputable def A0:SF:=λρ=>some<|.nx ρ
noncomputable def AN(g h:SF):SF:=λρ=>match g ρ with|some (.nx ρ')=>h ρ'|o=>o
section
variable{X:Cx}{AW AU:Hp}{a b c e tg iter:Expr}{es:List Expr}{fa fb fc f:EF}{ga:AF}{t:BF}{gt:GF}{pos:Pos}{st:Stmt}{BE body MP:List Stmt}{g h:SF}
theorem uo:Dm X AW AU [] A0:=Ce.imp sN (by rintro D σ H ⟨G,ρ,o,S,e,k⟩;cases e;exact k σ G H (Ak.refl _) S)
theorem uh(h1:Cg X AW AU st g)(h2:Dm X AW AU BE h):Dm X AW AU (st::BE)<|AN g h:=Ce.imp (af h1 h2) (by
 rintro D σ H ⟨G,ρ,o,S,e,k⟩;unfold AN at e;cases eg:g ρ with
 |none=>rw[eg]at e;contradiction
 |some o1=>
  rw[eg]at e;cases o1 with
  |nx A9=>exact⟨G,ρ,_,S,eg,λAc G' H' s S'=>⟨G',A9,o,S',e,k.mono s⟩⟩
  |rt r=>cases e;exact⟨G,ρ,_,S,eg,k⟩
  |bk r=>cases e;exact⟨G,ρ,_,S,eg,k⟩
  |ct r=>cases e;exact⟨G,ρ,_,S,eg,k⟩)
theorem uq(h1:Cg X AW AU st g):Dm X AW AU [st] g:=ah h1
noncomputable def Aq(t:BF)(g h:SF):SF:=λρ=>match t ρ with|some true=>g ρ|some false=>h ρ|none=>none
theorem uk(hc:DR X c t)(ha:Dm X AW AU body g)(hb:Dm X AW AU MP h):Cg X AW AU (.If c body MP pos)<|Aq t g h:=PS.imp (ae hc ha hb) (by
 rintro D σ H ⟨G,ρ,o,S,e,k⟩;unfold Aq at e;split at e
 .rename_i et;refine⟨G,ρ,true,S.r,et,λG1 H1 s1=>?_⟩;exact⟨G1,ρ,o,S.step s1,e,k.mono s1.gg⟩
 .rename_i et;refine⟨G,ρ,false,S.r,et,λG1 H1 s1=>?_⟩;exact⟨G1,ρ,o,S.step s1,e,k.mono s1.gg⟩
 .contradiction)
noncomputable def Od:SF:=λ_=>none
theorem um:Cg X AW AU st Od:=PS.imp sG (by rintro D σ H ⟨G,ρ,o,S,e,k⟩;contradiction)
noncomputable def Ai(f:EF):SF:=λρ=>match f ρ with|some (.cl p)=>some (.rt<|.cl p)|some (.fr ps)=>some (.rt<|.fr ps)|_=>none
theorem uv(he:PX X e f):Cg X AW AU (.Return (some e) pos)<|Ai f:=PS.imp (QD he) (by
 rintro D σ H ⟨G,ρ,o,S,e,k⟩;unfold Ai at e;split at e
 .rename_i p er;cases e;exact⟨G,ρ,_,S.r,er,λv G' H' s rv=>k v G' H' (S.JO.trans s) rv⟩
 .rename_i ps er;cases e;exact⟨G,ρ,_,S.r,er,λv G' H' s rv=>k v G' H' (S.JO.trans s)<|rv.back S.hh⟩
 .contradiction)
set_option tactic.hygienic true
noncomputable def Of(i:Nat):SF:=λρ=>match ρ[i]? with|some (some<|.own ps)=>some (.rt<|.fr ps)|_=>none
theorem uy(i:Nat){x:Str}{p:Pos}(hN:X.N[i]? = some x)(hv:EE X.env.scope x)(hd:(x==("__debug__"))=false) (BV:(x==("__classdict__"))=false):Cg X AW AU (.Return (some<|.Name x p) pos)<|Of i:=PS.imp (QD<|GA hN hv hd BV) (by
 rintro D σ H ⟨G,ρ,o,S,e,k⟩;unfold Of at e;split at e
 .rename_i ps er;cases e;obtain⟨v,ev,a,vs,rfl,ga,ha,rl⟩:=S.r.slot i _ er;exact⟨_,ev,k _ G H S.JO ⟨a,vs,rfl,S.new i _ a rfl er ev,ga,ha,rl⟩⟩
 .contradiction)
def AZ(i:Nat)(f:EF):SF:=λρ=>match f ρ with|some r=>(match r.clean with|some p=>some (.nx<|ρ.set i<|some<|.im p)|none=>none)|none=>none
theorem bw{te:TE}{i:Nat}{D:Ends}{σ:St}{H:Hp}(h:∀Q,tX X.K f σ H Q->te σ H Q)(q:Lf X.K AW AU (AZ i f) D σ H):NX te (MW i) D σ H:=by
 obtain⟨G,ρ,o,S,e,k⟩:=q;unfold AZ at e;split at e
 .rename_i r er;split at e
  .rename_i p ep;cases e;refine h _ ⟨G,ρ,r,S.r,er,λv G' H' s rv=>?_⟩;have S':=S.step s.all;exact k _ _ _ s.all.gg<|S'.turn (S'.r.DP<|rv.clean s.sub ep) C0.DP
  .contradiction
 .contradiction
theorem u3(i:Nat){x:Str}{p:Pos}(hN:X.N.Nodup)(he:PX X e f)(hi:X.N[i]? = some x)(hx:Loc X.env.scope x)(hs:swapsWith e (some<|.Name x p) pos.line X.env=pure false)(hf:X.fn x=true\/X.env.scope.names.lookup x=some .local) : Cg X AW AU (.Assign [.Name x p] e pos)<|AZ i f:=PS.imp (QE hN hi hx he hs hf) λD σ H q=>bw (λ_ z=>z) q
noncomputable def EN(i:Nat)(f:EF):SF:=λρ=>match f ρ with|some (.fr ps)=>some (.nx<|ρ.set i<|some<|.own ps)|_=>none
theorem SR.bL{K:W.Frag}{G H:Hp}{ρ:AX}{σ:St}{i:Nat}{s:SV}{a:Addr}{H1:Hp}(S:SR K AW AU G H ρ σ)(s1:Ak AU H1)(ho:∀(j:Nat)(s:SV)(b:Addr),s.ES=true->ρ[j]? = some (some s)->σ[j]? = some (some<|.ref b)->H1 b≠none) (n:H1 a=none) (ok:Ki K G H s<|.ref a):SR K AW AU G H (ρ.set i<|some s)<|σ.set i<|some<|.ref a:=by
 have R:=S.r;refine⟨⟨R.sub,λj sv e=>?_,λj k qs rs b c Ap e1 o1 e2 o2 e3 e4=>?_,by simpa using R.len⟩,S.gg,S.hh,S.ex,λj qs b o1 e1 e2=>?_⟩
 .rcases get_set e with⟨rfl,rfl⟩|⟨hj,e'⟩
  .have hl:=T4 e;exact⟨_,set_slot (by rw[<-R.len];exact hl),ok⟩
  .obtain⟨w,e1,q⟩:=R.slot j sv e';exact⟨w,by rw[AA2<|ABX hj];exact e1,q⟩
 .rcases get_set e1 with⟨h1,_⟩|⟨h1,f1⟩
  .rcases get_set e2 with⟨h2,_⟩|⟨h2,f2⟩
   .exact absurd (h1.trans h2.symm) Ap
   .subst h1;rw[AA2<|ABX h2]at e4;have hl:=by have:=(AAn.mp e3).1;simpa using this
    rw[set_slot hl]at e3;cases e3;intro z;exact ho k rs c o2 f2 e4<|z ▸ n
  .rcases get_set e2 with⟨h2,_⟩|⟨h2,f2⟩
   .subst h2;rw[AA2<|ABX h1]at e3;have hl:=by have:=(AAn.mp e4).1;simpa using this
    rw[set_slot hl]at e4;cases e4;intro z;exact ho j qs b o1 f1 e3<|z.symm ▸ n
   .rw[AA2<|ABX h1]at e3;rw[AA2<|ABX h2]at e4;exact R.apart j k qs rs b c Ap f1 o1 f2 o2 e3 e4
 .rcases get_set e1 with⟨h1,_⟩|⟨h1,f1⟩
  .subst h1;have hl:=by have:=(AAn.mp e2).1;simpa using this
   rw[set_slot hl]at e2;cases e2;exact s1.free n
  .rw[AA2<|ABX h1]at e2;exact S.new j qs b o1 f1 e2
theorem SR.Ut{K:W.Frag}{G H:Hp}{ρ:AX}{σ:St}{i:Nat}{ps:List PV}{a:Addr}{vs:List V}{H1:Hp}(S:SR K AW AU G H ρ σ)(s1:Ak AU H1)(ho:∀(j:Nat)(s:SV)(b:Addr),s.ES=true->ρ[j]? = some (some s)->σ[j]? = some (some<|.ref b)->H1 b≠none) (n:H1 a=none) (ga:G a=none) (ha:H a=some (.lst vs)) (rl:Ab K G ps vs):SR K AW AU G H (ρ.set i<|some<|.own ps)<|σ.set i<|some<|.ref a:=
 S.bL s1 ho n ⟨a,vs,rfl,ga,ha,rl⟩
theorem xO{te:TE}{i:Nat}{D:Ends}{σ:St}{H:Hp}(h:∀Q,tX X.K f σ H Q->te σ H Q)(q:Lf X.K AW AU (EN i f) D σ H):NX te (MW i) D σ H:=by
 obtain⟨G,ρ,o,S,e,k⟩:=q;unfold EN at e;split at e
 .rename_i ps er;cases e;refine h _ ⟨G,ρ,_,S.r,er,λv G' H' s rv=>?_⟩;obtain⟨a,vs,rfl,n,ga,ha,rl⟩:=rv;exact k _ _ _ s.gg<|(S.step s).Ut S.hh S.r.NH n ga ha rl
 .contradiction
theorem u6(i:Nat){x:Str}{p:Pos}(hN:X.N.Nodup)(he:PX X e f)(hi:X.N[i]? = some x)(hx:Loc X.env.scope x)(hs:swapsWith e (some<|.Name x p) pos.line X.env=pure false)(hf:X.fn x=true\/X.env.scope.names.lookup x=some .local) : Cg X AW AU (.Assign [.Name x p] e pos)<|EN i f:=PS.imp (QE hN hi hx he hs hf) λD σ H q=>xO (λ_ z=>z) q
section
variable{ifs:List Expr}{elt:Expr}{scope:Scope}{Nb:List Str}{own:Nat}{cap:List Nat}{its:IF}{fe:EF}{Ay:Pos}
theorem u4(i:Nat){x:Str}{p:Pos}(hN:X.N.Nodup)(hc:X.calm=true)(O:GP X scope Nb own cap)(F2:cap.Nodup)(hk:Ja own gt)(hi:IQ X false tg iter its)(hg:∀C s H fp AE,HM (CL X Nb scope C s H fp AE) tg gt)(ht:∀C s H fp AE,Ke (CL X Nb scope C s H fp AE) ifs t)(he:∀C s H fp AE,PX (CL X Nb scope C s H fp AE) elt fe) (CT:X.N[i]? = some x) (hx:Loc X.env.scope x) (Ho:swapsWith (.ListComp elt [⟨tg,iter,ifs,0⟩] scope Ay) (some<|.Name x p) pos.line X.env=pure true) (hs:∀x,foldedSetIterable iter X.env x=pure x) (hf:X.fn x=true\/X.env.scope.names.lookup x=some .local) : Cg X AW AU (.Assign [.Name x p] (.ListComp elt [⟨tg,iter,ifs,0⟩] scope Ay) pos)<|AZ i<|BI its own cap gt t fe:=
 PS.imp (sJ (g:=QY X.K gt) (ti:=FG X.K t) (te:=tX X.K fe) hN CT hx hc O hi hg ht he Ho hs hf) λD σ H q=>bw (λ_ z=>cG F2 hk z) q
end
theorem SR.chg{K:W.Frag}{G H:Hp}{ρ:AX}{σ:St}{i:Nat}{s s':SV}{a:Addr}{o:HO}(S:SR K AW AU G H ρ σ)(hs:s.ES=true)(er:ρ[i]? = some (some s))(es:σ[i]? = some (some<|.ref a))(ga:G a=none)(ok:Ki K G (upd H a o) s'<|.ref a) : SR K AW AU G (upd H a o) (ρ.set i<|some s') σ:=by
 have R:=S.r;have hn:=S.new i s a hs er es;refine⟨⟨λb u q=>by rw[BH<|Df q ga];exact R.sub _ _ q,λj sv e=>?_,λj k xs ys b c Ap e1 o1 e2 o2 e3 e4=>?_,by simpa using R.len⟩,S.gg,λb u q=>by rw[BH<|Df q hn];exact S.hh _ _ q,S.ex,λj xs b o1 e1 e2=>?_⟩
 .rcases get_set e with⟨rfl,rfl⟩|⟨hj,e'⟩
  .exact⟨_,es,ok⟩
  .obtain⟨w,e1,q⟩:=R.slot j sv e';refine⟨w,e1,?_⟩;cases sv with
   |exc nm=>exact q
   |im p=>exact q
   |own xs=>
    obtain⟨b,ws,rfl,gb,hb,rb⟩:=q;refine⟨b,ws,rfl,gb,?_,rb⟩;rw[BH λz=>R.apart j i _ s b a hj e' rfl er hs e1 es z];exact hb
   |Dg t ks xs=>
    obtain⟨b,ws,rfl,gb,hb,rb⟩:=q;refine⟨b,ws,rfl,gb,?_,rb⟩;rw[BH λz=>R.apart j i _ s b a hj e' rfl er hs e1 es z];exact hb
   |KG AR=>
    obtain⟨b,rfl,gb,hb⟩:=q;refine⟨b,rfl,gb,?_⟩;rw[BH λz=>R.apart j i _ s b a hj e' rfl er hs e1 es z];exact hb
 .rcases get_set e1 with⟨h1,_⟩|⟨h1,f1⟩
  .rcases get_set e2 with⟨h2,_⟩|⟨h2,f2⟩
   .exact absurd (h1.trans h2.symm) Ap
   .subst h1;exact R.apart j k s ys b c Ap er hs f2 o2 e3 e4
  .rcases get_set e2 with⟨h2,_⟩|⟨h2,f2⟩
   .subst h2;exact R.apart j k xs s b c Ap f1 o1 er hs e3 e4
   .exact R.apart j k xs ys b c Ap f1 o1 f2 o2 e3 e4
 .rcases get_set e1 with⟨h1,_⟩|⟨h1,f1⟩
  .subst h1;rw[es]at e2;cases e2;exact hn
  .exact S.new j xs b o1 f1 e2
theorem SR.change{K:W.Frag}{G H:Hp}{ρ:AX}{σ:St}{i:Nat}{ps qs:List PV}{a:Addr}{us:List V}(S:SR K AW AU G H ρ σ)(er:ρ[i]? = some (some<|.own ps))(es:σ[i]? = some (some<|.ref a))(ga:G a=none)(rl:Ab K G qs us) : SR K AW AU G (upd H a<|.lst us) (ρ.set i<|some<|.own qs) σ:=S.chg rfl er es ga ⟨a,us,rfl,ga,Cu,rl⟩
def Ci(i:Nat)(k:List PV->List PV->Option (List PV))(ga:AF):SF:=λρ=>match ρ[i]?,ga ρ with
 |some (some<|.own ps),some rs=>(match CZ rs with|some qs=>(match k ps qs with|some Eo=>some (.nx<|ρ.set i<|some<|.own Eo)|none=>none)|none=>none)
 |_,_=>none
def Vo(K:W.Frag)(k:List PV->List PV->Option (List PV))(r:V->List V->Hp->VK->Prop):Prop:=
 ∀(ps qs Eo:List PV)(G H:Hp)(a:Addr)(vs us:List V)(Q:VK),k ps qs=some Eo->H a=some (.lst vs)->Ab K G ps vs->Ab K G qs us->(∀ws v,Ab K G Eo ws->Q v (upd H a<|.lst ws))->r (.ref a) us H Q
theorem xZ{i:Nat}{k:List PV->List PV->Option (List PV)}{r:V->List V->Hp->VK->Prop}(hk:Vo X.K k r){D:Ends}{σ:St}{H:Hp}(q:Lf X.K AW AU (Ci i k ga) D σ H):b9 (b7 X.K "list" r (VI i)<|QX X.K ga) D σ H:=by
 obtain⟨G,ρ,o,S,e,ok⟩:=q;unfold Ci at e;split at e
 .rename_i ps rs er ea;split at e
  .rename_i qs ec;split at e
   .rename_i Eo ek;cases e;obtain⟨v,ev,a,vs,rfl,g,ha,rl⟩:=S.r.slot i _ er;refine⟨_,ev,.inl ⟨rfl,vs,.inl<|.inl ha⟩,G,ρ,rs,S.r,ea,λus G1 H1 s1 rv=>?_⟩;have S1:=S.step s1.all;refine hk ps qs Eo (DX G1 H H1) H1 a vs us _ ek (s1.hh _ _ ha) (Ab.same s1.all.gg rl) (IW s1.sub rv ec) λws w Cs=>?_;exact ok _ _ _ s1.all.gg<|S1.change er ev (s1.all.ex a (.l ha) g) Cs
   .contradiction
  .contradiction
 .contradiction
noncomputable def CU(ps qs:List PV):Option<|List PV:=match qs with|[p]=>if ps.length<1000 then some (ps ++ [p])else none|_=>none
theorem og{K:W.Frag}:Vo K CU aj:=by
 intro ps qs Eo G H a vs us Q e ha rl rq q;unfold CU at e;split at e
 .split at e
  .cases e;obtain⟨v,r,rfl,rv,rn⟩:=rq;subst rn;have hl:=rl.len;exact⟨a,vs,v,rfl,rfl,ha,bS U,q _ _<|Ab.of<|LS rl.paired<|.cons rv .nil⟩
  .contradiction
 .contradiction
theorem uf(i:Nat){x:Str}{p ap:Pos}(ha:Cf X (e::es) ga)(hN:X.N[i]? = some x)(hv:EE X.env.scope x)(hd:(x==("__debug__"))=false) (BV:(x==("__classdict__"))=false) (Fu:attributeBase (.Name x p) "append" X.env (eval (.Name x p) X.env)=eval (.Name x p) X.env) {Ay:Pos} (Gk:((backTo Ay<|starEach (e::es) X.env).all (λx=>!x.1)&&(backToKw Ay<|keywordEach [] X.env).all (λx=>x.1.isSome)
  && decide ((e::es).length+([]:List Keyword).length+(if([]:List Keyword).isEmpty then 0 else 1)<30))=true)
 (Fz:(ap.endLine==Ay.line)=true) (hs:starEach (e::es) X.env=(false,eval e X.env)::starEach es X.env) (J4:(backTo Ay<|starEach es X.env).any (·.1)=false)
 (Ho:swapsWith (.Call (.Attribute (.Name x p) "append" ap) (e::es) [] Ay) none pos.line X.env=pure false) :
 Cg X AW AU (.Expr (.Call (.Attribute (.Name x p) "append" ap) (e::es) [] Ay) pos) (Ci i CU ga):=
 PS.imp (aa (UU ACn PySem.F.slot_list_append PySem.F.type_list_append Zk (GA hN hv hd BV) ha Fu Gk Fz hs J4) Ho) λ_ _ _ q=>xZ og q
noncomputable def Du(gt:GF)(body:SF):List PV->AX->Option Out
 |[],ρ=>some<|.nx ρ
 |x::xs,ρ=>match gt x ρ with
  |none=>none
  |some A9=>match body A9 with
   |some (.nx Ba)=>Du gt body xs Ba
   |some (.ct Ba)=>Du gt body xs Ba
   |some (.bk Ba)=>some<|.nx Ba
   |some (.rt r)=>some<|.rt r
   |none=>none
def CI(its:IF)(gt:GF)(body:SF):SF:=λρ=>match its ρ with|some xs=>Du gt body xs ρ|none=>none
theorem uj{its:IF}(hc:X.calm=true)(hp:PassesOwn (model X.prog X.w) X.A X.env X.xe)(hi:IQ X true tg iter its)(hg:HM X tg gt)(hb:Dm X AW AU body g)(hs:∀x,foldedSetIterable iter X.env x=pure x) : Cg X AW AU (.For tg iter body [] pos)<|CI its gt g:=PS.imp (sE hp hc hi hg hb hs) (by
 rintro D σ H ⟨G,ρ,o,S,e,ok⟩;unfold CI at e;split at e
 .rename_i xs ex;refine⟨G,ρ,xs,S.r,ex,λJ G1 H1 s1 J1=>?_⟩;obtain⟨vs,rl,hJ⟩:=J1.ex;have Bg:=rl.len;refine⟨λi m Ac H'=>m=xs.length-i/\i<=xs.length/\∃G' ρ',SR X.K AW AU G' H' ρ' Ac/\Ak G1 G'/\Du gt g (xs.drop i) ρ'=some o,⟨xs.length,AAd,ACP _,G1,ρ,S.step s1,Ak.refl _,by exact e⟩,?_⟩;rintro i m Ac H' ⟨rfl,CT,G',ρ',S',sg,hl⟩;obtain⟨Si,TK⟩:=hJ H'<|sg.trans S'.r.sub;by_cases BM:i<xs.length
  .right;have Mq:vs[i]? = some vs[i]:=AA1 AAc;obtain⟨go,yl⟩:=Si i _ Mq;have TU:=AA1 BM;have TC:Rep X.K G' xs[i] vs[i]:=by obtain⟨u,eu,ru⟩:=KH rl.paired TU;rw[Mq]at eu;cases eu;exact Rep.same sg ru
   have Mb:=ACd BM;rw[Mb]at hl;unfold Du at hl;split at hl
   .contradiction
   .rename_i A9 e1;refine⟨go,λDk Cv=>∃GR Nd,SR X.K AW AU GR Cv Nd Dk/\Ak G1 GR/\Du gt g (xs.drop<|i+1) Nd=some o,λDk Cv hN=>⟨xs.length-(i+1),AAc,rfl,AAg,hN⟩,λy H3 hy=>?_⟩;obtain⟨rfl,rfl⟩:=yl y H3 hy;refine⟨G',ρ',xs[i],A9,S'.r,TC,e1,λFJ R1 k1=>?_⟩;split at hl
    .rename_i Ba eb;exact⟨G',A9,_,S'.turn R1 k1,eb,λDG G2 H2 s2 S2=>⟨G2,Ba,S2,sg.trans s2,hl⟩⟩
    .rename_i Ba eb;exact⟨G',A9,_,S'.turn R1 k1,eb,λDG G2 H2 s2 S2=>⟨G2,Ba,S2,sg.trans s2,hl⟩⟩
    .rename_i Ba eb;cases hl;exact⟨G',A9,_,S'.turn R1 k1,eb,λDG G2 H2 s2 S2=>ok DG G2 H2 ((s1.gg.trans sg).trans s2) S2⟩
    .rename_i r eb;cases hl;exact⟨G',A9,_,S'.turn R1 k1,eb,ok⟩
    .contradiction
  .left;have Sk:i=xs.length:=U
   subst Sk;rw[ADx]at hl;cases hl;exact⟨by rw[Bg];exact TK,ok Ac G' H' (s1.gg.trans sg) S'⟩
 .contradiction)
end
noncomputable def A5(N:Nat)(ps:List PV):AX:=ps.map (λp=>some<|.im p)++List.replicate (N-ps.length) none
noncomputable def Out.val:Out->Option RV
 |.rt r=>some r
 |.nx _=>some<|.cl .Au
 |_=>none
def denote(N n:Nat)(g:SF):List PV->Option RV:=λps=>if ps.length=n then(g<|A5 N ps).bind Out.val else none
theorem Uk{N:Nat}{ps:List PV}{i:Nat}{sv:SV}(h:(A5 N ps)[i]? = some (some sv)):∃p,ps[i]? = some p/\sv=.im p:=by
 unfold A5 at h;by_cases hi:i<ps.length
 .rw[ABH (by simpa using hi),ABm]at h;cases e:ps[i]? with
  |none=>rw[e]at h;contradiction
  |some p=>rw[e]at h;cases h;exact⟨p,rfl,rfl⟩
 .rw[ABL (by simpa using hi),AB9]at h;split at h<;>nomatch h
theorem xK{N:List Str}{vs:List V}{i:Nat}{v:V}(h:vs[i]? = some v):(start N vs)[i]? = some (some v):=by
 unfold start;have hi:=(AAn.mp h).1;rw[ABH (by simpa using hi),ABm,h]
 rfl
theorem U1{K:W.Frag}{N:List Str}{G H:Hp}{ps:List PV}{vs:List V}(s:Ak G H)(h:Ab K G ps vs):SR K G H G H (A5 N.length ps)<|start N vs:=by
 refine⟨⟨s,λi sv e=>?_,λi j qs rs a b _ e1 o _ _ _ _=>?_,?_⟩,Ak.refl _,Ak.refl _,λ_ _ n=>n,λi qs a o e1 _=>?_⟩
 .obtain⟨p,ep,rfl⟩:=Uk e;obtain⟨v,ev,rv⟩:=KH h.paired ep;exact⟨v,xK ev,rv⟩
 .obtain⟨p,_,z⟩:=Uk e1;subst z;contradiction
 .delta A5 start
  simp only[ABA,ABA,AAi,AAi,ACR,ACR,h.len]
 .obtain⟨p,_,z⟩:=Uk e1;subst z;contradiction
theorem kA{P:Program}{w:World}{K:W.Frag}{mg:Str->Option Value}{base:Heap}{x qual:Str}{st:Stmt}{f:Addr}{fd:FuncData}{N ps:List Str}{k:Nat}{g:SF}(F:Ec K x qual st f fd)(S:HI N ps<|BU st) (Fv:∀(A1:Value)(A:Around)(outer:List Env)(s:Shared)(H:Hp)(E:XK)(AW AU:Hp),Br k (A.deeper<|envOfC qual (BU st) s.heap.objs.size f A1)->Dm (Fl Dx P w K mg base N qual (BU st) f A1 A outer s H E).KD AW AU (D2 st) g) : Cd P w K mg base Dx (k+1) f fd ps<|Le K ps.length<|denote N.length ps.length g:=by
 refine F.ok S (λvs H Q E h=>h.1) λA1 A outer s H vs Q E hr h=>?_;obtain⟨hl,G,qs,r,sub,rl,e,q⟩:=h;refine⟨_,Fv A1 A outer s H E G H hr,?_⟩;unfold denote at e;split at e
 .cases eg:g (A5 N.length qs)with
  |none=>rw[eg]at e;contradiction
  |some o=>
   rw[eg]at e;refine⟨G,A5 N.length qs,o,U1 sub rl,eg,?_⟩;cases o with
   |rt r'=>
    cases e;exact λv G' H' s rv=>q v G' H' s rv
   |nx ρ=>
    cases e;exact λAc G' H' s S'=>q .Au G' H' S'.JO<|by rfl
   |bk ρ=>contradiction
   |ct ρ=>injection e
 .contradiction
set_option tactic.hygienic true
mutual
noncomputable def Al:PV->PyData
 |.Au=>.none
 |.bl b=>.bool b
 |.int i=>.int i
 |.str x=>.str x
 |.tup xs=>.tuple<|CQ xs
 |.lst xs=>.list<|CQ xs
 |.rd xs=>.list<|CQ xs
 |.Co _ _=>.dict []
noncomputable def CQ:List PV->List PyData
 |[]=>[]
 |x::xs=>Al x::CQ xs
end
section
variable{X:Cx}{AE:List (Addr×Obj)}{σ:St}{H:Hp}{s:Shared}
mutual
theorem Rep.reads(I:Inv X AE σ H s):∀{p:PV}{v:V}{u:Value},(Al p).canLay0=true->Rep X.K H p v->RelV v u->∃as,Reads s.heap u (Al p) as
 |.Au,v,u,_,h,r=>by unfold Rep at h;subst h;cases r;exact⟨[],.none⟩
 |.bl b,v,u,_,h,r=>by unfold Rep at h;subst h;cases r;exact⟨[],.bool b⟩
 |.int i,v,u,_,h,r=>by unfold Rep at h;subst h;obtain⟨t,rfl⟩:=r;exact⟨[],.int i t⟩
 |.str i,v,u,_,h,r=>by unfold Rep at h;subst h;obtain⟨t,rfl⟩:=r;exact⟨[],.str i t⟩
 |.Co _ _,v,u,c,h,r=>by unfold Al PyData.canLay0 at c;cases c
 |.tup xs,v,u,c,h,r=>by unfold Rep at h;unfold Al PyData.canLay0 at c;obtain⟨a,vs,rfl,hq,rl⟩:=h;cases r;obtain⟨its,rv,⟨o,ho,hc,n,hd⟩,_⟩:=I.tuple hq;obtain⟨as,ra⟩:=Ab.reads I c rl rv;exact⟨as,by unfold Al;exact .tuple ho hc hd<|by simpa using ra⟩
 |.lst xs,v,u,c,h,r=>by unfold Rep at h;unfold Al PyData.canLay0 at c;obtain⟨a,vs,rfl,hq,rl⟩:=h;cases r;obtain⟨z,its,n,rv,e⟩:=hq.ok I.Af;obtain⟨as,ra⟩:=Ab.reads I c rl rv;exact⟨a::as,by unfold Al;exact .list e rfl rfl<|by simpa using ra⟩
 |.rd xs,v,u,c,h,r=>by unfold Rep at h;unfold Al PyData.canLay0 at c;obtain⟨a,vs,rfl,hq,rl⟩:=h;cases r;obtain⟨its,rv,⟨o,n,ho,hc,Oq,hd⟩,_⟩:=I.list hq;obtain⟨as,ra⟩:=Ab.reads I c rl rv;exact⟨a::as,by unfold Al;exact .list ho hc hd<|by simpa using ra⟩
theorem Ab.reads(I:Inv X AE σ H s):∀{ps:List PV}{vs:List V}{us:List Value},PyData.canLayAll0 (CQ ps)=true->Ab X.K H ps vs->As vs us->∃as,ReadsAll s.heap us (CQ ps) as
 |[],vs,us,_,h,r=>by unfold Ab at h;subst h;cases r;exact⟨[],.nil⟩
 |p::ps,vs,us,c,h,r=>by
  unfold Ab at h;unfold CQ PyData.canLayAll0 at c;rw[AAk]at c;obtain⟨v,vr,rfl,hv,hr⟩:=h;cases r with
  |cons r1 r2=>
   obtain⟨as,ra⟩:=Rep.reads I c.1 hv r1;obtain⟨bs,rb⟩:=Ab.reads I c.2 hr r2;exact⟨as++bs,by unfold CQ;exact .cons ra rb⟩
end
def QF(K:W.Frag)(neg:Bool):R2:=λx y H Q=>∃p q,Rep K H p x/\Rep K H q y/\SeqAt.shaped (Al p)=true/\SeqAt.shaped (Al q)=true/\Q (.bl (if neg=true then !PyData.eqv (Al p) (Al q)else PyData.eqv (Al p) (Al q))) H
theorem qA(hu:X.A.units+64<cLine):BY X (compareOp .Eq)<|QF X.K false:=by intro AE s σ H x y v u Q I rx ry ⟨p,q,hp,hq,sp,sq,k⟩;obtain⟨as,ra⟩:=Rep.reads I (SeqAt.canLay_of_shaped sp) hp rx;obtain⟨bs,rb⟩:=Rep.reads I (SeqAt.canLay_of_shaped sq) hq ry;exact SeqAt.compareEq_shaped ra rb sp sq hu ⟨.bl _,H,I,rfl,k⟩
theorem qL(hu:X.A.units+64<cLine):BY X (compareOp .NotEq)<|QF X.K true:=by intro AE s σ H x y v u Q I rx ry ⟨p,q,hp,hq,sp,sq,k⟩;obtain⟨as,ra⟩:=Rep.reads I (SeqAt.canLay_of_shaped sp) hp rx;obtain⟨bs,rb⟩:=Rep.reads I (SeqAt.canLay_of_shaped sq) hq ry;exact SeqAt.compareNe_shaped ra rb sp sq hu ⟨.bl _,H,I,rfl,k⟩
end
def Bn(x y:RV):Option RV:=if SeqAt.shaped (Al x.any)=true/\SeqAt.shaped (Al y.any)=true then some (.cl<|.bl<|PyData.eqv (Al x.any)<|Al y.any)else none
def BP(x y:RV):Option RV:=if SeqAt.shaped (Al x.any)=true/\SeqAt.shaped (Al y.any)=true then some (.cl<|.bl (!PyData.eqv (Al x.any) (Al y.any)))else none
section
variable{X:Cx}
theorem pf{K:W.Frag}:DJ K Bn<|QF K false:=by
 intro x y z H0 G H vx vy Q sub sh e rx ry q;unfold Bn at e;split at e
 .rename_i h;cases e;exact⟨x.any,y.any,rx.any sub,ry.any sub,h.1,h.2,q _ G H (Ar.refl sub)<|by rfl⟩
 .contradiction
theorem p0{K:W.Frag}:DJ K BP<|QF K true:=by
 intro x y z H0 G H vx vy Q sub sh e rx ry q;unfold BP at e;split at e
 .rename_i h;cases e;exact⟨x.any,y.any,rx.any sub,ry.any sub,h.1,h.2,q _ G H (Ar.refl sub)<|by rfl⟩
 .contradiction
theorem gr(hu:X.A.units+64<cLine):Cc X .Eq Bn:=⟨_,qA hu,pf⟩
theorem g5(hu:X.A.units+64<cLine):Cc X .NotEq BP:=⟨_,qL hu,p0⟩
def BC(neg:Bool)(x y:RV):Option RV:=match x,y.seq with
 |.cl (.int i),some ps=>(DB ps).map λns=>.cl (.bl (if neg=true then !ns.any (· == i)else ns.any (· == i)))
 |_,_=>none
theorem Z2{K:W.Frag}{neg:Bool}:DJ K (BC neg)<|Ug K neg:=by
 intro x y z H0 G H vx vy Q sub sh e rx ry q;unfold BC at e;split at e
 .rename_i i ps es;cases ei:DB ps with
  |none=>rw[ei]at e;contradiction
  |some ns=>
   rw[ei]at e;cases e;obtain⟨a,vs,rfl,hq,rl⟩:=ry.seq sub es;have mn:=JA ei rl;subst mn;have YO:PJ (.int i) (ns.map V.int)=ns.any (· == i):=by
    unfold PJ;rw[ACW]
    rfl
   refine⟨a,ns.map V.int,rfl,hq,by rw[rx.int];rfl,by rw[ADy];exact ABK.mpr λ_ _=>rfl,?_⟩;rw[rx.int,YO];exact q _ G H (Ar.refl sub) (by cases neg<;>rfl)
 .contradiction
theorem gv:Cc X .In<|BC false:=⟨_,qE,Z2⟩
theorem g6:Cc X .NotIn<|BC true:=⟨_,qN,Z2⟩
theorem tQ{x:Str}{i:Int}{pos:Pos}(h:∃t,X.mg x=some (.int i t))(hg:Gl X x)(hd:(x==("__debug__"))=false):PX X (.Name x pos)<|fC<|.int i:=by obtain⟨t,h⟩:=h;exact LZ (UX hg h (v:=.int i) ⟨t,rfl⟩ hd) λ_=>by rfl
theorem tR{x:Str}{p:PV}{pos:Pos}(h:∃a,X.mg x=some (.ref a)/\∀G,Rep X.K G p<|.ref a)(hg:Gl X x)(hd:(x==("__debug__"))=false):PX X (.Name x pos)<|fC p:=by obtain⟨a,h,hr⟩:=h;exact LZ (UX hg h (v:=.ref a) rfl hd) hr
def BO(P:Program)(w:World)(K:W.Frag)(mg:Str->Option Value)(base:Heap)(x:Str)(k n:Nat)(F:List PV->Option RV):Prop:=
 ∃f fd ps,Cd P w K mg base Dx k f fd ps (Le K n F)/\mg x=some (.ref f)/\W.keepIn K (.ref f)=true/\Binds K fd ps []/\ps.length=n
theorem Fn.of{x:Str}{j k n:Nat}{F:List PV->Option RV}(h:BO X.prog X.w X.K X.mg X.base x j n F)(hr:Br k X.A)(hk:j<=k:=by decide):Fn X x n F:=by obtain⟨f,fd,ps,h1,h2,h3,h4,h5⟩:=h;exact⟨k,f,fd,ps,h1.mono hk,hr,h2,h3,h4,h5⟩
noncomputable def Rl(outer:List<|Str×NameKind)(N:List Str)(scope:Scope)(Nb:List Str)(own:Nat)(cap:List Nat):Bool:=
 (scope.kind == .function)&&scope.names.all (λy=>y.2 != .cell||scope.names.lookup y.1==some .cell)&&scope.names.all (λx=>x.2 != .local||scope.names.lookup x.1==some .local) &&
 scope.names.all (λy=>y.2 != .free||(outer.lookup y.1==some .cell||outer.lookup y.1==some .free))&&(Nb.length==own+cap.length) &&
 (List.range cap.length).all (λk=>match cap[k]? with|some j=>(match Nb[own+k]?,N[j]? with|some x,some y=>x==y&&scope.names.lookup x==some .free|_,_=>false)|none=>false)
theorem gh{scope:Scope}{Nb:List Str}{own:Nat}{cap:List Nat}(h:Rl X.env.scope.names X.N scope Nb own cap=true):GP X scope Nb own cap:=by
 unfold Rl at h;simp only[AAk,ABK,ABw,AEH,ABb,AAr]at h;obtain⟨⟨⟨⟨⟨h1,h2⟩,h3⟩,h4⟩,h5⟩,h6⟩:=h;refine⟨h1,λx hx hl=>?_,λx hx hl=>?_,λy hy hf=>?_,h5,λk j hj=>?_⟩
 .rcases h2 x hx with z|z
  .exact absurd hl z
  .exact z
 .rcases h3 x hx with z|z
  .exact absurd hl z
  .exact z
 .rcases h4 y hy with z|z
  .exact absurd hf z
  .exact z
 .have hk:=(AAn.mp hj).1;have:=h6 k hk;rw[hj]at this;dsimp only at this;split at this
  .rename_i x y e1 e2;simp only[AAk,ABw]at this;obtain⟨rfl,z⟩:=this;exact⟨x,e1,e2,z⟩
  .contradiction
end
end L2.PL
namespace L2.PL
open PySem PySem.Spec PyProof.Rows
section
variable{X:Cx}{AW AU:Hp}{a b c e:Expr}{es:List Expr}{fa fb f:EF}{ga:AF}{pos:Pos}
section
variable{x:Str}{p ap Ay:Pos}
end
noncomputable def Dd:Int->List Int->Int
 |m,[]=>m
 |m,x::r=>Dd (if x>m then x else m) r
noncomputable def De:Int->List Int->Int
 |m,[]=>m
 |m,x::r=>De (if x<m then x else m) r
theorem Zb:∀(l:List Int)(m:Int),(Dd m l=m\/Dd m l∈l)/\m<=Dd m l/\∀x∈l,x<=Dd m l
 |[],m=>⟨.inl rfl,ABp _,λx hx=>by cases hx⟩
 |y::r,m=>by
  obtain⟨h1,h2,h3⟩:=Zb r (if y>m then y else m);show(Dd (if y>m then y else m) r=m\/Dd (if y>m then y else m) r∈y::r)/\m<=Dd (if y>m then y else m) r/\∀x∈y::r,x<=Dd (if y>m then y else m) r;refine⟨?_,?_,λx hx=>?_⟩
  .rcases h1 with e|e
   .by_cases hy:y>m
    .rw[AAl hy]at e ⊢;right;rw[e];exact AAu
    .rw[AAj hy]at e ⊢;left;exact e
   .right;exact AAs _ e
  .exact ACh (by split<;>lia) h2
  .rcases AAy.mp hx with rfl|hx
   .exact ACh (by split<;>lia) h2
   .exact h3 x hx
theorem Zg:∀(l:List Int)(m:Int),(De m l=m\/De m l∈l)/\De m l<=m/\∀x∈l,De m l<=x
 |[],m=>⟨.inl rfl,ABp _,λx hx=>by cases hx⟩
 |y::r,m=>by
  obtain⟨h1,h2,h3⟩:=Zg r (if y<m then y else m);show(De (if y<m then y else m) r=m\/De (if y<m then y else m) r∈y::r)/\De (if y<m then y else m) r<=m/\∀x∈y::r,De (if y<m then y else m) r<=x;refine⟨?_,?_,λx hx=>?_⟩
  .rcases h1 with e|e
   .by_cases hy:y<m
    .rw[AAl hy]at e ⊢;right;rw[e];exact AAu
    .rw[AAj hy]at e ⊢;left;exact e
   .right;exact AAs _ e
  .exact ACh h2 (by split<;>lia)
  .rcases AAy.mp hx with rfl|hx
   .exact ACh h2 (by split<;>lia)
   .exact h3 x hx
end
theorem Rj:bootBuiltins "isinstance" = some (.builtin "isinstance"):=AAf
theorem fi:bootBuiltins "abs" = some (.builtin "abs"):=AAf
theorem WC:bootBuiltins "max" = some (.builtin "max"):=AAf
theorem WD:bootBuiltins "min" = some (.builtin "min"):=AAf
theorem WE:bootBuiltins "sum" = some (.builtin "sum"):=AAf
theorem fj:bootBuiltins "all" = some (.builtin "all"):=AAf
theorem fo:bootBuiltins "any" = some (.builtin "any"):=AAf
theorem f6:bootBuiltins "sorted" = some (.builtin "sorted"):=AAf
theorem fq:bootBuiltins "bool" = some (.type "bool"):=AAf
theorem ft:bootBuiltins "int" = some (.type "int"):=AAf
theorem WB:bootBuiltins "list" = some (.type "list"):=AAf
theorem fv:bootBuiltins "set" = some (.type "set"):=AAf
theorem f7:bootBuiltins "tuple" = some (.type "tuple"):=AAf
section
variable{X:Cx}{AW AU:Hp}{a b c e:Expr}{es:List Expr}{fa fb f:EF}{ga:AF}{pos:Pos}
theorem oU{m M:Int}{l:List Int}(h1:M∈m::l)(h2:∀a∈m::l,a<=M):M=Dd m l:=by
 obtain⟨s1,s2,s3⟩:=Zb l m;have h3:Dd m l∈m::l:=by
  rcases s1 with e|e
  .rw[e];exact AAu
  .exact AAs _ e
 have h4:=h2 _ h3;have h5:M<=Dd m l:=by
  rcases AAy.mp h1 with e|e
  .rw[e];exact s2
  .exact s3 _ e
 lia
theorem oh{m M:Int}{l:List Int}(h1:M∈m::l)(h2:∀a∈m::l,M<=a):M=De m l:=by
 obtain⟨s1,s2,s3⟩:=Zg l m;have h3:De m l∈m::l:=by
  rcases s1 with e|e
  .rw[e];exact AAu
  .exact AAs _ e
 have h4:=h2 _ h3;have h5:De m l<=M:=by
  rcases AAy.mp h1 with e|e
  .rw[e];exact s2
  .exact s3 _ e
 lia
theorem gR(hc:X.calm=true):Cz X (.builtin "max") (λxs H Q=>∃(p:Addr)(m:Int)(ns:List Int),xs=[.ref p]/\Rd H p (.lst<|(m::ns).map V.int)/\Q (.int<|Dd m ns) H):=by
 intro AE s σ H xs us Q I r h;obtain⟨p,m,ns,rfl,hq,q⟩:=h;obtain⟨u,rfl,rx⟩:=vals1 r;cases rx;obtain⟨z,its,n,rv,e⟩:=hq.ok I.Af;have hi:=intsAre_of rv;obtain⟨xs,hx⟩:=hi.allInts.items;have F3:(m::ns)=xs.toList.map (·.1):=by rw[<-hi.numsOf,<-nums_intItems,<-hx]
 have hsz:0<xs.size:=by have h3:=ACE List.length F3;simp at h3;lia
 have hl:s.heap.IsList p its.toArray:=⟨_,e,rfl,n,rfl⟩;rw[hx]at hl;refine max_intList (I.ok.hd hc) hl hsz λv h' tk hv hk=>?_;obtain⟨t,rfl⟩:=intItems_at hv;obtain⟨h1,h2⟩:=argBest_gt (numAt xs)<|xs.size-1;have em:numAt xs (argBest (λi j=>decide (numAt xs i>numAt xs j))<|xs.size-1)=Dd m ns:=by
  refine oU ?_ λa ha=>?_
  .rw[F3,numAt_eq];exact getD_mem (by simp only[AAi,ABZ];omega)
  .rw[F3]at ha;obtain⟨j,hj,rfl⟩:=mem_getD ha;rw[AAi,ABZ]at hj;rw[<-numAt_eq];exact h2 j U
 rw[em];exact⟨.int _,H,I.kept hk,⟨_,rfl⟩,q⟩
theorem gT(hc:X.calm=true):Cz X (.builtin "min") (λxs H Q=>∃(p:Addr)(m:Int)(ns:List Int),xs=[.ref p]/\Rd H p (.lst<|(m::ns).map V.int)/\Q (.int<|De m ns) H):=by
 intro AE s σ H xs us Q I r h;obtain⟨p,m,ns,rfl,hq,q⟩:=h;obtain⟨u,rfl,rx⟩:=vals1 r;cases rx;obtain⟨z,its,n,rv,e⟩:=hq.ok I.Af;have hi:=intsAre_of rv;obtain⟨xs,hx⟩:=hi.allInts.items;have F3:(m::ns)=xs.toList.map (·.1):=by rw[<-hi.numsOf,<-nums_intItems,<-hx]
 have hsz:0<xs.size:=by have h3:=ACE List.length F3;simp at h3;lia
 have hl:s.heap.IsList p its.toArray:=⟨_,e,rfl,n,rfl⟩;rw[hx]at hl;refine min_intList (I.ok.hd hc) hl hsz λv h' tk hv hk=>?_;obtain⟨t,rfl⟩:=intItems_at hv;obtain⟨h1,h2⟩:=argBest_lt (numAt xs)<|xs.size-1;have em:numAt xs (argBest (λi j=>decide (numAt xs i<numAt xs j))<|xs.size-1)=De m ns:=by
  refine oh ?_ λa ha=>?_
  .rw[F3,numAt_eq];exact getD_mem (by simp only[AAi,ABZ];omega)
  .rw[F3]at ha;obtain⟨j,hj,rfl⟩:=mem_getD ha;rw[AAi,ABZ]at hj;rw[<-numAt_eq];exact h2 j U
 rw[em];exact⟨.int _,H,I.kept hk,⟨_,rfl⟩,q⟩
set_option tactic.hygienic true
def PZ:List RV->Option RV
 |[r]=>match r.list.bind DB with|some (m::ns)=>some (.cl<|.int<|Dd m ns)|_=>none
 |_=>none
def Pb:List RV->Option RV
 |[r]=>match r.list.bind DB with|some (m::ns)=>some (.cl<|.int<|De m ns)|_=>none
 |_=>none
theorem qV:ED X.K PZ (λxs H Q=>∃(p:Addr)(m:Int)(ns:List Int),xs=[.ref p]/\Rd H p (.lst<|(m::ns).map V.int)/\Q (.int<|Dd m ns) H):=by
 intro rs z H0 G H vs Q sub sh e rv q;unfold PZ at e;split at e
 .rename_i r;split at e
  .rename_i m ns eb;cases e;cases es:r.list with
   |none=>rw[es]at eb;contradiction
   |some ps=>
    rw[es]at eb;obtain⟨v,rfl,hv⟩:=rv.one;obtain⟨a,us,rfl,hq,rl⟩:=hv.list sub es;rw[JA eb rl]at hq;exact⟨a,m,ns,rfl,hq,q _ G H (Ar.refl sub)<|by rfl⟩
  .contradiction
 .contradiction
theorem qX:ED X.K Pb (λxs H Q=>∃(p:Addr)(m:Int)(ns:List Int),xs=[.ref p]/\Rd H p (.lst<|(m::ns).map V.int)/\Q (.int<|De m ns) H):=by
 intro rs z H0 G H vs Q sub sh e rv q;unfold Pb at e;split at e
 .rename_i r;split at e
  .rename_i m ns eb;cases e;cases es:r.list with
   |none=>rw[es]at eb;contradiction
   |some ps=>
    rw[es]at eb;obtain⟨v,rfl,hv⟩:=rv.one;obtain⟨a,us,rfl,hq,rl⟩:=hv.list sub es;rw[JA eb rl]at hq;exact⟨a,m,ns,rfl,hq,q _ G H (Ar.refl sub)<|by rfl⟩
  .contradiction
 .contradiction
def Ms(T:String):PV->Option Bool
 |.bl _=>if T = "bool" then some true else if T = "int" then some true else none
 |.int _=>if T = "int" then some true else if T = "bool" then some false else none
 |.str _=>if T = "str" then some true else none
 |.lst _=>if T = "list" then some true else none
 |_=>none
def Gb(T:String)(f:EF):EF:=λρ=>match f ρ with|some r=>(Ms T r.any).map λb=>.cl (.bl b)|none=>none
set_option tactic.hygienic false
theorem yu{K:W.Frag}{H:Hp}{T:String}{p:PV}{v:V}{k:Bool}(h:Rep K H p v)(e:Ms T p=some k) (h1:T = "bool"->W.kitOne K (.type "bool") (.type T)=some true/\W.kitOne K (.type "int") (.type T)=some false) (h2:T = "int"->W.kitOne K (.type "int") (.type T)=some true/\W.kitOne K (.type "bool") (.type T)=some true) (h3:T = "str"->W.kitOne K (.type "str") (.type T)=some true) (h4:T = "list"->W.kitOne K (.type "list") (.type T)=some true):∃t,Ez K H v t/\W.kitOne K t (.type T)=some k:=by
 unfold Ms at e;split at e
 .subst h;split at e
  .cases e;exact⟨_,.bl _,(h1 ‹_›).1⟩
  .split at e
   .cases e;exact⟨_,.bl _,(h2 ‹_›).2⟩
   .contradiction
 .subst h;split at e
  .cases e;exact⟨_,.int _,(h2 ‹_›).1⟩
  .split at e
   .cases e;exact⟨_,.int _,(h1 ‹_›).2⟩
   .contradiction
 .subst h;split at e
  .cases e;exact⟨_,.str _,h3 ‹_›⟩
  .contradiction
 .obtain⟨a,vs,rfl,hq,_⟩:=h;split at e
  .cases e;rcases hq with hq|⟨o,hq⟩
   .exact⟨_,.lst hq,h4 ‹_›⟩
   .exact⟨_,.D5 hq,h4 ‹_›⟩
  .contradiction
 .contradiction
theorem gM{T:String}(h1:T = "bool"->W.kitOne X.K (.type "bool") (.type T)=some true/\W.kitOne X.K (.type "int") (.type T)=some false)(h2:T = "int"->W.kitOne X.K (.type "int") (.type T)=some true/\W.kitOne X.K (.type "bool") (.type T)=some true) (h3:T = "str"->W.kitOne X.K (.type "str") (.type T)=some true) (h4:T = "list"->W.kitOne X.K (.type "list") (.type T)=some true) : Cz X (.builtin "isinstance") (λxs H Q=>∃x p k,xs=[x,.ty T]/\Rep X.K H p x/\Ms T p=some k/\Q (.bl k) H):=by intro AE s σ H xs us Q I r ⟨x,p,k,e1,hp,ek,q⟩;subst e1;obtain⟨u,u2,rfl,ru,NP⟩:=vals2 r;obtain rfl:u2=Value.type T:=NP;obtain⟨t,ty,et⟩:=yu hp ek h1 h2 h3 h4;exact nJ I ru ty et λtk=>⟨.bl k,H,I.tok _,rfl,q⟩
set_option tactic.hygienic true
theorem Uc{T:String}{x:Str}{p p2:Pos}(h1:T = "bool"->W.kitOne X.K (.type "bool") (.type T)=some true/\W.kitOne X.K (.type "int") (.type T)=some false)(h2:T = "int"->W.kitOne X.K (.type "int") (.type T)=some true/\W.kitOne X.K (.type "bool") (.type T)=some true) (h3:T = "str"->W.kitOne X.K (.type "str") (.type T)=some true) (h4:T = "list"->W.kitOne X.K (.type "list") (.type T)=some true) (hm:X.mg "isinstance" = none) (F0:X.mg x=none) (mm:bootBuiltins x=some (.type T)) (ha:PX X a fa) (hg:Gl X "isinstance":=by rfl) (Fx:Gl X x:=by rfl) (Ox:x≠"__name__":=by decide) (hd2:(x==("__debug__"))=false:=by decide) (he:starEach [a,.Name x p2] X.env=(false,eval a X.env)::starEach [.Name x p2] X.env:=by rfl) (El:starEach [.Name x p2] X.env=(false,eval (.Name x p2) X.env)::starEach [] X.env:=by rfl) (A7:(backTo pos<|starEach [.Name x p2] X.env).any (·.1)=false:=by rfl) : PX X (.Call (.Name "isinstance" p) [a,.Name x p2] [] pos)<|Gb T fa:=by
 refine PE.imp (NJ (gM h1 h2 h3 h4) hg hm Rj (EW ha (EW (UT (v:=.ty T) Fx F0 mm rfl Ox hd2) F9 El) he) AAe AAe he A7) λσ H Q ⟨G,ρ,r,R,e,q⟩=>?_;unfold Gb at e;split at e
 .rename_i r' er;cases ek:Ms T r'.any with
  |none=>rw[ek]at e;contradiction
  |some k=>
   rw[ek]at e;cases e;refine⟨G,ρ,r',R,er,λv G' H' s rv=>?_⟩;exact⟨v,r'.any,k,rfl,rv.any s.sub,ek,q _ G' H' s<|by rfl⟩
 .contradiction
theorem tW{p p2:Pos}(hm:X.mg "isinstance" = none)(F0:X.mg "bool" = none)(ha:PX X a fa)(hg:Gl X "isinstance")(Fx:Gl X "bool") (he:starEach [a,.Name "bool" p2] X.env=(false,eval a X.env)::starEach [.Name "bool" p2] X.env) (El:starEach [.Name "bool" p2] X.env=(false,eval (.Name "bool" p2) X.env)::starEach [] X.env) (A7:(backTo pos<|starEach [.Name "bool" p2] X.env).any (·.1)=false) : PX X (.Call (.Name "isinstance" p) [a,.Name "bool" p2] [] pos)<|Gb "bool" fa:=
 Uc (λ_=>⟨rfl,rfl⟩) (λz=>absurd z AAe) (λz=>absurd z AAe) (λz=>absurd z AAe) hm F0 fq ha hg Fx AAe AAe he El A7
theorem tY{p p2:Pos}(hm:X.mg "isinstance" = none)(F0:X.mg "int" = none)(ha:PX X a fa)(hg:Gl X "isinstance")(Fx:Gl X "int") (he:starEach [a,.Name "int" p2] X.env=(false,eval a X.env)::starEach [.Name "int" p2] X.env) (El:starEach [.Name "int" p2] X.env=(false,eval (.Name "int" p2) X.env)::starEach [] X.env) (A7:(backTo pos<|starEach [.Name "int" p2] X.env).any (·.1)=false) : PX X (.Call (.Name "isinstance" p) [a,.Name "int" p2] [] pos)<|Gb "int" fa:=
 Uc (λz=>absurd z AAe) (λ_=>⟨rfl,rfl⟩) (λz=>absurd z AAe) (λz=>absurd z AAe) hm F0 ft ha hg Fx AAe AAe he El A7
end
section
variable{X:Cx}{AW AU:Hp}{a b c e:Expr}{es:List Expr}{fa fb f:EF}{ga:AF}{pos:Pos}
noncomputable def RI(a:Addr)(n:Nat):HO:=.ext λh=>∃o es ep t,h.get? a=some o/\o.ExactSet/\o.data=.set es ep t/\t.fits es.size=true/\es.size=n/\n<=1000
theorem wd{P:Program}{w:World}{H:Hp}{h:Heap}{a:Addr}{ks:List (List Int)}(x:Internal.ST.HR P w h a ks)(hz:ks.length<=1000):B1 P w H h a<|RI a ks.length:=by
 obtain⟨o,es,ep,t,kk,ho,hex,hd,T,hp⟩:=x;refine⟨⟨o,es,ep,t,ho,hex,hd,T.fits,?_,hz⟩,⟨o,ho⟩,?_⟩
 .rw[<-T.len,hp.length_eq]
 .rintro h1 h2 ⟨o,es,ep,t,e1,e2⟩ k;exact⟨o,es,ep,t,k o e1,e2⟩
def TupAt(K:W.Frag)(H:Hp)(v:V)(ks:List Int):Prop:=∃a,v=.ref a/\Bs K H a (ks.map V.int)
theorem Yx{P:Program}{w:World}:∀{ks:List Int}{us:List Value},As (ks.map V.int) us->ItemsAre (intKind P w) ks us
 |[],us,r=>by cases r;exact .nil
 |k::ks,us,r=>by
  cases r with
  |cons r1 r2=>
   obtain⟨t,rfl⟩:=r1;exact .cons (by show Value.isInt k (.int k t)=true;simp[Value.isInt])<|Yx r2
theorem gX(hc:X.calm=true)(hu:X.A.units+64<cLine):Cz X (.type "set") (λxs H Q=>∃(p:Addr)(vs:List V)(kks:List<|List Int),xs=[.ref p]/\Rd H p (.lst vs)/\Paired (λk v=>TupAt X.K H v k) kks vs/\kks.length<=17/\∀d,H d=none->Q (.ref d) (upd H d<|RI d (Internal.ST.D9 [] kks).length)):=by
 intro AE s σ H xs us Q I r h;obtain⟨p,vs,kks,rfl,hq,hp,hz,q⟩:=h;obtain⟨u,rfl,rx⟩:=vals1 r;cases rx;obtain⟨z,its,n,rv,e⟩:=hq.ok I.Af;have hl:s.heap.IsList p its.toArray:=⟨_,e,rfl,n,rfl⟩;have Hn:=Paired.length hp;have K3:=rv.length;refine Internal.ST.gZ (kks:=kks) (I.ok.hd hc) U hl (by rw[AA4];lia) (by rw[AA4];lia) (λj v hj=>?_) λh' tk hS hk=>?_
 .have CM:=by simpa using hj
  obtain⟨x,ex,rx⟩:=UP rv CM;obtain⟨k,ek,a,rfl,ha⟩:=UP hp ex;cases rx;obtain⟨PM,wL,⟨o,ho,Oo,n2,hd⟩,_⟩:=I.tuple ha;exact⟨k,a,ek,rfl,o,PM.toArray,n2,ho,Oo,hd,by simpa using Yx wL⟩
 .have hn:=I.Af.fresh<|AAw _;have hle:=Internal.ST.cX kks [];refine⟨.ref s.heap.objs.size,_,I.laid hk (AAw _)<|wd hS ?_,rfl,q _ hn⟩;simp at hle;lia
theorem gN:Cz X (.builtin "len") (λxs H Q=>∃(p:Addr)(n:Nat),xs=[.ref p]/\H p=some (RI p n)/\Q (.int n) H):=by intro AE s σ H xs us Q I r h;obtain⟨p,n,rfl,hq,q⟩:=h;obtain⟨u,rfl,rx⟩:=vals1 r;cases rx;obtain⟨⟨o,es,ep,t,ho,hex,hd,hf,hn,hz⟩,_⟩:=I.Af p _ hq;exact call_len_set ho hex hd hf (by rw[hn];lia) ⟨.int n,H,I.tok _,⟨s.toks+1,by rw[hn]⟩,q⟩
set_option tactic.hygienic true
def JU:List PV->Option (List<|List Int)
 |[]=>some []
 |.tup xs::r=>match DB xs,JU r with|some k,some ks=>some (k::ks)|_,_=>none
 |_=>none
theorem cK{K:W.Frag}{G H:Hp}(s:Ak G H):∀{ps:List PV}{vs:List V}{ks:List (List Int)},JU ps=some ks->Ab K G ps vs->Paired (λk v=>TupAt K H v k) ks vs
 |[],vs,ks,e,h=>by cases e;subst h;exact .nil
 |.tup xs::r,vs,ks,e,h=>by
  unfold JU at e;split at e
  .rename_i k Pg e1 e2;cases e;obtain⟨v,us,rfl,hv,t⟩:=h;obtain⟨a,ws,rfl,hq,rl⟩:=hv;rw[JA e1 rl]at hq;exact .cons ⟨a,rfl,Bs.same s hq⟩<|cK s e2 t
  .contradiction
 |.Au::_,_,_,e,_=>by contradiction
 |.bl _::_,_,_,e,_=>by contradiction
 |.int _::_,_,_,e,_=>by contradiction
 |.str _::_,_,_,e,_=>by contradiction
 |.lst _::_,_,_,e,_=>by contradiction
 |.rd _::_,_,_,e,_=>by contradiction
 |.Co _ _::_,_,_,e,_=>by contradiction
def Ii(f:EF):EF:=λρ=>match f ρ with
 |some r=>(match r.list.bind JU with|some ks=>if ks.length<=17 then some (.cl<|.int (Internal.ST.D9 [] ks).length)else none|none=>none)
 |none=>none
theorem t6{p p2 QB:Pos}(hc:X.calm=true)(hm:X.mg "len" = none)(F0:X.mg "set" = none)(hu:X.A.units+64<cLine)(ha:PX X a fa)(hg:Gl X "len")(Fx:Gl X "set") (El:starEach [a] X.env=(false,eval a X.env)::starEach [] X.env) (mR:(backTo QB<|starEach [] X.env).any (·.1)=false) (he:starEach [.Call (.Name "set" p2) [a] [] QB] X.env=(false,eval (.Call (.Name "set" p2) [a] [] QB) X.env)::starEach [] X.env) (A7:(backTo pos<|starEach [] X.env).any (·.1)=false) : PX X (.Call (.Name "len" p) [.Call (.Name "set" p2) [a] [] QB] [] pos)<|Ii fa:=by
 refine PE.imp (NJ gN hg hm PySem.boot_len (EW (aH (gX hc hu) Fx F0 fv (EW ha F9 El) AAe AAe El mR) F9 he) AAe AAe he A7) λσ H Q ⟨G,ρ,r,R,e,q⟩=>?_;unfold Ii at e;split at e
 .rename_i r' er;split at e
  .rename_i ks ek;split at e
   .rename_i hz;cases e;cases el:r'.list with
    |none=>rw[el]at ek;contradiction
    |some ps=>
     rw[el]at ek;refine⟨G,ρ,r',R,er,λv G' H' s rv=>?_⟩;obtain⟨d,vs,rfl,hq,rl⟩:=rv.list s.sub el;refine⟨d,vs,ks,rfl,hq,cK s.sub ek rl,hz,λx hx=>?_⟩;refine⟨x,_,rfl,Cu,q _ G' _ (s.trans<|Ar.Gx s.sub _ hx) ?_⟩
     rfl
   .contradiction
  .contradiction
 .contradiction
end
section
set_option tactic.hygienic true
variable{X:Cx}{AW AU:Hp}{a b c e:Expr}{es:List Expr}{fa fb f:EF}{ga:AF}{pos:Pos}
def Ge(i j:Nat)(ga:AF):SF:=λρ=>match ga ρ with
 |some rs=>(match CZ rs with|some [p,q]=>some (.nx<|(ρ.set i<|some<|.im p).set j<|some<|.im q)|_=>none)
 |none=>none
theorem ur(i j:Nat){x y:Str}{px py pt:Pos}{kt k2 KJ}(hc:X.calm=true)(hN:X.N.Nodup)(ha:Cf X [a,b] ga)(hi:X.N[i]? = some x)(hj:X.N[j]? = some y)(Bm:i≠j) (hx:X.env.scope.names.lookup x=some .local) (hy:X.env.scope.names.lookup y=some .local) (hw:swappedStores [.Tuple [.Name x px,.Name y py] kt pt] (.Tuple [a,b] k2 KJ) X.env=pure (some [x,y])) (hs:swapsWithSole [.Tuple [.Name x px,.Name y py] kt pt] (.Tuple [a,b] k2 KJ) pos.line X.env=pure false) : Cg X AW AU (.Assign [.Tuple [.Name x px,.Name y py] kt pt] (.Tuple [a,b] k2 KJ) pos)<|Ge i j ga:=PS.imp (sH hc hN hi hj Bm hx hy ha hw hs) (by
 rintro D σ H ⟨G,ρ,o,S,e,k⟩;unfold Ge at e;split at e
 .rename_i rs er;split at e
  .rename_i p q ec;cases e;refine⟨G,ρ,rs,S.r,er,λvs G' H' s rv=>?_⟩;have rl:=IW s.sub rv ec;obtain⟨v,r,rfl,rp,rl⟩:=rl;obtain⟨w,r,rfl,rq,rl⟩:=rl;subst rl;have S':=S.step s.all;have S1:=S'.turn (S'.r.DP (i:=i) rp) C0.DP;have S2:=S1.turn (S1.r.DP (i:=j) rq) C0.DP;exact⟨v,w,rfl,k _ _ _ s.all.gg S2⟩
  .contradiction
 .contradiction)
end
section
variable{X:Cx}{AW AU:Hp}{a b c d e:Expr}{es:List Expr}{fa fb fc fd f:EF}{ga:AF}{pos:Pos}
def VF(r r' FZ:R2)(ta tb tc td:TE):TE:=λσ H Q=>ta σ H λx H1=>tb σ H1 λy H2=>r x y H2 λz H3=>∃k,z=.bl k/\
 (if k=true then tc σ H3 λw H4=>r' y w H4 λz' H5=>∃k',z'=.bl k'/\(if k'=true then td σ H5 λw' H6=>FZ w w' H6 Q else Q (.bl false) H5)else Q (.bl false) H3)
theorem rA{ta tb tc td:TE}{op B4 EU:CmpOp}{r r' FZ:R2}(ho:BY X (compareOp op) r)(B3:BY X (compareOp B4) r')(J2:BY X (compareOp EU) FZ)(ha:PE X a ta)(hb:PE X b tb)(hc:PE X c tc)(hd:PE X d td) (hm:lastMarks [op,B4,EU] [b,c,d]=false:=by with_unfolding_all rfl):PE X (.Compare a [op,B4,EU] [b,c,d] pos)<|VF r r' FZ ta tb tc td:=by
 intro AE s σ H Q I h;refine Compare_chain (Aj (ha AE s σ H _ I h) λv s1 ⟨x,H1,I1,r1,q1⟩=>chain_link (Aj (hb AE s1 σ H1 _ I1 q1) λu s2 ⟨y,H2,I2,r2,q2⟩=>
  Aj (ho AE s2 σ H2 x y v u _ I2 r1 r2 q2) λd s3 ⟨z,H3,I3,r3,k,e,q3⟩=>?_)) hm
 subst e;cases r3;refine wpAny_truthy_bool ?_;cases k with
 |false=>exact ite_ff ⟨.bl false,H3,I3,rfl,q3⟩
 |true=>
  refine ite_tt<|chain_link<|Aj (hc AE s3 σ H3 _ I3 q3) λw' s4 ⟨z',H4,I4,r4,q4⟩=>Aj (B3 AE s4 σ H4 y z' u w' _ I4 r2 r4 q4) λd' s5 ⟨z2,H5,I5,r5,k2,e2,q5⟩=>?_;subst e2;cases r5;refine wpAny_truthy_bool ?_;cases k2 with
  |false=>exact ite_ff ⟨.bl false,H5,I5,rfl,q5⟩
  |true=>exact ite_tt<|chain_last<|Aj (hd AE s5 σ H5 _ I5 q5) (by rintro w2 s6 ⟨z3,H6,I6,r6,q6⟩;exact J2 AE s6 σ H6 z' z3 w' w2 Q I6 r4 r6 q6)
theorem sS{ta tb tc td:TE}{op B4 EU:CmpOp}{r r' FZ:R2}(ho:BY X (compareOp op) r)(B3:BY X (compareOp B4) r')(J2:BY X (compareOp EU) FZ)(ha:PE X a ta)(hb:PE X b tb)(hc:PE X c tc)(hd:PE X d td) (hm:lastMarks [op,B4,EU] [b,c,d]=false:=by with_unfolding_all rfl):PT X (.Compare a [op,B4,EU] [b,c,d] pos)<|VH<|VF r r' FZ ta tb tc td:=by
 intro AE s σ H Q I h;refine isTrue_chain (Aj (ha AE s σ H _ I h) λv s1 ⟨x,H1,I1,r1,q1⟩=>test_link (Aj (hb AE s1 σ H1 _ I1 q1) λu s2 ⟨y,H2,I2,r2,q2⟩=>
  Aj (ho AE s2 σ H2 x y v u _ I2 r1 r2 q2) λd s3 ⟨z,H3,I3,r3,k,e,q3⟩=>?_)) hm
 subst e;cases r3;refine wpAny_truthy_bool ?_;cases k with
 |false=>
  obtain⟨k',e',q'⟩:=q3;cases e';exact ite_ff ⟨H3,I3,q'⟩
 |true=>
  refine ite_tt<|test_link<|Aj (hc AE s3 σ H3 _ I3 q3) λw' s4 ⟨z',H4,I4,r4,q4⟩=>Aj (B3 AE s4 σ H4 y z' u w' _ I4 r2 r4 q4) λd' s5 ⟨z2,H5,I5,r5,k2,e2,q5⟩=>?_;subst e2;cases r5;refine wpAny_truthy_bool ?_;cases k2 with
  |false=>
   obtain⟨k',e',q'⟩:=q5;cases e';exact ite_ff ⟨H5,I5,q'⟩
  |true=>
   refine ite_tt<|test_last<|Aj (hd AE s5 σ H5 _ I5 q5) λw2 s6 ⟨z3,H6,I6,r6,q6⟩=>Aj (J2 AE s6 σ H6 z' z3 w' w2 _ I6 r4 r6 q6) λd2 s7 ⟨z4,H7,I7,r7,k3,e3,q7⟩=>?_;subst e3;cases r7;exact wpAny_truthy_bool ⟨H7,I7,q7⟩
set_option tactic.hygienic true
noncomputable def EM(k k' Gr:RV->RV->Option RV)(fa fb fc fd:EF):EF:=λρ=>match fa ρ,fb ρ with
 |some x,some y=>match k x y with
  |some (.cl<|.bl true)=>(match fc ρ with
   |some z=>(match k' y z with
    |some (.cl<|.bl true)=>(match fd ρ with|some w=>Gr z w|none=>none)
    |some (.cl<|.bl false)=>some<|.cl<|.bl false
    |_=>none)
   |none=>none)
  |some (.cl<|.bl false)=>some<|.cl<|.bl false
  |_=>none
 |_,_=>none
theorem cF{K:W.Frag}{k k' Gr:RV->RV->Option RV}{r r' FZ:R2}(hk:DJ K k r)(Bi:DJ K k' r')(Mg:DJ K Gr FZ){σ:St}{H:Hp}{Q:VK}(h:tX K (EM k k' Gr fa fb fc fd) σ H Q):VF r r' FZ (tX K fa) (tX K fb) (tX K fc) (tX K fd) σ H Q:=by
 obtain⟨G,ρ,z,R,e,q⟩:=h;unfold EM at e;split at e
 .rename_i x y ea eb;refine⟨G,ρ,x,R,ea,λvx G1 H1 s1 rx=>⟨G1,ρ,y,R.step s1,eb,λvy G2 H2 s2 ry=>?_⟩⟩;split at e
  .rename_i ek;cases ec:fc ρ with
   |none=>rw[ec]at e;contradiction
   |some w=>
    rw[ec]at e;dsimp only at e;refine hk x y _ H G2 H2 vx vy _ s2.sub (s1.hh.trans s2.hh) ek (rx.step s2) (ry.back s1.hh) λv G3 H3 s3 rv=>⟨true,rv.bl,?_⟩;have Es:=(s1.trans s2).trans s3;refine⟨G3,ρ,w,R.step Es,ec,λvw G4 H4 s4 Cs=>?_⟩;split at e
    .rename_i R0;cases ed:fd ρ with
     |none=>rw[ed]at e;contradiction
     |some w2=>
      rw[ed]at e;refine Bi y w _ H G4 H4 vy vw _ s4.sub (Es.trans s4).hh R0 ((ry.back s1.hh).step<|s3.trans s4) (Cs.back Es.hh) λv5 G5 H5 s5 Uo=>⟨true,Uo.bl,?_⟩;have Fc:=(Es.trans s4).trans s5;refine⟨G5,ρ,w2,R.step Fc,ed,λzD G6 H6 s6 wN=>?_⟩;exact Mg w w2 z H G6 H6 vw zD Q s6.sub (Fc.trans s6).hh e ((Cs.back Es.hh).step<|s5.trans s6) (wN.back Fc.hh) λv7 G7 H7 s7 wM=>q v7 G7 H7 ((Fc.trans s6).trans s7) wM
    .rename_i R0;cases e;refine Bi y w _ H G4 H4 vy vw _ s4.sub (Es.trans s4).hh R0 ((ry.back s1.hh).step<|s3.trans s4) (Cs.back Es.hh) λv5 G5 H5 s5 Uo=>⟨false,Uo.bl,?_⟩;exact q _ G5 H5 ((Es.trans s4).trans s5)<|by rfl
    .contradiction
  .rename_i ek;cases e;refine hk x y _ H G2 H2 vx vy _ s2.sub (s1.hh.trans s2.hh) ek (rx.step s2) (ry.back s1.hh) λv G3 H3 s3 rv=>⟨false,rv.bl,?_⟩;exact q _ G3 H3 ((s1.trans s2).trans s3)<|by rfl
  .contradiction
 .contradiction
set_option tactic.hygienic false
theorem tJ{op B4 EU:CmpOp}{k k' Gr:RV->RV->Option RV}(h1:Cc X op k)(h2:Cc X B4 k')(h3:Cc X EU Gr)(ha:PX X a fa)(hb:PX X b fb)(Ek:PX X c fc)(hd:PX X d fd)(hm:lastMarks [op,B4,EU] [b,c,d]=false) : PX X (.Compare a [op,B4,EU] [b,c,d] pos)<|EM k k' Gr fa fb fc fd:=by obtain⟨r,ho,hk⟩:=h1.ex;obtain⟨r',B3,Bi⟩:=h2.ex;obtain⟨FZ,J2,Mg⟩:=h3.ex;exact PE.imp (rA ho B3 J2 ha hb Ek hd hm) λ_ _ _ h=>cF hk Bi Mg h
theorem vE{op B4 EU:CmpOp}{k k' Gr:RV->RV->Option RV}(h1:Cc X op k)(h2:Cc X B4 k')(h3:Cc X EU Gr)(ha:PX X a fa)(hb:PX X b fb)(Ek:PX X c fc)(hd:PX X d fd)(hm:lastMarks [op,B4,EU] [b,c,d]=false) : DR X (.Compare a [op,B4,EU] [b,c,d] pos)<|AQ<|EM k k' Gr fa fb fc fd:=by obtain⟨r,ho,hk⟩:=h1.ex;obtain⟨r',B3,Bi⟩:=h2.ex;obtain⟨FZ,J2,Mg⟩:=h3.ex;exact PT.imp (sS ho B3 J2 ha hb Ek hd hm) λ_ _ _ h=>cF hk Bi Mg<|QZ h
noncomputable def EH(h:Heap)(dx:PyData)(u:Value):Bool:=@decide (∃(dd:PyData)(as:List Addr),Reads h u dd as/\dd.canLay0=true/\PyData.eqv dd dx=true)<|Classical.propDecidable _
theorem XS{h:Heap}{dx dd:PyData}{u:Value}{as:List Addr}(r:Reads h u dd as)(hc:dd.canLay0=true):EH h dx u=PyData.eqv dd dx:=by
 cases he:PyData.eqv dd dx with
 |true=>exact @decide_eq_true _ (Classical.propDecidable _) ⟨dd,as,r,hc,he⟩
 |false=>
  refine @decide_eq_false _ (Classical.propDecidable _) ?_;rintro⟨d',fM,r',_,e'⟩;have:=SeqAt.Reads.unique dd d' u as fM hc r r';subst this;rw[he]at e';contradiction
def inD(ps:List PV)(x:PV):Bool:=ps.any λp=>PyData.eqv (Al p)<|Al x
def Uh(K:W.Frag)(neg:Bool):R2:=λx y H Q=>∃(px:PV)(ps:List PV)(vs:List V)(p:Addr),y=.ref p/\(CS K H p vs\/Bs K H p vs)/\Ab K H ps vs/\Rep K H px x/\SeqAt.shaped (Al px)=true/\(∀p∈ps,SeqAt.shaped (Al p)=true)/\Q (.bl (if neg=true then !inD ps px else inD ps px)) H
theorem MA{AE:List (Addr×Obj)}{σ:St}{H:Hp}{s:Shared}(I:Inv X AE σ H s){dx:PyData}:∀{ps:List PV}{vs:List V}{us:List Value},Ab X.K H ps vs->As vs us->(∀p∈ps,SeqAt.shaped (Al p)=true)->us.any (EH s.heap dx)=ps.any λp=>PyData.eqv (Al p) dx
 |[],vs,us,h,r,_=>by subst h;cases r;rfl
 |p::ps,vs,us,h,r,hs=>by
  obtain⟨v,vr,rfl,hv,hr⟩:=h;cases r with
  |cons r1 r2=>
   obtain⟨as,ra⟩:=Rep.reads I (SeqAt.canLay_of_shaped<|hs p AAu) hv r1;simp only[ABc,ABc,XS ra<|SeqAt.canLay_of_shaped<|hs p AAu,MA I hr r2 λq hq=>hs q<|AAs _ hq]
theorem M9{AE:List (Addr×Obj)}{σ:St}{H:Hp}{s:Shared}(I:Inv X AE σ H s)(hu:X.A.units+66<cLine){px:PV}{vx:V}{ux:Value}(hx:Rep X.K H px vx)(rx:RelV vx ux)(sx:SeqAt.shaped (Al px)=true):∀{ps:List PV}{vs:List V}{us:List Value},Ab X.K H ps vs->As vs us->(∀p∈ps,SeqAt.shaped (Al p)=true)->∀u∈us,SeqAt.EqAt X.A.in1 s u ux (EH s.heap (Al px) u)
 |[],vs,us,h,r,_=>by subst h;cases r;intro u hu;contradiction
 |p::ps,vs,us,h,r,hs=>by
  obtain⟨v,vr,rfl,hv,hr⟩:=h;cases r with
  |cons r1 r2=>
   intro u hm;rcases AAy.mp hm with rfl|hm
   .have sp:=hs p AAu;obtain⟨as,ra⟩:=Rep.reads I (SeqAt.canLay_of_shaped sp) hv r1;obtain⟨bs,rb⟩:=Rep.reads I (SeqAt.canLay_of_shaped sx) hx rx;rw[XS ra<|SeqAt.canLay_of_shaped sp];exact SeqAt.eqAt_reads _ _ _ _ _ _ as bs ra rb (SeqAt.canLay_of_shaped sp) (SeqAt.canLay_of_shaped sx) (SeqAt.room_of_shaped sp (by show X.A.units+1+64<cLine;lia))
   .exact M9 I hu hx rx sx hr r2 (λq hq=>hs q<|AAs _ hq) u hm
theorem qD(hu:X.A.units+66<cLine):BY X (compareOp .In)<|Uh X.K false:=by
 intro AE s σ H x y v u Q I rx ry h;obtain⟨px,ps,vs,p,rfl,hq,rl,hx,sx,ss,q⟩:=h;cases ry;rcases hq with hq|hq
 .obtain⟨its,r,pl,hz⟩:=I.list hq;refine SeqAt.in_listAt (EH s.heap<|Al px) pl.isList (λw hw=>M9 I hu hx rx sx rl r ss w<|by simpa using hw) ⟨.bl _,H,I,rfl,?_⟩;rw[show its.toArray.any (EH s.heap<|Al px)=its.any (EH s.heap<|Al px)by simp,MA I rl r ss];exact q
 .obtain⟨its,r,pl,hz⟩:=I.tuple hq;refine SeqAt.in_tupleAt (EH s.heap<|Al px) pl (λw hw=>M9 I hu hx rx sx rl r ss w<|by simpa using hw) ⟨.bl _,H,I,rfl,?_⟩;rw[show its.toArray.any (EH s.heap<|Al px)=its.any (EH s.heap<|Al px)by simp,MA I rl r ss];exact q
theorem qM(hu:X.A.units+66<cLine):BY X (compareOp .NotIn)<|Uh X.K true:=by
 intro AE s σ H x y v u Q I rx ry h;obtain⟨px,ps,vs,p,rfl,hq,rl,hx,sx,ss,q⟩:=h;cases ry;rcases hq with hq|hq
 .obtain⟨its,r,pl,hz⟩:=I.list hq;refine SeqAt.notIn_listAt (EH s.heap<|Al px) pl.isList (λw hw=>M9 I hu hx rx sx rl r ss w<|by simpa using hw) ⟨.bl _,H,I,rfl,?_⟩;rw[show its.toArray.any (EH s.heap<|Al px)=its.any (EH s.heap<|Al px)by simp,MA I rl r ss];exact q
 .obtain⟨its,r,pl,hz⟩:=I.tuple hq;refine SeqAt.notIn_tupleAt (EH s.heap<|Al px) pl (λw hw=>M9 I hu hx rx sx rl r ss w<|by simpa using hw) ⟨.bl _,H,I,rfl,?_⟩;rw[show its.toArray.any (EH s.heap<|Al px)=its.any (EH s.heap<|Al px)by simp,MA I rl r ss];exact q
set_option tactic.hygienic true
def Lc(ps:List PV):Bool:=ps.all λp=>SeqAt.shaped<|Al p
def CD(neg:Bool)(x y:RV):Option RV:=match y.seq with
 |some ps=>if SeqAt.shaped (Al x.any)=true/\Lc ps=true then some (.cl (.bl (if neg=true then !inD ps x.any else inD ps x.any)))else none
 |none=>none
theorem Z3{K:W.Frag}{neg:Bool}:DJ K (CD neg)<|Uh K neg:=by
 intro x y z H0 G H vx vy Q sub sh e rx ry q;unfold CD at e;split at e
 .rename_i ps es;split at e
  .rename_i hs;cases e;obtain⟨a,vs,rfl,hq,rl⟩:=ry.seq sub es;refine⟨x.any,ps,vs,a,rfl,hq,Ab.same sub rl,rx.any sub,hs.1,λp hp=>ABK.mp hs.2 p hp,q _ G H (Ar.refl sub) ?_⟩
   rfl
  .contradiction
 .contradiction
theorem gw(hu:X.A.units+66<cLine):Cc X .In<|CD false:=⟨_,qD hu,Z3⟩
theorem g7(hu:X.A.units+66<cLine):Cc X .NotIn<|CD true:=⟨_,qM hu,Z3⟩
end
theorem cS{k:Nat}{A:Around}(r:Br k A):A.units+66<cLine:=by have:=r.un;lia
inductive HL where
 |o (x:Out)|ex (nm:Str)
abbrev YF:=AX->Option HL
def N4(K:W.Frag)(E:XK)(AW AU G:Hp)(D:Ends):HL->Prop
 |.o x=>Jc K AW AU G D x
 |.ex nm=>∀C H',DI K nm C->Ak AU H'->Ak G H'->E (.ref C) none H'
theorem N4.mono{K:W.Frag}{E:XK}{AW AU G G1:Hp}{D:Ends}{o:HL}(s:Ak G G1)(h:N4 K E AW AU G D o):N4 K E AW AU G1 D o:=by
 cases o with
 |o x=>exact Jc.mono s h
 |ex nm=>exact λC H' e a b=>h C H' e a<|s.trans b
def cH(K:W.Frag)(E:XK)(AW AU:Hp)(g:YF):TS:=λD σ H=>∃G ρ o,SR K AW AU G H ρ σ/\g ρ=some o/\N4 K E AW AU G D o
def HP(X:Cx)(E:XK)(AW AU:Hp)(st:Stmt)(g:YF):Prop:=PS X st<|cH X.K E AW AU g
def HQ(X:Cx)(E:XK)(AW AU:Hp)(st:List Stmt)(g:YF):Prop:=Ce X st<|cH X.K E AW AU g
noncomputable def yL(g:SF):YF:=λρ=>(g ρ).map .o
noncomputable def FH(g h:YF):YF:=λρ=>match g ρ with|some (.o<|.nx ρ')=>h ρ'|o=>o
noncomputable def HF(t:BF)(g h:YF):YF:=λρ=>match t ρ with|some true=>g ρ|some false=>h ρ|none=>none
noncomputable def VV(nm:Str):YF:=λ_=>some<|.ex nm
def U0(K:W.Frag)(n:Nat)(F:List PV->Option RV)(XF:List PV->Option Str):Sp:=λvs H Q E=>vs.length=n/\∃G ps,Ak G H/\Ab K G ps vs/\
 ((∃r,F ps=some r/\∀v G' H',Ar G H G' H'->Bt K H G' H' r v->Q v H')\/(∃nm,XF ps=some nm/\∀C H',DI K nm C->Ak H H'->E (.ref C) none H'))
def HE(F:List PV->Option RV)(XF:List PV->Option Str)(ga:AF):YF:=λρ=>match ga ρ with
 |some rs=>(match CZ rs with
  |some ps=>(match F ps with|some _=>some (.o<|.nx ρ)|none=>(match XF ps with|some nm=>some (.ex nm)|none=>none))
  |none=>none)
 |none=>none
section
variable{X:Cx}{E:XK}{AW AU:Hp}{a b c e tg iter:Expr}{es:List Expr}{fa fb fc f:EF}{ga:AF}{t:BF}{pos:Pos}{st:Stmt}{BE body MP:List Stmt}{g h:YF}
theorem vS{g:SF}(h:Cg X AW AU st g):HP X E AW AU st<|yL g:=PS.imp h (by
 rintro D σ H ⟨G,ρ,o,S,e,k⟩;unfold yL at e;cases eg:g ρ with
 |none=>rw[eg]at e;contradiction
 |some x=>rw[eg]at e;cases e;exact⟨G,ρ,x,S,eg,k⟩)
theorem vT{g:SF}(h:Dm X AW AU BE g):HQ X E AW AU BE<|yL g:=Ce.imp h (by
 rintro D σ H ⟨G,ρ,o,S,e,k⟩;unfold yL at e;cases eg:g ρ with
 |none=>rw[eg]at e;contradiction
 |some x=>rw[eg]at e;cases e;exact⟨G,ρ,x,S,eg,k⟩)
theorem vU(h1:HP X E AW AU st g):HQ X E AW AU [st] g:=ah h1
theorem vQ(h1:HP X E AW AU st g)(h2:HQ X E AW AU BE h):HQ X E AW AU (st::BE)<|FH g h:=Ce.imp (af h1 h2) (by
 rintro D σ H ⟨G,ρ,o,S,e,k⟩;unfold FH at e;cases eg:g ρ with
 |none=>rw[eg]at e;contradiction
 |some o1=>
  rw[eg]at e;cases o1 with
  |ex nm=>cases e;exact⟨G,ρ,_,S,eg,k⟩
  |o x=>
   cases x with
   |nx A9=>exact⟨G,ρ,_,S,eg,λAc G' H' s S'=>⟨G',A9,o,S',e,k.mono s⟩⟩
   |rt r=>cases e;exact⟨G,ρ,_,S,eg,k⟩
   |bk r=>cases e;exact⟨G,ρ,_,S,eg,k⟩
   |ct r=>cases e;exact⟨G,ρ,_,S,eg,k⟩)
theorem vR(hc:DR X c t)(ha:HQ X E AW AU body g)(hb:HQ X E AW AU MP h):HP X E AW AU (.If c body MP pos)<|HF t g h:=PS.imp (ae hc ha hb) (by
 rintro D σ H ⟨G,ρ,o,S,e,k⟩;unfold HF at e;split at e
 .rename_i et;exact⟨G,ρ,true,S.r,et,λG1 H1 s1=>Yw ⟨G1,ρ,o,S.step s1,e,k.mono s1.gg⟩⟩
 .rename_i et;exact⟨G,ρ,false,S.r,et,λG1 H1 s1=>Yv ⟨G1,ρ,o,S.step s1,e,k.mono s1.gg⟩⟩
 .contradiction)
theorem vV{x:Str}{np Ay:Pos}{m:Str}{j:Nat}{mp:Pos}{IU:List Value}{B JI TZ:String}(O:∃C,DI X.K x C/\OwnCls x C IU JI X.mg X.base)(FB:ExcBaseFacts B JI TZ IU)(hc:X.calm=true)(hx:Raises X E)(hg:Gl X x)(hd:(x==("__debug__"))=false) (he:starEach [.Constant (.str m) j mp] X.env=(false,eval (.Constant (.str m) j mp) X.env)::starEach [] X.env) (A7:(backTo Ay<|starEach [] X.env).any (·.1)=false) : HP X E AW AU (.Raise (some<|.Call (.Name x np) [.Constant (.str m) j mp] [] Ay) none pos)<|VV x:=by obtain⟨C,hC,O⟩:=O;refine PS.imp (sI O FB hc hg (EW aJ F9) hx hd he A7) λD σ H ⟨G,ρ,o,S,e,k⟩=>?_;cases e;exact⟨by show 1<=sizeLine;decide,k C H hC S.hh S.r.sub⟩
set_option tactic.hygienic true
theorem vO{x:Str}{n:Nat}{F:List PV->Option RV}{XF:List PV->Option Str}{p:Pos}{CX:EB}{k:Nat}{fa:Addr}{fd:FuncData}{ps:List Str}(Fn:Cd X.prog X.w X.K X.mg X.base CX k fa fd ps<|U0 X.K n F XF)(hr:Br k X.A)(hm:X.mg x=some (.ref fa))(hk:W.keepIn X.K (.ref fa)=true)(hb:Binds X.K fd ps []) (hp:Passes CX X E) (ha:Cf X (e::es) ga) (Hl:∀ρ rs,ga ρ=some rs->rs.length=n) (hg:Gl X x:=by rfl) (CA:(x==("__debug__"))=false:=by decide) (he:starEach (e::es) X.env=(false,eval e X.env)::starEach es X.env:=by rfl) {Ay:Pos} (A7:(backTo Ay<|starEach es X.env).any (·.1)=false:=by rfl) (hs:swapsWith (.Call (.Name x p) (e::es) [] Ay) none pos.line X.env=pure false:=by rfl):HP X E AW AU (.Expr (.Call (.Name x p) (e::es) [] Ay) pos)<|HE F XF ga:=by
 refine PS.imp (aa (UW Fn hr hg hm hk hb .nil hp ha CA he A7) hs) λD σ H ⟨G,ρ,o,S,e,k⟩=>?_;unfold HE at e;split at e
 .rename_i rs eg;split at e
  .rename_i qs eq;refine⟨G,ρ,rs,S.r,eg,λvs G1 H1 s1 rv=>⟨?_,DX G1 H H1,qs,s1.all.sub,?_,?_⟩⟩
   .rw[ABs,<-Hl ρ rs eg];exact(Paired.length rv).symm
   .rw[ABs];exact IW s1.sub rv eq
   .split at e
    .rename_i r er;cases e;exact .inl ⟨r,er,λv G' H' s _=>k σ _ H' (s1.all.gg.trans s.gg)<|(S.step s1.all).step s⟩
    .split at e
     .rename_i nm ex;cases e;exact .inr ⟨nm,ex,λC H' hC sm=>k C H' hC (S.hh.trans<|s1.hh.trans sm)<|S.r.sub.trans<|s1.hh.trans sm⟩
     .contradiction
  .contradiction
 .contradiction
end
def HL.val:HL->Option RV
 |.o x=>x.val
 |.ex _=>none
noncomputable def HL.exc:HL->Option Str
 |.ex nm=>some nm
 |.o _=>none
def E2(N n:Nat)(g:YF):List PV->Option RV:=λps=>if ps.length=n then(g<|A5 N ps).bind HL.val else none
def Hb(N n:Nat)(g:YF):List PV->Option Str:=λps=>if ps.length=n then(g<|A5 N ps).bind HL.exc else none
theorem j8{P:Program}{w:World}{K:W.Frag}{mg:Str->Option Value}{base:Heap}{x qual:Str}{st:Stmt}{f:Addr}{fd:FuncData}{N ps:List Str}{k:Nat}{g:YF}(F:Ec K x qual st f fd)(S:HI N ps<|BU st) (Fv:∀(A1:Value)(A:Around)(outer:List Env)(s:Shared)(H:Hp)(E:XK)(AW AU:Hp),Br k (A.deeper<|envOfC qual (BU st) s.heap.objs.size f A1)->HQ (MK P w K mg base N qual (BU st) f A1 A outer s H E) E AW AU (D2 st) g) : Cd P w K mg base (GO P w) (k+1) f fd ps<|U0 K ps.length (E2 N.length ps.length g)<|Hb N.length ps.length g:=by
 obtain⟨oc,od,kV,doc,pm,an,A1,ct,F8,rfl,lk,BV⟩:=F.ex;refine Xw lk BV S (λvs H Q E h=>h.1) λA outer s H vs Q E hr h=>?_;obtain⟨hl,G,qs,sub,rl,h⟩:=h;refine⟨_,Fv A1 A outer s H E G H hr,?_⟩;rcases h with⟨r,e,q⟩|⟨nm,e,q⟩
 .unfold E2 at e;split at e
  .cases eg:g (A5 N.length qs)with
   |none=>rw[eg]at e;contradiction
   |some o=>
    rw[eg]at e;refine⟨G,A5 N.length qs,o,U1 sub rl,eg,?_⟩;cases o with
    |ex nm=>contradiction
    |o x=>
     cases x with
     |rt r'=>cases e;exact λv G' H' s rv=>q v G' H' s rv
     |nx ρ=>cases e;exact λAc G' H' s S'=>q .Au G' H' S'.JO<|by rfl
     |bk ρ=>contradiction
     |ct ρ=>contradiction
  .contradiction
 .unfold Hb at e;split at e
  .cases eg:g (A5 N.length qs)with
   |none=>rw[eg]at e;contradiction
   |some o=>
    rw[eg]at e;refine⟨G,A5 N.length qs,o,U1 sub rl,eg,?_⟩;cases o with
    |ex nm'=>cases e;exact λC H' hC sm _=>q C H' hC sm
    |o x=>contradiction
  .contradiction
def FL(P:Program)(w:World)(K:W.Frag)(mg:Str->Option Value)(base:Heap)(x:Str)(k n:Nat)(F:List PV->Option RV)(XF:List PV->Option Str):Prop:=
 ∃f fd ps,Cd P w K mg base (GO P w) k f fd ps (U0 K n F XF)/\mg x=some (.ref f)/\W.keepIn K (.ref f)=true/\Binds K fd ps []/\ps.length=n
theorem FL.toG{P:Program}{w:World}{K:W.Frag}{mg:Str->Option Value}{base:Heap}{x:Str}{k n:Nat}{F:List PV->Option RV}{XF:List PV->Option Str}(h:FL P w K mg base x k n F XF):BO P w K mg base x k n F:=by
 obtain⟨f,fd,ps,h1,h2,h3,h4,h5⟩:=h;refine⟨f,fd,ps,⟨λvs H Q E z=>by rw[h5];exact z.1,λA outer s H args us vs Q E hr e0 hb r z=>?_⟩,h2,h3,h4,h5⟩;obtain⟨hl,G,qs,rr,sub,rl,e,q⟩:=z;refine codeAny_mono (h1.run A outer s H args us vs Q E0 hr e0 hb r ⟨hl,G,qs,sub,rl,.inl ⟨rr,e,q⟩⟩) λres s' hq=>?_;cases res with
 |error e=>
  obtain⟨_,_,_,_,_,_,z⟩:=hq;exact z.elim
 |ok fl=>cases fl<;>exact hq
noncomputable def Th(nm c:Str):Bool:=c==("ValueError" : Str)||c==("WardError" : Str)||nm==c
def Hi(L:List Str)(i:Nat)(c:Str):EF:=λρ=>match ρ[i]? with|some (some<|.exc nm)=>if L.contains nm=true then some (.cl<|.bl<|Th nm c)else none|_=>none
def vh(K:W.Frag)(c:Value):List V->Hp->VK->Prop:=λvs H Q=>∃a D y b,vs=[.ref a,y]/\(∀u,RelV y u->u=c)/\H a=some (.ext<|Ed a D)/\Lp K D/\W.kitOne K (.ref D) c=some b/\Q (.bl b) H
section
variable{X:Cx}{AW AU:Hp}{a b e:Expr}{es:List Expr}{fa fb f:EF}{ga:AF}{pos:Pos}
theorem gJ{c:Value}:Cz X (.builtin "isinstance")<|vh X.K c:=by intro AE s σ H xs us Q I r h;obtain⟨x,D,y,k,rfl,hy,ha,Z,hk,q⟩:=h;obtain⟨u,u2,rfl,ru,NP⟩:=vals2 r;cases (show u=Value.ref x from ru);rw[hy u2 NP];have hx:=(show B1 X.prog X.w H s.heap x (.ext<|Ed x D)from I.Af x _ ha).1;exact W.kia_one (n5 Z) I.BC hx hk (λz=>nomatch z) λtk=>⟨.bl k,H,I.tok _,rfl,q⟩
def IM(K:W.Frag)(L:List Str)(x:Str)(c:Value):Prop:=∀nm D,L.contains nm=true->DI K nm D->Lp K D/\W.kitOne K (.ref D) c=some (Th nm x)
theorem ai{L:List Str}(i:Nat){n x:Str}{u:Value}{y:V}{np p p2:Pos}(T:IM X.K L x u)(hy:∀z,RelV y z->z=u)(hc:PE X (.Name x p2)<|tC y)(hm:X.mg "isinstance" = none)(hN:X.N[i]? = some n:=by rfl)(hv:EE X.env.scope n:=by first|exact Or.inl rfl|exact Or.inr (Or.inl rfl)|exact Or.inr<|Or.inr rfl) (hd:(n==("__debug__"))=false:=by decide) (BV:(n==("__classdict__"))=false:=by decide) (hg:Gl X "isinstance":=by rfl) (he:starEach [.Name n np,.Name x p2] X.env=(false,eval (.Name n np) X.env)::starEach [.Name x p2] X.env:=by rfl) (El:starEach [.Name x p2] X.env=(false,eval (.Name x p2) X.env)::starEach [] X.env:=by rfl) (A7:(backTo pos<|starEach [.Name x p2] X.env).any (·.1)=false:=by rfl) : PX X (.Call (.Name "isinstance" p) [.Name n np,.Name x p2] [] pos)<|Hi L i x:=by
 refine PE.imp (NJ (gJ (c:=u)) hg hm Rj (EW (GA hN hv hd BV) (EW hc F9 El) he) AAe AAe he A7) λσ H Q ⟨G,ρ,r,R,e,q⟩=>?_;unfold Hi at e;split at e
 .rename_i nm hn;split at e
  .rename_i hL;cases e;obtain⟨v,ev,x,D,rfl,hD,hG⟩:=R.slot i _ hn;obtain⟨Z,hk⟩:=T nm D hL hD;exact⟨_,ev,x,D,y,_,rfl,hy,R.sub _ _ hG,Z,hk,q _ G H (Ar.refl R.sub)<|by rfl⟩
  .contradiction
 .contradiction
theorem qx{x:Str}{C:Addr}{p:Pos}(hm:X.mg x=some (.ref C))(hg:Gl X x:=by rfl)(hd:(x==("__debug__"))=false:=by decide):PE X (.Name x p)<|tC<|.ref C:=UX hg hm rfl hd
theorem qw{x:Str}{T:String}{p:Pos}(hm:X.mg x=none)(hv:bootBuiltins x=some (.type T))(hg:Gl X x:=by rfl)(hn:x≠"__name__":=by decide)(hd:(x==("__debug__"))=false:=by decide):PE X (.Name x p)<|tC<|.ty T:=UT hg hm hv rfl hn hd
def vf:V->List V->Hp->VK->Prop:=λx vs H Q=>∃(l:Addr)(bs:List Bool)(b:Bool),x=.ref l/\vs=[.bl b]/\Rd H l (.lst<|bs.map V.bl)/\Q (.int (bs.countP (· == b))) H
theorem V9{bs:List Bool}{us:List Value}(r:As (bs.map V.bl) us):us=bs.map Value.bool:=by
 induction bs generalizing us with
 |nil=>cases r;rfl
 |cons b bs ih=>
  cases r with
  |cons r1 r2=>rw[show _=Value.bool b from r1,ih r2];rfl
theorem ow:N2 X "list.count" vf:=by
 intro AE s σ H x vs v us Q I rx rv h;obtain⟨l,bs,b,rfl,rfl,hH,q⟩:=h;cases rx;obtain⟨u,rfl,ru⟩:=rv.one;obtain rfl:u=Value.bool b:=ru;obtain⟨z,its,n,r,e⟩:=hH.ok I.Af;have hi:=V9 r;subst hi;refine call_meets F.slot_list_count ⟨_,e,rfl⟩ F.entry_list_count (F.args_list_count_2 _ _) (SeqAt.list_countAt l _ n none _ (.bool b) (λy=>match y with|.bool k=>k==b|_=>false)) ⟨e,λy hy=>?_,?_⟩
 .rw[List.mem_toArray]at hy;obtain⟨k,_,rfl⟩:=ABD.mp hy;exact SeqAt.EqAt.bool_bool k b
 .refine⟨.int _,H,I.tok _,⟨_,rfl⟩,?_⟩;have:((bs.map Value.bool).toArray.toList.countP λy=>match y with|.bool k=>k==b|_=>false)=bs.countP (· == b):=by rw[List.countP_map];rfl
  rw[this];exact q
def vg:V->List V->Hp->VK->Prop:=λx vs H Q=>∃(l:Addr)(bs:List Bool)(b:Bool),x=.ref l/\vs=[.bl b]/\Rd H l (.lst<|bs.map V.bl)/\bs.idxOf b<bs.length/\Q (.int<|bs.idxOf b) H
theorem oX{bs:List Bool}{y:Value}(h:y∈(bs.map Value.bool).toArray):∃k,y=.bool k:=by rw[List.mem_toArray]at h;obtain⟨k,_,e⟩:=ABD.mp h;exact⟨k,e.symm⟩
theorem ox:N2 X "list.index" vg:=by
 intro AE s σ H x vs v us Q I rx rv h;obtain⟨l,bs,b,rfl,rfl,hH,BM,q⟩:=h;cases rx;obtain⟨u,rfl,ru⟩:=rv.one;obtain rfl:u=Value.bool b:=ru;obtain⟨z,its,n,r,e⟩:=hH.ok I.Af;have hi:=V9 r;subst hi;have hz:=by simpa using z
 have h62:sizeLine<2 ^ 62:=AAe
 have K4:bs.idxOf b<(bs.map Value.bool).toArray.size:=by simpa using BM
 have TH:((bs.idxOf b):Int)<2 ^ 63-1:=U
 refine call_meets F.slot_list_index ⟨_,e,rfl⟩ F.entry_list_index (F.args_list_index_2 _ _) (SeqAt.list_indexAt l _ n none _ (.bool b) (λy=>match y with|.bool k=>k==b|_=>false) (bs.idxOf b) K4 TH ?_ (λm hm K4=>?_)) ⟨e,λy hy=>?_,?_⟩
 .simp
 .simpa using List.not_of_lt_findIdx K4
 .obtain⟨k,rfl⟩:=oX hy;exact SeqAt.EqAt.bool_bool k b
 .exact⟨.int _,H,I.tok _,⟨_,rfl⟩,q⟩
end
section
set_option tactic.hygienic true
variable{X:Cx}{E:XK}{AW AU:Hp}{a b e:Expr}{es:List Expr}{fa fb f:EF}{ga:AF}{pos:Pos}
def PR(x y:RV):Option RV:=match x.list,y with
 |some ps,.cl (.bl b)=>(match FO ps with|some bs=>some (.cl (.int (bs.countP (· == b))))|none=>none)
 |_,_=>none
def PY(x y:RV):Option RV:=match x.list,y with
 |some ps,.cl (.bl b)=>(match FO ps with|some bs=>if bs.idxOf b<bs.length then some (.cl<|.int<|bs.idxOf b)else none|none=>none)
 |_,_=>none
theorem tM{ap Ay:Pos}(ha:PX X a fa)(hb:PX X b fb)(Fu:attributeBase a "count" X.env (eval a X.env)=eval a X.env) (Gk:((backTo Ay<|starEach [b] X.env).all (λx=>!x.1)&&(backToKw Ay<|keywordEach [] X.env).all (λx=>x.1.isSome)&&decide ([b].length+([]:List Keyword).length+(if([]:List Keyword).isEmpty then 0 else 1)<30))=true)
 (Fz:(ap.endLine==Ay.line)=true) (hs:starEach [b] X.env=(false,eval b X.env)::starEach [] X.env) (J4:(backTo Ay<|starEach [] X.env).any (·.1)=false) :
 PX X (.Call (.Attribute a "count" ap) [b] [] Ay) (f2 PR fa fb):=
 PE.imp (UU ACn PySem.F.slot_list_count PySem.F.type_list_count ow ha (EW hb F9 hs) Fu Gk Fz hs J4) (by
  rintro σ H Q ⟨G,ρ,r,R,e,q⟩;unfold f2 at e;cases ea:fa ρ with
  |none=>rw[ea]at e;contradiction
  |some x=>
   rw[ea]at e;cases eb:fb ρ with
   |none=>rw[eb]at e;contradiction
   |some y=>
    rw[eb]at e;dsimp only at e;unfold PR at e;split at e
    .rename_i ps k el;split at e
     .rename_i bs Rz;cases e;refine⟨G,ρ,x,R,ea,λvx G1 H1 s1 rx=>?_⟩;obtain⟨l,vs,rfl,hl,rl⟩:=rx.list s1.sub el;refine⟨.inl ⟨rfl,vs,.inl hl⟩,G1,ρ,_,R.step s1,eb,λvy G2 H2 s2 ry=>?_⟩;rw[MG Rz rl]at hl;exact⟨l,bs,k,rfl,by rw[ry.bl],Rd.same s2.hh hl,q _ G2 H2 (s1.trans s2)<|by rfl⟩
     .contradiction
    .contradiction)
theorem tU{ap Ay:Pos}(ha:PX X a fa)(hb:PX X b fb)(Fu:attributeBase a "index" X.env (eval a X.env)=eval a X.env) (Gk:((backTo Ay<|starEach [b] X.env).all (λx=>!x.1)&&(backToKw Ay<|keywordEach [] X.env).all (λx=>x.1.isSome)&&decide ([b].length+([]:List Keyword).length+(if([]:List Keyword).isEmpty then 0 else 1)<30))=true)
 (Fz:(ap.endLine==Ay.line)=true) (hs:starEach [b] X.env=(false,eval b X.env)::starEach [] X.env) (J4:(backTo Ay<|starEach [] X.env).any (·.1)=false) :
 PX X (.Call (.Attribute a "index" ap) [b] [] Ay) (f2 PY fa fb):=
 PE.imp (UU ACn PySem.F.slot_list_index PySem.F.type_list_index ox ha (EW hb F9 hs) Fu Gk Fz hs J4) (by
  rintro σ H Q ⟨G,ρ,r,R,e,q⟩;unfold f2 at e;cases ea:fa ρ with
  |none=>rw[ea]at e;contradiction
  |some x=>
   rw[ea]at e;cases eb:fb ρ with
   |none=>rw[eb]at e;contradiction
   |some y=>
    rw[eb]at e;dsimp only at e;unfold PY at e;split at e
    .rename_i ps k el;split at e
     .rename_i bs Rz;split at e
      .rename_i BM;cases e;refine⟨G,ρ,x,R,ea,λvx G1 H1 s1 rx=>?_⟩;obtain⟨l,vs,rfl,hl,rl⟩:=rx.list s1.sub el;refine⟨.inl ⟨rfl,vs,.inl hl⟩,G1,ρ,_,R.step s1,eb,λvy G2 H2 s2 ry=>?_⟩;rw[MG Rz rl]at hl;exact⟨l,bs,k,rfl,by rw[ry.bl],Rd.same s2.hh hl,BM,q _ G2 H2 (s1.trans s2)<|by rfl⟩
      .contradiction
     .contradiction
    .contradiction)
def OJ(N:Nat)(g:SF):Str->Option RV:=λnm=>(g (some (.exc nm)::List.replicate (N-1) none)).bind Out.val
def Uz(K:W.Frag)(Fw:Str->Option RV):List V->Hp->VK->Prop:=λvs H Q=>∃a C nm z,vs=[.ref a]/\DI K nm C/\H a=some (.ext<|Ed a C)/\Fw nm=some (.cl<|.int z)/\∀H',Ak H H'->Q (.int z) H'
theorem j7{P:Program}{w:World}{K:W.Frag}{mg:Str->Option Value}{base:Heap}{x qual y:Str}{st:Stmt}{f:Addr}{fd:FuncData}{N:List Str}{k:Nat}{g:SF}(F:Ec K x qual st f fd)(S:HI N [y]<|BU st) (Fv:∀(A1:Value)(A:Around)(outer:List Env)(s:Shared)(H:Hp)(AW AU:Hp),Dy k (A.deeper<|envOfC qual (BU st) s.heap.objs.size f A1)->Dm (OE P w K mg base N qual (BU st) f A1 A outer s H) AW AU (D2 st) g) : Ly P w K mg base (k+1) f fd [y]<|Uz K<|OJ N.length g:=by
 refine j9 F S (λvs H Q h=>by obtain⟨_,_,_,_,rfl,_⟩:=h;rfl) λA1 A outer s H vs Q hr h=>?_;obtain⟨a,C,nm,z,rfl,hC,hH,e,q⟩:=h
 let G:Hp:=λb=>if b=a then some (.ext<|Ed a C)else none
 have hG:Ak G H:=λb o hb=>by
  by_cases YH:b=a
  .subst YH;have:G b=some (.ext<|Ed b C):=AAl rfl;rw[this]at hb;rw[hH];exact hb
  .have:G b=none:=AAj YH;rw[this]at hb;contradiction
 refine⟨_,Fv A1 A outer s H G H hr,?_⟩;unfold OJ at e;cases eg:g (some (.exc nm)::List.replicate (N.length-1) none)with
 |none=>rw[eg]at e;contradiction
 |some o=>
  rw[eg]at e;have JK:∀(i:Nat)(s:SV),(some (SV.exc nm)::List.replicate (N.length-1) none)[i]? = some (some s)->s.ES=true->False:=λi s h o=>by
   cases i with
   |zero=>simp at h;subst h;contradiction
   |succ i=>simp[AB9]at h
  refine⟨G,_,o,⟨⟨hG,λi sv h=>?_,λi j ps qs _ _ _ h o=>(JK i ps h o).elim,?_⟩,Ak.refl _,Ak.refl _,λ_ _ n=>n,λi ps _ o h=>(JK i ps h o).elim⟩,eg,?_⟩
  .cases i with
   |zero=>
    simp at h;subst h;exact⟨.ref a,by rfl,a,C,rfl,hC,AAl rfl⟩
   |succ i=>simp[AB9]at h
  .unfold start;simp
  .cases o with
   |rt r=>
    cases e;exact λv G' H' s rv=>by rw[rv.int];exact q H' s.hh
   |nx ρ=>cases e
   |bk ρ=>contradiction
   |ct ρ=>contradiction
def Kx(i j:Nat)(Fw:Str->Option RV):SF:=λρ=>match ρ[j]? with
 |some (some<|.exc nm)=>(match Fw nm with|some (.cl<|.int z)=>some (.nx<|ρ.set i<|some<|.im<|.int z)|_=>none)
 |_=>none
theorem u7(i j:Nat){x n y:Str}{p fp np Ay:Pos}{Fw:Str->Option RV}{k:Nat}{fw:Addr}{fd:FuncData}{ps:List Str}(FM:Ly X.prog X.w X.K X.mg X.base k fw fd ps<|Uz X.K Fw)(hr:Dy k X.A)(hm:X.mg y=some (.ref fw))(hk:W.keepIn X.K (.ref fw)=true)(hb:Binds X.K fd ps [])(hN:X.N.Nodup) (hi:X.N[i]? = some x:=by rfl) (hj:X.N[j]? = some n:=by rfl) (hx:Loc X.env.scope x:=by first|exact Or.inl rfl|exact Or.inr rfl) (hv:EE X.env.scope n:=by first|exact Or.inl rfl|exact Or.inr (Or.inl rfl)|exact Or.inr<|Or.inr rfl) (hg:Gl X y:=by rfl) (hd:(n==("__debug__"))=false:=by decide) (BV:(n==("__classdict__"))=false:=by decide) (CA:(y==("__debug__"))=false:=by decide) (he:starEach [.Name n np] X.env=(false,eval (.Name n np) X.env)::starEach [] X.env:=by rfl) (A7:(backTo Ay<|starEach [] X.env).any (·.1)=false:=by rfl) (hs:swapsWith (.Call (.Name y fp) [.Name n np] [] Ay) (some<|.Name x p) pos.line X.env=pure false:=by rfl) (hf:X.fn x=true\/X.env.scope.names.lookup x=some .local:=by first|exact .inl rfl|exact .inr rfl) : Cg X AW AU (.Assign [.Name x p] (.Call (.Name y fp) [.Name n np] [] Ay) pos)<|Kx i j Fw:=
 PS.imp (QE hN hi hx (q8 FM hr hg hm hk hb (EW (GA hj hv hd BV) F9 he) CA he A7) hs hf) (by
  rintro D σ H ⟨G,ρ,o,S,e,ok⟩;unfold Kx at e;split at e
  .rename_i nm hn;split at e
   .rename_i z ez;cases e;obtain⟨v,ev,a,C,rfl,hC,hG⟩:=S.r.slot j _ hn;refine⟨_,ev,a,C,nm,z,rfl,hC,S.r.sub _ _ hG,ez,λH' sm=>?_⟩;have S':=S.step (show Ar G H G H' from⟨Ak.refl _,sm,S.r.sub.trans sm,λ_ _ n=>n⟩);exact ok _ _ _ (Ak.refl _)<|S'.turn (S'.r.DP<|by rfl) C0.DP
   .contradiction
  .contradiction)
theorem SR.we{K:W.Frag}{G H:Hp}{ρ:AX}{σ:St}{i:Nat}(S:SR K AW AU G H ρ σ):SR K AW AU G H (ρ.set i none)<|σ.set i none:=by
 have back:∀(j:Nat)(sv:SV),(ρ.set i none)[j]? = some (some sv)->j≠i/\ρ[j]? = some (some sv):=λj sv h=>by
  by_cases hj:j=i
  .subst hj;rw[List.getElem?_set]at h;simp at h
  .rw[AA2<|ABX hj]at h;exact⟨hj,h⟩
 have fwd:∀(j:Nat),j≠i->(σ.set i none)[j]? = σ[j]?:=λj hj=>AA2<|ABX hj;refine⟨⟨S.r.sub,λj sv h=>?_,λj k ps qs b c Ap h1 o1 h2 o2 h3 h4=>?_,by simpa using S.r.len⟩,S.gg,S.hh,S.ex,λj ps b o1 h1 h2=>?_⟩
 .obtain⟨hj,h'⟩:=back j sv h;rw[fwd j hj];exact S.r.slot j sv h'
 .obtain⟨hj,Im⟩:=back j _ h1;obtain⟨hk,X9⟩:=back k _ h2;rw[fwd j hj]at h3;rw[fwd k hk]at h4;exact S.r.apart j k ps qs b c Ap Im o1 X9 o2 h3 h4
 .obtain⟨hj,Im⟩:=back j _ h1;rw[fwd j hj]at h2;exact S.new j ps b o1 Im h2
end
theorem _root_.Internal.L2.Dy.units{k:Nat}{A:Around}(r:Dy k A):A.units+64<cLine:=by have:=r.un;lia
theorem _root_.Internal.L2.Dy.mono{j k:Nat}{A:Around}(r:Dy k A)(h:j<=k):Dy j A:=⟨by have:=r.dp;lia,by have:=r.un;omega⟩
theorem wD{k:Nat}{X:Cx}{ea:Addr}(r:Br k X.A):Dy k (X.E4 ea).A:=⟨r.dp,r.un⟩
def N1(P:Program)(w:World)(K:W.Frag)(mg:Str->Option Value)(base:Heap)(x:Str)(k:Nat)(Fw:Str->Option RV):Prop:=
 ∃f fd ps,Ly P w K mg base k f fd ps (Uz K Fw)/\mg x=some (.ref f)/\W.keepIn K (.ref f)=true/\Binds K fd ps []
section
variable{X:Cx}{E:XK}{AW AU:Hp}{a b e:Expr}{es:List Expr}{fa fb f:EF}{ga:AF}{pos:Pos}
theorem vP{x:Str}{j k n:Nat}{F:List PV->Option RV}{XF:List PV->Option Str}{p Ay:Pos}(c:FL X.prog X.w X.K X.mg X.base x j n F XF)(hr:Br k X.A)(hp:Passes (GO X.prog X.w) X E)(ha:Cf X (e::es) ga)(Hl:∀ρ rs,ga ρ=some rs->rs.length=n)(hk:j<=k) (hg:Gl X x) (CA:(x==("__debug__"))=false) (he:starEach (e::es) X.env=(false,eval e X.env)::starEach es X.env) (A7:(backTo Ay<|starEach es X.env).any (·.1)=false) (hs:swapsWith (.Call (.Name x p) (e::es) [] Ay) none pos.line X.env=pure false):HP X E AW AU (.Expr (.Call (.Name x p) (e::es) [] Ay) pos)<|HE F XF ga:=by obtain⟨f,fd,ps,h1,h2,h3,h4,h5⟩:=c;exact vO (h1.mono hk) hr h2 h3 h4 hp ha Hl hg CA he A7 hs
theorem u9(i j:Nat){l k:Nat}{x n y:Str}{p fp np Ay:Pos}{Fw:Str->Option RV}(c:N1 X.prog X.w X.K X.mg X.base y l Fw)(hr:Dy k X.A)(hN:X.N.Nodup)(hk:l<=k) (hi:X.N[i]? = some x) (hj:X.N[j]? = some n) (hx:Loc X.env.scope x) (hv:EE X.env.scope n) (hg:Gl X y) (hd:(n==("__debug__"))=false) (BV:(n==("__classdict__"))=false) (CA:(y==("__debug__"))=false) (he:starEach [.Name n np] X.env=(false,eval (.Name n np) X.env)::starEach [] X.env) (A7:(backTo Ay<|starEach [] X.env).any (·.1)=false) (hs:swapsWith (.Call (.Name y fp) [.Name n np] [] Ay) (some<|.Name x p) pos.line X.env=pure false) (hf:X.fn x=true\/X.env.scope.names.lookup x=some .local) : Cg X AW AU (.Assign [.Name x p] (.Call (.Name y fp) [.Name n np] [] Ay) pos)<|Kx i j Fw:=by obtain⟨f,fd,ps,h1,h2,h3,h4⟩:=c;exact u7 i j h1 (hr.mono hk) h2 h3 h4 hN hi hj hx hv hg hd BV CA he A7 hs hf
end
theorem qi{K:W.Frag}{C:Addr}{bm:List Value}{n:String}(q:W.excIn K C bm n=true):(W.clsIn K C).isSome=true/\W.typeIn K (.ref C)=some (.type "type"):=by
 unfold W.excIn at q;split at q
 .rename_i ho;refine⟨by unfold W.clsIn;rw[ho];rfl,by unfold W.typeIn;dsimp only;rw[ho];rfl⟩
 .contradiction
theorem n0{K:W.Frag}{t:Value}:W.kitOne K t t=some true:=by unfold W.kitOne;rw[AAl AAd]
theorem kit_cls{K:W.Frag}{t:Value}{C:Addr}{bm:List Value}{n:String}{b:Bool}(q:W.excIn K C bm n=true)(h:W.subIn K t (.ref C)=some b):W.kitCls K t (.ref C)=some b:=by obtain⟨h1,h2⟩:=qi q;unfold W.kitCls;dsimp only;rw[AAl (by rw[h1,h2];rfl)];exact h
theorem Pe{K:W.Frag}{t:Value}{C:Addr}{bm:List Value}{n:String}{b:Bool}(Ap:(t==Value.ref C)=false)(q:W.excIn K C bm n=true)(h:W.subIn K t (.ref C)=some b):W.kitOne K t (.ref C)=some b:=by unfold W.kitOne;rw[AAj (by rw[Ap];simp)];exact kit_cls q h
theorem nz{K:W.Frag}{D:Addr}{T:String}{b:Bool}(hm:W.kitMeta T=true)(h:W.subIn K (.ref D) (.type T)=some b):W.kitOne K (.ref D) (.type T)=some b:=by unfold W.kitOne;unfold W.kitCls;dsimp only;rw[AAl hm];exact h
theorem jh{K:W.Frag}{C D:Addr}{bm:List Value}{n:String}(q:W.excIn K C bm n=true)(hb:W.subIn K (.ref C) (.type "BaseException")=some true)(h:W.subIn K (.ref D) (.ref C)=some true):W.exmOne K (.ref D) (.ref C)=some true:=by unfold W.exmOne;rw[AAl (by rw[hb];rfl)];exact kit_cls q h
theorem Ru{n nm:Str}(h:List.contains [n] nm=true):nm=n:=by simpa using h
theorem K9{K:W.Frag}{n x:Str}{D:Addr}{c:Value}{b:Bool}(hn:DI K n D)(Z:Lp K D)(h:W.kitOne K (.ref D) c=some b)(hb:Th n x=b):IM K [n] x c:=λnm D' hL hD=>by obtain rfl:=Ru hL;obtain rfl:=DI.inj hD hn;exact⟨Z,by rw[hb];exact h⟩
noncomputable def C7:List (List Int)->List PV->List Int->Option PV
 |k'::ks,x::xs,k=>if k'=k then some x else C7 ks xs k
 |_,_,_=>none
noncomputable def GY:List (List Int)->List PV->List Int->PV->List PV
 |k'::ks,x::xs,k,v=>(if k'=k then v else x)::GY ks xs k v
 |_,_,_,_=>[]
noncomputable def Fm(ks:List<|List Int)(k:List Int):List<|List Int:=if k∈ks then ks else ks ++ [k]
def Hc(ks:List<|List Int)(xs:List PV)(k:List Int)(v:PV):List PV:=if k∈ks then GY ks xs k v else xs ++ [v]
theorem Tr{a b:List Int}(h:Cj a=Cj b):a=b:=by exact(List.map_inj_right λx y e=>Sum.inl.inj e).mp h
theorem ZE(k:List Int):(Cj k).map kV=k.map V.int:=by
 unfold Cj;rw[ABO]
 rfl
section
variable{K:W.Frag}{G:Hp}
theorem XE:∀{ks:List (List Int)}{xs:List PV}{AR:List (List Key×V)}{k:List Int}{p:PV},AR.map (·.1)=ks.map Cj->Ab K G xs (AR.map (·.2))->C7 ks xs k=some p->∃v,GL AR (Cj k)=some v/\Rep K G p v
 |[],_,_,_,_,_,_,e=>by contradiction
 |_::_,[],_,_,_,_,_,e=>by contradiction
 |k'::ks,x::xs,[],k,p,h,_,_=>by simp at h
 |k'::ks,x::xs,(q,v)::AR,k,p,h,r,e=>by
  simp only[AAx,AD4]at h;obtain⟨u,us,eu,hu,hr⟩:=r;cases eu;unfold C7 at e;by_cases hk:k'=k
  .rw[AAl hk]at e;cases e;exact⟨v,Qi (by rw[h.1,hk]),hu⟩
  .rw[AAj hk]at e;obtain⟨w,h1,h2⟩:=XE h.2 hr e;exact⟨w,by rw[Qh λz=>hk<|Tr<|h.1.symm.trans z];exact h1,h2⟩
theorem XN{k:List Int}{p:PV}{v:V}(hp:Rep K G p v):∀{ks:List (List Int)}{xs:List PV}{AR:List (List Key×V)},AR.map (·.1)=ks.map Cj->Ab K G xs (AR.map (·.2))->(AR.map λkv=>if kv.1=Cj k then(kv.1,v)else kv).map (·.1)=ks.map Cj/\Ab K G (GY ks xs k p) ((AR.map λkv=>if kv.1=Cj k then(kv.1,v)else kv).map (·.2))
 |[],xs,[],_,r=>by exact⟨rfl,by rfl⟩
 |[],_,_::_,h,_=>by simp at h
 |_::_,_,[],h,_=>by simp at h
 |k'::ks,[],_::_,_,r=>by unfold Ab at r;simp at r
 |k'::ks,x::xs,(q,u)::AR,h,r=>by
  simp only[AAx,AD4]at h;obtain⟨u',us,eu,hu,hr⟩:=r;cases eu;obtain⟨h1,h2⟩:=XN (k:=k) hp h.2 hr;obtain⟨rfl,_⟩:=h;unfold GY;by_cases hk:k'=k
  .subst hk;rw[AAx,AAl rfl,AAl rfl,AAx,h1];refine⟨rfl,?_⟩;exact⟨_,_,rfl,hp,h2⟩
  .rw[AAx,AAj hk,AAj λz=>hk<|Tr z,AAx,h1];refine⟨rfl,?_⟩;exact⟨_,_,rfl,hu,h2⟩
theorem i7{ks:List (List Int)}{xs:List PV}{AR:List (List Key×V)}{k:List Int}{p:PV}{v:V}(h:AR.map (·.1)=ks.map Cj)(r:Ab K G xs (AR.map (·.2)))(hp:Rep K G p v) : (FD AR (Cj k) v).map (·.1)=(Fm ks k).map Cj/\Ab K G (Hc ks xs k p) ((FD AR (Cj k) v).map (·.2)):=by
 have e:(AR.any λkv=>decide (kv.1=Cj k))=decide (k∈ks):=by
  have:(AR.any λkv=>decide (kv.1=Cj k))=(AR.map (·.1)).any λq=>decide (q=Cj k):=by rw[ACW];rfl
  rw[this,h,ACW,AB5];simp only[List.any_eq_true,Function.comp,decide_eq_true_eq];exact⟨(by rintro⟨x,hx,e⟩;exact Tr e ▸ hx),λhx=>⟨k,hx,rfl⟩⟩
 delta FD Fm Hc
 rw[e];by_cases hk:k∈ks
 .rw[AAl (by simpa using hk),AAl hk,AAl hk];exact XN hp h r
 .rw[AAj (by simpa using hk),AAj hk,AAj hk,ABQ,ABQ,ABQ,h];exact⟨rfl,Ab.of<|LS r.paired<|.cons hp .nil⟩
end
theorem i5(ks:List<|List Int)(k:List Int):(Fm ks k).length<=ks.length+1:=by
 unfold Fm;split
 .lia
 .rw[ABA];exact AAw _
theorem XM:∀(ks:List<|List Int)(xs:List PV)(k:List Int)(v:PV),ks.length=xs.length->(GY ks xs k v).length=xs.length
 |[],[],_,_,_=>rfl
 |[],_::_,_,_,h=>by simp at h
 |_::_,[],_,_,h=>by simp at h
 |_::ks,_::xs,k,v,h=>by unfold GY;simp only[AA6,AA6,XM ks xs k v<|by simpa using h]
theorem i6{ks:List (List Int)}{xs:List PV}(h:ks.length=xs.length)(k:List Int)(v:PV):(Fm ks k).length=(Hc ks xs k v).length:=by
 delta Fm Hc
 split
 .rw[XM ks xs k v h,h]
 .simp only[ABA,ABA,h];rfl
theorem XH(k j:List Int)(v:PV):∀(ks:List<|List Int)(xs:List PV),ks.length=xs.length->k∉ks->C7 (ks ++ [k]) (xs ++ [v]) j=if j=k then some v else C7 ks xs j
 |[],[],_,_=>by
  show(if k=j then some v else C7 [] [] j)=_;by_cases e:j=k
  .rw[AAl e,AAl e.symm]
  .rw[AAj e,AAj<|ABX e]
 |[],_::_,h,_=>by simp at h
 |_::_,[],h,_=>by simp at h
 |k'::ks,x::xs,h,n=>by
  simp only[AAy,not_or]at n;show(if k'=j then some x else C7 (ks ++ [k]) (xs ++ [v]) j)=if j=k then some v else if k'=j then some x else C7 ks xs j
  rw[XH k j v ks xs (by simpa using h) n.2];by_cases e:k'=j
  .subst e;rw[AAl rfl,AAl rfl,AAj λz=>n.1 z.symm]
  .rw[AAj e,AAj e]
theorem XG(k j:List Int)(v:PV):∀(ks:List<|List Int)(xs:List PV),ks.length=xs.length->k∈ks->C7 ks (GY ks xs k v) j=if j=k then some v else C7 ks xs j
 |[],_,_,n=>by cases n
 |_::_,[],h,_=>by simp at h
 |k'::ks,x::xs,h,n=>by
  show(if k'=j then some (if k'=k then v else x)else C7 ks (GY ks xs k v) j)=if j=k then some v else if k'=j then some x else C7 ks xs j
  by_cases e:k'=j
  .subst e;rw[AAl rfl,AAl rfl];split<;>rfl
  .rw[AAj e,AAj e];by_cases hk:k∈ks
   .exact XG k j v ks xs (by simpa using h) hk
   .have:=by simpa[hk]using n
    subst this;rw[AAj<|ABX e];have:∀(ks:List<|List Int)(xs:List PV),ks.length=xs.length->k∉ks->GY ks xs k v=xs:=by
     intro ks
     induction ks with
     |nil=>intro xs h _;cases xs with
      |nil=>rfl
      |cons _ _=>simp at h
     |cons q qs ih=>intro xs h n;cases xs with
      |nil=>simp at h
      |cons y ys=>
       simp only[AAy,not_or]at n;unfold GY;rw[AAj<|ABX n.1,ih ys (by simpa using h) n.2]
    rw[this ks xs (by simpa using h) hk]
theorem iu{ks:List (List Int)}{xs:List PV}(h:ks.length=xs.length)(k j:List Int)(v:PV):C7 (Fm ks k) (Hc ks xs k v) j=if j=k then some v else C7 ks xs j:=by
 delta Fm Hc
 by_cases hk:k∈ks
 .rw[AAl hk,AAl hk];exact XG k j v ks xs h hk
 .rw[AAj hk,AAj hk];exact XH k j v ks xs h hk
section
variable{X:Cx}{a b c e tg iter:Expr}{es:List Expr}{fa fb fc f:EF}{g ga:AF}{pos:Pos}{AW AU:Hp}
noncomputable def JL:List RV->Option (List Int)
 |[]=>some []
 |.cl (.int i)::r=>(JL r).map (i :: ·)
 |_::_=>none
theorem Ul{K:W.Frag}{H G' H':Hp}:∀{rs:List RV}{vs:List V}{k:List Int},JL rs=some k->C1 K H G' H' rs vs->vs=k.map V.int
 |[],_,_,e,r=>by cases e;cases r;rfl
 |.cl (.int i)::rs,_,k,e,r=>by
  unfold JL at e;cases er:JL rs with
  |none=>rw[er]at e;contradiction
  |some q=>
   rw[er]at e;cases e;cases r with
   |cons r1 r2=>rw[r1.int,Ul er r2];rfl
 |.cl .Au::_,_,_,e,_=>by contradiction
 |.cl (.bl _)::_,_,_,e,_=>by contradiction
 |.cl (.str _)::_,_,_,e,_=>by contradiction
 |.cl (.tup _)::_,_,_,e,_=>by contradiction
 |.cl (.lst _)::_,_,_,e,_=>by contradiction
 |.cl (.rd _)::_,_,_,e,_=>by contradiction
 |.cl (.Co _ _)::_,_,_,e,_=>by contradiction
 |.bo _::_,_,_,e,_=>by contradiction
 |.fr _::_,_,_,e,_=>by contradiction
 |.bd _ _::_,_,_,e,_=>by contradiction
 |.fd _ _::_,_,_,e,_=>by contradiction
 |.tf _ _::_,_,_,e,_=>by contradiction
noncomputable def RV.Co:RV->Option (List (List Int)×List PV)
 |.cl (.Co ks xs)=>some (ks,xs)
 |.bd ks xs=>some (ks,xs)
 |.fd ks xs=>some (ks,xs)
 |_=>none
theorem Bt.Co{K:W.Frag}{H G' H':Hp}{r:RV}{v:V}{ks:List (List Int)}{xs:List PV}(sub:Ak G' H')(h:Bt K H G' H' r v)(e:r.Co=some (ks,xs)):∃a AR,v=.ref a/\Rd H' a (.dT AR)/\AR.map (·.1)=ks.map Cj/\Ab K G' xs (AR.map (·.2)):=by
 cases r with
 |cl p=>
  cases p with
  |Co Pg VU=>
   cases e;have h':=h;obtain⟨a,AR,e,q,k,r⟩:=h';exact⟨a,AR,e,Rd.same sub q,k,r⟩
  |_=>contradiction
 |bd Pg VU=>
  cases e;obtain⟨a,AR,e,g,q,k,r⟩:=h;exact⟨a,AR,e,.inl q,k,r⟩
 |fd Pg VU=>
  cases e;obtain⟨a,AR,e,n,g,q,k,r⟩:=h;exact⟨a,AR,e,.inl q,k,r⟩
 |_=>contradiction
set_option tactic.hygienic true
def Hg(f:EF)(g:AF):EF:=λρ=>match f ρ,g ρ with
 |some r,some rs=>(match r.Co,JL rs with|some d,some k=>if k.length<=1000 then(C7 d.1 d.2 k).map .cl else none|_,_=>none)
 |_,_=>none
theorem tN{x1}{EZ:Pos}(hu:X.A.units+1<cLine)(ho:PX X a f)(h:Cf X es g)(hs:RF<|.Tuple es x1 EZ):PX X (.Subscript a (.Tuple es x1 EZ) pos)<|Hg f g:=PE.imp (rD hu ho (P8 h) hs) (by
 rintro σ H Q ⟨G,ρ,z,R,e,q⟩;unfold Hg at e;split at e
 .rename_i r rs er eg;split at e
  .rename_i d k ed ek;split at e
   .rename_i hz;cases ep:C7 d.1 d.2 k with
    |none=>rw[ep]at e;contradiction
    |some p=>
     rw[ep]at e;cases e;refine⟨G,ρ,r,R,er,λv G1 H1 s1 rv=>⟨G1,ρ,rs,R.step s1,eg,λvs G2 H2 s2 Uq=>?_⟩⟩;have ev:=Ul ek Uq;refine⟨small (by rw[ev,AAi];exact hz),λb hb=>?_⟩;have s3:=Ar.new s2.sub (.tup vs) hb;obtain⟨a,AR,rfl,hq,hk,rl⟩:=(rv.step<|s2.trans s3).Co s3.sub ed;obtain⟨w,h1,h2⟩:=XE hk rl ep;exact⟨a,w,rfl,.inr ⟨AR,Cj k,b,hq,rfl,by rw[Cu,ZE,ev],h1.symm⟩,q w _ _ ((s1.trans s2).trans s3) h2⟩
   .contradiction
  .contradiction
 .contradiction)
noncomputable def SA:EF:=λ_=>some<|.fd [] []
theorem tP:PX X (.Dict [] [] pos) SA:=PE.imp rE (by rintro σ H Q ⟨G,ρ,z,R,e,q⟩;cases e;intro p hp;exact q _ _ _ (Ar.Gx R.sub _ hp) ⟨p,[],rfl,hp,R.sub.free hp,Cu,rfl,by rfl⟩)
noncomputable def Oh(i:Nat)(f:EF):SF:=λρ=>match f ρ with|some (.fd ks xs)=>some (.nx<|ρ.set i<|some<|.Dg none ks xs)|_=>none
theorem u5(i:Nat){x:Str}{p:Pos}(hN:X.N.Nodup)(he:PX X e f)(hi:X.N[i]? = some x)(hx:Loc X.env.scope x)(hs:swapsWith e (some<|.Name x p) pos.line X.env=pure false)(hf:X.fn x=true\/X.env.scope.names.lookup x=some .local) : Cg X AW AU (.Assign [.Name x p] e pos)<|Oh i f:=PS.imp (QE hN hi hx he hs hf) (by
 rintro D σ H ⟨G,ρ,o,S,e,k⟩;unfold Oh at e;split at e
 .rename_i ks xs er;cases e;refine⟨G,ρ,_,S.r,er,λv G' H' s rv=>?_⟩;obtain⟨a,AR,rfl,n,ga,ha,hk,rl⟩:=rv;exact k _ _ _ s.gg<|(S.step s).bL S.hh S.r.NH n ⟨a,AR,rfl,ga,ha,hk,rl,λ_ z=>nomatch z⟩
 .contradiction)
noncomputable def Oe(i:Nat):SF:=λρ=>match ρ[i]? with|some (some<|.Dg _ ks xs)=>some (.rt<|.fd ks xs)|_=>none
theorem uw(i:Nat){x:Str}{p:Pos}(hN:X.N[i]? = some x)(hv:EE X.env.scope x)(hd:(x==("__debug__"))=false) (BV:(x==("__classdict__"))=false):Cg X AW AU (.Return (some<|.Name x p) pos)<|Oe i:=PS.imp (QD<|GA hN hv hd BV) (by
 rintro D σ H ⟨G,ρ,o,S,e,k⟩;unfold Oe at e;split at e
 .rename_i ks xs er;cases e;obtain⟨v,ev,a,AR,rfl,ga,ha,hk,rl,_⟩:=S.r.slot i _ er;exact⟨_,ev,k _ G H S.JO ⟨a,AR,rfl,S.new i _ a rfl er ev,ga,ha,hk,rl⟩⟩
 .contradiction)
def Il(i:Nat)(g:AF)(f:EF):SF:=λρ=>match f ρ,ρ[i]?,g ρ with
 |some r,some<|some<|.Dg t ks xs,some rs=>(match r.clean,JL rs with|some p,some k=>if ks.length<1000000/\k.length<=1000 then some (.nx<|ρ.set i<|some<|.Dg t (Fm ks k)<|Hc ks xs k p)else none|_,_=>none)
 |_,_,_=>none
theorem ui(i:Nat){x:Str}{p sp EZ:Pos}{x1}(hu:X.A.units+1<cLine)(hk:Cf X es g)(he:PX X e f)(hN:X.N[i]? = some x)(hv:EE X.env.scope x)(hd:(x==("__debug__"))=false) (BV:(x==("__classdict__"))=false) (hs:swapsWith e (some<|.Subscript (.Name x p) (.Tuple es x1 EZ) sp) pos.line X.env=pure false) : Cg X AW AU (.Assign [.Subscript (.Name x p) (.Tuple es x1 EZ) sp] e pos)<|Il i g f:=PS.imp (sD hu (GA hN hv hd BV) (P8 hk) he hs) (by
 rintro D σ H ⟨G,ρ,o,S,e,ok⟩;unfold Il at e;split at e
 .rename_i r t0 ks xs rs er eo eg;split at e
  .rename_i p k ep ek;split at e
   .rename_i hz;cases e;refine⟨G,ρ,r,S.r,er,λv G1 H1 s1 rv=>?_⟩;have S1:=S.step s1.all;obtain⟨w,ew,b,AR,rfl,g,hb,Hm,rl,K6⟩:=S1.r.slot i _ eo;refine⟨_,ew,DX G1 H H1,ρ,_,S1.r,eg,λvs G2 H2 s2 Uq=>?_⟩;have ev:=Ul ek Uq;refine⟨small (by rw[ev,AAi];exact hz.2),λt ht=>?_⟩;have s3:=Ar.new s2.sub (.tup vs) ht;have Lb:=s2.trans s3;have hl:=by have:=ACE List.length Hm;simpa using this
    have rp:=Rep.same Lb.gg<|rv.clean s1.sub ep;obtain⟨h1,h2⟩:=i7 Hm (Ab.same Lb.gg rl) rp;refine⟨b,_,rfl,.inr ⟨AR,Cj k,t,Lb.hh _ _ hb,rfl,by rw[Cu,ZE,ev],ADI (AER hl)<|AET hz.1 AAe,rfl⟩,?_⟩;have g3:=Lb.ex b (.d hb) g;exact ok _ _ _ (s1.all.gg.trans Lb.gg)<|(S1.step Lb).chg rfl eo ew g3 ⟨b,_,rfl,g3,Cu,h1,h2,K6⟩
   .contradiction
  .contradiction
 .contradiction)
end
section
variable{AW AU:Hp}
end
section
variable{X:Cx}{pos:Pos}{AW AU:Hp}{f:Addr}{fd:FuncData}{ps:List Str}{k:Nat}{rec:Rec}
end
section
variable{X:Cx}{a:Expr}{es:List Expr}{f:EF}{g:AF}{pos:Pos}
end
theorem cR{k:Nat}{A:Around}(r:Br k A):A.units+1<cLine:=by have:=r.un;lia
open Classical in
section
variable{X:Cx}{e:Expr}{es:List Expr}{g:AF}{pos:Pos}
end
def Vl(f:EF):Prop:=∀ρ r,f ρ=some r->r.flat=true
def FK(g:SF):Prop:=∀ρ r,g ρ=some (.rt r)->r.flat=true
theorem SG{p:PV}(h:p.flat=true):Vl<|fC p:=λ_ _ e=>by cases e;exact h
set_option tactic.hygienic true
theorem SI{f:EF}(h:Vl f):FK<|Ai f:=λρ r e=>by
 unfold Ai at e;split at e
 .rename_i p ef;cases e;exact h ρ _ ef
 .rename_i p ef;cases e;exact h ρ _ ef
 .contradiction
set_option tactic.hygienic false
theorem Xr:FK A0:=λρ r e=>by cases e
theorem Xs{g h:SF}(a:FK g)(b:FK h):FK<|AN g h:=λρ r e=>by
 unfold AN at e;split at e
 .exact b _ _ e
 .exact a _ _ e
theorem Xq{t:BF}{g h:SF}(a:FK g)(b:FK h):FK<|Aq t g h:=λρ r e=>by
 unfold Aq at e;split at e
 .exact a _ _ e
 .exact b _ _ e
 .contradiction
theorem j4{N n:Nat}{g:SF}(h:FK g)(ps:List PV)(r:RV)(e:denote N n g ps=some r):r.flat=true:=by
 unfold denote at e;split at e
 .cases eg:g (A5 N ps)with
  |none=>rw[eg]at e;contradiction
  |some o=>
   rw[eg]at e;cases o with
   |rt r'=>cases e;exact h _ _ eg
   |nx ρ=>cases e;rfl
   |bk ρ=>contradiction
   |ct ρ=>contradiction
 .contradiction
section
variable{X:Cx}{AW AU:Hp}
end
noncomputable def LK(ps:List Str)(q:List Pos):Arguments:=⟨[],(ps.zip q).map λx=>⟨x.1,none,x.2⟩,none,[],[],none,[]⟩
theorem dQ{α β:Type}:∀(a:List α)(b:List β),b.length=a.length->(a.zip b).map (·.1)=a
 |[],_,_=>rfl
 |x::a,y::b,h=>by simp only[ADk,AAx];rw[dQ a b<|by simpa using h]
theorem Xv{α β:Type}{f g:α->Option β}:∀l:List α,(∀x∈l,f x=g x)->l.filterMap f=l.filterMap g
 |[],_=>rfl
 |x::l,h=>by simp only[ACm,ACm,h x<|.head _,Xv l λy hy=>h y<|.tail _ hy]
theorem ZU{α:Type}:∀(ps:List Str)(us:List α),us.length=ps.length->ps.Nodup->ps.filterMap (λn=>((ps.zip us).lookup n).map λx=>(n,x))=ps.zip us
 |[],_,_,_=>rfl
 |p::ps,u::us,h,nd=>by
  rw[ACK]at nd;have ih:=ZU ps us (by simpa using h) nd.2;rw[ADk,ADw (b:=(p,u))<|by simp[ACB]]
  congr 1
  refine(Xv _ λn hn=>?_).trans ih;simp only[ACB];split
  .rename_i e;exact absurd (eq_of_beq e ▸ hn) nd.1
  .rfl
theorem ZT{α:Type}:∀(ps:List Str)(us:List α),us.length=ps.length->∀n∈ps,((ps.zip us).lookup n).isNone=false
 |p::ps,u::us,h,n,hn=>by
  simp only[ADk,ACB];split
  .rfl
  .rename_i e;refine ZT ps us (by simpa using h) n ?_;rcases AAy.1 hn with rfl|hn
   .simp at e
   .exact hn
theorem fX(nm:Str)(ps:List Str)(q:List Pos)(b:List Stmt)(sc:Scope)(kV doc pm:Value)(an:Option Addr)(A1 ct:Value)(us:List Value)(hq:q.length=ps.length)(hu:us.length=ps.length)(nd:ps.Nodup):bindArgs (W.fnOf nm nm (LK ps q) b sc .none kV doc pm an A1 ct) ⟨us,[]⟩=pure (ps.zip us):=by
 have h1:((LK ps q).args.map λx=>x.arg)=ps:=by unfold LK;simp only[ABO];exact(ACU λ_ _=>rfl).trans (dQ ps q hq)
 have hs:seqItems? Value.none=pure none:=rfl;have hf:ps.filter (λn=>((ps.zip us).lookup n).isNone)=[]:=ADV.2 λn hn=>by rw[ZT ps us hu n hn];simp
 delta bindArgs W.fnOf
 dsimp only;rw[h1];unfold LK;simp[hs,hf,hu,ZU ps us hu nd]
structure FS(N P:List Str)(st:Stmt):Prop where
 sc:HI N P<|BU st
 qs:∃q:List Pos,q.length=P.length/\Ha st=LK P q
section
variable{N ps:List Str}{st:Stmt}{f:Addr}{fd:FuncData}{x:Str}{k:Nat}{g:SF}{y:YF}{P:Program}{w:World}{K:W.Frag}{mg:Str->Option Value}{base h:Heap}
theorem FS.nd(S:FS N ps st):N.Nodup:=S.sc.nd
theorem NQ(h:(BU st).kind=.function/\(BU st).isCoroutine=false/\(BU st).isGenerator=false/\N.Nodup/\N.take ps.length=ps/\(∀x∈ps,(BU st).names.lookup x=some .local\/(BU st).names.lookup x=some .cell)/\∀y∈(BU st).names,y.2≠.free)(q:∃q:List Pos,q.length=ps.length/\Ha st=LK ps q):FS N ps st:=
 ⟨⟨h.1,h.2.1,h.2.2.1,h.2.2.2.1,h.2.2.2.2.1,h.2.2.2.2.2.1,h.2.2.2.2.2.2⟩,q⟩
theorem FS.bs(S:FS N ps st)(kV doc pm:Value)(an:Option Addr)(A1 ct:Value)(us:List Value)(hl:us.length=ps.length) : bindArgs (W.fnOf x x (Ha st) (D2 st) (BU st) .none kV doc pm an A1 ct) ⟨us,[]⟩=pure (ps.zip us):=by obtain⟨q,h1,h2⟩:=S.qs;rw[h2];exact fX x ps q _ _ kV doc pm an A1 ct us h1 hl<|S.sc.pre ▸ S.nd.sublist (ADp _ _)
def FM(K:W.Frag)(mg:Str->Option Value)(x:Str)(st:Stmt):Prop:=∃f fd,Ec K x x st f fd/\mg x=some (.ref f)
def dR(K:W.Frag)(x:Str)(st:Stmt):Prop:=∃(f:Addr)(oc:Value)(od:Option Addr)(kV doc pm:Value)(an:Option Addr)(A1 ct:Value)(sl:Array<|Option Value),W.nsIn K mainGlobals x=some (some<|.ref f)/\K.lookup f=some ⟨oc,od,.func<|W.fnOf x x (Ha st) (D2 st) (BU st) .none kV doc pm an A1 ct,sl⟩/\W.codeIn K A1 x=true/\W.keepIn K (.ref f)=true
theorem dmk{oc:Value}{od:Option Addr}{kV doc pm:Value}{an:Option Addr}{A1 ct:Value}{sl:Array (Option Value)}(a:W.nsIn K mainGlobals x=some (some<|.ref f))(l:K.lookup f=some ⟨oc,od,.func<|W.fnOf x x (Ha st) (D2 st) (BU st) .none kV doc pm an A1 ct,sl⟩)(c:W.codeIn K A1 x=true)(k:W.keepIn K (.ref f)=true):dR K x st:=⟨_,_,_,_,_,_,_,_,_,_,a,l,c,k⟩
theorem OW(X:K.In h)(G:h.Ns mainGlobals mg)(d:dR K x st):FM K mg x st:=by obtain⟨f,oc,od,kV,doc,pm,an,A1,ct,sl,a,l,c,k⟩:=d;exact⟨f,_,kG l c k,W.mg_of X G a⟩
def bR(K:W.Frag):List Str->Prop
 |[]=>True
 |x::l=>W.nsIn K mainGlobals x=some none/\bR K l
def bM(mg:Str->Option Value):List Str->Prop
 |[]=>True
 |x::l=>mg x=none/\bM mg l
theorem V8(X:K.In h)(G:h.Ns mainGlobals mg):∀{l:List Str},bR K l->bM mg l
 |[],_=>trivial
 |_::_,z=>⟨W.mg_none_of X G z.1,V8 X G z.2⟩
theorem Ec.bt(F:Ec K x x st f fd)(S:FS N ps st)(s:Shared)(us:List Value)(hl:us.length=ps.length):BindsTo s fd ⟨us,[]⟩<|ps.zip us:=by obtain⟨oc,od,kV,doc,pm,an,A1,ct,F8,rfl,lk,BV⟩:=F.ex;exact .of_eq<|S.bs _ _ _ _ _ _ us hl
theorem gL(F:Ec K x x st f fd)(S:FS N ps st) (hb:∀{A1:Value}{A:Around}{outer:List Env}{s:Shared}{H:Hp}{E:XK}{AW AU:Hp},let B:=A.deeper<|envOfC x (BU st) s.heap.objs.size f A1;Br k B->B.units+64<cLine->B.units+1<cLine->B.units+66<cLine->true=true->Dm (Fl Dx P w K mg base N x (BU st) f A1 A outer s H E).KD AW AU (D2 st) g) : Cd P w K mg base Dx (k+1) f fd ps<|Le K ps.length<|denote N.length ps.length g:=kA F S.sc λ_ _ _ _ _ _ _ _ hr=>hb hr hr.units (cR hr) (cS hr) rfl
theorem gG(F:FM K mg x st)(S:FS N ps st) (hb:∀{f:Addr}{A1:Value}{A:Around}{outer:List Env}{s:Shared}{H:Hp}{E:XK}{AW AU:Hp},let B:=A.deeper<|envOfC x (BU st) s.heap.objs.size f A1;Br k B->B.units+64<cLine->B.units+1<cLine->B.units+66<cLine->true=true->Dm (Fl Dx P w K mg base N x (BU st) f A1 A outer s H E).KD AW AU (D2 st) g) : BO P w K mg base x (k+1) ps.length<|denote N.length ps.length g:=by obtain⟨f,fd,F,hm⟩:=F;exact⟨f,fd,ps,gL F S hb,hm,F.kp,F.binds S.bs,rfl⟩
theorem gY(F:FM K mg x st)(S:FS N ps st) (hb:∀{f:Addr}{A1:Value}{A:Around}{outer:List Env}{s:Shared}{H:Hp}{E:XK}{AW AU:Hp},let B:=A.deeper<|envOfC x (BU st) s.heap.objs.size f A1;Br k B->B.units+64<cLine->B.units+1<cLine->B.units+66<cLine->true=true->HQ (MK P w K mg base N x (BU st) f A1 A outer s H E) E AW AU (D2 st) y) : FL P w K mg base x (k+1) ps.length (E2 N.length ps.length y)<|Hb N.length ps.length y:=by obtain⟨f,fd,F,hm⟩:=F;exact⟨f,fd,ps,j8 F S.sc λ_ _ _ _ _ _ _ _ hr=>hb hr hr.units (cR hr) (cS hr) rfl,hm,F.kp,F.binds S.bs,rfl⟩
theorem gW{z:Str}(F:FM K mg x st)(S:FS N [z] st) (hb:∀{f:Addr}{A1:Value}{A:Around}{outer:List Env}{s:Shared}{H AW AU:Hp},let B:=A.deeper<|envOfC x (BU st) s.heap.objs.size f A1;Dy k B->B.units+64<cLine->true=true->Dm (OE P w K mg base N x (BU st) f A1 A outer s H) AW AU (D2 st) g) : N1 P w K mg base x (k+1)<|OJ N.length g:=by obtain⟨f,fd,F,hm⟩:=F;exact⟨f,fd,[z],j7 F S.sc λ_ _ _ _ _ _ _ hr=>hb hr hr.units rfl,hm,F.kp,F.binds S.bs⟩
end
section
variable{X:Cx}{a b c d:Expr}{p q r s:EF}
theorem qr(ha:PX X a p)(h1:starEach [a] X.env=(false,eval a X.env)::starEach [] X.env):Cf X [a]<|AD p AH:=NM ha Ud h1
theorem Z9(ha:PX X a p)(hb:PX X b q)(h1:starEach [a,b] X.env=(false,eval a X.env)::starEach [b] X.env:=by rfl)(h2:starEach [b] X.env=(false,eval b X.env)::starEach [] X.env:=by rfl):Cf X [a,b]<|AD p<|AD q AH:=NM ha (NM hb Ud h2) h1
theorem qt(ha:PX X a p)(hb:PX X b q)(hc:PX X c r)(h1:starEach [a,b,c] X.env=(false,eval a X.env)::starEach [b,c] X.env)(h2:starEach [b,c] X.env=(false,eval b X.env)::starEach [c] X.env)(h3:starEach [c] X.env=(false,eval c X.env)::starEach [] X.env):Cf X [a,b,c]<|AD p<|AD q<|AD r AH:=NM ha (Z9 hb hc h2 h3) h1
theorem Tw:∀ρ rs,AD p AH ρ=some rs->rs.length=1:=OQ jl
theorem ln2:∀ρ rs,AD p (AD q AH) ρ=some rs->rs.length=2:=OQ Tw
theorem Tx:∀ρ rs,AD p (AD q<|AD r AH) ρ=some rs->rs.length=3:=OQ ln2
theorem ZV:∀ρ rs,AD p (AD q<|AD r<|AD s AH) ρ=some rs->rs.length=4:=OQ Tx
end
end L2.PL
namespace TL
open PySem PySem.Spec PyProof.Rows PySem.SeqAt
open PySem.AutoSeq1 (wpAny_loadPart')
section
variable{prog:Program}{w:World}{A:Around}{s:Shared}{Q E:Value->Shared->Prop}{a b:Int}{t u:Tok}
theorem aw(h:Q (.bool<|decide (a<b)) s):wpAny (model prog w) A (richCompare .Lt (.int a t)<|.int b u) Q E s:=lt_int h
end
theorem yf(l b:Addr)(p q u v:Int)(tp tq tu tv:Tok)(n n2:Nat)(dd iR:Option Addr)(sl wz:Array<|Option Value) : Meets (Builtin.«tuple.__lt__» ⟨[.ref l,.ref b],[]⟩)
  (λ_ R s=>s.heap.get? l=some {cls:=.type "tuple",dict:=dd,data:=.seq #[.int p tp,.int q tq] n,slots:=sl}/\s.heap.get? b=some {cls:=.type "tuple",dict:=iR,data:=.seq #[.int u tu,.int v tv] n2,slots:=wz}/\
   R (.ok<|.ret<|.bool<|decide (p<u\/(p=u/\q<v))) s):=
 .of_wp λprog w A R s h=>by
  obtain⟨hl,hb,h⟩:=h;have f2:=AutoSeq1.sub_tuple_tuple
  wp_walk using wpAny_loadPart' hl,wpAny_loadPart' hb
  refine EqAt.int_int p tp u tu prog w _ _ ?_;cases c:(p==u)with
  |false=>
   have c':=by simpa using c
   wp_walk using aw
   exact⟨_,rfl,by rw[show decide (p<u)=decide (p<u\/p=u/\q<v)by simp[c']];exact h⟩
  |true=>
   have c':=by simpa using c
   wp_walk
   refine EqAt.int_int q tq v tv prog w _ _ ?_;cases e:(q==v)with
   |false=>
    wp_walk using aw
    exact⟨_,rfl,by rw[show decide (q<v)=decide (p<u\/p=u/\q<v)by simp[c']];exact h⟩
   |true=>
    have e':=by simpa using e
    wp_walk
    exact⟨_,rfl,by simpa[Builtin.Tuple.tupleCompareSizes,c',e']using h⟩
end TL
namespace L2.PL
open PySem PySem.Spec PyProof.Rows
section
variable{X:Cx}{a:Expr}{fa:EF}{pos:Pos}
theorem tZ{p p2:Pos}(hm:X.mg "isinstance" = none)(F0:X.mg "list" = none)(ha:PX X a fa)(hg:Gl X "isinstance")(Fx:Gl X "list") (he:starEach [a,.Name "list" p2] X.env=(false,eval a X.env)::starEach [.Name "list" p2] X.env) (El:starEach [.Name "list" p2] X.env=(false,eval (.Name "list" p2) X.env)::starEach [] X.env) (A7:(backTo pos<|starEach [.Name "list" p2] X.env).any (·.1)=false) : PX X (.Call (.Name "isinstance" p) [a,.Name "list" p2] [] pos)<|Gb "list" fa:=
 Uc (λz=>absurd z AAe) (λz=>absurd z AAe) (λz=>absurd z AAe) (λ_=>rfl) hm F0 WB ha hg Fx AAe AAe he El A7
noncomputable def isTup:PV->Option Bool
 |.tup _=>some true
 |_=>none
def MR(f:EF):EF:=λρ=>match f ρ with|some r=>(isTup r.any).map λb=>.cl (.bl b)|none=>none
theorem gK:Cz X (.builtin "isinstance") (λxs H Q=>∃x p k,xs=[x,.ty "tuple"]/\Rep X.K H p x/\isTup p=some k/\Q (.bl k) H):=by
 intro AE s σ H xs us Q I r ⟨x,p,k,e1,hp,ek,q⟩;subst e1;obtain⟨u,u2,rfl,ru,NP⟩:=vals2 r;obtain rfl:u2=Value.type "tuple":=NP;unfold isTup at ek;split at ek
 .cases ek;obtain⟨a,vs,rfl,hq,_⟩:=hp;cases (show u=Value.ref a from ru);obtain⟨its,_,⟨o,h1,h2,_⟩,_⟩:=I.tuple hq;exact W.kia_one W.kitx_tuple I.BC ⟨o,h1,h2⟩ (show W.kitOne X.K (.type "tuple") (.type "tuple")=some true from rfl) (λz=>nomatch z) λtk=>⟨.bl true,H,I.tok _,rfl,q⟩
 .contradiction
set_option tactic.hygienic true
theorem tj{p p2:Pos}(hm:X.mg "isinstance" = none)(F0:X.mg "tuple" = none)(ha:PX X a fa)(hg:Gl X "isinstance")(Fx:Gl X "tuple") (he:starEach [a,.Name "tuple" p2] X.env=(false,eval a X.env)::starEach [.Name "tuple" p2] X.env) (El:starEach [.Name "tuple" p2] X.env=(false,eval (.Name "tuple" p2) X.env)::starEach [] X.env) (A7:(backTo pos<|starEach [.Name "tuple" p2] X.env).any (·.1)=false) : PX X (.Call (.Name "isinstance" p) [a,.Name "tuple" p2] [] pos)<|MR fa:=by
 refine PE.imp (NJ gK hg hm Rj (EW ha (EW (UT (v:=.ty "tuple") Fx F0 f7 rfl AAe AAe) F9 El) he) AAe AAe he A7) λσ H Q ⟨G,ρ,r,R,e,q⟩=>?_;unfold MR at e;split at e
 .rename_i r' er;cases ek:isTup r'.any with
  |none=>rw[ek]at e;contradiction
  |some k=>
   rw[ek]at e;cases e;refine⟨G,ρ,r',R,er,λv G' H' s rv=>?_⟩;exact⟨v,r'.any,k,rfl,rv.any s.sub,ek,q _ G' H' s<|by rfl⟩
 .contradiction
end
def ar(c:Int->Int->Int->Int->Bool)(K:W.Frag):R2:=λx y H Q=>∃p q u v a b,x=.ref a/\y=.ref b/\Bs K H a [.int p,.int q]/\Bs K H b [.int u,.int v]/\Q (.bl<|c p q u v) H
noncomputable def D1(p q u v:Int):Bool:=decide (p<u\/(p=u/\q<v))
noncomputable def LF(c:Int->Int->Int->Int->Bool):RV->RV->Option RV
 |.cl (.tup [.int p,.int q]),.cl (.tup [.int u,.int v])=>some<|.cl<|.bl<|c p q u v
 |_,_=>none
section
variable{X:Cx}
theorem UR{p q:Int}{us:List Value}(h:As [.int p,.int q] us):∃t t',us=[.int p t,.int q t']:=by
 cases h with
 |cons a h=>cases h with
  |cons b h=>cases h;obtain⟨t,rfl⟩:=a;obtain⟨t',rfl⟩:=b;exact⟨t,t',rfl⟩
theorem qI(hu:X.A.units+1<cLine):BY X (compareOp .Lt)<|ar D1 X.K:=by intro AE s σ H x y v u Q I rx ry ⟨p,q,u',v',a,b,e1,e2,ha,hb,k⟩;subst e1;subst e2;cases (show v=Value.ref a from rx);cases (show u=Value.ref b from ry);obtain⟨i1,r1,⟨⟨c1,d1,t1,s1⟩,h1,k1,n1,z1⟩,_⟩:=I.tuple ha;obtain⟨i2,r2,⟨⟨c2,d2,t2,s2⟩,h2,k2,n2,z2⟩,_⟩:=I.tuple hb;obtain⟨_,_,rfl⟩:=UR r1;obtain⟨_,_,rfl⟩:=UR r2;simp only at k1 z1 k2 z2;subst k1 z1 k2 z2;exact richCompare_meets_room (op:=.Lt) ⟨_,h1,rfl⟩ ⟨_,h2,rfl⟩ F.slot_tuple_lt F.entry_tuple_lt (F.args_tuple_lt_2 _ _) (TL.yf _ _ _ _ _ _ _ _ _ _ _ _ _ _ _ _) ⟨h1,h2,show Value.bool _≠Value.notImplemented/\_ from⟨(λx=>nomatch x),⟨.bl _,H,I,rfl,k⟩⟩⟩ U
theorem US{K:W.Frag}{G:Hp}{p q:Int}{v:V}(h:Rep K G (.tup [.int p,.int q]) v):∃a,v=.ref a/\Bs K G a [.int p,.int q]:=by obtain⟨a,vs,rfl,hq,rl⟩:=h;refine⟨a,rfl,?_⟩;have:=JA (ns:=[p,q]) rfl rl;rw[this]at hq;exact hq
set_option tactic.hygienic true
theorem p7{K:W.Frag}{c:Int->Int->Int->Int->Bool}:DJ K (LF c)<|ar c K:=by
 intro x y z H0 G H vx vy Q sub sh e rx ry q;unfold LF at e;split at e
 .rename_i p q' u v;cases e;obtain⟨a,rfl,ha⟩:=US<|rx.any sub;obtain⟨b,rfl,hb⟩:=US<|ry.any sub;exact⟨p,q',u,v,a,b,rfl,rfl,ha,hb,q _ G H (Ar.refl sub)<|by rfl⟩
 .contradiction
theorem g4(hu:X.A.units+1<cLine):Cc X .Lt<|LF D1:=⟨_,qI hu,p7⟩
end
theorem SH{gt:GF}{g:SF}(h:FK g):∀(xs:List PV)(ρ:AX)(r:RV),Du gt g xs ρ=some (.rt r)->r.flat=true
 |[],_,_,e=>by cases e
 |x::xs,ρ,r,e=>by
  unfold Du at e;split at e
  .contradiction
  .split at e
   .exact SH h xs _ r e
   .exact SH h xs _ r e
   .cases e
   .rename_i r' er;cases e;exact h _ _ er
   .contradiction
theorem j5{its:IF}{gt:GF}{g:SF}(h:FK g):FK<|CI its gt g:=λρ r e=>by
 unfold CI at e;split at e
 .exact SH h _ _ _ e
 .contradiction
set_option tactic.hygienic true
noncomputable def JW(t:BF)(g:SF):Nat->AX->Option Out
 |0,_=>none
 |n+1,ρ=>match t ρ with
  |some true=>(match g ρ with
   |some (.nx Ba)=>JW t g n Ba
   |some (.ct Ba)=>JW t g n Ba
   |some (.bk Ba)=>some<|.nx Ba
   |some (.rt r)=>some<|.rt r
   |none=>none)
  |some false=>some<|.nx ρ
  |none=>none
def SQ(t:BF)(g:SF):SF:=λρ=>JW t g 1000 ρ
section
variable{X:Cx}{AW AU:Hp}{c:Expr}{body:List Stmt}{t:BF}{g:SF}{pos:Pos}
theorem vC(hp:PassesOwn (model X.prog X.w) X.A X.env X.xe)(hc:DR X c t)(hb:Dm X AW AU body g):Cg X AW AU (.While c body [] pos)<|SQ t g:=PS.imp (sM hp hc hb) (by
 rintro D σ H ⟨G,ρ,o,S,e,ok⟩;refine⟨λm Ac H'=>∃G' ρ',SR X.K AW AU G' H' ρ' Ac/\Ak G G'/\JW t g m ρ'=some o,⟨1000,G,ρ,S,Ak.refl _,e⟩,?_⟩;rintro m Ac H' ⟨G',ρ',S',sg,hl⟩;cases m with
 |zero=>contradiction
 |succ m=>
  unfold JW at hl;split at hl
  .rename_i et;refine⟨G',ρ',true,S'.r,et,λG1 H1 s1=>?_⟩;refine⟨λDk Cv=>∃GR Nd,SR X.K AW AU GR Cv Nd Dk/\Ak G GR/\JW t g m Nd=some o,λDk Cv hN=>⟨m,U,hN⟩,?_⟩;split at hl
   .rename_i Ba eb;exact⟨G1,ρ',_,S'.step s1,eb,λDG G2 H2 s2 S2=>⟨G2,Ba,S2,(sg.trans s1.gg).trans s2,hl⟩⟩
   .rename_i Ba eb;exact⟨G1,ρ',_,S'.step s1,eb,λDG G2 H2 s2 S2=>⟨G2,Ba,S2,(sg.trans s1.gg).trans s2,hl⟩⟩
   .rename_i Ba eb;cases hl;exact⟨G1,ρ',_,S'.step s1,eb,λDG G2 H2 s2 S2=>ok DG G2 H2 ((sg.trans s1.gg).trans s2) S2⟩
   .rename_i r eb;cases hl;exact⟨G1,ρ',_,S'.step s1,eb,Jc.mono (sg.trans s1.gg) ok⟩
   .contradiction
  .rename_i et;refine⟨G',ρ',false,S'.r,et,λG1 H1 s1=>?_⟩;refine Yv ?_;cases hl;exact ok Ac G1 H1 (sg.trans s1.gg)<|S'.step s1
  .contradiction)
noncomputable def Js(i:Nat)(gt:GF):SF:=λρ=>match ρ[i]? with
 |some (some<|.own ps)=>(match ps[ps.length-1]? with
  |some p=>(match gt p (ρ.set i<|some<|.own ps.dropLast)with|some ρ'=>some (.nx ρ')|none=>none)
  |none=>none)
 |_=>none
theorem uu{tg:Expr}{gt:GF}{x:Str}{p ap Ay:Pos}(i:Nat)(hg:HM X tg gt)(hN:X.N[i]? = some x)(hv:EE X.env.scope x)(hd:(x==("__debug__"))=false) (BV:(x==("__classdict__"))=false) (Fu:attributeBase (.Name x p) "pop" X.env (eval (.Name x p) X.env)=eval (.Name x p) X.env) (Fz:(ap.endLine==Ay.line)=true) (hs:swapsWithSole [tg] (.Call (.Attribute (.Name x p) "pop" ap) [] [] Ay) pos.line X.env=pure false) (hw:swappedStores [tg] (.Call (.Attribute (.Name x p) "pop" ap) [] [] Ay) X.env=pure none) (h1:(assignEach [tg] X.env).map (·.2)=[assign tg X.env]) : Cg X AW AU (.Assign [tg] (.Call (.Attribute (.Name x p) "pop" ap) [] [] Ay) pos)<|Js i gt:=
 PS.imp (aZ (q0 ACn PySem.F.slot_list_pop PySem.F.type_list_pop oy (GA hN hv hd BV) Fu Fz) hg hs hw h1) (by
  rintro D σ H ⟨G,ρ,o,S,e,k⟩;unfold Js at e;split at e
  .rename_i ps er;split at e
   .rename_i q ep;split at e
    .rename_i ρ' eg;cases e;obtain⟨v,ev,a,vs,rfl,g,ha,rl⟩:=S.r.slot i _ er;obtain⟨y,ey,ry⟩:=KH rl.paired ep;rw[rl.len]at ey;have Cs:Ab X.K G ps.dropLast vs.dropLast:=by rw[AED,AED,rl.len];exact Ab.of<|UQ _ rl.paired
     have S1:=S.change er ev g Cs;exact⟨_,ev,.inl ⟨rfl,vs,.inl<|.inl ha⟩,a,vs,y,rfl,rfl,ha,ey,G,_,q,ρ',S1.r,ry,eg,λAc R' kk=>k _ _ _ (Ak.refl _)<|S1.turn R' kk⟩
    .contradiction
   .contradiction
  .contradiction)
end
end L2.PL
set_option maxRecDepth 100000
namespace C2
open PySem PySem.W PyProof.Rows
noncomputable def run(lt:Nat->Nat->Bool){α:Type}:KasT α->α
 |.ret a=>a
 |.ask i j k=>run lt<|k<|lt i j
def Ok(lt:Nat->Nat->Bool)(n:Nat){α:Type}(P:α->Prop):KasT α->Prop
 |.ret a=>P a
 |.ask i j k=>i<n/\j<n/\Ok lt n P (k<|lt i j)
section
variable{lt:Nat->Nat->Bool}{n:Nat}
theorem Ok.bind{α β:Type}{P:α->Prop}{R:β->Prop}{f:α->KasT β}(hf:∀a,P a->Ok lt n R (f a)):∀t:KasT α,Ok lt n P t->Ok lt n R (t.bind f)
 |.ret a,h=>hf a h
 |.ask i j k,h=>⟨h.1,h.2.1,Ok.bind hf (k<|lt i j) h.2.2⟩
theorem Ok.run{α:Type}{P:α->Prop}:∀t:KasT α,Ok lt n P t->P (C2.run lt t)
 |.ret _,h=>h
 |.ask i j k,h=>Ok.run (k<|lt i j) h.2.2
theorem Ok.mono{α:Type}{P R:α->Prop}(f:∀a,P a->R a):∀t:KasT α,Ok lt n P t->Ok lt n R t
 |.ret _,h=>f _ h
 |.ask i j k,h=>⟨h.1,h.2.1,Ok.mono f (k<|lt i j) h.2.2⟩
theorem Ok.wp{α:Type}{P:α->Prop}{cmp:Nat->Nat->(Bool->Shared->Prop)->Shared->Prop}{Q:α->Shared->Prop}{s:Shared}(hc:∀i j C,i<n->j<n->C (lt i j) s->cmp i j C s):∀t:KasT α,Ok lt n P t->Q (C2.run lt t) s->t.kasWp cmp Q s
 |.ret _,_,q=>q
 |.ask i j k,h,q=>hc i j _ h.1 h.2.1<|Ok.wp hc (k<|lt i j) h.2.2 q
noncomputable abbrev BZ(p:Array Nat)(i:Nat):Nat:=p.getD i 0
def Pm(n:Nat)(p:Array Nat):Prop:=p.Perm (List.range n).toArray
theorem V0{p q:Array Nat}{i j:Nat}(h:p[i]? = q[j]?):BZ p i=BZ q j:=by unfold BZ;rw[ADl,ADl,h]
theorem Pm.size{p:Array Nat}(h:Pm n p):p.size=n:=by rw[Array.Perm.size_eq h];simp
theorem Pm.bd{p:Array Nat}(h:Pm n p){i:Nat}(hi:i<n):BZ p i<n:=by
 have hs:=h.size;have:BZ p i=p[i]:=by simp[BZ,Array.getD,hs,hi]
 rw[this];have m:p[i]∈p.toList:=AAd
 exact AAr.mp<|(AC8.mp h).mem_iff.mp m
theorem Pm.ne{p:Array Nat}(h:Pm n p){i j:Nat}(hi:i<n)(hj:j<n)(e:i≠j):BZ p i≠BZ p j:=by
 have hs:=h.size;have nd:=(AC8.mp h).nodup_iff.mpr ADv;have a:BZ p i=p.toList[i]'(by simpa[hs]using hi):=by simp[BZ,Array.getD,hs,hi]
 have b:BZ p j=p.toList[j]'(by simpa[hs]using hj):=by simp[BZ,Array.getD,hs,hj]
 simp only[a,b];exact λk=>e<|(ADY nd).mp k
theorem Pm.rev{p:Array Nat}(h:Pm n p)(i j:Nat):Pm n<|kas_rev p i j:=Array.Perm.trans (mirror_perm ..) h
def Up(lt:Nat->Nat->Bool)(p:Array Nat)(k:Nat):Prop:=∀i j,i<j->j<k->lt (BZ p i) (BZ p j)=true
def Dn(lt:Nat->Nat->Bool)(p:Array Nat)(k:Nat):Prop:=∀i j,i<j->j<k->lt (BZ p j) (BZ p i)=true
structure RK(lt:Nat->Nat->Bool)(n:Nat):Prop where
 tr:∀i j k,lt i j=true->lt j k=true->lt i k=true
 to:∀i j,i<n->j<n->i≠j->lt i j=false->lt j i=true
variable(T:RK lt n)
include T
theorem RK.at{p:Array Nat}(hp:Pm n p){i j:Nat}(hi:i<n)(hj:j<n)(e:i≠j)(h:lt (BZ p i) (BZ p j)=false):lt (BZ p j) (BZ p i)=true:=T.to _ _ (hp.bd hi) (hp.bd hj) (hp.ne hi hj e) h
theorem Up.step{p:Array Nat}{k:Nat}(h:Up lt p k)(h0:lt (BZ p<|k-1) (BZ p k)=true):Up lt p<|k+1:=λi j Bm hj=>by
 by_cases c:j<k
 .exact h i j Bm c
 .have e:j=k:=U
  subst e;by_cases d:i=j-1
  .rw[d];exact h0
  .exact T.tr _ _ _ (h i (j-1) U U) h0
theorem Dn.step{p:Array Nat}{k:Nat}(h:Dn lt p k)(h0:lt (BZ p k) (BZ p<|k-1)=true):Dn lt p<|k+1:=λi j Bm hj=>by
 by_cases c:j<k
 .exact h i j Bm c
 .have e:j=k:=U
  subst e;by_cases d:i=j-1
  .rw[d];exact h0
  .exact T.tr _ _ _ h0<|h i (j-1) U U
theorem UE{p:Array Nat}(hp:Pm n p):∀f k,0<k->k+f<=n->Up lt p k->Ok lt n (λm=>k<=m/\m<=k+f/\Up lt p m/\(m<k+f->lt (BZ p m) (BZ p<|m-1)=true)) (kas_asc p f k)
 |0,k,_,_,h=>⟨AAw _,AAw _,h,λc=>absurd c (ACZ _)⟩
 |f+1,k,h0,hk,h=>by
  refine⟨hp.bd U,hp.bd U,?_⟩;cases c:lt (p.getD k 0)<|p.getD (k-1) 0
  .refine Ok.mono ((by rintro m ⟨a,b,u,d⟩;exact⟨U,U,u,λe=>d U⟩)) _<|UE hp f (k+1) U U<|h.step T<|T.at hp U U U c
  .exact⟨AAw _,U,h,λ_=>c⟩
theorem Zz{p:Array Nat}(hp:Pm n p):∀f k,0<k->k+f<=n->Dn lt p k->Ok lt n (λr=>r.1=p/\r.2.2=0/\k<=r.2.1/\r.2.1<=k+f/\Dn lt p r.2.1) (kas_desc f p k 0)
 |0,k,_,_,h=>⟨rfl,rfl,AAw _,AAw _,h⟩
 |f+1,k,h0,hk,h=>by
  refine⟨hp.bd U,hp.bd U,?_⟩;cases c:lt (p.getD k 0)<|p.getD (k-1) 0
  .refine⟨hp.bd U,hp.bd U,?_⟩;rw[show lt (p.getD (k-1) 0) (p.getD k 0)=true from T.at hp U U U c];exact⟨rfl,rfl,AAw _,Nat.le_add_right _ _,h⟩
  .exact Ok.mono ((by rintro m ⟨a,b,u,d,e⟩;exact⟨a,b,U,U,e⟩)) _<|Zz hp f (k+1) U U<|h.step T c
theorem pY{p:Array Nat}(hp:Pm n p){k:Nat}(h0:0<k)(hk:k<=n)(h:Dn lt p k):Ok lt n (λr=>Pm n r.2/\1<=r.1/\r.1<=n/\Up lt r.2 r.1)<|kas_tail3 k n p:=by
 have hr:=hp.rev 0 k;refine Ok.bind (λm (⟨a,b,u,_⟩)=>⟨hr,AAc,U,u⟩) _<|UE T hr (n-k) k h0 U λi j Bm hj=>?_;have e:∀i,i<k->BZ (kas_rev p 0 k) i=BZ p (k-1-i):=λi hi=>V0 (by unfold kas_rev;rw[getElem?_mirror_all (by rw[hp.size];exact hk),AAl ⟨ACP _,hi⟩,ADM])
 simp only[e i U,e j hj];exact h _ _ AAc U
theorem pX(h2:2<=n){p:Array Nat}(hp:Pm n p):Ok lt n (λr=>Pm n r.2/\1<=r.1/\r.1<=n/\Up lt r.2 r.1)<|kas_count n p:=by
 refine Ok.bind (λk (⟨a,b,u,d⟩)=>?_) _<|UE T hp (n-1) 1 Nat.zero_lt_one U λi j _ _=>AAc;split
 .exact⟨hp,a,U,u⟩
 .split
  .refine⟨hp.bd U,hp.bd AAc,?_⟩;rw[show lt (p.getD 0 0) (p.getD (k-1) 0)=true from u 0 (k-1) AAc U];exact⟨hp,a,U,u⟩
  .have e:k=1:=U
   subst e;refine Ok.bind (λr hr=>?_) _<|Zz T hp (n-2) 2 U U λi j Bm hj=>?_
   .obtain⟨p',m,q⟩:=r;obtain⟨rfl,rfl,a,b,c⟩:=hr;dsimp only at a b c ⊢;exact pY T hp U U c
   .have:=d U;simp only[show i=0 by lia,show j=1 by lia];exact this
theorem UG{p:Array Nat}(hp:Pm n p){k:Nat}(hk:k<n):∀f l r,l<=r->r<=k->r-l<=f->(∀i,i<l->lt (BZ p i) (BZ p k)=true)->(∀i,r<=i->i<k->lt (BZ p k) (BZ p i)=true)->Up lt p k->Ok lt n (λl=>l<=k/\(∀i,i<l->lt (BZ p i) (BZ p k)=true)/\∀i,l<=i->i<k->lt (BZ p k) (BZ p i)=true) (kas_place p k f l r)
 |0,l,r,h1,h2,h3,a,b,_=>⟨U,a,λi hi=>b i U⟩
 |f+1,l,r,h1,h2,h3,a,b,u=>by
  unfold kas_place;split
  .exact⟨U,a,λi hi=>b i U⟩
  .refine⟨hp.bd hk,hp.bd U,?_⟩;cases c:lt (p.getD k 0) (p.getD ((l+r) / 2) 0)
   .refine UG hp hk f _ r U h2 AAc (λi hi=>?_) b u;have m:=T.at hp hk U U c;by_cases e:i=(l+r) / 2
    .rw[e];exact m
    .exact T.tr _ _ _ (u i _ U U) m
   .refine UG hp hk f l _ U U U a (λi hi Ir=>?_) u;by_cases e:i=(l+r) / 2
    .rw[e];exact c
    .exact T.tr _ _ _ c<|u _ i U Ir
theorem Zy:∀f (p:Array Nat) k,Pm n p->k+f=n->Up lt p k->Ok lt n (λp=>Pm n p/\Up lt p n) (kas_bin f p k)
 |0,_,_,h,e,u=>⟨h,by rw[<-e];exact u⟩
 |f+1,p,k,h,e,u=>by
  refine Ok.bind (λl (⟨hl,a,b⟩)=>Zy f _ _ (Array.Perm.trans (bubble_perm ..) h) U λi j Bm hj=>?_) _<|UG T h U k 0 k U U U (λi hi=>U) (λi _ _=>U) u;have g:∀i,BZ (bubble p k<|k-l) i=BZ p (if i=l then k else if l<i/\i<=k then i-1 else i):=λi=>V0 (by
   rw[getElem?_bubble (by rw[h.size];lia) _ U,show k-(k-l)=l by lia];split
   .rfl
   .split<;>rfl)
  simp only[g,g];by_cases c1:i=l
  .rw[AAl c1,AAj U];exact b _ U U
  .rw[AAj c1];by_cases c2:j=l
   .rw[AAl c2,AAj U];exact a _ U
   .rw[AAj c2];refine u _ _ ?_ ?_<;>(repeat' split)<;>lia
theorem UH(h2:2<=n):Ok lt n (λp=>Pm n p/\Up lt p n)<|kas_sort n:=
 Ok.bind (λr (⟨hp,a,b,u⟩)=>by
  split
  .rw[show max r.1 1=r.1 by lia];exact Zy T _ _ _ hp U u
  .exact⟨hp,by exact(U:r.1=n) ▸ u⟩) _ (pX T h2<|Array.Perm.refl _)
end
open PySem PySem.W PyProof.Rows PySem.SeqAt
inductive PA(h:Heap):List Value->List (Int×Int)->Prop
 |nil:PA h [] []
 |cons {a:Addr} {o:Obj} {t t':Tok} {n:Nat} {p:Int×Int} {vs:List Value} {ps:List (Int×Int)} (ho:h.get? a=some o) (hc:o.cls=.type "tuple") (hd:o.data=.seq #[.int p.1 t,.int p.2 t'] n) (r:PA h vs ps):PA h (.ref a::vs) (p::ps)
theorem PA.len{h:Heap}:∀{vs:List Value}{ps:List (Int×Int)},PA h vs ps->vs.length=ps.length
 |_,_,.nil=>rfl
 |_,_,.cons _ _ _ r=>by simp only[AA6,AA6,r.len]
theorem PA.at{h:Heap}:∀{vs:List Value}{ps:List (Int×Int)}{i:Nat},PA h vs ps->i<ps.length->∃a o t t' n,vs.getD i Value.none=.ref a/\h.get? a=some o/\o.data=.seq #[.int (ps.getD i (0,0)).1 t,.int (ps.getD i (0,0)).2 t'] n
 |_,_,0,.cons ho _ hd _,_=>⟨_,_,_,_,_,rfl,ho,hd⟩
 |_,_,i+1,.cons _ _ _ r,hi=>r.at <|by simpa using hi
theorem PA.kept{h h':Heap}{a:Addr}(k:∀b o,b≠a->h.get? b=some o->h'.get? b=some o):∀{vs:List Value}{ps:List (Int×Int)},(∀v∈vs,v≠.ref a)->PA h vs ps->PA h' vs ps
 |_,_,_,.nil=>.nil
 |_,_,hn,.cons ho hc hd r=>.cons (k _ _ (λe=>hn _ (.head _)<|by rw[e]) ho) hc hd<|r.kept k λv hv=>hn v<|.tail _ hv
theorem PA.Dj{h:Heap}:∀{vs:List Value}{ps:List (Int×Int)},PA h vs ps->∃fs,KatTups h vs fs/\fs.length=ps.length/\∀v∈fs,∃i t,v=Value.int i t
 |_,_,.nil=>⟨[],.nil,rfl,λ_ h=>by cases h⟩
 |_,_,.cons (t:=t) (p:=p) ho hc hd r=>by
  obtain⟨fs,a,b,c⟩:=r.Dj;refine⟨.int p.1 t::fs,.cons ho hc hd rfl a,by simp only[AA6,AA6,b],λv hv=>?_⟩;rcases AAy.mp hv with rfl|hv
  .exact⟨_,_,rfl⟩
  .exact c v hv
noncomputable def Hy(ps:List<|Int×Int)(i j:Nat):Bool:=decide ((ps.getD i (0,0)).1<(ps.getD j (0,0)).1\/((ps.getD i (0,0)).1=(ps.getD j (0,0)).1/\(ps.getD i (0,0)).2<(ps.getD j (0,0)).2))
section
variable{prog:Program}{w:World}{A:Around}{E:Value->Shared->Prop}{s:Shared}{vs:List Value}{ps:List (Int×Int)}
theorem fN(hP:PA s.heap vs ps){i j:Nat}(hi:i<ps.length)(hj:j<ps.length){C:Bool->Shared->Prop}(h:C (Hy ps i j) s):kas_ask prog w A (tuples' true) vs i j C s:=by
 obtain⟨a,o,t,t',n,e1,ho,hd⟩:=hP.at hi;obtain⟨b,o2,u,u',n2,e2,J3,hd2⟩:=hP.at hj;unfold kas_ask;rw[e1,e2];unfold Hy at h;generalize ps.getD i (0,0)=x at h hd;generalize ps.getD j (0,0)=y at h hd2;refine kat_lt ho hd J3 hd2 ?_;refine kat_cons<|EqAt.int_int x.1 t y.1 u prog w _ _ ?_;cases e:(x.1==y.1)with
 |false=>
  have e':=by simpa using e
  refine kat_no<|oneLt_int ?_;rw[show decide (x.1<y.1)=decide (x.1<y.1\/(x.1=y.1/\x.2<y.2))by simp[e']];exact h
 |true=>
  have e':x.1=y.1:=by simpa using e
  refine kat_yes<|kat_cons<|EqAt.int_int x.2 t' y.2 u' prog w _ _ ?_;cases k:(x.2==y.2)with
  |false=>
   refine kat_no<|kat_one _ _<|lt_int ?_;rw[show decide (x.2<y.2)=decide (x.1<y.1\/(x.1=y.1/\x.2<y.2))by simp[e']];exact h
  |true=>
   have k':=by simpa using k
   show C false s;rw[show false=decide (x.1<y.1\/(x.1=y.1/\x.2<y.2))by simp[e',k']];exact h
def ord(ps:List<|Int×Int):List Nat:=if ps.length<2 then List.range ps.length else(run (Hy ps)<|kas_sort ps.length).toList
theorem JS{ps:List (Int×Int)}(nd:ps.Nodup):RK (Hy ps) ps.length:=by
 refine⟨λi j k=>?_,λi j hi hj e=>?_⟩
 .unfold Hy;lia
 .unfold Hy;simp only[decide_eq_true_eq,ACo];have ne:ps.getD i (0,0)≠ps.getD j (0,0):=by simp only[ABW,ABW,AA1 hi,AA1 hj];exact λk=>e<|(ADY nd).mp k
  have:¬ ((ps.getD i (0,0)).1=(ps.getD j (0,0)).1/\(ps.getD i (0,0)).2=(ps.getD j (0,0)).2):=λk=>ne<|ABS k.1 k.2;lia
theorem UO{ps:List (Int×Int)}(nd:ps.Nodup):(ord ps).Perm<|List.range ps.length:=by
 unfold ord;split
 .exact AEE _
 .exact AC8.mp (Ok.run _<|UH (JS nd) U).1
theorem UN{ps:List (Int×Int)}(nd:ps.Nodup):∀i∈ord ps,i<ps.length:=λi h=>AAr.mp<|(UO nd).mem_iff.mp h
theorem qd{ps:List (Int×Int)}(nd:ps.Nodup):(ord ps).length=ps.length:=by rw[(UO nd).length_eq,ABd]
theorem qe{ps:List (Int×Int)}(nd:ps.Nodup):(ord ps).Pairwise λi j=>Hy ps i j=true:=by
 unfold ord;split
 .rw[ABV];intro i j hi hj Bm;rw[ABd]at hj;lia
 .rw[ABV];intro i j hi hj Bm;have h:=Ok.run _<|UH (JS nd) U;have hs:=h.1.size;simp only[ABZ,hs]at hj;have:=h.2 i j Bm hj;simpa[BZ,Array.getD,hs,hj,show i<ps.length by lia]using this
theorem xD{a:Addr}{n:Nat}{P:PySem.Fin->Shared->Prop}(ho:s.heap.get? a=some (seqObj "list" vs.toArray n))(hP:PA s.heap vs ps)(nd:ps.Nodup)(Oy:∀v∈vs,v≠.ref a)(Hj:vs.length<64) (h:P (.done<|.ret .none) {s with heap:=sortedHeap s.heap a vs ((ord ps).map λi=>vs.getD i Value.none).toArray}) :
 wpAny (model prog w) A (Builtin.«list.sort» ⟨[.ref a],[]⟩) P E s:=by
 have hl:=hP.len;rw[list_sort_plain];have ha:=Heap.lt_size ho;refine wpAny_bind<|listItems_at ho rfl ?_;refine wpAny_bind (listUpdate_at ho rfl ?_ (by rw[AA4,sizeLine_eq];lia) (ACP _));obtain⟨e1,Yb⟩:∃e1,(s.heap.update a<|Obj.mapSeq λ_=>#[]).get? a=some (seqObj "list" #[] e1):=⟨_,get?_update_seq ho (λ_=>#[])⟩;refine wpAny_bind<|seqEpoch_at Yb rfl ?_;refine wpAny_bind (wpAny_newTuple ?_ (by show vs.length<=_;rw[sizeLine_eq];lia));refine wpAny_bind<|wpAny_newList ?_ (ACP _);refine wpAny_holding ?_;have O1:(((s.heap.update a<|Obj.mapSeq λ_=>#[]).push<|seqObj "tuple" vs.toArray 0).push<|seqObj "list" #[] 0).get? a=some (seqObj "list" #[] e1):=by rw[Heap.get?_push_ne _ _ _ (by rw[size_push',Heap.size_update];exact AA0<|ACy ha),Heap.get?_push_ne _ _ _ (by rw[Heap.size_update];exact AA0 ha)];exact Yb
 have kp:∀b o,b≠a->s.heap.get? b=some o->(((s.heap.update a<|Obj.mapSeq λ_=>#[]).push<|seqObj "tuple" vs.toArray 0).push<|seqObj "list" #[] 0).get? b=some o:=λb o hb q=>
  Heap.get?_push_of_some _ (Heap.get?_push_of_some _ (by rw[Heap.get?_update_ne _ _ _ _ hb];exact q))
 have YD:=hP.kept kp Oy;dsimp only;have hsz:vs.toArray.size=vs.length:=AAd
 by_cases h2:vs.toArray.size<2
 .rw[AAl h2,AAl h2];refine wpAny_bind<|wpAny_pure ?_;refine wpAny_bind<|wpAny_pure ?_;dsimp only;refine wpAny_bind<|seqEpoch_at O1 rfl ?_;refine wpAny_bind (listUpdate_at O1 rfl ?_ (hsz2:=by rw[Array.size_map];show(pairsOf vs).size<=_;rw[pairsOf_size,sizeLine_eq];lia));simp only[bne_self_eq_false];have eo:((ord ps).map λi=>vs.getD i Value.none).toArray=(vs.toArray.zip vs.toArray).map (·.2):=by
   unfold ord
   match vs,hl,h2 with
   |[],hl,_=>rw[<-hl];simp
   |[v],hl,_=>rw[<-hl];simp[ACL]
   |_::_::_,_,h2=>exact absurd h2 AAd
  rw[eo]at h;exact wpAny_pure h
 .rw[AAj h2,AAj h2];obtain⟨fs,kt,kl,ki⟩:=YD.Dj;refine wpAny_bind (kat_kind kt U (λv hv=>by obtain⟨i,t,rfl⟩:=ki v hv;exact .now) AAe ?_);have hw:(kas_sort vs.length).kasWp (kas_ask prog w A (tuples'<|Value.type "int" != Value.type "tuple") vs) (λp s'=>p=run (Hy ps) (kas_sort ps.length)/\s'={s with heap:=((s.heap.update a<|Obj.mapSeq λ_=>#[]).push<|seqObj "tuple" vs.toArray 0).push (seqObj "list" #[] 0)}) {s with heap:=((s.heap.update a<|Obj.mapSeq λ_=>#[]).push<|seqObj "tuple" vs.toArray 0).push (seqObj "list" #[] 0)}:=by rw[hl];exact Ok.wp (λi j C hi hj hC=>fN YD hi hj hC) _ (UH (JS nd) U) ⟨rfl,rfl⟩
  refine wpAny_bind<|wpAny_mono (kat_run (Q:=λG9 s'=>∃p:Array Nat,p.size=vs.length/\arrOf G9=p.map (kas_item<|vs.toArray.zip vs.toArray)/\failedOf G9=none/\p=run (Hy ps) (kas_sort ps.length)/\s'={s with heap:=((s.heap.update a<|Obj.mapSeq λ_=>#[]).push<|seqObj "tuple" vs.toArray 0).push (seqObj "list" #[] 0)}) rfl U Hj (λp' G9 s' a1 a2 a3 a4=>⟨p',a1,a2,a3,a4⟩) hw) ?_ λ_ _ e=>e;rintro⟨⟨⟩,G9⟩ s' ⟨p,hp,lE,hf,S7,rfl⟩;have mQ:=kat_snds rfl lE;rw[mQ];refine wpAny_bind<|seqEpoch_at O1 rfl ?_;refine wpAny_bind (listUpdate_at O1 rfl ?_ (hsz2:=by simp only[AA4,AAi,ABZ,hp,sizeLine_eq];lia));rw[hf];simp only[bne_self_eq_false];have eo:ord ps=p.toList:=by unfold ord;rw[AAj U,S7]
  rw[eo]at h;exact wpAny_pure h
theorem xE{l:Addr}{Q:Value->Shared->Prop}(hl:s.heap.IsList l vs.toArray)(hP:PA s.heap vs ps)(nd:ps.Nodup)(Hj:vs.length<64) (h:Q (.ref<|s.heap.objs.size+1) {s with heap:=sortedAll s.heap vs ((ord ps).map λi=>vs.getD i Value.none).toArray}) :
 wpAny (model prog w) A (call (.builtin "sorted") [.ref l]) Q E s:=by
 refine Calls.call_function_entry kind_sorted plain_sorted entry_sorted (args_sorted1 _) ?_;refine wpAny_bind <|wpAny_pure ?_;refine wpAny_bind (collect_list hl ?_ (by rw[sizeLine_eq];lia));refine wpAny_bind (wpAny_newList ?_ (by rw[sizeLine_eq];lia));have hsz:((s.heap.push<|seqObj "list" #[] 0).update s.heap.objs.size (Obj.mapSeq (· ++ vs.toArray))).objs.size=s.heap.objs.size+1:=by rw[Heap.size_update,size_push']
 have O2:(((s.heap.push<|seqObj "list" #[] 0).update s.heap.objs.size (Obj.mapSeq (· ++ vs.toArray))).push<|seqObj "list" vs.toArray 0).get? (s.heap.objs.size+1)=some (seqObj "list" vs.toArray 0):=by rw[<-hsz];exact Heap.get?_push_size _ rfl
 have keep:∀b o,s.heap.get? b=some o->(((s.heap.push<|seqObj "list" #[] 0).update s.heap.objs.size (Obj.mapSeq (· ++ vs.toArray))).push<|seqObj "list" vs.toArray 0).get? b=some o:=λb o q=>by have BM:=Heap.lt_size q;rw[Heap.get?_push_ne _ _ _ (by rw[hsz];exact AA0<|ACy BM),Heap.get?_update_ne _ _ _ _ (AA0 BM),Heap.get?_push_ne _ _ _ (AA0 BM)];exact q
 rw[hsz];have Oy:∀v∈vs,v≠Value.ref (s.heap.objs.size+1):=λv hv e=>by
  have:∀{vs:List Value}{ps:List (Int×Int)},PA s.heap vs ps->∀v∈vs,∃b,v=.ref b/\b<s.heap.objs.size:=λ{vs ps} h=>by
   induction h with
   |nil=>intro v hv;contradiction
   |cons ho hc hd r ih=>
    intro v hv;rcases AAy.mp hv with rfl|hv
    .exact⟨_,rfl,Heap.lt_size ho⟩
    .exact ih v hv
  obtain⟨b,e',hb⟩:=this hP v hv;rw[e']at e;cases e;exact absurd hb (Nat.not_lt.mpr<|AD7 _)
 refine wpAny_bind<|wpAny_holding<|wpAny_call_entry slot_list_sort ⟨_,O2,rfl⟩ entry_list_sort (xD O2 (hP.kept (λb o _ q=>keep b o q) Oy) nd Oy Hj ⟨_,rfl,?_⟩)<|args_list_sort _;exact wpAny_pure ⟨_,rfl,h⟩
end
end C2
namespace L2.PL
set_option tactic.hygienic true
open PySem PySem.Spec PyProof.Rows
noncomputable def LU:List PV->Option (List<|Int×Int)
 |[]=>some []
 |.tup [.int p,.int q]::r=>(LU r).map ((p,q) :: ·)
 |_=>none
def Hv:List RV->Option RV
 |[r]=>match r.list with
  |some ps=>(match LU ps with
   |some zs=>if ps.length<64/\zs.Nodup then some (.fr<|(C2.ord zs).map λi=>ps.getD i .Au)else none
   |none=>none)
  |none=>none
 |_=>none
def N5(K:W.Frag)(H:Hp)(z:Int×Int)(v:V):Prop:=∃a,v=.ref a/\Bs K H a [.int z.1,.int z.2]
theorem aC{K:W.Frag}{G:Hp}:∀{ps:List PV}{zs:List (Int×Int)}{vs:List V},LU ps=some zs->Ab K G ps vs->Paired (N5 K G) zs vs
 |[],_,_,e,h=>by cases e;subst h;exact .nil
 |p::r,zs,vs,e,h=>by
  unfold LU at e;split at e
  .rename_i e0;contradiction
  .rename_i p' q' r' e0;cases e0;obtain⟨zs',ez,rfl⟩:=AD6.mp e;obtain⟨v,us,rfl,hv,t⟩:=h;obtain⟨a,rfl,ha⟩:=US hv;exact .cons ⟨a,rfl,ha⟩<|aC ez t
  .contradiction
theorem cw{ys:List V}{its:List Value}(h:As ys its):∀l:List Nat,(∀i∈l,i<ys.length)->As (l.map λi=>ys.getD i .Au) (l.map λi=>its.getD i Value.none)
 |[],_=>.nil
 |i::l,hl=>by have hi:=hl i<|.head _;obtain⟨u,eu,ru⟩:=h.get<|AA1 hi;refine .cons ?_ (cw h l λj hj=>hl j<|.tail _ hj);show RelV (ys.getD i .Au) (its.getD i Value.none);simp only[ABW,ABW,AA1 hi,eu];exact ru
theorem bC{K:W.Frag}{G:Hp}{ps:List PV}{ys:List V}(h:Paired (Rep K G) ps ys):∀l:List Nat,(∀i∈l,i<ps.length)->Paired (Rep K G) (l.map λi=>ps.getD i .Au) (l.map λi=>ys.getD i .Au)
 |[],_=>.nil
 |i::l,hl=>by have hi:=hl i<|.head _;obtain⟨u,eu,ru⟩:=KH h<|AA1 hi;refine .cons ?_ (bC h l λj hj=>hl j<|.tail _ hj);show Rep K G (ps.getD i .Au) (ys.getD i .Au);simp only[ABW,ABW,AA1 hi,eu];exact ru
section
variable{X:Cx}
set_option tactic.hygienic false
theorem aA{AE:List (Addr×Obj)}{σ:St}{H:Hp}{s:Shared}(I:Inv X AE σ H s):∀{zs:List (Int×Int)}{ys:List V}{its:List Value},Paired (N5 X.K H) zs ys->As ys its->C2.PA s.heap its zs
 |_,_,_,.nil,h=>by cases h;exact .nil
 |_,_,_,.cons ⟨a,e,ha⟩ r,h=>by
  cases h with
  |cons ru t=>
   subst e;cases ru;obtain⟨i1,r1,⟨o,h1,k1,n1,z1⟩,_⟩:=I.tuple ha;obtain⟨t1,t2,rfl⟩:=UR r1;exact .cons h1 k1 z1<|aA I r t
theorem gc:Cz X (.builtin "sorted") (λxs H Q=>∃(p:Addr)(ys:List V)(zs:List<|Int×Int),xs=[.ref p]/\CS X.K H p ys/\Paired (N5 X.K H) zs ys/\ys.length<64/\zs.Nodup/\∀l,H l=none->Q (.ref l) (upd H l<|.lst<|(C2.ord zs).map λi=>ys.getD i .Au)):=by
 intro AE s σ H xs us Q I r h;obtain⟨p,ys,zs,rfl,hq,hp,Hj,nd,q⟩:=h;obtain⟨u,rfl,rx⟩:=vals1 r;cases rx;obtain⟨its,r',pl,hz⟩:=I.list hq;have Bg:=r'.length;have K3:=Paired.length hp;have O4:=C2.UN nd;refine C2.xE pl.isList (aA I hp r') nd U ?_;obtain⟨e,he⟩:=sortedAll_at s.heap its ((C2.ord zs).map λi=>its.getD i Value.none).toArray;have O3:(C2.ord zs).length<=sizeLine:=by rw[C2.qd nd];lia
 exact⟨.ref<|s.heap.objs.size+1,_,I.laid (λb o k=>sortedAll_old k) (AD7 _) (show B1 X.prog X.w _ _ _ (.lst _)from⟨by rw[AAi];exact O3,_,e,cw r' _ (λi hi=>by have:=O4 i hi;lia),he⟩),rfl,q _<|I.Af.fresh<|AD7 _⟩
set_option tactic.hygienic true
theorem qY:ED X.K Hv (λxs H Q=>∃(p:Addr)(ys:List V)(zs:List<|Int×Int),xs=[.ref p]/\CS X.K H p ys/\Paired (N5 X.K H) zs ys/\ys.length<64/\zs.Nodup/\∀l,H l=none->Q (.ref l) (upd H l<|.lst<|(C2.ord zs).map λi=>ys.getD i .Au)):=by
 intro rs z H0 G H vs Q sub sh e rv q;unfold Hv at e;split at e
 .split at e
  .rename_i ps es;split at e
   .rename_i zs ez;split at e
    .rename_i Hj;cases e;obtain⟨v,rfl,hv⟩:=rv.one;obtain⟨a,us,rfl,hq,rl⟩:=hv.list sub es;have hp:=aC ez rl;have hl:=rl.paired.length;have hz:=Paired.length hp;refine⟨a,us,zs,rfl,.inl hq,Paired.Pn hp (by rintro _ _ ⟨b,e,h⟩;exact⟨b,e,Bs.same sub h⟩),U,Hj.2,λl hl=>q _ _ _ (Ar.Gx sub _ hl) ⟨l,_,rfl,sh.free hl,sub.free hl,Cu,Ab.of<|bC rl.paired _ λi hi=>?_⟩⟩;have:=C2.UN Hj.2 i hi;lia
    .contradiction
   .contradiction
  .contradiction
 .contradiction
end
section
variable{X:Cx}{AW AU:Hp}{e:Expr}{f:EF}{pos:Pos}
noncomputable def Og(i j:Nat):SF:=λρ=>match ρ[i]?,ρ[j]? with
 |some (some<|.im p),some (some<|.own ps)=>some<|.rt<|.tf p ps
 |some (some<|.im p),some (some<|.im q)=>some<|.rt<|.cl<|.tup [p,q]
 |_,_=>none
theorem uz(i j:Nat){x y:Str}{p q:Pos}{x1}{EZ:Pos}(hN:X.N[i]? = some x)(hv:EE X.env.scope x)(km:X.N[j]? = some y)(Mp:EE X.env.scope y)(hd:(x==("__debug__"))=false)(Gj:(y==("__debug__"))=false) (BV:(x==("__classdict__"))=false) (lK:(y==("__classdict__"))=false):Cg X AW AU (.Return (some<|.Tuple [.Name x p,.Name y q] x1 EZ) pos)<|Og i j:=
 PS.imp (QD<|P8<|EW (GA hN hv hd BV)<|EW (GA km Mp Gj lK) F9) (by
  rintro D σ H ⟨G,ρ,o,S,e,k⟩;unfold Og at e;split at e
  .rename_i p ps e1 e2;cases e;obtain⟨u,eu,ru⟩:=S.r.slot i _ e1;obtain⟨v,ev,a,vs,rfl,ga,ha,rl⟩:=S.r.slot j _ e2;refine⟨u,eu,.ref a,ev,small AAd,λb hb=>?_⟩;have s3:=Ar.new S.r.sub (.tup [u,.ref a]) hb;have Ap:a≠b:=λz=>by rw[z,hb]at ha;contradiction
   exact k _ _ _ (S.JO.trans s3) ⟨b,a,u,vs,rfl,.inl<|.inl Cu,Rep.same s3.gg ru,S.new j _ a rfl e2 ev,by rw[BH Ap];exact ga,by rw[BH Ap];exact ha,Ab.same s3.gg rl⟩
  .rename_i p q e1 e2;cases e;obtain⟨u,eu,ru⟩:=S.r.slot i _ e1;obtain⟨v,ev,rv⟩:=S.r.slot j _ e2;refine⟨u,eu,v,ev,small AAd,λb hb=>?_⟩;have s3:=Ar.new S.r.sub (.tup [u,v]) hb;refine k _ _ _ (S.JO.trans s3) ?_;refine⟨b,_,rfl,.inl<|.inl Cu,?_⟩;exact⟨_,_,rfl,Rep.same s3.gg ru,_,_,rfl,Rep.same s3.gg rv,rfl⟩
  .contradiction)
noncomputable def Jr(i j:Nat)(f:EF):SF:=λρ=>match f ρ with
 |some (.tf p ps)=>some<|.nx<|(ρ.set i<|some<|.im p).set j<|some<|.own ps
 |some (.cl<|.tup [p,q])=>some<|.nx<|(ρ.set i<|some<|.im p).set j<|some<|.im q
 |_=>none
theorem ug(i j:Nat){x y:Str}{p q:Pos}{k1:Nat}{EZ:Pos}(hc:X.calm=true)(hN:X.N.Nodup)(he:PX X e f)(hi:X.N[i]? = some x)(hx:Loc X.env.scope x)(hj:X.N[j]? = some y)(hy:Loc X.env.scope y)(hf:X.fn x=true\/X.env.scope.names.lookup x=some .local)(Mc:X.fn y=true\/X.env.scope.names.lookup y=some .local) (hs:swapsWithSole [.Tuple [.Name x p,.Name y q] k1 EZ] e pos.line X.env=pure false) (hw:swappedStores [.Tuple [.Name x p,.Name y q] k1 EZ] e X.env=pure none) (h1:(assignEach [.Tuple [.Name x p,.Name y q] k1 EZ] X.env).map (·.2)=[assign (.Tuple [.Name x p,.Name y q] k1 EZ) X.env]) (a1:(assignEach [Expr.Name x p,.Name y q] X.env).map (·.2)=assign (.Name x p) X.env::(assignEach [.Name y q] X.env).map (·.2)) (a2:(assignEach [Expr.Name y q] X.env).map (·.2)=assign (.Name y q) X.env::(assignEach [] X.env).map (·.2)) (a3:(assignEach [Expr.Name x p,.Name y q] X.env).length=2) (a4:(assignEach [Expr.Name x p,.Name y q] X.env).findIdx? (·.1)=none) : Cg X AW AU (.Assign [.Tuple [.Name x p,.Name y q] k1 EZ] e pos)<|Jr i j f:=
 PS.imp (aZ he (aL hc (UZ (UY hN hi hx hf) (UZ (UY hN hj hy Mc) aM a2) a1) a3 a4) hs hw h1) (by
  rintro D σ H ⟨G,ρ,o,S,e,k⟩;unfold Jr at e;split at e
  .rename_i p ps er;cases e;refine⟨G,ρ,_,S.r,er,λv G' H' s rv=>?_⟩;obtain⟨a,l,u,vs,rfl,hq,ru,n,g,hl,rl⟩:=rv;have S':=S.step s;refine⟨a,_,rfl,Bs.same S'.r.sub hq,rfl,u,_,rfl,.ref l,_,rfl,rfl,?_⟩;have S2:=S'.turn (S'.r.DP (i:=i) ru) C0.DP;refine k _ _ _ s.gg<|S2.Ut S.hh (λm t b o1 e1 e2=>?_) n g hl rl;rcases get_set e1 with⟨_,z⟩|⟨hm,e1⟩
   .subst z;contradiction
   .rw[AA2<|ABX hm]at e2;exact S.r.NH m t b o1 e1 e2
  .rename_i p q er;cases e;refine⟨G,ρ,_,S.r,er,λv G' H' s rv=>?_⟩;have S':=S.step s;obtain⟨a,us,rfl,hq,rl⟩:=rv;obtain⟨u,_,rfl,ru,w,_,rfl,Cs,rfl⟩:=rl;refine⟨a,_,rfl,Bs.same S'.r.sub hq,rfl,u,_,rfl,w,_,rfl,rfl,?_⟩;have S2:=S'.turn (S'.r.DP (i:=i) ru) C0.DP;exact k _ _ _ s.gg<|S2.turn (S2.r.DP Cs) C0.DP
  .contradiction)
end
end L2.PL
namespace L2
open PySem PySem.Spec PyProof.Rows
section
variable{X:Cx}{k j i:Nat}{f Wc:Addr}{fd:FuncData}{ps:List Str}{sp:Sp}{E:XK}{x y n fx:Str}{p yp fp np O5 Ay apos pos:Pos}{e:Expr}{es:List Expr}{t:TA}{Fd:List Stmt}{Kn:Stmt}{ts:TS}
theorem wg{Cy:Value->Shared->Prop}{pn' AE:List (Addr×Obj)}{σ:St}{H:Hp}{s:Shared}{D:Ends}{Qa:List V->Hp->Prop}(I:Inv (X.re Cy pn') AE σ H s)(hN:X.N.Nodup)(hj:X.N[j]? = some y)(hy:Loc X.env.scope y)(Sg:X.fn y=true\/X.env.scope.names.lookup y=some .local)(F:Cd X.prog X.w X.K X.mg X.base (GO X.prog X.w) k f fd ps sp)(hr:Br k X.A)(hg:Gl X fx)(hm:X.mg fx=some (.ref f))(hk:W.keepIn X.K (.ref f)=true)(hb:Binds X.K fd ps []) (ha:PA (X.re Cy pn') (e::es) t) (h:t σ H Qa) (hQ:∀vs H1,Qa vs H1->∃E:XK,sp vs H1 (λv H2=>D.nx (σ.set j<|some v) H2) E/\∀s1 e s',Inv (X.re Cy pn') AE σ H1 s1->GO X.prog X.w X.stack H1 s1 E e s'->Cy e s')
 (CA:(fx==("__debug__"))=false) (he:starEach (e::es) X.env=(false,eval e X.env)::starEach es X.env) (A7:(backTo Ay<|starEach es X.env).any (·.1)=false) (hs:swapsWith (.Call (.Name fx fp) (e::es) [] Ay) (some<|.Name y yp) apos.line X.env=pure false) :
 wpAny (model X.prog X.w) X.A (execs [.Assign [.Name y yp] (.Call (.Name fx fp) (e::es) [] Ay) apos] X.env) (SP (X.re Cy pn') AE D) Cy s:=by
 refine wpAny_execs_cons<|Aj (Q:=SP (X.re Cy pn') AE D) (wpAny_Assign_Name (Aj (Q:=EP (X.re Cy pn') AE σ λv H2=>D.nx (σ.set j<|some v) H2) ?_ λv s1 ⟨y',H1,I1,r1,q1⟩=>?_) hs) λfl s1 q=>?_
 .refine wpAny_Call_Name_kw<|LJ (X:=X.re Cy pn') I hg hm ?_ CA;refine W.callWith_K I.ok.mod.LI hk (Aj (ha Ay AE s σ H _ I h) λus s1 ⟨vs,H1,I1,r,q⟩=>⟨I1.BC,?_⟩) he A7;obtain⟨E,DY,hx⟩:=hQ vs H1 q;have hl:us.length=ps.length:=by rw[<-r.length];exact F.len _ _ _ _ DY
  refine wpAny_call (codeAny_mono (F.run X.A X.stack s1 H1 ⟨us,[]⟩ us vs _ E hr I1.R3 (by have:=hb s1 us I1.BC (by rw[ABs];exact hl);rwa [ABs]at this) r DY) λr s' hq=>?_);cases r with
  |error e=>exact hx s1 e s' I1 hq
  |ok fl=>
   cases fl with
   |ret u=>exact I1.after hq
   |next=>exact False.elim hq
   |brk=>exact False.elim hq
   |cont=>exact False.elim hq
 .exact KR (X:=X.re Cy pn') I1 hN hj hy r1 (λs2 I2=>⟨_,H1,I2,q1⟩) Sg
 .cases fl with
  |next=>exact wpAny_execs_nil q
  |ret v=>exact q
  |brk=>exact q
  |cont=>exact q
def xu(X:Cx)(Wc:Addr)(i j:Nat)(sp:Sp)(t:TA)(ts:TS):TS:=λD σ H=>t σ H λvs H1=>∃E:XK,sp vs H1 (λv H2=>D.nx (σ.set j<|some v) H2) E/\
 ∀cls H',E cls none H'->∃C,cls=.ref C/\W.exmOne X.K cls (.ref Wc)=some true/\∀ea,H' ea=none->ts {nx:=λDk Cv=>D.nx (Dk.set i none) Cv,rt:=D.rt,bk:=λDk Cv=>D.bk (Dk.set i none) Cv,ct:=λDk Cv=>D.ct (Dk.set i none) Cv} (σ.set i<|some<|.ref ea) (upd H' ea<|.ext<|Ed ea C)
theorem sL(d:L3 X)(hN:X.N.Nodup)(hi:X.N[i]? = some n)(hl:X.env.scope.names.lookup n=some .local)(hg:Gl X x)(hm:X.mg x=some (.ref Wc))(hj:X.N[j]? = some y)(hy:Loc X.env.scope y)(Sg:X.fn y=true\/X.env.scope.names.lookup y=some .local)(F:Cd X.prog X.w X.K X.mg X.base (GO X.prog X.w) k f fd ps sp)(hr:Br k X.A)(Sh:Gl X fx)(mC:X.mg fx=some (.ref f))(hk:W.keepIn X.K (.ref f)=true)(hb:Binds X.K fd ps []) (ha:∀Cy pn',PA (X.re Cy pn') (e::es) t) (hs:∀ea,Ce (X.E4 ea) (Kn::Fd) ts) (CA:(x==("__debug__"))=false) (Hk:(fx==("__debug__"))=false) (he:starEach (e::es) X.env=(false,eval e X.env)::starEach es X.env) (A7:(backTo Ay<|starEach es X.env).any (·.1)=false) (Ho:swapsWith (.Call (.Name fx fp) (e::es) [] Ay) (some<|.Name y yp) apos.line X.env=pure false) : PS X (.Try [.Assign [.Name y yp] (.Call (.Name fx fp) (e::es) [] Ay) apos] [.ExceptHandler (some<|.Name x np) (some n) (Kn::Fd) O5] [] [] pos)<|xu X Wc i j sp t ts:=by
 intro AE s σ H D I h;have Mf:X.A.frames=some (X.env::X.outer):=by rw[<-d.EX];exact I.ok.frames
 refine wpAny_Try_except<|wpAny_mono (wg (D:=D) (pn':=X.pn++AE) I.re hN hj hy Sg F hr Sh mC hk hb (ha _ _) h ?_ Hk he A7 Ho) (λf s1 q=>?_) λe s1 q=>q
 .-- JR exception is met
  intro vs H1 ⟨E,hq,hh⟩;refine⟨E,hq,λs1 e s' I1 hc=>?_⟩;obtain⟨ea,cls,B,H',rfl,F,hE⟩:=hc;obtain⟨C,rfl,mF,mh⟩:=hh _ _ hE;obtain⟨a0,fl⟩:=F.OU;have fl:Heap.FlyingW B (X.env::X.outer) ea (.ref C) a0 s'.heap:=by rw[<-d.EX];exact fl
  have L1:=I1.NZ;have after:∀EO,B.StaysIn EO->s'.heap.UpToSlots EO->Inv X AE σ H' {s' with heap:=EO}:=λEO st us=>by
   obtain⟨u,ok⟩:=F.then st us
   exact L1.WI F.os u ok F.bare λb z=>nomatch z
  refine wpAny_looks_onW Mf d.fr fl λYq lY Yl=>?_;refine wpAny_landsW lY λMr SJ Ym=>?_;have I5:=after Mr SJ.1<|Yl.trans Ym;obtain⟨ob,mJ,mK⟩:=SJ.there;refine wpAny_handleBy_cons (codeAny_handlers_test<|LJ I5.E4 hg hm ?_ CA) (by intro q;contradiction);have LT:W.Looks (model X.prog X.w) Mr (typeOf<|.ref ea)<|.ref C:=mK ▸ (W.Looks.ld mJ).andThen .now;refine W.Looks.here (s:={s' with heap:=Mr}) (W.exm_one I5.BC LT mF) ?_;refine codeAny_handlers_suite_as ?_;refine lands_againW SJ λYr Xu mX=>?_;have I6:=after Yr Xu.1<|(Yl.trans Ym).trans mX;have Ap:∀b o,s1.heap.get? b=some o->b≠ea:=λb o e z=>by rw[z,F.nw]at e;contradiction
  have I7:Inv X AE σ (upd H' ea<|.ext<|Ed ea C) {s' with heap:=Yr}:=by
   refine I6.yQ F.he (L1.old d.ex F.nw) ?_ (λz=>?_) (λy c e=>?_) λp hp=>?_
   .obtain⟨_,_,_,oe,vs,T,oT,ts,he,hc,hd,_⟩:=Xu;exact⟨oe,he,hc.1⟩
   .obtain⟨m,⟨o,_,_,ho,_⟩,_⟩:=L1.loc;exact Ap _ _ ho z.symm
   .obtain⟨v,o,ho,_⟩:=L1.cell y c e;exact Ap _ _ ho
   .exact Ap _ _ (L1.pin p hp).1
  refine KR (X:=X.E4 ea) I7.E4 hN hi (.inl hl) (v:=.ref ea) rfl (λs8 I8=>?_)<|.inr hl;refine wpAny_mono (hs ea AE s8 _ _ _ I8<|mh ea F.he) (λf s9 q=>?_) λ_ _ z=>z.elim;cases f with
  |next=>
   obtain⟨Ac,H2,I',q⟩:=q;exact name_goes (I'.Qd I.ok) hN hi hl λUr Jb=>⟨_,H2,Jb,q⟩
  |brk=>
   obtain⟨Ac,H2,I',q⟩:=q;exact name_goes (I'.Qd I.ok) hN hi hl λUr Jb=>⟨_,H2,Jb,q⟩
  |cont=>
   obtain⟨Ac,H2,I',q⟩:=q;exact name_goes (I'.Qd I.ok) hN hi hl λUr Jb=>⟨_,H2,Jb,q⟩
  |ret u=>
   obtain⟨v,Ac,H2,I',r,q⟩:=q;exact name_goes (I'.Qd I.ok) hN hi hl λUr Jb=>⟨v,_,H2,Jb,r,q⟩
 .cases f with
  |next=>
   obtain⟨Ac,H',I',q⟩:=q;exact wpAny_execs_nil ⟨Ac,H',I'.NZ,q⟩
  |brk=>
   obtain⟨Ac,H',I',q⟩:=q;exact⟨Ac,H',I'.NZ,q⟩
  |cont=>
   obtain⟨Ac,H',I',q⟩:=q;exact⟨Ac,H',I'.NZ,q⟩
  |ret u=>
   obtain⟨v,Ac,H',I',r,q⟩:=q;exact⟨v,Ac,H',I'.NZ,r,q⟩
end
end L2
namespace L2.PL
open PySem PySem.Spec PyProof.Rows
section
variable{X:Cx}{E:XK}{AW AU:Hp}{e:Expr}{es:List Expr}{ga:AF}{pos:Pos}
noncomputable def JE(ρ:AX):AX:=ρ.map λo=>match o with|some (.im p)=>some (.im p)|_=>none
theorem ZC{ρ:AX}{j:Nat}{sv:SV}(h:(JE ρ)[j]? = some (some sv)):sv.ES=false/\ρ[j]? = some (some sv):=by
 unfold JE at h;rw[ABm]at h
 match e:ρ[j]?,h with
 |some (some<|.im p),h=>cases h;exact⟨rfl,rfl⟩
set_option tactic.hygienic true
def JX(i j:Nat)(L:List Str)(F:List PV->Option RV)(XF:List PV->Option Str)(ga:AF)(Fd:SF):YF:=λρ=>match ga ρ with
 |some rs=>(match CZ rs with
  |some ps=>(match F ps with
   |some (.fr qs)=>some<|.o<|.nx<|ρ.set j<|some<|.own qs
   |some r=>(match r.clean with|some p=>some (.o<|.nx<|ρ.set j<|some<|.im p)|none=>none)
   |none=>(match XF ps with
    |some nm=>if L.contains nm=true then(match Fd ((JE ρ).set i<|some<|.exc nm)with|some (.nx ρ')=>some (.o<|.nx<|ρ'.set i none)|_=>none)else none
    |none=>none))
  |none=>none)
 |none=>none
theorem vW{Fd:List Stmt}{Kn:Stmt}{x y n fx:Str}{yp fp np O5 Ay apos:Pos}{Wc:Addr}{i j l k m:Nat}{L:List Str}{gs:SF}{F:List PV->Option RV}{XF:List PV->Option Str}(c:FL X.prog X.w X.K X.mg X.base fx l m F XF)(hr:Br k X.A)(d:L3 X)(hN:X.N.Nodup)(hi:X.N[i]? = some n)(hl:X.env.scope.names.lookup n=some .local)(hg:Gl X x)(hm:X.mg x=some (.ref Wc)) (T:∀nm C,L.contains nm=true->DI X.K nm C->W.exmOne X.K (.ref C) (.ref Wc)=some true) (hex:∀nm,L.contains nm=true->∃C,DI X.K nm C) (ha:∀Cy pn',Cf (X.re Cy pn') (e::es) ga) (Hl:∀ρ rs,ga ρ=some rs->rs.length=m) (hs:∀ea,Dm (X.E4 ea) AW AU (Kn::Fd) gs) (hj:X.N[j]? = some y) (hy:Loc X.env.scope y) (hf:X.fn y=true\/X.env.scope.names.lookup y=some .local) (hk:l<=k) (Sh:Gl X fx) (CA:(x==("__debug__"))=false) (Hk:(fx==("__debug__"))=false) (he:starEach (e::es) X.env=(false,eval e X.env)::starEach es X.env) (A7:(backTo Ay<|starEach es X.env).any (·.1)=false) (Ho:swapsWith (.Call (.Name fx fp) (e::es) [] Ay) (some<|.Name y yp) apos.line X.env=pure false) : HP X E AW AU (.Try [.Assign [.Name y yp] (.Call (.Name fx fp) (e::es) [] Ay) apos] [.ExceptHandler (some<|.Name x np) (some n) (Kn::Fd) O5] [] [] pos)<|JX i j L F XF ga gs:=by
 obtain⟨f,fd,ps,h1,h2,h3,h4,h5⟩:=c;refine PS.imp (sL (t:=QX X.K ga) (ts:=Lf X.K AW AU gs) d hN hi hl hg hm hj hy hf (h1.mono hk) hr Sh h2 h3 h4 (λCy pn'=>ha Cy pn') hs CA Hk he A7 Ho) λD σ H ⟨G,ρ,o,S,e,k⟩=>?_;unfold JX at e;split at e
 .rename_i rs eg;split at e
  .rename_i qs eq;refine⟨G,ρ,rs,S.r,eg,λvs G1 H1 s1 rv=>?_⟩;have S1:=S.step s1.all;have Bg:vs.length=m:=by rw[<-Hl ρ rs eg];exact(Paired.length rv).symm
   have rc:=IW s1.sub rv eq;split at e
   .rename_i qs' er;cases e;refine⟨λ_ _ _=>False,⟨Bg,DX G1 H H1,qs,s1.all.sub,rc,.inl ⟨_,er,λv G' H' s GG=>?_⟩⟩,λ_ _ z=>z.elim⟩;obtain⟨a,us,rfl,n,g,hq,rl⟩:=GG;exact k _ _ _ (s1.all.gg.trans s.gg)<|(S1.step s).Ut S1.hh S1.r.NH n g hq rl
   .rename_i r Ap er;split at e
    .rename_i p ep;cases e;refine⟨λ_ _ _=>False,⟨Bg,DX G1 H H1,qs,s1.all.sub,rc,.inl ⟨_,er,λv G' H' s GG=>?_⟩⟩,λ_ _ z=>z.elim⟩;have S2:=S1.step s.all;exact k _ _ _ (s1.all.gg.trans s.all.gg)<|S2.turn (S2.r.DP<|GG.clean s.sub ep) C0.DP
    .contradiction
   .split at e
    .rename_i nm ex;split at e
     .rename_i hL;split at e
      .rename_i ρ' es;cases e;obtain⟨C,hC⟩:=hex nm hL;refine⟨λcls _ H'=>cls=.ref C/\Ak H1 H',⟨Bg,DX G1 H H1,qs,s1.all.sub,rc,.inr ⟨nm,ex,λC' H' kd sm=>⟨by rw[DI.inj kd hC],sm⟩⟩⟩,?_⟩;rintro cls H' ⟨rfl,sm⟩;refine⟨C,rfl,T nm C hL hC,λea he=>?_⟩;have s2:=S.r.sub.trans<|s1.hh.trans sm;have s3:=S.hh.trans<|s1.hh.trans sm;have hG:=s2.free he;have h0:=s3.free he;have gg:Ak G<|upd G ea<|.ext<|Ed ea C:=λb o h=>by rw[BH<|Df h hG];exact h
       have JK:∀(j:Nat)(s:SV),((JE ρ).set i<|some<|SV.exc nm)[j]? = some (some s)->s.ES=true->False:=λj s h o=>by
        rcases get_set h with⟨_,z⟩|⟨_,z⟩
        .subst z;contradiction
        .rw[(ZC z).1]at o;contradiction
       refine⟨upd G ea<|.ext<|Ed ea C,_,_,⟨⟨λb o h=>?_,λj sv h=>?_,λj _ ps _ _ _ _ h o=>(JK j ps h o).elim,?_⟩,S.gg.trans gg,λb o h=>?_,λb h g0=>?_,λj ps _ o h=>(JK j ps h o).elim⟩,es,λDG G2 H2 sg S2=>k _ G2 H2 (gg.trans sg) S2.we⟩
       .by_cases hb:b=ea
        .subst hb;rw[Cu]at h ⊢;exact h
        .rw[BH hb]at h ⊢;exact s2 _ _ h
       .rcases get_set h with⟨rfl,z⟩|⟨hj,z⟩
        .cases z;have hl:=T4 h;refine⟨.ref ea,set_slot (by rw[<-S.r.len];unfold JE at hl;rwa [AAi]at hl),ea,C,rfl,hC,Cu⟩
        .obtain⟨o1,z⟩:=ZC z;obtain⟨w,e1,q⟩:=S.r.slot j sv z;refine⟨w,by rw[AA2<|ABX hj];exact e1,?_⟩;cases sv with
         |exc nm=>obtain⟨a,C,e,n,q⟩:=q;exact⟨a,C,e,n,gg _ _ q⟩
         |im p=>exact Rep.same gg q
         |own ps=>contradiction
         |Dg t ks xs=>contradiction
         |KG AR=>contradiction
       .rw[AD3,AD3];unfold JE;rw[AAi];exact S.r.len
       .rw[BH<|Df h h0];exact s3 _ _ h
       .obtain⟨o,hb⟩:=h.get;rw[BH<|Df hb h0];exact S.ex b h g0
      .contradiction
     .contradiction
    .contradiction
  .contradiction
 .contradiction
end
section
variable{X:Cx}
theorem gf(hc:X.calm=true):Cz X (.builtin "sum") (λxs H Q=>∃(p:Addr)(ns:List Int),xs=[.ref p]/\Bs X.K H p (ns.map V.int)/\Q (.int ns.sum) H):=by
 intro AE s σ H xs us Q I r h;obtain⟨p,ns,rfl,hq,q⟩:=h;obtain⟨u,rfl,rx⟩:=vals1 r;cases rx;obtain⟨its,rv,hp,_⟩:=I.tuple hq;have hl:=hp;have hi:=intsAre_of rv;obtain⟨xs,hx⟩:=hi.allInts.items;have Gm:=hx ▸ hl;refine W.ktm_sumG (I.ok.hd hc) Gm λh' tk t' hk=>?_;have e1:ns=xs.toList.map (·.1):=by rw[<-nums_intItems,<-hx];exact(show numsOf its.toArray.toList=ns from hi.numsOf).symm
 have e2:preSum (numAt xs) xs.size=ns.sum:=by rw[preSum_eq,ADU AAd,e1]
 rw[e2];exact⟨.int ns.sum,H,I.kept hk,⟨_,rfl⟩,q⟩
set_option tactic.hygienic true
def M1:List RV->Option RV
 |[.cl<|.tup ps]=>(DB ps).map λns=>.cl<|.int ns.sum
 |_=>none
theorem qc:ED X.K M1 (λxs H Q=>∃(p:Addr)(ns:List Int),xs=[.ref p]/\Bs X.K H p (ns.map V.int)/\Q (.int ns.sum) H):=by
 intro rs z H0 G H vs Q sub sh e rv q;unfold M1 at e;split at e
 .rename_i ps;cases ei:DB ps with
  |none=>rw[ei]at e;contradiction
  |some ns=>
   rw[ei]at e;cases e;obtain⟨v,rfl,hv⟩:=rv.one;obtain⟨a,us,rfl,hq,rl⟩:=hv;rw[JA ei rl]at hq;exact⟨a,ns,rfl,Bs.same sub hq,q _ G H (Ar.refl sub)<|by rfl⟩
 .contradiction
end
section
variable{X:Cx}
noncomputable def LD(x y:RV):Option RV:=match x,y with
 |.cl .Au,.cl .Au=>some<|.cl<|.bl false
 |_,_=>none
theorem qF:BY X (compareOp .IsNot) (λx y H Q=>x=.Au/\y=.Au/\Q (.bl false) H):=by intro AE s σ H x y v u Q I rx ry h;obtain⟨rfl,rfl,k⟩:=h;cases rx;cases ry;exact wpAny_isNot_plain rfl ⟨.bl _,H,I,rfl,k⟩
theorem ph{K:W.Frag}:DJ K LD (λx y H Q=>x=.Au/\y=.Au/\Q (.bl false) H):=by
 intro x y z H0 G H vx vy Q sub sh e rx ry q;unfold LD at e;split at e
 .cases e;have r1:Rep _ _ _ _:=rx;have r2:Rep _ _ _ _:=ry;unfold Rep at r1 r2;exact⟨r1,r2,q _ G H (Ar.refl sub) (by show Rep _ _ _ _;unfold Rep;rfl)⟩
 .cases e
theorem gx:Cc X .IsNot LD:=⟨_,qF,ph⟩
end
section
variable{X:Cx}{a b c e tg iter:Expr}{es:List Expr}{fa fb fc f:EF}{g ga:AF}{pos:Pos}{AW AU:Hp}
theorem NO{K:W.Frag}{G:Hp}:∀ns:List Int,Ab K G (ns.map PV.int) (ns.map V.int)
 |[]=>by show Ab _ _ [] _;delta Ab;rfl
 |n::ns=>by rw[AAx,AAx];unfold Ab;exact⟨_,_,rfl,by delta Rep;rfl,NO ns⟩
end
end L2.PL
namespace L2
open PySem PySem.Spec PyProof.Rows
section
variable{prog:Program}{w:World}{A:Around}{E:Value->Shared->Prop}{s:Shared}
end
section
variable{X:Cx}{pos:Pos}
end
end L2
namespace L2.PL
open PySem PySem.Spec PyProof.Rows
section
variable{X:Cx}{es:List Expr}{gs:HJ}{pos:Pos}
end
section
variable{X:Cx}{a b:Expr}{fa fb:EF}{pos:Pos}
end
section
variable{X:Cx}{pos:Pos}{AW AU:Hp}
end
end L2.PL
namespace L2.K
open L2.PL
def Wr:SF:=(AN (Aq (AQ<|f2 Bw (AB 1)<|fB Av<|AD (AB 0) AH) (Ai<|f2 AJ (AB 0)<|AB 1) A0)<|AN (AZ 2<|fC<|.int 0)<|AN (Aq (AQ<|f2 CC (fB Av<|AD (AB 0) AH)<|fC<|.int 0) (AZ 2<|f2 AJ (AB 0)<|fC<|.int 0) A0)<|Ai<|f2 A4 (f2 Aa (f2 CP (f2 A4 (AB 2)<|fC<|.int 65521)<|fC<|.int 48271)<|f2 CP (AB 1)<|fC<|.int 30103)<|fC<|.int 65521)
def B6:List PV->Option RV:=denote 3 2 Wr
def ie:SF:=(AN (Ge 3 4<|AD (f2 Ad (f2 AJ (AB 1)<|fC<|.int 0)<|f2 AJ (AB 0)<|fC<|.int 0)<|AD (f2 Ad (f2 AJ (AB 1)<|fC<|.int 1)<|f2 AJ (AB 0)<|fC<|.int 1) AH)<|Ai<|f2 Ad (f2 CP (AB 3)<|f2 Ad (f2 AJ (AB 2)<|fC<|.int 1)<|f2 AJ (AB 0)<|fC<|.int 1)<|f2 CP (AB 4)<|f2 Ad (f2 AJ (AB 2)<|fC<|.int 0)<|f2 AJ (AB 0)<|fC<|.int 0)
def EC:List PV->Option RV:=denote 5 3 ie
def Wt:SF:=(AN (CI (Bu<|AD (fB Av<|AD (AB 0) AH) AH) (Ae 1)<|Aq (AQ<|f2 Bn (AS EC<|AD (f2 AJ (AB 0)<|f2 Ad (AB 1)<|fC<|.int 2)<|AD (f2 AJ (AB 0)<|f2 Ad (AB 1)<|fC<|.int 1)<|AD (f2 AJ (AB 0)<|AB 1) AH)<|fC<|.int 0) (Ai<|fC<|.bl true) A0)<|Ai<|fC<|.bl false)
def Lu:List PV->Option RV:=denote 2 1 Wt
def W3:SF:=(AN (AZ 3<|f2 A4 (AS B6<|AD (AB 0)<|AD (f2 Aa (AB 1)<|fC<|.int 1) AH)<|fC<|.int 4)<|AN (AZ 4<|fC<|.int 0)<|AN (EN 5<|BB AH)<|AN (EN 6<|BB AH)<|AN (CI (DV<|AD (fC<|.int 1)<|AD (f2 Ad (AB 2)<|fC<|.int 1) AH) (Ae 7)<|AN (AZ 8<|AS B6<|AD (AB 0)<|AD (f2 Aa (f2 Aa (AB 1)<|fC<|.int 4)<|AB 7) AH)<|AN (AZ 4<|f2 Aa (f2 Aa (AB 4)<|fC<|.int 1)<|f2 A4 (f2 CB (AB 8)<|fC<|.int 2)<|fC<|.int 4)<|AN (AZ 9<|f2 Aa (fC<|.int 1)<|f2 A4 (f2 CB (AB 8)<|fC<|.int 8)<|fC<|.int 9)<|AN (Aq (AQ<|f2 Bn (AB 3)<|fC<|.int 3) (AN (AZ 4<|AB 7)<|AZ 9<|f2 CP (AB 7)<|f2 Ad (f2 Ad (AB 2)<|fC<|.int 1)<|AB 7) A0)<|Aq (AQ<|f2 Bn (f2 A4 (AB 8)<|fC<|.int 2)<|fC<|.int 0) (Ci 5 CU<|AD (Ao<|AD (AB 4)<|AD (f2 Ad (fC<|.int 0)<|AB 9) AH) AH)<|Ci 6 CU<|AD (Ao<|AD (AB 4)<|AD (AB 9) AH) AH)<|AN (AZ 10<|f2 Aa (f2 Aa (f2 Aa (BB<|AD (Ao<|AD (fC<|.int 0)<|AD (fC<|.int 0) AH) AH)<|AB 5)<|BB<|AD (Ao<|AD (f2 Aa (AB 4)<|fC<|.int 1)<|AD (fC<|.int 0) AH) AH)<|Fp<|AB 6)<|AN (Aq (AQ<|AS Lu<|AD (AB 10) AH) (AZ 10<|BI (Bu<|AD (AB 2) AH) 1 [2] (Ae 0) Bl<|Ao<|AD (AB 0)<|AD (f2 Ad (fC<|.int 0)<|f2 CP (AB 0)<|f2 Ad (f2 Ad (AB 1)<|fC<|.int 1)<|AB 0) AH) A0)<|Ai<|AB 10)
def Q3:List PV->Option RV:=denote 11 3 W3
def il:SF:=(AN (EN 2<|BB<|AD (fC<|.int 0) AH)<|AN (EN 3<|BB<|AD (fC<|.int 0) AH)<|AN (CI (Bu<|AD (fC<|.int 5) AH) (Ae 4)<|AN (AZ 5<|AS B6<|AD (AB 0)<|AD (f2 Aa (f2 Aa (AB 1)<|fC<|.int 5)<|AB 4) AH)<|AN (Ci 2 CU<|AD (f2 Aa (f2 Aa (f2 AJ (AB 2)<|Fo<|fC<|.int 1)<|fC<|.int 1)<|f2 A4 (AB 5)<|fC<|.int 4) AH)<|Ci 3 CU<|AD (f2 Aa (f2 Aa (f2 AJ (AB 3)<|Fo<|fC<|.int 1)<|fC<|.int 1)<|f2 A4 (f2 CB (AB 5)<|fC<|.int 4)<|fC<|.int 4) AH)<|AN (AZ 6<|BB<|AD (Ao<|AD (fC<|.int 0)<|AD (fC<|.int 0) AH)<|AD (Ao<|AD (fC<|.int 5)<|AD (fC<|.int 0) AH)<|AD (Ao<|AD (fC<|.int 5)<|AD (fC<|.int 5) AH)<|AD (Ao<|AD (fC<|.int 1)<|AD (fC<|.int 5) AH)<|AD (Ao<|AD (fC<|.int 1)<|AD (fC<|.int 2) AH)<|AD (Ao<|AD (fC<|.int 3)<|AD (fC<|.int 2) AH)<|AD (Ao<|AD (fC<|.int 3)<|AD (fC<|.int 3) AH)<|AD (Ao<|AD (fC<|.int 2)<|AD (fC<|.int 3) AH)<|AD (Ao<|AD (fC<|.int 2)<|AD (fC<|.int 4) AH)<|AD (Ao<|AD (fC<|.int 4)<|AD (fC<|.int 4) AH)<|AD (Ao<|AD (fC<|.int 4)<|AD (fC<|.int 1) AH)<|AD (Ao<|AD (fC<|.int 0)<|AD (fC<|.int 1) AH) AH)<|Ai<|BI (BG false<|AB 6) 2 [2,3] (C3 2<|Bc (Ae 0)<|Bc (Ae 1) C9) Bl<|Ao<|AD (f2 AJ (AB 2)<|AB 0)<|AD (f2 AJ (AB 3)<|AB 1) AH)
def Nt:List PV->Option RV:=denote 7 2 il
def Wq:SF:=(AN (AZ 1<|fC<|.int 0)<|AN (CI (Bu<|AD (fB Av<|AD (AB 0) AH) AH) (Ae 2)<|AN (Ge 3 4<|AD (f2 AJ (AB 0)<|f2 Ad (AB 2)<|fC<|.int 1)<|AD (f2 AJ (AB 0)<|AB 2) AH)<|AZ 1<|f2 Ad (f2 Aa (AB 1)<|f2 CP (f2 AJ (AB 3)<|fC<|.int 0)<|f2 AJ (AB 4)<|fC<|.int 1)<|f2 CP (f2 AJ (AB 3)<|fC<|.int 1)<|f2 AJ (AB 4)<|fC<|.int 0)<|Ai<|AB 1)
def Nq:List PV->Option RV:=denote 5 1 Wq
def Wz:SF:=(AN (Aq (AQ<|f2 BP (AS EC<|AD (AB 0)<|AD (AB 1)<|AD (AB 2) AH)<|fC<|.int 0) (Ai<|fC<|.bl false) A0)<|AN (AZ 3<|Ao<|AD (fB Gu<|AD (f2 AJ (AB 0)<|fC<|.int 0)<|AD (f2 AJ (AB 1)<|fC<|.int 0) AH)<|AD (fB Gu<|AD (f2 AJ (AB 0)<|fC<|.int 1)<|AD (f2 AJ (AB 1)<|fC<|.int 1) AH) AH)<|AN (AZ 4<|Ao<|AD (fB D8<|AD (f2 AJ (AB 0)<|fC<|.int 0)<|AD (f2 AJ (AB 1)<|fC<|.int 0) AH)<|AD (fB D8<|AD (f2 AJ (AB 0)<|fC<|.int 1)<|AD (f2 AJ (AB 1)<|fC<|.int 1) AH) AH)<|Ai<|C8 (EL B8 B8 (f2 AJ (AB 3)<|fC<|.int 0) (f2 AJ (AB 2)<|fC<|.int 0)<|f2 AJ (AB 4)<|fC<|.int 0)<|EL B8 B8 (f2 AJ (AB 3)<|fC<|.int 1) (f2 AJ (AB 2)<|fC<|.int 1)<|f2 AJ (AB 4)<|fC<|.int 1)
def IJ:List PV->Option RV:=denote 5 3 Wz
def Wy:SF:=(AN (AZ 4<|BB<|AD (Ao<|AD (AB 0)<|AD (AB 1)<|AD (AB 2) AH)<|AD (Ao<|AD (AB 0)<|AD (AB 1)<|AD (AB 3) AH) AH)<|AN (AZ 4<|f2 Aa (AB 4)<|BB<|AD (Ao<|AD (AB 2)<|AD (AB 3)<|AD (AB 0) AH)<|AD (Ao<|AD (AB 2)<|AD (AB 3)<|AD (AB 1) AH) AH)<|AN (CI (BG true<|AB 4) (C3 3<|Bc (Ae 5)<|Bc (Ae 6)<|Bc (Ae 7) C9)<|Aq (AQ<|AS IJ<|AD (AB 5)<|AD (AB 6)<|AD (AB 7) AH) (Ai<|fC<|.bl true) A0)<|AN (AZ 8<|f2 BP (f2 CC (AS EC<|AD (AB 0)<|AD (AB 1)<|AD (AB 2) AH)<|fC<|.int 0)<|f2 CC (AS EC<|AD (AB 0)<|AD (AB 1)<|AD (AB 3) AH)<|fC<|.int 0)<|Ai<|C8 (AB 8)<|f2 BP (f2 CC (AS EC<|AD (AB 2)<|AD (AB 3)<|AD (AB 0) AH)<|fC<|.int 0)<|f2 CC (AS EC<|AD (AB 2)<|AD (AB 3)<|AD (AB 1) AH)<|fC<|.int 0)
def II:List PV->Option RV:=denote 9 4 Wy
def Wu:SF:=(AN (AZ 1<|fB Av<|AD (AB 0) AH)<|AN (Aq (Bb (Be<|AQ<|EL B8 B8 (fC<|.int 3) (AB 1)<|fC<|.int 12)<|AQ<|f2 CC (fB Av<|AD (BI (BG false<|AB 0) 2 [] (C3 2<|Bc (Ae 0)<|Bc (Ae 1) C9) (AQ<|f2 CC (fB D8<|AD (fB DC<|AD (AB 0) AH)<|AD (fB DC<|AD (AB 1) AH) AH)<|fC<|.int 100)<|fC<|.int 1) AH)<|fC<|.int 0) (Ai<|fC<|.bl false) A0)<|AN (Aq (Bb (AQ<|f2 BP (Ii<|AB 0)<|AB 1)<|Bb (AQ<|AS Lu<|AD (AB 0) AH)<|AQ<|f2 B8 (AS Nq<|AD (AB 0) AH)<|fC<|.int 0) (Ai<|fC<|.bl false) A0)<|AN (CI (Bu<|AD (AB 1) AH) (Ae 2)<|CI (Bu<|AD (AB 2) AH) (Ae 3)<|Aq (AQ<|f2 (BC true) (f2 A4 (f2 Ad (AB 2)<|AB 3)<|AB 1)<|BB<|AD (fC<|.int 1)<|AD (f2 Ad (AB 1)<|fC<|.int 1) AH) (Aq (AQ<|AS II<|AD (f2 AJ (AB 0)<|f2 Ad (AB 2)<|fC<|.int 1)<|AD (f2 AJ (AB 0)<|AB 2)<|AD (f2 AJ (AB 0)<|f2 Ad (AB 3)<|fC<|.int 1)<|AD (f2 AJ (AB 0)<|AB 3) AH) (Ai<|fC<|.bl false) A0) A0)<|Ai<|fC<|.bl true)
def Lv:List PV->Option RV:=denote 4 1 Wu
def ic:SF:=(AN (CI (Bu<|AD (f2 A4 (f2 CB (AS B6<|AD (AB 0)<|AD (f2 Aa (AB 1)<|fC<|.int 1) AH)<|fC<|.int 4)<|fC<|.int 5) AH) (Ae 3)<|AN (AZ 4<|AS B6<|AD (AB 0)<|AD (f2 Aa (f2 Aa (AB 1)<|fC<|.int 15)<|AB 3) AH)<|AN (AZ 5<|f2 A4 (AB 4)<|fB Av<|AD (AB 2) AH)<|AN (AZ 6<|f2 Ad (f2 Aa (f2 AJ (f2 AJ (AB 2)<|AB 5)<|fC<|.int 0)<|f2 A4 (f2 CB (AB 4)<|fC<|.int 16)<|fC<|.int 33)<|fC<|.int 16)<|AN (AZ 7<|f2 Ad (f2 Aa (f2 AJ (f2 AJ (AB 2)<|AB 5)<|fC<|.int 1)<|f2 A4 (f2 CB (AB 4)<|fC<|.int 1024)<|fC<|.int 33)<|fC<|.int 16)<|AN (AZ 8<|f2 Aa (f2 Aa (DW (AB 2) Dq<|DU<|AB 5)<|BB<|AD (Ao<|AD (AB 6)<|AD (AB 7) AH) AH)<|DW (AB 2) (DU<|f2 Aa (AB 5)<|fC<|.int 1) Dq)<|Aq (CH (AQ<|f2 Bw (fB D8<|AD (fB DC<|AD (AB 6) AH)<|AD (fB DC<|AD (AB 7) AH) AH)<|fC<|.int 80)<|AQ<|AS Lv<|AD (AB 8) AH) (AZ 2<|AB 8) A0)<|Ai<|AB 2)
def Q4:List PV->Option RV:=denote 9 3 ic
def W4:SF:=(AN (AZ 3<|AS B6<|AD (AB 0)<|AD (AB 1) AH)<|AN (AZ 4<|AS Q3<|AD (AB 0)<|AD (AB 1)<|AD (f2 Aa (fC<|.int 3)<|f2 A4 (AB 3)<|f2 Ad (AB 2)<|fC<|.int 2) AH)<|AN (Aq (CH (AQ<|f2 Bn (AB 2)<|fC<|.int 12)<|AQ<|f2 Bn (f2 A4 (f2 CB (AS B6<|AD (AB 0)<|AD (f2 Aa (AB 1)<|fC<|.int 1) AH)<|fC<|.int 20)<|fC<|.int 6)<|fC<|.int 5) (AZ 4<|AS Nt<|AD (AB 0)<|AD (AB 1) AH) A0)<|AN (AZ 5<|f2 Ad (f2 A4 (f2 CB (AS B6<|AD (AB 0)<|AD (f2 Aa (AB 1)<|fC<|.int 2) AH)<|fC<|.int 8)<|fC<|.int 3)<|fC<|.int 1)<|AN (AZ 4<|AS Q4<|AD (AB 0)<|AD (AB 1)<|AD (BI (BG false<|AB 4) 2 [5] (C3 2<|Bc (Ae 0)<|Bc (Ae 1) C9) Bl<|Ao<|AD (f2 Aa (AB 0)<|f2 CP (AB 2)<|AB 1)<|AD (AB 1) AH) AH)<|AN (AZ 6<|f2 A4 (AS B6<|AD (AB 0)<|AD (f2 Aa (AB 1)<|fC<|.int 2) AH)<|fC<|.int 8)<|AN (Aq (AQ<|f2 Bn (f2 A4 (AB 6)<|fC<|.int 2)<|fC<|.int 1) (AZ 4<|Fp<|BI (BG false<|AB 4) 2 [] (C3 2<|Bc (Ae 0)<|Bc (Ae 1) C9) Bl<|Ao<|AD (f2 Ad (fC<|.int 0)<|AB 0)<|AD (AB 1) AH) A0)<|AN (Aq (AQ<|f2 Bn (f2 A4 (f2 CB (AB 6)<|fC<|.int 2)<|fC<|.int 2)<|fC<|.int 1) (AZ 4<|Fp<|BI (BG false<|AB 4) 2 [] (C3 2<|Bc (Ae 0)<|Bc (Ae 1) C9) Bl<|Ao<|AD (AB 0)<|AD (f2 Ad (fC<|.int 0)<|AB 1) AH) A0)<|AN (Aq (AQ<|f2 Bn (f2 CB (AB 6)<|fC<|.int 4)<|fC<|.int 1) (AZ 4<|Fp<|BI (BG false<|AB 4) 2 [] (C3 2<|Bc (Ae 0)<|Bc (Ae 1) C9) Bl<|Ao<|AD (AB 1)<|AD (AB 0) AH) A0)<|AN (AZ 7<|f2 A4 (AS B6<|AD (AB 0)<|AD (f2 Aa (AB 1)<|fC<|.int 3) AH)<|fB Av<|AD (AB 4) AH)<|AN (AZ 8<|f2 Ad (f2 A4 (f2 CB (AS B6<|AD (AB 0)<|AD (f2 Aa (AB 1)<|fC<|.int 3) AH)<|fC<|.int 16)<|fC<|.int 41)<|fC<|.int 20)<|AN (AZ 9<|f2 Ad (f2 A4 (AS B6<|AD (AB 0)<|AD (f2 Aa (AB 1)<|fC<|.int 4) AH)<|fC<|.int 41)<|fC<|.int 20)<|Ai<|BI (BG false<|f2 Aa (DW (AB 4) (DU<|AB 7) Dq)<|DW (AB 4) Dq<|DU<|AB 7) 2 [8,9] (C3 2<|Bc (Ae 0)<|Bc (Ae 1) C9) Bl<|Ao<|AD (f2 Aa (AB 0)<|AB 2)<|AD (f2 Aa (AB 1)<|AB 3) AH)
def Q5:List PV->Option RV:=denote 10 3 W4
def Ww:SF:=(AN (AZ 3<|fB Av<|AD (AB 0) AH)<|AN (Aq (Bb (Be<|AQ<|EM B8 Bw Bw (fC<|.int 0) (AB 1) (AB 2)<|AB 3)<|AQ<|f2 (BC false) (f2 Ad (AB 2)<|AB 1)<|BB<|AD (fC<|.int 1)<|AD (f2 Ad (AB 3)<|fC<|.int 1) AH) (Ai<|fC<|.bl false) A0)<|AN (Ge 4 5<|AD (f2 AJ (AB 0)<|AB 1)<|AD (f2 AJ (AB 0)<|AB 2) AH)<|AN (CI (Bu<|AD (AB 3) AH) (Ae 6)<|AN (Aq (CH (AQ<|f2 (BC true) (AB 6)<|BB<|AD (AB 1)<|AD (AB 2) AH)<|AQ<|AS IJ<|AD (AB 4)<|AD (AB 5)<|AD (f2 AJ (AB 0)<|AB 6) AH) (Ai<|fC<|.bl false) A0)<|AN (AZ 7<|f2 A4 (f2 Aa (AB 6)<|fC<|.int 1)<|AB 3)<|Aq (CH (AQ<|f2 (BC true) (AB 6)<|BB<|AD (AB 1)<|AD (AB 2) AH)<|AQ<|f2 (BC true) (AB 7)<|BB<|AD (AB 1)<|AD (AB 2) AH) (Aq (AQ<|AS II<|AD (AB 4)<|AD (AB 5)<|AD (f2 AJ (AB 0)<|AB 6)<|AD (f2 AJ (AB 0)<|AB 7) AH) (Ai<|fC<|.bl false) A0) A0)<|AN (AZ 8<|f2 CC (AS EC<|AD (AB 4)<|AD (f2 AJ (AB 0)<|f2 A4 (f2 Aa (AB 1)<|fC<|.int 1)<|AB 3)<|AD (AB 5) AH)<|fC<|.int 0)<|AN (AZ 9<|f2 CC (AS EC<|AD (f2 AJ (AB 0)<|f2 Ad (AB 1)<|fC<|.int 1)<|AD (AB 4)<|AD (AB 5) AH)<|fC<|.int 0)<|AN (Aq (AQ<|f2 CC (AS EC<|AD (f2 AJ (AB 0)<|f2 Ad (AB 1)<|fC<|.int 1)<|AD (AB 4)<|AD (f2 AJ (AB 0)<|f2 A4 (f2 Aa (AB 1)<|fC<|.int 1)<|AB 3) AH)<|fC<|.int 0) (Ai<|C8 (AB 8)<|AB 9) A0)<|Ai<|DN (AB 8)<|AB 9)
def HH:List PV->Option RV:=denote 10 3 Ww
def Wv:SF:=(AN (AZ 1<|fB Av<|AD (AB 0) AH)<|AN (Oh 2 SA)<|AN (CI (Bu<|AD (AB 1) AH) (Ae 3)<|CI (Bu<|AD (AB 3) AH) (Ae 4)<|Il 2 (AD (AB 4)<|AD (AB 3) AH)<|DN (f2 (BC false) (f2 Ad (AB 3)<|AB 4)<|BB<|AD (fC<|.int 1)<|AD (f2 Ad (AB 1)<|fC<|.int 1) AH)<|AS HH<|AD (AB 0)<|AD (AB 4)<|AD (AB 3) AH)<|Oe 2)
def Q1:List PV->Option RV:=denote 5 1 Wv
def Ws:SF:=(AN (AZ 3<|AS Q1<|AD (AB 2) AH)<|AN (EN 4<|BB AH)<|AN (EN 5<|BB<|AD (Ao<|AD (fC<|.int 0)<|AD (f2 Ad (fB Av<|AD (AB 2) AH)<|fC<|.int 1) AH) AH)<|AN (SQ (AQ<|f2 CC (fB Av<|AD (AB 5) AH)<|fC<|.int 0)<|AN (Js 5<|C3 2<|Bc (Ae 6)<|Bc (Ae 7) C9)<|Aq (AQ<|f2 CC (f2 Ad (AB 7)<|AB 6)<|fC<|.int 1) (AN (AZ 8<|BI (DV<|AD (f2 Aa (AB 6)<|fC<|.int 1)<|AD (AB 7) AH) 1 [3,6,7] (Ae 0) (CH (AQ<|Hg (AB 1)<|AD (AB 2)<|AD (AB 0) AH)<|AQ<|Hg (AB 1)<|AD (AB 0)<|AD (AB 3) AH)<|AB 0)<|AN (AZ 9<|f2 AJ (AB 8)<|f2 A4 (f2 CB (AS B6<|AD (AB 0)<|AD (f2 Aa (AB 1)<|AB 6) AH)<|f2 Aa (fC<|.int 1)<|AB 7)<|fB Av<|AD (AB 8) AH)<|AN (EN 5<|f2 Aa (AB 5)<|BB<|AD (Ao<|AD (AB 6)<|AD (AB 9) AH)<|AD (Ao<|AD (AB 9)<|AD (AB 7) AH) AH)<|Aq (AQ<|f2 Bw (f2 Ad (AB 7)<|AB 6)<|f2 Ad (fB Av<|AD (AB 2) AH)<|fC<|.int 1) (Ci 4 CU<|AD (Ao<|AD (AB 6)<|AD (AB 7) AH) AH) A0) A0)<|Ai<|fB Hv<|AD (AB 4) AH)
def Q0:List PV->Option RV:=denote 10 3 Ws
def W2:SF:=(AN (AZ 2<|fB Av<|AD (AB 0) AH)<|AN (EN 3<|BB AH)<|AN (CI (Bu<|AD (AB 2) AH) (Ae 4)<|CI (DV<|AD (f2 Aa (AB 4)<|fC<|.int 1)<|AD (AB 2) AH) (Ae 5)<|CI (DV<|AD (f2 Aa (AB 5)<|fC<|.int 1)<|AD (AB 2) AH) (Ae 6)<|AN (AZ 7<|BB<|AD (Ao<|AD (AB 4)<|AD (AB 5) AH)<|AD (Ao<|AD (AB 5)<|AD (AB 6) AH)<|AD (Ao<|AD (AB 4)<|AD (AB 6) AH) AH)<|Aq (AQ<|f2 Bn (fB Av<|AD (BI (BG false<|AB 7) 1 [1,2] (Ae 0) (Bb (AQ<|f2 (BC false) (f2 Ad (f2 AJ (AB 0)<|fC<|.int 1)<|f2 AJ (AB 0)<|fC<|.int 0)<|BB<|AD (fC<|.int 1)<|AD (f2 Ad (AB 2)<|fC<|.int 1) AH)<|AQ<|f2 (CD false) (AB 0)<|AB 1)<|AB 0) AH)<|fC<|.int 3) (Ci 3 CU<|AD (Ao<|AD (AB 4)<|AD (AB 5)<|AD (AB 6) AH) AH) A0)<|Of 3)
def Q2:List PV->Option RV:=denote 8 2 W2
def W0:SF:=(AN (AZ 2<|BI (BG false<|AB 0) 1 [1] (Ae 0) (CH (AQ<|f2 (CD false) (f2 AJ (AB 1)<|fC<|.int 0)<|AB 0)<|AQ<|f2 (CD false) (f2 AJ (AB 1)<|fC<|.int 1)<|AB 0)<|f2 Ad (f2 Ad (fB M1<|AD (AB 0) AH)<|f2 AJ (AB 1)<|fC<|.int 0)<|f2 AJ (AB 1)<|fC<|.int 1)<|Ai<|Ao<|AD (fB Pb<|AD (AB 2) AH)<|AD (fB PZ<|AD (AB 2) AH) AH)
def Nr:List PV->Option RV:=denote 3 2 W0
def Wh:SF:=(Ai<|fB E8<|AD (BI (BG false<|AB 0) 1 [] (Ae 0) Bl<|C8 (f2 B8 (fB DC<|AD (f2 AJ (AB 0)<|fC<|.int 0) AH)<|fC<|.int 100)<|f2 B8 (fB DC<|AD (f2 AJ (AB 0)<|fC<|.int 1) AH)<|fC<|.int 100) AH)
def Nl:List PV->Option RV:=denote 1 1 Wh
def XB:SF:=(Ai<|f2 Ad (f2 CP (f2 Ad (f2 AJ (AB 1)<|fC<|.int 0)<|f2 AJ (AB 0)<|fC<|.int 0)<|f2 Ad (f2 AJ (AB 2)<|fC<|.int 1)<|f2 AJ (AB 0)<|fC<|.int 1)<|f2 CP (f2 Ad (f2 AJ (AB 1)<|fC<|.int 1)<|f2 AJ (AB 0)<|fC<|.int 1)<|f2 Ad (f2 AJ (AB 2)<|fC<|.int 0)<|f2 AJ (AB 0)<|fC<|.int 0)
def Ex:List PV->Option RV:=denote 3 3 XB
def iS:SF:=(Ai<|fB E8<|AD (BI (Bu<|AD (fB Av<|AD (AB 0) AH) AH) 1 [0] (Ae 0) Bl<|f2 BP (AS Ex<|AD (f2 AJ (AB 1)<|f2 Ad (AB 0)<|fC<|.int 2)<|AD (f2 AJ (AB 1)<|f2 Ad (AB 0)<|fC<|.int 1)<|AD (f2 AJ (AB 1)<|AB 0) AH)<|fC<|.int 0) AH)
def Qt:List PV->Option RV:=denote 1 1 iS
def ir:SF:=(Ai<|BI (Bu<|AD (fB Av<|AD (AB 0) AH) AH) 1 [0] (Ae 0) Bl<|Ao<|AD (f2 AJ (AB 1)<|AB 0)<|AD (f2 AJ (AB 1)<|f2 A4 (f2 Aa (AB 0)<|fC<|.int 1)<|fB Av<|AD (AB 1) AH) AH)
def IL:List PV->Option RV:=denote 1 1 ir
def Wi:SF:=(Ai<|f2 (BC false) (f2 A4 (f2 Ad (AB 2)<|AB 1)<|AB 0)<|Ao<|AD (fC<|.int 1)<|AD (f2 Ad (AB 0)<|fC<|.int 1) AH)
def HG:List PV->Option RV:=denote 3 3 Wi
def W8:SF:=(AN (AZ 2<|AS Ex<|AD (f2 AJ (AB 0)<|fC<|.int 0)<|AD (f2 AJ (AB 0)<|fC<|.int 1)<|AD (f2 AJ (AB 1)<|fC<|.int 0) AH)<|AN (AZ 3<|AS Ex<|AD (f2 AJ (AB 0)<|fC<|.int 0)<|AD (f2 AJ (AB 0)<|fC<|.int 1)<|AD (f2 AJ (AB 1)<|fC<|.int 1) AH)<|Ai<|DN (C8 (f2 Bw (AB 2)<|fC<|.int 0)<|f2 CC (AB 3)<|fC<|.int 0)<|C8 (f2 CC (AB 2)<|fC<|.int 0)<|f2 Bw (AB 3)<|fC<|.int 0)
def Lx:List PV->Option RV:=denote 4 2 W8
def Rw:SF:=(AN (AZ 2<|f2 AJ (AB 1)<|fC<|.int 0)<|AN (AZ 3<|f2 AJ (AB 1)<|fC<|.int 1)<|AN (Aq (AQ<|f2 BP (AS Ex<|AD (AB 2)<|AD (AB 3)<|AD (AB 0) AH)<|fC<|.int 0) (Ai<|fC<|.bl false) A0)<|AN (AZ 4<|EL B8 B8 (fB Gu<|AD (f2 AJ (AB 2)<|fC<|.int 0)<|AD (f2 AJ (AB 3)<|fC<|.int 0) AH) (f2 AJ (AB 0)<|fC<|.int 0)<|fB D8<|AD (f2 AJ (AB 2)<|fC<|.int 0)<|AD (f2 AJ (AB 3)<|fC<|.int 0) AH)<|AN (AZ 5<|EL B8 B8 (fB Gu<|AD (f2 AJ (AB 2)<|fC<|.int 1)<|AD (f2 AJ (AB 3)<|fC<|.int 1) AH) (f2 AJ (AB 0)<|fC<|.int 1)<|fB D8<|AD (f2 AJ (AB 2)<|fC<|.int 1)<|AD (f2 AJ (AB 3)<|fC<|.int 1) AH)<|Ai<|C8 (AB 4)<|AB 5)
def GQ:List PV->Option RV:=denote 6 2 Rw
def W5:SF:=(AN (Aq (CH (AQ<|AS Lx<|AD (AB 0)<|AD (AB 1) AH)<|AQ<|AS Lx<|AD (AB 1)<|AD (AB 0) AH) (Ai<|fC<|.bl true) A0)<|AN (AZ 2<|DN (AS GQ<|AD (f2 AJ (AB 1)<|fC<|.int 0)<|AD (AB 0) AH)<|AS GQ<|AD (f2 AJ (AB 1)<|fC<|.int 1)<|AD (AB 0) AH)<|AN (AZ 3<|DN (AS GQ<|AD (f2 AJ (AB 0)<|fC<|.int 0)<|AD (AB 1) AH)<|AS GQ<|AD (f2 AJ (AB 0)<|fC<|.int 1)<|AD (AB 1) AH)<|Ai<|DN (AB 2)<|AB 3)
def IK:List PV->Option RV:=denote 4 2 W5
def XD:SF:=(AN (AZ 1<|AS IL<|AD (AB 0) AH)<|AN (CI (Bu<|AD (fB Av<|AD (AB 1) AH) AH) (Ae 2)<|CI (DV<|AD (f2 Aa (AB 2)<|fC<|.int 1)<|AD (fB Av<|AD (AB 1) AH) AH) (Ae 3)<|Aq (CH (Be<|AQ<|AS HG<|AD (fB Av<|AD (AB 1) AH)<|AD (AB 2)<|AD (AB 3) AH)<|AQ<|AS IK<|AD (f2 AJ (AB 1)<|AB 2)<|AD (f2 AJ (AB 1)<|AB 3) AH) (Ai<|fC<|.bl false) A0)<|Ai<|fC<|.bl true)
def RB:List PV->Option RV:=denote 4 1 XD
def iZ:SF:=(Ai<|fB Mz<|AD (BI (BG false<|AS IL<|AD (AB 0) AH) 1 [] (Ae 0) Bl<|AS Ex<|AD (fC<|.tup [(.int 0),(.int 0)])<|AD (f2 AJ (AB 0)<|fC<|.int 0)<|AD (f2 AJ (AB 0)<|fC<|.int 1) AH) AH)
def Qy:List PV->Option RV:=denote 1 1 iZ
def Wn:SF:=(AN (Aq (Be<|AQ<|EL B8 B8 (fC<|.int 3) (fB Av<|AD (AB 0) AH)<|fC<|.int 12) (Ai<|fC<|.bl false) A0)<|AN (Aq (AQ<|f2 BP (Ii<|AB 0)<|fB Av<|AD (AB 0) AH) (Ai<|fC<|.bl false) A0)<|Ai<|C8 (AS Nl<|AD (AB 0) AH)<|C8 (AS Qt<|AD (AB 0) AH)<|C8 (AS RB<|AD (AB 0) AH)<|f2 CC (AS Qy<|AD (AB 0) AH)<|fC<|.int 0)
def Qz:List PV->Option RV:=denote 1 1 Wn
def Wl:YF:=(HF (Be<|AQ<|AS Qz<|AD (AB 0) AH) (yL Od)<|yL A0)
def Nm:List PV->Option RV:=E2 1 1 Wl
def RN:List PV->Option PySem.Str:=Hb 1 1 Wl
def iq:SF:=(Ai<|fB E8<|AD (BI (DV<|AD (fC<|.int 1)<|AD (fB Av<|AD (AB 0) AH) AH) 1 [0] (Ae 0) Bl<|f2 (LF D1) (f2 AJ (AB 1)<|f2 Ad (AB 0)<|fC<|.int 1)<|f2 AJ (AB 1)<|AB 0) AH)
def Q9:List PV->Option RV:=denote 1 1 iq
def ip:SF:=(AN (AZ 2<|f2 CC (f2 AJ (f2 AJ (AB 0)<|fC<|.int 0)<|fC<|.int 1)<|f2 AJ (AB 1)<|fC<|.int 1)<|AN (AZ 3<|f2 CC (f2 AJ (f2 AJ (AB 0)<|fC<|.int 1)<|fC<|.int 1)<|f2 AJ (AB 1)<|fC<|.int 1)<|AN (Aq (AQ<|f2 Bn (AB 2)<|AB 3) (Ai<|fC<|.bl false) A0)<|AN (AZ 4<|AS Ex<|AD (f2 AJ (AB 0)<|fC<|.int 0)<|AD (f2 AJ (AB 0)<|fC<|.int 1)<|AD (AB 1) AH)<|Ai<|Hh (AQ<|AB 3) (f2 CC (AB 4)<|fC<|.int 0)<|f2 Bw (AB 4)<|fC<|.int 0)
def Nv:List PV->Option RV:=denote 5 2 ip
def W9:SF:=(AN (Aq (AQ<|fB JC<|AD (BI (BG false<|AB 0) 1 [1] (Ae 0) Bl<|AS GQ<|AD (AB 1)<|AD (AB 0) AH) AH) (Ai<|fC<|.str "on") A0)<|AN (AZ 2<|BI (BG false<|AB 0) 1 [1] (Ae 0) (AQ<|AS Nv<|AD (AB 0)<|AD (AB 1) AH)<|AB 0)<|Ai<|Hh (AQ<|f2 Bn (f2 A4 (fB Av<|AD (AB 2) AH)<|fC<|.int 2)<|fC<|.int 1) (fC<|.str "in")<|fC<|.str "out")
def Q8:List PV->Option RV:=denote 3 2 W9
def W6:SF:=(AN (AZ 2<|BI (BG false<|AB 0) 1 [] (Ae 0) Bl<|Ao<|AD (f2 CP (fC<|.int 2)<|f2 AJ (AB 0)<|fC<|.int 0)<|AD (f2 CP (fC<|.int 2)<|f2 AJ (AB 0)<|fC<|.int 1) AH)<|AN (AZ 3<|Ao<|AD (f2 Aa (f2 AJ (f2 AJ (AB 1)<|fC<|.int 0)<|fC<|.int 0)<|f2 AJ (f2 AJ (AB 1)<|fC<|.int 1)<|fC<|.int 0)<|AD (f2 Aa (f2 AJ (f2 AJ (AB 1)<|fC<|.int 0)<|fC<|.int 1)<|f2 AJ (f2 AJ (AB 1)<|fC<|.int 1)<|fC<|.int 1) AH)<|Ai<|f2 Bn (AS Q8<|AD (AS IL<|AD (AB 2) AH)<|AD (AB 3) AH)<|fC<|.str "in")
def Q6:List PV->Option RV:=denote 4 2 W6
def Wm:SF:=(AN (Aq (Bb (Be<|AQ<|EM B8 Bw Bw (fC<|.int 0) (AB 1) (AB 2)<|fB Av<|AD (AB 0) AH)<|AQ<|AS HG<|AD (fB Av<|AD (AB 0) AH)<|AD (AB 1)<|AD (AB 2) AH) (Ai<|fC<|.bl false) A0)<|AN (AZ 3<|Ao<|AD (f2 AJ (AB 0)<|AB 1)<|AD (f2 AJ (AB 0)<|AB 2) AH)<|AN (AZ 4<|BI (BG false<|AS IL<|AD (AB 0) AH) 1 [3] (Ae 0) (CH (AQ<|f2 (CD true) (f2 AJ (AB 1)<|fC<|.int 0)<|AB 0)<|AQ<|f2 (CD true) (f2 AJ (AB 1)<|fC<|.int 1)<|AB 0)<|AB 0)<|AN (Aq (AQ<|fB JC<|AD (BI (BG false<|AB 4) 1 [3] (Ae 0) Bl<|AS IK<|AD (AB 1)<|AD (AB 0) AH) AH) (Ai<|fC<|.bl false) A0)<|Ai<|AS Q6<|AD (AB 0)<|AD (AB 3) AH)
def Ls:List PV->Option RV:=denote 5 3 Wm
def iW:SF:=(Ai<|DN (EM Bw Bw Bw (f2 AJ (AB 0)<|fC<|.int 0) (f2 AJ (AB 1)<|fC<|.int 0) (f2 AJ (AB 0)<|fC<|.int 1)<|f2 AJ (AB 1)<|fC<|.int 1)<|EM Bw Bw Bw (f2 AJ (AB 1)<|fC<|.int 0) (f2 AJ (AB 0)<|fC<|.int 0) (f2 AJ (AB 1)<|fC<|.int 1)<|f2 AJ (AB 0)<|fC<|.int 1)
def Nn:List PV->Option RV:=denote 2 2 iW
def iX:SF:=(Ai<|Jm<|fB JC<|AD (BI (BG false<|AB 1) 1 [0] (Ae 0) Bl<|AS Nn<|AD (AB 1)<|AD (AB 0) AH) AH)
def Qw:List PV->Option RV:=denote 2 2 iX
def iY:SF:=(AN (Aq (AQ<|f2 BP (fB Av<|AD (AB 1) AH)<|f2 Ad (fB Av<|AD (AB 0) AH)<|fC<|.int 3) (Ai<|fC<|.bl false) A0)<|AN (Aq (Bb (Be<|AQ<|AS Q9<|AD (AB 1) AH)<|Be<|AQ<|fB E8<|AD (BI (BG false<|AB 1) 1 [0] (Ae 0) Bl<|AS Ls<|AD (AB 1)<|AD (f2 AJ (AB 0)<|fC<|.int 0)<|AD (f2 AJ (AB 0)<|fC<|.int 1) AH) AH) (Ai<|fC<|.bl false) A0)<|Ai<|fB E8<|AD (BI (Bu<|AD (fB Av<|AD (AB 1) AH) AH) 1 [1] (Ae 0) Bl<|AS Qw<|AD (f2 AJ (AB 1)<|AB 0)<|AD (DW (AB 1) Dq<|DU<|AB 0) AH) AH)
def Qx:List PV->Option RV:=denote 2 2 iY
def Wk:YF:=(HF (Be<|AQ<|AS Qx<|AD (AB 0)<|AD (AB 1) AH) (yL Od)<|yL A0)
def Qv:List PV->Option RV:=E2 2 2 Wk
def RM:List PV->Option PySem.Str:=Hb 2 2 Wk
def iT:SF:=(Ai<|DN (AS HG<|AD (AB 0)<|AD (AB 2)<|AD (AB 3) AH)<|f2 (CD false) (Ao<|AD (fB Gu<|AD (AB 2)<|AD (AB 3) AH)<|AD (fB D8<|AD (AB 2)<|AD (AB 3) AH) AH)<|AB 1)
def Lq:List PV->Option RV:=denote 4 4 iT
def XA:SF:=(AN (AZ 3<|BI (Bu<|AD (AB 0) AH) 1 [0,1,2] (Ae 0) (AQ<|AS Lq<|AD (AB 1)<|AD (AB 2)<|AD (AB 0)<|AD (f2 AJ (AB 3)<|fC<|.int 0) AH)<|AB 0)<|Ai<|BI (BG false<|AB 3) 1 [0,1,2] (Ae 0) (AQ<|AS Lq<|AD (AB 1)<|AD (AB 2)<|AD (AB 0)<|AD (f2 AJ (AB 3)<|fC<|.int 1) AH)<|AB 0)
def Ny:List PV->Option RV:=denote 4 3 XA
def W7:SF:=(AN (AZ 3<|AS Ny<|AD (fB Av<|AD (AB 0) AH)<|AD (AB 1)<|AD (AB 2) AH)<|Ai<|Ao<|AD (f2 AJ (AB 3)<|fC<|.int 0)<|AD (f2 AJ (AB 3)<|fC<|.int 1) AH)
def Nu:List PV->Option RV:=denote 4 3 W7
def Wj:SF:=(AN (AZ 3<|AS Nu<|AD (AB 0)<|AD (AB 1)<|AD (AB 2) AH)<|Ai<|AS Ls<|AD (AB 0)<|AD (f2 AJ (AB 3)<|fC<|.int 0)<|AD (f2 AJ (AB 3)<|fC<|.int 1) AH)
def Lr:List PV->Option RV:=denote 4 3 Wj
def XC:SF:=(AN (AZ 3<|BI (BG false<|AB 1) 1 [2] (Ae 0) (AQ<|f2 BP (AB 0)<|AB 1)<|AB 0)<|Ai<|fB Hv<|AD (f2 Aa (AB 3)<|BB<|AD (AS Nu<|AD (AB 0)<|AD (AB 1)<|AD (AB 2) AH) AH) AH)
def RA:List PV->Option RV:=denote 4 3 XC
def MM:YF:=(FH (HE Nm RN<|AD (AB 0) AH)<|FH (HE Qv RM<|AD (AB 0)<|AD (AB 1) AH)<|FH (HF (Bb (AQ<|f2 (CD true) (AB 2)<|AB 1)<|Be<|AQ<|AS Lr<|AD (AB 0)<|AD (AB 1)<|AD (AB 2) AH) (VV "NoTurn")<|yL A0)<|yL<|Ai<|AS RA<|AD (AB 0)<|AD (AB 1)<|AD (AB 2) AH)
def Eb:List PV->Option RV:=E2 3 3 MM
def L9:List PV->Option PySem.Str:=Hb 3 3 MM
def ig:SF:=(AN (AZ 1<|BB<|AD (Hi ["NoTurn"] 0 "NoRoom")<|AD (Hi ["NoTurn"] 0 "NoCut")<|AD (Hi ["NoTurn"] 0 "NoPoint") AH)<|AN (AZ 1<|f2 Aa (AB 1)<|BB<|AD (Hi ["NoTurn"] 0 "NoTurn")<|AD (Hi ["NoTurn"] 0 "TooMany") AH)<|AN (Aq (Bb (Be<|AQ<|Hi ["NoTurn"] 0 "ValueError")<|AQ<|f2 BP (f2 PR (AB 1)<|fC<|.bl true)<|fC<|.int 1) (Ai<|fC<|.int 9) A0)<|Ai<|f2 PY (AB 1)<|fC<|.bl true)
def Qs:PySem.Str->Option RV:=OJ 2 ig
def OI:YF:=(FH (yL<|AZ 3<|Fo<|fC<|.int 1)<|FH (yL<|AZ 4<|fC .Au)<|FH (JX 5 4 ["NoTurn"] Eb L9 (AD (AB 0)<|AD (AB 1)<|AD (AB 2) AH)<|Kx 3 5 Qs)<|yL<|Og 3 4)
def JZ:List PV->Option RV:=E2 6 3 OI
def e9:List PV->Option PySem.Str:=Hb 6 3 OI
def ik:SF:=(Ai<|C8 (Gb "int"<|AB 0)<|Jm<|Gb "bool"<|AB 0)
def Kb:List PV->Option RV:=denote 1 1 ik
def Wx:SF:=(AN (Aq (Be<|AQ<|Gb "list"<|AB 0) (Ai<|fC<|.bl false) A0)<|AN (CI (BG true<|AB 0) (Ae 1)<|Aq (Bb (Be<|AQ<|MR<|AB 1)<|Bb (AQ<|f2 BP (fB Av<|AD (AB 1) AH)<|fC<|.int 2)<|Bb (Be<|AQ<|AS Kb<|AD (f2 AJ (AB 1)<|fC<|.int 0) AH)<|Be<|AQ<|AS Kb<|AD (f2 AJ (AB 1)<|fC<|.int 1) AH) (Ai<|fC<|.bl false) A0)<|Ai<|fC<|.bl true)
def Ka:List PV->Option RV:=denote 2 1 Wx
def Wo:SF:=(AN (AZ 1<|AS Q5<|AD (AB 0)<|AD (fC<|.int 0)<|AD (fC<|.int 12) AH)<|AN (AZ 2<|AS Q0<|AD (AB 0)<|AD (fC<|.int 20)<|AD (AB 1) AH)<|AN (AZ 3<|AS Q2<|AD (AB 1)<|AD (AB 2) AH)<|AN (AZ 4<|BB<|AD (fB JD<|AD (AB 1) AH)<|AD (fB JD<|AD (AB 2) AH) AH)<|AN (CI (BG true<|AB 2) (Ae 5)<|AN (AZ 6<|AS Nr<|AD (AB 3)<|AD (AB 5) AH)<|AN (Jr 7 8<|AS JZ<|AD (f2 AJ (AB 4)<|fC<|.int 0)<|AD (f2 AJ (AB 4)<|fC<|.int 1)<|AD (AB 5) AH)<|AN (Aq (AQ<|f2 BP (AB 4)<|BB<|AD (AB 1)<|AD (AB 2) AH) (Ai<|fC<|.bl false) A0)<|Aq (Be<|AQ<|AS HH<|AD (AB 1)<|AD (f2 AJ (AB 6)<|fC<|.int 0)<|AD (f2 AJ (AB 6)<|fC<|.int 1) AH) (Aq (Bb (AQ<|f2 BP (AB 7)<|fC<|.int 3)<|AQ<|f2 LD (AB 8)<|fC .Au) (Ai<|fC<|.bl false) A0)<|AN (AZ 9<|fB Hv<|AD (f2 Aa (BI (BG false<|AB 2) 1 [5] (Ae 0) (AQ<|f2 BP (AB 0)<|AB 1)<|AB 0)<|BB<|AD (AB 6) AH) AH)<|AN (Aq (Bb (AQ<|f2 BP (AB 7)<|Fo<|fC<|.int 1)<|Bb (Be<|AQ<|Ih Ka<|AD (AB 8) AH)<|AQ<|f2 BP (AB 8)<|AB 9) (Ai<|fC<|.bl false) A0)<|AN (Aq (AQ<|f2 BP (AS Eb<|AD (f2 AJ (AB 4)<|fC<|.int 0)<|AD (fB JD<|AD (AB 8) AH)<|AD (AB 6) AH)<|AB 2) (Ai<|fC<|.bl false) A0)<|AN (Ci 8 CU<|AD (Ao<|AD (fC<|.int 0)<|AD (fC<|.int 0) AH) AH)<|Aq (AQ<|f2 BP (AS Eb<|AD (f2 AJ (AB 4)<|fC<|.int 0)<|AD (f2 AJ (AB 4)<|fC<|.int 1)<|AD (AB 5) AH)<|AB 9) (Ai<|fC<|.bl false) A0)<|AN (AZ 10<|Ao<|AD (f2 Ad (f2 A4 (AS B6<|AD (AB 0)<|AD (fC<|.int 40) AH)<|fC<|.int 14)<|fC<|.int 1)<|AD (f2 Ad (f2 A4 (AS B6<|AD (AB 0)<|AD (fC<|.int 41) AH)<|fC<|.int 14)<|fC<|.int 1) AH)<|Ai<|DN (f2 (CD false) (AB 10)<|AB 2)<|f2 Bn (AS JZ<|AD (f2 AJ (AB 4)<|fC<|.int 0)<|AD (f2 AJ (AB 4)<|fC<|.int 1)<|AD (AB 10) AH)<|Ao<|AD (fC<|.int 3)<|AD (fC .Au) AH)
def Np:List PV->Option RV:=denote 11 1 Wo
end L2.K
set_option linter.all false
namespace AM
abbrev Pt:=Int×Int
noncomputable def AG(a b p:Pt):Int:=(b.1-a.1)*(p.2-a.2)-(b.2-a.2)*(p.1-a.1)
def An(a b p:Pt):Bool:=decide (AG a b p=0)&&(decide (min a.1 b.1<=p.1/\p.1<=max a.1 b.1)&&decide (min a.2 b.2<=p.2/\p.2<=max a.2 b.2))
def On(a b p:Pt):Prop:=AG a b p=0/\(min a.1 b.1<=p.1/\p.1<=max a.1 b.1)/\(min a.2 b.2<=p.2/\p.2<=max a.2 b.2)
theorem FY{a b p:Pt}:An a b p=true↔On a b p:=by simp[An,On]
theorem N9{p q u d:Int}(hq:0<q)(h0:0<=p)(h1:p<=q)(e:q*u=p*d):(0<=u/\u<=d)\/(d<=u/\u<=0):=by
 rcases AB2 0 d with hd|hd
 .left;have h2:0<=q*u:=by rw[e];exact AAo h0 hd
  have h3:q*u<=q*d:=by rw[e];exact AA5 h1 hd
  exact⟨ABo (by simpa using h2) hq,ABo h3 hq⟩
 .right;have h2:q*u<=0:=by rw[e];exact AAt h0 hd
  have h3:q*d<=q*u:=by rw[e];exact Int.mul_le_mul_of_nonpos_right h1 hd
  exact⟨ABo h3 hq,ABo (by simpa using h2) hq⟩
theorem pZ{a b c d:Pt}(h:AG a b c=0)(hs:(AG c d a>0/\AG c d b<=0)\/(AG c d a<=0/\AG c d b>0)\/(AG c d a<0/\AG c d b>=0)\/(AG c d a>=0/\AG c d b<0)):On a b c:=by
 refine⟨h,?_⟩;obtain⟨a1,a2⟩:=a;obtain⟨b1,b2⟩:=b;obtain⟨c1,c2⟩:=c;obtain⟨d1,d2⟩:=d;simp only[AG]at *
 have key:∀p q:Int,0<q->0<=p->p<=q->q*(c1-a1)=p*(b1-a1)->q*(c2-a2)=p*(b2-a2)->(min a1 b1<=c1/\c1<=max a1 b1)/\(min a2 b2<=c2/\c2<=max a2 b2):=by intro p q h1 h2 h3 e1 e2;have r1:=N9 h1 h2 h3 e1;have r2:=N9 h1 h2 h3 e2;omega
 generalize hu:(d1-c1)*(c2-a2)-(d2-c2)*(c1-a1)=eu;generalize hd:(d1-c1)*(b2-a2)-(d2-c2)*(b1-a1)=ed;have i1:(d1-c1)*(a2-c2)-(d2-c2)*(a1-c1) = -eu:=by rw[<-hu];grind
 have i2:(d1-c1)*(b2-c2)-(d2-c2)*(b1-c1)=ed-eu:=by rw[<-hu,<-hd];grind
 have j1:ed*(c1-a1)=eu*(b1-a1):=by rw[<-hu,<-hd];grind
 have j2:ed*(c2-a2)=eu*(b2-a2):=by rw[<-hu,<-hd];grind
 rw[i1,i2]at hs;have J5:(0<=eu/\eu<=ed/\0<ed)\/(eu<=0/\ed<=eu/\ed<0):=U
 rcases J5 with⟨h1,h2,h3⟩|⟨h1,h2,h3⟩
 .exact key eu ed h3 h1 h2 j1 j2
 .exact key (-eu) (-ed) U U U (by rw[ADW,ADW,j1])<|by rw[ADW,ADW,j2]
theorem P1{a b c d:Pt}(n:¬ On a b c):¬ (AG a b c=0/\((AG c d a>0/\AG c d b<=0)\/(AG c d a<=0/\AG c d b>0)\/(AG c d a<0/\AG c d b>=0)\/(AG c d a>=0/\AG c d b<0))):=λz=>n<|pZ z.1 z.2
theorem GI(a b p:Pt):AG b a p = - AG a b p:=by simp only[AG];grind
theorem Z0{a b p:Pt}(h:On a b p):On b a p:=by obtain⟨h1,h2,h3⟩:=h;refine⟨by rw[GI,h1];rfl,?_,?_⟩<;>lia
def parts(a b c d:Pt):Bool:=(decide (AG a b c<0)&&decide (AG a b d>0))||(decide (AG a b c>0)&&decide (AG a b d<0))
def BD(a b c d:Pt):Bool:=(parts a b c d&&parts c d a b)||((An a b c||An a b d)||(An c d a||An c d b))
def BW(a b c d:Pt):Bool:=(An a b c||An a b d||An c d a||An c d b)||((decide (AG a b c>0) != decide (AG a b d>0))&&(decide (AG c d a>0) != decide (AG c d b>0)))
theorem Po(a b c d:Pt):BW a b c d=BD a b c d:=by
 by_cases h1:An a b c=true
 .simp[BW,BD,h1]
 by_cases h2:An a b d=true
 .simp[BW,BD,h2]
 by_cases h3:An c d a=true
 .simp[BW,BD,h3]
 by_cases h4:An c d b=true
 .simp[BW,BD,h4]
 have k1:=P1 (d:=d) λz=>h1<|FY.mpr z;have k2:=P1 (d:=c) λz=>h2<|FY.mpr z;have k3:=P1 (d:=b) λz=>h3<|FY.mpr z;have k4:=P1 (d:=a) λz=>h4<|FY.mpr z;rw[GI c d a,GI c d b]at k2;rw[GI a b c,GI a b d]at k4;simp[BW,BD,parts,h1,h2,h3,h4];lia
theorem P4(a b p:Pt):An a b p=An b a p:=by rw[AB5,FY,FY];exact⟨Z0,Z0⟩
theorem meet_comm(a b c d:Pt):BD a b c d=BD c d a b:=by simp only[BD];rw[Bool.and_comm<|parts a b c d,ADz (An a b c||An a b d)]
noncomputable def AA(r:List Pt)(i:Int):Pt:=r.getD (i%(r.length:Int)).toNat (0,0)
theorem Ef(r:List Pt)(i:Int):AA r (i+r.length)=AA r i:=by unfold AA;rw[ADm]
def M(r:List Pt)(i j:Int):Bool:=BD (AA r i) (AA r<|i+1) (AA r j)<|AA r<|j+1
theorem GS(r:List Pt)(i j:Int):M r i j=M r j i:=meet_comm ..
theorem Vm(r:List Pt)(i j:Int):M r (i+r.length) j=M r i j:=by unfold M;simp only[Ef,show i+(r.length)+1=i+1+r.length by lia,Ef]
noncomputable def nb(n d:Int):Bool:=(d%n==1)||(d%n==n-1)
theorem NB{n d:Int}(h0:0<d)(h1:d<n):nb n d=(d==1||d==n-1):=by unfold nb;rw[AAh U h1]
def MC(r:List Pt):Prop:=∀k m:Int,0<=k->k<m->m<r.length->nb r.length (m-k)=false->M r k m=false
def RT(r:List Pt):Prop:=∀k j:Int,0<=j->j<k->k<r.length->nb r.length (k-j)=false->M r (k-1) (j-1)=false
theorem fH(r:List Pt):RT r↔MC r:=by
 constructor
 .intro h k m h0 h1 h2 hn;by_cases hm:m+1<r.length
  .have:=h (m+1) (k+1) U U hm (by rw[show m+1-(k+1)=m-k by lia];exact hn);rw[show m+1-1=m by lia,show k+1-1=k by lia]at this;rw[GS];exact this
  .have CN:m=r.length-1:=U
   subst CN;have:=h (k+1) 0 U AAc AAc (by rw[NB AAc AAc]at hn ⊢;simp only[ABN,AA7]at hn ⊢;lia)
   rw[show k+1-1=k by lia,GS,<-Vm,GS]at this;exact this
 .intro h k j h0 h1 h2 hn;by_cases hj:0<j
  .have:=h (j-1) (k-1) U U U (by rw[show k-1-(j-1)=k-j by lia];exact hn);rw[GS];exact this
  .have CM:j=0:=U
   subst CM;have:=h (k-1) (r.length-1) U (by
    rw[NB U U]at hn;simp only[ABN,AA7]at hn;lia) U (by
    rw[NB U U]at hn;simp only[ABN,AA7]at hn;rw[NB U U];lia)
   rw[GS,<-Vm,GS];exact this
noncomputable def AV(f:Int->Int):Nat->Int
 |0=>0
 |n+1=>AV f n+f n
theorem bj(f:Int->Int):∀n:Nat,AV (λk=>f<|k-1) (n+1)=f (-1)+AV f n
 |0=>by simp[AV]
 |n+1=>by
  rw[AV,bj f n,AV];simp only[Int.natCast_add,Int.natCast_one]at *
  lia
theorem U8(f:Int->Int)(n:Nat)(h:∀i,f (i+n)=f i):AV (λk=>f<|k-1) n=AV f n:=by
 cases n with
 |zero=>rfl
 |succ n=>
  rw[bj,AV,<-h (-1)];have:(-1:Int)+((n+1:Nat))=n:=U
  rw[this];lia
noncomputable def B9(a b:Pt):Int:=a.1*b.2-a.2*b.1
def Kk(r:List Pt):Int:=AV (λk=>B9 (AA r<|k-1)<|AA r k) r.length
def DS(r:List Pt):Int:=AV (λk=>B9 (AA r k)<|AA r<|k+1) r.length
theorem fK(r:List Pt):Kk r=DS r:=by
 have:=U8 (λk=>B9 (AA r k)<|AA r<|k+1) r.length (λi=>by simp only[Ef,show i+(r.length)+1=i+1+r.length by lia,Ef])
 simp only[DS,<-this,Kk]
 congr 1
 funext k
 rw[show k-1+1=k by lia]
def At(a b p:Pt):Prop:=∃q s:Int,0<q/\0<=s/\s<=q/\q*(p.1-a.1)=s*(b.1-a.1)/\q*(p.2-a.2)=s*(b.2-a.2)
theorem F7{a b p:Pt}(h:At a b p):On a b p:=by
 obtain⟨q,s,hq,h0,h1,e1,e2⟩:=h;have r1:=N9 hq h0 h1 e1;have r2:=N9 hq h0 h1 e2;refine⟨?_,U,U⟩;have hz:q*AG a b p=0:=by
  have:q*AG a b p=(b.1-a.1)*(q*(p.2-a.2))-(b.2-a.2)*(q*(p.1-a.1)):=by unfold AG;grind
  simp only[this,e1,e2];grind
 rcases AAp.mp hz with h|h
 .lia
 .exact h
theorem Kl{a b p:Pt}(h:On a b p):At a b p:=by
 obtain⟨hs,h1,h2⟩:=h;unfold AG at hs;by_cases hx:b.1-a.1=0
 .by_cases hy:b.2-a.2=0
  .exact⟨1,0,U,U,U,U,U⟩
  .have hp:p.1-a.1=0:=U
   rcases ABB hy with BM|Ou
   .exact⟨-(b.2-a.2),-(p.2-a.2),U,U,U,by rw[hx,hp];lia,AAb⟩
   .exact⟨b.2-a.2,p.2-a.2,AAg,U,U,by rw[hx,hp];lia,AAb⟩
 .rcases ABB hx with BM|Ou
  .exact⟨-(b.1-a.1),-(p.1-a.1),U,U,U,AAb,AAb⟩
  .exact⟨b.1-a.1,p.1-a.1,AAg,U,U,AAb,AAb⟩
theorem P5{a b p:Pt}:On a b p↔At a b p:=⟨Kl,F7⟩
def Bk(a b c d:Pt):Prop:=∃q s t:Int,0<q/\0<=s/\s<=q/\0<=t/\t<=q/\q*a.1+s*(b.1-a.1)=q*c.1+t*(d.1-c.1)/\q*a.2+s*(b.2-a.2)=q*c.2+t*(d.2-c.2)
theorem Bk.symm{a b c d:Pt}(h:Bk a b c d):Bk c d a b:=by obtain⟨q,s,t,h1,h2,h3,h4,h5,e1,e2⟩:=h;exact⟨q,t,s,h1,h4,h5,h2,h3,e1.symm,e2.symm⟩
theorem QP{a b c d:Pt}(h:At a b c):Bk a b c d:=by obtain⟨q,s,hq,h0,h1,e1,e2⟩:=h;exact⟨q,s,0,hq,h0,h1,U,U,AAb,AAb⟩
theorem Uu{a b c d:Pt}(h:At a b d):Bk a b c d:=by obtain⟨q,s,hq,h0,h1,e1,e2⟩:=h;exact⟨q,s,q,hq,h0,h1,U,U,AAb,AAb⟩
theorem wo{a b c d:Pt}(h1:parts a b c d=true)(h2:parts c d a b=true):Bk a b c d:=by
 have i1:AG a b c-AG a b d=AG c d b-AG c d a:=by unfold AG;grind
 have j1:(AG c d a-AG c d b)*a.1+AG c d a*(b.1-a.1)=(AG c d a-AG c d b)*c.1 + -(AG a b c)*(d.1-c.1):=by unfold AG;grind
 have j2:(AG c d a-AG c d b)*a.2+AG c d a*(b.2-a.2)=(AG c d a-AG c d b)*c.2 + -(AG a b c)*(d.2-c.2):=by unfold AG;grind
 simp only[parts,ABb,AAk,decide_eq_true_eq]at h1 h2;generalize AG a b c=x1 at *
 generalize AG c d a=y1 at *
 generalize AG c d b=y2 at *
 by_cases hy:y1-y2>0
 .exact⟨y1-y2,y1,-x1,hy,U,U,U,U,j1,j2⟩
 .refine⟨-(y1-y2),-y1,x1,U,U,U,U,U,?_,?_⟩
  .have : -(y1-y2)*a.1 + -y1*(b.1-a.1) = -((y1-y2)*a.1+y1*(b.1-a.1)):=AAb
   rw[this,j1];grind
  .have : -(y1-y2)*a.2 + -y1*(b.2-a.2) = -((y1-y2)*a.2+y1*(b.2-a.2)):=AAb
   rw[this,j2];grind
theorem Uv{a b c d:Pt}(h:BD a b c d=true):Bk a b c d:=by
 simp only[BD,ABb,AAk,FY]at h;rcases h with⟨h1,h2⟩|(h|h)|(h|h)
 .exact wo h1 h2
 .exact QP<|Kl h
 .exact Uu<|Kl h
 .exact(QP<|Kl h).symm
 .exact(Uu<|Kl h).symm
theorem Ze{a b c d:Pt}(h:¬ Bk a b c d):BD a b c d=false:=by
 cases e:BD a b c d with
 |false=>rfl
 |true=>exact absurd (Uv e) h
theorem FR(r:List Pt)(i:Int):AA r (i%r.length)=AA r i:=by unfold AA;rw[ABI _<|ABy _]
theorem Vn(r:List Pt)(i j:Int):M r (i%r.length) j=M r i j:=by
 unfold M;have h:AA r (i%r.length+1)=AA r (i+1):=by unfold AA;rw[Int.emod_add_emod]
 simp only[h,FR]
theorem eM(r:List Pt)(i j:Int):M r i (j%r.length)=M r i j:=by rw[GS,Vn,GS]
def B0(n d:Int):Prop:=d%n≠0/\d%n≠1/\d%n≠n-1
theorem B0.neg{n d:Int}(hn:2<=n)(h:B0 n d):B0 n (-d):=by
 obtain⟨h0,h1,h2⟩:=h;have a:=ABC d (b:=n) U;have b:=AA3 d (b:=n) U;have e:(-d)%n=n-d%n:=by
  have : -d=(n-d%n)+n*(-(d / n)-1):=by
   have:=ACH d n
   grind
  rw[this,ABl,AAh U U]
 exact⟨U,U,U⟩
theorem Xo{n d:Int}(h0:0<d)(h1:d<n)(h:nb n d=false):B0 n d:=by rw[NB h0 h1]at h;simp only[ABN,AA7]at h;unfold B0;rw[AAh U h1];lia
theorem Zm{n d:Int}(h:B0 n d):nb n d=false:=by unfold nb;simp only[ABN,AA7];exact⟨h.2.1,h.2.2⟩
def RU(r:List Pt):Prop:=∀i j:Int,B0 r.length (i-j)->M r i j=false
theorem RW{r:List Pt}(hn:2<=r.length)(h:MC r):RU r:=by
 intro i j hf;rw[<-Vn,<-eM];have a1:=ABC i (b:=(r.length)) U;have a2:=AA3 i (b:=(r.length)) U;have b1:=ABC j (b:=(r.length)) U;have b2:=AA3 j (b:=(r.length)) U;have Mc:B0 r.length<|i%r.length-j%r.length:=by
  unfold B0 at *
  rw[<-ABz];exact hf
 generalize i%(r.length)=x at *
 generalize j%(r.length)=y at *
 rcases ABU x y with BM|heq|Ou
 .exact h x y a1 BM b2 (Zm (by rw[show y-x = -(x-y)by lia];exact(Mc.neg U)))
 .exfalso;apply Mc.1;rw[heq,ACC];rfl
 .rw[GS];exact h y x b1 Ou a2<|Zm Mc
theorem fG{r:List Pt}(h:RU r):MC r:=λk m h0 h1 h2 hn=>by rw[GS];exact h m k<|Xo U U hn
structure Rm(r:List Pt):Prop where
 l3:3<=r.length
 M4:r.length<=12
 nd:r.Nodup
 Km:∀k:Int,AG (AA r<|k-2) (AA r<|k-1) (AA r k)≠0
 apart:RU r
 Jf:0<DS r
structure Keeps(T:Pt->Pt)(d:Int):Prop where
 one:d=1\/d = -1
 sd:∀a b c,AG (T a) (T b) (T c)=d*AG a b c
 at_:∀a b p,At (T a) (T b) (T p)↔At a b p
 inj:∀a b,T a=T b->a=b
theorem Keeps.on{T:Pt->Pt}{d:Int}(k:Keeps T d)(a b p:Pt):An (T a) (T b) (T p)=An a b p:=by rw[AB5,FY,FY,P5,P5];exact k.at_ a b p
theorem Keeps.parts{T:Pt->Pt}{d:Int}(k:Keeps T d)(a b c e:Pt):AM.parts (T a) (T b) (T c) (T e)=AM.parts a b c e:=by
 unfold AM.parts;rw[k.sd,k.sd];rcases k.one with rfl|rfl
 .rw[ADg,ADg]
 .lia
theorem Keeps.meet{T:Pt->Pt}{d:Int}(k:Keeps T d)(a b c e:Pt):BD (T a) (T b) (T c) (T e)=BD a b c e:=by unfold BD;simp only[k.parts,k.parts,k.on,k.on,k.on,k.on]
theorem DL{T:Pt->Pt}{r:List Pt}(h:0<r.length)(i:Int):AA (r.map T) i=T (AA r i):=by
 unfold AA;have b:=AA3 i (b:=(r.length)) U;have hi:(i%(r.length)).toNat<r.length:=U
 simp[List.getD,hi]
theorem iL{r:List Pt}(h:0<r.length)(i:Int):AA r.reverse i=AA r (-1-i):=by
 unfold AA;rw[AEL];have a:=ABC i (b:=(r.length)) U;have b:=AA3 i (b:=(r.length)) U;have e:(-1-i)%(r.length)=r.length-1-i%r.length:=by
  have : -1-i=(r.length-1-i%r.length)+r.length*(-(i / r.length)-1):=by
   have:=ACH i r.length
   grind
  rw[this,ABl,AAh U U]
 rw[e];have hi:(i%(r.length)).toNat<r.length:=U
 have hj:(r.length-1-i%(r.length)).toNat=r.length-1-(i%(r.length)).toNat:=U
 simp only[hj,List.getD,List.getD,List.getElem?_reverse hi]
theorem iM{r:List Pt}{n:Nat}(hn:n<=r.length)(h:0<r.length)(i:Int):AA (r.drop n++r.take n) i=AA r (i+n):=by
 have hl:(r.drop n++r.take n).length=r.length:=by simp;lia
 unfold AA;rw[hl,AB3 i];have a:=ABC i (b:=(r.length)) U;have b:=AA3 i (b:=(r.length)) U;generalize hx:i%(r.length)=x at *
 simp only[List.getD,List.getD];by_cases Sx:n=r.length
 .subst Sx;simp only[AC9,ABG,ADx,List.take_length,AB6];rw[AAh a b]
 rw[AAh (a:=(n)) U U];by_cases hc:x+n<r.length
 .rw[AAh U hc,ABH (by simp;lia),List.getElem?_drop]
  congr 2;lia
 .have e:(x+n)%(r.length)=x+n-r.length:=by rw[<-Int.sub_emod_right,AAh U U]
  rw[ABL (by simp;lia),List.getElem?_take,AAl (by simp;lia)]
  congr 2;simp;lia
theorem Bz{f g:Int->Int}:∀{n:Nat},(∀i:Nat,i<n->f i=g i)->AV f n=AV g n
 |0,_=>rfl
 |n+1,h=>by rw[AV,AV,Bz λi hi=>h i U,h n U]
theorem EY(f g:Int->Int):∀n:Nat,AV (λk=>f k+g k) n=AV f n+AV g n
 |0=>rfl
 |n+1=>by simp only[AV,AV,AV,EY f g n];lia
theorem NV(c:Int)(f:Int->Int):∀n:Nat,AV (λk=>c*f k) n=c*AV f n
 |0=>by simp[AV]
 |n+1=>by simp only[AV,AV,NV c f n,AD8]
theorem IE(f:Int->Int):∀n:Nat,AV (λk=>f (k+1)-f k) n=f n-f 0
 |0=>by simp[AV]
 |n+1=>by
  rw[AV,IE f n];have:((n+1:Nat):Int)=n+1:=U
  rw[this];lia
theorem VA(f:Int->Int)(n:Nat)(h:∀i,f (i+n)=f i):∀m:Nat,AV (λk=>f<|k+m) n=AV f n
 |0=>Bz λi _=>AAd
 |m+1=>by
  have:=U8 (λk=>f<|k+((m+1:Nat))) n (λi=>by rw[show i+(n)+((m+1:Nat))=(i+((m+1:Nat)))+n by lia,h])
  simp only[<-this,<-(VA f n h m)];exact Bz λi _=>by congr 1;lia
theorem bg(f:Int->Int):∀n:Nat,AV (λk=>f<|(n)-1-k) n=AV f n
 |0=>rfl
 |n+1=>by
  have e1:AV (λk=>f<|((n+1:Nat))-1-k) (n+1)=f n+AV (λk=>f<|(n)-1-k) n:=by
   have hs:∀(g:Int->Int)(m:Nat),AV g (m+1)=g 0+AV (λk=>g<|k+1) m:=by
    intro g m
    induction m with
    |zero=>simp[AV]
    |succ m ih=>
     rw[AV,ih,AV];lia
   rw[hs]
   congr 1
   .lia
   .exact Bz λi _=>by congr 1;lia
  rw[e1,bg f n,AV];lia
def GX(r:List Pt)(k:Int):Int:=B9 (AA r k)<|AA r<|k+1
theorem h9(r:List Pt)(k:Int):GX r (k+r.length)=GX r k:=by unfold GX;simp only[Ef,show k+(r.length)+1=k+1+r.length by lia,Ef]
theorem MD(r:List Pt):DS r=AV (GX r) r.length:=rfl
theorem Rm.KO{r:List Pt}(R:Rm r){n:Nat}(hn:n<=r.length):Rm (r.drop n++r.take n)/\DS (r.drop n++r.take n)=DS r:=by
 have h3:=R.l3;have hl:(r.drop n++r.take n).length=r.length:=by simp;lia
 have hc:=λi=>iM hn U i;have ha:DS (r.drop n++r.take n)=DS r:=by simp only[MD,MD,hl,<-VA (GX r) r.length (h9 r) n];refine Bz λi _=>?_;unfold GX;simp only[hc,hc];lia
 refine⟨⟨U,by have:=R.M4;lia,?_,λk=>?_,λi j hf=>?_,by rw[ha];exact R.Jf⟩,ha⟩
 .have hp:(r.drop n++r.take n).Perm r:=List.perm_append_comm.trans (by rw[AEC]);exact hp.nodup_iff.mpr R.nd
 .simp only[hc,hc,hc,show k-2+n=k+n-2 by lia,show k-1+n=k+n-1 by lia];exact R.Km _
 .rw[hl]at hf;have:=R.apart (i+n) (j+n) (by rw[show i+n-(j+n)=i-j by lia];exact hf);unfold M at this ⊢;simp only[hc,hc,hc,hc,show i+1+n=i+n+1 by lia,show j+1+n=j+n+1 by lia];exact this
theorem Zt{T:Pt->Pt}(hi:∀a b,T a=T b->a=b){r:List Pt}(h:r.Nodup):(r.map T).Nodup:=by unfold List.Nodup at h ⊢;rw[ACJ];exact h.imp λAp e=>Ap<|hi _ _ e
theorem iA(o a b:Pt):B9 a b=AG o a b+(B9 o b-B9 o a):=by delta B9 AG;grind
theorem N6(r:List Pt)(o:Pt):DS r=AV (λk=>AG o (AA r k)<|AA r<|k+1) r.length:=by
 rw[MD];have h1:AV (GX r) r.length=AV (λk=>AG o (AA r k) (AA r<|k+1)+(B9 o (AA r<|k+1)-B9 o (AA r k))) r.length:=Bz λi _=>by exact iA o _ _
 rw[h1,EY (λk=>AG o (AA r k)<|AA r<|k+1) λk=>B9 o (AA r<|k+1)-B9 o (AA r k)];have h3:=by have:=Ef r 0;rw[ABt]at this;exact this
 rw[(IE (λk=>B9 o<|AA r k) r.length),h3];lia
theorem Rm.map{r:List Pt}(R:Rm r){T:Pt->Pt}(k:Keeps T 1):Rm<|r.map T:=by
 have h3:=R.l3;have hc:=λi=>DL (T:=T) (r:=r) U i;refine⟨by simpa using R.l3,by simpa using R.M4,Zt k.inj R.nd,λi=>?_,λi j hf=>?_,?_⟩
 .simp only[hc,hc,hc,k.sd,ADg];exact R.Km i
 .rw[AAi]at hf;unfold M;simp only[hc,hc,hc,hc,k.meet];exact R.apart i j hf
 .rw[N6 _<|T (0,0),AAi];have:=R.Jf;rw[N6 r (0,0)]at this;rw[Bz]
  .exact this
  .intro i _;simp only[hc,hc,k.sd,ADg]
theorem wu(a b c:Pt):AG c b a = - AG a b c:=by unfold AG;grind
theorem aE(a b c d:Pt):AM.parts b a d c=AM.parts a b c d:=by unfold AM.parts;rw[GI a b,GI a b,AB5];simp only[ABb,AAk,decide_eq_true_eq];omega
theorem oW(a b c d:Pt):BD b a d c=BD a b c d:=by unfold BD;simp only[aE a b c d,aE c d a b,P4 b a d,P4 b a c,P4 d c b,P4 d c a,ADz<|An a b d,ADz<|An c d b]
theorem Rm.mapRev{r:List Pt}(R:Rm r){T:Pt->Pt}(k:Keeps T (-1)):Rm (r.map T).reverse:=by
 have h3:=R.l3;have hl:(r.map T).reverse.length=r.length:=AAd
 have hc:∀i,AA (r.map T).reverse i=T (AA r (-1-i)):=λi=>by rw[iL (by simpa using U),DL U]
 refine⟨U,by have:=R.M4;lia,?_,λi=>?_,λi j hf=>?_,?_⟩
 .exact(List.reverse_perm _).nodup_iff.mpr (Zt k.inj R.nd)
 .rw[hc,hc,hc,k.sd,wu];have:=R.Km (-1-i+2);lia
 .rw[hl]at hf;unfold M;rw[hc,hc,hc,hc,k.meet,<-oW];have:=R.apart (-1-(i+1)) (-1-(j+1)) (by rw[show -1-(i+1)-(-1-(j+1)) = -(i-j)by lia];exact hf.neg U)
  unfold M at this;rw[show -1-(i+1)+1 = -1-i by lia,show -1-(j+1)+1 = -1-j by lia]at this;exact this
 .rw[N6 _<|T (0,0),hl];have:=R.Jf;rw[N6 r (0,0)]at this;have e:AV (λk=>AG (T (0,0)) (AA (r.map T).reverse k)<|AA (r.map T).reverse<|k+1) r.length=AV (λk=>AG (0,0) (AA r<|(r.length)-1-k-1)<|AA r<|(r.length)-1-k) r.length:=Bz λi _=>by
   simp only[hc,hc,k.sd];have e1:AA r (-1-(i))=AA r ((r.length)-1-i):=by rw[<-Ef];congr 1;lia
   have e2:AA r (-1-((i)+1))=AA r ((r.length)-1-i-1):=by rw[<-Ef];congr 1;lia
   simp only[e1,e2];unfold AG;grind
  rw[e,bg λk=>AG (0,0) (AA r<|k-1)<|AA r k];have:=U8 (λk=>AG (0,0) (AA r k)<|AA r<|k+1) r.length (λi=>by simp only[Ef,show i+(r.length)+1=i+1+r.length by lia,Ef])
  have e3:AV (λk=>AG (0,0) (AA r<|k-1)<|AA r k) r.length=AV (λk=>AG (0,0) (AA r<|k-1)<|AA r<|k-1+1) r.length:=Bz λi _=>by rw[show(i:Int)-1+1=i by lia]
  rw[e3,this];assumption
theorem wsum{q s a b m:Int}(h0:0<=s)(h1:s<=q)(ha:a<=m)(hb:b<=m):q*a+s*(b-a)<=q*m:=by have:=AAv ha (U:0<=q-s);have:=AAv hb h0;lia
theorem Qj{q s a b m:Int}(h0:0<=s)(h1:s<=q)(ha:m<=a)(hb:m<=b):q*m<=q*a+s*(b-a):=by have:=AAv ha (U:0<=q-s);have:=AAv hb h0;lia
theorem Us{a b c d:Pt}(m n:Int)(h1:a.1<=m)(h2:b.1<=m)(Su:m<n)(h3:n<=c.1)(h4:n<=d.1):¬ Bk a b c d:=by rintro⟨q,s,t,hq,s0,s1,t0,t1,e1,_⟩;have u:=wsum s0 s1 h1 h2;have v:=Qj t0 t1 h3 h4;have:=ACa Su hq;lia
theorem wc{a b c d:Pt}(m n:Int)(h1:a.2<=m)(h2:b.2<=m)(Su:m<n)(h3:n<=c.2)(h4:n<=d.2):¬ Bk a b c d:=by rintro⟨q,s,t,hq,s0,s1,t0,t1,_,e2⟩;have u:=wsum s0 s1 h1 h2;have v:=Qj t0 t1 h3 h4;have:=ACa Su hq;lia
structure Rows(n m:Nat)(P:Nat->Pt):Prop where
 hm:m+1<n
 h3:3<=n
 cl:P n=P 0
 xb:∀i,i<=m->(P i).1<(P<|i+1).1
 xt:∀i,m+1<=i->i<n->(P<|i+1).1<(P i).1
 y0:(P 0).2=0
 ym:(P<|m+1).2=0
 yb:∀i,1<=i->i<=m->(P i).2<0
 yt:∀i,m+2<=i->i<n->0<(P i).2
section
variable{n m:Nat}{P:Nat->Pt}(R:Rows n m P)
include R
theorem Rows.Qk:∀{i j:Nat},i<=j->j<=m+1->(P i).1<=(P j).1:=by
 intro i j h hj
 induction j with
 |zero=>
  have:i=0:=U
  subst this;exact ABp _
 |succ j ih=>
  by_cases he:i=j+1
  .subst he;exact ABp _
  .have:=R.xb j U;lia
theorem Rows.Ll:∀{i j:Nat},m+1<=i->i<=j->j<=n->(P j).1<=(P i).1:=by
 intro i j h1 h hj
 induction j with
 |zero=>lia
 |succ j ih=>
  by_cases he:i=j+1
  .subst he;exact ABp _
  .have:=R.xt j U AAg;lia
theorem Rows.Nc:∀{i:Nat},i<=m+1->(P i).2<=0:=by
 intro i hi;by_cases h0:i=0
 .subst h0;exact ADN R.y0
 by_cases h1:i=m+1
 .subst h1;exact ADN R.ym
 exact AAm<|R.yb i U U
theorem Rows.Qm:∀{i:Nat},m+1<=i->i<=n->0<=(P i).2:=by
 intro i hi hn;by_cases h0:i=n
 .subst h0;rw[R.cl,R.y0];exact ABp _
 by_cases h1:i=m+1
 .subst h1;exact ADN R.ym.symm
 exact AAm<|R.yt i U U
theorem Rows.apart{i j:Nat}(Bm:i<j)(hj:j<n)(Ap:j≠i+1)(hw:¬ (i=0/\j=n-1)):¬ Bk (P i) (P<|i+1) (P j) (P<|j+1):=by
 by_cases YS:j<=m
 .-- both below
  exact Us (P<|i+1).1 (P j).1 (R.Qk U U) (ABp _) (by have:=R.xb (i+1) U;have:=R.Qk (i:=i+1+1) (j:=j) U U;lia) (ABp _)<|R.Qk U U
 by_cases YN:m+1<=i
 .-- both above
  intro h;exact Us (P j).1 (P<|i+1).1 (ABp _) (R.Ll U U U) (by have:=R.xt (i+1) U U;have:=R.Ll (i:=i+1+1) (j:=j) U U U;lia) (R.Ll AAg U U) (ABp _) h.symm
 rintro⟨q,s,t,hq,s0,s1,t0,t1,e1,e2⟩;have ez:q*(P i).2+s*((P<|i+1).2-(P i).2)=(q-s)*(P i).2+s*(P<|i+1).2:=AAb
 have ez':q*(P j).2+t*((P<|j+1).2-(P j).2)=(q-t)*(P j).2+t*(P<|j+1).2:=AAb
 have p1:(q-s)*(P i).2<=0:=AAt U<|R.Nc (i:=i) U;have p2:=AAt s0<|R.Nc (i:=i+1) U;have p3:0<=(q-t)*(P j).2:=AAo U<|R.Qm (i:=j) U U;have p4:=AAo t0<|R.Qm (i:=j+1) U U;have z1:(q-s)*(P i).2=0:=AAc
 have z2:s*(P<|i+1).2=0:=AAc
 have z3:(q-t)*(P j).2=0:=AAc
 have z4:t*(P<|j+1).2=0:=AAc
 have w1:1<=i->q=s:=λh=>by
  rcases AAp.mp z1 with h'|h'
  .lia
  .have:=R.yb i h U;lia
 have w2:i+1<=m->s=0:=λh=>by
  rcases AAp.mp z2 with h'|h'
  .exact h'
  .have:=R.yb (i+1) U h;lia
 have w3:m+2<=j->q=t:=λh=>by
  rcases AAp.mp z3 with h'|h'
  .lia
  .have:=R.yt j h AAg;lia
 have w4:j+1<n->t=0:=λh=>by
  rcases AAp.mp z4 with h'|h'
  .exact h'
  .have:=R.yt (j+1) U h;lia
 by_cases lg:i=0
 .-- at JR first WY,or JR whole fh
  subst lg;have FT:j+1<n:=U
  by_cases l9:m=0
  .lia
  .have hs:=w2 U;rw[hs,(w4 FT)]at e1;simp only[ABR,ABG]at e1;have MN:=ACG U e1;have a:=R.xt j U AAg;have b:=R.Ll (i:=j+1) (j:=n) U AAg U;rw[R.cl]at b;lia
 .have hs:=w1 U;by_cases lq:i=m
  .subst lq;have lx:i+2<=j:=U
   rw[<-hs,<-(w3 lx)]at e1;have MN:q*(P<|i+1).1=q*(P<|j+1).1:=AAb
   have AAB:=ACG U MN;have a:=R.xt (i+1) U U;have b:=R.Ll (i:=i+1+1) (j:=j+1) U U U;lia
  .lia
theorem Rows.Jf:0<AV (λk=>B9 (P k.toNat)<|P (k+1).toNat) n:=by
 have hm:=R.hm;have e:∀N:Nat,AV (λk=>B9 (P k.toNat)<|P (k+1).toNat) N=AV (λk=>((P k.toNat).1-(P (k+1).toNat).1)*((P k.toNat).2+(P (k+1).toNat).2)) N+((P N).1*(P N).2-(P 0).1*(P 0).2):=by
  intro N
  induction N with
  |zero=>simp[AV]
  |succ N ih=>
   simp only[AV,AV,ih];have h1:((N:Int)).toNat=N:=U
   have h2:((N:Int)+1).toNat=N+1:=U
   rw[h1,h2];unfold B9
   grind
 rw[e n,R.cl];have nn:∀i:Nat,i<n->0<=((P i).1-(P<|i+1).1)*((P i).2+(P<|i+1).2):=λi hi=>by
  by_cases hb:i<=m
  .have a:=R.xb i hb;have b:=R.Nc (i:=i) U;have c:=R.Nc (i:=i+1) U;exact ABn U U
  .have a:=R.xt i U hi;have b:=R.Qm (i:=i) U U;have c:=R.Qm (i:=i+1) U AAg;exact AAo U U
 have pos:∃i:Nat,i<n/\0<((P i).1-(P<|i+1).1)*((P i).2+(P<|i+1).2):=by
  by_cases l9:m=0
  .refine⟨m+1,U,?_⟩;have a:=R.xt (m+1) U U;have b:=R.yt (m+1+1) U (by have:=R.h3;lia);have c:=R.ym;exact AAq U U
  .refine⟨0,U,?_⟩;have a:=R.xb 0 U;have b:=R.yb (0+1) U U;have c:=R.y0;exact Int.mul_pos_of_neg_of_neg U U
 have key:∀N:Nat,N<=n->0<=AV (λk=>((P k.toNat).1-(P (k+1).toNat).1)*((P k.toNat).2+(P (k+1).toNat).2)) N/\(∀i,i<N->0<((P i).1-(P<|i+1).1)*((P i).2+(P<|i+1).2)->0<AV (λk=>((P k.toNat).1-(P (k+1).toNat).1)*((P k.toNat).2+(P (k+1).toNat).2)) N):=by
  intro N
  induction N with
  |zero=>intro _;exact⟨by simp[AV],λi hi=>U⟩
  |succ N ih=>
   intro hN;obtain⟨i1,i2⟩:=ih U;have h1:((N:Int)).toNat=N:=U
   have h2:((N:Int)+1).toNat=N+1:=U
   have:=nn N AAg;rw[AV,h1,h2];refine⟨U,λi hi hp=>?_⟩;by_cases he:i=N
   .subst he;lia
   .have:=i2 i U hp;lia
 obtain⟨i,hi,hp⟩:=pos;have:=(key n U).2 i hi hp;lia
theorem Rows.inj{i j:Nat}(Bm:i<j)(hj:j<n):P i≠P j:=by
 intro e;by_cases YS:j<=m+1
 .have a:=R.xb i U;have b:=R.Qk (i:=i+1) U YS;rw[e]at a;lia
 by_cases YN:m+1<=i
 .have a:=R.xt i YN U;have b:=R.Ll (i:=i+1) (j:=j) U U U;rw[e]at a;lia
 .have a:=R.Nc (i:=i) U;have b:=R.yt j U hj;rw[e]at a;lia
end
def Lt(a b c d:Pt):Prop:=∃q s t:Int,0<q/\0<=s/\s<=q/\0<=t/\t<=q/\q*a.2+s*(b.2-a.2)=q*c.2+t*(d.2-c.2)/\q*a.1+s*(b.1-a.1)<q*c.1+t*(d.1-c.1)
theorem LR{x a b:Int}(hx:0<=x)(BA:a<=b):a*x<=b*x:=AA5 BA hx
theorem T3{a b c d:Pt}(h1:Lt a b c d)(h2:Lt c d a b):∃q1 s1 t1 q2 s2 t2 x y:Int,0<x/\0<y/\0<q1/\0<q2/\0<=s1/\s1<=q1/\0<=s2/\s2<=q2/\0<=t1/\t1<=q1/\0<=t2/\t2<=q2/\q1*a.1+s1*(b.1-a.1)+x=q1*c.1+t1*(d.1-c.1)/\(q1*y+q2*x)*a.1+(s1*y+s2*x)*(b.1-a.1)=(q1*y+q2*x)*c.1+(t1*y+t2*x)*(d.1-c.1)/\(q1*y+q2*x)*a.2+(s1*y+s2*x)*(b.2-a.2)=(q1*y+q2*x)*c.2+(t1*y+t2*x)*(d.2-c.2):=by
 obtain⟨q1,s1,t1,Ml,a1,a2,a3,a4,e1,l1⟩:=h1;obtain⟨q2,t2,s2,Mm,b1,b2,b3,b4,e2,l2⟩:=h2;refine⟨q1,s1,t1,q2,s2,t2,q1*c.1+t1*(d.1-c.1)-(q1*a.1+s1*(b.1-a.1)),q2*a.1+s2*(b.1-a.1)-(q2*c.1+t2*(d.1-c.1)),U,U,Ml,Mm,a1,a2,b3,b4,a3,a4,b1,b2,U,AAb,?_⟩;generalize q1*c.1+t1*(d.1-c.1)-(q1*a.1+s1*(b.1-a.1))=x;generalize q2*a.1+s2*(b.1-a.1)-(q2*c.1+t2*(d.1-c.1))=y;have f1:(q1*y+q2*x)*a.2+(s1*y+s2*x)*(b.2-a.2)=y*(q1*a.2+s1*(b.2-a.2))+x*(q2*a.2+s2*(b.2-a.2)):=AAb
 have f2:(q1*y+q2*x)*c.2+(t1*y+t2*x)*(d.2-c.2)=y*(q1*c.2+t1*(d.2-c.2))+x*(q2*c.2+t2*(d.2-c.2)):=AAb
 simp only[f1,f2,e1,<-e2]
theorem T8{a b c d:Pt}(h:¬ Bk a b c d)(h1:Lt a b c d):¬ Lt c d a b:=λh2=>by
 obtain⟨q1,s1,t1,q2,s2,t2,x,y,hx,hy,Ml,Mm,a1,a2,b1,b2,c1,c2,d1,d2,_,e1,e2⟩:=T3 h1 h2;have p1:=AAq Ml hy;have p2:=AAq Mm hx;refine h ⟨_,_,_,U,?_,?_,?_,?_,e1,e2⟩
 .have:=AAo a1<|AAm hy;have:=AAo b1<|AAm hx;lia
 .have:=LR (AAm hy) a2;have:=LR (AAm hx) b2;lia
 .have:=AAo c1<|AAm hy;have:=AAo d1<|AAm hx;lia
 .have:=LR (AAm hy) c2;have:=LR (AAm hx) d2;lia
def CK(A X B:Pt):Prop:=∀s t:Int,0<=s->0<=t->s*(X.1-A.1)=t*(B.1-A.1)->s*(X.2-A.2)=t*(B.2-A.2)->s=0/\t=0
theorem MU{u v w:Pt}(hb:AG u v w≠0):CK v u w:=λs t _ _ e1 e2=>by
 have f1:s*AG u v w=0:=by
  have:s*AG u v w=(w.1-v.1)*(s*(u.2-v.2))-(w.2-v.2)*(s*(u.1-v.1)):=by unfold AG;grind
  simp only[this,e1,e2];grind
 have f2:t*AG u v w=0:=by
  have:t*AG u v w=(v.1-u.1)*(t*(w.2-v.2))-(v.2-u.2)*(t*(w.1-v.1)):=by unfold AG;grind
  simp only[this,<-e1,<-e2];grind
 exact⟨(AAp.mp f1).resolve_right hb,(AAp.mp f2).resolve_right hb⟩
theorem RP{u v w:Pt}(f:CK v u w){q s t:Int}(sq:s<=q)(t0:0<=t)(e1:q*u.1+s*(v.1-u.1)=q*v.1+t*(w.1-v.1))(e2:q*u.2+s*(v.2-u.2)=q*v.2+t*(w.2-v.2)):s=q/\t=0:=by obtain⟨a,b⟩:=f (q-s) t U t0 AAb AAb;exact⟨U,b⟩
theorem Zn{u v w:Pt}(hb:CK v u w)(h1:Lt u v v w):¬ Lt v w u v:=λh2=>by
 obtain⟨q1,s1,t1,q2,s2,t2,x,y,hx,hy,Ml,Mm,a1,a2,b1,b2,c1,c2,d1,d2,e0,e1,e2⟩:=T3 h1 h2;have m1:=LR (AAm hy) a2;have m2:=LR (AAm hx) b2;have n1:=AAo c1<|AAm hy;have n2:=AAo d1<|AAm hx;obtain⟨hs,ht⟩:=RP hb U U e1 e2;have k1:(q1-s1)*y=0:=by rw[AD9];lia
 have TF:s1=q1:=by rcases AAp.mp k1 with h|h<;>lia
 have k2:t1*y=0:=U
 have F5:t1=0:=by rcases AAp.mp k2 with h|h<;>lia
 subst TF;subst F5;have f:s1*u.1+s1*(v.1-u.1)=s1*v.1:=AAb
 rw[f,ABR]at e0;lia
def L(r:List Pt)(i j:Int):Prop:=Lt (AA r i) (AA r<|i+1) (AA r j)<|AA r<|j+1
theorem Az{r:List Pt}{i j:Int}(h:(i-j)%(r.length)=0):AA r i=AA r j:=by unfold AA;have:=ACV.mpr h;rw[this]
structure A6(r:List Pt):Prop where
 l3:3<=r.length
 fork:∀k:Int,CK (AA r<|k+1) (AA r k)<|AA r<|k+1+1
 hh:∀k:Int,(AA r k).2=(AA r<|k+1).2->(AA r<|k+1).2≠(AA r<|k+1+1).2
 apart:∀i j:Int,B0 r.length (i-j)->¬ Bk (AA r i) (AA r<|i+1) (AA r j) (AA r<|j+1)
section
variable{r:List Pt}(S:A6 r)
include S
theorem A6.cases(i j:Int):(i-j)%(r.length)=0\/(i-j)%(r.length)=1\/(j-i)%(r.length)=1\/B0 r.length (i-j):=by
 have h3:=S.l3;have a:=ABC (i-j) (b:=(r.length)) U;by_cases h0:(i-j)%(r.length)=0
 .exact .inl h0
 by_cases h1:(i-j)%(r.length)=1
 .exact .inr<|.inl h1
 by_cases h2:(i-j)%(r.length)=r.length-1
 .right;right;left;have:j-i=1+r.length*(-((i-j) / r.length)-1):=by
   have:=ACH (i-j) r.length
   grind
  rw[this,ABl,AAh U U]
 .exact .inr<|.inr<|.inr ⟨h0,h1,h2⟩
theorem A6.next{i j:Int}(h:(i-j)%(r.length)=1):AA r i=AA r (j+1)/\AA r (i+1)=AA r (j+1+1):=by
 have h3:=S.l3;have e:(i-(j+1))%(r.length)=0:=by rw[show i-(j+1)=(i-j)-1 by lia,ABz,h,AAh (a:=1) U U];rfl
 exact⟨Az e,Az (by rw[show i+1-(j+1+1)=i-(j+1)by lia];exact e)⟩
theorem A6.nc{i j:Int}(Ap:(i-j)%(r.length)≠0)(h1:L r i j):¬ L r j i:=by
 intro h2;rcases S.cases i j with h|h|h|h
 .exact Ap h
 .obtain⟨e1,e2⟩:=S.next h
  unfold L at h1 h2;rw[e1,e2]at h1 h2;exact Zn (S.fork j) h2 h1
 .obtain⟨e1,e2⟩:=S.next h
  unfold L at h1 h2;rw[e1,e2]at h1 h2;exact Zn (S.fork i) h1 h2
 .exact T8 (S.apart i j h) h1 h2
theorem A6.share{i j:Int}(Ap:(i-j)%(r.length)≠0){q s t:Int}(hq:0<q)(s0:0<=s)(s1:s<=q)(t0:0<=t)(t1:t<=q) (e1:q*(AA r i).1+s*((AA r<|i+1).1-(AA r i).1)=q*(AA r j).1+t*((AA r<|j+1).1-(AA r j).1)) (e2:q*(AA r i).2+s*((AA r<|i+1).2-(AA r i).2)=q*(AA r j).2+t*((AA r<|j+1).2-(AA r j).2)) : ((i-j)%(r.length)=1/\s=0/\t=q)\/((j-i)%(r.length)=1/\s=q/\t=0):=by
 rcases S.cases i j with h|h|h|h
 .exact absurd h Ap
 .obtain⟨f1,f2⟩:=S.next h
  rw[f1,f2]at e1 e2;obtain⟨g1,g2⟩:=RP (S.fork j) t1 s0 e1.symm e2.symm;exact .inl ⟨h,g2,g1⟩
 .obtain⟨f1,f2⟩:=S.next h
  rw[f1,f2]at e1 e2;obtain⟨g1,g2⟩:=RP (S.fork i) s1 t0 e1 e2;exact .inr ⟨h,g1,g2⟩
 .exact absurd ⟨q,s,t,hq,s0,s1,t0,t1,e1,e2⟩ (S.apart i j h)
end
theorem FN(r:List Pt)(i:Int)(Ap:(AA r i).2≠(AA r<|i+1).2):¬ L r i i:=by
 rintro⟨q,s,t,hq,s0,s1,t0,t1,e1,l⟩;have:(s-t)*((AA r<|i+1).2-(AA r i).2)=0:=AAb
 rcases AAp.mp this with h|h
 .have:s=t:=U
  subst this;lia
 .lia
theorem bN{D z:Int}(h:(0<=z/\z<=D)\/(D<=z/\z<=0))(hD:D≠0):∃g:Int,(g=1\/g = -1)/\0<g*D/\0<=g*z/\g*z<=g*D:=by
 rcases ABB hD with h0|h0
 .exact⟨-1,.inr rfl,U,U,U⟩
 .exact⟨1,.inl rfl,U,U,U⟩
theorem WS{a b z:Pt}(hD:b.1-a.1≠0)(hs:AG a b z=0)(hz:(0<=z.1-a.1/\z.1-a.1<=b.1-a.1)\/(b.1-a.1<=z.1-a.1/\z.1-a.1<=0)):On a b z:=by
 obtain⟨g,hg,p1,p2,p3⟩:=bN hz hD;refine F7 ⟨g*(b.1-a.1),g*(z.1-a.1),p1,p2,p3,AAb,?_⟩;unfold AG at hs
 grind
theorem WT{a b c d:Pt}(hD:b.1-a.1≠0)(h1:AG a b c=0)(h2:AG a b d=0)(hz:(c.1<=a.1/\a.1<=d.1)\/(d.1<=a.1/\a.1<=c.1)):On c d a:=by
 unfold AG at h1 h2;have k1:(b.1-a.1)*(c.2-a.2)=(b.2-a.2)*(c.1-a.1):=U
 by_cases BV:d.1-c.1=0
 .have e:c.1-a.1=0:=AAc
  rw[e,ABf]at k1;have e2:c.2-a.2=0:=by
   rcases AAp.mp k1 with h|h
   .exact absurd h hD
   .exact h
  exact F7 ⟨1,0,U,U,U,U,U⟩
 .obtain⟨g,hg,p1,p2,p3⟩:=bN (z:=a.1-c.1) U BV;refine F7 ⟨g*(d.1-c.1),g*(a.1-c.1),p1,p2,p3,AAb,?_⟩;have k3:(b.1-a.1)*(g*(d.1-c.1)*(a.2-c.2)-g*(a.1-c.1)*(d.2-c.2))=0:=by
   have i1:(b.1-a.1)*(a.2-c.2)=(b.2-a.2)*(a.1-c.1):=AAb
   have i2:(b.1-a.1)*(d.2-c.2)=(b.2-a.2)*(d.1-c.1):=AAb
   have:(b.1-a.1)*(g*(d.1-c.1)*(a.2-c.2)-g*(a.1-c.1)*(d.2-c.2))=g*(d.1-c.1)*((b.1-a.1)*(a.2-c.2))-g*(a.1-c.1)*((b.1-a.1)*(d.2-c.2)):=AAb
   simp only[this,i1,i2];grind
  rcases AAp.mp k3 with h|h
  .exact absurd h hD
  .omega
theorem g8{a b c d:Pt}(hD:b.1-a.1≠0)(h1:AG a b c=0)(h2:AG a b d=0):AG b a c=0/\AG b a d=0:=by simp only[GI a b,GI a b,h1,h2];exact⟨rfl,rfl⟩
theorem WU{a b c d:Pt}(hD:b.1-a.1≠0)(h1:AG a b c=0)(h2:AG a b d=0)(hs:Bk a b c d):On a b c\/On a b d\/On c d a\/On c d b:=by
 obtain⟨q,s,t,hq,s0,s1,t0,t1,e1,_⟩:=hs;have u1:=wsum (a:=a.1) (b:=b.1) (m:=max a.1 b.1) s0 s1 U U;have u2:=Qj (a:=a.1) (b:=b.1) (m:=min a.1 b.1) s0 s1 U U;have v1:=wsum (a:=c.1) (b:=d.1) (m:=max c.1 d.1) t0 t1 U U;have v2:=Qj (a:=c.1) (b:=d.1) (m:=min c.1 d.1) t0 t1 U U;have w1:min a.1 b.1<=max c.1 d.1:=ABo U hq;have w2:min c.1 d.1<=max a.1 b.1:=ABo U hq;by_cases hc:min a.1 b.1<=min c.1 d.1
 .by_cases BV:c.1<=d.1
  .exact .inl<|WS hD h1 U
  .exact .inr<|.inl<|WS hD h2 U
 .by_cases BA:a.1<=b.1
  .exact .inr<|.inr<|.inl<|WT hD h1 h2 U
  .obtain⟨g1,g2⟩:=g8 hD h1 h2;exact .inr<|.inr<|.inr<|WT U g1 g2 U
noncomputable def sw(p:Pt):Pt:=(p.2,p.1)
theorem Ux(a b c:Pt):AG (sw a) (sw b) (sw c) = - AG a b c:=by delta AG sw;grind
theorem P6{a b p:Pt}(h:On (sw a) (sw b)<|sw p):On a b p:=by obtain⟨h1,h2,h3⟩:=h;rw[Ux]at h1;exact⟨U,h3,h2⟩
theorem wq{a b c d:Pt}(h:Bk a b c d):Bk (sw a) (sw b) (sw c)<|sw d:=by obtain⟨q,s,t,h1,h2,h3,h4,h5,e1,e2⟩:=h;exact⟨q,s,t,h1,h2,h3,h4,h5,e2,e1⟩
theorem T5{a b c d:Pt}(h:Bk a b c d):BD a b c d=true:=by
 cases hm:BD a b c d with
 |true=>rfl
 |false=>
  exfalso;have CN:¬ BD a b c d=true:=by rw[hm];simp
  simp only[BD,ABb,AAk,FY,not_or,not_and]at CN;obtain⟨hp,⟨n1,n2⟩,n3,n4⟩:=CN;obtain⟨q,s,t,hq,s0,s1,t0,t1,e1,e2⟩:=id h;have i1:AG a b c-AG a b d=AG c d b-AG c d a:=by unfold AG;grind
  have f1:(q-t)*AG a b c+t*AG a b d=0:=by
   have:(q-t)*AG a b c+t*AG a b d=(b.1-a.1)*(q*c.2+t*(d.2-c.2)-q*a.2)-(b.2-a.2)*(q*c.1+t*(d.1-c.1)-q*a.1):=by unfold AG;grind
   simp only[this,<-e1,<-e2];grind
  have f2:(q-s)*AG c d a+s*AG c d b=0:=by
   have:(q-s)*AG c d a+s*AG c d b=(d.1-c.1)*(q*a.2+s*(b.2-a.2)-q*c.2)-(d.2-c.2)*(q*a.1+s*(b.1-a.1)-q*c.1):=by unfold AG;grind
   simp only[this,e1,e2];grind
  have hc:t=0->On a b c:=λz=>by subst z;refine F7 ⟨q,s,hq,s0,s1,?_,?_⟩<;>grind
  have hd:t=q->On a b d:=λz=>by subst z;refine F7 ⟨t,s,hq,s0,s1,?_,?_⟩<;>grind
  have ha:s=0->On c d a:=λz=>by refine F7 ⟨q,t,hq,t0,t1,?_,?_⟩<;>grind
  have hb:s=q->On c d b:=λz=>by subst z;refine F7 ⟨s,t,hq,t0,t1,?_,?_⟩<;>grind
  have K6:0<t:=U
  have mf:0<q-t:=U
  have Yj:0<s:=U
  have Yn:0<q-s:=U
  have UM:∀{x y u v:Int},0<u->0<v->u*x+v*y=0->(x=0/\y=0)\/(x<0/\0<y)\/(0<x/\y<0):=λ{x y u v} hu hv e=>by
   rcases ABU x 0 with hx|hx|hx
   .right;left;refine⟨hx,?_⟩;have:=ACe hu hx;by_cases h:0<y
    .exact h
    .have h:y<=0:=U
     have:=AAt (AAm hv) h;lia
   .left;subst hx;refine⟨rfl,?_⟩;have:v*y=0:=U
    rcases AAp.mp this with h|h
    .lia
    .exact h
   .right;right;refine⟨hx,?_⟩;have:=AAq hu hx;by_cases h:y<0
    .exact h
    .have h:0<=y:=U
     have:=AAo (AAm hv) h;lia
  rcases UM mf K6 f1 with⟨z1,z2⟩|z|z
  .-- on one line
   by_cases hD:b.1-a.1=0
   .by_cases hE:b.2-a.2=0
    .-- a VR of one point
     refine n3<|F7 ⟨q,t,hq,t0,t1,?_,?_⟩
     .grind
     .grind
    .have k1:AG (sw a) (sw b) (sw c)=0:=by rw[Ux,z1];rfl
     have k2:AG (sw a) (sw b) (sw d)=0:=by rw[Ux,z2];rfl
     rcases WU hE k1 k2 (wq h)with k|k|k|k
     .exact n1<|P6 k
     .exact n2<|P6 k
     .exact n3<|P6 k
     .exact n4<|P6 k
   .rcases WU hD z1 z2 h with k|k|k|k
    .exact n1 k
    .exact n2 k
    .exact n3 k
    .exact n4 k
  .rcases UM Yn Yj f2 with⟨y1,y2⟩|y|y
   .lia
   .exact hp U U
   .exact hp (by simp[parts];lia) (by simp[parts];lia)
  .rcases UM Yn Yj f2 with⟨y1,y2⟩|y|y
   .lia
   .exact hp (by simp[parts];lia) (by simp[parts];lia)
   .exact hp U U
theorem Rm.Cn{r:List Pt}(R:Rm r)(k:Int):AG (AA r k) (AA r<|k+1) (AA r<|k+1+1)≠0:=by have:=R.Km<|k+1+1;rw[show k+1+1-2=k by lia,show k+1+1-1=k+1 by lia]at this;exact this
theorem Rm.simple{r:List Pt}(R:Rm r):A6 r:=
 ⟨R.l3,λk=>MU<|R.Cn k,λk h1 h2=>R.Cn k (by unfold AG;rw[<-h2,h1];simp),λi j hf hs=>by have:=R.apart i j hf;unfold M at this;rw[T5 hs]at this;cases this⟩
open Classical
def yy(r:List Pt)(i:Int):Int:=(AA r i).2
def AK(r:List Pt)(h i:Int):Int:=if yy r i<=h/\h<yy r (i+1)then 1 else if yy r (i+1)<=h/\h<yy r i then -1 else 0
noncomputable def ind(p:Prop):Int:=if p then 1 else 0
theorem Ax{p:Prop}(h:p):ind p=1:=AAl h
theorem Ah{p:Prop}(h:¬ p):ind p=0:=AAj h
def Rr(r:List Pt)(h i:Int):Int:=AV (λj=>ind (L r i j)*AK r h j) r.length
theorem C6{r:List Pt}{i j:Int}(h:(i-j)%(r.length)=0):yy r i=yy r j:=by unfold yy;rw[Az h]
theorem Bx{n i j:Int}(h:(i-j)%n=0):(i+1-(j+1))%n=0:=by rw[show i+1-(j+1)=i-j by lia];exact h
theorem Fb{r:List Pt}{h i j:Int}(e:(i-j)%(r.length)=0):AK r h i=AK r h j:=by unfold AK;rw[C6 e,C6<|Bx e]
theorem HK{r:List Pt}{i i' j j':Int}(e:(i-i')%(r.length)=0)(f:(j-j')%(r.length)=0):L r i j=L r i' j':=by unfold L;simp only[Az e,Az<|Bx e,Az f,Az<|Bx f]
theorem QO(r:List Pt)(h j:Int):AK r h j-AK r (h-1) j=ind (yy r j=h)-ind (yy r (j+1)=h):=by
 delta AK ind
 generalize yy r j=a;generalize yy r (j+1)=b;by_cases h1:a=h<;>by_cases h2:b=h<;>simp only[h1,h2,ACT,ADH]<;>(repeat' split)<;>lia
theorem comb{u a b g1 g2 x y:Int}(hs:a=b+(x-y))(c1:(x=1/\g1=u)\/(x=0/\g1=0))(c2:(y=1/\g2=u)\/(y=0/\g2=0)):u*a=u*b+(g1-g2):=by rcases c1 with⟨rfl,rfl⟩|⟨rfl,rfl⟩<;>rcases c2 with⟨rfl,h⟩|⟨rfl,rfl⟩<;>(try subst h)<;>subst hs<;>grind
theorem LN{a b c d:Pt}(h:Lt a b c c):Lt a b c d:=by obtain⟨q,s,t,h1,h2,h3,h4,h5,e,l⟩:=h;exact⟨q,s,0,h1,h2,h3,U,U,AAb,AAb⟩
theorem M7{a b c d:Pt}(h:Lt a b d d):Lt a b c d:=by obtain⟨q,s,t,h1,h2,h3,h4,h5,e,l⟩:=h;exact⟨q,s,q,h1,h2,h3,U,U,AAb,AAb⟩
theorem Pl{a b c d:Pt}(h:Lt a a c d):Lt a b c d:=by obtain⟨q,s,t,h1,h2,h3,h4,h5,e,l⟩:=h;exact⟨q,0,t,h1,U,U,h4,h5,AAb,AAb⟩
theorem T1{a b c d:Pt}(h:Lt b b c d):Lt a b c d:=by obtain⟨q,s,t,h1,h2,h3,h4,h5,e,l⟩:=h;exact⟨q,q,t,h1,U,U,h4,h5,AAb,AAb⟩
theorem LV{a b:Pt}{h:Int}(Ap:a.2≠b.2)(hr:(a.2<=h/\h<=b.2)\/(b.2<=h/\h<=a.2)):∃q s:Int,0<q/\0<=s/\s<=q/\q*a.2+s*(b.2-a.2)=q*h/\(s=0->h=a.2)/\(s=q->h=b.2):=by
 rcases ABB Ap with hl|hl
 .exact⟨b.2-a.2,h-a.2,U,U,U,AAb,U,U⟩
 .exact⟨a.2-b.2,a.2-h,U,U,U,AAb,U,U⟩
theorem Ub{a b:Pt}{h:Int}(hr:(a.2<=h/\h<b.2)\/(b.2<=h/\h<a.2)):∃q s:Int,0<q/\0<s/\s<q/\2*(q*a.2+s*(b.2-a.2))=q*(2*h+1):=by
 rcases hr with hl|hl
 .exact⟨2*(b.2-a.2),2*h+1-2*a.2,U,U,U,AAb⟩
 .exact⟨2*(a.2-b.2),2*a.2-(2*h+1),U,U,U,AAb⟩
theorem C4{r:List Pt}{h i:Int}(hs:AK r h i≠0):(yy r i<=h/\h<yy r (i+1))\/(yy r (i+1)<=h/\h<yy r i):=by
 unfold AK at hs;by_cases h1:yy r i<=h/\h<yy r (i+1)
 .exact .inl h1
 .by_cases h2:yy r (i+1)<=h/\h<yy r i
  .exact .inr h2
  .rw[AAj h1,AAj h2]at hs;exact absurd rfl hs
section
variable{r:List Pt}(S:A6 r)
include S
theorem A6.JS{h i j:Int}(Ap:(i-j)%(r.length)≠0)(hi:AK r h i≠0)(hj:AK r h j≠0):L r i j\/L r j i:=by
 obtain⟨q1,s1,p1,p2,p3,e1⟩:=Ub <|C4 hi;obtain⟨q2,s2,p4,p5,p6,e2⟩:=Ub <|C4 hj;have m1:=AAq p1 p4;have m2:=AAq p2 p4;have m3:=AAq p5 p1;have m4:=AB8 p3 p4;have m5:s2*q1<q1*q2:=by rw[ACX q1];exact AB8 p6 p1
 have ey:q1*q2*(AA r i).2+s1*q2*((AA r<|i+1).2-(AA r i).2)=q1*q2*(AA r j).2+s2*q1*((AA r<|j+1).2-(AA r j).2):=by
  have f1:2*(q1*q2*(AA r i).2+s1*q2*((AA r<|i+1).2-(AA r i).2))=q2*(2*(q1*(AA r i).2+s1*((AA r<|i+1).2-(AA r i).2))):=AAb
  have f2:2*(q1*q2*(AA r j).2+s2*q1*((AA r<|j+1).2-(AA r j).2))=q1*(2*(q2*(AA r j).2+s2*((AA r<|j+1).2-(AA r j).2))):=AAb
  rw[e1]at f1;rw[e2]at f2;lia
 rcases ABU (q1*q2*(AA r i).1+s1*q2*((AA r<|i+1).1-(AA r i).1)) (q1*q2*(AA r j).1+s2*q1*((AA r<|j+1).1-(AA r j).1))with hl|he|hg
 .exact .inl ⟨_,_,_,m1,U,U,U,U,ey,hl⟩
 .rcases S.share Ap m1 U U U U he ey with⟨_,z,_⟩|⟨_,z,_⟩<;>lia
 .exact .inr ⟨_,_,_,m1,U,U,U,U,ey.symm,hg⟩
theorem A6.off{m j:Int}(h0:(m-j)%(r.length)≠0)(h1:(m-j)%(r.length)≠1){q s:Int}(hq:0<q)(s0:0<=s)(s1:s<=q)(e2:q*(AA r j).2+s*((AA r<|j+1).2-(AA r j).2)=q*(AA r m).2):q*(AA r j).1+s*((AA r<|j+1).1-(AA r j).1)≠q*(AA r m).1:=by
 intro e1;rcases S.share h0 (s:=0) hq U U s0 s1 (by rw[e1];lia) (by rw[e2];lia)with⟨z,_⟩|⟨_,z,_⟩
 .exact h1 z
 .lia
theorem A6.Na{m i:Int}(h0:(m-i)%(r.length)≠0)(h1:(m-i)%(r.length)≠1)(Ap:yy r i≠yy r (i+1))(hr:(yy r i<=yy r m/\yy r m<=yy r (i+1))\/(yy r (i+1)<=yy r m/\yy r m<=yy r i)) : Lt (AA r i) (AA r<|i+1) (AA r m) (AA r m)\/Lt (AA r m) (AA r m) (AA r i) (AA r<|i+1):=by
 obtain⟨q,s,hq,s0,s1,e,_,_⟩:=LV Ap hr;rcases ABB (S.off h0 h1 hq s0 s1 e)with hl|hl
 .exact .inl ⟨q,s,0,hq,s0,s1,U,U,by unfold yy at e;rw[e];lia,U⟩
 .exact .inr ⟨q,0,s,hq,U,U,s0,s1,by unfold yy at e;rw[e];lia,U⟩
theorem A6.eW{h i:Int}(h1:AK r (h-1) i≠0)(h2:AK r h i≠0):Rr r h i=Rr r (h-1) i:=by
 have r1:=C4 h1;have r2:=C4 h2;have key:∀j:Int,ind (L r i j)*AK r h j=ind (L r i j)*AK r (h-1) j+(ind (yy r j=h/\Lt (AA r i) (AA r<|i+1) (AA r j) (AA r j))-ind (yy r (j+1)=h/\Lt (AA r i) (AA r<|i+1) (AA r<|j+1) (AA r<|j+1))):=by
  intro j;have hd:=QO r h j;by_cases Bm:(i-j)%(r.length)=0
  .have e1:=C6 Bm;have e2:=C6<|Bx Bm;have hL:¬ L r i j:=by
    rw[HK (i':=i) AAd (by rw[show j-i = -(i-j)by lia];exact ACp<|AEA.mpr<|ACq Bm)]
    exact FN r i (by
     have:yy r i≠yy r (i+1):=U
     exact this)
   rw[Ah hL,Ah U,Ah U];lia
  .have jS:yy r j=h->ind (yy r j=h/\Lt (AA r i) (AA r<|i+1) (AA r j) (AA r j))=ind (L r i j):=λz=>by
    rcases S.Na (by
     intro c;apply Bm;rw[show i-j = -(j-i)by lia];exact ACp<|AEA.mpr<|ACq c) (by
     intro c;have:=(S.next c).1;have:yy r j=yy r (i+1):=by unfold yy;rw[this]
     lia) U U with k|k
    .rw[Ax ⟨z,k⟩,Ax (show L r i j from LN k)]
    .have n1:=λc=>S.nc Bm c<|Pl k;rw[Ah n1,Ah λc=>n1<|LN c.2]
   have jT:yy r (j+1)=h->ind (yy r (j+1)=h/\Lt (AA r i) (AA r<|i+1) (AA r<|j+1) (AA r<|j+1))=ind (L r i j):=λz=>by
    rcases S.Na (m:=j+1) (i:=i) (by
     intro c;have:=C6 c;lia) (by
     intro c;apply Bm;rw[show j+1-i = -(i-j)+1 by lia]at c;have:(-(i-j)+1-1)%(r.length)=0:=by rw[ABz,c];simp
     rw[show -(i-j)+1-1 = -(i-j)by lia]at this;rw[show i-j = -(-(i-j))by lia];exact ACp<|AEA.mpr<|ACq this) U U with k|k
    .rw[Ax ⟨z,k⟩,Ax (show L r i j from M7 k)]
    .have n1:=λc=>S.nc Bm c<|T1 k;rw[Ah n1,Ah λc=>n1<|M7 c.2]
   have hs:AK r h j=AK r (h-1) j+(ind (yy r j=h)-ind (yy r (j+1)=h)):=U
   refine comb hs ?_ ?_
   .by_cases a1:yy r j=h
    .exact .inl ⟨Ax a1,jS a1⟩
    .exact .inr ⟨Ah a1,Ah λc=>a1 c.1⟩
   .by_cases a2:yy r (j+1)=h
    .exact .inl ⟨Ax a2,jT a2⟩
    .exact .inr ⟨Ah a2,Ah λc=>a2 c.1⟩
 unfold Rr;rw[Bz (g:=λj=>ind (L r i j)*AK r (h-1) j+(ind (yy r j=h/\Lt (AA r i) (AA r<|i+1) (AA r j) (AA r j))-ind (yy r (j+1)=h/\Lt (AA r i) (AA r<|i+1) (AA r<|j+1) (AA r<|j+1)))) λj _=>key j];rw[EY (λj=>ind (L r i j)*AK r (h-1) j) λj=>ind (yy r j=h/\Lt (AA r i) (AA r<|i+1) (AA r j) (AA r j))-ind (yy r (j+1)=h/\Lt (AA r i) (AA r<|i+1) (AA r<|j+1) (AA r<|j+1))];have ht:=IE (λj=>- ind (yy r j=h/\Lt (AA r i) (AA r<|i+1) (AA r j) (AA r j))) r.length;have hc:AA r (r.length)=AA r 0:=Az AAd;have hy:yy r (r.length)=yy r 0:=by unfold yy;rw[hc]
 simp only[hc,hy]at ht;lia
end
theorem QT{f:Int->Int}{n:Nat}(hn:0<n)(hp:∀a b:Int,(a-b)%(n)=0->f a=f b)(i:Int):AV (λm=>f<|i+m) n=AV f n:=by
 have h1:AV (λm=>f<|i+m) n=AV (λm=>f<|m+((i%(n)).toNat)) n:=Bz λm _=>hp _ _ (by
  rw[AAz<|ABC i (b:=(n)) U,show i+(m)-(m+i%(n))=i-i%n by lia];have:=ACH i n;have e:i-i%(n)=n*(i / n):=U
  rw[e];exact ACu _ _)
 rw[h1];exact VA f n (λx=>hp _ _ (by rw[show x+(n)-x=n by lia];exact AC9)) _
theorem KU{f:Int->Int}:∀{n:Nat},(∀m:Nat,m<n->f m=0)->AV f n=0
 |0,_=>rfl
 |n+1,h=>by rw[AV,KU λm hm=>h m U,h n U];rfl
theorem NW{f:Int->Int}{d:Nat}:∀{n:Nat},d<n->(∀m:Nat,m<n->m≠d->f m=0)->AV f n=f d
 |0,h,_=>U
 |n+1,h,hz=>by
  simp only[AV];by_cases hd:d=n
  .subst hd;rw[KU λm hm=>hz m U U];lia
  .rw[NW U λm hm Ap=>hz m U Ap,hz n U U];lia
theorem VC{f:Int->Int}{c d n:Nat}(hc:c<d)(hd:d<n)(hz:∀m:Nat,m<n->m≠c->m≠d->f m=0):AV f n=f c+f d:=by
 induction n with
 |zero=>lia
 |succ n ih=>
  simp only[AV];by_cases h:d=n
  .subst h;rw[NW hc λm hm Ap=>hz m U Ap U]
  .rw[ih U λm hm=>hz m U,hz n U U U];lia
theorem CJ{n a b:Int}(h:(a-b)%n=0):(b-a)%n=0:=by rw[show b-a = -(a-b)by lia];exact ACp<|AEA.mpr<|ACq h
theorem Dv{n a b:Int}(hn:1<n)(h:(a-b)%n=1):(a-1-b)%n=0:=by rw[show a-1-b=(a-b)-1 by lia,ABz,h,AAh U hn];rfl
structure Qo(r:List Pt)(i k h:Int):Prop where
 kk:k=i+1\/(k=i+2/\yy r (i+1)=yy r (i+2))
 hi:yy r (i+1)=h
 hk:yy r k=h
 ni:yy r i≠h
 nk:yy r (k+1)≠h
section
variable{r:List Pt}(S:A6 r){i k h:Int}(B:Qo r i k h)
include S B
theorem A6.ff{j:Int}(n1:(i-j)%(r.length)≠0)(n2:(k-j)%(r.length)≠0)(n3:(i+1-j)%(r.length)≠0){q s:Int}(hq:0<q)(s0:0<=s)(s1:s<=q)(e:q*(AA r j).2+s*((AA r<|j+1).2-(AA r j).2)=q*h) : (q*(AA r<|i+1).1<q*(AA r j).1+s*((AA r<|j+1).1-(AA r j).1)/\q*(AA r k).1<q*(AA r j).1+s*((AA r<|j+1).1-(AA r j).1))\/(q*(AA r j).1+s*((AA r<|j+1).1-(AA r j).1)<q*(AA r<|i+1).1/\q*(AA r j).1+s*((AA r<|j+1).1-(AA r j).1)<q*(AA r k).1):=by
 have h3:=S.l3;have hv:(AA r<|i+1).2=h:=B.hi;have hw:(AA r k).2=h:=B.hk;have o1:=S.off n3 (λc=>n1 (by have:=Dv U c;rw[show i+1-1-j=i-j by lia]at this;exact this)) hq s0 s1 (by rw[hv];exact e);rcases B.kk with rfl|⟨rfl,hh⟩
 .lia
 .have o2:=S.off n2 (λc=>n3 (by have:=Dv U c;rw[show i+2-1-j=i+1-j by lia]at this;exact this)) hq s0 s1 (by rw[hw];exact e);have Vw:∀g:Int,(g=1\/g = -1)->0<g*((AA r j).1*q+s*((AA r<|j+1).1-(AA r j).1)-q*(AA r<|i+1).1)->0<g*(q*(AA r<|i+2).1-((AA r j).1*q+s*((AA r<|j+1).1-(AA r j).1)))->False:=by
   intro g hg p1 p2;have hW:0<g*((AA r<|i+2).1-(AA r<|i+1).1):=by
    by_cases hc:0<g*((AA r<|i+2).1-(AA r<|i+1).1)
    .exact hc
    .have:=AAt (AAm hq) (U:g*((AA r<|i+2).1-(AA r<|i+1).1)<=0);lia
   have jD:i+1+1=i+2:=U
   have hz:(AA r<|i+2).2-(AA r<|i+1).2=0:=by rw[hv,hw];lia
   rcases S.share n3 (s:=g*((AA r j).1*q+s*((AA r<|j+1).1-(AA r j).1)-q*(AA r<|i+1).1)) (AAq hq hW) U (by
    lia) (AAo s0<|AAm hW) (AA5 s1<|AAm hW) AAb (by
    rw[jD,hz,ABf,ABG,hv];have:q*(g*((AA r<|i+2).1-(AA r<|i+1).1))*(AA r j).2+s*(g*((AA r<|i+2).1-(AA r<|i+1).1))*((AA r<|j+1).2-(AA r j).2)=(g*((AA r<|i+2).1-(AA r<|i+1).1))*(q*(AA r j).2+s*((AA r<|j+1).2-(AA r j).2)):=AAb
    simp only[this,e];grind)with⟨z,_⟩|⟨z,_⟩
   .apply n1;have:=Dv U z;rw[show i+1-1-j=i-j by lia]at this;exact this
   .apply n2;have:=Dv U z;have:=CJ this;rw[show i+1-(j-1)=i+2-j by lia]at this;exact this
  have a1:=Vw 1<|.inl rfl;have a2:=Vw (-1)<|.inr rfl;rw[ACX (AA r j).1 q]at a1 a2;generalize q*(AA r j).1+s*((AA r<|j+1).1-(AA r j).1)=X at *
  generalize q*(AA r<|i+1).1=V at *
  generalize q*(AA r<|i+2).1=W at *
  rcases ABB o1 with u|u<;>rcases ABB o2 with w|w
  .exact .inr ⟨u,w⟩
  .exact(a2 U U).elim
  .exact(a1 U U).elim
  .exact .inl ⟨u,w⟩
theorem A6.Rh{j:Int}(n1:(i-j)%(r.length)≠0)(n2:(k-j)%(r.length)≠0)(n3:(i+1-j)%(r.length)≠0){q s:Int}(hq:0<q)(s0:0<=s)(s1:s<=q)(e:q*(AA r j).2+s*((AA r<|j+1).2-(AA r j).2)=q*h) : ((q*(AA r<|i+1).1<q*(AA r j).1+s*((AA r<|j+1).1-(AA r j).1)/\q*(AA r k).1<q*(AA r j).1+s*((AA r<|j+1).1-(AA r j).1))/\L r i j/\L r k j)\/((q*(AA r j).1+s*((AA r<|j+1).1-(AA r j).1)<q*(AA r<|i+1).1/\q*(AA r j).1+s*((AA r<|j+1).1-(AA r j).1)<q*(AA r k).1)/\¬ L r i j/\¬ L r k j):=by
 have hv:(AA r<|i+1).2=h:=B.hi;have hw:(AA r k).2=h:=B.hk;rcases S.ff B n1 n2 n3 hq s0 s1 e with z|z
 .refine .inl ⟨z,T1 ⟨q,0,s,hq,U,U,s0,s1,by rw[e,hv];lia,U⟩,Pl ⟨q,0,s,hq,U,U,s0,s1,by rw[e,hw];lia,U⟩⟩
 .have l1:L r j i:=M7 ⟨q,s,0,hq,s0,s1,U,U,by rw[e,hv];lia,U⟩;have l2:L r j k:=LN ⟨q,s,0,hq,s0,s1,U,U,by rw[e,hw];lia,U⟩;exact .inr ⟨z,λc=>S.nc n1 c l1,λc=>S.nc n2 c l2⟩
theorem A6.Rg{j:Int}(n1:(i-j)%(r.length)≠0)(n2:(k-j)%(r.length)≠0)(n3:(i+1-j)%(r.length)≠0) : (ind (L r k j)*AK r h j=ind (L r i j)*AK r h j)/\(ind (L r k j)*AK r (h-1) j=ind (L r i j)*AK r (h-1) j)/\ind (L r i j)*AK r h j=ind (L r i j)*AK r (h-1) j+(ind (yy r j=h/\(AA r<|i+1).1<(AA r j).1/\(AA r k).1<(AA r j).1)-ind (yy r (j+1)=h/\(AA r<|i+1).1<(AA r<|j+1).1/\(AA r k).1<(AA r<|j+1).1)):=by
 have same:((yy r j<=h/\h<=yy r (j+1))\/(yy r (j+1)<=h/\h<=yy r j))->ind (L r k j)=ind (L r i j):=λhr=>by
  obtain⟨q,s,hq,s0,s1,e⟩:∃q s:Int,0<q/\0<=s/\s<=q/\q*(AA r j).2+s*((AA r<|j+1).2-(AA r j).2)=q*h:=by
   by_cases Ap:yy r j=yy r (j+1)
   .refine⟨1,0,U,U,U,?_⟩;have:(AA r j).2=h:=by show yy r j=h;lia
    rw[this];lia
   .obtain⟨q,s,a,b,c,d,_,_⟩:=LV Ap hr;exact⟨q,s,a,b,c,d⟩
  rcases S.Rh B n1 n2 n3 hq s0 s1 e with⟨_,a,b⟩|⟨_,a,b⟩
  .rw[Ax a,Ax b]
  .rw[Ah a,Ah b]
 refine⟨?_,?_,?_⟩
 .by_cases hz:AK r h j=0
  .rw[hz,ABf,ABf]
  .rw[same (by have:=C4 hz;lia)]
 .by_cases hz:AK r (h-1) j=0
  .rw[hz,ABf,ABf]
  .rw[same (by have:=C4 hz;lia)]
 .have hd:=QO r h j;refine comb (x:=ind<|yy r j=h) (y:=ind<|yy r (j+1)=h) U ?_ ?_
  .by_cases a1:yy r j=h
   .refine .inl ⟨Ax a1,?_⟩;rcases S.Rh B n1 n2 n3 (q:=1) (s:=0) U U U (by rw[show(AA r j).2=h from a1];lia)with⟨a,b,_⟩|⟨a,b,_⟩
    .rw[Ax b,Ax ⟨a1,U,U⟩]
    .rw[Ah b,Ah λc=>U]
   .exact .inr ⟨Ah a1,Ah λc=>a1 c.1⟩
  .by_cases a2:yy r (j+1)=h
   .refine .inl ⟨Ax a2,?_⟩;rcases S.Rh B n1 n2 n3 (q:=1) (s:=1) U U U (by rw[show(AA r<|j+1).2=h from a2];lia)with⟨a,b,_⟩|⟨a,b,_⟩
    .rw[Ax b,Ax ⟨a2,U,U⟩]
    .rw[Ah b,Ah λc=>U]
   .exact .inr ⟨Ah a2,Ah λc=>a2 c.1⟩
end
section
variable{r:List Pt}(S:A6 r){i k h:Int}(B:Qo r i k h)
include S B
theorem A6.Rf(j:Int):(i-j)%(r.length)=0\/(k-j)%(r.length)=0\/((i+1-j)%(r.length)=0/\yy r (i+1)=h/\yy r (i+1+1)=h/\AA r (i+1+1)=AA r k)\/((i-j)%(r.length)≠0/\(k-j)%(r.length)≠0/\(i+1-j)%(r.length)≠0):=by
 by_cases h1:(i-j)%(r.length)=0
 .exact .inl h1
 by_cases h2:(k-j)%(r.length)=0
 .exact .inr<|.inl h2
 by_cases h3:(i+1-j)%(r.length)=0
 .rcases B.kk with e|⟨e,f⟩
  .rw[e]at h2;exact absurd h3 h2
  .refine .inr (.inr<|.inl ⟨h3,B.hi,?_,?_⟩)
   .have:=B.hk;rw[e]at this;rw[show i+1+1=i+2 by lia];exact this
   .rw[e];congr 1;lia
 .exact .inr<|.inr<|.inr ⟨h1,h2,h3⟩
theorem A6.fZ:(i-k)%(r.length)≠0:=by
 have h3:=S.l3;intro c;have:=CJ c;rcases B.kk with e|⟨e,_⟩
 .rw[e,show i+1-i=1 by lia,AAh U U]at this;lia
 .rw[e,show i+2-i=2 by lia,AAh U U]at this;lia
theorem A6.aG(lo:yy r i<h/\h<yy r (k+1)\/h<yy r i/\yy r (k+1)<h):(yy r i<h->Rr r h k=Rr r (h-1) i)/\(h<yy r i->Rr r (h-1) k=Rr r h i):=by
 have ht:=IE (λj=>- ind (yy r j=h/\(AA r<|i+1).1<(AA r j).1/\(AA r k).1<(AA r j).1)) r.length;have hc:AA r (r.length)=AA r 0:=Az AAd;have hy:yy r (r.length)=yy r 0:=by unfold yy;rw[hc]
 simp only[hc,hy]at ht;have Mo:AV (λj=>ind (yy r j=h/\(AA r<|i+1).1<(AA r j).1/\(AA r k).1<(AA r j).1)-ind (yy r (j+1)=h/\(AA r<|i+1).1<(AA r<|j+1).1/\(AA r k).1<(AA r<|j+1).1)) r.length=0:=by lia
 have hi:=B.hi;have hk:=B.hk;have V6:∀j,(i-j)%(r.length)=0->ind (yy r j=h/\(AA r<|i+1).1<(AA r j).1/\(AA r k).1<(AA r j).1)=0/\ind (yy r (j+1)=h/\(AA r<|i+1).1<(AA r<|j+1).1/\(AA r k).1<(AA r<|j+1).1)=0:=λj z=>by have z':=CJ z;rw[Az<|Bx z',C6 z',C6<|Bx z'];exact⟨Ah λc=>B.ni c.1,Ah λc=>U⟩
 have V7:∀j,(k-j)%(r.length)=0->ind (yy r j=h/\(AA r<|i+1).1<(AA r j).1/\(AA r k).1<(AA r j).1)=0/\ind (yy r (j+1)=h/\(AA r<|i+1).1<(AA r<|j+1).1/\(AA r k).1<(AA r<|j+1).1)=0:=λj z=>by have z':=CJ z;rw[Az z',C6<|Bx z'];exact⟨Ah λc=>U,Ah λc=>B.nk c.1⟩
 have Te:∀j,(i-j)%(r.length)=0->ind (L r i j)=0:=λj z=>Ah (by rw[HK (i':=i) AAd<|CJ z];exact FN r i (by have:=B.ni;show yy r i≠yy r (i+1);lia))
 have Tf:∀j,(k-j)%(r.length)=0->ind (L r k j)=0:=λj z=>Ah (by rw[HK (i':=k) AAd<|CJ z];exact FN r k (by have:=B.nk;show yy r k≠yy r (k+1);lia))
 have O4:∀j,(i+1-j)%(r.length)=0->yy r (i+1+1)=h->AA r (i+1+1)=AA r k->(AK r h j=0/\AK r (h-1) j=0)/\ind (yy r j=h/\(AA r<|i+1).1<(AA r j).1/\(AA r k).1<(AA r j).1)=0/\ind (yy r (j+1)=h/\(AA r<|i+1).1<(AA r<|j+1).1/\(AA r k).1<(AA r<|j+1).1)=0:=λj z y2 e=>by
  have z':=CJ z;simp only[Fb z',Fb z',Az z',Az<|Bx z',C6 z'];refine⟨⟨?_,?_⟩,Ah λc=>U,Ah λc=>U⟩
  .unfold AK;rw[AAj U,AAj U]
  .unfold AK;rw[AAj U,AAj U]
 constructor
 .intro hl;have key:∀j:Int,ind (L r k j)*AK r h j=ind (L r i j)*AK r (h-1) j+(ind (yy r j=h/\(AA r<|i+1).1<(AA r j).1/\(AA r k).1<(AA r j).1)-ind (yy r (j+1)=h/\(AA r<|i+1).1<(AA r<|j+1).1/\(AA r k).1<(AA r<|j+1).1)):=λj=>by
   rcases S.Rf B j with z|z|⟨z,_,y2,e⟩|⟨z1,z2,z3⟩
   .obtain⟨g1,g2⟩:=V6 j z;rw[g1,g2,Te j z,Fb<|CJ z];have:AK r h i=0:=by unfold AK;rw[AAj U,AAj U]
    rw[this];lia
   .obtain⟨g1,g2⟩:=V7 j z;rw[g1,g2,Tf j z,Fb (h:=h-1)<|CJ z];have:AK r (h-1) k=0:=by unfold AK;rw[AAj U,AAj U]
    rw[this];lia
   .obtain⟨⟨s1,s2⟩,g1,g2⟩:=O4 j z y2 e;simp only[g1,g2,s1,s2];lia
   .obtain⟨a,b,c⟩:=S.Rg B z1 z2 z3;rw[a,c]
  unfold Rr;rw[Bz (g:=λj=>ind (L r i j)*AK r (h-1) j+(ind (yy r j=h/\(AA r<|i+1).1<(AA r j).1/\(AA r k).1<(AA r j).1)-ind (yy r (j+1)=h/\(AA r<|i+1).1<(AA r<|j+1).1/\(AA r k).1<(AA r<|j+1).1))) λj _=>key j,EY (λj=>ind (L r i j)*AK r (h-1) j) λj=>ind (yy r j=h/\(AA r<|i+1).1<(AA r j).1/\(AA r k).1<(AA r j).1)-ind (yy r (j+1)=h/\(AA r<|i+1).1<(AA r<|j+1).1/\(AA r k).1<(AA r<|j+1).1),Mo];lia
 .intro hg;have key:∀j:Int,ind (L r i j)*AK r h j=ind (L r k j)*AK r (h-1) j+(ind (yy r j=h/\(AA r<|i+1).1<(AA r j).1/\(AA r k).1<(AA r j).1)-ind (yy r (j+1)=h/\(AA r<|i+1).1<(AA r<|j+1).1/\(AA r k).1<(AA r<|j+1).1)):=λj=>by
   rcases S.Rf B j with z|z|⟨z,_,y2,e⟩|⟨z1,z2,z3⟩
   .obtain⟨g1,g2⟩:=V6 j z;rw[g1,g2,Te j z,Fb (h:=h-1)<|CJ z];have:AK r (h-1) i=0:=by unfold AK;rw[AAj U,AAj U]
    rw[this];lia
   .obtain⟨g1,g2⟩:=V7 j z;rw[g1,g2,Tf j z,Fb <|CJ z];have:AK r h k=0:=by unfold AK;rw[AAj U,AAj U]
    rw[this];lia
   .obtain⟨⟨s1,s2⟩,g1,g2⟩:=O4 j z y2 e;simp only[g1,g2,s1,s2];lia
   .obtain⟨a,b,c⟩:=S.Rg B z1 z2 z3;rw[b,c]
  unfold Rr;rw[Bz (f:=λj=>ind (L r i j)*AK r h j) (g:=λj=>ind (L r k j)*AK r (h-1) j+(ind (yy r j=h/\(AA r<|i+1).1<(AA r j).1/\(AA r k).1<(AA r j).1)-ind (yy r (j+1)=h/\(AA r<|i+1).1<(AA r<|j+1).1/\(AA r k).1<(AA r<|j+1).1))) λj _=>key j,EY (λj=>ind (L r k j)*AK r (h-1) j) λj=>ind (yy r j=h/\(AA r<|i+1).1<(AA r j).1/\(AA r k).1<(AA r j).1)-ind (yy r (j+1)=h/\(AA r<|i+1).1<(AA r<|j+1).1/\(AA r k).1<(AA r<|j+1).1),Mo];lia
theorem A6.cN{H:Int}(hH:H=h\/H=h-1):Rr r H i-Rr r H k=ind (L r i k)*AK r H k-ind (L r k i)*AK r H i:=by
 have h3:=S.l3;have hi:=B.hi;have hk:=B.hk;have Te:=Ah (FN r i (by have:=B.ni;show yy r i≠yy r (i+1);lia));have Tf:=Ah (FN r k (by have:=B.nk;show yy r k≠yy r (k+1);lia));have hp:∀a b:Int,(a-b)%(r.length)=0->ind (L r i a)*AK r H a-ind (L r k a)*AK r H a=ind (L r i b)*AK r H b-ind (L r k b)*AK r H b:=λa b z=>by rw[HK (i':=i) AAd z,HK (i':=k) AAd z,Fb z]
 have hd:Rr r H i-Rr r H k=AV (λj=>ind (L r i j)*AK r H j-ind (L r k j)*AK r H j) r.length:=by unfold Rr;have:=EY (λj=>ind (L r i j)*AK r H j-ind (L r k j)*AK r H j) (λj=>ind (L r k j)*AK r H j) r.length;lia
 simp only[hd,<-QT U hp i];have zero:∀m:Nat,m<r.length->(m:Int)≠0->i+(m)≠k->ind (L r i<|i+(m))*AK r H (i+(m))-ind (L r k<|i+(m))*AK r H (i+(m))=0:=λm hm m0 mk=>by
  have e0:(i-(i+(m)))%(r.length)≠0:=λc=>by have:=CJ c;rw[show i+(m)-i=m by lia,AAh U U]at this;lia
  have e1:(k-(i+(m)))%(r.length)≠0:=λc=>by
   have c':=CJ c;rcases B.kk with e|⟨e,_⟩
   .rw[e,AAh U U]at c';lia
   .by_cases Ss:(m:Int)=1
    .rw[e,Ss]at c';have:(-1:Int)%(r.length)=r.length-1:=by rw[show(-1:Int)=(r.length-1)+r.length*(-1)by lia,ABl,AAh U U]
     lia
    .rw[e,AAh U U]at c';lia
  rcases S.Rf B (i+(m))with z|z|⟨z,_,y2,_⟩|⟨z1,z2,z3⟩
  .exact absurd z e0
  .exact absurd z e1
  .have:AK r H (i+(m))=0:=by rw[Fb<|CJ z];unfold AK;rw[AAj U,AAj U]
   rw[this];lia
  .obtain⟨a,b,_⟩:=S.Rg B z1 z2 z3;rcases hH with rfl|rfl<;>lia
 have t0:ind (L r i<|i+(0))*AK r H (i+(0))-ind (L r k<|i+(0))*AK r H (i+(0)) = - (ind (L r k i)*AK r H i):=by lia
 have tk:ind (L r i k)*AK r H k-ind (L r k k)*AK r H k=ind (L r i k)*AK r H k:=U
 rcases B.kk with e|⟨e,_⟩
 .rw[VC (c:=0) (d:=1) U U λm hm m0 m1=>zero m hm U U];show ind (L r i<|i+(0))*AK r H (i+(0))-ind (L r k<|i+(0))*AK r H (i+(0))+(ind (L r i<|i+1)*AK r H (i+1)-ind (L r k<|i+1)*AK r H (i+1))=_;rw[t0,<-e,tk];lia
 .rw[VC (c:=0) (d:=2) U AAg λm hm m0 m1=>zero m hm U U];show ind (L r i<|i+(0))*AK r H (i+(0))-ind (L r k<|i+(0))*AK r H (i+(0))+(ind (L r i<|i+2)*AK r H (i+2)-ind (L r k<|i+2)*AK r H (i+2))=_;rw[t0,<-e,tk];lia
theorem A6.Z1{H:Int}(h1:AK r H i≠0)(h2:AK r H k≠0):(ind (L r i k)=1/\ind (L r k i)=0)\/(ind (L r i k)=0/\ind (L r k i)=1):=by
 have Ap:=S.fZ B;rcases S.JS Ap h1 h2 with z|z
 .exact .inl ⟨Ax z,Ah<|S.nc Ap z⟩
 .exact .inr ⟨Ah λc=>S.nc Ap c z,Ax z⟩
end
def cc(r:List Pt)(h i:Int):Int:=Rr r h i+ind (yy r i<yy r (i+1))
theorem gk{r:List Pt}{h i j:Int}(e:(i-j)%(r.length)=0):cc r h i=cc r h j:=by
 delta cc Rr
 simp only[C6 e,C6<|Bx e]
 congr 1
 exact Bz λm _=>by rw[HK e (AAd:((m:Int)-m)%(r.length)=0)]
theorem FF{r:List Pt}{h i:Int}(h1:yy r i<=h)(h2:h<yy r (i+1)):AK r h i=1:=AAl ⟨h1,h2⟩
theorem FE{r:List Pt}{h i:Int}(h1:yy r (i+1)<=h)(h2:h<yy r i):AK r h i = -1:=by unfold AK;rw[AAj U,AAl ⟨h1,h2⟩]
theorem KP{r:List Pt}{h i:Int}(hr:(yy r i<=h/\h<yy r (i+1))\/(yy r (i+1)<=h/\h<yy r i)):AK r h i≠0:=by
 rcases hr with z|z
 .rw[FF z.1 z.2];lia
 .rw[FE z.1 z.2];lia
theorem OZ{C:Nat->Prop}{N D:Nat->Int}(hD:∀j,C j->0<D j):∀n:Nat,(∃j,j<n/\C j)->∃e,e<n/\C e/\∀j,j<n->C j->N j*D e<=N e*D j
 |0,⟨j,h,_⟩=>U
 |n+1,⟨j,hj,hc⟩=>by
  by_cases hex:∃j,j<n/\C j
  .obtain⟨e,he,ce,hm⟩:=OZ hD n hex;by_cases hn:C n
   .by_cases hle:N n*D e<=N e*D n
    .exact⟨e,U,ce,λj hj cj=>by
      by_cases h:j=n
      .subst h;exact hle
      .exact hm j U cj⟩
    .refine⟨n,U,hn,λj hj cj=>?_⟩;by_cases h:j=n
     .subst h;exact ABp _
     .have m1:=AA5 (hm j U cj)<|AAm<|hD n hn;have m2:=AA5 (U:N e*D n<=N n*D e)<|AAm<|hD j cj;exact ABo U<|hD e ce
   .exact⟨e,U,ce,λj hj cj=>by
     by_cases h:j=n
     .subst h;exact absurd cj hn
     .exact hm j U cj⟩
  .have FT:j=n:=by
    by_cases h:j=n
    .exact h
    .exact absurd ⟨j,U,hc⟩ hex
   subst FT;exact⟨j,U,hc,λm hm cm=>by
    by_cases h:m=j
    .subst h;exact ABp _
    .exact absurd ⟨m,U,cm⟩ hex⟩
section
variable{r:List Pt}(S:A6 r)
include S
theorem A6.HX{h h' i:Int}(h1:AK r h i≠0)(h2:AK r h' i≠0):cc r h i=cc r h' i:=by
 have main:∀(m:Nat)(h:Int),AK r h i≠0->AK r (h+m) i≠0->cc r (h+m) i=cc r h i:=by
  intro m
  induction m with
  |zero=>simp
  |succ m ih=>
   intro h a b;have ra:=C4 a;have rb:=C4 b;have c:AK r (h+m) i≠0:=KP U;rw[<-ih h a c];have:=S.eW (by rw[show h+((m+1:Nat))-1=h+m by lia];exact c) b;unfold cc;simp only[this,show h+((m+1:Nat))-1=h+m by lia]
 rcases AB2 h h' with hl|hl
 .have:=main (h'-h).toNat h h1 (by rw[AAz U,show h+(h'-h)=h' by lia];exact h2);rw[AAz U,show h+(h'-h)=h' by lia]at this;exact this.symm
 .have:=main (h-h').toNat h' h2 (by rw[AAz U,show h'+(h-h')=h by lia];exact h1);rw[AAz U,show h'+(h-h')=h by lia]at this;exact this
theorem A6.WK{i k h:Int}(B:Qo r i k h){H1 H2:Int}(h1:AK r H1 i≠0)(h2:AK r H2 k≠0):cc r H1 i=cc r H2 k:=by
 have hi:=B.hi;have hk:=B.hk;rcases ABB B.ni with a|a<;>rcases ABB B.nk with b|b
 .-- a top
  have s1:AK r (h-1) i=1:=FF U U;have s2:AK r (h-1) k = -1:=FE U U;rw[S.HX h1 (h':=h-1) U,S.HX h2 (h':=h-1) U];have t:=S.cN B <|.inr rfl;have o:=S.Z1 B (H:=h-1) U U;rw[s1,s2]at t;unfold cc;rw[Ax U,Ah U];rcases o with⟨o1,o2⟩|⟨o1,o2⟩<;>rw[o1,o2]at t<;>lia
 .-- AAY
  have s1:AK r (h-1) i=1:=FF U U;have s2:AK r h k=1:=FF U U;rw[S.HX h1 (h':=h-1) U,S.HX h2 (h':=h) U];have t:=(S.aG B<|.inl ⟨a,b⟩).1 a;unfold cc;rw[Ax U,Ax U,t]
 .-- AAA
  have s1:AK r h i = -1:=FE U U;have s2:AK r (h-1) k = -1:=FE U U;rw[S.HX h1 (h':=h) U,S.HX h2 (h':=h-1) U];have t:=(S.aG B<|.inr ⟨a,b⟩).2 a;unfold cc;rw[Ah U,Ah U,t]
 .-- a fh
  have s1:AK r h i = -1:=FE U U;have s2:AK r h k=1:=FF U U;rw[S.HX h1 (h':=h) U,S.HX h2 (h':=h) U];have t:=S.cN B <|.inl rfl;rw[s1,s2]at t;unfold cc;rw[Ah U,Ax U];rcases(S.Z1 B (H:=h) U U)with⟨o1,o2⟩|⟨o1,o2⟩<;>rw[o1,o2]at t<;>lia
theorem A6.Xj{i:Int}(h:yy r i≠yy r (i+1)):∃H,AK r H i≠0:=by
 rcases ABB h with z|z
 .exact⟨yy r i,KP<|.inl ⟨U,U⟩⟩
 .exact⟨yy r<|i+1,KP<|.inr ⟨U,U⟩⟩
theorem A6.gm{i0 H0:Int}(h0:AK r H0 i0≠0):∀(m:Nat)(H:Int),AK r H (i0+m)≠0->cc r H (i0+m)=cc r H0 i0:=by
 intro m
 induction m using Nat.strongRecOn with
 |ind m ih=>
  intro H hs;cases m with
  |zero=>simp only[Int.natCast_zero,ABG]at hs ⊢;exact S.HX hs h0
  |succ m=>
   have rs:=C4 hs;have e1:i0+((m+1:Nat))=i0+m+1:=U
   rw[e1]at hs rs ⊢;by_cases hh:yy r (i0+m)=yy r (i0+m+1)
   .-- a level wall ahead of it
    cases m with
    |zero=>
     have r0:=C4 h0;lia
    |succ m=>
     have e2:i0+((m+1:Nat))=i0+m+1:=U
     rw[e2]at hh rs hs ⊢;have Ap:=λc=>S.hh (i0+m) c hh;obtain⟨H1,s1⟩:=S.Xj Ap;have:=ih m U H1 s1;rw[<-this];exact(S.WK ⟨.inr ⟨U,by rw[show i0+(m)+2=i0+m+1+1 by lia];exact hh⟩,rfl,hh.symm,Ap,U⟩ s1 hs).symm
   .obtain⟨H1,s1⟩:=S.Xj hh;have:=ih m U H1 s1;rw[<-this];exact(S.WK ⟨.inl rfl,rfl,rfl,hh,U⟩ s1 hs).symm
theorem A6.OA{i j H H':Int}(h1:AK r H i≠0)(h2:AK r H' j≠0):cc r H i=cc r H' j:=by
 have h3:=S.l3;have e:(i-(j+((i-j)%(r.length)).toNat))%(r.length)=0:=by
  rw[AAz<|ABC (i-j) (b:=(r.length)) U,show i-(j+(i-j)%(r.length))=(i-j)-(i-j)%r.length by lia];have:=ACH (i-j) r.length;have e':(i-j)-(i-j)%(r.length)=r.length*((i-j) / r.length):=AAc
  rw[e'];exact ACu _ _
 rw[gk e];exact S.gm h2 _ H (by rw[<-Fb e];exact h1)
end
theorem R8(r:List Pt)(h j:Int):∃z:Int×Int,AK r h j≠0->0<z.1/\0<z.2/\z.2<z.1/\2*(z.1*(AA r j).2+z.2*((AA r<|j+1).2-(AA r j).2))=z.1*(2*h+1):=by
 by_cases hs:AK r h j=0
 .exact⟨(0,0),λc=>absurd hs c⟩
 .obtain⟨q,s,a,b,c,d⟩:=Ub <|C4 hs;exact⟨(q,s),λ_=>⟨a,b,c,d⟩⟩
noncomputable def kD(r:List Pt)(h j:Int):Int:=(choose<|R8 r h j).1
noncomputable def kS(r:List Pt)(h j:Int):Int:=(choose<|R8 r h j).2
def kN(r:List Pt)(h j:Int):Int:=kD r h j*(AA r j).1+kS r h j*((AA r<|j+1).1-(AA r j).1)
theorem Pd{r:List Pt}{h j:Int}(hs:AK r h j≠0):0<kD r h j/\0<kS r h j/\kS r h j<kD r h j/\2*(kD r h j*(AA r j).2+kS r h j*((AA r<|j+1).2-(AA r j).2))=kD r h j*(2*h+1):=choose_spec (R8 r h j) hs
section
variable{r:List Pt}(S:A6 r)
include S
theorem A6.ZG{h i j:Int}(Ap:(i-j)%(r.length)≠0)(hi:AK r h i≠0)(hj:AK r h j≠0)(hL:L r i j):kN r h i*kD r h j<kN r h j*kD r h i:=by
 obtain⟨p1,p2,p3,e1⟩:=Pd hi;obtain⟨p4,p5,p6,e2⟩:=Pd hj;have m1:=AAq p1 p4;have m2:=AAq p2 p4;have m3:=AAq p5 p1;have m4:=AB8 p3 p4;have m5:kS r h j*kD r h i<kD r h i*kD r h j:=by rw[ACX<|kD r h i];exact AB8 p6 p1
 have ey:kD r h i*kD r h j*(AA r i).2+kS r h i*kD r h j*((AA r<|i+1).2-(AA r i).2)=kD r h i*kD r h j*(AA r j).2+kS r h j*kD r h i*((AA r<|j+1).2-(AA r j).2):=by
  have f1:2*(kD r h i*kD r h j*(AA r i).2+kS r h i*kD r h j*((AA r<|i+1).2-(AA r i).2))=kD r h j*(2*(kD r h i*(AA r i).2+kS r h i*((AA r<|i+1).2-(AA r i).2))):=AAb
  have f2:2*(kD r h i*kD r h j*(AA r j).2+kS r h j*kD r h i*((AA r<|j+1).2-(AA r j).2))=kD r h i*(2*(kD r h j*(AA r j).2+kS r h j*((AA r<|j+1).2-(AA r j).2))):=AAb
  rw[e1]at f1;rw[e2]at f2;lia
 have n1:kN r h i*kD r h j=kD r h i*kD r h j*(AA r i).1+kS r h i*kD r h j*((AA r<|i+1).1-(AA r i).1):=by unfold kN;grind
 have n2:kN r h j*kD r h i=kD r h i*kD r h j*(AA r j).1+kS r h j*kD r h i*((AA r<|j+1).1-(AA r j).1):=by unfold kN;grind
 simp only[n1,n2];rcases ABU (kD r h i*kD r h j*(AA r i).1+kS r h i*kD r h j*((AA r<|i+1).1-(AA r i).1)) (kD r h i*kD r h j*(AA r j).1+kS r h j*kD r h i*((AA r<|j+1).1-(AA r j).1))with hl|he|hg
 .exact hl
 .rcases S.share Ap m1 U U U U he ey with⟨_,z,_⟩|⟨_,z,_⟩<;>lia
 .exact absurd (show L r j i from⟨_,_,_,m1,U,U,U,U,ey.symm,hg⟩) (S.nc Ap hL)
theorem A6.v9{h j:Int}(hj:AK r h j≠0):∃e:Int,AK r h e≠0/\Rr r h e=0:=by
 have h3:=S.l3;have b:=AA3 j (b:=(r.length)) U;have CM:AK r h (((j%(r.length)).toNat))≠0:=by
  rw[AAz<|ABC j (b:=(r.length)) U,Fb (by
   have:=ACH j r.length;have e':j%(r.length)-j=r.length*(-(j / r.length)):=AAb
   rw[e'];exact ACu _ _)]
  exact hj
 obtain⟨e,he,ce,hm⟩:=OZ (N:=λm=>kN r h<|m) (λm hm=>(Pd hm).1) r.length ⟨_,U,CM⟩;refine⟨e,ce,KU λm CN=>?_⟩;by_cases hs:AK r h (m)=0
 .rw[hs,ABf]
 .have:¬ L r (e) (m):=λc=>by
   by_cases Jy:((e:Int)-m)%(r.length)=0
   .rw[HK (i':=(e)) AAd<|CJ Jy]at c;exact FN r e (by have:=C4 ce;show yy r e≠yy r (e+1);lia) c
   .have k1:=S.ZG Jy ce hs c;have k2:=hm m CN hs;lia
  rw[Ah this];lia
theorem A6.MH{h j:Int}(hj:AK r h j≠0):cc r h j=0\/cc r h j=1:=by
 obtain⟨e,he,hz⟩:=S.v9 hj;rw[S.OA hj he];unfold cc;rw[hz];by_cases hu:yy r e<yy r (e+1)
 .rw[Ax hu];lia
 .rw[Ah hu];lia
end
def fw(a b p:Pt):Int:=(if a.2<=p.2/\p.2<b.2/\AG a b p>0 then 1 else 0)-(if b.2<=p.2/\p.2<a.2/\AG a b p<0 then 1 else 0)
def W(r:List Pt)(p:Pt):Int:=AV (λj=>fw (AA r j) (AA r<|j+1) p) r.length
theorem Za{a b p:Pt}(h:Lt p p a b):∃q x:Int,0<q/\0<x/\q*AG a b p=(b.2-a.2)*x:=by
 obtain⟨q,s,t,hq,_,_,_,_,e,l⟩:=h;refine⟨q,q*a.1+t*(b.1-a.1)-(q*p.1+s*(p.1-p.1)),hq,U,?_⟩;have e':q*(p.2-a.2)=t*(b.2-a.2):=AAb
 have:q*AG a b p=(b.1-a.1)*(q*(p.2-a.2))-(b.2-a.2)*(q*(p.1-a.1)):=by unfold AG;grind
 simp only[this,e'];grind
theorem X4{r:List Pt}{p:Pt}{j:Int}:fw (AA r j) (AA r<|j+1) p=AK r p.2 j*ind (Lt p p (AA r j)<|AA r<|j+1):=by
 have up:yy r j<yy r (j+1)->yy r j<=p.2->p.2<=yy r (j+1)->(Lt p p (AA r j) (AA r<|j+1)↔AG (AA r j) (AA r<|j+1) p>0):=λh1 h2 h3=>by
  constructor
  .intro h;obtain⟨q,x,hq,hx,e⟩:=Za h;have:=AAq (show 0<(AA r<|j+1).2-(AA r j).2 by unfold yy at h1;lia) hx;by_cases hc:AG (AA r j) (AA r<|j+1) p>0
   .exact hc
   .have:=AAt (AAm hq) (U:AG (AA r j) (AA r<|j+1) p<=0);lia
  .intro h;unfold yy at h1 h2 h3;exact⟨(AA r<|j+1).2-(AA r j).2,0,p.2-(AA r j).2,U,U,U,U,U,AAb,by unfold AG at h;grind⟩
 have dn:yy r (j+1)<yy r j->yy r (j+1)<=p.2->p.2<=yy r j->(Lt p p (AA r j) (AA r<|j+1)↔AG (AA r j) (AA r<|j+1) p<0):=λh1 h2 h3=>by
  constructor
  .intro h;obtain⟨q,x,hq,hx,e⟩:=Za h;have:=Int.mul_neg_of_neg_of_pos (show(AA r<|j+1).2-(AA r j).2<0 by unfold yy at h1;lia) hx;by_cases hc:AG (AA r j) (AA r<|j+1) p<0
   .exact hc
   .have:=AAo (AAm hq) (U:0<=AG (AA r j) (AA r<|j+1) p);lia
  .intro h;unfold yy at h1 h2 h3;exact⟨(AA r j).2-(AA r<|j+1).2,0,(AA r j).2-p.2,U,U,U,U,U,AAb,by unfold AG at h;grind⟩
 unfold fw;by_cases h1:yy r j<=p.2/\p.2<yy r (j+1)
 .rw[FF h1.1 h1.2,AAj (show ¬ ((AA r<|j+1).2<=p.2/\p.2<(AA r j).2/\AG (AA r j) (AA r<|j+1) p<0)by unfold yy at h1;lia)];by_cases hs:AG (AA r j) (AA r<|j+1) p>0
  .rw[AAl ⟨h1.1,h1.2,hs⟩,Ax<|(up U U U).mpr hs];rfl
  .rw[AAj λc=>hs c.2.2,Ah λc=>hs<|(up U U U).mp c];rfl
 .by_cases h2:yy r (j+1)<=p.2/\p.2<yy r j
  .rw[FE h2.1 h2.2,AAj (show ¬ ((AA r j).2<=p.2/\p.2<(AA r<|j+1).2/\AG (AA r j) (AA r<|j+1) p>0)by unfold yy at h2;lia)];by_cases hs:AG (AA r j) (AA r<|j+1) p<0
   .rw[AAl ⟨h2.1,h2.2,hs⟩,Ax<|(dn U U U).mpr hs];rfl
   .rw[AAj λc=>hs c.2.2,Ah λc=>hs<|(dn U U U).mp c];rfl
  .have:AK r p.2 j=0:=by unfold AK;rw[AAj h1,AAj h2]
   rw[this,AAj λc=>h1 ⟨c.1,c.2.1⟩,AAj λc=>h2 ⟨c.1,c.2.1⟩];lia
section
variable{r:List Pt}(S:A6 r){p:Pt}
include S
theorem A6.zA{e j:Int}(he:AK r p.2 e≠0)(hj:AK r p.2 j≠0)(h1:Lt p p (AA r e)<|AA r<|e+1)(h2:L r e j):Lt p p (AA r j)<|AA r<|j+1:=by
 have Ap:=λc=>by rw[HK (i':=e) AAd<|CJ c]at h2;exact FN r e (by have:=C4 he;show yy r e≠yy r (e+1);lia) h2
 have rj:=C4 hj;obtain⟨q,s,hq,s0,s1,ey,_,_⟩:=LV (h:=p.2) (by show yy r j≠yy r (j+1);lia) (by unfold yy at rj;lia);rcases AEX (q*p.1) (q*(AA r j).1+s*((AA r<|j+1).1-(AA r j).1))with hl|hg
 .exact⟨q,0,s,hq,U,U,s0,s1,by rw[ey];lia,U⟩
 .exfalso;obtain⟨q',s',t',K5,_,_,t0,t1,ey',l'⟩:=h1;have ji:q'*(AA r e).2+t'*((AA r<|e+1).2-(AA r e).2)=q'*p.2:=AAb
  have l2:q'*p.1<q'*(AA r e).1+t'*((AA r<|e+1).1-(AA r e).1):=AAb
  have m1:=AAv hg<|AAm K5;have m2:=ACa l2 hq;refine S.nc Ap h2 ⟨q*q',s*q',t'*q,AAq hq K5,AAo s0<|AAm K5,AA5 s1<|AAm K5,AAo t0<|AAm hq,by rw[ACX q];exact AA5 t1<|AAm hq,?_,?_⟩
  .have a1:q*q'*(AA r j).2+s*q'*((AA r<|j+1).2-(AA r j).2)=q'*(q*(AA r j).2+s*((AA r<|j+1).2-(AA r j).2)):=AAb
   have a2:q*q'*(AA r e).2+t'*q*((AA r<|e+1).2-(AA r e).2)=q*(q'*(AA r e).2+t'*((AA r<|e+1).2-(AA r e).2)):=AAb
   simp only[a1,a2,ey,ji];grind
  .lia
theorem A6.once:W r p=0\/∃e:Int,AK r p.2 e≠0/\((yy r e<yy r (e+1)/\W r p=cc r p.2 e)\/(yy r (e+1)<yy r e/\W r p=cc r p.2 e-1)):=by
 have hW:W r p=AV (λj=>AK r p.2 j*ind (Lt p p (AA r j)<|AA r<|j+1)) r.length:=Bz λj _=>X4;by_cases hex:∃j:Nat,j<r.length/\(AK r p.2 (j)≠0/\Lt p p (AA r<|j) (AA r<|(j)+1))
 .right;obtain⟨e,he,⟨ce,le⟩,hm⟩:=OZ (N:=λm=>- kN r p.2 (m)) (λm hm=>(Pd hm.1).1) r.length hex;have re:=C4 ce;have Td:=FN r (e) (by show yy r e≠yy r (e+1);lia);have key:∀m:Nat,m<r.length->AK r p.2 (m)*ind (Lt p p (AA r<|m)<|AA r<|(m)+1)=ind (L r (e)<|m)*AK r p.2 (m)+AK r p.2 (m)*ind (m=e):=λm CN=>by
   by_cases hs:AK r p.2 (m)=0
   .rw[hs];lia
   .by_cases F1:m=e
    .subst F1;rw[Ax le,Ah Td,Ax rfl];lia
    .rw[Ah F1];have Jy:((e:Int)-m)%(r.length)≠0:=λc=>by
      rcases AB2 (e) m with z|z
      .have c':=CJ c;rw[AAh U U]at c';lia
      .rw[AAh U U]at c;lia
     by_cases hl:L r (e)<|m
     .rw[Ax hl,Ax<|S.zA ce hs le hl];lia
     .have Gm:L r (m)<|e:=by
       rcases S.JS Jy ce hs with z|z
       .exact absurd z hl
       .exact z
      have hn:¬ Lt p p (AA r<|m) (AA r<|(m)+1):=λc=>by have k1:=S.ZG (λz=>Jy<|CJ z) hs ce Gm;have k2:=hm m CN ⟨hs,c⟩;simp only[ADW,ADW]at k2;lia
      rw[Ah hl,Ah hn];lia
  have PB:W r p=Rr r p.2 e+AK r p.2 e:=by
   rw[hW,Bz (g:=λj=>ind (L r (e) j)*AK r p.2 j+AK r p.2 j*ind (j=(e))) λm CN=>by
    rw[key m CN]
    congr 2
    by_cases h:m=e
    .rw[Ax h,Ax U]
    .rw[Ah h,Ah U]]
   rw[EY (λj=>ind (L r (e) j)*AK r p.2 j) λj=>AK r p.2 j*ind (j=(e))];rw[NW (f:=λj=>AK r p.2 j*ind (j=(e))) he λm _ Ap=>by rw[Ah U];lia];rw[Ax rfl,AEk]
   rfl
  refine⟨e,ce,?_⟩;unfold cc;rcases re with z|z
  .rw[FF z.1 z.2]at PB;exact .inl ⟨U,by rw[Ax U];lia⟩
  .rw[FE z.1 z.2]at PB;exact .inr ⟨U,by rw[Ah U];lia⟩
 .left;rw[hW];refine KU λm hm=>?_;by_cases hs:AK r p.2 (m)=0
  .lia
  .rw[Ah λc=>hex ⟨m,hm,hs,c⟩];lia
theorem A6.ee : -1<=W r p/\W r p<=1:=by
 rcases S.once (p:=p)with h|⟨e,he,h|h⟩
 .lia
 .have:=S.MH he;lia
 .have:=S.MH he;lia
end
theorem VB(f:Int->Int->Int)(n:Nat):∀m:Nat,AV (λi=>AV (λj=>f i j) n) m=AV (λj=>AV (λi=>f i j) m) n
 |0=>(KU λ_ _=>rfl).symm
 |m+1=>by rw[AV,VB f n m];have:=EY (λj=>AV (λi=>f i j) m) (λj=>f m j) n;exact this.symm
theorem U9{f:Int->Int}:∀{n:Nat},(∀i:Nat,i<n->f i<=0)->AV f n<=0
 |0,_=>ABp _
 |n+1,h=>by have:=U9 (n:=n) λi hi=>h i U;have:=h n U;simp only[AV];lia
theorem steps(A x:Int):∀m:Nat,A<=x->x<=A+m->x=A+AV (λt=>ind<|x>A+t) m
 |0,h1,h2=>by simp[AV];lia
 |m+1,h1,h2=>by
  rw[AV];by_cases h:x<=A+m
  .have:=steps A x m h1 h;rw[Ah U];lia
  .rw[Ax U];have:=by
    have Bf:∀k:Nat,k<=m->AV (λt=>ind<|x>A+t) k=k:=by
     intro k
     induction k with
     |zero=>intro _;rfl
     |succ k ih=>
      intro hk;rw[AV,ih U,Ax U];lia
    exact Bf m<|AAw _
   rw[this];lia
theorem fD{n m:Nat}{s x:Int->Int}{A:Int}(hx:∀j:Nat,j<n->s j≠0->A<=x j/\x j<=A+m)(h0:AV s n=0)(hw:∀t:Int,AV (λj=>s j*ind (x j>t)) n<=0):AV (λj=>s j*x j) n<=0:=by
 have e1:AV (λj=>s j*x j) n=AV (λj=>A*s j+AV (λt=>s j*ind (x j>A+t)) m) n:=Bz λj hj=>by
  by_cases hs:s j=0
  .rw[hs,KU λt _=>U];lia
  .have:=steps A (x j) m (hx j hj hs).1 (hx j hj hs).2;rw[NV (s j) λt=>ind<|x j>A+t];generalize AV (λt=>ind<|x j>A+t) m=z at *
   rw[this];grind
 simp only[e1,EY (λj=>A*s j) λj=>AV (λt=>s j*ind (x j>A+t)) m,NV A s,h0];rw[<-(VB (λt j=>s j*ind (x j>A+t)) n m)];have:=U9 (f:=λt=>AV (λj=>s j*ind (x j>A+t)) n) (n:=m) λt _=>hw<|A+t;lia
noncomputable def KI(f:Nat->Int):Nat->Int
 |0=>1
 |n+1=>KI f n*f n
theorem aW{f:Nat->Int}:∀{n:Nat},(∀i,i<n->0<f i)->0<KI f n
 |0,_=>by show(0)<1;decide
 |n+1,h=>AAq (aW λi hi=>h i U)<|h n U
theorem aV{f:Nat->Int}{j:Nat}:∀{n:Nat},j<n->(∀i,i<n->0<f i)->∃k,0<k/\KI f n=f j*k
 |0,h,_=>U
 |n+1,h,hp=>by
  by_cases hj:j=n
  .subst hj;exact⟨KI f j,aW λi hi=>hp i U,by rw[KI,ACX]⟩
  .obtain⟨k,hk,e⟩:=aV (j:=j) (n:=n) U λi hi=>hp i U
   exact⟨k*f n,AAq hk<|hp n U,by rw[KI,e,Int.mul_assoc]⟩
def eD(r:List Pt)(j:Int):Int:=if yy r j<yy r (j+1)then 2*(yy r (j+1)-yy r j)else if yy r (j+1)<yy r j then 2*(yy r j-yy r (j+1))else 1
def eS(r:List Pt)(h j:Int):Int:=if yy r j<yy r (j+1)then 2*h+1-2*yy r j else 2*yy r j-(2*h+1)
def eN(r:List Pt)(h j:Int):Int:=eD r j*(AA r j).1+eS r h j*((AA r<|j+1).1-(AA r j).1)
theorem OL(r:List Pt)(j:Int):0<eD r j:=by
 unfold eD;split
 .lia
 .split<;>lia
theorem XO{r:List Pt}{h j:Int}(hs:AK r h j≠0):0<eD r j/\0<eS r h j/\eS r h j<eD r j/\2*(eD r j*(AA r j).2+eS r h j*((AA r<|j+1).2-(AA r j).2))=eD r j*(2*h+1):=by
 delta eD eS
 rcases(C4 hs)with z|z
 .rw[AAl U,AAl U];unfold yy at *
  refine⟨U,U,U,AAb⟩
 .rw[AAj U,AAl U,AAj U];unfold yy at *
  refine⟨U,U,U,AAb⟩
def IT(r:List Pt):Int:=KI (λj=>eD r (j:Int)) r.length
theorem Xi(r:List Pt)(j:Nat):∃k,j<r.length->0<k/\IT r=eD r (j)*k:=by
 by_cases h:j<r.length
 .obtain⟨k,a,b⟩:=aV h λi _=>OL r i
  exact⟨k,λ_=>⟨a,b⟩⟩
 .exact⟨0,λc=>absurd c h⟩
noncomputable def kj(r:List Pt)(j:Nat):Int:=choose<|Xi r j
theorem Pf{r:List Pt}{j:Nat}(h:j<r.length):0<kj r j/\IT r=eD r (j)*kj r j:=choose_spec (Xi r j) h
def xk(r:List Pt)(h:Int)(j:Nat):Int:=kj r j*eN r h (j:Int)
section
variable{r:List Pt}(S:A6 r)
include S
theorem A6.half_lt{h i j:Int}(Ap:(i-j)%(r.length)≠0)(hi:AK r h i≠0)(hj:AK r h j≠0)(hL:L r i j):eN r h i*eD r j<eN r h j*eD r i:=by
 obtain⟨p1,p2,p3,e1⟩:=XO hi;obtain⟨p4,p5,p6,e2⟩:=XO hj;have m1:=AAq p1 p4;have m2:=AAq p2 p4;have m3:=AAq p5 p1;have m4:=AB8 p3 p4;have m5:eS r h j*eD r i<eD r i*eD r j:=by rw[ACX<|eD r i];exact AB8 p6 p1
 have ey:eD r i*eD r j*(AA r i).2+eS r h i*eD r j*((AA r<|i+1).2-(AA r i).2)=eD r i*eD r j*(AA r j).2+eS r h j*eD r i*((AA r<|j+1).2-(AA r j).2):=by
  have f1:2*(eD r i*eD r j*(AA r i).2+eS r h i*eD r j*((AA r<|i+1).2-(AA r i).2))=eD r j*(2*(eD r i*(AA r i).2+eS r h i*((AA r<|i+1).2-(AA r i).2))):=AAb
  have f2:2*(eD r i*eD r j*(AA r j).2+eS r h j*eD r i*((AA r<|j+1).2-(AA r j).2))=eD r i*(2*(eD r j*(AA r j).2+eS r h j*((AA r<|j+1).2-(AA r j).2))):=AAb
  rw[e1]at f1;rw[e2]at f2;lia
 have n1:eN r h i*eD r j=eD r i*eD r j*(AA r i).1+eS r h i*eD r j*((AA r<|i+1).1-(AA r i).1):=by unfold eN;grind
 have n2:eN r h j*eD r i=eD r i*eD r j*(AA r j).1+eS r h j*eD r i*((AA r<|j+1).1-(AA r j).1):=by unfold eN;grind
 simp only[n1,n2];rcases ABU (eD r i*eD r j*(AA r i).1+eS r h i*eD r j*((AA r<|i+1).1-(AA r i).1)) (eD r i*eD r j*(AA r j).1+eS r h j*eD r i*((AA r<|j+1).1-(AA r j).1))with hl|he|hg
 .exact hl
 .rcases S.share Ap m1 U U U U he ey with⟨_,z,_⟩|⟨_,z,_⟩<;>lia
 .exact absurd (show L r j i from⟨_,_,_,m1,U,U,U,U,ey.symm,hg⟩) (S.nc Ap hL)
theorem A6.dJ{h:Int}{i j:Nat}(CT:i<r.length)(CM:j<r.length)(Bm:i≠j)(hi:AK r h (i)≠0)(hj:AK r h (j)≠0)(hL:L r (i)<|j):xk r h i<xk r h j:=by
 have Ap:((i:Int)-j)%(r.length)≠0:=λc=>by
  rcases AB2 (i) j with z|z
  .have c':=CJ c;rw[AAh U U]at c';lia
  .rw[AAh U U]at c;lia
 obtain⟨a1,a2⟩:=Pf CT;obtain⟨b1,b2⟩:=Pf CM;have d1:=OL r<|i;have hK:0<IT r:=by rw[a2];exact AAq d1 a1
 have m:=ACa (S.half_lt Ap hi hj hL) hK;have e1:IT r*(eN r h i*eD r j)=(eD r i*eD r j)*xk r h i:=by rw[a2];unfold xk;grind
 have e2:IT r*(eN r h j*eD r i)=(eD r i*eD r j)*xk r h j:=by rw[b2];unfold xk;grind
 simp only[e1,e2]at m;exact ADE m<|AAm<|AAq d1<|OL r<|j
theorem wj(r:List Pt)(h j:Int):AK r h j=ind (yy r j<=h)-ind (yy r (j+1)<=h):=by
 delta AK ind
 generalize yy r (j+1)=b
 (repeat' split)<;>lia
theorem A6.oG{h:Int}(hc:∀j:Int,AK r h j≠0->cc r h j=0):AV (λj=>AK r h j*xk r h j.toNat) r.length<=0:=by
 have h0:AV (AK r h) r.length=0:=by have ht:=IE (λj=>- ind (yy r j<=h)) r.length;have hy:yy r (r.length)=yy r 0:=C6 AAd;rw[hy]at ht;rw[Bz (g:=λj=>- ind (yy r (j+1)<=h) - - ind (yy r j<=h)) λj _=>by rw[wj S];lia,ht];lia
 obtain⟨A,m,hb⟩:∃(A:Int)(m:Nat),∀j:Nat,j<r.length->A<=xk r h j/\xk r h j<=A+m:=by
  have:∀n:Nat,∃b:Int,0<=b/\∀j:Nat,j<n->-b<=xk r h j/\xk r h j<=b:=by
   intro n
   induction n with
   |zero=>exact⟨0,U,λj hj=>U⟩
   |succ n ih=>
    obtain⟨b,b0,hb⟩:=ih;refine⟨b+(xk r h n).natAbs,U,λj hj=>?_⟩;by_cases FT:j=n
    .subst FT;lia
    .have:=hb j U;lia
  obtain⟨b,b0,hb⟩:=this r.length;exact⟨-b,(2*b).toNat,λj hj=>by have:=hb j hj;lia⟩
 refine fD (λj hj _=>by exact hb j hj) h0 λt=>?_;by_cases hex:∃j:Nat,j<r.length/\(AK r h (j)≠0/\xk r h j>t)
 .obtain⟨e,he,⟨ce,le⟩,hm⟩:=OZ (N:=λm=>- xk r h m) (D:=λ_=>1) (λ_ _=>AAe) r.length hex;have re:=C4 ce;have Td:=FN r (e) (by show yy r e≠yy r (e+1);lia);have key:∀m:Nat,m<r.length->AK r h (m)*ind (xk r h ((m:Int)).toNat>t)=ind (L r (e)<|m)*AK r h (m)+AK r h (m)*ind ((m:Int)=(e)):=λm CN=>by
   rw[ADq];by_cases hs:AK r h (m)=0
   .rw[hs];lia
   .by_cases F1:m=e
    .subst F1;rw[Ax le,Ah Td,Ax rfl];lia
    .rw[Ah (U:¬ (m:Int)=(e))];have Jy:((e:Int)-m)%(r.length)≠0:=λc=>by
      rcases AB2 (e) m with z|z
      .have c':=CJ c;rw[AAh U U]at c';lia
      .rw[AAh U U]at c;lia
     by_cases hl:L r (e)<|m
     .have:=S.dJ he CN (λz=>F1 z.symm) ce hs hl;simp only[Ax hl,Ax (U:xk r h m>t)];lia
     .have Gm:L r (m)<|e:=by
       rcases S.JS Jy ce hs with z|z
       .exact absurd z hl
       .exact z
      have k1:=S.dJ CN he F1 hs ce Gm;have hn:¬ xk r h m>t:=λc=>by have k2:=hm m CN ⟨hs,c⟩;lia
      rw[Ah hl,Ah hn];lia
  have PB:AV (λj=>AK r h j*ind (xk r h j.toNat>t)) r.length=Rr r h e+AK r h e:=by
   rw[Bz (g:=λj=>ind (L r (e) j)*AK r h j+AK r h j*ind (j=(e))) λm CN=>key m CN];rw[EY (λj=>ind (L r (e) j)*AK r h j) λj=>AK r h j*ind (j=(e))];rw[NW (f:=λj=>AK r h j*ind (j=(e))) he λm _ Ap=>by rw[Ah U];lia];rw[Ax rfl,AEk]
   rfl
  have Ek:=hc e ce;unfold cc at Ek;rw[PB];rcases re with z|z
  .rw[FF z.1 z.2];rw[Ax U]at Ek;lia
  .rw[FE z.1 z.2];rw[Ah U]at Ek;lia
 .refine ADN<|KU λm hm=>?_;rw[ADq];by_cases hs:AK r h (m)=0
  .lia
  .rw[Ah λc=>hex ⟨m,hm,hs,c⟩];lia
end
theorem jO{r:List Pt}{j:Nat}(hj:j<r.length){lo:Int}(Ow:lo<=yy r j/\lo<=yy r (j+1)):∀m:Nat,∃k:Int,(yy r (j)<yy r (j+1)->k=min (max (lo+m-yy r j) 0) (yy r (j+1)-yy r j))/\(yy r ((j)+1)<yy r j->k=min (max (lo+m-yy r (j+1)) 0) (yy r j-yy r (j+1)))/\(yy r (j)<yy r (j+1)->AV (λt=>AK r (lo+t) j*xk r (lo+t) j) m=kj r j*(2*(yy r (j+1)-yy r j)*(AA r j).1*k+k*k*((AA r<|j+1).1-(AA r j).1)))/\
 (yy r ((j)+1)<yy r j->AV (λt=>AK r (lo+t) j*xk r (lo+t) j) m = - (kj r j*(2*(yy r j-yy r (j+1))*(AA r j).1*k+(2*(yy r j-yy r (j+1))*k-k*k)*((AA r<|j+1).1-(AA r j).1))))/\
 (yy r (j)=yy r (j+1)->AV (λt=>AK r (lo+t) j*xk r (lo+t) j) m=0):=by
 intro m
 induction m with
 |zero=>
  refine⟨0,λ_=>U,λ_=>U,λ_=>?_,λ_=>?_,λ_=>rfl⟩
  .show(0)=_;grind
  .show(0)=_;grind
 |succ m ih=>
  obtain⟨k,k1,k2,e1,e2,e3⟩:=ih;rcases ABU (yy r<|j) (yy r<|j+1)with hl|he|hg
  .have e1:=e1 hl;refine⟨min (max (lo+((m+1:Nat))-yy r j) 0)<|yy r (j+1)-yy r j,λ_=>rfl,λz=>U,λ_=>?_,λz=>U,λz=>U⟩;rw[AV,e1];by_cases hc:yy r (j)<=lo+m/\lo+m<yy r (j+1)
   .rw[FF hc.1 hc.2,show min (max (lo+((m+1:Nat))-yy r j) 0) (yy r (j+1)-yy r j)=k+1 by lia];have hx:xk r (lo+m) j=kj r j*(2*(yy r (j+1)-yy r j)*(AA r j).1+(2*k+1)*((AA r<|j+1).1-(AA r j).1)):=by
     delta xk eN eD eS
     rw[AAl hl,AAl hl]
     congr 3;lia
    grind
   .have:AK r (lo+m) j=0:=by unfold AK;rw[AAj hc,AAj U]
    rw[this,show min (max (lo+((m+1:Nat))-yy r j) 0) (yy r (j+1)-yy r j)=k by lia];lia
  .refine⟨0,λz=>U,λz=>U,λz=>U,λz=>U,λ_=>?_⟩;rw[AV,e3 he];have:AK r (lo+m) j=0:=by unfold AK;rw[AAj U,AAj U]
   lia
  .refine⟨min (max (lo+((m+1:Nat))-yy r (j+1)) 0)<|yy r j-yy r (j+1),λz=>U,λ_=>rfl,λz=>U,λ_=>?_,λz=>U⟩;rw[AV,(e2 hg)];by_cases hc:yy r ((j)+1)<=lo+m/\lo+m<yy r j
   .rw[FE hc.1 hc.2,show min (max (lo+((m+1:Nat))-yy r (j+1)) 0) (yy r j-yy r (j+1))=k+1 by lia];have hx:xk r (lo+m) j=kj r j*(2*(yy r j-yy r (j+1))*(AA r j).1+(2*(yy r j-yy r (j+1))-(2*k+1))*((AA r<|j+1).1-(AA r j).1)):=by
     delta xk eN eD eS
     rw[AAj U,AAl hg,AAj U]
     congr 3;lia
    rw[hx];grind
   .have:AK r (lo+m) j=0:=by unfold AK;rw[AAj U,AAj hc]
    rw[this,show min (max (lo+((m+1:Nat))-yy r (j+1)) 0) (yy r j-yy r (j+1))=k by lia];lia
theorem jP{r:List Pt}{j:Nat}(hj:j<r.length){lo:Int}{m:Nat}(h1:lo<=yy r j/\lo<=yy r (j+1))(h2:yy r j<=lo+m/\yy r (j+1)<=lo+m):2*AV (λt=>AK r (lo+t) j*xk r (lo+t) j) m=IT r*(((AA r j).1+(AA r<|j+1).1)*(yy r (j+1)-yy r j)):=by
 obtain⟨k,k1,k2,e1,e2,e3⟩:=jO hj h1 m;obtain⟨a1,a2⟩:=Pf hj;rcases ABU (yy r<|j) (yy r<|j+1)with hl|he|hg
 .have hk:k=yy r (j+1)-yy r j:=U
  rw[e1 hl,a2,hk];unfold eD;rw[AAl hl];grind
 .rw[e3 he,he];grind
 .have hk:k=yy r j-yy r (j+1):=U
  rw[e2 hg,a2,hk];unfold eD;rw[AAj U,AAl hg];grind
theorem fL(r:List Pt):DS r=AV (λj=>((AA r j).1+(AA r<|j+1).1)*(yy r (j+1)-yy r j)) r.length:=by
 rw[MD];have h1:AV (GX r) r.length=AV (λj=>((AA r j).1+(AA r<|j+1).1)*(yy r (j+1)-yy r j)+(- ((AA r<|j+1).1*(AA r<|j+1).2) - - ((AA r j).1*(AA r j).2))) r.length:=Bz λi _=>by delta GX B9 yy;grind
 rw[h1,EY (λj=>((AA r j).1+(AA r<|j+1).1)*(yy r (j+1)-yy r j)) λj=>- ((AA r<|j+1).1*(AA r<|j+1).2) - - ((AA r j).1*(AA r j).2)];have h3:AA r ((r.length))=AA r 0:=Az AAd;simp only[(IE (λk=>- ((AA r k).1*(AA r k).2)) r.length),h3];lia
theorem Rm.WJ{r:List Pt}(R:Rm r){h j:Int}(hj:AK r h j≠0):cc r h j=1:=by
 have S:=R.simple;have h3:=R.l3;rcases S.MH hj with c|c
 .have Bf:∀(H:Int)(i:Int),AK r H i≠0->cc r H i=0:=λH i hi=>by rw[S.OA hi hj];exact c
  obtain⟨lo,m,hb⟩:∃(lo:Int)(m:Nat),∀j:Nat,j<=r.length->lo<=yy r j/\yy r j<=lo+m:=by
   have:∀n:Nat,∃b:Int,0<=b/\∀j:Nat,j<n->-b<=yy r j/\yy r j<=b:=by
    intro n
    induction n with
    |zero=>exact⟨0,U,λj hj=>U⟩
    |succ n ih=>
     obtain⟨b,b0,hb⟩:=ih;refine⟨b+(yy r n).natAbs,U,λj hj=>?_⟩;by_cases FT:j=n
     .subst FT;lia
     .have:=hb j U;lia
   obtain⟨b,b0,hb⟩:=this<|r.length+1;exact⟨-b,(2*b).toNat,λj hj=>by have:=hb j U;lia⟩
  have e1:IT r*DS r=2*AV (λt=>AV (λj=>AK r (lo+t) j*xk r (lo+t) j.toNat) r.length) m:=by rw[VB (λt j=>AK r (lo+t) j*xk r (lo+t) j.toNat) r.length m,fL,<-NV,<-NV];refine Bz λi hi=>?_;have b1:=hb i U;have b2:=hb (i+1) AAg;exact(jP hi ⟨b1.1,b2.1⟩ ⟨b1.2,b2.2⟩).symm
  have e2:=U9 (f:=λt=>AV (λj=>AK r (lo+t) j*xk r (lo+t) j.toNat) r.length) (n:=m) λt _=>S.oG <|Bf<|lo+t;have hK:0<IT r:=by obtain⟨a1,a2⟩:=Pf (r:=r) (j:=0) U;rw[a2];exact AAq (OL _ _) a1
  have:=AAq hK R.Jf;lia
 .exact c
theorem Li{Z:Int}(h:0<Z):(if ¬Z<=0 then(1:Int)else 0)=1/\(if ¬0<=Z then(1:Int)else 0)=0:=⟨AAl<|ABj.mpr h,AAj λz=>z<|AAm h⟩
theorem Lh{Z:Int}(h:Z<0):(if ¬Z<=0 then(1:Int)else 0)=0/\(if ¬0<=Z then(1:Int)else 0)=1:=⟨AAj λz=>z<|AAm h,AAl<|ABj.mpr h⟩
theorem cI{p q:Int}(hq:q<0\/0<q)(h:p*q=0):p=0:=by
 rcases AAp.mp h with z|z
 .exact z
 .lia
theorem yh{ua ub va vb Z P Q:Int}(hZ:Z=P-Q)(hP:P=va*ub)(hQ:Q=ua*vb)(hE:¬ (Z=0/\((ua<=0/\0<=ub)\/(ub<=0/\0<=ua))/\((va<=0/\0<=vb)\/(vb<=0/\0<=va)))) : ((if va<=0/\0<vb/\Z>0 then(1:Int)else 0)-(if vb<=0/\0<va/\Z<0 then 1 else 0))-((if ua<=0/\0<ub/\Z>0 then 1 else 0)-(if ub<=0/\0<ua/\Z<0 then 1 else 0)) = (if ub<=0/\0<vb then 1 else 0)-(if ua<=0/\0<va then 1 else 0):=by
 simp only[<-ABj];by_cases a:ua<=0<;>by_cases b:ub<=0<;>by_cases c:va<=0<;>by_cases d:vb<=0<;>simp only[a,b,c,d,not_true,not_false_iff,true_and,false_and,ADH,ACT,ACC,ACi]
 .have h1:=ABn c b;have h2:=AB0 a<|AAm<|ABj.mp d;have h3:Z≠0:=λz=>hE ⟨z,.inr ⟨b,ADN (cI (.inr<|ABj.mp d) AAc).symm⟩,.inl ⟨c,AAc⟩⟩;exact(Li AAc).1
 .have h1:=AAt (AAm<|ABj.mp c) b;have h2:=ABn a d;have h3:Z≠0:=λz=>hE ⟨z,.inl ⟨a,ADN (cI (.inr<|ABj.mp c) (by rw[ACX];omega)).symm⟩,.inr ⟨d,AAc⟩⟩;rw[(Lh AAc).2]
 .have h1:=AB0 c<|AAm<|ABj.mp b;have h2:=ABn a d;rw[AAj λz=>z AAc];rfl
 .rcases ABU Z 0 with z|z|z
  .rw[(Lh z).1,(Lh z).2];rfl
  .exact absurd ⟨z,.inl ⟨a,AAc⟩,.inr ⟨d,AAc⟩⟩ hE
  .rw[(Li z).1,(Li z).2];rfl
 .have h1:=AAq (ABj.mp c)<|ABj.mp b;have h2:=AB0 a<|AAm<|ABj.mp d;rw[(Li AAc).1]
 .have h1:=ABn c b;have h2:=AAt (AAm<|ABj.mp a) d;rw[AAj λz=>z AAc];rfl
 .rcases ABU Z 0 with z|z|z
  .rw[(Lh z).1,(Lh z).2];rfl
  .exact absurd ⟨z,.inr ⟨b,AAc⟩,.inl ⟨c,AAc⟩⟩ hE
  .rw[(Li z).1,(Li z).2];rfl
 .have h1:=AAt (AAm<|ABj.mp c) b;have h2:=AAq (ABj.mp a)<|ABj.mp d;rw[(Lh AAc).2];rfl
 .have h1:=AB0 c<|AAm<|ABj.mp b;have h2:=AAq (ABj.mp a)<|ABj.mp d;rw[AAj λz=>z AAc]
 .have h1:=AAq (ABj.mp c)<|ABj.mp b;have h2:=AAt (AAm<|ABj.mp a) d;rw[AAj λz=>z AAc];rfl
noncomputable def lean(k:Int)(p:Pt):Pt:=(p.1,p.2+k*p.1)
theorem NR(k:Int)(a b c:Pt):AG (lean k a) (lean k b) (lean k c)=AG a b c:=by delta AG lean;grind
theorem fQ{k:Int}{a b p:Pt}(hk:0<k)(h0:AG a b p=0)(hu:(a.2-p.2<=0/\0<=b.2-p.2)\/(b.2-p.2<=0/\0<=a.2-p.2))(hv:((a.2-p.2)+k*(a.1-p.1)<=0/\0<=(b.2-p.2)+k*(b.1-p.1))\/((b.2-p.2)+k*(b.1-p.1)<=0/\0<=(a.2-p.2)+k*(a.1-p.1))):At a b p:=by
 have hs:(a.1-p.1)*(b.2-p.2)=(a.2-p.2)*(b.1-p.1):=by unfold AG at h0;grind
 by_cases Ap:a.2=b.2
 .have ha:a.2-p.2=0:=U
  have hb:b.2-p.2=0:=U
  rw[ha,hb,ABt,ABt]at hv;have key:∀x:Int,(k*x<=0->x<=0)/\(0<=k*x->0<=x):=λx=>by
   constructor
   .intro h;by_cases c:x<=0
    .exact c
    .have:=AAq hk (U:0<x);lia
   .intro h;by_cases c:0<=x
    .exact c
    .have:=ACe hk (U:x<0);lia
  have hx:(a.1-p.1<=0/\0<=b.1-p.1)\/(b.1-p.1<=0/\0<=a.1-p.1):=by
   rcases hv with⟨z1,z2⟩|⟨z1,z2⟩
   .exact .inl ⟨(key _).1 z1,(key _).2 z2⟩
   .exact .inr ⟨(key _).1 z1,(key _).2 z2⟩
  exact Kl ⟨h0,U,U⟩
 .rcases ABB Ap with hl|hl
  .exact⟨b.2-a.2,p.2-a.2,U,U,U,AAb,AAb⟩
  .exact⟨a.2-b.2,a.2-p.2,U,U,U,AAb,AAb⟩
theorem kH{k:Int}(hk:0<k){a b p:Pt}(hp:¬ At a b p):fw (lean k a) (lean k b) (lean k p)-fw a b p = (if b.2-p.2<=0/\0<(b.2-p.2)+k*(b.1-p.1)then 1 else 0)-(if a.2-p.2<=0/\0<(a.2-p.2)+k*(a.1-p.1)then 1 else 0):=by
 have e:k*AG a b p=((a.2-p.2)+k*(a.1-p.1))*(b.2-p.2)-(a.2-p.2)*((b.2-p.2)+k*(b.1-p.1)):=by unfold AG;grind
 have t:=yh e rfl rfl (by
  rintro⟨z,hu,hv⟩;have:AG a b p=0:=by
   rcases AAp.mp z with h|h
   .lia
   .exact h
  exact hp<|fQ hk this hu hv)
 have z1:(k*AG a b p>0)↔AG a b p>0:=by
  constructor
  .intro h;by_cases c:AG a b p>0
   .exact c
   .have:=AAt (AAm hk) (U:AG a b p<=0);lia
  .exact λh=>AAq hk h
 have z2:(k*AG a b p<0)↔AG a b p<0:=by
  constructor
  .intro h;by_cases c:AG a b p<0
   .exact c
   .have:=AAo (AAm hk) (U:0<=AG a b p);lia
  .exact λh=>ACe hk h
 simp only[z1,z2]at t;simp only[<-t];unfold fw;simp only[NR];have c1:∀c:Pt,((lean k c).2<=(lean k p).2)↔((c.2-p.2)+k*(c.1-p.1)<=0):=λc=>by unfold lean;rw[ACx];lia
 have c2:∀c:Pt,((lean k p).2<(lean k c).2)↔(0<(c.2-p.2)+k*(c.1-p.1)):=λc=>by unfold lean;rw[ACx];lia
 have c3:∀c:Pt,(c.2<=p.2)↔(c.2-p.2<=0):=λc=>U
 have c4:∀c:Pt,(p.2<c.2)↔(0<c.2-p.2):=λc=>U
 simp only[c1,c2,c3,c4]
theorem Kr{r:List Pt}(h:0<r.length)(k i:Int):AA (r.map<|lean k) i=lean k (AA r i):=DL h i
theorem eh{r:List Pt}(h:0<r.length){k:Int}(hk:0<k){p:Pt}(hp:∀j:Int,¬ At (AA r j) (AA r<|j+1) p):W (r.map<|lean k) (lean k p)=W r p:=by
 unfold W;rw[AAi];rw[Bz (g:=λj=>fw (AA r j) (AA r<|j+1) p+((if(AA r<|j+1).2-p.2<=0/\0<((AA r<|j+1).2-p.2)+k*((AA r<|j+1).1-p.1)then 1 else 0)-(if(AA r j).2-p.2<=0/\0<((AA r j).2-p.2)+k*((AA r j).1-p.1)then 1 else 0))) λj _=>by simp only[Kr h,Kr h];have:=kH hk<|hp j;lia]
 rw[EY (λj=>fw (AA r j) (AA r<|j+1) p) (λj=>(if(AA r<|j+1).2-p.2<=0/\0<((AA r<|j+1).2-p.2)+k*((AA r<|j+1).1-p.1)then 1 else 0)-(if(AA r j).2-p.2<=0/\0<((AA r j).2-p.2)+k*((AA r j).1-p.1)then 1 else 0))];have ht:=IE (λj=>(if(AA r j).2-p.2<=0/\0<((AA r j).2-p.2)+k*((AA r j).1-p.1)then(1)else 0)) r.length;have hc:AA r (r.length)=AA r 0:=Az AAd;simp only[hc]at ht;rw[ht];lia
theorem E9{a b c d:Pt}(h:Lt a b c d):Lt b a c d:=by obtain⟨q,s,t,h1,h2,h3,h4,h5,e,l⟩:=h;exact⟨q,q-s,t,h1,U,U,h4,h5,AAb,AAb⟩
theorem FW{a b c d:Pt}(h:Lt a b c d):Lt a b d c:=by obtain⟨q,s,t,h1,h2,h3,h4,h5,e,l⟩:=h;exact⟨q,s,q-t,h1,h2,h3,U,U,AAb,AAb⟩
theorem QQ{a b c d:Pt}(h:Bk a b c d):Bk b a c d:=by obtain⟨q,s,t,h1,h2,h3,h4,h5,e1,e2⟩:=h;exact⟨q,q-s,t,h1,U,U,h4,h5,AAb,AAb⟩
theorem ME{a b p:Pt}(h:At a b p):At b a p:=by obtain⟨q,s,h1,h2,h3,e1,e2⟩:=h;exact⟨q,q-s,h1,U,U,AAb,AAb⟩
theorem Pz{A X B:Pt}(f:CK A X B)(h1:Lt A B A X):¬ Lt A X A B:=λh2=>by
 obtain⟨q1,s1,t1,q2,s2,t2,x,y,hx,hy,Ml,Mm,a1,a2,b1,b2,c1,c2,d1,d2,e0,e1,e2⟩:=T3 h1 h2;have n1:=AAo a1<|AAm hy;have n2:=AAo b1<|AAm hx;have n3:=AAo c1<|AAm hy;have n4:=AAo d1<|AAm hx;obtain⟨z1,z2⟩:=f (t1*y+t2*x) (s1*y+s2*x) U U U U;have k1:s1*y=0:=U
 have k2:t1*y=0:=U
 have TF:s1=0:=by rcases AAp.mp k1 with h|h<;>omega
 have F5:t1=0:=by rcases AAp.mp k2 with h|h<;>omega
 rw[TF,F5]at e0;lia
theorem CK.symm{A X B:Pt}(f:CK A X B):CK A B X:=λs t hs ht e1 e2=>(f t s ht hs e1.symm e2.symm).symm
structure Probe(r:List Pt)(i j:Int):Prop where
 Bq:B0 r.length<|i-j
 f1:CK (AA r i) (AA r<|i+1)<|AA r j
 f2:CK (AA r i) (AA r<|i-1)<|AA r j
 f3:CK (AA r j) (AA r<|j+1)<|AA r i
 f4:CK (AA r j) (AA r<|j-1)<|AA r i
 nt:∀k:Int,(i-k)%(r.length:Int)≠0->(i-k)%(r.length:Int)≠1->(j-k)%(r.length:Int)≠0->(j-k)%(r.length:Int)≠1->¬ Bk (AA r i) (AA r j) (AA r k) (AA r<|k+1)
theorem mod_succ{n a b:Int}(hn:1<n)(h:(a-b)%n=0):(a+1-b)%n=1:=by simp only[show a+1-b=(a-b)+1 by lia,AB3,h,AAh U hn,ABt,AAh U hn]
theorem SD{n d:Int}(hn:2<=n)(h:B0 n d):d%n≠0/\d%n≠1/\(-d)%n≠0/\(-d)%n≠1:=⟨h.1,h.2.1,(h.neg hn).1,(h.neg hn).2.1⟩
section
variable{r:List Pt}(S:A6 r)
include S
theorem Probe.symm{i j:Int}(p:Probe r i j):Probe r j i:=
 ⟨by have:=p.Bq.neg (by have:=S.l3;lia);rw[show -(i-j)=j-i by lia]at this;exact this,p.f3,p.f4,p.f1,p.f2,λk a b c d h=>p.nt k c d a b<|QQ h⟩
theorem A6.distinct{m j:Int}(h0:(m-j)%(r.length)≠0)(h1:(m-j)%(r.length)≠1):AA r m≠AA r j:=λe=>by
 refine S.off h0 h1 (q:=1) (s:=0) U U U ?_ ?_
 .rw[e];lia
 .rw[e];lia
theorem Probe.MT{i j:Int}(p:Probe r i j):CK (AA r i) (AA r<|i+1)<|AA r j:=p.f1
theorem Probe.Jq{i j:Int}(p:Probe r i j):CK (AA r i) (AA r<|i-1)<|AA r j:=p.f2
theorem Xz(Cn:∀k:Int,AG (AA r k) (AA r<|k+1) (AA r<|k+1+1)≠0){i j:Int}(Bq:B0 r.length<|i-j)(nt:∀k:Int,(i-k)%(r.length)≠0->(i-k)%(r.length)≠1->(j-k)%(r.length)≠0->(j-k)%(r.length)≠1->¬ Bk (AA r i) (AA r j) (AA r k) (AA r<|k+1)):CK (AA r i) (AA r<|i+1)<|AA r j:=by
 have h3:=S.l3;obtain⟨f0,f1,f2,f3⟩:=SD U Bq;rw[show -(i-j)=j-i by lia]at f2 f3;intro s t hs ht e1 e2;have Jv:=S.distinct f2 f3;have hb:=Cn i;have MX:AA r (i+1)≠AA r i:=λc=>hb (by rw[c];unfold AG;grind);by_cases s0:s=0
 .refine⟨s0,?_⟩;by_cases t0:t=0
  .exact t0
  .exfalso;apply Jv;rw[s0,ABR]at e1 e2;have g1:=AAp.mp e1.symm;have g2:=AAp.mp e2.symm;exact ABS U U
 by_cases t0:t=0
 .exfalso;apply MX;rw[t0,ABR]at e1 e2;have g1:=AAp.mp e1;have g2:=AAp.mp e2;exact ABS U U
 exfalso;rcases AB2 t s with hle|hle
 .-- JR next WY lies on JR VR
  have E3:At (AA r i) (AA r j)<|AA r<|i+1:=⟨s,t,U,ht,hle,e1,e2⟩;by_cases hj:(j-(i+1))%(r.length)=1
  .have:=(S.next hj).1;apply hb;have hs:=(F7 E3).1;rw[this]at hs;have:AG (AA r i) (AA r<|i+1) (AA r<|i+1+1) = - AG (AA r i) (AA r<|i+1+1) (AA r<|i+1):=by unfold AG;grind
   simp only[this,hs];rfl
  .refine nt (i+1) (λc=>?_) (λc=>?_) (λc=>?_) hj (QP E3)
   .have:(-1:Int)%(r.length)=r.length-1:=by rw[show(-1:Int)=(r.length-1)+r.length*(-1)by lia,ABl,AAh U U]
    lia
   .have:(-1:Int)%(r.length)=r.length-1:=by rw[show(-1:Int)=(r.length-1)+r.length*(-1)by lia,ABl,AAh U U]
    lia
   .apply f3;have:=mod_succ U c;rw[show j+1-(i+1)=j-i by lia]at this;exact this
 .-- JR Bq WY lies on JR wall
  exact S.off f2 f3 U hs hle AAb AAb
theorem X0(Cn:∀k:Int,AG (AA r k) (AA r<|k+1) (AA r<|k+1+1)≠0){i j:Int}(Bq:B0 r.length<|i-j)(nt:∀k:Int,(i-k)%(r.length)≠0->(i-k)%(r.length)≠1->(j-k)%(r.length)≠0->(j-k)%(r.length)≠1->¬ Bk (AA r i) (AA r j) (AA r k) (AA r<|k+1)):CK (AA r i) (AA r<|i-1)<|AA r j:=by
 have h3:=S.l3;obtain⟨f0,f1,f2,f3⟩:=SD U Bq;rw[show -(i-j)=j-i by lia]at f2 f3;intro s t hs ht e1 e2;have Jv:=S.distinct f2 f3;have hb:=by have:=Cn<|i-2;rw[show i-2+1=i-1 by lia,show i-1+1=i by lia]at this;exact this
 have MX:AA r (i-1)≠AA r i:=λc=>hb (by rw[c];unfold AG;grind);by_cases s0:s=0
 .refine⟨s0,?_⟩;by_cases t0:t=0
  .exact t0
  .exfalso;apply Jv;rw[s0,ABR]at e1 e2;have g1:=AAp.mp e1.symm;have g2:=AAp.mp e2.symm;exact ABS U U
 by_cases t0:t=0
 .exfalso;apply MX;rw[t0,ABR]at e1 e2;have g1:=AAp.mp e1;have g2:=AAp.mp e2;exact ABS U U
 exfalso;rcases AB2 t s with hle|hle
 .have E3:At (AA r i) (AA r j)<|AA r<|i-1:=⟨s,t,U,ht,hle,e1,e2⟩;have OK:i-2+1=i-1:=U
  by_cases hj:(j-(i-2))%(r.length)=0
  .have:=Az hj;apply hb;have hs:=(F7 E3).1;rw[this]at hs;have:AG (AA r<|i-2) (AA r<|i-1) (AA r i)=AG (AA r i) (AA r<|i-2) (AA r<|i-1):=by unfold AG;grind
   simp only[this,hs]
  .have BJ:Bk (AA r i) (AA r j) (AA r<|i-2)<|AA r<|i-2+1:=by rw[OK];exact Uu E3
   refine nt (i-2) (λc=>?_) (λc=>?_) hj (λc=>?_) BJ
   .rw[show i-(i-2)=2 by lia,AAh U U]at c;lia
   .rw[show i-(i-2)=2 by lia,AAh U U]at c;lia
   .have:=Dv U c;have c':=CJ this;rw[show i-2-(j-1)=(i-1)-j by lia]at c';have:=mod_succ U c';rw[show i-1+1-j=i-j by lia]at this;exact f1 this
 .refine S.off (m:=j) (j:=i-1) (λc=>?_) (λc=>?_) (q:=t) (s:=t-s) U U U AAb AAb
  .have:=mod_succ U<|CJ c;rw[show i-1+1-j=i-j by lia]at this;exact f1 this
  .have:=Dv U c;rw[show j-1-(i-1)=j-i by lia]at this;exact f2 this
theorem Ua(Cn:∀k:Int,AG (AA r k) (AA r<|k+1) (AA r<|k+1+1)≠0){i j:Int}(Bq:B0 r.length<|i-j)(nt:∀k:Int,(i-k)%(r.length)≠0->(i-k)%(r.length)≠1->(j-k)%(r.length)≠0->(j-k)%(r.length)≠1->¬ Bk (AA r i) (AA r j) (AA r k) (AA r<|k+1)):Probe r i j:=by
 have Xk:=by have:=Bq.neg (by have:=S.l3;lia);rw[show -(i-j)=j-i by lia]at this;exact this
 have Zv:=λk a b c d h=>nt k c d a b<|QQ h;exact⟨Bq,Xz S Cn Bq nt,X0 S Cn Bq nt,Xz S Cn Xk Zv,X0 S Cn Xk Zv,nt⟩
theorem Probe.nc{i j:Int}(p:Probe r i j)(k:Int)(h1:Lt (AA r i) (AA r j) (AA r k)<|AA r<|k+1):¬ Lt (AA r k) (AA r<|k+1) (AA r i) (AA r j):=by
 have h3:=S.l3;have p':=p.symm S;by_cases a:(i-k)%(r.length)=0
 .have e1:=Az a;have e2:=Az<|Bx a;simp only[<-e1,<-e2]at h1 ⊢;exact Pz (p.MT S) h1
 by_cases b:(i-k)%(r.length)=1
 .have e0:=(Az (by have:=Dv U b;exact this)).symm;simp only[<-(S.next b).1,e0]at h1 ⊢;exact λc=>Pz (p.Jq S) (FW h1)<|E9 c
 by_cases c:(j-k)%(r.length)=0
 .have e1:=Az c;have e2:=Az<|Bx c;rw[<-e1,<-e2]at h1 ⊢;exact λz=>Pz (p'.MT S) (E9 h1)<|FW z
 by_cases d:(j-k)%(r.length)=1
 .have e0:=(Az (by have:=Dv U d;exact this)).symm;rw[<-(S.next d).1,e0]at h1 ⊢;exact λz=>Pz (p'.Jq S) (E9<|FW h1)<|E9<|FW z
 .exact T8 (p.nt k a b c d) h1
theorem Probe.cx{i j:Int}(p:Probe r i j){m:Int}(a:(i-m)%(r.length)≠0)(c:(j-m)%(r.length)≠0):¬ At (AA r i) (AA r j) (AA r m):=by
 have h3:=S.l3;intro E3;by_cases b:(i-m)%(r.length)=1
 .have e0:=(Az (by have:=Dv U b;exact this)).symm;rw[e0]at E3;obtain⟨q,s,hq,s0,s1,e1,e2⟩:=E3;have:=(p.Jq S q s U s0 e1 e2).1;lia
 by_cases d:(j-m)%(r.length)=1
 .have e0:=(Az (by have:=Dv U d;exact this)).symm;rw[e0]at E3;obtain⟨q,s,hq,s0,s1,e1,e2⟩:=ME E3;have:=((p.symm S).Jq S q s U s0 e1 e2).1;lia
 .exact p.nt m a b c d<|QP E3
end
def RQ(r:List Pt)(h:Int)(A B:Pt):Int:=AV (λk=>ind (Lt A B (AA r k)<|AA r<|k+1)*AK r h k) r.length
section
variable{r:List Pt}(S:A6 r){i j:Int}(p:Probe r i j)
include S p
theorem Probe.Na{m:Int}(a:(i-m)%(r.length)≠0)(c:(j-m)%(r.length)≠0)(Ap:yy r i≠yy r j)(hr:(yy r i<=yy r m/\yy r m<=yy r j)\/(yy r j<=yy r m/\yy r m<=yy r i)) : Lt (AA r i) (AA r j) (AA r m) (AA r m)\/Lt (AA r m) (AA r m) (AA r i) (AA r j):=by
 obtain⟨q,s,hq,s0,s1,e,_,_⟩:=LV Ap hr;unfold yy at e;rcases ABU (q*(AA r i).1+s*((AA r j).1-(AA r i).1)) (q*(AA r m).1)with hl|he|hg
 .exact .inl ⟨q,s,0,hq,s0,s1,U,U,by rw[e];lia,U⟩
 .exact absurd ⟨q,s,hq,s0,s1,AAb,AAb⟩ (p.cx S a c)
 .exact .inr ⟨q,0,s,hq,U,U,s0,s1,by rw[e];lia,U⟩
theorem Probe.step{h:Int}(F4:(yy r i<h/\h<yy r j)\/(yy r j<h/\h<yy r i)):RQ r h (AA r i) (AA r j)=RQ r (h-1) (AA r i) (AA r j):=by
 have key:∀k:Int,ind (Lt (AA r i) (AA r j) (AA r k)<|AA r<|k+1)*AK r h k=ind (Lt (AA r i) (AA r j) (AA r k)<|AA r<|k+1)*AK r (h-1) k+(ind (yy r k=h/\Lt (AA r i) (AA r j) (AA r k) (AA r k))-ind (yy r (k+1)=h/\Lt (AA r i) (AA r j) (AA r<|k+1) (AA r<|k+1))):=by
  intro k;have hd:=QO r h k;refine comb (x:=ind<|yy r k=h) (y:=ind<|yy r (k+1)=h) U ?_ ?_
  .by_cases a1:yy r k=h
   .refine .inl ⟨Ax a1,?_⟩;rcases p.Na S (m:=k) (λc=>by have:=C6 c;lia) (λc=>by have:=C6 c;lia) U U with z|z
    .rw[Ax ⟨a1,z⟩,Ax<|LN z]
    .have n1:=λc=>p.nc S k c<|Pl z;rw[Ah n1,Ah λc=>n1<|LN c.2]
   .exact .inr ⟨Ah a1,Ah λc=>a1 c.1⟩
  .by_cases a2:yy r (k+1)=h
   .refine .inl ⟨Ax a2,?_⟩;rcases p.Na S (m:=k+1) (λc=>by have:=C6 c;lia) (λc=>by have:=C6 c;lia) U U with z|z
    .rw[Ax ⟨a2,z⟩,Ax<|M7 z]
    .have n1:=λc=>p.nc S k c<|T1 z;rw[Ah n1,Ah λc=>n1<|M7 c.2]
   .exact .inr ⟨Ah a2,Ah λc=>a2 c.1⟩
 unfold RQ;rw[Bz (g:=λk=>ind (Lt (AA r i) (AA r j) (AA r k)<|AA r<|k+1)*AK r (h-1) k+(ind (yy r k=h/\Lt (AA r i) (AA r j) (AA r k) (AA r k))-ind (yy r (k+1)=h/\Lt (AA r i) (AA r j) (AA r<|k+1) (AA r<|k+1)))) λk _=>key k];rw[EY (λk=>ind (Lt (AA r i) (AA r j) (AA r k)<|AA r<|k+1)*AK r (h-1) k) λk=>ind (yy r k=h/\Lt (AA r i) (AA r j) (AA r k) (AA r k))-ind (yy r (k+1)=h/\Lt (AA r i) (AA r j) (AA r<|k+1) (AA r<|k+1))];have ht:=IE (λk=>- ind (yy r k=h/\Lt (AA r i) (AA r j) (AA r k) (AA r k))) r.length;have hc:AA r (r.length)=AA r 0:=Az AAd;have hy:yy r (r.length)=yy r 0:=by unfold yy;rw[hc]
 simp only[hc,hy]at ht;lia
theorem Probe.along{h h':Int}(h1:(yy r i<=h/\h<yy r j)\/(yy r j<=h/\h<yy r i))(h2:(yy r i<=h'/\h'<yy r j)\/(yy r j<=h'/\h'<yy r i)):RQ r h (AA r i) (AA r j)=RQ r h' (AA r i) (AA r j):=by
 have main:∀(m:Nat)(h:Int),((yy r i<=h/\h<yy r j)\/(yy r j<=h/\h<yy r i))->((yy r i<=h+m/\h+m<yy r j)\/(yy r j<=h+m/\h+m<yy r i))->RQ r (h+m) (AA r i) (AA r j)=RQ r h (AA r i) (AA r j):=by
  intro m
  induction m with
  |zero=>simp
  |succ m ih=>
   intro h a b;rw[<-ih h a U];have:=p.step S (h:=h+((m+1:Nat))) U;simp only[this,show h+((m+1:Nat))-1=h+m by lia]
 rcases AB2 h h' with hl|hl
 .have:=main (h'-h).toNat h h1 (by rw[AAz U];lia);rw[AAz U,show h+(h'-h)=h' by lia]at this;exact this.symm
 .have:=main (h-h').toNat h' h2 (by rw[AAz U];lia);rw[AAz U,show h'+(h-h')=h by lia]at this;exact this
end
noncomputable def dbl(p:Pt):Pt:=(2*p.1,2*p.2)
theorem oQ{A B c d:Pt}(h:Lt (A.1+B.1,A.2+B.2) (A.1+B.1,A.2+B.2) (dbl c)<|dbl d):Lt A B c d:=by obtain⟨q,s,t,h1,h2,h3,h4,h5,e,l⟩:=h;unfold dbl at e l;dsimp only at e l;exact⟨2*q,q,2*t,U,U,U,U,U,AAb,AAb⟩
theorem oR{A B c d:Pt}(h:Lt (dbl c) (dbl d) (A.1+B.1,A.2+B.2) (A.1+B.1,A.2+B.2)):Lt c d A B:=by obtain⟨q,s,t,h1,h2,h3,h4,h5,e,l⟩:=h;unfold dbl at e l;dsimp only at e l;exact⟨2*q,2*s,q,U,U,U,U,U,AAb,AAb⟩
section
variable{r:List Pt}(S:A6 r){i j:Int}(p:Probe r i j)
include S p
theorem Probe.T7(k:Int):¬ At (dbl<|AA r k) (dbl<|AA r<|k+1) ((AA r i).1+(AA r j).1,(AA r i).2+(AA r j).2):=by
 have h3:=S.l3;have p':=p.symm S;rintro⟨q,s,hq,s0,s1,e1,e2⟩;unfold dbl at e1 e2;dsimp only at e1 e2;by_cases a:(i-k)%(r.length)=0
 .have z1:=Az a;have z2:=Az<|Bx a;rw[<-z1,<-z2]at e1 e2;have:=(p.MT S (2*s) q U U AAb AAb).2;lia
 by_cases b:(i-k)%(r.length)=1
 .have e:=S.next b;have e0:=(Az (by have:=Dv U b;exact this)).symm;rw[<-e.1,e0]at e1 e2;have:=(p.Jq S (2*(q-s)) q U U AAb AAb).2;lia
 by_cases c:(j-k)%(r.length)=0
 .have z2:=Az<|Bx c;rw[<-(Az c),<-z2]at e1 e2;have:=(p'.MT S (2*s) q U U AAb AAb).2;lia
 by_cases d:(j-k)%(r.length)=1
 .have e0:=(Az (by have:=Dv U d;exact this)).symm;rw[<-(S.next d).1,e0]at e1 e2;have:=(p'.Jq S (2*(q-s)) q U U AAb AAb).2;lia
 .exact p.nt k a b c d ⟨2*q,q,2*s,U,U,U,U,U,AAb,AAb⟩
theorem Probe.mid:W (r.map dbl) ((AA r i).1+(AA r j).1,(AA r i).2+(AA r j).2)=RQ r ((yy r i+yy r j) / 2) (AA r i) (AA r j):=by
 have h3:=S.l3;have hc:∀k:Int,AA (r.map dbl) k=dbl (AA r k):=λk=>DL U k
 delta W RQ
 simp only[AAi];refine Bz λk _=>?_;rw[X4,hc,hc];have hs:AK (r.map dbl) ((AA r i).2+(AA r j).2) k=AK r ((yy r i+yy r j) / 2) k:=by
  delta AK yy
  rw[hc,hc];unfold dbl;dsimp only;generalize (AA r i).2+(AA r j).2=m;generalize (AA r k).2=a;generalize (AA r<|k+1).2=b
  (repeat' split)<;>lia
 rw[hs,ACX];by_cases hz:AK r ((yy r i+yy r j) / 2) k=0
 .rw[hz];lia
 .congr 1
  have rs:=C4 hz;by_cases hl:Lt (AA r i) (AA r j) (AA r k)<|AA r<|k+1
  .rw[Ax hl];refine Ax ?_;obtain⟨q,s,hq,s0,s1,ey,_,_⟩:=LV (a:=dbl<|AA r k) (b:=dbl<|AA r<|k+1) (h:=(AA r i).2+(AA r j).2) (by unfold dbl;dsimp only;unfold yy at rs;lia) (by unfold dbl;unfold yy at rs;lia);rcases ABU (q*((AA r i).1+(AA r j).1)) (q*(dbl<|AA r k).1+s*((dbl<|AA r<|k+1).1-(dbl<|AA r k).1))with u|u|u
   .exact⟨q,0,s,hq,U,U,s0,s1,by rw[ey];lia,U⟩
   .exact absurd ⟨q,s,hq,s0,s1,AAb,AAb⟩ (p.T7 S k)
   .exact absurd (oR ⟨q,s,0,hq,s0,s1,U,U,U,U⟩) (p.nc S k hl)
  .rw[Ah hl];exact Ah λc=>hl<|oQ c
end
def NN(r:List Pt)(h i:Int):Int:=AV (λk=>ind (Lt (AA r i) (AA r i) (AA r k)<|AA r<|k+1)*AK r h k) r.length
theorem Jg{A X Y:Pt}(hx:A.2<X.2)(hy:A.2<Y.2):Lt A X A Y↔AG A Y X>0:=by
 constructor
 .rintro⟨q,s,t,hq,s0,s1,t0,t1,e,l⟩;have e':s*(X.2-A.2)=t*(Y.2-A.2):=U
  have l':s*(X.1-A.1)<t*(Y.1-A.1):=U
  have ht:0<t:=by
   by_cases c:t=0
   .rw[c,ABR]at e' l';have:s=0:=by rcases AAp.mp e' with h|h<;>lia
    rw[this]at l';lia
   .lia
  have k:t*AG A Y X=(X.2-A.2)*(t*(Y.1-A.1)-s*(X.1-A.1)):=by
   have:t*AG A Y X=(t*(Y.1-A.1))*(X.2-A.2)-(t*(Y.2-A.2))*(X.1-A.1):=by unfold AG;grind
   simp only[this,<-e'];grind
  have:=AAq (U:0<X.2-A.2) (U:0<t*(Y.1-A.1)-s*(X.1-A.1));by_cases c:AG A Y X>0
  .exact c
  .have:=AAt (AAm ht) (U:AG A Y X<=0);lia
 .intro h;have m1:(Y.2-A.2)*1<=(Y.2-A.2)*(X.2-A.2):=AAv U U;have m2:(X.2-A.2)*1<=(X.2-A.2)*(Y.2-A.2):=AAv U U;exact⟨(X.2-A.2)*(Y.2-A.2),Y.2-A.2,X.2-A.2,AAq U U,U,U,U,U,AAb,by unfold AG at h;grind⟩
theorem Kp{A X Y:Pt}(hx:X.2<A.2)(hy:Y.2<A.2):Lt A X A Y↔AG A X Y>0:=by
 constructor
 .rintro⟨q,s,t,hq,s0,s1,t0,t1,e,l⟩;have e':s*(X.2-A.2)=t*(Y.2-A.2):=U
  have l':s*(X.1-A.1)<t*(Y.1-A.1):=U
  have ht:0<t:=by
   by_cases c:t=0
   .rw[c,ABR]at e' l';have:s=0:=by rcases AAp.mp e' with h|h<;>lia
    rw[this]at l';lia
   .lia
  have k:t*AG A X Y=(A.2-X.2)*(t*(Y.1-A.1)-s*(X.1-A.1)):=by
   have:t*AG A X Y=(X.1-A.1)*(t*(Y.2-A.2))-(X.2-A.2)*(t*(Y.1-A.1)):=by unfold AG;grind
   simp only[this,<-e'];grind
  have:=AAq (U:0<A.2-X.2) (U:0<t*(Y.1-A.1)-s*(X.1-A.1));by_cases c:AG A X Y>0
  .exact c
  .have:=AAt (AAm ht) (U:AG A X Y<=0);lia
 .intro h;have m1:(A.2-Y.2)*1<=(A.2-Y.2)*(A.2-X.2):=AAv U U;have m2:(A.2-X.2)*1<=(A.2-X.2)*(A.2-Y.2):=AAv U U;exact⟨(A.2-X.2)*(A.2-Y.2),A.2-Y.2,A.2-X.2,AAq U U,U,U,U,U,AAb,by unfold AG at h;grind⟩
theorem SK{A X B:Pt}(f:CK A X B)(h:(A.2<X.2/\A.2<B.2)\/(X.2<A.2/\B.2<A.2)):AG A X B≠0:=λc=>by
 unfold AG at c;rcases h with⟨h1,h2⟩|⟨h1,h2⟩
 .have:=(f (B.2-A.2) (X.2-A.2) U U AAb AAb).1;lia
 .have:=(f (A.2-B.2) (A.2-X.2) U U AAb AAb).1;lia
section
variable{r:List Pt}(S:A6 r){i:Int}(gU:yy r (i-1)≠yy r i)(gV:yy r (i+1)≠yy r i)
include S gU gV
theorem A6.A5{k:Int}(h:(i-k)%(r.length)=0\/(i-k)%(r.length)=1):¬ Lt (AA r i) (AA r i) (AA r k) (AA r<|k+1):=by
 have h3:=S.l3;rcases h with a|b
 .simp only[<-Az a,<-Az<|Bx a];rintro⟨q,s,t,hq,s0,s1,t0,t1,e,l⟩;unfold yy at gV;have:t*((AA r<|i+1).2-(AA r i).2)=0:=AAb
  rcases AAp.mp this with z|z
  .rw[z]at l;grind
  .lia
 .have e:=S.next b;have e0:=(Az (by have:=Dv U b;exact this)).symm;rw[<-e.1];rintro⟨q,s,t,hq,s0,s1,t0,t1,e,l⟩;unfold yy at gU;have:(q-t)*((AA r<|i-1).2-(AA r i).2)=0:=AAb
  rcases AAp.mp this with z|z
  .have:t=q:=U
   rw[this]at l;grind
  .lia
theorem A6.Uw{k:Int}(a:(i-k)%(r.length)≠0)(b:(i-k)%(r.length)≠1){q s:Int}(hq:0<q)(s0:0<=s)(s1:s<=q)(e:q*(AA r k).2+s*((AA r<|k+1).2-(AA r k).2)=q*yy r i) : (q*(AA r i).1<q*(AA r k).1+s*((AA r<|k+1).1-(AA r k).1)/\Lt (AA r i) (AA r i) (AA r k) (AA r<|k+1))\/(q*(AA r k).1+s*((AA r<|k+1).1-(AA r k).1)<q*(AA r i).1/\Lt (AA r k) (AA r<|k+1) (AA r i) (AA r i)/\¬ Lt (AA r i) (AA r i) (AA r k) (AA r<|k+1)):=by
 unfold yy at e;have ns:¬ Bk (AA r i) (AA r i) (AA r k) (AA r<|k+1):=by rintro⟨q',s',t',h1,h2,h3,h4,h5,e1,e2⟩;exact S.off a b h1 h4 h5 AAb AAb
 rcases ABB (S.off a b hq s0 s1 e)with z|z
 .have l:Lt (AA r k) (AA r<|k+1) (AA r i)<|AA r i:=⟨q,s,0,hq,s0,s1,U,U,by rw[e];lia,U⟩;exact .inr ⟨z,l,λc=>T8 ns c l⟩
 .exact .inl ⟨z,⟨q,0,s,hq,U,U,s0,s1,by rw[e];lia,U⟩⟩
theorem A6.eO:NN r (yy r i) i=NN r (yy r i-1) i:=by
 have key:∀k:Int,ind (Lt (AA r i) (AA r i) (AA r k)<|AA r<|k+1)*AK r (yy r i) k=ind (Lt (AA r i) (AA r i) (AA r k)<|AA r<|k+1)*AK r (yy r i-1) k+(ind (yy r k=yy r i/\(AA r i).1<(AA r k).1)-ind (yy r (k+1)=yy r i/\(AA r i).1<(AA r<|k+1).1)):=by
  intro k;have hd:=QO r (yy r i) k;by_cases F4:(i-k)%(r.length)=0\/(i-k)%(r.length)=1
  .rw[Ah<|S.A5 gU gV F4];have g:ind (yy r k=yy r i/\(AA r i).1<(AA r k).1)=0/\ind (yy r (k+1)=yy r i/\(AA r i).1<(AA r<|k+1).1)=0:=by
    have h3:=S.l3;rcases F4 with a|b
    .rw[<-Az a,<-C6<|Bx a];exact⟨Ah λc=>U,Ah λc=>gV c.1⟩
    .have e0:=by have:=Dv U b;exact this
     refine⟨Ah λc=>?_,Ah λc=>?_⟩
     .rw[<-C6 e0]at c;exact gU c.1
     .rw[<-(S.next b).1]at c;lia
   simp only[g.1,g.2];lia
  .have a:=λc=>F4<|.inl c;have b:=λc=>F4<|.inr c;refine comb (x:=ind<|yy r k=yy r i) (y:=ind<|yy r (k+1)=yy r i) U ?_ ?_
   .by_cases a1:yy r k=yy r i
    .refine .inl ⟨Ax a1,?_⟩;rcases S.Uw gU gV a b (q:=1) (s:=0) U U U (by rw[show(AA r k).2=yy r i from a1];lia)with⟨z,l⟩|⟨z,_,l⟩
     .rw[Ax l,Ax ⟨a1,U⟩]
     .rw[Ah l,Ah λc=>U]
    .exact .inr ⟨Ah a1,Ah λc=>a1 c.1⟩
   .by_cases a2:yy r (k+1)=yy r i
    .refine .inl ⟨Ax a2,?_⟩;rcases S.Uw gU gV a b (q:=1) (s:=1) U U U (by rw[show(AA r<|k+1).2=yy r i from a2];lia)with⟨z,l⟩|⟨z,_,l⟩
     .rw[Ax l,Ax ⟨a2,U⟩]
     .rw[Ah l,Ah λc=>U]
    .exact .inr ⟨Ah a2,Ah λc=>a2 c.1⟩
 unfold NN;rw[Bz (g:=λk=>ind (Lt (AA r i) (AA r i) (AA r k)<|AA r<|k+1)*AK r (yy r i-1) k+(ind (yy r k=yy r i/\(AA r i).1<(AA r k).1)-ind (yy r (k+1)=yy r i/\(AA r i).1<(AA r<|k+1).1))) λk _=>key k];rw[EY (λk=>ind (Lt (AA r i) (AA r i) (AA r k)<|AA r<|k+1)*AK r (yy r i-1) k) λk=>ind (yy r k=yy r i/\(AA r i).1<(AA r k).1)-ind (yy r (k+1)=yy r i/\(AA r i).1<(AA r<|k+1).1)];have ht:=IE (λk=>- ind (yy r k=yy r i/\(AA r i).1<(AA r k).1)) r.length;have hc:AA r (r.length)=AA r 0:=Az AAd;have hy:yy r (r.length)=yy r 0:=by unfold yy;rw[hc]
 simp only[hc,hy]at ht;lia
theorem A6.star{Z:Pt}(hZ:∀k:Int,(i-k)%(r.length)≠0->(i-k)%(r.length)≠1->Lt (AA r i) Z (AA r k) (AA r<|k+1)->¬ Lt (AA r k) (AA r<|k+1) (AA r i) Z){H:Int}(hH:H=yy r i\/H=yy r i-1) : RQ r H (AA r i) Z=NN r (yy r i) i+(ind (Lt (AA r i) Z (AA r i)<|AA r<|i-1)*AK r H (i-1)+ind (Lt (AA r i) Z (AA r i)<|AA r<|i+1)*AK r H i):=by
 have h3:=S.l3;have hN:NN r (yy r i) i=NN r H i:=by
  rcases hH with rfl|rfl
  .rfl
  .exact S.eO gU gV
 have hp:∀a b:Int,(a-b)%(r.length)=0->ind (Lt (AA r i) Z (AA r a)<|AA r<|a+1)*AK r H a-ind (Lt (AA r i) (AA r i) (AA r a)<|AA r<|a+1)*AK r H a=ind (Lt (AA r i) Z (AA r b)<|AA r<|b+1)*AK r H b-ind (Lt (AA r i) (AA r i) (AA r b)<|AA r<|b+1)*AK r H b:=λa b z=>by simp only[Az z,Az<|Bx z,Fb z]
 have hd:RQ r H (AA r i) Z=NN r H i+AV (λk=>ind (Lt (AA r i) Z (AA r k)<|AA r<|k+1)*AK r H k-ind (Lt (AA r i) (AA r i) (AA r k)<|AA r<|k+1)*AK r H k) r.length:=by
  delta RQ NN
  rw[<-EY];exact Bz λk _=>U
 simp only[hd,hN,<-QT U hp<|i-1]
 congr 1
 rw[VC (c:=0) (d:=1) U U λm hm m0 m1=>?_]
 .show ind (Lt (AA r i) Z (AA r<|i-1+0)<|AA r<|i-1+0+1)*AK r H (i-1+0)-ind (Lt (AA r i) (AA r i) (AA r<|i-1+0)<|AA r<|i-1+0+1)*AK r H (i-1+0)+(ind (Lt (AA r i) Z (AA r<|i-1+1)<|AA r<|i-1+1+1)*AK r H (i-1+1)-ind (Lt (AA r i) (AA r i) (AA r<|i-1+1)<|AA r<|i-1+1+1)*AK r H (i-1+1))=_;rw[show i-1+0=i-1 by lia,show i-1+1=i by lia];have r1:=S.A5 gU gV (.inr (by rw[show i-(i-1)=1 by lia,AAh U U]));rw[show i-1+1=i by lia]at r1;rw[Ah r1,Ah<|S.A5 gU gV (k:=i)<|.inl AAd];have e:ind (Lt (AA r i) Z (AA r<|i-1)<|AA r i)=ind (Lt (AA r i) Z (AA r i)<|AA r<|i-1):=by
   by_cases c:Lt (AA r i) Z (AA r<|i-1)<|AA r i
   .rw[Ax c,Ax<|FW c]
   .rw[Ah c,Ah λz=>c<|FW z]
  rw[e];lia
 .have a:(i-(i-1+(m)))%(r.length)≠0:=λc=>by have:=CJ c;rw[show i-1+(m)-i=m-1 by lia,AAh U U]at this;lia
  have b:(i-(i-1+(m)))%(r.length)≠1:=λc=>by have:=CJ<|Dv U c;rw[show i-1+(m)-(i-1)=m by lia,AAh U U]at this;lia
  generalize i-1+(m)=k at a b ⊢;by_cases hz:AK r H k=0
  .lia
  .have rs:=C4 hz;obtain⟨q,s,hq,s0,s1,ey,_,_⟩:=LV (h:=yy r i) (by show yy r k≠yy r (k+1);omega) (by unfold yy at rs hH ⊢;lia);rcases S.Uw gU gV a b hq s0 s1 ey with⟨_,l⟩|⟨_,l,l'⟩
   .rw[Ax l,Ax (show Lt (AA r i) Z (AA r k) (AA r<|k+1)from Pl l)];lia
   .have n1:=λc=>hZ k a b c<|LN l;lia
end
theorem FV{p:Prop}{x:Int}(h:p↔x>0):(x>0/\ind p=1)\/(x<=0/\ind p=0):=by
 by_cases c:x>0
 .exact .inl ⟨c,Ax<|h.mpr c⟩
 .exact .inr ⟨U,Ah λz=>c<|h.mp z⟩
theorem JT{p q t a b c:Int}(hp:0<p)(hq:0<q)(ht:0<t)(h:p*a=q*c+t*b)(ha:a≠0\/b≠0\/c≠0):(0<a\/b<0\/c<0)/\(a<0\/0<b\/0<c):=by
 have z:p*a=0->q*c=0->t*b=0->False:=λx y z=>by have x:=AAp.mp x;have y:=AAp.mp y;have z:=AAp.mp z;lia
 constructor
 .by_cases x:0<a
  .exact .inl x
  .by_cases y:b<0
   .exact .inr<|.inl y
   .by_cases w:c<0
    .exact .inr<|.inr w
    .have m1:=AAt (AAm hp) (U:a<=0);have m2:=AAo (AAm hq) (U:0<=c);have m3:=AAo (AAm ht) (U:0<=b);exact(z U U U).elim
 .by_cases x:a<0
  .exact .inl x
  .by_cases y:0<b
   .exact .inr<|.inl y
   .by_cases w:0<c
    .exact .inr<|.inr w
    .have m1:=AAo (AAm hp) (U:0<=a);have m2:=AAt (AAm hq) (U:c<=0);have m3:=AAt (AAm ht) (U:b<=0);exact(z U U U).elim
theorem IY{a b c E:Int}(h:(a>0/\b>0/\c>0)\/(¬ a>0/\(b>0\/c>0)))(e:E=1):(E=1/\((a>0/\b>0/\c>0)\/(¬ a>0/\(b>0\/c>0))))\/(E=0/\¬ ((a>0/\b>0/\c>0)\/(¬ a>0/\(b>0\/c>0)))):=.inl ⟨e,h⟩
theorem IX{a b c E:Int}(h:¬ ((a>0/\b>0/\c>0)\/(¬ a>0/\(b>0\/c>0))))(e:E=0):(E=1/\((a>0/\b>0/\c>0)\/(¬ a>0/\(b>0\/c>0))))\/(E=0/\¬ ((a>0/\b>0/\c>0)\/(¬ a>0/\(b>0\/c>0)))):=.inr ⟨e,h⟩
theorem jr{a b c N i1 i2 i3:Int}(ha:a≠0)(hb:b≠0)(hc : -c≠0)(hN:N+i1=1)(k1:((a>0/\i1=1)\/(a<=0/\i1=0)))(k2:((c>0/\i2=1)\/(c<=0/\i2=0)))(k3:((-b>0/\i3=1)\/(-b<=0/\i3=0)))(tr:((0<a\/b<0\/c<0)/\(a<0\/0<b\/0<c))):(N+(i2*1+i3 * -1)=1/\((a>0/\b>0/\c>0)\/(¬ a>0/\(b>0\/c>0))))\/(N+(i2*1+i3 * -1)=0/\¬ ((a>0/\b>0/\c>0)\/(¬ a>0/\(b>0\/c>0)))):=by rcases k1 with⟨x1,rfl⟩|⟨x1,rfl⟩<;>rcases k2 with⟨x2,rfl⟩|⟨x2,rfl⟩<;>rcases k3 with⟨x3,rfl⟩|⟨x3,rfl⟩<;>first|(refine IY ?_ (by clear tr;lia);lia)|(refine IX ?_ (by clear tr;lia);lia)|(exfalso;lia)
theorem jt{a b c N i2 j:Int}(hc : -c≠0)(hN:N=0)(k2:((c>0/\i2=1)\/(c<=0/\i2=0)))(tr:((0<a\/b<0\/-c<0)/\(a<0\/0<b\/0 < -c))):(N+(i2*1+j*0)=1/\((a>0/\b>0/\c>0)\/(¬ a>0/\(b>0\/c>0))))\/(N+(i2*1+j*0)=0/\¬ ((a>0/\b>0/\c>0)\/(¬ a>0/\(b>0\/c>0)))):=by rcases k2 with⟨x2,rfl⟩|⟨x2,rfl⟩<;>first|(refine IY ?_ U;lia)|(refine IX ?_ U;lia)|(exfalso)
theorem ju{a b c N i3 j:Int}(hb:b≠0)(hN:N=1)(k3:((-b>0/\i3=1)\/(-b<=0/\i3=0)))(tr:((0<a\/-b<0\/c<0)/\(a<0\/0 < -b\/0<c))):(N+(j*0+i3 * -1)=1/\((a>0/\b>0/\c>0)\/(¬ a>0/\(b>0\/c>0))))\/(N+(j*0+i3 * -1)=0/\¬ ((a>0/\b>0/\c>0)\/(¬ a>0/\(b>0\/c>0)))):=by rcases k3 with⟨x3,rfl⟩|⟨x3,rfl⟩<;>first|(refine IY ?_ U;lia)|(refine IX ?_ U;lia)|(exfalso)
theorem jv{a b c N i1 j j2:Int}(ha:a≠0)(hN:N=i1)(k1:((-a>0/\i1=1)\/(-a<=0/\i1=0)))(tr:((0<a\/-b<0\/-c<0)/\(a<0\/0 < -b\/0 < -c))):(N+(j*0+j2*0)=1/\((a>0/\b>0/\c>0)\/(¬ a>0/\(b>0\/c>0))))\/(N+(j*0+j2*0)=0/\¬ ((a>0/\b>0/\c>0)\/(¬ a>0/\(b>0\/c>0)))):=by rcases k1 with⟨x1,rfl⟩|⟨x1,rfl⟩<;>first|(refine IY ?_ U;lia)|(refine IX ?_ U;lia)|(exfalso)
theorem jw{a b c N i1 j j2:Int}(ha:a≠0)(hN:N+i1=1)(k1:((a>0/\i1=1)\/(a<=0/\i1=0)))(tr:((0<a\/-b<0\/-c<0)/\(a<0\/0 < -b\/0 < -c))):(N+(j*0+j2*0)=1/\((a>0/\b>0/\c>0)\/(¬ a>0/\(b>0\/c>0))))\/(N+(j*0+j2*0)=0/\¬ ((a>0/\b>0/\c>0)\/(¬ a>0/\(b>0\/c>0)))):=by rcases k1 with⟨x1,rfl⟩|⟨x1,rfl⟩<;>first|(refine IY ?_ U;lia)|(refine IX ?_ U;lia)|(exfalso)
theorem jx{a b c N i3 j:Int}(hb:b≠0)(hN:N=0)(k3:((b>0/\i3=1)\/(b<=0/\i3=0)))(tr:((0<a\/-b<0\/c<0)/\(a<0\/0 < -b\/0<c))):(N+(j*0+i3*1)=1/\((a>0/\b>0/\c>0)\/(¬ a>0/\(b>0\/c>0))))\/(N+(j*0+i3*1)=0/\¬ ((a>0/\b>0/\c>0)\/(¬ a>0/\(b>0\/c>0)))):=by rcases k3 with⟨x3,rfl⟩|⟨x3,rfl⟩<;>first|(refine IY ?_ U;lia)|(refine IX ?_ U;lia)|(exfalso)
theorem jy{a b c N i2 j:Int}(hc : -c≠0)(hN:N=1)(k2:((-c>0/\i2=1)\/(-c<=0/\i2=0)))(tr:((0<a\/b<0\/-c<0)/\(a<0\/0<b\/0 < -c))):(N+(i2 * -1+j*0)=1/\((a>0/\b>0/\c>0)\/(¬ a>0/\(b>0\/c>0))))\/(N+(i2 * -1+j*0)=0/\¬ ((a>0/\b>0/\c>0)\/(¬ a>0/\(b>0\/c>0)))):=by rcases k2 with⟨x2,rfl⟩|⟨x2,rfl⟩<;>first|(refine IY ?_ U;lia)|(refine IX ?_ U;lia)|(exfalso)
theorem jz{a b c N i1 i2 i3:Int}(ha:a≠0)(hb:b≠0)(hc : -c≠0)(hN:N=i1)(k1:((-a>0/\i1=1)\/(-a<=0/\i1=0)))(k2:((-c>0/\i2=1)\/(-c<=0/\i2=0)))(k3:((b>0/\i3=1)\/(b<=0/\i3=0)))(tr:((0<a\/b<0\/c<0)/\(a<0\/0<b\/0<c))):(N+(i2 * -1+i3*1)=1/\((a>0/\b>0/\c>0)\/(¬ a>0/\(b>0\/c>0))))\/(N+(i2 * -1+i3*1)=0/\¬ ((a>0/\b>0/\c>0)\/(¬ a>0/\(b>0\/c>0)))):=by rcases k1 with⟨x1,rfl⟩|⟨x1,rfl⟩<;>rcases k2 with⟨x2,rfl⟩|⟨x2,rfl⟩<;>rcases k3 with⟨x3,rfl⟩|⟨x3,rfl⟩<;>first|(refine IY ?_ (by clear tr;lia);lia)|(refine IX ?_ (by clear tr;lia);lia)|(exfalso;lia)
theorem yT{yA yB yU yV a b c:Int}(h:(yB-yA)*a=(yV-yA)*c+(yU-yA)*b):(yA-yB)*a=(yA-yV)*c+(yA-yU)*b:=AAb
theorem yW{yA yB yU yV a b c:Int}(h:(yB-yA)*a=(yV-yA)*c+(yU-yA)*b):(yA-yB)*a=(yV-yA) * -c+(yA-yU)*b:=AAb
theorem yX{yA yB yU yV a b c:Int}(h:(yB-yA)*a=(yV-yA)*c+(yU-yA)*b):(yA-yB)*a=(yA-yV)*c+(yU-yA) * -b:=AAb
theorem yY{yA yB yU yV a b c:Int}(h:(yB-yA)*a=(yV-yA)*c+(yU-yA)*b):(yA-yB)*a=(yV-yA) * -c+(yU-yA) * -b:=AAb
theorem yZ{yA yB yU yV a b c:Int}(h:(yB-yA)*a=(yV-yA)*c+(yU-yA)*b):(yB-yA)*a=(yA-yV) * -c+(yA-yU) * -b:=AAb
theorem ya{yA yB yU yV a b c:Int}(h:(yB-yA)*a=(yV-yA)*c+(yU-yA)*b):(yB-yA)*a=(yV-yA)*c+(yA-yU) * -b:=AAb
theorem yc{yA yB yU yV a b c:Int}(h:(yB-yA)*a=(yV-yA)*c+(yU-yA)*b):(yB-yA)*a=(yA-yV) * -c+(yU-yA)*b:=AAb
theorem yd{yA yB yU yV a b c:Int}(h:(yB-yA)*a=(yV-yA)*c+(yU-yA)*b):(yB-yA)*a=(yV-yA)*c+(yU-yA)*b:=AAb
def Dl(AAa A V B:Pt):Prop:=(AG AAa A V>0/\AG A V B>0/\AG AAa A B>0)\/(¬ AG AAa A V>0/\(AG A V B>0\/AG AAa A B>0))
theorem Probe.WX{r:List Pt}(S:A6 r)(C:∀{h j:Int},AK r h j≠0->cc r h j=1){i j:Int}(p:Probe r i j)(gU:yy r (i-1)≠yy r i)(gV:yy r (i+1)≠yy r i)(gB:yy r j≠yy r i) : ∃H,((yy r i<=H/\H<yy r j)\/(yy r j<=H/\H<yy r i))/\((RQ r H (AA r i) (AA r j)=1/\Dl (AA r<|i-1) (AA r i) (AA r<|i+1) (AA r j))\/(RQ r H (AA r i) (AA r j)=0/\¬ Dl (AA r<|i-1) (AA r i) (AA r<|i+1) (AA r j))):=by
 have h3:=S.l3;have em:i-1+1=i:=U
 have sQ:=λ{H:Int}(hH:H=yy r i\/H=yy r i-1)=>S.star gU gV (Z:=AA r j) (λk _ _ c=>p.nc S k c) hH;have sV:=λ{H:Int}(hH:H=yy r i\/H=yy r i-1)=>S.star gU gV (Z:=AA r<|i+1) (λk a _ c=>S.nc (i:=i) (j:=k) a c) hH;have sU:=λ{H:Int}(hH:H=yy r i\/H=yy r i-1)=>S.star gU gV (Z:=AA r<|i-1) (λk _ b c z=>by
  have Ap:(i-1-k)%(r.length:Int)≠0:=λw=>b (by have:=mod_succ (n:=(r.length:Int)) U w;rw[show i-1+1-k=i-k by lia]at this;exact this)
  refine S.nc (i:=i-1) (j:=k) Ap ?_ ?_
  .unfold L;rw[em];exact E9 c
  .unfold L;rw[em];exact FW z) hH
 have eV:∀H,RQ r H (AA r i) (AA r<|i+1)=Rr r H i:=λH=>rfl;have eU:∀H,RQ r H (AA r i) (AA r<|i-1)=Rr r H (i-1):=λH=>by
  refine Bz λk _=>?_;unfold L;rw[em];by_cases c:Lt (AA r i) (AA r<|i-1) (AA r (k:Int))<|AA r<|(k:Int)+1
  .rw[Ax c,Ax<|E9 c]
  .rw[Ah c,Ah λz=>c<|E9 z]
 have iV:ind (Lt (AA r i) (AA r<|i+1) (AA r i)<|AA r<|i+1)=0:=Ah<|FN r i λc=>gV c.symm;have iU:ind (Lt (AA r i) (AA r<|i-1) (AA r i)<|AA r<|i-1)=0:=Ah λc=>FN r (i-1) (by rw[em];exact gU) (by unfold L;rw[em];exact E9<|FW c);have fA:CK (AA r i) (AA r<|i-1)<|AA r<|i+1:=by have:=S.fork<|i-1;rw[em]at this;exact this
 have Iz:((AA r j).2-(AA r i).2)*AG (AA r<|i-1) (AA r i) (AA r<|i+1)=((AA r<|i+1).2-(AA r i).2)*AG (AA r<|i-1) (AA r i) (AA r j)+((AA r<|i-1).2-(AA r i).2)*AG (AA r i) (AA r<|i+1) (AA r j):=by unfold AG;grind
 have t1:AG (AA r i) (AA r<|i-1) (AA r j) = - AG (AA r<|i-1) (AA r i) (AA r j):=by unfold AG;grind
 have t2:AG (AA r i) (AA r j) (AA r<|i-1)=AG (AA r<|i-1) (AA r i) (AA r j):=by unfold AG;grind
 have t3:AG (AA r i) (AA r j) (AA r<|i+1) = - AG (AA r i) (AA r<|i+1) (AA r j):=by unfold AG;grind
 have t4:AG (AA r i) (AA r<|i-1) (AA r<|i+1) = - AG (AA r<|i-1) (AA r i) (AA r<|i+1):=by unfold AG;grind
 have t5:AG (AA r i) (AA r<|i+1) (AA r<|i-1)=AG (AA r<|i-1) (AA r i) (AA r<|i+1):=by unfold AG;grind
 have Ol:((AA r i).2<(AA r<|i-1).2/\(AA r i).2<(AA r<|i+1).2)\/((AA r<|i-1).2<(AA r i).2/\(AA r<|i+1).2<(AA r i).2)->AG (AA r<|i-1) (AA r i) (AA r<|i+1)≠0:=λh c=>SK fA h (by rw[t4,c];rfl);have Oa:=SK<|p.MT S;have Ob:=SK<|p.Jq S;have uU:yy r (i-1)=(AA r<|i-1).2:=rfl;have uV:yy r (i+1)=(AA r<|i+1).2:=rfl;have uA:yy r i=(AA r i).2:=rfl;have uB:yy r j=(AA r j).2:=rfl;have cV:∀{H:Int},AK r H i≠0->Rr r H i+ind (yy r i<yy r (i+1))=1:=λh=>C h;have cU:∀{H:Int},AK r H (i-1)≠0->Rr r H (i-1)+ind (yy r (i-1)<yy r i)=1:=λh=>by have:=C h;unfold cc at this;rw[em]at this;exact this
 have key:∀(H:Int)(z:Int),RQ r H (AA r i) (AA r j)=z->((z=1/\Dl (AA r<|i-1) (AA r i) (AA r<|i+1) (AA r j))\/(z=0/\¬ Dl (AA r<|i-1) (AA r i) (AA r<|i+1) (AA r j)))->((RQ r H (AA r i) (AA r j)=1/\Dl (AA r<|i-1) (AA r i) (AA r<|i+1) (AA r j))\/(RQ r H (AA r i) (AA r j)=0/\¬ Dl (AA r<|i-1) (AA r i) (AA r<|i+1) (AA r j))):=λH z e h=>by rw[e];exact h
 rcases ABB gB with bB|bB
 .-- JR VR ka down
  refine⟨yy r i-1,.inr ⟨U,U⟩,key _ _ (sQ<|.inr rfl) ?_⟩;rcases ABB gU with bU|bU<;>rcases ABB gV with bV|bV
  .-- both below
   have n1:=Oa<|.inr ⟨U,U⟩;have n2:=Ob<|.inr ⟨U,U⟩;have s1:AK r (yy r i-1) (i-1)=1:=by unfold AK;rw[em,AAl ⟨U,U⟩]
   have s2:AK r (yy r i-1) i = -1:=FE U U;have e1:=sV<|.inr rfl;rw[eV,iV,s1,s2]at e1;have c1:=cV (H:=yy r i-1) U;rw[Ah U]at c1;have k1:=FV<|Kp (A:=AA r i) (X:=AA r<|i+1) (Y:=AA r<|i-1) U U;have k2:=FV<|Kp (A:=AA r i) (X:=AA r j) (Y:=AA r<|i-1) U U;have k3:=FV<|Kp (A:=AA r i) (X:=AA r j) (Y:=AA r<|i+1) U U;rw[t5]at k1;rw[t2]at k2;rw[t3]at k3;rw[t1]at n2;rw[s1,s2];have Ft:=Ol<|.inr ⟨bU,bV⟩;exact jr Ft n1 n2 U k1 k2 k3<|JT (p:=((AA r i).2-(AA r j).2)) (q:=((AA r i).2-(AA r<|i+1).2)) (t:=((AA r i).2-(AA r<|i-1).2)) (b:=AG (AA r i) (AA r<|i+1)<|AA r j) (c:=AG (AA r<|i-1) (AA r i)<|AA r j) U U U (yT Iz)<|.inl Ft
  .-- AAa below,V above
   have n2:=Ob<|.inr ⟨U,U⟩;have s1:AK r (yy r i-1) (i-1)=1:=by unfold AK;rw[em,AAl ⟨U,U⟩]
   have s2:AK r (yy r i-1) i=0:=by unfold AK;rw[AAj U,AAj U]
   have e1:=sU<|.inr rfl;rw[eU,iU,s1,s2]at e1;have c1:=cU (H:=yy r i-1) U;rw[Ax U]at c1;have k2:=FV<|Kp (A:=AA r i) (X:=AA r j) (Y:=AA r<|i-1) U U;rw[t2]at k2;rw[t1]at n2;rw[s1,s2];exact jt n2 U k2<|JT (p:=((AA r i).2-(AA r j).2)) (q:=((AA r<|i+1).2-(AA r i).2)) (t:=((AA r i).2-(AA r<|i-1).2)) (b:=AG (AA r i) (AA r<|i+1)<|AA r j) (c:=-AG (AA r<|i-1) (AA r i) (AA r j)) U U U (yW Iz)<|.inr<|.inr n2
  .-- AAa above,V below
   have n1:=Oa<|.inr ⟨U,U⟩;have s1:AK r (yy r i-1) (i-1)=0:=by unfold AK;rw[em,AAj U,AAj U]
   have s2:AK r (yy r i-1) i = -1:=FE U U;have e1:=sV<|.inr rfl;rw[eV,iV,s1,s2]at e1;have c1:=cV (H:=yy r i-1) U;rw[Ah U]at c1;have k3:=FV<|Kp (A:=AA r i) (X:=AA r j) (Y:=AA r<|i+1) U U;rw[t3]at k3;rw[s1,s2];exact ju n1 U k3<|JT (p:=((AA r i).2-(AA r j).2)) (q:=((AA r i).2-(AA r<|i+1).2)) (t:=((AA r<|i-1).2-(AA r i).2)) (b:=-AG (AA r i) (AA r<|i+1) (AA r j)) (c:=AG (AA r<|i-1) (AA r i)<|AA r j) U U U (yX Iz)<|.inr<|.inl<|Int.neg_ne_zero.mpr n1
  .-- both above
   have s1:AK r (yy r i-1) (i-1)=0:=by unfold AK;rw[em,AAj U,AAj U]
   have s2:AK r (yy r i-1) i=0:=by unfold AK;rw[AAj U,AAj U]
   have s3:AK r (yy r i) (i-1) = -1:=by unfold AK;rw[em,AAj U,AAl ⟨U,U⟩]
   have s4:AK r (yy r i) i=1:=FF U U;have e1:=sV<|.inl rfl;rw[eV,iV,s3,s4]at e1;have c1:=cV (H:=yy r i) U;rw[Ax U]at c1;have k1:=FV<|Jg (A:=AA r i) (X:=AA r<|i+1) (Y:=AA r<|i-1) U U;rw[t4]at k1;rw[s1,s2];have Ft:=Ol<|.inl ⟨bU,bV⟩;exact jv Ft AAc k1<|JT (p:=((AA r i).2-(AA r j).2)) (q:=((AA r<|i+1).2-(AA r i).2)) (t:=((AA r<|i-1).2-(AA r i).2)) (b:=-AG (AA r i) (AA r<|i+1) (AA r j)) (c:=-AG (AA r<|i-1) (AA r i) (AA r j)) AAc AAc AAc (yY Iz)<|.inl Ft
 .-- JR VR ka up
  refine⟨yy r i,.inl ⟨AAc,AAc⟩,key _ _ (sQ<|.inl rfl) ?_⟩;rcases ABB gU with bU|bU<;>rcases ABB gV with bV|bV
  .-- both below
   have s1:AK r (yy r i) (i-1)=0:=by unfold AK;rw[em,AAj U,AAj U]
   have s2:AK r (yy r i) i=0:=by unfold AK;rw[AAj U,AAj U]
   have s3:AK r (yy r i-1) (i-1)=1:=by unfold AK;rw[em,AAl ⟨U,U⟩]
   have s4:AK r (yy r i-1) i = -1:=FE U U;have e1:=sV<|.inr rfl;rw[eV,iV,s3,s4]at e1;have c1:=cV (H:=yy r i-1) U;rw[Ah U]at c1;have k1:=FV<|Kp (A:=AA r i) (X:=AA r<|i+1) (Y:=AA r<|i-1) AAc AAc;rw[t5]at k1;rw[s1,s2];have Ft:=Ol<|.inr ⟨bU,bV⟩;exact jw Ft AAc k1<|JT (p:=((AA r j).2-(AA r i).2)) (q:=((AA r i).2-(AA r<|i+1).2)) (t:=((AA r i).2-(AA r<|i-1).2)) (b:=-AG (AA r i) (AA r<|i+1) (AA r j)) (c:=-AG (AA r<|i-1) (AA r i) (AA r j)) AAc AAc AAc (yZ Iz)<|.inl Ft
  .-- AAa below,V above
   have n1:=Oa<|.inl ⟨AAc,AAc⟩;have s1:AK r (yy r i) (i-1)=0:=by unfold AK;rw[em,AAj AAc,AAj AAc]
   have s2:AK r (yy r i) i=1:=FF AAc AAc;have e1:=sV<|.inl rfl;rw[eV,iV,s1,s2]at e1;have c1:=cV (H:=yy r i) AAc;rw[Ax AAc]at c1;have k3:=FV<|Jg (A:=AA r i) (X:=AA r j) (Y:=AA r<|i+1) AAc AAc;rw[s1,s2];exact jx n1 AAc k3<|JT (p:=((AA r j).2-(AA r i).2)) (q:=((AA r<|i+1).2-(AA r i).2)) (t:=((AA r i).2-(AA r<|i-1).2)) (b:=-AG (AA r i) (AA r<|i+1) (AA r j)) (c:=AG (AA r<|i-1) (AA r i)<|AA r j) AAc AAc AAc (ya Iz)<|.inr<|.inl<|Int.neg_ne_zero.mpr n1
  .-- AAa above,V below
   have n2:=Ob<|.inl ⟨AAc,AAc⟩;have s1:AK r (yy r i) (i-1) = -1:=by unfold AK;rw[em,AAj AAc,AAl ⟨AAc,AAc⟩]
   have s2:AK r (yy r i) i=0:=by unfold AK;rw[AAj AAc,AAj AAc]
   have e1:=sU<|.inl rfl;rw[eU,iU,s1,s2]at e1;have c1:=cU (H:=yy r i) AAc;rw[Ah U]at c1;have k2:=FV<|Jg (A:=AA r i) (X:=AA r j) (Y:=AA r<|i-1) AAc AAc;rw[t1]at k2;rw[t1]at n2;rw[s1,s2];exact jy n2 AAc k2<|JT (p:=((AA r j).2-(AA r i).2)) (q:=((AA r i).2-(AA r<|i+1).2)) (t:=((AA r<|i-1).2-(AA r i).2)) (b:=AG (AA r i) (AA r<|i+1)<|AA r j) (c:=-AG (AA r<|i-1) (AA r i) (AA r j)) AAc AAc AAc (yc Iz)<|.inr<|.inr n2
  .-- both above
   have n2:=Ob<|.inl ⟨AAc,AAc⟩;have s1:AK r (yy r i) (i-1) = -1:=by unfold AK;rw[em,AAj AAc,AAl ⟨AAc,AAc⟩]
   have s2:AK r (yy r i) i=1:=FF U U;have e1:=sV<|.inl rfl;rw[eV,iV,s1,s2]at e1;have c1:=cV (H:=yy r i) U;rw[Ax U]at c1;have k1:=FV<|Jg (A:=AA r i) (X:=AA r<|i+1) (Y:=AA r<|i-1) AAc AAc;have k2:=FV<|Jg (A:=AA r i) (X:=AA r j) (Y:=AA r<|i-1) AAc AAc;rw[t4]at k1;rw[t1]at k2;rw[t1]at n2;rw[s1,s2];have Ft:=Ol<|.inl ⟨bU,bV⟩;exact jz Ft (Oa<|.inl ⟨AAc,AAc⟩) n2 AAc k1 k2 (FV<|Jg (A:=AA r i) (X:=AA r j) (Y:=AA r<|i+1) AAc AAc)<|JT (p:=((AA r j).2-(AA r i).2)) (q:=((AA r<|i+1).2-(AA r i).2)) (t:=((AA r<|i-1).2-(AA r i).2)) (b:=AG (AA r i) (AA r<|i+1)<|AA r j) (c:=AG (AA r<|i-1) (AA r i)<|AA r j) AAc AAc AAc (yd Iz)<|.inl Ft
theorem ZD(k:Int):Keeps (lean k) 1 where
 one:=.inl rfl
 sd:=λa b c=>by rw[NR,ADg]
 at_:=λa b p=>by
  unfold At lean;constructor
  .rintro⟨q,s,h1,h2,h3,e1,e2⟩;exact⟨q,s,h1,h2,h3,by dsimp only at *;grind,AAb⟩
  .rintro⟨q,s,h1,h2,h3,e1,e2⟩;exact⟨q,s,h1,h2,h3,by dsimp only at *;grind,AAb⟩
 inj:=λa b h=>by unfold lean at h;rw[ACr]at h;obtain⟨h1,h2⟩:=h;rw[h1]at h2;exact ABS h1 U
theorem bO{k:Int}{a b c d:Pt}(h:Bk (lean k a) (lean k b) (lean k c)<|lean k d):Bk a b c d:=by obtain⟨q,s,t,h1,h2,h3,h4,h5,e1,e2⟩:=h;unfold lean at e1 e2;dsimp only at e1 e2;exact⟨q,s,t,h1,h2,h3,h4,h5,e1,AAb⟩
theorem rV{a1 a2 b1 b2 c1 c2:Int}(ha:¬ (a1=0/\a2=0))(hb:¬ (b1=0/\b2=0))(hc:¬ (c1=0/\c2=0)):∃k:Int,0<k/\a2+k*a1≠0/\b2+k*b1≠0/\c2+k*c1≠0:=by
 by_cases h1:a2+1*a1≠0/\b2+1*b1≠0/\c2+1*c1≠0
 .exact⟨1,U,h1⟩
 by_cases h2:a2+2*a1≠0/\b2+2*b1≠0/\c2+2*c1≠0
 .exact⟨2,U,h2⟩
 by_cases h3:a2+3*a1≠0/\b2+3*b1≠0/\c2+3*c1≠0
 .exact⟨3,U,h3⟩
 .exact⟨4,U,U,U,U⟩
theorem Qq{k:Int}{AAa A V B:Pt}:Dl (lean k AAa) (lean k A) (lean k V) (lean k B)↔Dl AAa A V B:=by unfold Dl;rw[NR,NR,NR]
theorem Probe.hU{r:List Pt}(R:Rm r){i j:Int}(p:Probe r i j) : (W (r.map dbl) ((AA r i).1+(AA r j).1,(AA r i).2+(AA r j).2)=1/\Dl (AA r<|i-1) (AA r i) (AA r<|i+1) (AA r j))\/(W (r.map dbl) ((AA r i).1+(AA r j).1,(AA r i).2+(AA r j).2)=0/\¬ Dl (AA r<|i-1) (AA r i) (AA r<|i+1) (AA r j)):=by
 have S:=R.simple;have h3:=S.l3;have Mj:0<r.length:=U
 obtain⟨f0,f1,f2,f3⟩:=SD U p.Bq;rw[show -(i-j)=j-i by lia]at f2 f3;have Jv:AA r j≠AA r i:=S.distinct f2 f3;have MX:AA r (i+1)≠AA r i:=λc=>(R.Cn i) (by rw[c];unfold AG;grind);have kc:AA r (i-1)≠AA r i:=λc=>(R.Km i) (by rw[c];unfold AG;grind);have T9:∀{X Y:Pt},X≠Y->¬ (X.1-Y.1=0/\X.2-Y.2=0):=λ{X Y} h c=>h<|ABS U U;obtain⟨k,hk,k1,k2,k3⟩:=rV (T9 kc) (T9 MX)<|T9 Jv;have R':Rm<|r.map<|lean k:=R.map<|ZD k;have S':=R'.simple;have hc:∀m,AA (r.map<|lean k) m=lean k (AA r m):=λm=>Kr Mj k m;have hy:∀m,yy (r.map<|lean k) m=(AA r m).2+k*(AA r m).1:=λm=>by unfold yy;rw[hc];rfl
 have p':Probe (r.map<|lean k) i j:=by refine Ua S' R'.Cn (by rw[AAi];exact p.Bq) λm a b c d h=>?_;rw[AAi]at a b c d;rw[hc,hc,hc,hc]at h;exact p.nt m a b c d<|bO h
 have hW:W (r.map dbl) ((AA r i).1+(AA r j).1,(AA r i).2+(AA r j).2)=W ((r.map<|lean k).map dbl) ((AA (r.map<|lean k) i).1+(AA (r.map<|lean k) j).1,(AA (r.map<|lean k) i).2+(AA (r.map<|lean k) j).2):=by
  have:=eh (r:=r.map dbl) (by simpa using Mj) hk (p:=((AA r i).1+(AA r j).1,(AA r i).2+(AA r j).2)) (λm=>by rw[DL Mj,DL Mj];exact p.T7 S m)
  rw[<-this,hc,hc]
  congr 1
  .rw[ABO,ABO];apply ACU;intro x _;unfold lean dbl;simp only[Function.comp];exact ABS rfl AAb
  .unfold lean;exact ABS rfl AAb
 have em:∀a b c d:Int,b-d+k*(a-c)≠0->b+k*a≠d+k*c:=λa b c d h z=>h AAb;obtain⟨H,hH,Yh⟩:=Probe.WX S' (λh=>R'.WJ h) p' (by rw[hy,hy];exact em _ _ _ _ k1) (by rw[hy,hy];exact em _ _ _ _ k2) (by rw[hy,hy];exact em _ _ _ _ k3);have hm:=p'.mid S';rw[p'.along S' (h:=(yy (r.map<|lean k) i+yy (r.map<|lean k) j) / 2) (h':=H) U hH]at hm;rw[hW,hm];rw[hc,hc,hc,hc,Qq]at Yh;rw[hc,hc];exact Yh
def pr(a b p:Pt):Bool:=((decide (a.2>p.2)) != (decide (b.2>p.2)))&&(if decide (b.2>p.2)=true then decide (AG a b p>0)else decide (AG a b p<0))
theorem r9(a b p:Pt):(pr a b p=true/\(fw a b p=1\/fw a b p = -1))\/(pr a b p=false/\fw a b p=0):=by unfold pr fw;by_cases h1:a.2>p.2<;>by_cases h2:b.2>p.2<;>by_cases h3:AG a b p>0<;>by_cases h4:AG a b p<0<;>simp[h1,h2,h3,h4]<;>lia
theorem Zw(r:List Pt)(p:Pt):∀n:Nat,(((List.range n).filter λk:Nat=>pr (AA r k) (AA r<|(k:Int)+1) p).length:Int)%2=AV (λj=>fw (AA r j) (AA r<|j+1) p) n%2
 |0=>rfl
 |n+1=>by
  have ih:=Zw r p n;rw[ACL,ADn,ABA,AV];rcases r9 (AA r (n:Int)) (AA r<|(n:Int)+1) p with⟨a,b⟩|⟨a,b⟩
  .have:([n].filter λk:Nat=>pr (AA r k) (AA r<|(k:Int)+1) p).length=1:=by simp[a]
   rw[this];lia
  .have:([n].filter λk:Nat=>pr (AA r k) (AA r<|(k:Int)+1) p).length=0:=by simp[a]
   rw[this,b];lia
theorem A6.pM{r:List Pt}(S:A6 r){p:Pt}(hp:∀j:Int,¬ At (AA r j) (AA r<|j+1) p):(((List.range r.length).filter λk:Nat=>pr (AA r k) (AA r<|(k:Int)+1) p).length:Int)%2=1↔W r p≠0:=by
 rw[Zw];have:=S.ee (p:=p);unfold W at *
 lia
section
variable{r:List Pt}(S:A6 r)
include S
theorem A6.bY(k:Int):AA r (k+1)≠AA r k:=λc=>by have:=(S.fork k 1 0 U U U U).1;lia
theorem A6.inj{m j:Int}(e:AA r m=AA r j):(m-j)%(r.length)=0:=by
 rcases S.cases m j with a|a|a|a
 .exact a
 .exact absurd ((S.next a).1.symm.trans e) (S.bY j)
 .exact absurd ((S.next a).1.symm.trans e.symm) (S.bY m)
 .exact absurd e (S.distinct a.1 a.2.1)
end
def Gd(r:List Pt)(A B:Pt)(k:Int):Bool:=(!(decide (A=AA r k)||decide (A=AA r (k+1))))&&(!(decide (B=AA r k)||decide (B=AA r (k+1))))
def IA(r:List Pt)(A B:Pt):Bool:=(List.range r.length).any λk=>Gd r A B k&&BD A B (AA r k) (AA r<|(k:Int)+1)
def KA(r:List Pt)(i j:Int):Bool:=(List.range r.length).any λk=>((!((k:Int)==i||(k:Int)==j))&&An (AA r i) (AA r j) (AA r k))||(((!((k:Int)==i||(k:Int)==j))&&(!(((k:Int)+1)%(r.length:Int)==i||((k:Int)+1)%(r.length:Int)==j)))&&BW (AA r i) (AA r j) (AA r k) (AA r<|((k:Int)+1)%(r.length:Int)))
theorem LO{n i k:Int}(hi:0<=i)(CT:i<n)(hk:0<=k)(Bi:k<n):(i-k)%n=0↔k=i:=by
 constructor
 .intro h;have e:(i-k)=n*((i-k) / n):=by have:=ACH (i-k) n;lia
  have h1:(i-k) / n=0:=by
   have a:(i-k) / n<1:=by apply Int.ediv_lt_of_lt_mul U;lia
   have b : -1<(i-k) / n:=by
    by_cases c : -1<(i-k) / n
    .exact c
    .exfalso;have h2:((i-k) / n+1)<=0:=U
     have h3:((i-k) / n+1)*n<=0:=AB0 h2 U;lia
   lia
  rw[h1]at e;lia
 .rintro rfl;simp
theorem Px{n i k:Int}(hn:2<=n)(hi:0<=i)(CT:i<n):(i-k)%n=1↔(k+1)%n=i:=by
 constructor
 .intro h;have:(i-(k+1))%n=0:=by rw[show i-(k+1)=(i-k)-1 by lia,ABz,h];simp
  have e:(k+1)%n=i%n:=by rw[show k+1=i-(i-(k+1))by lia,ABz,‹(i-(k+1))%n=0›];simp
  rw[e,AAh hi CT]
 .intro h;have:(i-k)%n=((k+1)%n-k)%n:=by rw[h]
  rw[this,ABz,ABI _<|ABy n,<-ABz,show k+1-k=1 by lia,AAh U U]
section
variable{r:List Pt}(S:A6 r)
include S
theorem Xl{i j k:Int}:Gd r (AA r i) (AA r j) k=true↔((i-k)%(r.length)≠0/\(i-k)%(r.length)≠1)/\((j-k)%(r.length)≠0/\(j-k)%(r.length)≠1):=by
 have h3:=S.l3;have one:∀i:Int,(AA r i=AA r k\/AA r i=AA r (k+1))↔((i-k)%(r.length)=0\/(i-k)%(r.length)=1):=λi=>by
  constructor
  .rintro(h|h)
   .exact .inl<|S.inj h
   .right;have:=S.inj h;rw[show i-k=(i-(k+1))+1 by lia,AB3,this,AAh (a:=1) U U,ABt,AAh U U]
  .rintro(h|h)
   .exact .inl<|Az h
   .exact .inr (S.next h).1
 have oi:=one i;have oj:=one j;unfold Gd;simp only[AAk,ABJ,ABN,ACo];constructor
 .rintro⟨⟨a,b⟩,c,d⟩;exact⟨⟨λz=>(oi.mpr<|.inl z).elim a b,λz=>(oi.mpr<|.inr z).elim a b⟩,λz=>(oj.mpr<|.inl z).elim c d,λz=>(oj.mpr<|.inr z).elim c d⟩
 .rintro⟨⟨a,b⟩,c,d⟩;exact⟨⟨λz=>(oi.mp<|.inl z).elim a b,λz=>(oi.mp<|.inr z).elim a b⟩,λz=>(oj.mp<|.inl z).elim c d,λz=>(oj.mp<|.inr z).elim c d⟩
theorem aY(Cn:∀k:Int,AG (AA r k) (AA r<|k+1) (AA r<|k+1+1)≠0){i j:Int}(hf:B0 r.length<|i-j):IA r (AA r i) (AA r j)=false↔Probe r i j:=by
 have h3:=S.l3;have hn:(0:Int)<r.length:=U
 unfold IA;rw[ACD];constructor
 .intro h;refine Ua S Cn hf λk a b c d hs=>?_;have k1:=AA3 k hn;have hc:=AAz<|ABC k (b:=(r.length)) U;have hk:=h (k%(r.length)).toNat<|AAr.mpr U;rw[hc]at hk;apply hk;have e1:=FR r k;have e2:AA r (k%(r.length)+1)=AA r (k+1):=by rw[<-FR r<|k%(r.length)+1,<-FR r<|k+1,AB3,ABI _<|ABy _,<-AB3]
  rw[AAk,e1,e2];refine⟨?_,T5 hs⟩;have:=(Xl S).mpr ⟨⟨a,b⟩,c,d⟩;unfold Gd at this ⊢;rw[e1,e2];exact this
 .intro p k hk;rw[AAk];rintro⟨h1,h2⟩;obtain⟨⟨a,b⟩,c,d⟩:=(Xl S).mp h1;exact p.nt k a b c d<|Uv h2
theorem Ph(Cn:∀k:Int,AG (AA r k) (AA r<|k+1) (AA r<|k+1+1)≠0){i j:Int}(hi:0<=i)(CT:i<r.length)(hj:0<=j)(CM:j<r.length)(hf:B0 r.length<|i-j):KA r i j=false↔Probe r i j:=by
 have h3:=S.l3;have hn:(0:Int)<r.length:=U
 unfold KA;rw[ACD];constructor
 .intro h;refine Ua S Cn hf λk a b c d hs=>?_;have k0:=ABC k (b:=(r.length)) U;have k1:=AA3 k hn;have hc:=AAz k0;have hk:=h (k%(r.length)).toNat<|AAr.mpr U;rw[hc]at hk;apply hk;have ec:∀x:Int,(x-k%(r.length))%(r.length)=(x-k)%(r.length):=λx=>by rw[ABz,ABI _<|ABy _,<-ABz]
  have e1:=FR r k;have e2:AA r ((k%(r.length)+1)%(r.length))=AA r (k+1):=by rw[FR,<-FR r<|k%(r.length)+1,<-FR r<|k+1,AB3,ABI _<|ABy _,<-AB3]
  rw[<-ec]at a b c d;have a':=λz=>a<|(LO hi CT k0 k1).mpr z;have c':=λz=>c<|(LO hj CM k0 k1).mpr z;have b':=λz=>b<|(Px U hi CT).mpr z;have d':=λz=>d<|(Px U hj CM).mpr z;rw[ABb];right;rw[e1,e2,Po,T5 hs,AA7.mpr a',AA7.mpr b',AA7.mpr c',AA7.mpr d']
  rfl
 .intro p k hk;have Bi:=AAr.mp hk;intro h;rw[ABb]at h;rcases h with h|h
  .simp only[AAk,ABJ,ABN,AA7]at h;obtain⟨⟨a,b⟩,c⟩:=h;exact p.cx S (λz=>a<|(LO hi CT U U).mp z) (λz=>b<|(LO hj CM U U).mp z)<|P5.mp<|FY.mp c
  .simp only[AAk,ABJ,ABN,AA7]at h;obtain⟨⟨⟨a,b⟩,c,d⟩,e⟩:=h;rw[Po,FR]at e;exact p.nt k (λz=>a<|(LO hi CT U U).mp z) (λz=>c<|(Px U hi CT).mp z) (λz=>b<|(LO hj CM U U).mp z) (λz=>d<|(Px U hj CM).mp z)<|Uv e
theorem A6.dbl:A6<|r.map dbl:=by
 have h3:=S.l3;have hn:0<r.length:=U
 refine⟨by rw[AAi];exact h3,λk=>?_,λk=>?_,λi j h hs=>?_⟩
 .rw[DL hn,DL hn,DL hn];intro s t hs ht e1 e2;unfold AM.dbl at e1 e2;exact S.fork k s t hs ht AAb AAb
 .rw[DL hn,DL hn,DL hn];have:=S.hh k;unfold AM.dbl;lia
 .rw[AAi]at h;rw[DL hn,DL hn,DL hn,DL hn]at hs;refine S.apart i j h ?_;obtain⟨q,s,t,a1,a2,a3,a4,a5,e1,e2⟩:=hs;unfold AM.dbl at e1 e2;exact⟨q,s,t,a1,a2,a3,a4,a5,AAb,AAb⟩
end
def E7(w:List Pt)(p:Pt):Bool:=!((List.range w.length).any λk=>An (AA w k) (AA w<|(k:Int)+1) p)&&((((List.range w.length).filter λk:Nat=>pr (AA w k) (AA w<|(k:Int)+1) p).length:Int)%2==1)
def MI(AAa A V B:Pt):Bool:=if AG AAa A V>0 then decide (AG A V B>0)&&decide (AG AAa A B>0)else decide (AG A V B>0)||decide (AG AAa A B>0)
theorem Rt{AAa A V B:Pt}:MI AAa A V B=true↔Dl AAa A V B:=by
 unfold MI Dl;by_cases h:AG AAa A V>0
 .simp[h]
 .simp[h]
theorem oH{r:List Pt}(R:Rm r){i j:Int}(hi:0<=i)(CT:i<r.length)(hj:0<=j)(CM:j<r.length)(hf:B0 r.length<|i-j) : (!IA r (AA r i) (AA r j)&&E7 (r.map dbl) ((AA r i).1+(AA r j).1,(AA r i).2+(AA r j).2))=(!KA r i j&&MI (AA r<|i-1) (AA r i) (AA r<|i+1) (AA r j)):=by
 have S:=R.simple;have h3:=S.l3;have hn:0<r.length:=U
 by_cases p:Probe r i j
 .rw[(aY S R.Cn hf).mpr p,(Ph S R.Cn hi CT hj CM hf).mpr p,AEF,Bool.true_and,Bool.true_and];have off:∀k:Int,¬ At (AA (r.map dbl) k) (AA (r.map dbl)<|k+1) ((AA r i).1+(AA r j).1,(AA r i).2+(AA r j).2):=λk=>by rw[DL hn,DL hn];exact p.T7 S k
  have e:E7 (r.map dbl) ((AA r i).1+(AA r j).1,(AA r i).2+(AA r j).2)=true↔W (r.map dbl) ((AA r i).1+(AA r j).1,(AA r i).2+(AA r j).2)≠0:=by
   unfold E7;rw[AAk,ABw,(S.dbl.pM off)];constructor
   .exact λh=>h.2
   .refine λh=>⟨?_,h⟩;rw[ABJ,ACD];intro k _ hk;exact off k<|P5.mp<|FY.mp hk
  rw[AB5,e,Rt];rcases p.hU R with⟨a,b⟩|⟨a,b⟩
  .rw[a];simp[b]
  .rw[a];simp[b]
 .have a:IA r (AA r i) (AA r j)=true:=by
   cases h:IA r (AA r i)<|AA r j
   .exact absurd ((aY S R.Cn hf).mp h) p
   .rfl
  have b:KA r i j=true:=by
   cases h:KA r i j
   .exact absurd ((Ph S R.Cn hi CT hj CM hf).mp h) p
   .rfl
  rw[a,b];rfl
def sub(r:List Pt)(s:Int)(l:Nat):List Pt:=(List.range<|l+1).map λk:Nat=>AA r<|s+(k:Int)
theorem sub_len(r:List Pt)(s:Int)(l:Nat):(sub r s l).length=l+1:=by unfold sub;rw[AAi,ABd]
theorem Et(r:List Pt)(s:Int)(l:Nat):((sub r s l).length:Int)=l+1:=by rw[sub_len];lia
theorem BK(r:List Pt)(s:Int)(l:Nat){k:Int}(h0:0<=k)(h1:k<=l):AA (sub r s l) k=AA r (s+k):=by have hk:=AAz h0;unfold AA;rw[Et,AAh h0 U];rw[ABW];unfold sub;rw[ABm,AEK U];simp only[ABi,Option.getD_some];unfold AA;rw[hk]
theorem HA(r:List Pt)(s:Int)(l:Nat):AA (sub r s l) (l+1)=AA r s:=by have:=Az (r:=sub r s l) (by rw[Et,ACi,AC9]);rw[this,BK r s l U U,ABG]
theorem KS(r:List Pt)(s:Int)(l:Nat)(k:Int):∃m:Int,0<=m/\m<=l/\(k-m)%((sub r s l).length)=0:=by
 refine⟨k%((l)+1),ABC _ U,by have:=AA3 k (U:(0:Int)<(l)+1);lia,?_⟩;rw[Et,ABz,ABI _<|ABy _,ACC]
 rfl
theorem Ji{r:List Pt}(i:Int):AA r (i+r.length)=AA r i:=Ef r i
def tm(H:Int)(A B a b:Pt):Int:=ind (Lt A B a b)*(if a.2<=H/\H<b.2 then 1 else if b.2<=H/\H<a.2 then -1 else 0)
theorem yP(H:Int)(A B a b:Pt):tm H A B b a = - tm H A B a b:=by
 unfold tm;have e:ind (Lt A B b a)=ind (Lt A B a b):=by
  by_cases c:Lt A B a b
  .rw[Ax c,Ax<|FW c]
  .rw[Ah c,Ah λz=>c<|FW z]
 rw[<-ADX]
 congr 1
 (repeat' split)<;>lia
theorem eQ(r:List Pt)(H:Int)(A B:Pt):RQ r H A B=AV (λk=>tm H A B (AA r k)<|AA r<|k+1) r.length:=rfl
theorem Vt(r:List Pt)(H:Int)(A B:Pt):RQ r H B A=RQ r H A B:=by
 refine Bz λk _=>?_;by_cases c:Lt A B (AA r<|k)<|AA r<|(k)+1
 .rw[Ax c,Ax<|E9 c]
 .rw[Ah c,Ah λz=>c<|E9 z]
theorem bf(f:Int->Int)(m:Nat):∀k:Nat,AV f (m+k)=AV f m+AV (λj=>f<|m+j) k
 |0=>by simp[AV]
 |k+1=>by show AV f (m+k)+f ((m+k))=AV f m+(AV (λj=>f<|m+j) k+f (m+(k)));rw[bf f m k];lia
theorem Vu(r:List Pt)(s:Int)(l:Nat)(H:Int)(A B:Pt):RQ (sub r s l) H A B=AV (λk=>tm H A B (AA r<|s+k)<|AA r<|s+k+1) l+tm H A B (AA r<|s+l) (AA r s):=by
 rw[eQ,sub_len];show AV _ l+tm H A B (AA (sub r s l) l) (AA (sub r s l)<|(l)+1)=_;rw[HA,BK r s l U U]
 congr 1
 refine Bz λk hk=>?_;rw[BK r s l U U,BK r s l U U,Int.add_assoc]
theorem Vs{r:List Pt}{s:Int}{l:Nat}(hl:l<=r.length)(h0:0<r.length)(H:Int)(A B:Pt):RQ r H A B=RQ (sub r s l) H A B+RQ (sub r (s+l)<|r.length-l) H A B:=by
 rw[Vu,Vu];have e1:s+(l)+((r.length-l:Nat))=s+r.length:=U
 rw[e1,Ji,yP H A B (AA r<|s+(l))<|AA r s];have e2:RQ r H A B=AV (λk=>tm H A B (AA r<|s+k)<|AA r<|s+k+1) r.length:=by exact(QT (f:=λk=>tm H A B (AA r k)<|AA r<|k+1) h0 (λa b h=>by rw[Az h,Az<|Bx h]) s).symm
 rw[e2];have e3:=bf (λk=>tm H A B (AA r<|s+k)<|AA r<|s+k+1) l<|r.length-l;rw[show l+(r.length-l)=r.length by lia]at e3;rw[e3];have e4:AV (λj=>tm H A B (AA r<|s+((l)+j))<|AA r<|s+((l)+j)+1) (r.length-l)=AV (λk=>tm H A B (AA r<|s+(l)+k)<|AA r<|s+(l)+k+1) (r.length-l):=by refine Bz λk _=>?_;rw[<-Int.add_assoc s]
 rw[e4];lia
def Line(r:List Pt)(i j:Int):Prop:=Probe r i j/\Dl (AA r<|i-1) (AA r i) (AA r<|i+1) (AA r j)
structure Sm(r:List Pt):Prop where
 s:A6 r
 c:∀{h j:Int},AK r h j≠0->cc r h j=1
 g:∀i j:Int,yy r i=yy r j->(i-j)%(r.length:Int)=0
theorem JG{n d:Int}(h0:0<d)(h1:d<n):d%n≠0:=by rw[AAh U h1];lia
section
variable{r:List Pt}(S:Sm r)
include S
theorem Sm.gn{i j:Int}(h:(i-j)%(r.length)≠0):yy r i≠yy r j:=λc=>h<|S.g i j c
theorem Sm.g1(i:Int):yy r (i+1)≠yy r i:=by have:=S.s.l3;exact S.gn<|by exact JG U U
theorem Sm.g0(i:Int):yy r (i-1)≠yy r i:=λc=>S.g1 (i-1) (by rw[show i-1+1=i by lia];exact c.symm)
theorem Sm.rq{i j:Int}(p:Probe r i j){H:Int}(h:(yy r i<=H/\H<yy r j)\/(yy r j<=H/\H<yy r i)) : (RQ r H (AA r i) (AA r j)=1/\Dl (AA r<|i-1) (AA r i) (AA r<|i+1) (AA r j))\/(RQ r H (AA r i) (AA r j)=0/\¬ Dl (AA r<|i-1) (AA r i) (AA r<|i+1) (AA r j)):=by obtain⟨H',h',z⟩:=Probe.WX S.s (λh=>S.c h) p (S.g0 i) (S.g1 i) λc=>p.Bq.1<|S.g i j c.symm;rw[p.along S.s h h'];exact z
theorem Sm.lvl{i j:Int}(h:yy r i≠yy r j):∃H,(yy r i<=H/\H<yy r j)\/(yy r j<=H/\H<yy r i):=by
 rcases ABB h with h|h
 .exact⟨yy r i,.inl ⟨U,h⟩⟩
 .exact⟨yy r j,.inr ⟨U,h⟩⟩
theorem Line.rq{i j:Int}(l:Line r i j){H:Int}(h:(yy r i<=H/\H<yy r j)\/(yy r j<=H/\H<yy r i)):RQ r H (AA r i) (AA r j)=1:=by
 rcases S.rq l.1 h with⟨a,_⟩|⟨_,b⟩
 .exact a
 .exact absurd l.2 b
theorem Line.symm{i j:Int}(l:Line r i j):Line r j i:=by
 have p':=l.1.symm S.s;refine⟨p',?_⟩;obtain⟨H,hH⟩:=S.lvl <|S.gn l.1.Bq.1;rcases S.rq p' (H:=H) U with⟨_,b⟩|⟨a,_⟩
 .exact b
 .rw[Vt,(Line.rq S l hH)]at a;cases a
end
theorem Probe.congr{r:List Pt}{i j i' j':Int}(hi:(i-i')%(r.length)=0)(hj:(j-j')%(r.length)=0)(p:Probe r i j):Probe r i' j':=by
 have ei:∀k:Int,(i'-k)%(r.length)=(i-k)%(r.length):=λk=>by rw[show i-k=(i-i')+(i'-k)by lia,AB3,hi,ABt,ABI _<|ABy _]
 have ej:∀k:Int,(j'-k)%(r.length)=(j-k)%(r.length):=λk=>by rw[show j-k=(j-j')+(j'-k)by lia,AB3,hj,ABt,ABI _<|ABy _]
 have ed:(i'-j')%(r.length)=(i-j)%(r.length):=by rw[ei,show i-j'=(i-j)+(j-j')by lia,AB3<|i-j,hj,ABG,ABI _<|ABy _]
 have c1:=Az hi;have c3:=Az (by rw[show i-1-(i'-1)=i-i' by lia];exact hi);have d1:=Az hj;have d3:=Az (by rw[show j-1-(j'-1)=j-j' by lia];exact hj);refine⟨?_,c1 ▸ (Az<|Bx hi) ▸ d1 ▸ p.f1,c1 ▸ c3 ▸ d1 ▸ p.f2,d1 ▸ (Az<|Bx hj) ▸ c1 ▸ p.f3,d1 ▸ d3 ▸ c1 ▸ p.f4,λk a b c d=>?_⟩
 .have:=p.Bq;unfold B0 at this ⊢;rw[ed];exact this
 .rw[ei]at a b;rw[ej]at c d;rw[<-c1,<-d1];exact p.nt k a b c d
theorem Line.congr{r:List Pt}{i j i' j':Int}(hi:(i-i')%(r.length)=0)(hj:(j-j')%(r.length)=0)(l:Line r i j):Line r i' j':=by have c3:=Az (by rw[show i-1-(i'-1)=i-i' by lia];exact hi);refine⟨l.1.congr hi hj,?_⟩;rw[<-(Az hi),<-(Az<|Bx hi),<-c3,<-(Az hj)];exact l.2
theorem CV{n d:Int}(h0:0<d)(h1:d<n):(-d)%n=n-d:=by rw[show -d=(n-d)+n*(-1)by lia,ABl,AAh U U]
theorem MS{n d:Int}(h:(2<=d/\d<=n-2)\/(2<=-d/\-d<=n-2)):B0 n d:=by
 unfold B0;rcases h with h|h
 .rw[AAh U AAc];lia
 .have:=CV (n:=n) (d:=-d) AAc AAc;rw[ADh]at this;rw[this];lia
theorem OS{n d:Int}(hn:2<=n)(h:B0 n d)(h1 : -n<d)(h2:d<n):(2<=d/\d<=n-2)\/(2<=-d/\-d<=n-2):=by
 unfold B0 at h;by_cases c:0<=d
 .rw[AAh c h2]at h;lia
 .have:=CV (n:=n) (d:=-d) U U;rw[ADh]at this;rw[this]at h;lia
theorem Zj{n d:Int}(h:d%n=0)(h1 : -n<d)(h2:d<n):d=0:=by
 by_cases c:0<=d
 .rw[AAh c h2]at h;exact h
 .have:=CV (n:=n) (d:=-d) U U;rw[ADh]at this;lia
theorem NA{n a b c:Int}(h1:(a-b)%n=0)(h2:(b-c)%n=0):(a-c)%n=0:=by rw[show a-c=(a-b)+(b-c)by lia,AB3,h1,h2];rfl
theorem jm{n a b c d:Int}(h1:(a-b)%n=0)(h2:(c-d)%n=0)(h:B0 n<|a-c):B0 n<|b-d:=by
 have e:=by
  have h3:(a-c-(b-d))%n=0:=by rw[show a-c-(b-d)=(a-b)-(c-d)by lia,ABz,h1,h2];rfl
  exact(ACV.mpr h3).symm
 unfold B0 at h ⊢;rw[e];exact h
section
variable{r:List Pt}(S:Sm r){s:Int}{l:Nat}(l2:2<=l)(ln:l+2<=r.length)
include S l2 ln
theorem bb(i j:Int)(h:yy (sub r s l) i=yy (sub r s l) j):(i-j)%((sub r s l).length)=0:=by
 obtain⟨a,a0,a1,ea⟩:=KS r s l i;obtain⟨b,b0,b1,eb⟩:=KS r s l j;rw[C6 ea,C6 eb]at h;unfold yy at h;rw[BK r s l a0 a1,BK r s l b0 b1]at h;have:=S.g (s+a) (s+b) h;have BA:=Zj this U U;have:a=b:=U
 subst this;exact NA ea<|CJ eb
theorem U7(L:Probe r s<|s+l):A6<|sub r s l:=by
 have hl:=Et r s l;have a2:∀a:Int,s+(a+1)=s+a+1:=λa=>U
 refine⟨U,λk=>?_,λk h=>?_,λi j hf hs=>?_⟩
 .obtain⟨a,a0,a1,ea⟩:=KS r s l k;rw[Az ea,Az<|Bx ea,Az<|Bx<|Bx ea];by_cases c1:a+2<=l
  .rw[BK r s l a0 a1,BK r s l U U,BK r s l U U,a2,a2,a2];exact S.s.fork<|s+a
  by_cases c2:a+1=l
  .rw[BK r s l a0 a1,c2,HA,BK r s l U U];have:=L.f4;rw[show s+(l)-1=s+a by lia]at this;exact this
  .have c3:a=l:=U
   subst c3;rw[HA,BK r s l a0 a1];have e:AA (sub r s l) ((l)+1+1)=AA r (s+1):=by rw[Az (by rw[hl,show(l:Int)+1+1-1=(l)+1 by lia,AC9]),BK r s l U U]
   rw[e];exact L.f1.symm
 .have:=bb S l2 ln k (k+1) h;rw[hl,show k-(k+1) = -1 by lia,CV U U]at this;lia
 .obtain⟨a,a0,a1,ea⟩:=KS r s l i;obtain⟨b,b0,b1,eb⟩:=KS r s l j;have hf:=jm ea eb hf;rw[hl]at hf;have hd:=OS U hf U U;rw[Az ea,Az<|Bx ea,Az eb,Az<|Bx eb]at hs;by_cases ca:a=l
  .rw[ca,HA,BK r s l U U,BK r s l b0 b1,BK r s l U U,a2]at hs;refine L.nt (s+b) ?_ ?_ ?_ ?_ (QQ hs)
   .rw[show s-(s+b) = -b by lia,CV U U];lia
   .rw[show s-(s+b) = -b by lia,CV U U];lia
   .rw[show s+(l)-(s+b)=l-b by lia,AAh U U];lia
   .rw[show s+(l)-(s+b)=l-b by lia,AAh U U];lia
  by_cases cb:b=l
  .rw[cb,HA,BK r s l a0 a1,BK r s l U U,BK r s l U U,a2]at hs;refine L.nt (s+a) ?_ ?_ ?_ ?_ (QQ hs.symm)
   .rw[show s-(s+a) = -a by lia,CV U U];lia
   .rw[show s-(s+a) = -a by lia,CV U U];lia
   .rw[show s+(l)-(s+a)=l-a by lia,AAh U U];lia
   .rw[show s+(l)-(s+a)=l-a by lia,AAh U U];lia
  .rw[BK r s l a0 a1,BK r s l U U,BK r s l b0 b1,BK r s l U U,a2,a2]at hs;exact S.s.apart (s+a) (s+b) (MS U) hs
theorem Z5(L:Line r s<|s+l):Line r (s+l)<|s+l+(r.length-l:Nat):=by refine(Line.symm S L).congr (by rw[ACC];rfl) ?_;rw[show s-(s+(l)+((r.length-l:Nat)))=r.length*(-1)by lia,ACu]
theorem ba(L:Line r s<|s+l):(∀{h j:Int},AK (sub r s l) h j≠0->cc (sub r s l) h j=1)/\(∀{h j:Int},AK (sub r (s+l)<|r.length-l) h j≠0->cc (sub r (s+l)<|r.length-l) h j=1):=by
 have S1:=U7 S l2 ln L.1;have S2:=U7 S U U (Z5 S l2 ln L).1;have en:s+(l)+((r.length-l:Nat))=s+r.length:=U
 obtain⟨H,hH⟩:=S.lvl <|S.gn L.1.Bq.1;have y1:yy (sub r s l) l=yy r (s+l):=by unfold yy;rw[BK r s l U U]
 have y2:yy (sub r s l) ((l)+1)=yy r s:=by unfold yy;rw[HA]
 have y3:yy (sub r (s+l)<|r.length-l) (r.length-l:Nat)=yy r s:=by unfold yy;rw[BK r (s+l) (r.length-l) U U,en,Ji]
 have y4:yy (sub r (s+l)<|r.length-l) ((r.length-l:Nat)+1)=yy r (s+l):=by unfold yy;rw[HA]
 have g1:AK (sub r s l) H l≠0:=KP (by rw[y1,y2];lia);have g2:=KP (by rw[y3,y4];omega);have c1:=S1.MH g1;have c2:=S2.MH g2;have r1:Rr (sub r s l) H l=RQ (sub r s l) H (AA r s) (AA r<|s+l):=by rw[<-Vt];show RQ (sub r s l) H (AA (sub r s l) l) (AA (sub r s l)<|(l)+1)=_;rw[HA,BK r s l U U]
 have r2:Rr (sub r (s+l)<|r.length-l) H (r.length-l:Nat)=RQ (sub r (s+l)<|r.length-l) H (AA r s) (AA r<|s+l):=by show RQ (sub r (s+l)<|r.length-l) H (AA (sub r (s+l)<|r.length-l) (r.length-l:Nat)) (AA (sub r (s+l)<|r.length-l)<|(r.length-l:Nat)+1)=_;rw[HA,BK r (s+l) (r.length-l) U U,en,Ji]
 have e:=Vs (r:=r) (s:=s) (l:=l) U U H (AA r s)<|AA r<|s+l;rw[Line.rq S L hH]at e;have d1:cc (sub r s l) H l=RQ (sub r s l) H (AA r s) (AA r<|s+l)+ind (yy r (s+l)<yy r s):=by unfold cc;rw[r1,y1,y2]
 have d2:cc (sub r (s+l)<|r.length-l) H (r.length-l:Nat)=RQ (sub r (s+l)<|r.length-l) H (AA r s) (AA r<|s+l)+ind (yy r s<yy r (s+l)):=by unfold cc;rw[r2,y3,y4]
 have d3:ind (yy r (s+l)<yy r s)+ind (yy r s<yy r (s+l))=1:=by
  by_cases x:yy r s<yy r (s+l)
  .rw[Ax x,Ah U];rfl
  .rw[Ah x,Ax U];rfl
 have k1:cc (sub r s l) H l=1:=U
 have k2:cc (sub r (s+l)<|r.length-l) H (r.length-l:Nat)=1:=U
 exact⟨λ{h j} hj=>by rw[S1.OA hj g1];exact k1,λ{h j} hj=>by rw[S2.OA hj g2];exact k2⟩
theorem NU(L:Line r s<|s+l):Sm<|sub r s l:=⟨U7 S l2 ln L.1,(ba S l2 ln L).1,bb S l2 ln⟩
end
theorem rW{Q Y a b c d:Int}(hQ:0<Q)(BA:(Q*a<Y/\Y<Q*b)\/(Q*b<Y/\Y<Q*a))(BV:c≠d)(hr:(Q*c<=Y/\Y<=Q*d)\/(Q*d<=Y/\Y<=Q*c)) : ∃H,((a<=H/\H<b)\/(b<=H/\H<a))/\((c<=H/\H<d)\/(d<=H/\H<c))/\Q*H<=Y/\Y<=Q*(H+1):=by
 have f1:Q*(Y / Q)<=Y:=Int.mul_ediv_self_le U;have f2:Y<Q*(Y / Q+1):=by have:=Int.lt_mul_ediv_self_add (x:=Y) hQ;lia
 generalize Y / Q=f at f1 f2;have Gw:∀{u v:Int},Q*u<Q*v->u<v:=λh=>ADE h U;have Pk:∀{u v:Int},Q*u<=Q*v->u<=v:=λh=>ABo h hQ;by_cases hc:(c<=f/\f<d)\/(d<=f/\f<c)
 .refine⟨f,?_,hc,f1,U⟩;rcases BA with⟨u,v⟩|⟨u,v⟩
  .have:=Gw<|AEY u f2;have:=Gw<|ADO f1 v;lia
  .have:=Gw<|AEY u f2;have:=Gw<|ADO f1 v;lia
 .have hY:Y=Q*f/\((c<d/\d=f)\/(d<c/\c=f)):=by
   rcases hr with⟨u,v⟩|⟨u,v⟩
   .have h1:=Gw<|ADO u f2;have h2:=Pk<|ACh u v;have h3:=Pk<|ACh f1 v;have:d=f:=U
    subst this;exact⟨U,U⟩
   .have h1:=Gw<|ADO u f2;have h2:=Pk<|ACh u v;have h3:=Pk<|ACh f1 v;have:c=f:=U
    subst this;exact⟨U,U⟩
  obtain⟨e,g⟩:=hY;subst e;refine⟨f-1,?_,U,U,U⟩;rcases BA with⟨u,v⟩|⟨u,v⟩
  .have:=Gw u;have:=Gw v;lia
  .have:=Gw u;have:=Gw v;lia
def Kh(Q X Y:Int)(A B:Pt):Prop:=∃s:Int,0<=s/\s<=Q/\Q*A.1+s*(B.1-A.1)=X/\Q*A.2+s*(B.2-A.2)=Y
theorem WO{Q X Y H:Int}(hQ:0<Q){E F:Pt}(hs:E.2<=H/\H<F.2)(h1:Q*H<=Y)(h2:Y<=Q*(H+1)) : (∀A B,Kh Q X Y A B->Lt A B E F)\/(∀A B,Kh Q X Y A B->Lt E F A B)\/∃d k:Int,0<d/\0<=k/\k<=Q*d/\Q*d*E.1+k*(F.1-E.1)=d*X/\Q*d*E.2+k*(F.2-E.2)=d*Y:=by
 have a1:=AAv hs.1<|AAm hQ;have a2:=AAv (U:H+1<=F.2)<|AAm hQ;have hd:0<F.2-E.2:=U
 have YE:=AAq hQ hd;have k1:Y-Q*E.2<=Q*(F.2-E.2):=U
 rcases ABU (Q*(F.2-E.2)*E.1+(Y-Q*E.2)*(F.1-E.1)) ((F.2-E.2)*X)with c|c|c
 .refine .inr<|.inl λA B h=>?_;obtain⟨s,s0,s1,e1,e2⟩:=h;have m1:=AAo s0<|AAm hd;have m2:=AA5 s1<|AAm hd;refine⟨Q*(F.2-E.2),Y-Q*E.2,s*(F.2-E.2),YE,U,k1,m1,m2,?_,?_⟩
  .rw[<-e2];grind
  .have:Q*(F.2-E.2)*A.1+s*(F.2-E.2)*(B.1-A.1)=(F.2-E.2)*X:=by rw[<-e1];grind
   rw[this];exact c
 .exact .inr<|.inr ⟨F.2-E.2,Y-Q*E.2,hd,U,k1,c,AAb⟩
 .refine .inl λA B h=>?_;obtain⟨s,s0,s1,e1,e2⟩:=h;have m1:=AAo s0<|AAm hd;refine⟨Q*(F.2-E.2),s*(F.2-E.2),Y-Q*E.2,YE,m1,(AA5 s1<|AAm hd),U,k1,?_,?_⟩
  .rw[<-e2];grind
  .have:Q*(F.2-E.2)*A.1+s*(F.2-E.2)*(B.1-A.1)=(F.2-E.2)*X:=by rw[<-e1];grind
   rw[this];exact c
theorem gq{Q X Y H:Int}(hQ:0<Q){E F:Pt}(hs:(E.2<=H/\H<F.2)\/(F.2<=H/\H<E.2))(h1:Q*H<=Y)(h2:Y<=Q*(H+1)) : (∀A B,Kh Q X Y A B->Lt A B E F)\/(∀A B,Kh Q X Y A B->Lt E F A B)\/∃d k:Int,0<d/\0<=k/\k<=Q*d/\Q*d*E.1+k*(F.1-E.1)=d*X/\Q*d*E.2+k*(F.2-E.2)=d*Y:=by
 rcases hs with hs|hs
 .exact WO hQ hs h1 h2
 .rcases WO hQ hs h1 h2 with h|h|⟨d,k,a,b,c,e1,e2⟩
  .exact .inl λA B z=>FW<|h A B z
  .exact .inr<|.inl λA B z=>E9<|h A B z
  .exact .inr<|.inr ⟨d,Q*d-k,a,U,U,AAb,AAb⟩
section
variable{r:List Pt}(S:Sm r){s:Int}{l:Nat}(l2:2<=l)(ln:l+2<=r.length)(L:Line r s (s+l))
include S l2 ln L
theorem qh{k:Int}(k0:0<=k)(k1:k<r.length-l){H:Int}(hH:(yy r (s+l+k)<=H/\H<yy r (s+l+k+1))\/(yy r (s+l+k+1)<=H/\H<yy r (s+l+k))) : RQ (sub r s l) H (AA r<|s+l+k) (AA r<|s+l+k+1)=0:=by
 have e:=Vs (r:=r) (s:=s) (l:=l) U U H (AA r<|s+l+k)<|AA r<|s+l+k+1;have x1:RQ r H (AA r<|s+l+k) (AA r<|s+l+k+1)+ind (yy r (s+l+k)<yy r (s+l+k+1))=1:=S.c <|KP hH;have e1:=BK r (s+l) (r.length-l) k0 U;have e2:AA (sub r (s+l)<|r.length-l) (k+1)=AA r (s+l+k+1):=by rw[BK r (s+l) (r.length-l) U U];lia
 have x2:RQ (sub r (s+l)<|r.length-l) H (AA r<|s+l+k) (AA r<|s+l+k+1)+ind (yy r (s+l+k)<yy r (s+l+k+1))=1:=by
  have:=(ba S l2 ln L).2 (KP (by unfold yy;rw[e1,e2];exact hH));unfold cc at this;unfold yy at this ⊢;rw[e1,e2]at this;have er:Rr (sub r (s+l)<|r.length-l) H k=RQ (sub r (s+l)<|r.length-l) H (AA r<|s+l+k) (AA r<|s+l+k+1):=by show RQ _ _ _ _=_;rw[e1,e2]
  rw[er]at this;exact this
 lia
theorem Zr{a b:Int}(p:Line (sub r s l) a b){k:Int}(k0:0<=k)(k1:k<r.length-l){Q t X Y:Int}(hQ:0<Q)(t0:0<t)(t1:t<Q) (e1:Q*(AA (sub r s l) a).1+t*((AA (sub r s l) b).1-(AA (sub r s l) a).1)=X) (e2:Q*(AA (sub r s l) a).2+t*((AA (sub r s l) b).2-(AA (sub r s l) a).2)=Y) (hC:Kh Q X Y (AA r<|s+l+k)<|AA r<|s+l+k+1):False:=by
 have Sq:=NU S l2 ln L;have BA:=Sq.gn p.1.Bq.1;have BV:yy r (s+l+k)≠yy r (s+l+k+1):=(S.g1 _).symm;have hA:Kh Q X Y (AA (sub r s l) a)<|AA (sub r s l) b:=⟨t,U,U,e1,e2⟩;have ra:(Q*yy (sub r s l) a<Y/\Y<Q*yy (sub r s l) b)\/(Q*yy (sub r s l) b<Y/\Y<Q*yy (sub r s l) a):=by
  unfold yy at BA ⊢;rcases ABB BA with h|h
  .left;have m1:=AAq t0<|ADB.mpr h;have m2:=AAq (ADB.mpr t1)<|ADB.mpr h;exact⟨U,U⟩
  .right;have m1:=AAq t0<|ADB.mpr h;have m2:=AAq (ADB.mpr t1)<|ADB.mpr h;exact⟨U,U⟩
 have rc:(Q*yy r (s+l+k)<=Y/\Y<=Q*yy r (s+l+k+1))\/(Q*yy r (s+l+k+1)<=Y/\Y<=Q*yy r (s+l+k)):=by
  obtain⟨u,u0,u1,_,f2⟩:=hC;unfold yy;rcases AB2 (AA r<|s+l+k).2 (AA r<|s+l+k+1).2 with h|h
  .left;have m1:=AAo u0<|AC1.mpr h;have m2:=AAo (AC1.mpr u1)<|AC1.mpr h;exact⟨U,U⟩
  .right;have m1:=AAo u0<|AC1.mpr h;have m2:=AAo (AC1.mpr u1)<|AC1.mpr h;exact⟨U,U⟩
 obtain⟨H,ha,hc,h1,h2⟩:=rW hQ ra BV rc;have z0:=qh S l2 ln L k0 k1 hc;have:RQ (sub r s l) H (AA (sub r s l) a) (AA (sub r s l) b)=RQ (sub r s l) H (AA r<|s+l+k) (AA r<|s+l+k+1):=by
  refine Bz λm hm=>?_;by_cases hs:AK (sub r s l) H m=0
  .rw[hs,ABf,ABf]
  rw[sub_len]at hm;rcases gq hQ (C4 hs) h1 h2 with c|c|⟨d,u,d0,u0,u1,f1,f2⟩
  .rw[Ax<|c _ _ hA,Ax<|c _ _ hC]
  .rw[Ah λz=>p.1.nc Sq.s m z<|c _ _ hA,Ah λz=>?_];have c':=c _ _ hC;by_cases hl:(m)=l
   .rw[hl,HA,BK r s l U U]at c' z;exact L.1.nc S.s (s+l+k) (E9 c')<|FW z
   .rw[BK r s l U U,BK r s l U U,show s+((m)+1)=s+m+1 by lia]at c' z;exact S.s.nc (by exact JG U U) z c'
  .exfalso;have td:=AAq d0 t0;have td':=AAq d0<|ADB.mpr t1;by_cases x1:(a-(m))%((sub r s l).length)=0
   .rw[<-Az x1,<-Az<|Bx x1]at f1 f2;have:=(p.1.f1 u (d*t) u0 U AAb AAb).2;lia
   by_cases x2:(a-(m))%((sub r s l).length)=1
   .have hn:(1:Int)<((sub r s l).length):=by rw[Et];lia
    have y:=Dv hn x2;rw[<-Az y,<-(Sq.s.next x2).1]at f1 f2;have:=(p.1.f2 (Q*d-u) (d*t) U U AAb AAb).2;lia
   by_cases x3:(b-(m))%((sub r s l).length)=0
   .rw[<-Az x3,<-Az<|Bx x3]at f1 f2;have:=(p.1.f3 u (d*(Q-t)) u0 U AAb AAb).2;lia
   by_cases x4:(b-(m))%((sub r s l).length)=1
   .have hn:(1:Int)<((sub r s l).length):=by rw[Et];lia
    rw[<-Az<|Dv hn x4,<-(Sq.s.next x4).1]at f1 f2;have:=(p.1.f4 (Q*d-u) (d*(Q-t)) U U AAb AAb).2;lia
   .refine p.1.nt m x1 x2 x3 x4 ⟨Q*d,d*t,u,(AAq hQ d0),U,U,u0,u1,?_,?_⟩
    .rw[f1,<-e1];grind
    .rw[f2,<-e2];grind
 rw[z0,(Line.rq Sq p ha)]at this;cases this
end
theorem A6.FX{r:List Pt}(S:A6 r){m j:Int}(h0:(m-j)%(r.length)≠0)(h1:(m-j)%(r.length)≠1):¬ At (AA r j) (AA r<|j+1) (AA r m):=by rintro⟨q,s,hq,s0,s1,e1,e2⟩;exact S.off h0 h1 hq s0 s1 AAb AAb
theorem Sm.ne{r:List Pt}(S:Sm r){i j:Int}(h:(i-j)%(r.length)≠0):AA r i≠AA r j:=λc=>S.gn h (by unfold yy;rw[c])
theorem Sm.st{r:List Pt}(S:Sm r)(k:Int):AA r (k+1)≠AA r k:=λc=>S.g1 k (by unfold yy;rw[c])
section
variable{r:List Pt}(S:Sm r){s:Int}{l:Nat}(l2:2<=l)(ln:l+2<=r.length)(L:Line r s (s+l))
include S l2 ln L
theorem ck{a b:Int}(a0:0<=a)(a1:a<=l)(b0:0<=b)(b1:b<=l)(p:Line (sub r s l) a b){k:Int}(k0:0<=k)(k1:k<r.length-l){T:Pt} (hT:(AA r (s+l+k)=AA r (s+a)/\T=AA r (s+l+k+1))\/(AA r (s+l+k+1)=AA r (s+a)/\T=AA r (s+l+k))) (k9:T≠AA r (s+a)) (lA:T≠AA r (s+b)) (Jv:AA r (s+b)≠AA r (s+a)) (hB:¬ At (AA r<|s+l+k) (AA r<|s+l+k+1) (AA r<|s+b)):CK (AA r<|s+a) T<|AA r<|s+b:=by
 have ea:=BK r s l a0 a1;have eb:=BK r s l b0 b1;intro u v hu hv e1 e2;by_cases u0:u=0
 .refine⟨u0,?_⟩;by_cases v0:v=0
  .exact v0
  .exfalso;apply Jv;rw[u0,ABR]at e1 e2;have g1:=AAp.mp e1.symm;have g2:=AAp.mp e2.symm;exact ABS U U
 by_cases v0:v=0
 .exfalso;apply k9;rw[v0,ABR]at e1 e2;have g1:=AAp.mp e1;have g2:=AAp.mp e2;exact ABS U U
 exfalso;rcases ABU v u with h|h|h
 .refine Zr S l2 ln L p k0 k1 (X:=u*T.1) (Y:=u*T.2) U U h ?_ ?_ ?_
  .rw[ea,eb];grind
  .rw[ea,eb];grind
  .rcases hT with⟨_,rfl⟩|⟨_,rfl⟩
   .exact⟨u,U,U,AAb,AAb⟩
   .exact⟨0,U,U,AAb,AAb⟩
 .apply lA;subst h;have g1:=ACG v0 e1;have g2:=ACG v0 e2;exact ABS U U
 .apply hB;rcases hT with⟨h1,rfl⟩|⟨h1,rfl⟩
  .rw[h1];exact⟨v,u,U,U,U,e1.symm,e2.symm⟩
  .rw[h1];exact ME ⟨v,u,U,U,U,e1.symm,e2.symm⟩
theorem Qg{a b:Int}(a0:0<=a)(a1:a<=l)(b0:0<=b)(b1:b<=l)(p:Line (sub r s l) a b):(2<=a-b/\a-b<=l-1)\/(2<=b-a/\b-a<=l-1):=by have:=p.1.Bq;rw[Et]at this;have:=OS U this U U;lia
theorem cf{a b:Int}(a0:0<=a)(a1:a<=l)(b0:0<=b)(b1:b<=l)(p:Line (sub r s l) a b):CK (AA r<|s+a) (AA r<|s+a+1)<|AA r<|s+b:=by
 have hf:=Qg S l2 ln L a0 a1 b0 b1 p;by_cases ha:a<l
 .have:=p.1.f1;rw[BK r s l a0 a1,BK r s l b0 b1,BK r s l U U,show s+(a+1)=s+a+1 by lia]at this;exact this
 .have ha:a=l:=U
  subst ha;have e0:s+(l)+0=s+l:=ABG _;refine ck S l2 ln L a0 a1 b0 b1 p (k:=0) U U (.inl ⟨by rw[e0],by rw[e0]⟩) (S.st _) (S.ne ?_) (S.ne ?_) ?_
  .exact JG U U
  .rw[show s+b-(s+(l)) = -(l-b)by lia,CV U U];lia
  .rw[e0];refine S.s.FX ?_ ?_
   .rw[show s+b-(s+(l)) = -(l-b)by lia,CV U U];lia
   .rw[show s+b-(s+(l)) = -(l-b)by lia,CV U U];lia
theorem cg{a b:Int}(a0:0<=a)(a1:a<=l)(b0:0<=b)(b1:b<=l)(p:Line (sub r s l) a b):CK (AA r<|s+a) (AA r<|s+a-1)<|AA r<|s+b:=by
 have hf:=Qg S l2 ln L a0 a1 b0 b1 p;by_cases ha:0<a
 .have:=p.1.f2;rw[BK r s l a0 a1,BK r s l b0 b1,BK r s l U U,show s+(a-1)=s+a-1 by lia]at this;exact this
 .have ha:a=0:=U
  subst ha;have e0:s+(l)+(r.length-l-1)=s-1+r.length:=U
  have e1:AA r (s+(l)+(r.length-l-1))=AA r (s-1):=by rw[e0,Ji]
  have e2:AA r (s+(l)+(r.length-l-1)+1)=AA r (s-1+1):=by rw[e0,show s-1+(r.length)+1=s-1+1+r.length by lia,Ji]
  have e3:s-1+1=s+0:=U
  have st:AA r (s+0-1)≠AA r (s+0):=λc=>S.st (s-1) (by rw[e3,<-c];congr 1;lia);refine ck S l2 ln L a0 a1 b0 b1 p (k:=r.length-l-1) U U (.inr ⟨by rw[e2,e3],by rw[e1];congr 1;lia⟩) st (S.ne ?_) (S.ne ?_) ?_
  .rw[show s+0-1-(s+b) = -(b+1)by lia,CV U U];lia
  .rw[show s+b-(s+0)=b by lia,AAh U U];lia
  .rw[e1,e2];refine S.s.FX ?_ ?_
   .rw[show s+b-(s-1)=b+1 by lia,AAh U U];lia
   .rw[show s+b-(s-1)=b+1 by lia,AAh U U];lia
theorem yz{a b:Int}(a0:0<=a)(a1:a<=l)(b0:0<=b)(b1:b<=l)(p:Line (sub r s l) a b):Probe r (s+a)<|s+b:=by
 have hf:=Qg S l2 ln L a0 a1 b0 b1 p;have p':=Line.symm (NU S l2 ln L) p;refine⟨MS U,cf S l2 ln L a0 a1 b0 b1 p,cg S l2 ln L a0 a1 b0 b1 p,cf S l2 ln L b0 b1 a0 a1 p',cg S l2 ln L b0 b1 a0 a1 p',λk x1 x2 x3 x4 h=>?_⟩;have hn:(0:Int)<r.length:=U
 have m0:=ABC (k-s) (b:=(r.length)) U;have m1:=AA3 (k-s) hn;have em:(k-(s+(k-s)%(r.length)))%(r.length)=0:=by rw[show k-(s+(k-s)%(r.length))=(k-s)-(k-s)%(r.length)by lia,ABz,ABI _<|ABy _,ACC];rfl
 generalize (k-s)%(r.length)=m at m0 m1 em;have ek:∀x:Int,(x-k)%(r.length)=(x-(s+m))%(r.length):=λx=>by rw[show x-(s+m)=(x-k)+(k-(s+m))by lia,AB3,em,ABG,ABI _<|ABy _]
 rw[ek]at x1 x2 x3 x4;rw[Az em,Az<|Bx em]at h;rw[show s+a-(s+m)=a-m by lia]at x1 x2;rw[show s+b-(s+m)=b-m by lia]at x3 x4;have ne:∀{d:Int},d%(r.length)≠0->d%(r.length)≠1->d≠0/\d≠1:=λ{d} u v=>⟨λc=>u (by rw[c];rfl),λc=>v (by rw[c];exact AAh U U)⟩;obtain⟨n1,n2⟩:=ne x1 x2;obtain⟨n3,n4⟩:=ne x3 x4;by_cases hm:m<l
 .have md:∀{d:Int},d≠0->d≠1->-(l)<d->d<=l->d%((l)+1)≠0/\d%((l)+1)≠1:=λ{d} u v w z=>by
   by_cases c:0<=d
   .rw[AAh c U];exact⟨u,v⟩
   .have:=CV (n:=(l)+1) (d:=-d) U U;rw[ADh]at this;rw[this];lia
  have q1:=md n1 n2 U U;have q2:=md n3 n4 U U;refine p.1.nt m (by rw[Et];exact q1.1) (by rw[Et];exact q1.2) (by rw[Et];exact q2.1) (by rw[Et];exact q2.2) ?_;rw[BK r s l a0 a1,BK r s l b0 b1,BK r s l U U,BK r s l U U,show s+(m+1)=s+m+1 by lia];exact h
 .obtain⟨Q,t,u,hQ,t0,t1,u0,u1,e1,e2⟩:=h;have es:s+m=s+l+(m-l):=U
  have dE:=x1;have dF:=x2;have dG:=x3;have dH:=x4
  rw[show a-m=s+a-(s+m)by lia]at dE dF;rw[show b-m=s+b-(s+m)by lia]at dG dH;by_cases c0:t=0
  .refine S.s.FX dE dF ⟨Q,u,hQ,u0,u1,?_,?_⟩
   .rw[c0]at e1;grind
   .rw[c0]at e2;grind
  by_cases c1:t=Q
  .refine S.s.FX dG dH ⟨Q,u,hQ,u0,u1,?_,?_⟩
   .grind
   .grind
  .refine Zr S l2 ln L p (k:=m-l) U U hQ (t:=t) U U rfl rfl ?_;rw[<-es,BK r s l a0 a1,BK r s l b0 b1];exact⟨u,u0,u1,e1.symm,e2.symm⟩
theorem ZR{a b:Int}(a0:0<a)(a1:a<l)(b0:0<=b)(b1:b<=l)(p:Line (sub r s l) a b):Line r (s+a)<|s+b:=by refine⟨yz S l2 ln L U U b0 b1 p,?_⟩;have:=p.2;rw[BK r s l U U,BK r s l b0 b1,BK r s l U U,BK r s l U U,show s+(a+1)=s+a+1 by lia,show s+(a-1)=s+a-1 by lia]at this;exact this
theorem oJ{a b:Int}(a0:0<=a)(a1:a<=l)(b0:0<=b)(b1:b<=l)(p:Line (sub r s l) a b):Line r (s+a)<|s+b:=by
 have hf:=Qg S l2 ln L a0 a1 b0 b1 p;by_cases c:0<a/\a<l
 .exact ZR S l2 ln L c.1 c.2 b0 b1 p
 .exact Line.symm S<|ZR S l2 ln L U U a0 a1<|Line.symm (NU S l2 ln L) p
end
theorem RY(AAa V W P:Pt):AG AAa V P+AG V W P+AG W AAa P=AG AAa V W/\AG AAa V W*P.1=AG V W P*AAa.1+AG W AAa P*V.1+AG AAa V P*W.1/\AG AAa V W*P.2=AG V W P*AAa.2+AG W AAa P*V.2+AG AAa V P*W.2:=by unfold AG;exact⟨AAb,AAb,AAb⟩
theorem Xh{D Q T aP bP fP aR bR fR p r u v w:Int}(sP:aP+bP+fP=D)(sR:aR+bR+fR=D)(eP:D*p=bP*u+fP*v+aP*w)(eR:D*r=bR*u+fR*v+aR*w) : (D*(-aR*Q+((Q-T)*aP+T*aR)))*p+(D*(-aR*T+((Q-T)*aP+T*aR)))*(r-p)=(D*(-aR*Q+((Q-T)*aP+T*aR)))*u+(-aR*((Q-T)*fP+T*fR)+((Q-T)*aP+T*aR)*fR)*(v-u):=by
 have h1:(D*(-aR*Q+((Q-T)*aP+T*aR)))*p+(D*(-aR*T+((Q-T)*aP+T*aR)))*(r-p)=(-aR*(Q-T))*(D*p)+(-aR*T+((Q-T)*aP+T*aR))*(D*r):=AAb
 rw[h1,eP,eR];have h2:D*(-aR*Q+((Q-T)*aP+T*aR))=(-aR*((Q-T)*bP+T*bR)+((Q-T)*aP+T*aR)*bR)+(-aR*((Q-T)*fP+T*fR)+((Q-T)*aP+T*aR)*fR):=by
  have e1:D*(-aR*Q) = -aR*((Q-T)*D+T*D):=AAb
  have e2:D*((Q-T)*aP+T*aR)=((Q-T)*aP+T*aR)*D:=ACX ..;rw[AD8,e1,e2];rw[show(Q-T)*D=(Q-T)*(aP+bP+fP)by rw[sP],show T*D=T*(aR+bR+fR)by rw[sR],show((Q-T)*aP+T*aR)*D=((Q-T)*aP+T*aR)*(aR+bR+fR)by rw[sR]]
  grind
 rw[h2]
 grind
theorem R9{AAa V W P R:Pt}{Q T ax bx fx:Int}(hQ:0<Q)(t0:0<=T)(t1:T<=Q)(D0:0<AG AAa V W) (Io:ax=(Q-T)*AG AAa V P+T*AG AAa V R) (K0:bx=(Q-T)*AG V W P+T*AG V W R) (Iq:fx=(Q-T)*AG W AAa P+T*AG W AAa R) (a0:0<=ax) (hA:AG AAa V R<0) (hb:0<=-AG AAa V R*bx+ax*AG V W R) (hf:0<=-AG AAa V R*fx+ax*AG W AAa R) : ∃q s t:Int,0<q/\0<=s/\s<=q/\0<=t/\t<=q/\q*P.1+s*(R.1-P.1)=q*AAa.1+t*(V.1-AAa.1)/\q*P.2+s*(R.2-P.2)=q*AAa.2+t*(V.2-AAa.2)/\t = -AG AAa V R*fx+ax*AG W AAa R/\q-t = -AG AAa V R*bx+ax*AG V W R:=by
 obtain⟨sP,jE,jF⟩:=RY AAa V W P;obtain⟨sR,jG,jH⟩:=RY AAa V W R;have m1:=AAq (U:0 < -AG AAa V R) hQ;have m2:=AAo (U:0<=-AG AAa V R) t0;have m3:=AAo (U:0<=-AG AAa V R) (U:0<=Q-T);have hN:0 < -AG AAa V R*Q+ax:=U
 have hw:0<=-AG AAa V R*T+ax:=U
 have mw : -AG AAa V R*T+ax<=-AG AAa V R*Q+ax:=U
 have mV:AG AAa V W*(-AG AAa V R*Q+ax)-(-AG AAa V R*fx+ax*AG W AAa R) = -AG AAa V R*bx+ax*AG V W R:=by
  have e0:ax+bx+fx=Q*AG AAa V W:=by
   rw[Io,K0,Iq,show Q*AG AAa V W=(Q-T)*AG AAa V W+T*AG AAa V W by grind,<-sP];have:T*(AG AAa V P+AG V W P+AG W AAa P)=T*(AG AAa V R+AG V W R+AG W AAa R):=by rw[sP,sR]
   rw[this];grind
  have e1:AG AAa V W*(-AG AAa V R*Q+ax) = -AG AAa V R*(Q*AG AAa V W)+ax*AG AAa V W:=AAb
  rw[e1,<-e0,<-sR];grind
 refine⟨AG AAa V W*(-AG AAa V R*Q+ax),AG AAa V W*(-AG AAa V R*T+ax),-AG AAa V R*fx+ax*AG W AAa R,(AAq D0 hN),AAo U hw,AAv mw U,hf,U,?_,?_,rfl,mV⟩
 .rw[Io,Iq];exact Xh sP sR jE jG
 .rw[Io,Iq];exact Xh sP sR jF jH
theorem jg{AAa V W P R:Pt}{Q T ax bx fx:Int}(hQ:0<Q)(t0:0<=T)(t1:T<=Q)(D0:0<AG AAa V W) (Io:ax=(Q-T)*AG AAa V P+T*AG AAa V R) (K0:bx=(Q-T)*AG V W P+T*AG V W R) (Iq:fx=(Q-T)*AG W AAa P+T*AG W AAa R) (a0:0<=ax) (b0:0<=bx) (f0:0<=fx) (hF:0<=AG W AAa R) (out:AG AAa V R<0\/AG V W R<0) : (∃q s t:Int,0<q/\0<=s/\s<=q/\0<=t/\t<=q/\q*P.1+s*(R.1-P.1)=q*AAa.1+t*(V.1-AAa.1)/\q*P.2+s*(R.2-P.2)=q*AAa.2+t*(V.2-AAa.2)/\(0<fx->0<t))\/(∃q s t:Int,0<q/\0<=s/\s<=q/\0<=t/\t<=q/\q*P.1+s*(R.1-P.1)=q*V.1+t*(W.1-V.1)/\q*P.2+s*(R.2-P.2)=q*V.2+t*(W.2-V.2)/\(0<fx->t<q)):=by
 have c1:AG V W AAa=AG AAa V W:=by unfold AG;grind
 have gC:AG AAa V R<0->0<=-AG AAa V R*bx+ax*AG V W R->(∃q s t:Int,0<q/\0<=s/\s<=q/\0<=t/\t<=q/\q*P.1+s*(R.1-P.1)=q*AAa.1+t*(V.1-AAa.1)/\q*P.2+s*(R.2-P.2)=q*AAa.2+t*(V.2-AAa.2)/\(0<fx->0<t)):=λhA hb=>by have n1:=AAo (U:0<=-AG AAa V R) f0;have n2:=AAo a0 hF;obtain⟨q,s,t,h1,h2,h3,h4,h5,e1,e2,et,_⟩:=R9 hQ t0 t1 D0 Io K0 Iq a0 hA hb U;refine⟨q,s,t,h1,h2,h3,h4,h5,e1,e2,λh=>?_⟩;have:=AAq (U:0 < -AG AAa V R) h;lia
 have WG:AG V W R<0->0<=-AG V W R*ax+bx*AG AAa V R->(∃q s t:Int,0<q/\0<=s/\s<=q/\0<=t/\t<=q/\q*P.1+s*(R.1-P.1)=q*V.1+t*(W.1-V.1)/\q*P.2+s*(R.2-P.2)=q*V.2+t*(W.2-V.2)/\(0<fx->t<q)):=λhB ha=>by have n1:=AAo (U:0<=-AG V W R) f0;have n2:=AAo b0 hF;obtain⟨q,s,t,h1,h2,h3,h4,h5,e1,e2,_,eq⟩:=R9 hQ t0 t1 (by rw[c1];exact D0) K0 Iq Io b0 hB U ha;refine⟨q,s,t,h1,h2,h3,h4,h5,e1,e2,λh=>?_⟩;have:=AAq (U:0 < -AG V W R) h;lia
 by_cases hA:AG AAa V R<0
 .by_cases hb:0<=-AG AAa V R*bx+ax*AG V W R
  .exact .inl<|gC hA hb
  .by_cases hB:AG V W R<0
   .refine .inr<|WG hB ?_;lia
   .exfalso;have n1:=AAo (U:0<=-AG AAa V R) b0;have n2:=AAo a0 (U:0<=AG V W R);lia
 .have hB:AG V W R<0:=U
  refine .inr<|WG hB ?_;have n1:=AAo (U:0<=-AG V W R) a0;have n2:=AAo b0 (U:0<=AG AAa V R);lia
theorem Zi(f:Nat->Int):∀n:Nat,0<n->∃m,m<n/\∀k,k<n->f m<=f k
 |0,h=>U
 |1,_=>⟨0,U,λk hk=>by rw[show k=0 by lia];exact ABp _⟩
 |n+2,_=>by
  obtain⟨m,hm,h⟩:=Zi f (n+1) U;by_cases c:f m<=f (n+1)
  .refine⟨m,U,λk hk=>?_⟩;by_cases e:k=n+1
   .rw[e];exact c
   .exact h k U
  .refine⟨n+1,U,λk hk=>?_⟩;by_cases e:k=n+1
   .rw[e];exact ABp _
   .have:=h k U;lia
theorem Zd(P:Nat->Prop)(f:Nat->Int):∀n:Nat,(∃k,k<n/\P k)->∃m,m<n/\P m/\∀k,k<n->P k->f k<=f m
 |0,h=>by obtain⟨k,hk,_⟩:=h;lia
 |n+1,h=>by
  by_cases c:∃k,k<n/\P k
  .obtain⟨m,hm,pm,hx⟩:=Zd P f n c;by_cases d:P n/\f m<f n
   .refine⟨n,U,d.1,λk hk pk=>?_⟩;by_cases e:k=n
    .rw[e];exact ABp _
    .have:=hx k U pk;lia
   .refine⟨m,U,pm,λk hk pk=>?_⟩;by_cases e:k=n
    .rw[e]at pk ⊢;exact Int.not_lt.mp λz=>d ⟨pk,z⟩
    .exact hx k U pk
  .obtain⟨k,hk,pk⟩:=h;have:k=n:=by
    rcases AEZ k n with z|z
    .exact absurd ⟨k,z,pk⟩ c
    .lia
   subst this;refine⟨k,U,pk,λj hj pj=>?_⟩;by_cases e:j=k
   .rw[e];exact ABp _
   .exact absurd ⟨j,U,pj⟩ c
theorem G0{a b A B C D:Pt}{Q s t:Int}(e1:Q*A.1+s*(B.1-A.1)=Q*C.1+t*(D.1-C.1))(e2:Q*A.2+s*(B.2-A.2)=Q*C.2+t*(D.2-C.2)):(Q-s)*AG a b A+s*AG a b B=(Q-t)*AG a b C+t*AG a b D:=by
 have f:∀(X Y:Pt)(u:Int),(Q-u)*AG a b X+u*AG a b Y=(b.1-a.1)*((Q*X.2+u*(Y.2-X.2))-Q*a.2)-(b.2-a.2)*((Q*X.1+u*(Y.1-X.1))-Q*a.1):=λX Y u=>by unfold AG;grind
 rw[f,f,e1,e2]
theorem GH(a b:Pt):AG a b a=0/\AG a b b=0:=by unfold AG;exact⟨AAb,AAb⟩
theorem KQ(a b c:Pt):AG b c a=AG a b c:=by unfold AG;grind
section
variable{r:List Pt}(S:Sm r)
include S
theorem Sm.norm(v k:Int):∃e:Int,0<=e/\e<r.length/\(k-(v+e))%(r.length)=0:=by have h3:=S.s.l3;refine⟨(k-v)%(r.length),ABC _ U,AA3 _ U,?_⟩;rw[show k-(v+(k-v)%(r.length))=(k-v)-(k-v)%(r.length)by lia,ABz,ABI _<|ABy _,ACC];rfl
theorem Sm.low:∃v:Int,∀k:Int,yy r v<=yy r k:=by have h3:=S.s.l3;obtain⟨m,hm,h⟩:=Zi (λk=>yy r<|k) r.length U;refine⟨m,λk=>?_⟩;obtain⟨e,e0,e1,he⟩:=S.norm 0 k;rw[ABt]at he;have:=h e.toNat U;rw[AAz e0,<-C6 he]at this;exact this
theorem Sm.conv{v:Int}(hv:∀k,yy r v<=yy r k):0<AG (AA r<|v-1) (AA r v) (AA r<|v+1):=by
 have h3:=S.s.l3;have em:v-1+1=v:=U
 have hu:yy r v<yy r (v-1):=by have:=S.g0 v;have:=hv<|v-1;lia
 have hw:yy r v<yy r (v+1):=by have:=S.g1 v;have:=hv<|v+1;lia
 have su:=FE (by rw[em];lia) hu;have sw:=FF U hw;have hc:=S.c (by rw[sw];lia);unfold cc at hc;rw[Ax hw]at hc;have hR:Rr r (yy r v) v=ind (L r v<|v-1)*(-1):=by
  unfold Rr;have sh:=QT (f:=λj=>ind (L r v j)*AK r (yy r v) j) (n:=r.length) U (λa b h=>by rw[Fb h,HK (by rw[ACC];rfl) h]) (v-1)
  rw[<-sh];rw[NW (d:=0) U λm hm Ap=>?_]
  .rw[Int.natCast_zero,ABG,su]
  .by_cases m1:m=1
   .rw[m1,show v-1+((1:Nat))=v by lia,Ah<|FN r v λc=>S.g1 v c.symm,ABR]
   .have:AK r (yy r v) (v-1+(m))=0:=by
     apply ABa;intro c;have hr:=C4 c;have h1:=hv<|v-1+m;have h2:=hv<|v-1+m+1;by_cases x:yy r (v-1+m)<=yy r v
     .have:=S.g (v-1+m) v U;rw[show v-1+(m)-v=m-1 by lia]at this;exact JG U U this
     .have:=S.g (v-1+m+1) v U;rw[show v-1+(m)+1-v=m by lia]at this;exact JG U U this
    rw[this,ABf]
 rw[hR]at hc;have hn:¬ L r v (v-1):=λc=>by rw[Ax c]at hc;lia
 have hL:=(S.s.JS (by rw[show v-(v-1)=1 by lia];exact JG U U) (by rw[sw];lia) (by rw[su];lia)).resolve_left hn;unfold L at hL;rw[em]at hL;have:=(Jg hu hw).mp<|E9 hL;rw[KQ]at this;exact this
theorem Sm.cy{v:Int}(D0:0<AG (AA r<|v-1) (AA r v) (AA r<|v+1)){e:Int}(h1:1<=e)(h2:e<=r.length-2){P R:Pt} (Jw:(P=AA r (v+e)/\R=AA r (v+e+1))\/(P=AA r (v+e+1)/\R=AA r (v+e))) {Q T ax bx fx:Int} (hQ:0<Q) (t0:0<=T) (t1:T<=Q) (Io:ax=(Q-T)*AG (AA r<|v-1) (AA r v) P+T*AG (AA r<|v-1) (AA r v) R) (K0:bx=(Q-T)*AG (AA r v) (AA r<|v+1) P+T*AG (AA r v) (AA r<|v+1) R) (Iq:fx=(Q-T)*AG (AA r<|v+1) (AA r<|v-1) P+T*AG (AA r<|v+1) (AA r<|v-1) R) (a0:0<=ax) (b0:0<=bx) (f0:0<=fx) (hF:0<=AG (AA r<|v+1) (AA r<|v-1) R) (ok:0<fx\/(e≠r.length-2/\e≠1)) : 0<=AG (AA r<|v-1) (AA r v) R/\0<=AG (AA r v) (AA r<|v+1) R:=by
 apply ABa;intro c;have em:v-1+1=v:=U
 have m1:(v+e-(v-1))%(r.length)=e+1:=by rw[show v+e-(v-1)=e+1 by lia,AAh U U]
 have m2:(v-1-(v+e))%(r.length)=r.length-(e+1):=by rw[show v-1-(v+e) = -(e+1)by lia,CV U U]
 have m3:(v+e-v)%(r.length)=e:=by rw[show v+e-v=e by lia,AAh U U]
 have m4:(v-(v+e))%(r.length)=r.length-e:=by rw[show v-(v+e) = -e by lia,CV U U]
 have rev:∀{q s:Int}{a b:Pt}{x y:Int},0<q->0<=s->s<=q->q*P.1+s*(R.1-P.1)=x->q*P.2+s*(R.2-P.2)=y->∃s':Int,0<=s'/\s'<=q/\q*(AA r<|v+e).1+s'*((AA r<|v+e+1).1-(AA r<|v+e).1)=x/\q*(AA r<|v+e).2+s'*((AA r<|v+e+1).2-(AA r<|v+e).2)=y:=λ{q s a b x y} hq s0 s1 e1 e2=>by
  rcases Jw with⟨rfl,rfl⟩|⟨rfl,rfl⟩
  .exact⟨s,s0,s1,e1,e2⟩
  .exact⟨q-s,U,U,by rw[<-e1];grind,by rw[<-e2];grind⟩
 rcases jg hQ t0 t1 D0 Io K0 Iq a0 b0 f0 hF U with⟨q,s,t,hq,s0,s1,u0,u1,e1,e2,st⟩|⟨q,s,t,hq,s0,s1,u0,u1,e1,e2,st⟩
 .obtain⟨s',x0,x1,f1,f2⟩:=rev (a:=P) (b:=P) hq s0 s1 e1 e2;have:=S.s.share (by rw[m1];lia) hq x0 x1 u0 u1 (by rw[em];exact f1) (by rw[em];exact f2);rw[m1,m2]at this;rcases ok with k|k
  .lia
  .lia
 .obtain⟨s',x0,x1,f1,f2⟩:=rev (a:=P) (b:=P) hq s0 s1 e1 e2;have:=S.s.share (by rw[m3];lia) hq x0 x1 u0 u1 f1 f2;rw[m3,m4]at this;rcases ok with k|k
  .lia
  .lia
end
section
variable{r:List Pt}(S:Sm r)
include S
set_option maxHeartbeats 1000000 in
theorem Sm.iw{v:Int}(D0:0<AG (AA r<|v-1) (AA r v) (AA r<|v+1)){d:Int}(d2:2<=d)(dn:d<=r.length-2)(az:0<=AG (AA r<|v-1) (AA r v) (AA r<|v+d))(bz:0<=AG (AA r v) (AA r<|v+1) (AA r<|v+d))(fz:0<=AG (AA r<|v+1) (AA r<|v-1) (AA r<|v+d)) (mx:∀e:Int,2<=e->e<=r.length-2->0<=AG (AA r<|v-1) (AA r v) (AA r<|v+e)->0<=AG (AA r v) (AA r<|v+1) (AA r<|v+e)->0<=AG (AA r<|v+1) (AA r<|v-1) (AA r<|v+e)->AG (AA r<|v+1) (AA r<|v-1) (AA r<|v+e)<=AG (AA r<|v+1) (AA r<|v-1) (AA r<|v+d)):Line r v<|v+d:=by
 have h3:=S.s.l3;have em:v-1+1=v:=U
 have en:AA r (v+(r.length-1))=AA r (v-1):=by rw[show v+((r.length:Int)-1)=v-1+r.length by lia,Ji]
 obtain⟨sz,z1,z2⟩:=RY (AA r<|v-1) (AA r v) (AA r<|v+1)<|AA r<|v+d;have vA:AG (AA r<|v-1) (AA r v) (AA r v)=0:=(GH _ _).2;have vB:AG (AA r v) (AA r<|v+1) (AA r v)=0:=(GH _ _).1;have vF:AG (AA r<|v+1) (AA r<|v-1) (AA r v)=AG (AA r<|v-1) (AA r v) (AA r<|v+1):=by rw[KQ,KQ]
 have uA:AG (AA r<|v-1) (AA r v) (AA r<|v-1)=0:=(GH _ _).1;have wB:AG (AA r v) (AA r<|v+1) (AA r<|v+1)=0:=(GH _ _).2;have wF:AG (AA r<|v+1) (AA r<|v-1) (AA r<|v+1)=0:=(GH _ _).1;have uF:AG (AA r<|v+1) (AA r<|v-1) (AA r<|v-1)=0:=(GH _ _).2;have hA:0<AG (AA r<|v-1) (AA r v) (AA r<|v+d):=by
  apply ABa;intro c;have c0:AG (AA r<|v-1) (AA r v) (AA r<|v+d)=0:=U
  rw[c0,ABR,ABG]at z1 z2;rw[c0,ABt]at sz;have at':At (AA r<|v-1) (AA r<|v-1+1)<|AA r<|v+d:=by
   rw[em];refine⟨AG (AA r<|v-1) (AA r v)<|AA r<|v+1,AG (AA r<|v+1) (AA r<|v-1)<|AA r<|v+d,D0,fz,U,?_,?_⟩
   .rw[ACx,z1,<-sz];grind
   .rw[ACx,z2,<-sz];grind
  refine S.s.FX (m:=v+d) (j:=v-1) ?_ ?_ at'
  .rw[show v+d-(v-1)=d+1 by lia,AAh U U];lia
  .rw[show v+d-(v-1)=d+1 by lia,AAh U U];lia
 have hB:0<AG (AA r v) (AA r<|v+1) (AA r<|v+d):=by
  apply ABa;intro c;have c0:AG (AA r v) (AA r<|v+1) (AA r<|v+d)=0:=U
  rw[c0,ABR,ABt]at z1 z2;rw[c0,ABG]at sz;have at':At (AA r v) (AA r<|v+1)<|AA r<|v+d:=by
   refine⟨AG (AA r<|v-1) (AA r v)<|AA r<|v+1,AG (AA r<|v-1) (AA r v)<|AA r<|v+d,D0,az,U,?_,?_⟩
   .rw[ACx,z1,<-sz];grind
   .rw[ACx,z2,<-sz];grind
  refine S.s.FX (m:=v+d) (j:=v) ?_ ?_ at'
  .rw[show v+d-v=d by lia,AAh U U];lia
  .rw[show v+d-v=d by lia,AAh U U];lia
 have mi:∀e:Int,0<=e->e<r.length->0<=AG (AA r<|v-1) (AA r v) (AA r<|v+e)->0<=AG (AA r v) (AA r<|v+1) (AA r<|v+e)->AG (AA r<|v+1) (AA r<|v-1) (AA r<|v+d)<AG (AA r<|v+1) (AA r<|v-1) (AA r<|v+e)->e≠0->False:=λe e0 e1 ha hb hf ez=>by
  by_cases c1:e=1
  .rw[c1,wF]at hf;lia
  by_cases c2:e=r.length-1
  .rw[c2,en,uF]at hf;lia
  .have:=mx e U U ha hb U;lia
 have fk:∀e:Int,1<=e->e<=r.length-1->(AA r<|v+e)≠(AA r<|v+d)->¬ At (AA r<|v+d) (AA r<|v+e) (AA r v)->CK (AA r<|v+d) (AA r<|v+e) (AA r v):=λe e1 e2 k8 E3 a b ha hb q1 q2=>by
  have lB:(AA r v)≠(AA r<|v+d):=S.ne (by rw[show v-(v+d) = -d by lia,CV U U];lia);by_cases a0:a=0
  .refine⟨a0,?_⟩;by_cases b0:b=0
   .exact b0
   .exfalso;apply lB;rw[a0,ABR]at q1 q2;have g1:=AAp.mp q1.symm;have g2:=AAp.mp q2.symm;exact ABS U U
  by_cases b0:b=0
  .exfalso;apply k8;rw[b0,ABR]at q1 q2;have g1:=AAp.mp q1;have g2:=AAp.mp q2;exact ABS U U
  exfalso;rcases ABU b a with h|h|h
  .have l1:a*(AA r<|v+d).1+b*((AA r v).1-(AA r<|v+d).1)=a*(AA r<|v+e).1+0*((AA r<|v+e).1-(AA r<|v+e).1):=AAb
   have l2:a*(AA r<|v+d).2+b*((AA r v).2-(AA r<|v+d).2)=a*(AA r<|v+e).2+0*((AA r<|v+e).2-(AA r<|v+e).2):=AAb
   have sA:=G0 (a:=(AA r<|v-1)) (b:=(AA r v)) l1 l2;have sB:=G0 (a:=(AA r v)) (b:=(AA r<|v+1)) l1 l2;have sF:=G0 (a:=(AA r<|v+1)) (b:=(AA r<|v-1)) l1 l2;rw[vA,ABf,ABG,ABR,ABG,ACi]at sA;rw[vB,ABf,ABG,ABR,ABG,ACi]at sB;rw[vF,ABR,ABG,ACi]at sF;have pA:=AAq (U:0<a-b) hA;have pB:=AAq (U:0<a-b) hB;have pF:=AAq (U:0<b) (U:0<AG (AA r<|v-1) (AA r v) (AA r<|v+1)-AG (AA r<|v+1) (AA r<|v-1) (AA r<|v+d));rw[sA]at pA;rw[sB]at pB;have tA:=ADP pA (U:0<a);have tB:=ADP pB (U:0<a);have tF:0<a*(AG (AA r<|v+1) (AA r<|v-1) (AA r<|v+e)-AG (AA r<|v+1) (AA r<|v-1) (AA r<|v+d)):=by rw[ACx]at pF ⊢;rw[<-sF,AD9];lia
   have tF:=ADP tF (U:0<a);exact mi e U U U U U U
  .subst h;have g1:=ACG b0 q1;have g2:=ACG b0 q2;have:(AA r<|v+e)=(AA r v):=ABS U U;exact S.ne (by rw[show v+e-v=e by lia];exact JG U U) this
  .exact E3 ⟨b,a,U,U,U,q1.symm,q2.symm⟩
 refine⟨⟨MS U,MU (u:=(AA r<|v+1)) (by rw[GI];lia),MU U,?_,?_,λk x1 x2 x3 x4 h=>?_⟩,.inl ⟨D0,hB,hA⟩⟩
 .rw[show v+d+1=v+(d+1)by lia];refine fk (d+1) U U ?_ ?_
  .rw[show v+(d+1)=v+d+1 by lia];exact S.st _
  .rw[show v+(d+1)=v+d+1 by lia];refine S.s.FX (m:=v) (j:=v+d) ?_ ?_
   .rw[show v-(v+d) = -d by lia,CV U U];lia
   .rw[show v-(v+d) = -d by lia,CV U U];lia
 .rw[show v+d-1=v+(d-1)by lia];have e1:v+(d-1)+1=v+d:=U
  refine fk (d-1) U U (λc=>S.st (v+(d-1))<|by rw[e1,c]) λc=>?_;refine S.s.FX (m:=v) (j:=v+(d-1)) ?_ ?_ (by rw[e1];exact ME c)
  .rw[show v-(v+(d-1)) = -(d-1)by lia,CV U U];lia
  .rw[show v-(v+(d-1)) = -(d-1)by lia,CV U U];lia
 .obtain⟨e,e0,e1,ek⟩:=S.norm v k;have ex:∀x:Int,(x-k)%(r.length:Int)=(x-(v+e))%(r.length:Int):=λx=>by rw[show x-(v+e)=(x-k)+(k-(v+e))by lia,AB3,ek,ABG,ABI _<|ABy _]
  rw[ex]at x1 x2 x3 x4;rw[Az ek,Az<|Bx ek]at h;have n1:e≠0:=λc=>x1 (by rw[c,ABG,ACC];rfl);have n2:e≠r.length-1:=λc=>x2 (by rw[show v-(v+e) = -e by lia,CV U U];lia);obtain⟨Q,s,u,hQ,s0,s1,u0,u1,q1,q2⟩:=h;by_cases c0:s=0
  .refine S.s.FX x1 x2 ⟨Q,u,hQ,u0,u1,?_,?_⟩
   .rw[c0]at q1;grind
   .rw[c0]at q2;grind
  by_cases c1:s=Q
  .refine S.s.FX x3 x4 ⟨Q,u,hQ,u0,u1,?_,?_⟩
   .rw[c1]at q1;grind
   .rw[c1]at q2;grind
  have sA:=G0 (a:=(AA r<|v-1)) (b:=(AA r v)) q1 q2;have sB:=G0 (a:=(AA r v)) (b:=(AA r<|v+1)) q1 q2;have sF:=G0 (a:=(AA r<|v+1)) (b:=(AA r<|v-1)) q1 q2;rw[vA,ABf,ABt]at sA;rw[vB,ABf,ABt]at sB;rw[vF]at sF;have pA:=AAq (U:0<s) hA;have pB:=AAq (U:0<s) hB;have p1:=AAq (U:0<Q-s) (U:0<AG (AA r<|v-1) (AA r v) (AA r<|v+1)-AG (AA r<|v+1) (AA r<|v-1) (AA r<|v+d));have p2:=AAo (AAm hQ) fz;have Ou:Q*AG (AA r<|v+1) (AA r<|v-1) (AA r<|v+d)<(Q-s)*AG (AA r<|v-1) (AA r v) (AA r<|v+1)+s*AG (AA r<|v+1) (AA r<|v-1) (AA r<|v+d):=by rw[ACx]at p1;rw[AD9 Q s<|AG (AA r<|v+1) (AA r<|v-1)<|AA r<|v+d]at p1;lia
  have fin:∀(P R:Pt)(t:Int),0<=t->t<=Q->((P=AA r (v+e)/\R=AA r (v+e+1))\/(P=AA r (v+e+1)/\R=AA r (v+e)))->s*AG (AA r<|v-1) (AA r v) (AA r<|v+d)=(Q-t)*AG (AA r<|v-1) (AA r v) P+t*AG (AA r<|v-1) (AA r v) R->s*AG (AA r v) (AA r<|v+1) (AA r<|v+d)=(Q-t)*AG (AA r v) (AA r<|v+1) P+t*AG (AA r v) (AA r<|v+1) R->(Q-s)*AG (AA r<|v-1) (AA r v) (AA r<|v+1)+s*AG (AA r<|v+1) (AA r<|v-1) (AA r<|v+d)=(Q-t)*AG (AA r<|v+1) (AA r<|v-1) P+t*AG (AA r<|v+1) (AA r<|v-1) R->AG (AA r<|v+1) (AA r<|v-1) P<=AG (AA r<|v+1) (AA r<|v-1) R->False:=λP R t t0 t1 Jw eA eB eF hle=>by
   have m1:=AAv hle (U:0<=Q-t);have hR:AG (AA r<|v+1) (AA r<|v-1) (AA r<|v+d)<AG (AA r<|v+1) (AA r<|v-1) R:=by apply ADE (a:=Q) _<|AAm hQ;rw[AD9 Q t<|AG (AA r<|v+1) (AA r<|v-1) R]at m1;lia
   obtain⟨ia,ib⟩:=S.cy D0 (e:=e) U U Jw hQ t0 t1 eA eB eF U U U U<|.inl U;rcases Jw with⟨_,hr⟩|⟨_,hr⟩
   .rw[hr,show v+e+1=v+(e+1)by lia]at ia ib hR;exact mi (e+1) U U ia ib hR U
   .rw[hr]at ia ib hR;exact mi e U U ia ib hR n1
  rcases AB2 (AG (AA r<|v+1) (AA r<|v-1)<|AA r<|v+e) (AG (AA r<|v+1) (AA r<|v-1)<|AA r<|v+e+1)with hle|hle
  .exact fin _ _ u u0 u1 (.inl ⟨rfl,rfl⟩) sA sB sF hle
  .refine fin _ _ (Q-u) U U (.inr ⟨rfl,rfl⟩) ?_ ?_ ?_ hle
   .rw[sA];rw[show Q-(Q-u)=u by lia];lia
   .rw[sB];rw[show Q-(Q-u)=u by lia];lia
   .rw[sF];rw[show Q-(Q-u)=u by lia];lia
end
theorem X1{A X B:Pt}(hX:X≠A)(hB:B≠A)(h1:¬ At A B X)(h2:¬ At A X B):CK A X B:=λa b ha hb q1 q2=>by
 by_cases a0:a=0
 .refine⟨a0,?_⟩;by_cases b0:b=0
  .exact b0
  .exfalso;apply hB;rw[a0,ABR]at q1 q2;have g1:=AAp.mp q1.symm;have g2:=AAp.mp q2.symm;exact ABS U U
 by_cases b0:b=0
 .exfalso;apply hX;rw[b0,ABR]at q1 q2;have g1:=AAp.mp q1;have g2:=AAp.mp q2;exact ABS U U
 exfalso;rcases AB2 b a with h|h
 .exact h1 ⟨a,b,U,hb,h,q1,q2⟩
 .exact h2 ⟨b,a,U,ha,h,q1.symm,q2.symm⟩
theorem RX{a b A B X:Pt}(h:At A B X)(hA:0<=AG a b A)(hB:0<=AG a b B):0<=AG a b X:=by
 obtain⟨q,s,hq,s0,s1,e1,e2⟩:=h;have l:=G0 (a:=a) (b:=b) (A:=A) (B:=B) (C:=X) (D:=X) (Q:=q) (s:=s) (t:=0) AAb AAb;rw[ABR,ABG,ACi]at l;have m1:=AAo (U:0<=q-s) hA;have m2:=AAo s0 hB;rcases AEX (AG a b X) 0 with c|c
 .have:=ACe hq c;lia
 .exact c
section
variable{r:List Pt}(S:Sm r)
include S
set_option maxHeartbeats 1000000 in
theorem Sm.ix{v:Int}(h4:4<=r.length)(D0:0<AG (AA r<|v-1) (AA r v) (AA r<|v+1)) (no:∀e:Int,2<=e->e<=r.length-2->¬ (0<=AG (AA r<|v-1) (AA r v) (AA r<|v+e)/\0<=AG (AA r v) (AA r<|v+1) (AA r<|v+e)/\0<=AG (AA r<|v+1) (AA r<|v-1) (AA r<|v+e))):Line r (v-1)<|v+1:=by
 have em:v-1+1=v:=U
 have ew:v+1-1=v:=U
 have e2:AA r (v+(r.length-2))=AA r (v-1-1):=by rw[show v+((r.length:Int)-2)=v-1-1+r.length by lia,Ji]
 have vA:AG (AA r<|v-1) (AA r v) (AA r v)=0:=(GH _ _).2;have uA:AG (AA r<|v-1) (AA r v) (AA r<|v-1)=0:=(GH _ _).1;have uB:AG (AA r v) (AA r<|v+1) (AA r<|v-1)=AG (AA r<|v-1) (AA r v) (AA r<|v+1):=by rw[KQ]
 have wB:AG (AA r v) (AA r<|v+1) (AA r<|v+1)=0:=(GH _ _).2;have wF:AG (AA r<|v+1) (AA r<|v-1) (AA r<|v+1)=0:=(GH _ _).1;have uF:AG (AA r<|v+1) (AA r<|v-1) (AA r<|v-1)=0:=(GH _ _).2;have seg:∀e:Int,2<=e->e<=r.length-2->¬ At (AA r<|v-1) (AA r<|v+1) (AA r<|v+e):=λe a b c=>no e a b ⟨RX c U U,RX c U U,RX c U U⟩;have YG:(AA r<|v+1)≠(AA r<|v-1):=S.ne (by rw[show v+1-(v-1)=2 by lia];exact JG U U);have t1:v-1-1+1=v-1:=U
 have k7:AA r (v-1-1)≠(AA r<|v-1):=λc=>S.st (v-1-1) (by rw[t1,c]);have pV:¬ At (AA r<|v-1) (AA r<|v-1-1) (AA r<|v+1):=λc=>by
  refine S.s.FX (m:=v+1) (j:=v-1-1) ?_ ?_ (by rw[t1];exact ME c)
  .rw[show v+1-(v-1-1)=3 by lia,AAh U U];lia
  .rw[show v+1-(v-1-1)=3 by lia,AAh U U];lia
 have pU:¬ At (AA r<|v+1) (AA r<|v+1+1) (AA r<|v-1):=by
  refine S.s.FX (m:=v-1) (j:=v+1) ?_ ?_
  .rw[show v-1-(v+1) = -2 by lia,CV U U];lia
  .rw[show v-1-(v+1) = -2 by lia,CV U U];lia
 refine⟨⟨MS U,?_,X1 k7 YG (by rw[<-e2];exact seg _ U U) pV,X1 (S.st _) YG.symm (λc=>seg 2 U U (by rw[show v+2=v+1+1 by lia];exact ME c)) pU,?_,λk x1 x2 x3 x4 h=>?_⟩,?_⟩
 .rw[em];exact MU (u:=(AA r v)) (by rw[GI];lia)
 .rw[ew];exact MU (u:=(AA r v)) (v:=(AA r<|v+1)) (w:=(AA r<|v-1)) (by rw[KQ];lia)
 .obtain⟨e,e0,e1,ek⟩:=S.norm v k;have ex:∀x:Int,(x-k)%(r.length:Int)=(x-(v+e))%(r.length:Int):=λx=>by rw[show x-(v+e)=(x-k)+(k-(v+e))by lia,AB3,ek,ABG,ABI _<|ABy _]
  rw[ex]at x1 x2 x3 x4;rw[Az ek,Az<|Bx ek]at h;have n1:e≠r.length-1:=λc=>x1 (by rw[show v-1-(v+e)=r.length*(-1)by lia,ACu]);have n2:e≠r.length-2:=λc=>x2 (by rw[show v-1-(v+e)=1+r.length*(-1)by lia,ABl,AAh U U]);have n3:e≠1:=λc=>x3 (by rw[c,ACC];rfl);have n4:e≠0:=λc=>x4 (by rw[c,show v+1-(v+0)=1 by lia,AAh U U]);obtain⟨Q,s,u,hQ,s0,s1,u0,u1,q1,q2⟩:=h;have sA:=G0 (a:=(AA r<|v-1)) (b:=(AA r v)) q1 q2;have sB:=G0 (a:=(AA r v)) (b:=(AA r<|v+1)) q1 q2;have sF:=G0 (a:=(AA r<|v+1)) (b:=(AA r<|v-1)) q1 q2;rw[uA,ABf,ABt]at sA;rw[wB,uB,ABf,ABG]at sB;rw[uF,wF,ABf,ABf,ABG]at sF;have fin:∀(P R:Pt)(t:Int),0<=t->t<=Q->((P=AA r (v+e)/\R=AA r (v+e+1))\/(P=AA r (v+e+1)/\R=AA r (v+e)))->s*AG (AA r<|v-1) (AA r v) (AA r<|v+1)=(Q-t)*AG (AA r<|v-1) (AA r v) P+t*AG (AA r<|v-1) (AA r v) R->(Q-s)*AG (AA r<|v-1) (AA r v) (AA r<|v+1)=(Q-t)*AG (AA r v) (AA r<|v+1) P+t*AG (AA r v) (AA r<|v+1) R->0=(Q-t)*AG (AA r<|v+1) (AA r<|v-1) P+t*AG (AA r<|v+1) (AA r<|v-1) R->0<=AG (AA r<|v+1) (AA r<|v-1) R->False:=λP R t t0 t1 Jw eA eB eF hR=>by
   obtain⟨ia,ib⟩:=S.cy D0 (e:=e) U U Jw hQ t0 t1 eA eB eF (AAo s0<|AAm D0) (AAo (U:0<=Q-s)<|AAm D0) (ABp 0) hR<|.inr ⟨n2,n3⟩;rcases Jw with⟨_,hr⟩|⟨_,hr⟩
   .rw[hr,show v+e+1=v+(e+1)by lia]at ia ib hR;exact no (e+1) U U ⟨ia,ib,hR⟩
   .rw[hr]at ia ib hR;exact no e U U ⟨ia,ib,hR⟩
  by_cases c:0<=AG (AA r<|v+1) (AA r<|v-1) (AA r<|v+e+1)
  .exact fin _ _ u u0 u1 (.inl ⟨rfl,rfl⟩) sA sB sF c
  .refine fin _ _ (Q-u) U U (.inr ⟨rfl,rfl⟩) ?_ ?_ ?_ ?_
   .rw[sA];rw[show Q-(Q-u)=u by lia];lia
   .rw[sB];rw[show Q-(Q-u)=u by lia];lia
   .rw[sF];rw[show Q-(Q-u)=u by lia];lia
   .rcases AEX (AG (AA r<|v+1) (AA r<|v-1)<|AA r<|v+e) 0 with z|z
    .exfalso;have m1:=AAo (U:0<=Q-u) (U:0<=-AG (AA r<|v+1) (AA r<|v-1) (AA r<|v+e));have m2:=AAo u0 (U:0<=-AG (AA r<|v+1) (AA r<|v-1) (AA r<|v+e+1));rw[ADX]at m1 m2;by_cases cu:u=0
     .have:=AAq hQ (U:0 < -AG (AA r<|v+1) (AA r<|v-1) (AA r<|v+e));rw[cu,ACi,ABR,ABG]at sF;rw[ADX]at this;lia
     .have:=AAq (U:0<u) (U:0 < -AG (AA r<|v+1) (AA r<|v-1) (AA r<|v+e+1));rw[ADX]at this;lia
    .exact z
 .unfold Dl;rw[em];by_cases c:AG (AA r<|v-1-1) (AA r<|v-1) (AA r v)>0
  .refine .inl ⟨c,D0,?_⟩;apply ABa;intro cn;have aT:0<AG (AA r<|v-1) (AA r v) (AA r<|v-1-1):=by rw[KQ<|AA r<|v-1-1];exact c
   have fT:0<=AG (AA r<|v+1) (AA r<|v-1) (AA r<|v-1-1):=by
    have:AG (AA r<|v+1) (AA r<|v-1) (AA r<|v-1-1) = - AG (AA r<|v-1-1) (AA r<|v-1) (AA r<|v+1):=by unfold AG;grind
    lia
   have bT:¬ 0<=AG (AA r v) (AA r<|v+1) (AA r<|v-1-1):=λb=>no (r.length-2) U U (by rw[e2];exact⟨U,b,fT⟩);have m1:=AAo (AAm D0) fT;have m2:=AAo (AAm D0)<|AAm aT;obtain⟨q,s,t,hq,s0,s1,u0,u1,f1,f2,_,_⟩:=R9 (AAa:=(AA r v)) (V:=(AA r<|v+1)) (W:=(AA r<|v-1)) (P:=(AA r<|v-1)) (R:=AA r<|v-1-1) (Q:=1) (T:=0) (ax:=AG (AA r<|v-1) (AA r v)<|AA r<|v+1) (bx:=0) (fx:=0) U U U (by rw[KQ];exact D0) (by rw[uB];lia) (by rw[uF];lia) (by rw[uA];lia) (AAm D0) U U U;have:=S.s.share (i:=v-1-1) (j:=v) (s:=q-s) (by rw[show v-1-1-v = -2 by lia,CV U U];lia) hq U U u0 u1 (by rw[t1,<-f1];grind) (by rw[t1,<-f2];grind);rw[show v-1-1-v = -2 by lia,CV U U,show v-(v-1-1)=2 by lia,AAh U U]at this;lia
  .exact .inr ⟨c,.inl D0⟩
theorem Sm.diag(h4:4<=r.length):∃(s:Int)(l:Nat),2<=l/\l+2<=r.length/\Line r s (s+l):=by
 obtain⟨v,hv⟩:=S.low;have D0:=S.conv hv;by_cases c:∃k:Nat,k<r.length/\(2<=k/\k+2<=r.length/\0<=AG (AA r<|v-1) (AA r v) (AA r<|v+(k:Int))/\0<=AG (AA r v) (AA r<|v+1) (AA r<|v+(k:Int))/\0<=AG (AA r<|v+1) (AA r<|v-1) (AA r<|v+(k:Int)))
 .obtain⟨m,hm,⟨h2,hn,a,b,f⟩,mx⟩:=Zd (λk:Nat=>2<=k/\k+2<=r.length/\0<=AG (AA r<|v-1) (AA r v) (AA r<|v+(k:Int))/\0<=AG (AA r v) (AA r<|v+1) (AA r<|v+(k:Int))/\0<=AG (AA r<|v+1) (AA r<|v-1) (AA r<|v+(k:Int))) (λk:Nat=>AG (AA r<|v+1) (AA r<|v-1)<|AA r<|v+(k:Int)) r.length c;refine⟨v,m,h2,hn,S.iw D0 U U a b f λe e2 en ea eb ef=>?_⟩;have:=mx e.toNat U;rw[AAz U]at this;exact this ⟨U,U,ea,eb,ef⟩
 .refine⟨v-1,2,U,h4,?_⟩;rw[show v-1+((2:Nat):Int)=v+1 by lia];refine S.ix h4 D0 λe e2 en z=>c ⟨e.toNat,U,U,U,?_⟩;rw[AAz U];exact z
end
def Jn(r:List Pt)(i j:Int):Prop:=(i-j)%(r.length:Int)=1\/(j-i)%(r.length:Int)=1\/Line r i j
theorem Jn.congr{r:List Pt}{i j i' j':Int}(hi:(i-i')%(r.length:Int)=0)(hj:(j-j')%(r.length:Int)=0)(h:Jn r i j):Jn r i' j':=by
 have e:∀{a b c d:Int},(a-b)%(r.length:Int)=0->(c-d)%(r.length:Int)=0->(b-d)%(r.length:Int)=(a-c)%(r.length:Int):=λ{a b c d} h1 h2=>by
  have h3:(a-c-(b-d))%(r.length:Int)=0:=by rw[show a-c-(b-d)=(a-b)-(c-d)by lia,ABz,h1,h2];rfl
  exact(ACV.mpr h3).symm
 unfold Jn;rw[e hi hj,e hj hi];rcases h with h|h|h
 .exact .inl h
 .exact .inr<|.inl h
 .exact .inr<|.inr<|h.congr hi hj
theorem Jn.symm{r:List Pt}(S:Sm r){i j:Int}(h:Jn r i j):Jn r j i:=by
 rcases h with h|h|h
 .exact .inr<|.inl h
 .exact .inl h
 .exact .inr<|.inr<|Line.symm S h
theorem LP{n d:Int}(h:d%n=1)(h1 : -n<d)(h2:d<n):d=1\/d=1-n:=by
 by_cases c:0<=d
 .rw[AAh c h2]at h;exact .inl h
 .have:=CV (n:=n) (d:=-d) U U;rw[ADh]at this;lia
theorem oq{n:Int}(hn:1<n):(1:Int)%n=1:=AAh U hn
section
variable{r:List Pt}(S:Sm r){s:Int}{l:Nat}(l2:2<=l)(ln:l+2<=r.length)(L:Line r s (s+l))
include S l2 ln L
theorem PQ{a b:Int}(a0:0<=a)(a1:a<=l)(b0:0<=b)(b1:b<=l)(h:Jn (sub r s l) a b):Jn r (s+a)<|s+b:=by
 have h1:=oq (n:=(r.length:Int)) U;rcases h with h|h|h
 .rw[Et]at h;rcases LP h U U with c|c
  .exact .inl (by rw[show s+a-(s+b)=1 by lia];exact h1)
  .refine .inr<|.inr ?_;rw[show a=0 by lia,show b=l by lia,ABG];exact L
 .rw[Et]at h;rcases LP h U U with c|c
  .exact .inr (.inl (by rw[show s+b-(s+a)=1 by lia];exact h1))
  .refine .inr<|.inr ?_;rw[show b=0 by lia,show a=l by lia,ABG];exact Line.symm S L
 .exact .inr<|.inr<|oJ S l2 ln L a0 a1 b0 b1 h
theorem fJ{e k:Int}(e0:0<=e)(e1:e<l)(k1:(k-e)%((sub r s l).length:Int)≠0)(k2:(k-(e+1))%((sub r s l).length:Int)≠0)(j1:Jn (sub r s l) e k)(j2:Jn (sub r s l) k<|e+1) : ∃k:Int,(k-(s+e))%(r.length:Int)≠0/\(k-(s+e+1))%(r.length:Int)≠0/\Jn r (s+e) k/\Jn r k (s+e+1):=by
 obtain⟨a,a0,a1,ea⟩:=KS r s l k;have z:∀x:Int,(x-x)%((sub r s l).length:Int)=0:=λx=>by rw[ACC];rfl
 have n1:a≠e:=λc=>k1 (by rw[<-c];exact ea);have n2:a≠e+1:=λc=>k2 (by rw[<-c];exact ea);have ne:∀{d:Int},d≠0->-(r.length:Int)<d->d<r.length->d%(r.length:Int)≠0:=λ{d} u v w c=>u<|Zj c v w;refine⟨s+a,ne U U U,ne U U U,PQ S l2 ln L e0 U a0 a1<|j1.congr (z e) ea,?_⟩;rw[show s+e+1=s+(e+1)by lia];exact PQ S l2 ln L a0 a1 U U<|j2.congr ea<|z _
end
theorem Sm.Je:∀(n:Nat){r:List Pt},r.length=n->Sm r->∀m:Int,∃k:Int,(k-m)%(r.length:Int)≠0/\(k-(m+1))%(r.length:Int)≠0/\Jn r m k/\Jn r k (m+1):=by
 intro n
 induction n using Nat.strongRecOn with
 |ind n ih=>
  intro r hn S m;have h3:=S.s.l3;by_cases c3:r.length=3
  .refine⟨m+2,?_,?_,.inl ?_,.inl ?_⟩
   .rw[show m+2-m=2 by lia,c3];decide
   .rw[show m+2-(m+1)=1 by lia,c3];decide
   .rw[show m-(m+2) = -2 by lia,c3];decide
   .rw[show m+2-(m+1)=1 by lia,c3];decide
  .obtain⟨s,l,l2,ln,L⟩:=S.diag U;have key:∀(s:Int)(l:Nat),2<=l->l+2<=r.length->Line r s (s+l)->∀e:Int,0<=e->e<l->∃k:Int,(k-(s+e))%(r.length:Int)≠0/\(k-(s+e+1))%(r.length:Int)≠0/\Jn r (s+e) k/\Jn r k (s+e+1):=λs l l2 ln L e e0 e1=>by obtain⟨k,k1,k2,j1,j2⟩:=ih (l+1) U (r:=sub r s l) (sub_len r s l) (NU S l2 ln L) e;exact fJ S l2 ln L e0 e1 k1 k2 j1 j2
   obtain⟨e,e0,e1,em⟩:=S.norm s m;have z:∀x:Int,(x-x)%(r.length:Int)=0:=λx=>by rw[ACC];rfl
   have fin:(∃k:Int,(k-(s+e))%(r.length:Int)≠0/\(k-(s+e+1))%(r.length:Int)≠0/\Jn r (s+e) k/\Jn r k (s+e+1)):=by
    by_cases c:e<l
    .exact key s l l2 ln L e e0 c
    .have:=key (s+l) (r.length-l) U U (Z5 S l2 ln L) (e-l) U U;rw[show s+(l:Int)+(e-l)=s+e by lia]at this;exact this
   obtain⟨k,k1,k2,j1,j2⟩:=fin;have XR:=CJ em;refine⟨k,λc=>k1<|NA c em,λc=>k2<|NA c<|Bx em,j1.congr XR<|z k,j2.congr (z k)<|Bx XR⟩
theorem Sm.fI{r:List Pt}(S:Sm r){i j:Int}(i0:0<=i)(ij:i+2<=j)(jn:j<r.length)(h:Line r i j\/(i=0/\j=r.length-1)):∃k:Int,i<k/\k<j/\Jn r i k/\Jn r k j:=by
 have h3:=S.s.l3;rcases h with L|⟨rfl,rfl⟩
 .have hf:=OS U L.1.Bq U U;have el:i+(((j-i).toNat:Nat):Int)=j:=U
  have l2:2<=(j-i).toNat:=U
  have ln:(j-i).toNat+2<=r.length:=U
  rw[<-el]at L;obtain⟨k,k1,k2,j1,j2⟩:=Sm.Je _ rfl (NU S l2 ln L) ((j-i).toNat:Int);obtain⟨a,a0,a1,ea⟩:=KS r i (j-i).toNat k;have z:∀x:Int,(x-x)%((sub r i (j-i).toNat).length:Int)=0:=λx=>by rw[ACC];rfl
  have z1:(((j-i).toNat:Int)+1-0)%((sub r i (j-i).toNat).length:Int)=0:=by rw[(Et r i (j-i).toNat),ACi,AC9]
  have n1:a≠((j-i).toNat:Int):=λc=>k1 (by rw[<-c];exact ea);have n2:a≠0:=λc=>k2 (by subst c;exact NA ea<|CJ z1);have u1:=PQ S l2 ln L U U a0 a1<|j1.congr (z _) ea;have u2:=PQ S l2 ln L a0 a1 U U<|j2.congr ea z1;rw[el]at u1;rw[ABG]at u2;exact⟨i+a,U,U,u2.symm S,u1.symm S⟩
 .obtain⟨k,k1,k2,j1,j2⟩:=Sm.Je _ rfl S<|(r.length:Int)-1;obtain⟨a,a0,a1,ea⟩:=S.norm 0 k;rw[ABt]at ea;have z:∀x:Int,(x-x)%(r.length:Int)=0:=λx=>by rw[ACC];rfl
  have z1:((r.length:Int)-1+1-0)%(r.length:Int)=0:=by rw[show(r.length:Int)-1+1-0=r.length by lia,AC9]
  have n1:a≠(r.length:Int)-1:=λc=>k1 (by rw[<-c];exact ea);have n2:a≠0:=λc=>k2 (by subst c;exact NA ea<|CJ z1);exact⟨a,U,U,(j2.congr ea z1).symm S,(j1.congr (z _) ea).symm S⟩
theorem wm(k:Int){a b c d:Pt}(h:Bk a b c d):Bk (lean k a) (lean k b) (lean k c)<|lean k d:=by obtain⟨q,s,t,h1,h2,h3,h4,h5,e1,e2⟩:=h;unfold lean;exact⟨q,s,t,h1,h2,h3,h4,h5,e1,by dsimp only;grind⟩
theorem OX{k:Int}{A X B:Pt}(h:CK (lean k A) (lean k X)<|lean k B):CK A X B:=λs t hs ht e1 e2=>h s t hs ht e1 (by unfold lean;dsimp only;grind)
theorem OY(k:Int){A X B:Pt}(h:CK A X B):CK (lean k A) (lean k X)<|lean k B:=λs t hs ht e1 e2=>h s t hs ht e1 (by
 unfold lean at e1 e2;dsimp only at e1 e2
 grind)
theorem ZQ{r:List Pt}(h0:0<r.length)(k i j:Int):Line (r.map<|lean k) i j↔Line r i j:=by
 have hc:∀m,AA (r.map<|lean k) m=lean k (AA r m):=λm=>Kr h0 k m;constructor
 .rintro⟨p,c⟩;have p1:=p.Bq;have p2:=p.f1;have p3:=p.f2;have p4:=p.f3;have p5:=p.f4;have p6:=p.nt
  rw[AAi]at p1 p6;simp only[hc]at p2 p3 p4 p5 p6 c;rw[Qq]at c;exact⟨⟨p1,OX p2,OX p3,OX p4,OX p5,λm a b c d h=>p6 m a b c d<|wm k h⟩,c⟩
 .rintro⟨p,c⟩;refine⟨⟨by rw[AAi];exact p.Bq,?_,?_,?_,?_,?_⟩,?_⟩
  .rw[hc,hc,hc];exact OY k p.f1
  .rw[hc,hc,hc];exact OY k p.f2
  .rw[hc,hc,hc];exact OY k p.f3
  .rw[hc,hc,hc];exact OY k p.f4
  .intro m a b c d h;rw[AAi]at a b c d;rw[hc,hc,hc,hc]at h;exact p.nt m a b c d<|bO h
  .rw[hc,hc,hc,hc,Qq];exact c
theorem WA(f:Nat->Int):∀n:Nat,∃M:Int,0<M/\∀k,k<n->-M<f k/\f k<M
 |0=>⟨1,U,λk h=>U⟩
 |n+1=>by
  obtain⟨M,h0,h⟩:=WA f n;refine⟨M+(f n).natAbs+1,U,λk hk=>?_⟩;by_cases e:k=n
  .rw[e];lia
  .have:=h k U;lia
theorem Rm.sm{r:List Pt}(R:Rm r):∃k:Int,Sm<|r.map<|lean k:=by
 have S:=R.simple;have h3:=S.l3;obtain⟨M,M0,hM⟩:=WA (λk=>yy r (k:Int)) r.length;have hb:∀k:Int,-M<(AA r k).2/\(AA r k).2<M:=λk=>by have k1:=AA3 k (U:(0:Int)<r.length);have:=hM (k%(r.length:Int)).toNat U;rw[AAz<|ABC k (b:=(r.length:Int)) U]at this;unfold yy at this;rw[FR]at this;exact this
 have R':Rm<|r.map<|lean<|2*M:=R.map<|ZD _;refine⟨2*M,R'.simple,λh=>R'.WJ h,λi j e=>?_⟩;unfold yy at e;rw[Kr U,Kr U]at e;unfold lean at e;dsimp only at e;rw[AAi];have b1:=hb i;have b2:=hb j;have x:(AA r i).1=(AA r j).1:=by
  rcases ABU (AA r i).1 (AA r j).1 with c|c|c
  .have:=AAv (U:(AA r i).1+1<=(AA r j).1) (U:0<=2*M);rw[AD8]at this;lia
  .exact c
  .have:=AAv (U:(AA r j).1+1<=(AA r i).1) (U:0<=2*M);rw[AD8]at this;lia
 rw[x]at e;exact S.inj<|ABS x U
theorem Rm.Je{r:List Pt}(R:Rm r){i j:Int}(i0:0<=i)(ij:i+2<=j)(jn:j<r.length)(h:Line r i j\/(i=0/\j=r.length-1)):∃k:Int,i<k/\k<j/\(k=i+1\/Line r i k)/\(j=k+1\/Line r k j):=by
 have h3:=R.l3;obtain⟨K,S⟩:=R.sm;have hL:((r.map<|lean K).length:Int)=r.length:=by rw[AAi]
 obtain⟨k,k1,k2,j1,j2⟩:=S.fI i0 ij (by rw[hL];exact jn) (by rw[hL,ZQ U];exact h);unfold Jn at j1 j2;rw[hL,ZQ U]at j1 j2;refine⟨k,k1,k2,?_,?_⟩
 .rcases j1 with c|c|c
  .have:=LP c U U;lia
  .have:=LP c U U;lia
  .exact .inr c
 .rcases j2 with c|c|c
  .have:=LP c U U;lia
  .have:=LP c U U;lia
  .exact .inr c
end AM
namespace L2.EV
open L2.PL
abbrev Pt:=AM.Pt
noncomputable def pv(p:Pt):PV:=.tup [.int p.1,.int p.2]
def AI(r:List Pt):List PV:=r.map pv
theorem By(r:List Pt):(AI r).length=r.length:=AAi ..
def Bd(n:Int)(p:Pt):Prop:=-n<=p.1/\p.1<=n/\-n<=p.2/\p.2<=n
theorem Fj{i j:Int}(h : -1000000<=i/\i<=1000000):Ew i j:=.inl ⟨U,U⟩
theorem DD(p:Pt):AJ (.cl<|pv p) (.cl<|.int 0)=some (.cl<|.int p.1):=rfl
theorem DO(p:Pt):AJ (.cl<|pv p) (.cl<|.int 1)=some (.cl<|.int p.2):=rfl
theorem PU(i j:Int):Bn (.cl<|.int i) (.cl<|.int j)=some (.cl<|.bl<|i==j):=by simp[Bn,RV.any,Al,PySem.SeqAt.shaped,PySem.PyData.canLay0,PySem.PyData.depth,PySem.PyData.eqv]
theorem Hu(i j:Int):BP (.cl<|.int i) (.cl<|.int j)=some (.cl<|.bl (!(i==j))):=by simp[BP,RV.any,Al,PySem.SeqAt.shaped,PySem.PyData.canLay0,PySem.PyData.depth,PySem.PyData.eqv]
theorem nQ(i j:Bool):Bn (.cl<|.bl i) (.cl<|.bl j)=some (.cl<|.bl<|i==j):=by simp[Bn,RV.any,Al,PySem.SeqAt.shaped,PySem.PyData.canLay0,PySem.PyData.depth,PySem.PyData.eqv]
theorem Y9(i j:Bool):BP (.cl<|.bl i) (.cl<|.bl j)=some (.cl<|.bl (!(i==j))):=by simp[BP,RV.any,Al,PySem.SeqAt.shaped,PySem.PyData.canLay0,PySem.PyData.depth,PySem.PyData.eqv]
theorem Ht(i j:Int):Bw (.cl<|.int i) (.cl<|.int j)=some (.cl<|.bl<|decide (i<j)):=rfl
theorem Hr(i j:Int):B8 (.cl<|.int i) (.cl<|.int j)=some (.cl<|.bl<|decide (i<=j)):=rfl
theorem Gs(i j:Int):CC (.cl<|.int i) (.cl<|.int j)=some (.cl<|.bl<|decide (j<i)):=rfl
theorem Cq(i j:Int):Ad (.cl<|.int i) (.cl<|.int j)=some (.cl<|.int<|i-j):=rfl
theorem JB(i j:Int):Aa (.cl<|.int i) (.cl<|.int j)=some (.cl<|.int<|i+j):=rfl
theorem F6{i j:Int}(h:Ew i j):CP (.cl<|.int i) (.cl<|.int j)=some (.cl<|.int<|i*j):=by simp[CP,kI,h]
theorem ET{i j:Int}(h:0<j):A4 (.cl<|.int i) (.cl<|.int j)=some (.cl<|.int<|i%j):=by simp[A4,kI,h]
theorem Y4{i j:Int}(h:0<j)(h2:j<1073741824):CB (.cl<|.int i) (.cl<|.int j)=some (.cl<|.int<|i / j):=by simp[CB,kI,Lo,h,h2]
theorem Hs(ps:List PV):Av [.cl<|.lst ps]=some (.cl<|.int ps.length):=rfl
theorem nS(ps:List PV):Av [.bo ps]=some (.cl<|.int ps.length):=rfl
theorem Y8(ps:List PV):Av [.fr ps]=some (.cl<|.int ps.length):=rfl
theorem nB(i j:Int):(if j<i then j else i)=min i j:=U
theorem nA(i j:Int):(if j>i then j else i)=max i j:=U
theorem Pa(i j:Int):Gu [.cl<|.int i,.cl<|.int j]=some (.cl<|.int<|min i j):=by simp only[Gu,nB]
theorem LC(i j:Int):D8 [.cl<|.int i,.cl<|.int j]=some (.cl<|.int<|max i j):=by simp only[D8,nA]
noncomputable def DZ(i:Int):Int:=if i<0 then -i else i
theorem Mw(i:Int):DC [.cl<|.int i]=some (.cl<|.int<|DZ i):=rfl
theorem vz(n:Nat):La 0 (n)=(List.range n).map λk:Nat=>PV.int<|k:=by apply ACU;intro k _;rw[show(0:Int)+(k)=k by lia]
theorem au(i j:Int):La i j=(List.range (j-i).toNat).map λk:Nat=>PV.int<|i+(k):=rfl
section
variable{α β:Type}{enc:α->PV}
theorem FP{g:GF}{t:BF}{fe:EF}{IG:AX}{c:α->Bool}{h:α->PV}:∀{xs:List α},(∀x∈xs,∃A9,g (enc x) IG=some A9/\t A9=some (c x)/\(c x=true->∃r,fe A9=some r/\r.clean=some (h x)))->collect g t fe IG (xs.map enc)=some ((xs.filter c).map h)
 |[],_=>rfl
 |x::xs,H=>by
  have ih:=FP λy hy=>H y<|AAs _ hy;obtain⟨A9,e1,e2,e3⟩:=H x AAu;rw[AAx];unfold collect;rw[e1];dsimp only;rw[e2];cases hc:c x with
  |false=>
   dsimp only;rw[ih,List.filter_cons_of_neg<|by simp[hc]]
  |true=>
   obtain⟨r,e4,e5⟩:=e3 hc;dsimp only;rw[e4];dsimp only;simp only[e5,ih,List.filter_cons_of_pos hc,AAx]
theorem GW{g:GF}{fe:EF}{IG:AX}{h:α->PV}{xs:List α}(H:∀x∈xs,∃A9 r,g (enc x) IG=some A9/\fe A9=some r/\r.clean=some (h x)):collect g Bl fe IG (xs.map enc)=some (xs.map h):=by
 have:=FP (t:=Bl) λx hx=>by obtain⟨A9,r,e1,e2,e3⟩:=H x hx;exact⟨A9,e1,rfl,λ_=>⟨r,e2,e3⟩⟩
 rw[this,ADe.mpr λ_ _=>rfl]
theorem Gv{gt:GF}{body:SF}{c:α->Bool}{r:RV}(I:AX->Prop):∀{xs:List α}{ρ:AX},I ρ->(∀x∈xs,∀ρ,I ρ->∃A9,gt (enc x) ρ=some A9/\(c x=true->body A9=some (.rt r))/\(c x=false->∃Ba,body A9=some (.nx Ba)/\I Ba))->(xs.any c=true->Du gt body (xs.map enc) ρ=some (.rt r))/\(xs.any c=false->∃ρ',Du gt body (xs.map enc) ρ=some (.nx ρ')/\I ρ')
 |[],ρ,hI,_=>⟨λh=>by simp at h,λ_=>⟨ρ,rfl,hI⟩⟩
 |x::xs,ρ,hI,H=>by
  obtain⟨A9,e1,h1,h2⟩:=H x AAu ρ hI;rw[AAx,ABc];unfold Du;rw[e1];dsimp only;cases hc:c x with
  |true=>
   rw[h1 hc];exact⟨λ_=>rfl,λh=>by simp at h⟩
  |false=>
   obtain⟨Ba,e2,kh⟩:=h2 hc;rw[e2];exact Gv I kh λy hy=>H y<|AAs _ hy
theorem Tz{gt:GF}{body:SF}(f:β->α->β)(R:β->AX->Prop):∀{xs:List α}{b:β}{ρ:AX},R b ρ->(∀x∈xs,∀b ρ,R b ρ->∃A9 Ba,gt (enc x) ρ=some A9/\body A9=some (.nx Ba)/\R (f b x) Ba)->∃ρ',Du gt body (xs.map enc) ρ=some (.nx ρ')/\R (xs.foldl f b) ρ'
 |[],b,ρ,hR,_=>⟨ρ,rfl,hR⟩
 |x::xs,b,ρ,hR,H=>by obtain⟨A9,Ba,e1,e2,h2⟩:=H x AAu b ρ hR;rw[AAx];unfold Du;rw[e1];dsimp only;rw[e2];exact Tz f R h2 λy hy=>H y<|AAs _ hy
end
theorem fO(r:List Pt)(i:Int)(h1 : -(r.length)<=i)(h2:i<r.length):CY (AI r) i=some (pv<|AM.AA r i):=by
 delta CY Gp
 rw[By];by_cases h0:0<=i
 .rw[AAl h0,AAl h2];have hi:i.toNat<r.length:=U
  simp only[ABE,AI];unfold AM.AA;rw[AAh h0 h2];simp[List.getD,AA1 hi]
 .rw[AAj h0,AAl h1];have hi:(i+r.length).toNat<r.length:=U
  simp only[ABE,AI];unfold AM.AA;rw[<-ADm i r.length,AAh U U];simp[List.getD,AA1 hi]
theorem CO(r:List Pt)(i:Int)(h1 : -(r.length)<=i)(h2:i<r.length):AJ (.cl<|.lst<|AI r) (.cl<|.int i)=some (.cl<|pv<|AM.AA r i):=by show(CY (AI r) i).map _=_;rw[fO r i h1 h2];rfl
theorem N8(bs:List Bool):FO (bs.map PV.bl)=some bs:=by
 induction bs with
 |nil=>rfl
 |cons b bs ih=>rw[AAx,FO,ih];rfl
theorem Tb(bs:List Int):DB (bs.map PV.int)=some bs:=by
 induction bs with
 |nil=>rfl
 |cons b bs ih=>rw[AAx,DB,ih];rfl
open L2.PL L2.K
open AM (AG An BD AA M nb)
theorem DK{n:Int}{r:List Pt}(hn:0<=n)(h:∀p∈r,Bd n p)(i:Int):Bd n<|AA r i:=by
 unfold AM.AA;simp only[List.getD];cases e:r[(i%(r.length)).toNat]? with
 |none=>exact⟨by simp;lia,by simp;lia,by simp;lia,by simp;lia⟩
 |some p=>exact h p<|ABv e
theorem Bh{N n:Nat}{g:SF}{ps:List PV}{r:RV}(h:ps.length=n)(e:g (A5 N ps)=some (.rt r)):denote N n g ps=some r:=by unfold denote;rw[AAl h,e];rfl
theorem Cb{f:EF}{ρ:AX}{p:PV}(e:f ρ=some (.cl p)):Ai f ρ=some (.rt<|.cl p):=by unfold Ai;rw[e]
theorem KL{f:EF}{ρ:AX}{p:List PV}(e:f ρ=some (.fr p)):Ai f ρ=some (.rt<|.fr p):=by unfold Ai;rw[e]
theorem Bp{k:List RV->Option RV}{g:AF}{ρ:AX}{rs:List RV}{z:RV}(e:g ρ=some rs)(h:k rs=some z):fB k g ρ=some z:=by unfold fB;rw[e];exact h
theorem AL{f:EF}{g:AF}{ρ:AX}{x:RV}{xs:List RV}(e:f ρ=some x)(h:g ρ=some xs):AD f g ρ=some (x::xs):=by unfold AD;rw[e,h]
theorem AY(ρ:AX):AH ρ=some []:=rfl
theorem AO{k:RV->RV->Option RV}{fa fb:EF}{ρ:AX}{x y z:RV}(ha:fa ρ=some x)(hb:fb ρ=some y)(h:k x y=some z):f2 k fa fb ρ=some z:=by unfold f2;rw[ha];rw[hb];exact h
theorem A3{F:List PV->Option RV}{g:AF}{ρ:AX}{rs:List RV}{ps:List PV}{z:RV}(e:g ρ=some rs)(c:CZ rs=some ps)(h:F ps=some z):AS F g ρ=some z:=by unfold AS;rw[e];dsimp only;rw[c];exact h
theorem Ks{f g:EF}{ρ:AX}{a b:Bool}(ha:f ρ=some (.cl<|.bl a))(hb:a=true->g ρ=some (.cl<|.bl b)):C8 f g ρ=some (.cl<|.bl<|a&&b):=by
 unfold C8;rw[ha];cases a
 .rfl
 .exact hb rfl
theorem Kt{f g:EF}{ρ:AX}{a b:Bool}(ha:f ρ=some (.cl<|.bl a))(hb:a=false->g ρ=some (.cl<|.bl b)):DN f g ρ=some (.cl<|.bl (a||b)):=by
 unfold DN;rw[ha];cases a
 .exact hb rfl
 .rfl
theorem Aw{f:EF}{ρ:AX}{a:Bool}(ha:f ρ=some (.cl<|.bl a)):AQ f ρ=some a:=by unfold AQ;rw[ha]
theorem D3{f:BF}{ρ:AX}{a:Bool}(ha:f ρ=some a):Be f ρ=some (!a):=by unfold Be;rw[ha];rfl
theorem Ie{f g:BF}{ρ:AX}{a b:Bool}(ha:f ρ=some a)(hb:a=true->g ρ=some b):CH f g ρ=some (a&&b):=by
 unfold CH;rw[ha];cases a
 .rfl
 .exact hb rfl
theorem EK{f g:BF}{ρ:AX}{a b:Bool}(ha:f ρ=some a)(hb:a=false->g ρ=some b):Bb f g ρ=some (a||b):=by
 unfold Bb;rw[ha];cases a
 .exact hb rfl
 .rfl
theorem sq{g h:SF}{ρ ρ':AX}(e:g ρ=some (.nx ρ')):AN g h ρ=h ρ':=by unfold AN;rw[e]
theorem C5{g h:SF}{ρ:AX}{r:RV}(e:g ρ=some (.rt r)):AN g h ρ=some (.rt r):=by unfold AN;rw[e]
theorem A8{i:Nat}{f:EF}{ρ:AX}{r:RV}{p:PV}(e:f ρ=some r)(c:r.clean=some p):AZ i f ρ=some (.nx<|ρ.set i<|some<|.im p):=by unfold AZ;rw[e];dsimp only;rw[c]
theorem set_own{i:Nat}{f:EF}{ρ:AX}{ps:List PV}(e:f ρ=some (.fr ps)):EN i f ρ=some (.nx<|ρ.set i<|some<|.own ps):=by unfold EN;rw[e]
theorem Bj{t:BF}{g h:SF}{ρ:AX}(e:t ρ=some true):Aq t g h ρ=g ρ:=by unfold Aq;rw[e]
theorem BR{t:BF}{g h:SF}{ρ:AX}(e:t ρ=some false):Aq t g h ρ=h ρ:=by unfold Aq;rw[e]
theorem Ca{its:IF}{gt:GF}{body:SF}{ρ:AX}{xs:List PV}(e:its ρ=some xs):CI its gt body ρ=Du gt body xs ρ:=by unfold CI;rw[e]
theorem Kc{a b c:Pt}(ha:Bd 1000 a)(hb:Bd 1000 b):Ex [pv a,pv b,pv c]=some (.cl<|.int<|AG a b c):=by have h1:Ew (b.1-a.1)<|c.2-a.2:=Fj (by unfold Bd at *;lia);have h2:Ew (b.2-a.2)<|c.1-a.1:=Fj (by unfold Bd at *;lia);simp[Ex,denote,XB,A5,Ai,f2,AB,fC,DD,DO,Ad,kI,CP,h1,h2,Out.val,AG]
def pw(a b:Pt):PV:=.tup [pv a,pv b]
theorem J8(a b:Pt):AJ (.cl<|pw a b) (.cl<|.int 0)=some (.cl<|pv a):=rfl
theorem J9(a b:Pt):AJ (.cl<|pw a b) (.cl<|.int 1)=some (.cl<|pv b):=rfl
theorem Lw{a b c:Pt}(ha:Bd 1000 a)(hb:Bd 1000 b):GQ [pv c,pw a b]=some (.cl<|.bl<|An a b c):=by
 have e1:=Kc (c:=c) ha hb;have e2:An a b c=(decide (AG a b c=0)&&((decide (min a.1 b.1<=c.1)&&decide (c.1<=max a.1 b.1))&&(decide (min a.2 b.2<=c.2)&&decide (c.2<=max a.2 b.2)))):=by simp only[An,ADF,ADF]
 rw[e2];have e3:(!(AG a b c==0)) = !(decide (AG a b c=0)):=rfl;have e4:=Hr (min a.1 b.1) c.1;have e5:=Hr c.1<|max a.1 b.1;have e6:=Hr (min a.2 b.2) c.2;have e7:=Hr c.2<|max a.2 b.2;have e8:=Hu (AG a b c) 0;rw[e3]at e8;generalize decide (min a.1 b.1<=c.1)=b1 at *
 generalize decide (c.1<=max a.1 b.1)=b2 at *
 generalize decide (min a.2 b.2<=c.2)=b3 at *
 generalize decide (c.2<=max a.2 b.2)=b4 at *
 generalize decide (AG a b c=0)=b5 at *
 cases b5
 .simp only[GQ,denote,Rw,A5,AN,AZ,Aq,Ai,f2,AB,fC,AQ,AS,AD,AH,CZ,Out.val,RV.clean,
  AA6,ACF,AAx,ADJ,ACI,AB6,List.replicate,List.getElem?_cons_zero,ABu,ACS,ADQ,ABE,
  J8,J9,ACT,Nat.reduceAdd,e1,e8,AEF,ADf]
 .cases b1<;>cases b2<;>cases b3<;>cases b4<;>simp only[GQ,denote,Rw,A5,AN,AZ,Aq,Ai,f2,AB,fC,AQ,AS,AD,AH,CZ,EL,fB,C8,Out.val,RV.clean,
  AA6,ACF,AAx,ADJ,ACI,AB6,List.replicate,List.getElem?_cons_zero,ABu,ACS,ADQ,ABE,
  DD,DO,J8,J9,A0,Pa,LC,ACT,Nat.reduceAdd,e1,e8,e4,e5,e6,e7,Bool.not_true,Bool.true_and,ADf]
theorem Vj{a b c d:Pt}(ha:Bd 1000 a)(hb:Bd 1000 b):Lx [pw a b,pw c d]=some (.cl<|.bl<|AM.parts a b c d):=by
 have e1:=Kc (c:=c) ha hb;have e2:=Kc (c:=d) ha hb;have e3:=Ht (AG a b c) 0;have e4:=Gs (AG a b c) 0;have e5:=Ht (AG a b d) 0;have e6:=Gs (AG a b d) 0;unfold AM.parts;generalize AG a b c=x at *
 generalize AG a b d=y at *
 generalize decide (x<0)=b1 at *
 generalize decide (0<x)=b2 at *
 generalize decide (y<0)=b3 at *
 generalize decide (0<y)=b4 at *
 cases b1<;>cases b2<;>cases b3<;>cases b4<;>simp only[Lx,denote,W8,A5,AN,AZ,Ai,f2,AB,fC,AS,AD,AH,CZ,C8,DN,Out.val,RV.clean,AA6,ACF,AAx,ADJ,ACI,AB6,List.replicate,List.getElem?_cons_zero,ABu,ACS,ADQ,ABE,J8,J9,ACT,Nat.reduceAdd,e1,e2,e3,e4,e5,e6,Bool.true_and,ADf,ACb,Bool.or_true]
theorem Vg{a b c d:Pt}(ha:Bd 1000 a)(hb:Bd 1000 b)(hc:Bd 1000 c)(hd:Bd 1000 d):IK [pw a b,pw c d]=some (.cl<|.bl<|BD a b c d):=by
 have e1:=Vj (c:=c) (d:=d) ha hb;have e2:=Vj (c:=a) (d:=b) hc hd;have e3:=Lw (c:=c) ha hb;have e4:=Lw (c:=d) ha hb;have e5:=Lw (c:=a) hc hd;have e6:=Lw (c:=b) hc hd;unfold BD;generalize AM.parts a b c d=b1 at *
 generalize AM.parts c d a b=b2 at *
 generalize An a b c=b3 at *
 generalize An a b d=b4 at *
 generalize An c d a=b5 at *
 generalize An c d b=b6 at *
 cases b1<;>cases b2<;>cases b3<;>cases b4<;>cases b5<;>cases b6<;>simp only[IK,denote,W5,A5,AN,AZ,Aq,Ai,f2,AB,fC,AQ,AS,AD,AH,CZ,DN,CH,Out.val,RV.clean,AA6,ACF,AAx,ADJ,ACI,AB6,List.replicate,List.getElem?_cons_zero,ABu,ACS,ADQ,ABE,J8,J9,A0,ACT,Nat.reduceAdd,e1,e2,e3,e4,e5,e6,Bool.true_and,ADf,ACb,Bool.or_true]
def En(p:Pt):Bool:=decide (DZ p.1<=100)&&decide (DZ p.2<=100)
theorem UA{p:Pt}:En p=true↔Bd 100 p:=by
 have a1:∀i:Int,DZ i<=100↔(-100<=i/\i<=100):=λi=>by unfold DZ;split<;>omega
 simp only[En,AAk,decide_eq_true_eq,a1];exact⟨λh=>⟨h.1.1,h.1.2,h.2.1,h.2.2⟩,λh=>⟨⟨h.1,h.2.1⟩,h.2.2.1,h.2.2.2⟩⟩
theorem dU{r:List Pt}(hl:r.length<=1000):Nl [.lst<|AI r]=some (.cl<|.bl<|r.all En):=by
 have hc:collect (Ae 0) Bl (C8 (f2 B8 (fB DC<|AD (f2 AJ (AB 0)<|fC<|.int 0) AH)<|fC<|.int 100)<|f2 B8 (fB DC<|AD (f2 AJ (AB 0)<|fC<|.int 1) AH)<|fC<|.int 100) (B2 1 [] [some<|.im<|.lst<|AI r]) (AI r)=some ((r.map En).map PV.bl):=by rw[ABO];refine GW λp _=>⟨_,.cl<|.bl<|En p,rfl,?_,rfl⟩;simp only[B2,C8,f2,fB,AD,AH,AB,fC,List.replicate,ACI,AB6,ACS,List.getElem?_cons_zero,DD,Mw,Hr];unfold En;cases decide (DZ p.1<=100)<;>rfl
 simp only[Nl,denote,Wh,A5,Ai,fB,AD,AH,BI,BG,AB,AA6,ACF,AAx,ADJ,ACI,AB6,List.replicate,List.getElem?_cons_zero,RV.list,ACT,Nat.reduceAdd,Nat.reduceSub,ACt,ADH];rw[AAl (by rw[By];exact hl),hc];simp only[ABi,E8,RV.list,ABE,N8,Out.val];rw[ADy];rfl
def IS(r:List Pt):Bool:=(List.range r.length).all λk=>!(AG (AA r<|(k:Int)-2) (AA r<|(k:Int)-1) (AA r k)==0)
theorem WH{n:Nat}(h:n<=1000):IH<|n:=⟨U,U⟩
theorem D4{g:AF}{ρ:AX}{n:Nat}(e:g ρ=some [.cl<|.int<|n])(h:n<=1000):Bu g ρ=some ((List.range n).map λk:Nat=>PV.int<|k):=by unfold Bu;rw[e];dsimp only;rw[AAl<|WH h,vz]
theorem DM{its:IF}{own:Nat}{cap:List Nat}{g:GF}{t:BF}{fe:EF}{ρ:AX}{xs ys:List PV}(e:its ρ=some xs)(h:xs.length<=1000)(e2:collect g t fe (B2 own cap ρ) xs=some ys):BI its own cap g t fe ρ=some (.fr ys):=by
 unfold BI;rw[e];dsimp only;rw[AAl h,e2]
 rfl
theorem dS{r:List Pt}(hl:r.length<=1000)(h2:2<=r.length)(hb:∀p∈r,Bd 1000 p):Qt [.lst<|AI r]=some (.cl<|.bl<|IS r):=by
 have hc:collect (Ae 0) Bl (f2 BP (AS Ex<|AD (f2 AJ (AB 1)<|f2 Ad (AB 0)<|fC<|.int 2)<|AD (f2 AJ (AB 1)<|f2 Ad (AB 0)<|fC<|.int 1)<|AD (f2 AJ (AB 1)<|AB 0) AH)<|fC<|.int 0) (B2 1 [0] [some<|.im<|.lst<|AI r]) ((List.range r.length).map λk:Nat=>PV.int<|k) =
  some (((List.range r.length).map λk:Nat=>!(AG (AA r<|(k)-2) (AA r<|(k)-1) (AA r k)==0)).map PV.bl):=by
  rw[ABO];refine GW λk hk=>⟨_,.cl<|.bl (!(AG (AA r<|(k)-2) (AA r<|(k)-1) (AA r k)==0)),rfl,?_,rfl⟩;have Bi:=AAr.mp hk;simp only[B2,f2,AS,AD,AH,AB,fC,CZ,RV.clean,List.replicate,AAx,ACI,AB6,ACS,List.getElem?_cons_zero,ABu,Option.join_some,Cq,CO r ((k)-2) U U,CO r ((k)-1) U U,CO r (k) U U,Kc (DK U hb _)<|DK U hb _,Hu]
 refine Bh rfl (Cb<|Bp (AL (DM (D4 (g:=AD (fB Av<|AD (AB 0) AH) AH) (by rw[<-By];rfl) hl) (by simpa using hl) hc)<|AY _) ?_);simp only[E8,RV.list,ABE,N8,ABi,ADy]
 rfl
def BX(r:List Pt):List<|Pt×Pt:=(List.range r.length).map λk:Nat=>(AA r k,AA r<|(k:Int)+1)
def BS(ws:List<|Pt×Pt):List PV:=ws.map λw=>pw w.1 w.2
theorem Nz{r:List Pt}(hl:r.length<=1000)(h1:0<r.length):IL [.lst<|AI r]=some (.fr<|BS<|BX r):=by
 have hc:collect (Ae 0) Bl (Ao<|AD (f2 AJ (AB 1)<|AB 0)<|AD (f2 AJ (AB 1)<|f2 A4 (f2 Aa (AB 0)<|fC<|.int 1)<|fB Av<|AD (AB 1) AH) AH) (B2 1 [0] [some<|.im<|.lst<|AI r]) ((List.range r.length).map λk:Nat=>PV.int<|k)=some (BS<|BX r):=by
  delta BS BX
  rw[ABO];refine GW λk hk=>⟨_,.cl<|pw (AA r k)<|AA r<|(k)+1,rfl,?_,rfl⟩;have Bi:=AAr.mp hk;have hm:AA r (((k)+1)%(r.length))=AA r ((k)+1):=by unfold AM.AA;rw[ABI _<|ABy _]
  simp only[B2,f2,Ao,AD,AH,AB,fC,fB,RV.clean,List.replicate,AAx,ACI,AB6,ACS,List.getElem?_cons_zero,ABu,Option.join_some,JB,Hs,By,ET (i:=(k)+1) (j:=(r.length)) U,CO r (k) U U,CO r (((k)+1)%(r.length)) U<|AA3 _ U,hm]
  rfl
 exact Bh rfl<|KL<|DM (D4 (g:=AD (fB Av<|AD (AB 0) AH) AH) (by rw[<-By];rfl) hl) (by simpa using hl) hc
theorem nR(i a b:Int):BC false (.cl<|.int i) (.cl<|.tup [.int a,.int b])=some (.cl<|.bl (i==a||i==b)):=by simp only[BC,RV.seq,DB,ABi,ABc,ADR,ACb,ACt,ADH];rw[ADA,ADA (a:=b)]
theorem Q7{n i j:Int}(hn:0<n):HG [.int n,.int i,.int j]=some (.cl<|.bl<|nb n<|j-i):=by simp only[HG,denote,Wi,A5,Ai,f2,AB,fC,Ao,AD,AH,CZ,RV.clean,Out.val,AA6,ACF,AAx,ACI,AB6,List.replicate,List.getElem?_cons_zero,ABu,ABE,Cq,ET hn,nR,ACT,Nat.reduceAdd,Nat.reduceSub,Nat.reduceLeDiff,nb]
def VP(r:List Pt)(k:Int):PV:=pw (AA r k)<|AA r<|k+1
theorem c6(r:List Pt)(k:Nat)(h:k<r.length):AJ (.cl<|.lst<|BS<|BX r) (.cl<|.int<|k)=some (.cl<|VP r k):=by
 show(CY _ _).map _=_;have:CY (BS<|BX r) (k)=some (VP r k):=by
  delta CY Gp BS BX
  simp[h,VP]
 rw[this];rfl
def Jd(r:List Pt):Bool:=!((List.range r.length).any λk=>(List.range<|r.length-(k+1)).any λd=>!(nb r.length<|((k:Int)+1+d)-k)&&M r k ((k:Int)+1+d))
theorem dW{r:List Pt}(hl:r.length<=1000)(h1:0<r.length)(hb:∀p∈r,Bd 1000 p):RB [.lst<|AI r]=some (.cl<|.bl<|Jd r):=by
 have E5:(BS<|BX r).length=r.length:=by simp[BS,BX]
 refine Bh rfl ?_;unfold XD;rw[sq<|A8 (A3 (AL rfl<|AY _) rfl<|Nz hl h1) rfl];show AN _ _ [some<|.im<|.lst<|AI r,some<|.im<|.lst<|BS<|BX r,none,none]=_;have I0:∀a b:Option SV,Bu (AD (fB Av<|AD (AB 1) AH) AH) [some<|.im<|.lst<|AI r,some<|.im<|.lst<|BS<|BX r,a,b]=some ((List.range r.length).map λk:Nat=>PV.int<|k):=λa b=>D4 (by rw[<-E5];rfl) hl;have H:=Gv (gt:=Ae 2) (λρ=>∃a b,ρ=[some<|.im<|.lst<|AI r,some<|.im<|.lst<|BS<|BX r,a,b]) (xs:=List.range r.length) ⟨none,none,rfl⟩ (by
  rintro k hk ρ ⟨a,b,rfl⟩;have Bi:=AAr.mp hk;refine⟨_,rfl,?_⟩;have hr:DV (AD (f2 Aa (AB 2)<|fC<|.int 1)<|AD (fB Av<|AD (AB 1) AH) AH) [some<|.im<|.lst<|AI r,some<|.im<|.lst<|BS<|BX r,some<|.im<|.int k,b]=some ((List.range<|r.length-(k+1)).map λd:Nat=>PV.int<|(k)+1+d):=by
   have e1:AD (f2 Aa (AB 2)<|fC<|.int 1) (AD (fB Av<|AD (AB 1) AH) AH) [some<|.im<|.lst<|AI r,some<|.im<|.lst<|BS<|BX r,some<|.im<|.int k,b]=some [.cl<|.int<|(k)+1,.cl<|.int<|r.length]:=by rw[<-E5];rfl
   unfold DV;rw[e1];dsimp only;have c1:IH<|(k)+1:=⟨U,U⟩;rw[AAl ⟨c1,WH hl⟩,au]
   congr 3
   lia
  have H2:=Gv (enc:=λd:Nat=>PV.int<|(k)+1+d) (gt:=Ae 3) (body:=(Aq (CH (Be<|AQ<|AS HG<|AD (fB Av<|AD (AB 1) AH)<|AD (AB 2)<|AD (AB 3) AH)<|AQ<|AS IK<|AD (f2 AJ (AB 1)<|AB 2)<|AD (f2 AJ (AB 1)<|AB 3) AH) (Ai<|fC<|.bl false) A0))
   (c:=λd=>!(nb r.length<|((k)+1+d)-k)&&M r k ((k)+1+d))
   (λρ=>∃b,ρ=[some<|.im<|.lst<|AI r,some<|.im<|.lst<|BS<|BX r,some<|.im<|.int k,b]) (xs:=List.range<|r.length-(k+1)) ⟨b,rfl⟩ (by
   rintro d hd ρ ⟨b,rfl⟩;have Gj:=AAr.mp hd;refine⟨_,rfl,?_⟩;have et:(CH (Be<|AQ<|AS HG<|AD (fB Av<|AD (AB 1) AH)<|AD (AB 2)<|AD (AB 3) AH)<|AQ<|AS IK<|AD (f2 AJ (AB 1)<|AB 2)<|AD (f2 AJ (AB 1)<|AB 3) AH) [some<|.im<|.lst<|AI r,some<|.im<|.lst<|BS<|BX r,some<|.im<|.int k,some<|.im<|.int<|(k)+1+d]=some (!(nb r.length<|((k)+1+d)-k)&&M r k ((k)+1+d)):=by refine Ie (D3<|Aw<|A3 (rs:=[.cl<|.int<|r.length,.cl<|.int k,.cl<|.int<|(k)+1+d]) (by rw[<-E5];rfl) rfl<|Q7 U) λ_=>?_;refine Aw<|A3 (AL (AO rfl rfl<|c6 r k Bi)<|AL (AO rfl rfl<|c6 r (k+1+d) U)<|AY _) rfl ?_;exact Vg (DK U hb _) (DK U hb _) (DK U hb _)<|DK U hb _
   refine⟨λh=>?_,λh=>⟨_,?_,some<|.im<|.int<|(k)+1+d,rfl⟩⟩
   .show Aq _ _ _ [some<|.im<|.lst<|AI r,some<|.im<|.lst<|BS<|BX r,some<|.im<|.int k,some<|.im<|.int<|(k)+1+d]=_;rw[h]at et;rw[Bj et];rfl
   .show Aq _ _ _ [some<|.im<|.lst<|AI r,some<|.im<|.lst<|BS<|BX r,some<|.im<|.int k,some<|.im<|.int<|(k)+1+d]=_;rw[h]at et;rw[BR et];rfl)
  refine⟨λh=>?_,λh=>?_⟩
  .exact(Ca hr).trans (H2.1 h)
  .obtain⟨ρ',e,b',rfl⟩:=H2.2 h;exact⟨_,(Ca hr).trans e,_,_,rfl⟩)
 unfold Jd;cases ha:(List.range r.length).any λk=>(List.range<|r.length-(k+1)).any λd=>!(nb r.length<|((k)+1+d)-k)&&M r k ((k)+1+d)with
 |true=>exact C5<|(Ca<|I0 none none).trans<|H.1 ha
 |false=>
  obtain⟨ρ',e,a,b,rfl⟩:=H.2 ha;rw[sq<|(Ca<|I0 none none).trans e];rfl
theorem bp(f:Int->Int):∀n:Nat,((List.range n).map λk:Nat=>f k).sum=AM.AV f n
 |0=>rfl
 |n+1=>by simp only[ACL,ABQ,AD5,bp f n];simp[AM.AV]
theorem Eh{f:EF}{ρ:AX}{r:RV}{ps:List PV}(e:f ρ=some r)(h:r.list=some ps):BG false f ρ=some ps:=by unfold BG;rw[e];exact h
theorem fW:Bd 1000 (0,0):=by unfold Bd;lia
theorem t1{r:List Pt}(hb:∀p∈r,Bd 1000 p)(k:Nat):(AS Ex<|AD (fC<|.tup [(.int 0),(.int 0)])<|AD (f2 AJ (AB 0)<|fC<|.int 0)<|AD (f2 AJ (AB 0)<|fC<|.int 1) AH) [some<|.im<|pw (AA r k)<|AA r<|(k)+1]=some (.cl<|.int<|AM.B9 (AA r k)<|AA r<|(k)+1):=by
 refine A3 (ps:=[pv (0,0),pv<|AA r k,pv<|AA r<|(k)+1]) (AL rfl<|AL (AO rfl rfl<|J8 _ _)<|AL (AO rfl rfl<|J9 _ _)<|AY _) rfl ?_;rw[Kc fW<|DK U hb _];have:AG (0,0) (AA r k) (AA r<|(k)+1)=AM.B9 (AA r k) (AA r<|(k)+1):=by simp[AG,AM.B9]
 rw[this]
theorem t2{r:List Pt}(hb:∀p∈r,Bd 1000 p):collect (Ae 0) Bl (AS Ex<|AD (fC<|.tup [(.int 0),(.int 0)])<|AD (f2 AJ (AB 0)<|fC<|.int 0)<|AD (f2 AJ (AB 0)<|fC<|.int 1) AH) (B2 1 [] [some<|.im<|.lst<|AI r]) (BS<|BX r) = some (((List.range r.length).map λk:Nat=>AM.B9 (AA r k)<|AA r<|(k)+1).map PV.int):=by
 delta BS BX
 simp only[ABO,ABO];exact GW λk hk=>⟨_,.cl<|.int<|AM.B9 (AA r k)<|AA r<|(k)+1,rfl,t1 hb k,rfl⟩
theorem t3{r:List Pt}(hl:r.length<=1000)(h1:0<r.length):BG false (AS IL<|AD (AB 0) AH) [some<|.im<|.lst<|AI r]=some (BS<|BX r):=by exact Eh (A3 (AL rfl<|AY _) rfl<|Nz hl h1) rfl
theorem dX{r:List Pt}(hl:r.length<=1000)(h1:0<r.length)(hb:∀p∈r,Bd 1000 p):Qy [.lst<|AI r]=some (.cl<|.int<|AM.DS r):=by
 have E5:(BS<|BX r).length=r.length:=by simp[BS,BX]
 refine Bh rfl<|Cb<|Bp (AL (DM (t3 hl h1) U<|t2 hb)<|AY _) ?_;simp only[Mz,RV.list,ABE,Tb,ABi];rw[bp λk=>AM.B9 (AA r k)<|AA r<|k+1,AM.DS]
noncomputable def kl(r:List Pt):List<|List Int:=r.map λp=>[p.1,p.2]
theorem VJ:∀r:List Pt,JU (AI r)=some (kl r)
 |[]=>rfl
 |p::r=>by
  show JU (pv p::AI r)=_;unfold pv JU;rw[(VJ r)]
  rfl
def dist(r:List Pt):Nat:=(Internal.ST.D9 []<|kl r).length
theorem Xe{f:EF}{ρ:AX}{r:RV}{ps:List PV}{ks:List (List Int)}(e:f ρ=some r)(h:r.list=some ps)(h2:JU ps=some ks)(h3:ks.length<=17):Ii f ρ=some (.cl<|.int (Internal.ST.D9 [] ks).length):=by unfold Ii;rw[e];dsimp only;rw[h,ABE,h2];dsimp only;rw[AAl h3]
theorem OO{fa fb fc:EF}{ρ:AX}{i j k:Int}(ha:fa ρ=some (.cl<|.int i))(hb:fb ρ=some (.cl<|.int j))(hc:fc ρ=some (.cl<|.int k)):EL B8 B8 fa fb fc ρ=some (.cl<|.bl<|decide (i<=j)&&decide (j<=k)):=by
 unfold EL;rw[ha,hb];dsimp only;rw[Hr];cases h:decide (i<=j)
 .rfl
 .dsimp only;rw[hc];dsimp only;rw[Hr,Bool.true_and]
def Cw(r:List Pt):Bool:=(decide ((3:Int)<=r.length)&&decide ((r.length:Int)<=12))&&(((dist r:Int)==(r.length:Int))&&(r.all En&&(IS r&&(Jd r&&decide (0<AM.DS r)))))
theorem di{r:List Pt}:Qz [.lst<|AI r]=some (.cl<|.bl<|Cw r):=by
 refine Bh rfl ?_;unfold Wn;have el:fB Av (AD (AB 0) AH) (A5 1 [.lst<|AI r])=some (.cl<|.int<|r.length):=by rw[<-By];rfl
 have e1:=D3<|Aw<|OO (fa:=fC<|.int 3) (fc:=fC<|.int 12) rfl el rfl;unfold Cw;cases h1:(decide ((3:Int)<=r.length)&&decide ((r.length:Int)<=12))with
 |false=>
  rw[h1]at e1;exact C5<|(Bj e1).trans rfl
 |true=>
  rw[h1]at e1;rw[sq<|(BR e1).trans rfl,Bool.true_and];have e2:=Aw (AO (Xe (f:=AB 0) rfl rfl (VJ r) (by unfold kl;rw[AAi];lia)) el<|Hu _ _);have ec:AD (AB 0) AH (A5 1 [.lst<|AI r])=some [.cl<|.lst<|AI r]:=rfl;cases h2:((dist r:Int)==(r.length))with
  |false=>
   rw[show(((Internal.ST.D9 []<|kl r).length:Int)==(r.length))=false from h2]at e2;exact C5<|(Bj e2).trans rfl
  |true=>
   rw[show(((Internal.ST.D9 []<|kl r).length:Int)==(r.length))=true from h2]at e2;rw[sq<|(BR e2).trans rfl,Bool.true_and];refine Cb<|Ks (A3 ec rfl<|dU U) λh3=>?_;have hb:∀p∈r,Bd 1000 p:=λp hp=>by have:=UA.mp<|ABK.mp h3 p hp;unfold Bd at *;omega
   refine Ks (A3 ec rfl<|dS U U hb) λ_=>?_;refine Ks (A3 ec rfl<|dW U U hb) λ_=>?_;exact AO (A3 ec rfl<|dX U U hb) rfl<|Gs _ _
open AM (AG An BD BW AA M nb)
theorem Ej{g:AF}{ρ:AX}{rs:List RV}{ps:List PV}(e:g ρ=some rs)(c:CZ rs=some ps)(h:Nat.ble ps.length 1000=true:=by rfl):Ao g ρ=some (.cl<|.tup ps):=by unfold Ao;rw[e];dsimp only;rw[c];dsimp only;rw[AAl<|AC2 h]
theorem EJ{g:AF}{ρ:AX}{rs:List RV}{ps:List PV}(e:g ρ=some rs)(c:CZ rs=some ps)(h:Nat.ble ps.length 1000=true:=by rfl):BB g ρ=some (.fr ps):=by unfold BB;rw[e];dsimp only;rw[c];dsimp only;rw[AAl<|AC2 h]
theorem aD{i j:Nat}{ga:AF}{ρ:AX}{rs:List RV}{p q:PV}(e:ga ρ=some rs)(c:CZ rs=some [p,q]):Ge i j ga ρ=some (.nx<|(ρ.set i<|some<|.im p).set j<|some<|.im q):=by unfold Ge;rw[e];dsimp only;rw[c]
noncomputable def A2(s:List Int):List PV:=s.map PV.int
theorem Tc(s:List Int):(A2 s).length=s.length:=AAi ..
noncomputable def Ag(s:List Int)(k:Int):Int:=if k<s.length then s.getD k.toNat 0 else(s.getD 0 0%65521*48271+k*30103)%65521
theorem Vz(s:List Int)(k:Int)(h0:0<=k)(h:k<s.length):AJ (.cl<|.rd<|A2 s) (.cl<|.int k)=some (.cl<|.int<|s.getD k.toNat 0):=by
 show(CY (A2 s) k).map _=_;have hk:k.toNat<s.length:=U
 have:CY (A2 s) k=some (.int<|s.getD k.toNat 0):=by
  delta CY Gp
  rw[Tc,AAl h0,AAl h];simp[A2,hk]
 rw[this];rfl
theorem WQ{i j:Int}(h : -1000000<=j/\j<=1000000):Ew i j:=.inr ⟨U,U⟩
theorem Qu(s:List Int)(k:Int)(h0:0<=k):B6 [.rd<|A2 s,.int k]=some (.cl<|.int<|Ag s k):=by
 refine Bh rfl ?_;unfold Wr;have el:fB Av (AD (AB 0) AH) (A5 3 [.rd<|A2 s,.int k])=some (.cl<|.int<|s.length):=by rw[<-Tc];rfl
 have e1:=Aw<|AO (fa:=AB 1) rfl el<|Ht k _;unfold Ag;by_cases h:k<s.length
 .rw[ABq h]at e1;rw[AAl h];exact C5<|(Bj e1).trans<|Cb<|AO rfl rfl<|Vz s k h0 h
 .rw[ABr h]at e1;rw[AAj h,sq<|(BR e1).trans rfl,sq<|A8 rfl rfl];have jR:fB Av (AD (AB 0) AH) [some<|.im<|.rd<|A2 s,some<|.im<|.int k,some<|.im<|.int 0]=some (.cl<|.int<|s.length):=by rw[<-Tc];rfl
  have e2:=Aw<|AO (fb:=fC<|.int 0) jR rfl<|Gs _ _;have fin:∀b:Int,Ai (f2 A4 (f2 Aa (f2 CP (f2 A4 (AB 2)<|fC<|.int 65521)<|fC<|.int 48271)<|f2 CP (AB 1)<|fC<|.int 30103)<|fC<|.int 65521) [some<|.im<|.rd<|A2 s,some<|.im<|.int k,some<|.im<|.int b]=some (.rt<|.cl<|.int<|(b%65521*48271+k*30103)%65521):=λb=>
   Cb (AO (AO (AO (AO rfl rfl<|ET U) rfl<|F6<|WQ U) (AO rfl rfl<|F6<|WQ U)<|JB _ _) rfl<|ET U)
  by_cases h2:(0:Int)<s.length
  .rw[ABq h2]at e2;have e3:AZ 2 (f2 AJ (AB 0)<|fC<|.int 0) [some<|.im<|.rd<|A2 s,some<|.im<|.int k,some<|.im<|.int 0]=some (.nx [some<|.im<|.rd<|A2 s,some<|.im<|.int k,some<|.im<|.int<|s.getD 0 0]):=A8 (AO rfl rfl<|Vz s 0 U h2) rfl;refine(sq<|(Bj e2).trans e3).trans (fin _)
  .have:s=[]:=List.length_eq_zero_iff.mp U;subst this;exact(sq<|(BR e2).trans rfl).trans (fin 0)
theorem Nw{a b c:Pt}(ha:Bd 1000 a)(hb:Bd 1000 b):EC [pv a,pv b,pv c]=some (.cl<|.int<|AG a b c):=by have h1:Ew (b.1-a.1)<|c.2-a.2:=Fj (by unfold Bd at *;lia);have h2:Ew (b.2-a.2)<|c.1-a.1:=Fj (by unfold Bd at *;lia);refine Bh rfl ?_;exact Cb<|AO (AO rfl rfl<|F6 h1) (AO rfl rfl<|F6 h2)<|Cq _ _
def Fq(r:List Pt):Bool:=(List.range r.length).any λk=>AG (AA r<|(k:Int)-2) (AA r<|(k:Int)-1) (AA r k)==0
theorem M6(r:List Pt)(ρ:AX)(h:ρ[0]? = some (some<|.im<|.lst<|AI r)):fB Av (AD (AB 0) AH) ρ=some (.cl<|.int<|r.length):=by rw[<-By];exact Bp (AL (by unfold AB;rw[h])<|AY _) rfl
theorem Vb{r:List Pt}(hl:r.length<=1000)(h2:2<=r.length)(hb:∀p∈r,Bd 1000 p):Lu [.lst<|AI r]=some (.cl<|.bl<|Fq r):=by
 refine Bh rfl ?_;unfold Wt;have I0:Bu (AD (fB Av<|AD (AB 0) AH) AH) (A5 2 [.lst<|AI r])=some ((List.range r.length).map λk:Nat=>PV.int<|k):=D4 (AL (M6 r _ rfl)<|AY _) hl;have H:=Gv (enc:=λk:Nat=>PV.int<|k) (gt:=Ae 1) (body:=(Aq (AQ<|f2 Bn (AS EC<|AD (f2 AJ (AB 0)<|f2 Ad (AB 1)<|fC<|.int 2)<|AD (f2 AJ (AB 0)<|f2 Ad (AB 1)<|fC<|.int 1)<|AD (f2 AJ (AB 0)<|AB 1) AH)<|fC<|.int 0) (Ai<|fC<|.bl true) A0))
  (c:=λk=>AG (AA r<|(k)-2) (AA r<|(k)-1) (AA r k)==0)
  (λρ=>∃a,ρ=[some<|.im<|.lst<|AI r,a]) (xs:=List.range r.length) ⟨none,rfl⟩ (by
  rintro k hk ρ ⟨a,rfl⟩;have Bi:=AAr.mp hk;refine⟨_,rfl,?_⟩;have et:AQ (f2 Bn (AS EC<|AD (f2 AJ (AB 0)<|f2 Ad (AB 1)<|fC<|.int 2)<|AD (f2 AJ (AB 0)<|f2 Ad (AB 1)<|fC<|.int 1)<|AD (f2 AJ (AB 0)<|AB 1) AH)<|fC<|.int 0) [some<|.im<|.lst<|AI r,some<|.im<|.int k]=some (AG (AA r<|(k)-2) (AA r<|(k)-1) (AA r k)==0):=by refine Aw<|AO (A3 (AL (AO rfl rfl<|CO r ((k)-2) U U)<|AL (AO rfl rfl<|CO r ((k)-1) U U)<|AL (AO rfl rfl<|CO r (k) U U)<|AY _) rfl<|Nw (DK U hb _)<|DK U hb _) rfl<|PU _ _
  refine⟨λh=>?_,λh=>⟨_,?_,some<|.im<|.int k,rfl⟩⟩
  .rw[h]at et;exact(Bj et).trans rfl
  .rw[h]at et;exact(BR et).trans rfl)
 unfold Fq;cases ha:(List.range r.length).any λk=>AG (AA r<|(k)-2) (AA r<|(k)-1) (AA r k)==0 with
 |true=>exact C5<|(Ca I0).trans<|H.1 ha
 |false=>
  obtain⟨ρ',e,a,rfl⟩:=H.2 ha;rw[sq<|(Ca I0).trans e];rfl
theorem Xt(r:List Pt):IS r = !Fq r:=by
 delta IS Fq
 simp only[List.not_any_eq_all_not]
theorem Vh{a b c:Pt}(ha:Bd 1000 a)(hb:Bd 1000 b):IJ [pv a,pv b,pv c]=some (.cl<|.bl<|An a b c):=by
 refine Bh rfl ?_;unfold Wz;have e1:=Aw<|AO (ρ:=A5 5 [pv a,pv b,pv c]) (fb:=fC<|.int 0) (A3 (AL (f:=AB 0) rfl<|AL (f:=AB 1) rfl<|AL (f:=AB 2) rfl<|AY _) rfl<|Nw ha hb) rfl<|Hu _ _;by_cases h:AG a b c=0
 .rw[show(!(AG a b c==0))=false by simp[h]]at e1;rw[sq<|(BR e1).trans rfl,sq<|A8 (Ej (AL (Bp (AL (AO rfl rfl<|DD a)<|AL (AO rfl rfl<|DD b)<|AY _)<|Pa _ _)<|AL (Bp (AL (AO rfl rfl<|DO a)<|AL (AO rfl rfl<|DO b)<|AY _)<|Pa _ _)<|AY _) rfl) rfl,sq<|A8 (Ej (AL (Bp (AL (AO rfl rfl<|DD a)<|AL (AO rfl rfl<|DD b)<|AY _)<|LC _ _)<|AL (Bp (AL (AO rfl rfl<|DO a)<|AL (AO rfl rfl<|DO b)<|AY _)<|LC _ _)<|AY _) rfl) rfl]
  have e2:An a b c=((decide (min a.1 b.1<=c.1)&&decide (c.1<=max a.1 b.1))&&(decide (min a.2 b.2<=c.2)&&decide (c.2<=max a.2 b.2))):=by simp only[An,ADF,ADF,ABq h,Bool.true_and]
  rw[e2];exact Cb<|Ks (OO rfl rfl rfl) λ_=>OO rfl rfl rfl
 .rw[show(!(AG a b c==0))=true by simp[h]]at e1;rw[show An a b c=false by simp[An,h]];exact C5<|(Bj e1).trans rfl
theorem Vf{a b c d:Pt}(ha:Bd 1000 a)(hb:Bd 1000 b)(hc:Bd 1000 c)(hd:Bd 1000 d):II [pv a,pv b,pv c,pv d]=some (.cl<|.bl<|BW a b c d):=by
 refine Bh rfl ?_;unfold Wy;have e0:∀h:SF,AN (AZ 4<|BB<|AD (Ao<|AD (AB 0)<|AD (AB 1)<|AD (AB 2) AH)<|AD (Ao<|AD (AB 0)<|AD (AB 1)<|AD (AB 3) AH) AH) (AN (AZ 4<|f2 Aa (AB 4)<|BB<|AD (Ao<|AD (AB 2)<|AD (AB 3)<|AD (AB 0) AH)<|AD (Ao<|AD (AB 2)<|AD (AB 3)<|AD (AB 1) AH) AH) h) (A5 9 [pv a,pv b,pv c,pv d]) = h [some<|.im<|pv a,some<|.im<|pv b,some<|.im<|pv c,some<|.im<|pv d,some<|.im<|.lst [.tup [pv a,pv b,pv c],.tup [pv a,pv b,pv d],.tup [pv c,pv d,pv a],.tup [pv c,pv d,pv b]],none,none,none,none]:=λh=>by rw[sq rfl];rw[sq (ρ':=[some<|.im<|pv a,some<|.im<|pv b,some<|.im<|pv c,some<|.im<|pv d,some<|.im<|.lst [.tup [pv a,pv b,pv c],.tup [pv a,pv b,pv d],.tup [pv c,pv d,pv a],.tup [pv c,pv d,pv b]],none,none,none,none]) rfl]
 rw[e0];have H:=Gv (enc:=λt:Pt×Pt×Pt=>PV.tup [pv t.1,pv t.2.1,pv t.2.2]) (gt:=C3 3<|Bc (Ae 5)<|Bc (Ae 6)<|Bc (Ae 7) C9) (body:=Aq (AQ<|AS IJ<|AD (AB 5)<|AD (AB 6)<|AD (AB 7) AH) (Ai<|fC<|.bl true) A0)
  (c:=λt=>An t.1 t.2.1 t.2.2)
  (λρ=>∃x y z,ρ=[some<|.im<|pv a,some<|.im<|pv b,some<|.im<|pv c,some<|.im<|pv d,some<|.im<|.lst [.tup [pv a,pv b,pv c],.tup [pv a,pv b,pv d],.tup [pv c,pv d,pv a],.tup [pv c,pv d,pv b]],x,y,z,none]) (xs:=[(a,b,c),(a,b,d),(c,d,a),(c,d,b)]) ⟨none,none,none,rfl⟩ (by
  rintro⟨x1,x2,x3⟩ ht ρ ⟨x,y,z,rfl⟩;refine⟨_,rfl,?_⟩;have YI:Bd 1000 x1/\Bd 1000 x2:=by simp only[AAy,ACr,ACj,AD0]at ht;rcases ht with⟨rfl,rfl,_⟩|⟨rfl,rfl,_⟩|⟨rfl,rfl,_⟩|⟨rfl,rfl,_⟩<;>constructor<;>assumption
  have et:AQ (AS IJ<|AD (AB 5)<|AD (AB 6)<|AD (AB 7) AH) [some<|.im<|pv a,some<|.im<|pv b,some<|.im<|pv c,some<|.im<|pv d,some<|.im<|.lst [.tup [pv a,pv b,pv c],.tup [pv a,pv b,pv d],.tup [pv c,pv d,pv a],.tup [pv c,pv d,pv b]],some<|.im<|pv x1,some<|.im<|pv x2,some<|.im<|pv x3,none]=some (An x1 x2 x3):=
   Aw (A3 (AL rfl<|AL rfl<|AL rfl<|AY _) rfl<|Vh YI.1 YI.2)
  refine⟨λh=>?_,λh=>⟨_,?_,some<|.im<|pv x1,some<|.im<|pv x2,some<|.im<|pv x3,rfl⟩⟩
  .rw[show An x1 x2 x3=true from h]at et;exact(Bj et).trans rfl
  .rw[show An x1 x2 x3=false from h]at et;exact(BR et).trans rfl)
 have ea:([(a,b,c),(a,b,d),(c,d,a),(c,d,b)]).any (λt=>An t.1 t.2.1 t.2.2)=(An a b c||An a b d||An c d a||An c d b):=by simp only[ABc,ADR,ACb,Bool.or_assoc]
 rw[ea]at H;unfold BW;have I0:∀x y z w:Option SV,BG true (AB 4) [some<|.im<|pv a,some<|.im<|pv b,some<|.im<|pv c,some<|.im<|pv d,some<|.im<|.lst [.tup [pv a,pv b,pv c],.tup [pv a,pv b,pv d],.tup [pv c,pv d,pv a],.tup [pv c,pv d,pv b]],x,y,z,w]=some (([(a,b,c),(a,b,d),(c,d,a),(c,d,b)]).map λt=>PV.tup [pv t.1,pv t.2.1,pv t.2.2]):=λ_ _ _ _=>rfl;cases ho:(An a b c||An a b d||An c d a||An c d b)with
 |true=>
  exact C5<|(Ca<|I0 _ _ _ _).trans<|H.1 ho
 |false=>
  obtain⟨ρ',e,x,y,z,rfl⟩:=H.2 ho;rw[sq<|(Ca<|I0 _ _ _ _).trans e];have sd:∀(f g h:EF)(u v w:Pt)(ρ:AX),Bd 1000 u->Bd 1000 v->f ρ=some (.cl<|pv u)->g ρ=some (.cl<|pv v)->h ρ=some (.cl<|pv w)->f2 CC (AS EC<|AD f<|AD g<|AD h AH) (fC<|.int 0) ρ=some (.cl<|.bl<|decide (AG u v w>0)):=λf g h u v w ρ b1 b2 e1 e2 e3=>
   AO (A3 (AL e1<|AL e2<|AL e3<|AY _) rfl<|Nw b1 b2) rfl (Gs _ _)
  rw[sq<|A8 (AO (sd _ _ _ a b c _ ha hb rfl rfl rfl) (sd _ _ _ a b d _ ha hb rfl rfl rfl)<|Y9 _ _) rfl];exact Cb<|Ks rfl λ_=>AO (sd _ _ _ c d a _ hc hd rfl rfl rfl) (sd _ _ _ c d b _ hc hd rfl rfl rfl)<|Y9 _ _
section
variable{α β:Type}{enc:α->PV}
theorem KC{gt:GF}{body:SF}(f:β->α->β)(R:Nat->β->AX->Prop):∀{xs:List α}{n:Nat}{b:β}{ρ:AX},R n b ρ->(∀i x,xs[i]? = some x->∀b ρ,R (n+i) b ρ->∃A9 Ba,gt (enc x) ρ=some A9/\body A9=some (.nx Ba)/\R (n+i+1) (f b x) Ba)->∃ρ',Du gt body (xs.map enc) ρ=some (.nx ρ')/\R (n+xs.length) (xs.foldl f b) ρ'
 |[],n,b,ρ,hR,_=>⟨ρ,rfl,hR⟩
 |x::xs,n,b,ρ,hR,H=>by
  obtain⟨A9,Ba,e1,e2,h2⟩:=H 0 x rfl b ρ hR;rw[AAx];unfold Du;rw[e1];dsimp only;simp only[e2];obtain⟨ρ',e,h⟩:=KC f R h2 λi y hy b ρ hb=>by have:=H (i+1) y (by simpa using hy) b ρ (by rw[show n+(i+1)=n+1+i by lia];exact hb);rw[show n+1+i+1=n+(i+1)+1 by lia];exact this
  exact⟨ρ',e,by rw[AA6,show n+(xs.length+1)=n+1+xs.length by lia];exact h⟩
end
theorem Xy(f:Int->Int):∀(n:Nat)(z:Int),((List.range n).foldl (λt (k:Nat)=>t+f k) z)=z+AM.AV f n
 |0,z=>by simp[AM.AV]
 |n+1,z=>by rw[ACL,ADr,Xy f n z];simp[AM.AV];lia
theorem dj{r:List Pt}(hl:r.length<=1000)(h1:0<r.length)(hb:∀p∈r,Bd 1000 p):Nq [.lst<|AI r]=some (.cl<|.int<|AM.Kk r):=by
 refine Bh rfl ?_;unfold Wq;rw[sq (ρ':=[some<|.im<|.lst<|AI r,some<|.im<|.int 0,none,none,none]) rfl];have I0:Bu (AD (fB Av<|AD (AB 0) AH) AH) [some<|.im<|.lst<|AI r,some<|.im<|.int 0,none,none,none]=some ((List.range r.length).map λk:Nat=>PV.int<|k):=D4 (AL (M6 r _ rfl)<|AY _) hl;obtain⟨ρ',e,a,b,c,rfl⟩:=Tz (enc:=λk:Nat=>PV.int<|k) (gt:=Ae 2) (body:=AN (Ge 3 4<|AD (f2 AJ (AB 0)<|f2 Ad (AB 2)<|fC<|.int 1)<|AD (f2 AJ (AB 0)<|AB 2) AH)
  (AZ 1<|f2 Ad (f2 Aa (AB 1)<|f2 CP (f2 AJ (AB 3)<|fC<|.int 0)<|f2 AJ (AB 4)<|fC<|.int 1)<|f2 CP (f2 AJ (AB 3)<|fC<|.int 1)<|f2 AJ (AB 4)<|fC<|.int 0))
  (λ(t)(k)=>t+AM.B9 (AA r<|(k)-1) (AA r k)) (λt ρ=>∃a b c,ρ=[some<|.im<|.lst<|AI r,some<|.im<|.int t,a,b,c]) (xs:=List.range r.length) ⟨none,none,none,rfl⟩ (by
  rintro k hk t ρ ⟨a,b,c,rfl⟩;have Bi:=AAr.mp hk;refine⟨_,[some<|.im<|.lst<|AI r,some<|.im<|.int<|t+AM.B9 (AA r<|(k)-1) (AA r k),some<|.im<|.int k,some<|.im<|pv<|AA r<|(k)-1,some<|.im<|pv<|AA r k],rfl,?_,_,_,_,rfl⟩;have h3:=DK U hb<|(k)-1;have e1:Ge 3 4 (AD (f2 AJ (AB 0)<|f2 Ad (AB 2)<|fC<|.int 1)<|AD (f2 AJ (AB 0)<|AB 2) AH) [some<|.im<|.lst<|AI r,some<|.im<|.int t,some<|.im<|.int k,b,c] = some (.nx [some<|.im<|.lst<|AI r,some<|.im<|.int t,some<|.im<|.int k,some<|.im<|pv<|AA r<|(k)-1,some<|.im<|pv<|AA r k]):=by exact aD (AL (AO rfl rfl<|CO r ((k)-1) U U)<|AL (AO rfl rfl<|CO r (k) U U)<|AY _) rfl
  refine(sq e1).trans ?_;have e2:t+(AA r<|(k)-1).1*(AA r k).2-(AA r<|(k)-1).2*(AA r k).1=t+AM.B9 (AA r<|(k)-1) (AA r k):=by unfold AM.B9;lia
  rw[<-e2];refine(A8 (AO (AO rfl (AO (AO rfl rfl<|DD _) (AO rfl rfl<|DO _)<|F6<|Fj (by unfold Bd at h3;lia))<|JB _ _) (AO (AO rfl rfl<|DO _) (AO rfl rfl<|DD _)<|F6<|Fj (by unfold Bd at h3;lia))<|Cq _ _) rfl).trans ?_
  rfl)
 rw[sq<|(Ca I0).trans e,Xy λk=>AM.B9 (AA r<|k-1)<|AA r k,ABt]
 rfl
theorem WW{f:EF}{t:BF}{fe:EF}{ρ:AX}{cap:List Nat}{rv:RV}{r:List Pt}{c:Pt->Bool}{h:Pt->PV}(e:f ρ=some rv)(hp:rv.list=some (AI r))(hl:r.length<=1000) (H:∀p∈r,t (some (.im<|.int p.1)::some (.im<|.int p.2)::cap.map λj=>(ρ[j]?).join)=some (c p)/\(c p=true->∃x,fe (some (.im<|.int p.1)::some (.im<|.int p.2)::cap.map λj=>(ρ[j]?).join)=some x/\x.clean=some (h p))) :
 BI (BG false f) 2 cap (C3 2<|Bc (Ae 0)<|Bc (Ae 1) C9) t fe ρ=some (.fr<|(r.filter c).map h):=by
 refine DM (Eh e hp) (by rw[By];exact hl) ?_;refine FP λp hp=>⟨_,rfl,?_⟩;exact H p hp
theorem Rq{f:EF}{fe:EF}{ρ:AX}{cap:List Nat}{rv:RV}{r:List Pt}{h:Pt->PV}(e:f ρ=some rv)(hp:rv.list=some (AI r))(hl:r.length<=1000) (H:∀p∈r,∃x,fe (some (.im<|.int p.1)::some (.im<|.int p.2)::cap.map λj=>(ρ[j]?).join)=some x/\x.clean=some (h p)) :
 BI (BG false f) 2 cap (C3 2<|Bc (Ae 0)<|Bc (Ae 1) C9) Bl fe ρ=some (.fr<|r.map h):=by
 have:=WW (t:=Bl) e hp hl λp hp=>⟨rfl,λ_=>H p hp⟩;rw[this,ADe.mpr λ_ _=>rfl]
theorem Pc(i a b:Int):BC true (.cl<|.int i) (.fr [.int a,.int b])=some (.cl<|.bl (!(i==a||i==b))):=by simp only[BC,RV.seq,RV.list,DB,ABi,ABc,ADR,ACb,ACT];rw[ADA,ADA (a:=b)]
def Gd(r:List Pt):Bool:=decide ((0:Int)<((r.filter λp=>decide (max (DZ p.1) (DZ p.2)>100)).length:Int))
def MJ(r:List Pt):Bool:=(List.range r.length).any λk=>(List.range k).any λj=>!(nb r.length<|(k:Int)-j)&&BW (AA r<|(k:Int)-1) (AA r k) (AA r<|(j:Int)-1) (AA r j)
def Ju(r:List Pt):Bool:=!(!(decide ((3:Int)<=r.length)&&decide ((r.length:Int)<=12))||Gd r)&&(!(!((dist r:Int)==(r.length:Int))||(Fq r||decide (AM.Kk r<=0)))&&!MJ r)
theorem Xm(r:List Pt):Gd r = !(r.all En):=by
 have h:∀p:Pt,decide (max (DZ p.1) (DZ p.2)>100) = !En p:=λp=>by unfold En;rw[<-ADF,<-decide_not];apply decide_eq_decide.mpr;omega
 unfold Gd;rw[List.filter_congr λp _=>h p];cases ha:r.all En with
 |true=>
  have:r.filter (λp=>!En p)=[]:=ADV.mpr λp hp=>by have:=ABK.mp ha p hp;simp[this]
  rw[this];rfl
 |false=>
  obtain⟨p,hp,hn⟩:=List.all_eq_false.mp ha;have hm:p∈r.filter (λp=>!En p):=ABg.mpr ⟨hp,by simpa using hn⟩;have:=ACw hm;rw[ABq U];rfl
theorem dh{r:List Pt}(hl:r.length<=1000):Lv [.lst<|AI r]=some (.cl<|.bl<|Ju r):=by
 refine Bh rfl ?_;unfold Wu;rw[sq<|A8 (M6 r _ rfl) rfl];show AN _ _ [some<|.im<|.lst<|AI r,some<|.im<|.int<|r.length,none,none]=_;have e1:(Bb (Be<|AQ<|EL B8 B8 (fC<|.int 3) (AB 1)<|fC<|.int 12)<|AQ<|f2 CC (fB Av<|AD (BI (BG false<|AB 0) 2 [] (C3 2<|Bc (Ae 0)<|Bc (Ae 1) C9) (AQ<|f2 CC (fB D8<|AD (fB DC<|AD (AB 0) AH)<|AD (fB DC<|AD (AB 1) AH) AH)<|fC<|.int 100)<|fC<|.int 1) AH)<|fC<|.int 0) [some<|.im<|.lst<|AI r,some<|.im<|.int<|r.length,none,none] = some (!(decide ((3:Int)<=r.length)&&decide ((r.length:Int)<=12))||Gd r):=by
  refine EK (D3<|Aw<|OO rfl rfl rfl) λ_=>?_;have ec:=WW (f:=AB 0) (t:=AQ<|f2 CC (fB D8<|AD (fB DC<|AD (AB 0) AH)<|AD (fB DC<|AD (AB 1) AH) AH)<|fC<|.int 100) (fe:=fC<|.int 1) (ρ:=[some<|.im<|.lst<|AI r,some<|.im<|.int<|r.length,none,none]) (cap:=[]) rfl rfl hl λp _=>⟨Aw<|AO (Bp (AL (Bp (AL rfl<|AY _)<|Mw p.1)<|AL (Bp (AL rfl<|AY _)<|Mw p.2)<|AY _)<|LC _ _) rfl<|Gs _ _,λ_=>⟨_,rfl,rfl⟩⟩
  refine Aw<|AO (Bp (AL ec<|AY _)<|Y8 _) rfl ?_;rw[AAi]
  rfl
 unfold Ju;cases h1:(!(decide ((3:Int)<=r.length)&&decide ((r.length:Int)<=12))||Gd r)with
 |true=>
  rw[h1]at e1;exact C5<|(Bj e1).trans rfl
 |false=>
  rw[h1]at e1;rw[sq<|(BR e1).trans rfl];simp only[ABN,Bool.not_eq_false',AAk,decide_eq_true_eq]at h1;obtain⟨⟨YY,Ox⟩,hf⟩:=h1;rw[Xm,Bool.not_eq_false']at hf;have hb:∀p∈r,Bd 1000 p:=λp hp=>by have:=UA.mp<|ABK.mp hf p hp;unfold Bd at *;omega
  have ec:AD (AB 0) AH [some<|.im<|.lst<|AI r,some<|.im<|.int<|r.length,none,none]=some [.cl<|.lst<|AI r]:=rfl;have e2:(Bb (AQ<|f2 BP (Ii<|AB 0)<|AB 1)<|Bb (AQ<|AS Lu<|AD (AB 0) AH)<|AQ<|f2 B8 (AS Nq<|AD (AB 0) AH)<|fC<|.int 0) [some<|.im<|.lst<|AI r,some<|.im<|.int<|r.length,none,none] = some (!((dist r:Int)==(r.length))||(Fq r||decide (AM.Kk r<=0))):=by refine EK (Aw<|AO (Xe rfl rfl (VJ r) (by unfold kl;rw[AAi];lia)) rfl<|Hu _ _) λ_=>?_;exact EK (Aw<|A3 ec rfl<|Vb U U hb) λ_=>Aw<|AO (A3 ec rfl<|dj U U hb) rfl<|Hr _ _
  cases h2:(!((dist r:Int)==(r.length))||(Fq r||decide (AM.Kk r<=0)))with
  |true=>
   rw[h2]at e2;exact C5<|(Bj e2).trans rfl
  |false=>
   rw[h2]at e2;rw[sq<|(BR e2).trans rfl];have I0:Bu (AD (AB 1) AH) [some<|.im<|.lst<|AI r,some<|.im<|.int<|r.length,none,none]=some ((List.range r.length).map λk:Nat=>PV.int<|k):=D4 rfl hl;have H:=Gv (gt:=Ae 2) (λρ=>∃a b,ρ=[some<|.im<|.lst<|AI r,some<|.im<|.int<|r.length,a,b]) (xs:=List.range r.length) ⟨none,none,rfl⟩ (by
    rintro k hk ρ ⟨a,b,rfl⟩;have Bi:=AAr.mp hk;refine⟨_,rfl,?_⟩;have hr:Bu (AD (AB 2) AH) [some<|.im<|.lst<|AI r,some<|.im<|.int<|r.length,some<|.im<|.int k,b]=some ((List.range k).map λd:Nat=>PV.int<|d):=D4 rfl U;have H2:=Gv (enc:=λk:Nat=>PV.int<|k) (gt:=Ae 3) (body:=(Aq (AQ<|f2 (BC true) (f2 A4 (f2 Ad (AB 2)<|AB 3)<|AB 1)<|BB<|AD (fC<|.int 1)<|AD (f2 Ad (AB 1)<|fC<|.int 1) AH) (Aq (AQ<|AS II<|AD (f2 AJ (AB 0)<|f2 Ad (AB 2)<|fC<|.int 1)<|AD (f2 AJ (AB 0)<|AB 2)<|AD (f2 AJ (AB 0)<|f2 Ad (AB 3)<|fC<|.int 1)<|AD (f2 AJ (AB 0)<|AB 3) AH) (Ai<|fC<|.bl false) A0) A0))
     (c:=λj=>!(nb r.length<|(k)-j)&&BW (AA r<|(k)-1) (AA r k) (AA r<|(j)-1) (AA r j))
     (λρ=>∃b,ρ=[some<|.im<|.lst<|AI r,some<|.im<|.int<|r.length,some<|.im<|.int k,b]) (xs:=List.range k) ⟨b,rfl⟩ (by
     rintro j hj ρ ⟨b,rfl⟩;have CM:=AAr.mp hj;refine⟨_,rfl,?_⟩;have et:AQ (f2 (BC true) (f2 A4 (f2 Ad (AB 2)<|AB 3)<|AB 1)<|BB<|AD (fC<|.int 1)<|AD (f2 Ad (AB 1)<|fC<|.int 1) AH) [some<|.im<|.lst<|AI r,some<|.im<|.int<|r.length,some<|.im<|.int k,some<|.im<|.int j]=some (!(nb r.length<|(k)-j)):=
      Aw (AO (AO (AO rfl rfl<|Cq _ _) rfl<|ET U) (EJ rfl rfl)<|Pc _ _ _)
     have em:AQ (AS II<|AD (f2 AJ (AB 0)<|f2 Ad (AB 2)<|fC<|.int 1)<|AD (f2 AJ (AB 0)<|AB 2)<|AD (f2 AJ (AB 0)<|f2 Ad (AB 3)<|fC<|.int 1)<|AD (f2 AJ (AB 0)<|AB 3) AH) [some<|.im<|.lst<|AI r,some<|.im<|.int<|r.length,some<|.im<|.int k,some<|.im<|.int j]=some (BW (AA r<|(k)-1) (AA r k) (AA r<|(j)-1)<|AA r j):=
      Aw (A3 (AL (AO rfl rfl<|CO r ((k)-1) U U)<|AL (AO rfl rfl<|CO r (k) U U)<|AL (AO rfl rfl<|CO r ((j)-1) U U)<|AL (AO rfl rfl<|CO r (j) U U)<|AY _) rfl<|Vf (DK U hb _) (DK U hb _) (DK U hb _)<|DK U hb _)
     refine⟨λh=>?_,λh=>⟨_,?_,some<|.im<|.int j,rfl⟩⟩
     .simp only[AAk]at h;rw[h.1]at et;rw[h.2]at em;exact(Bj et).trans ((Bj em).trans rfl)
     .cases hq:(!(nb r.length<|(k)-j))with
      |false=>rw[hq]at et;exact(BR et).trans rfl
      |true=>
       rw[hq,Bool.true_and]at h;rw[hq]at et;rw[h]at em;exact(Bj et).trans ((BR em).trans rfl))
    refine⟨λh=>?_,λh=>?_⟩
    .exact(Ca hr).trans (H2.1 h)
    .obtain⟨ρ',e,b',rfl⟩:=H2.2 h;exact⟨_,(Ca hr).trans e,_,_,rfl⟩)
   unfold MJ;cases ha:(List.range r.length).any λk=>(List.range k).any λj=>!(nb r.length<|(k)-j)&&BW (AA r<|(k)-1) (AA r k) (AA r<|(j)-1) (AA r j)with
   |true=>exact C5<|(Ca I0).trans<|H.1 ha
   |false=>
    obtain⟨ρ',e,a,b,rfl⟩:=H.2 ha;rw[sq<|(Ca I0).trans e];rfl
theorem Vx(r:List Pt):Jd r=true↔AM.MC r:=by
 delta Jd AM.MC
 simp only[ABJ,ACD,AAr,AAk,not_and,Bool.not_eq_true];constructor
 .intro h k m h0 h1 h2 hn;have:=h k.toNat AAc (m-k-1).toNat;rw[AAz h0,AAz U,show k+1+(m-k-1)=m by lia]at this;exact this AAc hn
 .intro h k hk d hd h1;exact h k (k+1+d) U U AAc h1
theorem hV(r:List Pt):MJ r=false↔AM.RT r:=by
 delta MJ AM.RT
 simp only[ACD,AAr,AAk,not_and,Bool.not_eq_true,ABJ];constructor
 .intro h k j h0 h1 h2 hn;have:=h k.toNat U j.toNat U;rw[AAz h0,AAz U]at this;unfold M;rw[<-AM.Po,show k-1+1=k by lia,show j-1+1=j by lia];exact this hn
 .intro h k hk j hj h1;have:=h k j U U U h1;unfold M at this;rw[<-AM.Po,show(k:Int)-1+1=k by lia,show(j:Int)-1+1=j by lia]at this;exact this
theorem kb(r:List Pt):Ju r=Cw r:=by
 have h1:(!MJ r)=Jd r:=by rw[AB5,ABJ,hV,Vx];exact AM.fH r
 delta Ju Cw
 simp only[h1,Xm,Xt,AM.fK];have h2:decide (0<AM.DS r) = !decide (AM.DS r<=0):=by rw[<-decide_not];apply decide_eq_decide.mpr;lia
 simp only[h2];generalize (decide ((3:Int)<=r.length)&&decide ((r.length:Int)<=12))=b1;generalize r.all En=b2;generalize ((dist r:Int)==(r.length))=b3;generalize Fq r=b4;generalize decide (AM.DS r<=0)=b5;generalize Jd r=b6;cases b1<;>cases b2<;>cases b3<;>cases b4<;>cases b5<;>cases b6<;>rfl
theorem Ga{f g:EF}{ρ:AX}{s:List Int}{k:Int}(e1:f ρ=some (.cl<|.rd<|A2 s))(e2:g ρ=some (.cl<|.int k))(h:0<=k):AS B6 (AD f<|AD g AH) ρ=some (.cl<|.int<|Ag s k):=
 A3 (AL e1<|AL e2<|AY _) rfl (Qu s k h)
theorem He{f:EF}{ρ:AX}{i:Int}(n:Int)(e:f ρ=some (.cl<|.int i))(h:0<n:=by lia)(h2:n<1073741824:=by lia):f2 CB f (fC<|.int n) ρ=some (.cl<|.int<|i / n):=AO e rfl<|Y4 h h2
theorem Ei{f:EF}{ρ:AX}{i:Int}(n:Int)(e:f ρ=some (.cl<|.int i))(h:0<n:=by lia):f2 A4 f (fC<|.int n) ρ=some (.cl<|.int<|i%n):=AO e rfl<|ET h
theorem Ic{f g:EF}{ρ:AX}{i j:Int}(e:f ρ=some (.cl<|.int i))(e':g ρ=some (.cl<|.int j)):f2 Aa f g ρ=some (.cl<|.int<|i+j):=AO e e'<|JB _ _
theorem Ku{f g:EF}{ρ:AX}{i j:Int}(e:f ρ=some (.cl<|.int i))(e':g ρ=some (.cl<|.int j)):f2 Ad f g ρ=some (.cl<|.int<|i-j):=AO e e'<|Cq _ _
theorem Jl{f:EF}{ρ:AX}{i:Int}(n:Int)(e:f ρ=some (.cl<|.int i)):AQ (f2 Bn f<|fC<|.int n) ρ=some (i==n):=Aw<|AO e rfl<|PU _ _
def FC(s:List Int)(k count mode:Int)(b:Int×List Pt×List Pt)(d:Nat):Int×List Pt×List Pt:=
 let x:=if mode=3 then 1+(d:Int)else b.1+1+Ag s (k+4+(1+(d:Int))) / 2%4
 let y:=if mode=3 then(1+(d:Int))*(count-1-(1+(d:Int)))else 1+Ag s (k+4+(1+(d:Int))) / 8%9
 if Ag s (k+4+(1+(d:Int)))%2=0 then(x,b.2.1 ++ [(x,0-y)],b.2.2)else(x,b.2.1,b.2.2 ++ [(x,y)])
def Cm(s:List Int)(k count:Int):Int×List Pt×List Pt:=(List.range (count-2).toNat).foldl (FC s k count<|Ag s (k+1)%4) (0,[],[])
noncomputable def Ee(count:Int):List Pt:=(List.range count.toNat).map λj:Nat=>((j:Int),0-(j:Int)*(count-1-j))
noncomputable def CW(b:Int×List Pt×List Pt):List Pt:=[(0,0)]++b.2.1 ++ [(b.1+1,0)]++b.2.2.reverse
def GB(s:List Int)(k count:Int):List Pt:=if Fq (CW<|Cm s k count)=true then Ee count else CW (Cm s k count)
structure Kg(i:Nat)(b:Int×List Pt×List Pt):Prop where
 lo:0<=b.1
 hi:b.1<=4*i
 len:b.2.1.length+b.2.2.length=i
 bl:∀p∈b.2.1,Bd 500 p
 bh:∀p∈b.2.2,Bd 500 p
theorem oz{a b:Int}{n m:Int}(h1 : -n<=a)(h2:a<=n)(h3 : -m<=b)(h4:b<=m) : -(n*m)<=a*b/\a*b<=n*m:=by
 have hm:0<=m:=U
 constructor
 .rcases AB2 0 a with ha|ha
  .have e1:=AAv h3 ha;have e2:=AA5 h2 hm;rw[ADX]at e1;lia
  .have e1:=ADd ha h4;have e2:=AA5 h1 hm;lia
 .rcases AB2 0 a with ha|ha
  .have e1:=AAv h4 ha;have e2:=AA5 h2 hm;lia
  .have e1:=ADd ha h3;have e2:=AA5 h1 hm;rw[ADX]at e1;lia
theorem aQ{s:List Int}{k count mode:Int}{i:Nat}{b:Int×List Pt×List Pt}(h1:3<=count)(h2:count<=12)(hi:(i)<count-2)(h:Kg i b):Kg (i+1)<|FC s k count mode b i:=by
 obtain⟨x0,low,Bv⟩:=b;obtain⟨lo,hh,len,bl,bh⟩:=h;dsimp only at lo hh len bl bh;have hx:∀x,x=(if mode=3 then 1+(i:Int)else x0+1+Ag s (k+4+(1+(i))) / 2%4)->0<=x/\x<=4*((i)+1):=λx e=>by subst e;split<;>lia
 have hy:∀y,y=(if mode=3 then(1+(i))*(count-1-(1+(i)))else 1+Ag s (k+4+(1+(i))) / 8%9)->-121<=y/\y<=121:=λy e=>by
  subst e;split
  .have:=oz (n:=11) (m:=11) (a:=1+(i)) (b:=count-1-(1+(i))) U U U U
   assumption
  .lia
 unfold FC;dsimp only;generalize ex:(if mode=3 then 1+(i:Int)else x0+1+Ag s (k+4+(1+(i))) / 2%4)=x;generalize ey:(if mode=3 then(1+(i))*(count-1-(1+(i)))else 1+Ag s (k+4+(1+(i))) / 8%9)=y;have E6:=hx x ex.symm;have TV:=hy y ey.symm;split
 .refine⟨E6.1,by exact E6.2,by simp;lia,λp hp=>?_,bh⟩;rcases ABM.mp hp with z|z
  .exact bl p z
  .rw[AA9.mp z];unfold Bd;dsimp only;lia
 .refine⟨E6.1,by exact E6.2,by simp;lia,bl,λp hp=>?_⟩;rcases ABM.mp hp with z|z
  .exact bh p z
  .rw[AA9.mp z];unfold Bd;dsimp only;lia
theorem Xx{s:List Int}{k count mode:Int}(h1:3<=count)(h2:count<=12):∀n:Nat,(n)<=count-2->Kg n ((List.range n).foldl (FC s k count mode) (0,[],[]))
 |0,_=>⟨AAd,AAd,rfl,(λp hp=>by cases hp),(λp hp=>by cases hp)⟩
 |n+1,hn=>by rw[ACL,ADr];exact aQ h1 h2 AAg<|Xx h1 h2 n U
theorem aO(s:List Int)(k:Int){count:Int}(h1:3<=count)(h2:count<=12):Kg (count-2).toNat<|Cm s k count:=Xx h1 h2 _ AAc
theorem QM(b:Int×List Pt×List Pt):(CW b).length=b.2.1.length+b.2.2.length+2:=by simp[CW];lia
theorem wH{i:Nat}{b:Int×List Pt×List Pt}(h:Kg i b)(hi:i<=100):∀p∈CW b,Bd 1000 p:=λp hp=>by
 unfold CW at hp;simp only[ABM,AA9,ACk]at hp;have:=h.lo;have:=h.hi;rcases hp with((rfl|hp)|rfl)|hp
 .unfold Bd;lia
 .have:=h.bl p hp;unfold Bd at *;lia
 .unfold Bd;lia
 .have:=h.bh p hp;unfold Bd at *;lia
theorem LY(a b:List Pt):AI (a++b)=AI a++AI b:=ABQ ..
theorem Y3(l:List Pt)(p:Pt)(h:l.length<1000):CU (AI l) [pv p]=some (AI<|l ++ [p]):=by
 unfold CU;dsimp only;rw[AAl (by rw[By];exact h),LY]
 rfl
theorem Pw{i:Nat}{k:List PV->List PV->Option (List PV)}{ga:AF}{ρ:AX}{ps qs Eo:List PV}{rs:List RV}(h:ρ[i]? = some (some<|.own ps))(e:ga ρ=some rs)(c:CZ rs=some qs)(ek:k ps qs=some Eo):Ci i k ga ρ=some (.nx<|ρ.set i<|some<|.own Eo):=by unfold Ci;rw[h,e];dsimp only;rw[c];dsimp only;rw[ek]
theorem Hq{x y:RV}{xs ys:List PV}(hx:x.list=some xs)(hy:y.list=some ys)(h:xs.length+ys.length<=1000):Aa x y=some (.fr<|xs++ys):=by
 have hc:Mx x y=some (.fr<|xs++ys):=by unfold Mx;rw[hx,hy];dsimp only;rw[AAl h]
 unfold Aa;split
 .contradiction
 .exact hc
theorem Xf{f:EF}{ρ:AX}{r:RV}{ps:List PV}(e:f ρ=some r)(h:r.list=some ps):Fp f ρ=some (.fr ps.reverse):=by unfold Fp;rw[e];dsimp only;rw[h]
theorem dw(s:List Int)(k count:Int)(h0:0<=k)(h1:3<=count)(h2:count<=12):Q3 [.rd<|A2 s,.int k,.int count]=some (.cl<|.lst<|AI<|GB s k count):=by
 refine Bh rfl ?_;unfold W3;rw[sq<|A8 (Ei 4<|Ga rfl rfl U) rfl];generalize mE:Ag s (k+1)%4=mode;have mB:Cm s k count=(List.range (count-2).toNat).foldl (FC s k count mode) (0,[],[]):=by unfold Cm;rw[mE]
 show AN _ _ [some<|.im<|.rd<|A2 s,some<|.im<|.int k,some<|.im<|.int count,some<|.im<|.int mode,some<|.im<|.int 0,some<|.own [],some<|.own [],none,none,none,none]=_;have I0:DV (AD (fC<|.int 1)<|AD (f2 Ad (AB 2)<|fC<|.int 1) AH) [some<|.im<|.rd<|A2 s,some<|.im<|.int k,some<|.im<|.int count,some<|.im<|.int mode,some<|.im<|.int 0,some<|.own [],some<|.own [],none,none,none,none]=some ((List.range (count-2).toNat).map λd:Nat=>PV.int<|1+(d)):=by unfold DV;rw[show AD (fC<|.int 1) (AD (f2 Ad (AB 2)<|fC<|.int 1) AH) [some<|.im<|.rd<|A2 s,some<|.im<|.int k,some<|.im<|.int count,some<|.im<|.int mode,some<|.im<|.int 0,some<|.own [],some<|.own [],none,none,none,none]=some [.cl<|.int 1,.cl<|.int<|count-1]from rfl];dsimp only;rw[AAl ⟨⟨U,U⟩,⟨U,U⟩⟩,au,show(count-1-1).toNat=(count-2).toNat by lia]
 obtain⟨ρ',e,⟨a7,a8,a9,rfl⟩,Af⟩:=KC (enc:=λd:Nat=>PV.int<|1+(d)) (gt:=Ae 7) (body:=(AN (AZ 8<|AS B6<|AD (AB 0)<|AD (f2 Aa (f2 Aa (AB 1)<|fC<|.int 4)<|AB 7) AH)
  (AN (AZ 4<|f2 Aa (f2 Aa (AB 4)<|fC<|.int 1)<|f2 A4 (f2 CB (AB 8)<|fC<|.int 2)<|fC<|.int 4)
  (AN (AZ 9<|f2 Aa (fC<|.int 1)<|f2 A4 (f2 CB (AB 8)<|fC<|.int 8)<|fC<|.int 9)
  (AN (Aq (AQ<|f2 Bn (AB 3)<|fC<|.int 3) (AN (AZ 4<|AB 7)
  (AZ 9<|f2 CP (AB 7)<|f2 Ad (f2 Ad (AB 2)<|fC<|.int 1)<|AB 7)) A0)
  (Aq (AQ<|f2 Bn (f2 A4 (AB 8)<|fC<|.int 2)<|fC<|.int 0) (Ci 5 CU<|AD (Ao<|AD (AB 4)<|AD (f2 Ad (fC<|.int 0)<|AB 9) AH) AH)<|Ci 6 CU<|AD (Ao<|AD (AB 4)<|AD (AB 9) AH) AH))))))
  (FC s k count mode) (λi b ρ=>(∃a7 a8 a9,ρ=[some<|.im<|.rd<|A2 s,some<|.im<|.int k,some<|.im<|.int count,some<|.im<|.int mode,some<|.im<|.int b.1,some<|.own<|AI b.2.1,some<|.own<|AI b.2.2,a7,a8,a9,none])/\Kg i b)
  (xs:=List.range (count-2).toNat) (n:=0) (b:=(0,[],[])) ⟨⟨none,none,none,rfl⟩,AAd,AAd,rfl,(λp hp=>by cases hp),(λp hp=>by cases hp)⟩ (by
  rintro i d hd b ρ ⟨⟨a7,a8,a9,rfl⟩,Af⟩;have lh:=by have:=(AAn.mp hd).1;simpa using this
  have Oq:=by have:=(AAn.mp hd).2;simpa using this.symm
  subst Oq;rw[ADM]at Af;have S0:=aQ (s:=s) (k:=k) (mode:=mode) h1 h2 AAg Af;have Bg:=Af.len;obtain⟨x0,low,Bv⟩:=b;refine⟨_,[some<|.im<|.rd<|A2 s,some<|.im<|.int k,some<|.im<|.int count,some<|.im<|.int mode,some<|.im<|.int (FC s k count mode (x0,low,Bv) d).1,some<|.own<|AI (FC s k count mode (x0,low,Bv) d).2.1,some<|.own<|AI (FC s k count mode (x0,low,Bv) d).2.2,some<|.im<|.int<|1+(d),some<|.im<|.int<|Ag s<|k+4+(1+(d)),some (.im (.int (if mode=3 then(1+(d))*(count-1-(1+(d)))else 1+Ag s (k+4+(1+(d))) / 8%9))),none],rfl,?_,⟨_,_,_,rfl⟩,by rw[ADM];exact S0⟩;dsimp only at Bg;unfold FC;rw[sq<|A8 (Ga rfl rfl U) rfl];generalize Ag s (k+4+(1+(d)))=c;show AN _ _ [some<|.im<|.rd<|A2 s,some<|.im<|.int k,some<|.im<|.int count,some<|.im<|.int mode,some<|.im<|.int<|x0+1+c / 2%4,some<|.own<|AI low,some<|.own<|AI Bv,some<|.im<|.int<|1+(d),some<|.im<|.int c,some<|.im<|.int<|1+c / 8%9,none]=_;have em:=Jl (f:=AB 3) (ρ:=[some<|.im<|.rd<|A2 s,some<|.im<|.int k,some<|.im<|.int count,some<|.im<|.int mode,some<|.im<|.int<|x0+1+c / 2%4,some<|.own<|AI low,some<|.own<|AI Bv,some<|.im<|.int<|1+(d),some<|.im<|.int c,some<|.im<|.int<|1+c / 8%9,none]) 3 rfl;have fin:∀x y:Int,Aq (AQ<|f2 Bn (f2 A4 (AB 8)<|fC<|.int 2)<|fC<|.int 0) (Ci 5 CU<|AD (Ao<|AD (AB 4)<|AD (f2 Ad (fC<|.int 0)<|AB 9) AH) AH) (Ci 6 CU<|AD (Ao<|AD (AB 4)<|AD (AB 9) AH) AH) [some<|.im<|.rd<|A2 s,some<|.im<|.int k,some<|.im<|.int count,some<|.im<|.int mode,some<|.im<|.int x,some<|.own<|AI low,some<|.own<|AI Bv,some<|.im<|.int<|1+(d),some<|.im<|.int c,some<|.im<|.int y,none] = some (.nx [some<|.im<|.rd<|A2 s,some<|.im<|.int k,some<|.im<|.int count,some<|.im<|.int mode,some (.im (.int (if c%2=0 then(x,low ++ [(x,0-y)],Bv)else(x,low,Bv ++ [(x,y)])).1)),some (.own (AI (if c%2=0 then(x,low ++ [(x,0-y)],Bv)else(x,low,Bv ++ [(x,y)])).2.1)),some (.own (AI (if c%2=0 then(x,low ++ [(x,0-y)],Bv)else(x,low,Bv ++ [(x,y)])).2.2)),some<|.im<|.int<|1+(d),some<|.im<|.int c,some<|.im<|.int y,none]):=λx y=>by
   have ec:=Jl (f:=f2 A4 (AB 8)<|fC<|.int 2) (ρ:=[some<|.im<|.rd<|A2 s,some<|.im<|.int k,some<|.im<|.int count,some<|.im<|.int mode,some<|.im<|.int x,some<|.own<|AI low,some<|.own<|AI Bv,some<|.im<|.int<|1+(d),some<|.im<|.int c,some<|.im<|.int y,none]) 0<|Ei 2 rfl;by_cases hc:c%2=0
   .rw[show(c%2==0)=true by simp[hc]]at ec;rw[Bj ec,AAl hc];exact Pw rfl (AL (x:=.cl<|pv (x,0-y)) rfl<|AY _) rfl<|Y3 low _ U
   .rw[show(c%2==0)=false by simp[hc]]at ec;rw[BR ec,AAj hc];exact Pw rfl (AL (x:=.cl<|pv (x,y)) rfl<|AY _) rfl<|Y3 Bv _ U
  by_cases hm:mode=3
  .rw[show(mode==3)=true by simp[hm]]at em;simp only[AAl hm];refine Eq.trans (sq<|(Bj em).trans ?_)<|fin _ _;refine(sq<|A8 rfl rfl).trans ?_;refine(A8 (AO rfl rfl<|F6<|Fj U) rfl)
  .rw[show(mode==3)=false by simp[hm]]at em;simp only[AAj hm];exact(sq<|(BR em).trans rfl).trans (fin _ _))
 rw[sq<|(Ca I0).trans e,<-mB];have Yd:=aO s k h1 h2;have Bg:=Yd.len;have hrl:=QM<|Cm s k count;have jY:f2 Aa (f2 Aa (f2 Aa (BB<|AD (Ao<|AD (fC<|.int 0)<|AD (fC<|.int 0) AH) AH)<|AB 5)<|BB<|AD (Ao<|AD (f2 Aa (AB 4)<|fC<|.int 1)<|AD (fC<|.int 0) AH) AH) (Fp<|AB 6) [some<|.im<|.rd<|A2 s,some<|.im<|.int k,some<|.im<|.int count,some<|.im<|.int mode,some<|.im<|.int (Cm s k count).1,some<|.own<|AI (Cm s k count).2.1,some<|.own<|AI (Cm s k count).2.2,a7,a8,a9,none]=some (.fr<|AI<|CW<|Cm s k count):=by
  have l1:=By (Cm s k count).2.1;have l2:=By (Cm s k count).2.2;refine(AO (AO (AO rfl rfl<|Hq rfl rfl (by simp;lia)) rfl<|Hq rfl rfl (by simp;lia)) (Xf rfl rfl)<|Hq rfl rfl (by simp;lia)).trans ?_;unfold CW;rw[LY,LY];unfold AI;rw[List.map_reverse]
  rfl
 rw[sq<|A8 jY rfl];have ef:=Aw<|A3 (ρ:=[some<|.im<|.rd<|A2 s,some<|.im<|.int k,some<|.im<|.int count,some<|.im<|.int mode,some<|.im<|.int (Cm s k count).1,some<|.own<|AI (Cm s k count).2.1,some<|.own<|AI (Cm s k count).2.2,a7,a8,a9,some<|.im<|.lst<|AI<|CW<|Cm s k count]) (AL (f:=AB 10) rfl<|AY _) rfl<|Vb U U<|wH Yd U;unfold GB;cases hf:Fq (CW<|Cm s k count)with
 |false=>
  rw[hf]at ef;exact(sq<|(BR ef).trans rfl).trans rfl
 |true=>
  simp only[hf]at ef;have lN:count=(count.toNat):=U
  have eb:BI (Bu<|AD (AB 2) AH) 1 [2] (Ae 0) Bl (Ao<|AD (AB 0)<|AD (f2 Ad (fC<|.int 0)<|f2 CP (AB 0)<|f2 Ad (f2 Ad (AB 1)<|fC<|.int 1)<|AB 0) AH) [some<|.im<|.rd<|A2 s,some<|.im<|.int k,some<|.im<|.int count,some<|.im<|.int mode,some<|.im<|.int (Cm s k count).1,some<|.own<|AI (Cm s k count).2.1,some<|.own<|AI (Cm s k count).2.2,a7,a8,a9,some<|.im<|.lst<|AI<|CW<|Cm s k count]=some (.fr<|AI<|Ee count):=by
   refine DM (D4 (by rw[<-lN];rfl) U) (by simp;lia) ?_
   delta Ee AI
   simp only[ABO];refine GW λj hj=>⟨_,.cl<|pv ((j),0-(j)*(count-1-j)),rfl,?_,rfl⟩;have CM:=AAr.mp hj;exact Ej (AL rfl<|AL (Ku rfl<|AO rfl rfl<|F6<|Fj U)<|AY _) rfl
  exact(sq<|(Bj ef).trans<|A8 eb rfl).trans rfl
def wx(s:List Int)(k:Int):Nat->Int
 |0=>0
 |i+1=>wx s k i+1+Ag s (k+5+(i:Int))%4
def wy(s:List Int)(k:Int):Nat->Int
 |0=>0
 |i+1=>wy s k i+1+Ag s (k+5+(i:Int)) / 4%4
def Lj(s:List Int)(k:Int):List Pt:=
 [(wx s k 0,wy s k 0),(wx s k 5,wy s k 0),(wx s k 5,wy s k 5),(wx s k 1,wy s k 5),(wx s k 1,wy s k 2),(wx s k 3,wy s k 2),(wx s k 3,wy s k 3),(wx s k 2,wy s k 3),(wx s k 2,wy s k 4),(wx s k 4,wy s k 4),(wx s k 4,wy s k 1),(wx s k 0,wy s k 1)]
noncomputable def upTo(f:Nat->Int)(n:Nat):List PV:=(List.range<|n+1).map λi=>PV.int<|f i
theorem cZ(f:Nat->Int)(n:Nat):upTo f (n+1)=upTo f n ++ [.int<|f<|n+1]:=by unfold upTo;rw[ACL,ABQ];rfl
theorem cY(f:Nat->Int)(n:Nat):AJ (.bo<|upTo f n) (.cl<|.int (-1))=some (.cl<|.int<|f n):=by
 show(CY (upTo f n) (-1)).map _=_;have:CY (upTo f n) (-1)=some (.int<|f n):=by
  have hl:(upTo f n).length=n+1:=by simp[upTo]
  delta CY Gp
  rw[hl,AAj U,AAl U,show(-1+((n+1:Nat):Int)).toNat=n by lia];simp[upTo]
 rw[this];rfl
theorem Y2(l:List PV)(p:PV)(h:l.length<1000):CU l [p]=some (l ++ [p]):=by unfold CU;dsimp only;rw[AAl h]
theorem eJ(s:List Int)(k:Int)(h0:0<=k):Nt [.rd<|A2 s,.int k]=some (.fr<|AI<|Lj s k):=by
 refine Bh rfl ?_;show AN _ _ [some<|.im<|.rd<|A2 s,some<|.im<|.int k,some<|.own [.int 0],some<|.own [.int 0],none,none,none]=_;have I0:Bu (AD (fC<|.int 5) AH) [some<|.im<|.rd<|A2 s,some<|.im<|.int k,some<|.own [.int 0],some<|.own [.int 0],none,none,none]=some ((List.range 5).map λd:Nat=>PV.int<|d):=D4 rfl U;obtain⟨ρ',e,a4,a5,rfl⟩:=KC (enc:=λd:Nat=>PV.int<|d) (gt:=Ae 4) (body:=(AN (AZ 5<|AS B6<|AD (AB 0)<|AD (f2 Aa (f2 Aa (AB 1)<|fC<|.int 5)<|AB 4) AH)
  (AN (Ci 2 CU<|AD (f2 Aa (f2 Aa (f2 AJ (AB 2)<|Fo<|fC<|.int 1)<|fC<|.int 1)<|f2 A4 (AB 5)<|fC<|.int 4) AH)
  (Ci 3 CU<|AD (f2 Aa (f2 Aa (f2 AJ (AB 3)<|Fo<|fC<|.int 1)<|fC<|.int 1)<|f2 A4 (f2 CB (AB 5)<|fC<|.int 4)<|fC<|.int 4) AH))))
  (λ(u)(_)=>u) (λi _ ρ=>∃a4 a5,ρ=[some<|.im<|.rd<|A2 s,some<|.im<|.int k,some<|.own<|upTo (wx s k) i,some<|.own<|upTo (wy s k) i,a4,a5,none]) (xs:=List.range 5) (b:=()) ⟨none,none,rfl⟩ (by
  rintro i d hd _ ρ ⟨a4,a5,rfl⟩;have Oq:=by have:=(AAn.mp hd).2;simpa using this.symm
  have lh:=by have:=(AAn.mp hd).1;simpa using this
  subst Oq;rw[ADM];have Hn:(upTo (wx s k) d).length=d+1:=by simp[upTo]
  have K3:(upTo (wy s k) d).length=d+1:=by simp[upTo]
  refine⟨_,[some<|.im<|.rd<|A2 s,some<|.im<|.int k,some<|.own<|upTo (wx s k)<|d+1,some<|.own<|upTo (wy s k)<|d+1,some<|.im<|.int d,some<|.im<|.int<|Ag s<|k+5+(d),none],rfl,?_,_,_,rfl⟩;rw[sq<|A8 (Ga rfl rfl U) rfl];simp only[cZ,cZ,wx,wy];refine(sq<|Pw rfl (AL (Ic (Ic (AO rfl rfl<|cY _ _) rfl)<|Ei 4 rfl)<|AY _) rfl<|Y2 _ _ U).trans ?_;exact(Pw rfl (AL (Ic (Ic (AO rfl rfl<|cY _ _) rfl)<|Ei 4<|He 4 rfl)<|AY _) rfl<|Y2 _ _ U))
 rw[sq<|(Ca I0).trans e];refine(sq<|A8 rfl rfl).trans ?_;exact KL rfl
theorem Wa(r:List Pt)(n:Nat)(h:n<=r.length):Kq (AI r) none (some<|n)=AI (r.take n):=by unfold Kq;rw[HT.bK,HT.bJ,By,List.drop_zero,Nat.sub_zero,Nat.min_eq_left h,AI,AI,List.map_take]
theorem iC(r:List Pt)(n:Nat)(h:n<=r.length):Kq (AI r) (some<|n) none=AI (r.drop n):=by unfold Kq;rw[HT.bK,HT.bJ,By,Nat.min_eq_left h,ADU (by simp[AI]),AI,AI,List.map_drop]
theorem Xg{f g:EF}{ρ:AX}{rv:RV}{r:List Pt}{n:Nat}(e:f ρ=some rv)(hr:rv.list=some (AI r))(e2:g ρ=some (.cl<|.int<|n))(h:n<=r.length):DW f Dq (DU g) ρ=some (.fr<|AI<|r.take n):=by
 delta DW Dq DU
 rw[e,e2];dsimp only;rw[hr];dsimp only;rw[Wa r n h]
theorem Xa{f g:EF}{ρ:AX}{rv:RV}{r:List Pt}{n:Nat}(e:f ρ=some rv)(hr:rv.list=some (AI r))(e2:g ρ=some (.cl<|.int<|n))(h:n<=r.length):DW f (DU g) Dq ρ=some (.fr<|AI<|r.drop n):=by
 delta DW Dq DU
 rw[e,e2];dsimp only;rw[hr];dsimp only;rw[iC r n h]
noncomputable def Dh(r:List Pt)(c:Int):Nat:=(c%(r.length:Int)).toNat
theorem QA{r:List Pt}(h:0<r.length)(c:Int):Dh r c<r.length:=by have h2:=AA3 c (b:=(r.length)) U;unfold Dh;lia
theorem aU{r:List Pt}(h:0<r.length)(c:Int):c%(r.length)=(Dh r c):=by have h1:=ABC c (b:=(r.length)) U;unfold Dh;lia
def Ep(r:List Pt)(c:Int):Pt:=((AA r<|Dh r c).1+c / 16%33-16,(AA r<|Dh r c).2+c / 1024%33-16)
def Gy(r:List Pt)(c:Int):List Pt:=r.take (Dh r c) ++ [Ep r c]++r.drop (Dh r c+1)
def LX(s:List Int)(k:Int)(r:List Pt)(d:Nat):List Pt:=
 let c:=Ag s<|k+15+(d:Int)
 if(decide (max (DZ (Ep r c).1) (DZ (Ep r c).2)<80)&&Ju (Gy r c))=true then Gy r c else r
def LW(s:List Int)(k:Int)(r:List Pt):List Pt:=(List.range (Ag s (k+1) / 4%5).toNat).foldl (LX s k) r
theorem se{r:List Pt}(h:0<r.length)(c:Int):(Gy r c).length=r.length:=by have:=QA h c;unfold Gy;simp only[ABA,ACQ,AA6,ACF,AC4];lia
theorem dz(s:List Int)(k:Int)(h0:0<=k){r:List Pt}(h1:0<r.length)(h2:r.length<=100):Q4 [.rd<|A2 s,.int k,.lst<|AI r]=some (.cl<|.lst<|AI<|LW s k r)/\(LW s k r).length=r.length:=by
 have hn:Ag s (k+1) / 4%5=((Ag s (k+1) / 4%5).toNat):=U
 have I0:Bu (AD (f2 A4 (f2 CB (AS B6<|AD (AB 0)<|AD (f2 Aa (AB 1)<|fC<|.int 1) AH)<|fC<|.int 4)<|fC<|.int 5) AH) (A5 9 [.rd<|A2 s,.int k,.lst<|AI r])=some ((List.range (Ag s (k+1) / 4%5).toNat).map λd:Nat=>PV.int<|d):=
  D4 (AL (by rw[<-hn];exact Ei 5<|He 4<|Ga rfl rfl U)<|AY _) U
 obtain⟨ρ',e,⟨a3,a4,a5,a6,a7,a8,rfl⟩,Bg⟩:=Tz (gt:=Ae 3) (body:=(AN (AZ 4<|AS B6<|AD (AB 0)<|AD (f2 Aa (f2 Aa (AB 1)<|fC<|.int 15)<|AB 3) AH)<|AN (AZ 5<|f2 A4 (AB 4)<|fB Av<|AD (AB 2) AH)<|AN (AZ 6<|f2 Ad (f2 Aa (f2 AJ (f2 AJ (AB 2)<|AB 5)<|fC<|.int 0)<|f2 A4 (f2 CB (AB 4)<|fC<|.int 16)<|fC<|.int 33)<|fC<|.int 16)<|AN (AZ 7<|f2 Ad (f2 Aa (f2 AJ (f2 AJ (AB 2)<|AB 5)<|fC<|.int 1)<|f2 A4 (f2 CB (AB 4)<|fC<|.int 1024)<|fC<|.int 33)<|fC<|.int 16)<|AN (AZ 8<|f2 Aa (f2 Aa (DW (AB 2) Dq<|DU<|AB 5)<|BB<|AD (Ao<|AD (AB 6)<|AD (AB 7) AH) AH)<|DW (AB 2) (DU<|f2 Aa (AB 5)<|fC<|.int 1) Dq)<|Aq (CH (AQ<|f2 Bw (fB D8<|AD (fB DC<|AD (AB 6) AH)<|AD (fB DC<|AD (AB 7) AH) AH)<|fC<|.int 80)<|AQ<|AS Lv<|AD (AB 8) AH) (AZ 2<|AB 8) A0)) (LX s k) (λ(q) ρ=>(∃a3 a4 a5 a6 a7 a8,ρ=[some<|.im<|.rd<|A2 s,some<|.im<|.int k,some<|.im<|.lst<|AI q,a3,a4,a5,a6,a7,a8])/\q.length=r.length) (ρ:=A5 9 [.rd<|A2 s,.int k,.lst<|AI r]) ⟨⟨none,none,none,none,none,none,rfl⟩,rfl⟩ (by
  rintro d hd q ρ ⟨⟨a3,a4,a5,a6,a7,a8,rfl⟩,hq⟩;have S8:0<q.length:=U
  unfold LX;dsimp only;have XQ:=Ga (f:=AB 0) (g:=f2 Aa (f2 Aa (AB 1)<|fC<|.int 15)<|AB 3) (ρ:=[some<|.im<|.rd<|A2 s,some<|.im<|.int k,some<|.im<|.lst<|AI q,some<|.im<|.int d,a4,a5,a6,a7,a8]) rfl rfl U;generalize Ag s (k+15+(d))=c at XQ ⊢;have hp:=QA S8 c;have hx:AJ (.cl<|.lst<|AI q) (.cl<|.int<|Dh q c)=some (.cl<|pv<|AA q<|Dh q c):=CO q _ U U;have l8:=By q;have ma:=se S8 c;have pre:∀h:SF,AN (AZ 4<|AS B6<|AD (AB 0)<|AD (f2 Aa (f2 Aa (AB 1)<|fC<|.int 15)<|AB 3) AH) (AN (AZ 5<|f2 A4 (AB 4)<|fB Av<|AD (AB 2) AH)<|AN (AZ 6<|f2 Ad (f2 Aa (f2 AJ (f2 AJ (AB 2)<|AB 5)<|fC<|.int 0)<|f2 A4 (f2 CB (AB 4)<|fC<|.int 16)<|fC<|.int 33)<|fC<|.int 16)<|AN (AZ 7<|f2 Ad (f2 Aa (f2 AJ (f2 AJ (AB 2)<|AB 5)<|fC<|.int 1)<|f2 A4 (f2 CB (AB 4)<|fC<|.int 1024)<|fC<|.int 33)<|fC<|.int 16)<|AN (AZ 8<|f2 Aa (f2 Aa (DW (AB 2) Dq<|DU<|AB 5)<|BB<|AD (Ao<|AD (AB 6)<|AD (AB 7) AH) AH)<|DW (AB 2) (DU<|f2 Aa (AB 5)<|fC<|.int 1) Dq) h)
    [some<|.im<|.rd<|A2 s,some<|.im<|.int k,some<|.im<|.lst<|AI q,some<|.im<|.int d,a4,a5,a6,a7,a8] =
    h [some<|.im<|.rd<|A2 s,some<|.im<|.int k,some<|.im<|.lst<|AI q,some<|.im<|.int d,some<|.im<|.int c,some<|.im<|.int<|Dh q c,some<|.im<|.int (Ep q c).1,some<|.im<|.int (Ep q c).2,some<|.im<|.lst<|AI<|Gy q c]:=λh=>by
   rw[sq<|A8 XQ rfl];refine(sq (A8 (r:=.cl<|.int<|Dh q c) (by rw[<-(aU S8 c),<-l8];exact AO rfl rfl<|ET U) rfl)).trans ?_
   refine(sq<|A8 (Ku (Ic (AO (AO rfl rfl hx) rfl<|DD _)<|Ei 33<|He 16 rfl) rfl) rfl).trans ?_;refine(sq<|A8 (Ku (Ic (AO (AO rfl rfl hx) rfl<|DO _)<|Ei 33<|He 1024 rfl) rfl) rfl).trans ?_;refine(sq<|A8 (AO (AO (Xg rfl rfl rfl U) (y:=.fr [pv<|Ep q c]) rfl<|Hq rfl rfl (by simp[AI];lia)) (Xa rfl rfl rfl AAg)<|Hq rfl rfl (by simp[AI];lia)) rfl).trans ?_;unfold Gy;simp only[LY,LY]
   rfl
  have et:(CH (AQ<|f2 Bw (fB D8<|AD (fB DC<|AD (AB 6) AH)<|AD (fB DC<|AD (AB 7) AH) AH)<|fC<|.int 80)<|AQ<|AS Lv<|AD (AB 8) AH) [some<|.im<|.rd<|A2 s,some<|.im<|.int k,some<|.im<|.lst<|AI q,some<|.im<|.int d,some<|.im<|.int c,some<|.im<|.int<|Dh q c,some<|.im<|.int (Ep q c).1,some<|.im<|.int (Ep q c).2,some<|.im<|.lst<|AI<|Gy q c] = some (decide (max (DZ (Ep q c).1) (DZ (Ep q c).2)<80)&&Ju (Gy q c)):=
   Ie (Aw<|AO (Bp (AL (Bp (AL rfl<|AY _)<|Mw _)<|AL (Bp (AL rfl<|AY _)<|Mw _)<|AY _)<|LC _ _) rfl<|Ht _ _) λ_=>Aw<|A3 (AL rfl<|AY _) rfl<|dh U
  cases hb:(decide (max (DZ (Ep q c).1) (DZ (Ep q c).2)<80)&&Ju (Gy q c))with
  |true=>
   rw[hb]at et;rw[AAl rfl];exact⟨_,_,rfl,(pre _).trans<|(Bj et).trans<|A8 rfl rfl,⟨_,_,_,_,_,_,rfl⟩,U⟩
  |false=>
   rw[hb]at et;exact⟨_,_,rfl,(pre _).trans<|(BR et).trans rfl,⟨_,_,_,_,_,_,rfl⟩,hq⟩)
 refine⟨Bh rfl ?_,Bg⟩;exact(sq<|(Ca I0).trans e).trans rfl
noncomputable def G8(z:Int)(p:Pt):Pt:=(p.1+z*p.2,p.2)
noncomputable def Jo(p:Pt):Pt:=(0-p.1,p.2)
noncomputable def Jp(p:Pt):Pt:=(p.1,0-p.2)
noncomputable def KW(p:Pt):Pt:=(p.2,p.1)
noncomputable def JH(x y:Int)(p:Pt):Pt:=(p.1+x,p.2+y)
def Dz(s:List Int)(k most:Int):List Pt:=if most=12/\Ag s (k+1) / 20%6=5 then Lj s k else GB s k (3+Ag s k%(most-2))
def Di(s:List Int)(k:Int):Int:=Ag s (k+2) / 8%3-1
def Er(s:List Int)(k most:Int):List Pt:=LW s k<|(Dz s k most).map<|G8<|Di s k
def HB(s:List Int)(k:Int)(r:List Pt):List Pt:=if Ag s (k+2)%8%2=1 then(r.map Jo).reverse else r
def KZ(s:List Int)(k:Int)(r:List Pt):List Pt:=if Ag s (k+2)%8 / 2%2=1 then(r.map Jp).reverse else r
def Qb(s:List Int)(k:Int)(r:List Pt):List Pt:=if Ag s (k+2)%8 / 4=1 then(r.map KW).reverse else r
def DQ(s:List Int)(k most:Int):List Pt:=Qb s k<|KZ s k<|HB s k<|Er s k most
noncomputable def KO(r:List Pt)(n:Nat):List Pt:=r.drop n++r.take n
def drawn(s:List Int)(k most:Int):List Pt:=(KO (DQ s k most)<|Dh (DQ s k most)<|Ag s<|k+3).map<|JH (Ag s (k+3) / 16%41-20)<|Ag s (k+4)%41-20
theorem rf(s:List Int)(k:Int){count:Int}(h1:3<=count)(h2:count<=12):((GB s k count).length)=count:=by
 have h:=(aO s k h1 h2).len;unfold GB;split
 .simp[Ee];lia
 .rw[QM];omega
theorem fU(s:List Int)(k:Int){most:Int}(h1:3<=most)(h2:most<=12):3<=(Dz s k most).length/\((Dz s k most).length)<=most:=by
 unfold Dz;split
 .simp[Lj];lia
 .have a:=ABC (Ag s k) (b:=most-2) U;have b:=AA3 (Ag s k) (b:=most-2) U;have:=rf s k (count:=3+Ag s k%(most-2)) AAc U;omega
theorem VL(s:List Int)(k:Int)(r:List Pt):(HB s k r).length=r.length:=by unfold HB;split<;>simp
theorem cL(s:List Int)(k:Int)(r:List Pt):(KZ s k r).length=r.length:=by unfold KZ;split<;>simp
theorem yg(s:List Int)(k:Int)(r:List Pt):(Qb s k r).length=r.length:=by unfold Qb;split<;>simp
theorem v8(r:List Pt)(q:Pt->Pt):(r.map<|pv∘q).reverse=AI ((r.map q).reverse):=by unfold AI;rw[List.map_reverse,ABO]
theorem eE(s:List Int)(k most:Int)(h0:0<=k)(h1:3<=most)(h2:most<=12):Q5 [.rd<|A2 s,.int k,.int most]=some (.fr<|AI<|drawn s k most)/\3<=(drawn s k most).length/\((drawn s k most).length)<=most:=by
 have hb:=fU s k h1 h2;have Yg:=dz s k h0 (r:=(Dz s k most).map<|G8<|Di s k) (by simp;lia) (by simp;lia);have A7:(Er s k most).length=(Dz s k most).length:=by simp only[Er,Yg.2,AAi]
 have ma:(DQ s k most).length=(Dz s k most).length:=by simp only[DQ,yg,cL,VL,A7]
 have E4:(drawn s k most).length=(Dz s k most).length:=by
  delta drawn KO
  simp only[AAi,ABA,AC4,ACQ];lia
 refine⟨?_,U,U⟩;refine Bh rfl ?_;unfold W4;have em:=ABC (Ag s k) (b:=most-2) U;have em2:=AA3 (Ag s k) (b:=most-2) U;rw[sq<|A8 (Ga rfl rfl h0) rfl];rw[sq<|A8 (A3 (AL rfl<|AL rfl<|AL (Ic rfl<|AO rfl rfl<|ET U)<|AY _) rfl<|dw s k (3+Ag s k%(most-2)) h0 U U) rfl];show AN _ _ [some<|.im<|.rd<|A2 s,some<|.im<|.int k,some<|.im<|.int most,some<|.im<|.int<|Ag s k,some<|.im<|.lst<|AI<|GB s k<|3+Ag s k%(most-2),none,none,none,none,none]=_;have e1:(Aq (CH (AQ<|f2 Bn (AB 2)<|fC<|.int 12)<|AQ<|f2 Bn (f2 A4 (f2 CB (AS B6<|AD (AB 0)<|AD (f2 Aa (AB 1)<|fC<|.int 1) AH)<|fC<|.int 20)<|fC<|.int 6)<|fC<|.int 5) (AZ 4<|AS Nt<|AD (AB 0)<|AD (AB 1) AH) A0) [some<|.im<|.rd<|A2 s,some<|.im<|.int k,some<|.im<|.int most,some<|.im<|.int<|Ag s k,some<|.im<|.lst<|AI<|GB s k<|3+Ag s k%(most-2),none,none,none,none,none] = some (.nx [some<|.im<|.rd<|A2 s,some<|.im<|.int k,some<|.im<|.int most,some<|.im<|.int<|Ag s k,some<|.im<|.lst<|AI<|Dz s k most,none,none,none,none,none]):=by
  have et:=Ie (Jl (f:=AB 2) (ρ:=[some<|.im<|.rd<|A2 s,some<|.im<|.int k,some<|.im<|.int most,some<|.im<|.int<|Ag s k,some<|.im<|.lst<|AI<|GB s k<|3+Ag s k%(most-2),none,none,none,none,none]) 12 rfl) λ_=>Jl 5<|Ei 6<|He 20<|Ga (f:=AB 0) (g:=f2 Aa (AB 1)<|fC<|.int 1) rfl rfl U;unfold Dz;by_cases hc:most=12/\Ag s (k+1) / 20%6=5
  .rw[show(most==12&&Ag s (k+1) / 20%6==5)=true by simp[hc.1,hc.2]]at et;rw[AAl hc];exact(Bj et).trans (A8 (A3 (AL rfl<|AL rfl<|AY _) rfl<|eJ s k h0) rfl)
  .rw[show(most==12&&Ag s (k+1) / 20%6==5)=false by rw[ACz];intro z;simp at z;exact hc z]at et
   rw[AAj hc];exact(BR et).trans rfl
 rw[sq e1];have YJ:∀(a4 a5 a6 a7 a8 a9:Option SV),AS B6 (AD (AB 0)<|AD (f2 Aa (AB 1)<|fC<|.int 2) AH) [some<|.im<|.rd<|A2 s,some<|.im<|.int k,some<|.im<|.int most,some<|.im<|.int<|Ag s k,a4,a5,a6,a7,a8,a9]=some (.cl<|.int<|Ag s<|k+2):=λ_ _ _ _ _ _=>Ga rfl rfl U;have YK:∀(a4 a5 a6 a7 a8 a9:Option SV),AS B6 (AD (AB 0)<|AD (f2 Aa (AB 1)<|fC<|.int 3) AH) [some<|.im<|.rd<|A2 s,some<|.im<|.int k,some<|.im<|.int most,some<|.im<|.int<|Ag s k,a4,a5,a6,a7,a8,a9]=some (.cl<|.int<|Ag s<|k+3):=λ_ _ _ _ _ _=>Ga rfl rfl U;have lL:∀(a4 a5 a6 a7 a8 a9:Option SV),AS B6 (AD (AB 0)<|AD (f2 Aa (AB 1)<|fC<|.int 4) AH) [some<|.im<|.rd<|A2 s,some<|.im<|.int k,some<|.im<|.int most,some<|.im<|.int<|Ag s k,a4,a5,a6,a7,a8,a9]=some (.cl<|.int<|Ag s<|k+4):=λ_ _ _ _ _ _=>Ga rfl rfl U;rw[sq<|A8 (Ku (Ei 3<|He 8<|YJ _ _ _ _ _ _) rfl) rfl];show AN _ _ [some<|.im<|.rd<|A2 s,some<|.im<|.int k,some<|.im<|.int most,some<|.im<|.int<|Ag s k,some<|.im<|.lst<|AI<|Dz s k most,some<|.im<|.int<|Di s k,none,none,none,none]=_;have jZ:BI (BG false<|AB 4) 2 [5] (C3 2<|Bc (Ae 0)<|Bc (Ae 1) C9) Bl (Ao<|AD (f2 Aa (AB 0)<|f2 CP (AB 2)<|AB 1)<|AD (AB 1) AH) [some<|.im<|.rd<|A2 s,some<|.im<|.int k,some<|.im<|.int most,some<|.im<|.int<|Ag s k,some<|.im<|.lst<|AI<|Dz s k most,some<|.im<|.int<|Di s k,none,none,none,none] = some (.fr<|AI<|(Dz s k most).map<|G8<|Di s k):=by unfold AI;rw[ABO];refine Rq rfl rfl U λp _=>⟨.cl<|pv<|G8 (Di s k) p,?_,rfl⟩;exact Ej (AL (Ic rfl<|AO rfl rfl<|F6<|Fj (by unfold Di;lia))<|AL rfl<|AY _) rfl
 rw[sq<|A8 (A3 (AL rfl<|AL rfl<|AL jZ<|AY _) rfl Yg.1) rfl];show AN _ _ [some<|.im<|.rd<|A2 s,some<|.im<|.int k,some<|.im<|.int most,some<|.im<|.int<|Ag s k,some<|.im<|.lst<|AI<|Er s k most,some<|.im<|.int<|Di s k,none,none,none,none]=_;rw[sq<|A8 (Ei 8<|YJ _ _ _ _ _ _) rfl];show AN _ _ [some<|.im<|.rd<|A2 s,some<|.im<|.int k,some<|.im<|.int most,some<|.im<|.int<|Ag s k,some<|.im<|.lst<|AI<|Er s k most,some<|.im<|.int<|Di s k,some<|.im<|.int<|Ag s (k+2)%8,none,none,none]=_;have tn:∀(q:Pt->Pt)(f:EF)(t:BF)(b:Bool)(r:List Pt),r.length<=1000->t [some<|.im<|.rd<|A2 s,some<|.im<|.int k,some<|.im<|.int most,some<|.im<|.int<|Ag s k,some<|.im<|.lst<|AI r,some<|.im<|.int<|Di s k,some<|.im<|.int<|Ag s (k+2)%8,none,none,none]=some b->(∀p:Pt,f [some<|.im<|.int p.1,some<|.im<|.int p.2]=some (.cl<|pv<|q p))->Aq t (AZ 4<|Fp<|BI (BG false<|AB 4) 2 [] (C3 2<|Bc (Ae 0)<|Bc (Ae 1) C9) Bl f) A0 [some<|.im<|.rd<|A2 s,some<|.im<|.int k,some<|.im<|.int most,some<|.im<|.int<|Ag s k,some<|.im<|.lst<|AI r,some<|.im<|.int<|Di s k,some<|.im<|.int<|Ag s (k+2)%8,none,none,none] = some (.nx [some<|.im<|.rd<|A2 s,some<|.im<|.int k,some<|.im<|.int most,some<|.im<|.int<|Ag s k,some (.im (.lst (AI (if b=true then(r.map q).reverse else r)))),some<|.im<|.int<|Di s k,some<|.im<|.int<|Ag s (k+2)%8,none,none,none]):=λq f t b r hl et hf=>by
  cases b with
  |false=>exact(BR et).trans rfl
  |true=>
   rw[AAl rfl,Bj et];rw[<-v8];exact A8 (Xf (Rq (f:=AB 4) (ρ:=[some<|.im<|.rd<|A2 s,some<|.im<|.int k,some<|.im<|.int most,some<|.im<|.int<|Ag s k,some<|.im<|.lst<|AI r,some<|.im<|.int<|Di s k,some<|.im<|.int<|Ag s (k+2)%8,none,none,none]) (cap:=[]) (h:=pv∘q) rfl rfl hl λp _=>⟨_,hf p,rfl⟩) rfl) rfl
 have bi:∀i n:Int,∀r r':List Pt,(if(i==n)=true then r else r')=(if i=n then r else r'):=λi n r r'=>by
  by_cases h:i=n
  .rw[AAl (by simpa using h),AAl h]
  .rw[AAj (by simpa using h),AAj h]
 have t1:=tn Jo (Ao<|AD (f2 Ad (fC<|.int 0)<|AB 0)<|AD (AB 1) AH) _ _ (Er s k most) U (Jl (f:=f2 A4 (AB 6)<|fC<|.int 2) 1<|Ei 2 rfl) λp=>rfl;rw[bi]at t1;have t2:=tn Jp (Ao<|AD (AB 0)<|AD (f2 Ad (fC<|.int 0)<|AB 1) AH) _ _ (HB s k<|Er s k most) (by rw[VL];lia) (Jl (f:=f2 A4 (f2 CB (AB 6)<|fC<|.int 2)<|fC<|.int 2) 1<|Ei 2<|He 2 rfl) λp=>rfl;rw[bi]at t2;have t3:=tn KW (Ao<|AD (AB 1)<|AD (AB 0) AH) _ _ (KZ s k<|HB s k<|Er s k most) (by rw[cL,VL];lia) (Jl (f:=f2 CB (AB 6)<|fC<|.int 4) 1<|He 4 rfl) λp=>rfl;rw[bi]at t3;rw[sq t1];refine(sq t2).trans ?_;refine(sq t3).trans ?_;show AN _ _ [some<|.im<|.rd<|A2 s,some<|.im<|.int k,some<|.im<|.int most,some<|.im<|.int<|Ag s k,some<|.im<|.lst<|AI<|DQ s k most,some<|.im<|.int<|Di s k,some<|.im<|.int<|Ag s (k+2)%8,none,none,none]=_;have K6:0<(DQ s k most).length:=U
 have AAJ:=QA K6<|Ag s<|k+3;have e7:f2 A4 (AS B6<|AD (AB 0)<|AD (f2 Aa (AB 1)<|fC<|.int 3) AH) (fB Av<|AD (AB 4) AH) [some<|.im<|.rd<|A2 s,some<|.im<|.int k,some<|.im<|.int most,some<|.im<|.int<|Ag s k,some<|.im<|.lst<|AI<|DQ s k most,some<|.im<|.int<|Di s k,some<|.im<|.int<|Ag s (k+2)%8,none,none,none] = some (.cl<|.int<|Dh (DQ s k most)<|Ag s<|k+3):=by rw[<-(aU K6<|Ag s<|k+3)];exact AO (YK _ _ _ _ _ _) (by rw[<-By];rfl)<|ET U
 rw[sq<|A8 e7 rfl];refine(sq<|A8 (Ku (Ei 41<|He 16<|YK _ _ _ _ _ _) rfl) rfl).trans ?_;refine(sq<|A8 (Ku (Ei 41<|lL _ _ _ _ _ _) rfl) rfl).trans ?_;refine KL ?_;show BI _ _ _ _ _ _ [some<|.im<|.rd<|A2 s,some<|.im<|.int k,some<|.im<|.int most,some<|.im<|.int<|Ag s k,some<|.im<|.lst<|AI<|DQ s k most,some<|.im<|.int<|Di s k,some<|.im<|.int<|Ag s (k+2)%8,some<|.im<|.int<|Dh (DQ s k most)<|Ag s<|k+3,some<|.im<|.int<|Ag s (k+3) / 16%41-20,some<|.im<|.int<|Ag s (k+4)%41-20]=_;unfold drawn;have Ot:=Rq (f:=f2 Aa (DW (AB 4) (DU<|AB 7) Dq)<|DW (AB 4) Dq<|DU<|AB 7) (fe:=Ao<|AD (f2 Aa (AB 0)<|AB 2)<|AD (f2 Aa (AB 1)<|AB 3) AH) (cap:=[8,9]) (h:=pv∘JH (Ag s (k+3) / 16%41-20) (Ag s (k+4)%41-20)) (ρ:=[some<|.im<|.rd<|A2 s,some<|.im<|.int k,some<|.im<|.int most,some<|.im<|.int<|Ag s k,some<|.im<|.lst<|AI<|DQ s k most,some<|.im<|.int<|Di s k,some<|.im<|.int<|Ag s (k+2)%8,some<|.im<|.int<|Dh (DQ s k most)<|Ag s<|k+3,some<|.im<|.int<|Ag s (k+3) / 16%41-20,some<|.im<|.int<|Ag s (k+4)%41-20]) (rv:=.fr<|AI<|KO (DQ s k most)<|Dh (DQ s k most)<|Ag s<|k+3) (by refine(AO (Xa rfl rfl rfl U) (Xg rfl rfl rfl U)<|Hq rfl rfl (by simp[AI];lia)).trans ?_;unfold KO;rw[LY]) rfl (by unfold KO;simp;lia) λp _=>⟨.cl<|pv<|JH (Ag s (k+3) / 16%41-20) (Ag s (k+4)%41-20) p,rfl,rfl⟩
 rw[Ot];unfold AI;rw[ABO]
theorem R5:∀r:List Pt,PySem.PyData.eqvAll (CQ<|AI r) (CQ<|AI r)=true
 |[]=>by simp[AI,CQ,PySem.PyData.eqvAll]
 |p::r=>by
  have e:CQ (AI (p::r))=Al (pv p)::CQ (AI r):=by unfold AI;rw[AAx,CQ]
  simp only[e,PySem.PyData.eqvAll,(R5 r)];simp[pv,Al,CQ,PySem.PyData.eqv,PySem.PyData.eqvAll]
theorem Pj:∀r:List Pt,PySem.PyData.canLayAll0 (CQ<|AI r)=true/\PySem.PyData.depthAll (CQ<|AI r)<=1
 |[]=>by simp[AI,CQ,PySem.PyData.canLayAll0,PySem.PyData.depthAll]
 |p::r=>by
  have ih:=Pj r;have e:CQ (AI (p::r))=Al (pv p)::CQ (AI r):=by unfold AI;rw[AAx,CQ]
  simp only[e,PySem.PyData.canLayAll0,PySem.PyData.depthAll,ih.1];have h2:PySem.PyData.depth (Al<|pv p)<=1:=by simp[pv,Al,CQ,PySem.PyData.depth,PySem.PyData.depthAll]
  refine⟨by rfl,U⟩
theorem Y5{x y:RV}{b:Bool}(hx:PySem.SeqAt.shaped (Al x.any)=true)(hy:PySem.SeqAt.shaped (Al y.any)=true)(h:PySem.PyData.eqv (Al x.any) (Al y.any)=b):Bn x y=some (.cl<|.bl b):=by unfold Bn;rw[AAl ⟨hx,hy⟩,h]
theorem wk(r:List Pt):PySem.SeqAt.shaped (Al<|.lst<|AI r)=true/\PySem.PyData.eqv (Al<|.lst<|AI r) (Al<|.lst<|AI r)=true:=by
 have h:=Pj r;constructor
 .unfold PySem.SeqAt.shaped Al;simp only[PySem.PyData.canLay0,PySem.PyData.depth,h.1,Bool.true_and,decide_eq_true_eq];lia
 .exact R5 r
open AM (AG An BD BW AA M nb At Keeps Rm Rows Bk)
theorem VN:∀(l acc:List<|List Int),(Internal.ST.D9 acc l).length<=acc.length+l.length/\((Internal.ST.D9 acc l).length=acc.length+l.length↔(l.Nodup/\∀x∈l,x∉acc))
 |[],acc=>by delta Internal.ST.D9;simp
 |k::r,acc=>by
  unfold Internal.ST.D9;by_cases hk:k∈acc
  .rw[AAl hk];obtain⟨h1,h2⟩:=VN r acc;refine⟨by rw[AA6];lia,⟨λh=>by simp only[AA6]at h;lia,λh=>absurd hk (h.2 k AAu)⟩⟩
  .rw[AAj hk];obtain⟨h1,h2⟩:=VN r (k::acc);simp only[AA6]at h1 h2;refine⟨by rw[AA6];lia,?_⟩;rw[AA6,show acc.length+(r.length+1)=acc.length+1+r.length by lia,h2,ACK];constructor
   .rintro⟨a,b⟩;refine⟨⟨λhm=>b k hm AAu,a⟩,λx hx=>?_⟩;rcases AAy.mp hx with rfl|hx
    .exact hk
    .exact λhm=>b x hx<|AAs _ hm
   .rintro⟨⟨a,b⟩,c⟩;refine⟨b,λx hx hm=>?_⟩;rcases AAy.mp hm with rfl|hm
    .exact a hx
    .exact c x (AAs _ hx) hm
theorem oA(r:List Pt):(kl r).Nodup↔r.Nodup:=by
 delta kl List.Nodup
 rw[ACJ];constructor
 .exact λh=>h.imp λAp e=>Ap<|by rw[e]
 .exact λh=>h.imp λ{a b} Ap e=>Ap (by simp only[AD4,and_true]at e;exact ABS e.1 e.2)
theorem XJ(r:List Pt):dist r=r.length↔r.Nodup:=by have:=(VN (kl r) []).2;unfold dist;rw[show(kl r).length=r.length from AAi ..]at this;rw[show r.length=([]).length+r.length by simp,this,oA];simp
theorem N7(r:List Pt):IS r=true↔∀k:Nat,k<r.length->AG (AA r<|(k)-2) (AA r<|(k)-1) (AA r k)≠0:=by unfold IS;simp[ABK]
theorem Rb{r:List Pt}(h0:0<r.length)(h:IS r=true)(k:Int):AG (AA r<|k-2) (AA r<|k-1) (AA r k)≠0:=by
 have b:=AA3 k (b:=(r.length)) U;have:=(N7 r).mp h (k%(r.length)).toNat U;rw[AAz<|ABC k (b:=(r.length)) U]at this;have e:∀d:Int,AA r (k%(r.length)-d)=AA r (k-d):=λd=>by unfold AM.AA;rw[Int.emod_sub_emod]
 simp only[e,e,AM.FR]at this;exact this
theorem KN(r:List Pt):Cw r=true↔Rm r/\∀p∈r,Bd 100 p:=by
 unfold Cw;simp only[AAk,decide_eq_true_eq,ABw,ABK,UA,Vx];constructor
 .rintro⟨⟨h1,h2⟩,h3,h4,h5,h6,h7⟩;have hd:dist r=r.length:=U
  exact⟨⟨U,U,(XJ r).mp hd,Rb U h5,AM.RW U h6,h7⟩,h4⟩
 .rintro⟨R,h⟩;have h3:=R.l3;have DA:=R.M4;refine⟨⟨U,U⟩,by rw[(XJ r).mpr R.nd],h,(N7 r).mpr λk _=>R.Km k,AM.fG R.apart,R.Jf⟩
theorem nZ(z:Int):Keeps (G8 z) 1 where
 one:=.inl rfl
 sd:=λa b c=>by delta AG G8;grind
 at_:=λa b p=>by
  delta At G8
  constructor
  .rintro⟨q,s,h1,h2,h3,e1,e2⟩;exact⟨q,s,h1,h2,h3,by dsimp only at *;grind,by dsimp only at *;grind⟩
  .rintro⟨q,s,h1,h2,h3,e1,e2⟩;exact⟨q,s,h1,h2,h3,by dsimp only at *;grind,by dsimp only at *;grind⟩
 inj:=λa b h=>by unfold G8 at h;rw[ACr]at h;obtain⟨h1,h2⟩:=h;rw[h2]at h1;exact ABS U h2
theorem nY(x y:Int):Keeps (JH x y) 1 where
 one:=.inl rfl
 sd:=λa b c=>by delta AG JH;grind
 at_:=λa b p=>by
  delta At JH
  constructor
  .rintro⟨q,s,h1,h2,h3,e1,e2⟩;exact⟨q,s,h1,h2,h3,by dsimp only at *;grind,by dsimp only at *;grind⟩
  .rintro⟨q,s,h1,h2,h3,e1,e2⟩;exact⟨q,s,h1,h2,h3,by dsimp only at *;grind,by dsimp only at *;grind⟩
 inj:=λa b h=>by unfold JH at h;rw[ACr]at h;exact ABS U U
theorem nV:Keeps Jo (-1) where
 one:=.inr rfl
 sd:=λa b c=>by delta AG Jo;grind
 at_:=λa b p=>by
  delta At Jo
  constructor
  .rintro⟨q,s,h1,h2,h3,e1,e2⟩;exact⟨q,s,h1,h2,h3,AAb,by dsimp only at *;grind⟩
  .rintro⟨q,s,h1,h2,h3,e1,e2⟩;exact⟨q,s,h1,h2,h3,by dsimp only at *;grind,by dsimp only at *;grind⟩
 inj:=λa b h=>by unfold Jo at h;rw[ACr]at h;exact ABS U U
theorem nW:Keeps Jp (-1) where
 one:=.inr rfl
 sd:=λa b c=>by delta AG Jp;grind
 at_:=λa b p=>by
  delta At Jp
  constructor
  .rintro⟨q,s,h1,h2,h3,e1,e2⟩;exact⟨q,s,h1,h2,h3,by dsimp only at *;grind,AAb⟩
  .rintro⟨q,s,h1,h2,h3,e1,e2⟩;exact⟨q,s,h1,h2,h3,by dsimp only at *;grind,by dsimp only at *;grind⟩
 inj:=λa b h=>by unfold Jp at h;rw[ACr]at h;exact ABS U U
theorem ng:Keeps KW (-1) where
 one:=.inr rfl
 sd:=λa b c=>by delta AG KW;grind
 at_:=λa b p=>by
  delta At KW
  constructor
  .rintro⟨q,s,h1,h2,h3,e1,e2⟩;exact⟨q,s,h1,h2,h3,by dsimp only at *;grind,by dsimp only at *;grind⟩
  .rintro⟨q,s,h1,h2,h3,e1,e2⟩;exact⟨q,s,h1,h2,h3,by dsimp only at *;grind,by dsimp only at *;grind⟩
 inj:=λa b h=>by unfold KW at h;exact ABS U U
theorem Eg{r:List Pt}{i:Nat}(h:i<r.length):AA r (i)=r[i]:=by unfold AM.AA;rw[AAh U U];simp[List.getD,h]
theorem OG(r:List Pt):AA r (r.length)=AA r 0:=by have:=AM.Ef r 0;rw[ABt]at this;exact this
theorem bF{r:List Pt}{m:Nat}(R:Rows r.length m λi=>AA r<|i)(DA:r.length<=12)(hb:IS r=true):Rm r:=by
 have h3:=R.h3;refine⟨h3,DA,?_,Rb U hb,AM.RW U λk j h0 h1 h2 hn=>?_,?_⟩
 .refine ABV.mpr λi j hi hj Bm=>?_;have:=R.inj Bm hj;rw[Eg hi,Eg hj]at this;exact this
 .have hf:=AM.Xo U U hn;unfold AM.B0 at hf;rw[AAh U U]at hf;have:=R.apart (i:=k.toNat) (j:=j.toNat) AAc U U AAc;rw[show((k.toNat))=k by lia,show((k.toNat+1:Nat))=k+1 by lia,show((j.toNat))=j by lia,show((j.toNat+1:Nat))=j+1 by lia]at this;exact AM.Ze this
 .have:=R.Jf;simp only[AM.MD];rw[AM.Bz]at this
  .exact this
  .intro i _;unfold AM.GX;rw[show(((i:Int).toNat):Int)=i by lia,show((((i:Int)+1).toNat):Int)=i+1 by lia]
structure L7(mode:Int)(i:Nat)(b:Int×List Pt×List Pt):Prop where
 lo:0<=b.1
 hi:b.1<=4*i
 m3:mode=3->b.1=i
 len:b.2.1.length+b.2.2.length=i
 lp:b.2.1.Pairwise λp q=>p.1<q.1
 hp:b.2.2.Pairwise λp q=>p.1<q.1
 bl:∀p∈b.2.1,1<=p.1/\p.1<=b.1/\-30<=p.2/\p.2<=-1
 bh:∀p∈b.2.2,1<=p.1/\p.1<=b.1/\1<=p.2/\p.2<=30
theorem Zl{a b:Int}(ha:1<=a)(hb:1<=b)(h:a+b<=11):1<=a*b/\a*b<=30:=by
 have h1:=AAq (U:0<a) (U:0<b);have h2:0<=(a-b)*(a-b):=by
  rcases AB2 a b with h|h
  .exact ABn U U
  .exact AAo U U
 have h3:=Int.mul_le_mul h h U U;lia
theorem rh{s:List Int}{k count mode:Int}{i:Nat}{b:Int×List Pt×List Pt}(h1:3<=count)(h2:count<=12)(hi:(i)<count-2)(h:L7 mode i b):L7 mode (i+1)<|FC s k count mode b i:=by
 obtain⟨x0,low,Bv⟩:=b;obtain⟨lo,hh,m3,len,lp,hp,bl,bh⟩:=h;dsimp only at lo hh m3 len lp hp bl bh;unfold FC;dsimp only;generalize ec:Ag s (k+4+(1+(i)))=c;have hx:∀x,(if mode=3 then 1+(i:Int)else x0+1+c / 2%4)=x->x0<x/\x<=4*((i)+1)/\(mode=3->x=i+1):=λx e=>by
  subst e;by_cases hm:mode=3
  .rw[AAl hm];exact⟨U,U,λ_=>U⟩
  .rw[AAj hm];exact⟨U,U,λz=>absurd z hm⟩
 have hy:∀y,(if mode=3 then(1+(i))*(count-1-(1+(i)))else 1+c / 8%9)=y->1<=y/\y<=30:=λy e=>by
  subst e;by_cases hm:mode=3
  .rw[AAl hm];exact Zl U U U
  .rw[AAj hm];lia
 generalize ex:(if mode=3 then 1+(i:Int)else x0+1+c / 2%4)=x;generalize ey:(if mode=3 then(1+(i))*(count-1-(1+(i)))else 1+c / 8%9)=y;obtain⟨hx1,TR,Yp⟩:=hx x ex;have TV:=hy y ey;split
 .refine⟨by dsimp only;lia,by push_cast;lia,λz=>by exact Yp z,by simp;lia,?_,hp,λp hp=>?_,λp hp=>?_⟩
  .refine ABx.mpr ⟨lp,AAd,λa ha b hb=>?_⟩;rw[AA9.mp hb];have:=bl a ha;dsimp only;lia
  .rcases ABM.mp hp with z|z
   .have:=bl p z;dsimp only;lia
   .rw[AA9.mp z];dsimp only;lia
  .have:=bh p hp;dsimp only;lia
 .refine⟨by dsimp only;lia,by push_cast;lia,λz=>by exact Yp z,by simp;lia,lp,?_,λp hp=>?_,λp hp=>?_⟩
  .refine ABx.mpr ⟨hp,AAd,λa ha b hb=>?_⟩;rw[AA9.mp hb];have:=bh a ha;dsimp only;lia
  .have:=bl p hp;dsimp only;lia
  .rcases ABM.mp hp with z|z
   .have:=bh p z;dsimp only;lia
   .rw[AA9.mp z];dsimp only;lia
theorem aS{s:List Int}{k count mode:Int}(h1:3<=count)(h2:count<=12):∀n:Nat,(n)<=count-2->L7 mode n ((List.range n).foldl (FC s k count mode) (0,[],[]))
 |0,_=>⟨AAd,AAd,λ_=>rfl,rfl,.nil,.nil,(λp hp=>by cases hp),(λp hp=>by cases hp)⟩
 |n+1,hn=>by rw[ACL,ADr];exact rh h1 h2 AAg<|aS h1 h2 n U
theorem wI{mode:Int}{i:Nat}{b:Int×List Pt×List Pt}(h:L7 mode i b)(hi:1<=i):Rows (CW b).length b.2.1.length λi=>AA (CW b)<|i:=by
 obtain⟨x0,low,Bv⟩:=b;obtain⟨lo,hh,m3,len,lp,hp,bl,bh⟩:=h;dsimp only at lo hh m3 len lp hp bl bh ⊢;have hl:(CW (x0,low,Bv)).length=low.length+Bv.length+2:=QM _;have er:CW (x0,low,Bv)=((0,0)::(low ++ [(x0+1,0)]))++Bv.reverse:=by simp[CW]
 have jW:CW (x0,low,Bv) ++ [(0,0)]=((0,0)::low)++((x0+1,0)::(Bv.reverse ++ [(0,0)])):=by simp[CW]
 have pb:((0,0)::(low ++ [(x0+1,0)]):List Pt).Pairwise λp q=>p.1<q.1:=by
  refine ADK.mpr ⟨λp hp=>?_,ABx.mpr ⟨lp,AAd,λa ha c hc=>?_⟩⟩
  .rcases ABM.mp hp with z|z
   .have:=bl p z;dsimp only;lia
   .rw[AA9.mp z];dsimp only;lia
  .rw[AA9.mp hc];have:=bl a ha;dsimp only;lia
 have pt:((x0+1,0)::(Bv.reverse ++ [(0,0)]):List Pt).Pairwise λp q=>q.1<p.1:=by
  refine ADK.mpr ⟨λp hp=>?_,ABx.mpr ⟨List.pairwise_reverse.mpr hp,AAd,λa ha c hc=>?_⟩⟩
  .rcases ABM.mp hp with z|z
   .have:=bh p<|ACk.mp z;dsimp only;lia
   .rw[AA9.mp z];dsimp only;lia
  .rw[AA9.mp hc];have:=bh a<|ACk.mp ha;dsimp only;lia
 have gb:∀j:Nat,(hj:j<=low.length+1)->AA (CW (x0,low,Bv)) (j)=((0,0)::(low ++ [(x0+1,0)]):List Pt)[j]'(by simp;lia):=λj hj=>by rw[Eg U];simp only[er];rw[ACl]
 have gt:∀j:Nat,(h1:low.length+1<=j)->(hj:j<=low.length+Bv.length+2)->AA (CW (x0,low,Bv)) (j)=((x0+1,0)::(Bv.reverse ++ [(0,0)]):List Pt)[j-(low.length+1)]'(by simp;lia):=λj h1 hj=>by
  have e:AA (CW (x0,low,Bv)) (j)=(CW (x0,low,Bv) ++ [(0,0)])[j]'(by simp[hl];lia):=by
   by_cases FT:j<(CW (x0,low,Bv)).length
   .simp only[Eg FT,ACl FT]
   .have CM:j=(CW (x0,low,Bv)).length:=U
    subst CM;rw[OG];have:=by have:=gb 0 U;simpa using this
    simp only[this];simp
  rw[e];simp only[jW];rw[List.getElem_append_right (by simp;assumption)];simp
 refine⟨U,U,OG _,λj hj=>?_,λj h1 hj=>?_,?_,?_,λj h1 hj=>?_,λj h1 hj=>?_⟩
 .rw[gb j U,gb (j+1) U];exact ABV.mp pb j (j+1) (by simp;lia) (by simp;lia) U
 .rw[gt j h1 U,gt (j+1) U U];exact ABV.mp pt (j-(low.length+1)) (j+1-(low.length+1)) (by simp;lia) (by simp;lia) U
 .rfl
 .rw[gb (low.length+1) U];simp
 .rw[gb j U];obtain⟨j',rfl⟩:∃j',j=j'+1:=⟨j-1,U⟩;rw[ACv,ACl U];have:=bl _<|ACg (n:=j') U;lia
 .rw[gt j U U];obtain⟨j',CM⟩:∃j',j-(low.length+1)=j'+1:=⟨j-(low.length+1)-1,U⟩;simp only[CM];rw[ACv,ACl (by simp;lia)];have:=bh _ (ACk.mp<|ACg (n:=j') (by simp;lia));lia
theorem IV{c:Int}{i:Nat}(h:(i)<c):AA (Ee c) (i)=((i:Int),0-(i)*(c-1-i)):=by rw[Eg (by simp[Ee];assumption)];simp[Ee]
theorem wt(u v w d:Int):AG (u,0-u*(d-u)) (v,0-v*(d-v)) (w,0-w*(d-w))=(v-u)*(w-u)*(w-v):=by unfold AG;grind
theorem f9{c:Int}(h:0<=c):((Ee c).length)=c:=by simp[Ee];lia
theorem gA{c:Int}(h1:3<=c)(h2:c<=12):Rm<|Ee c:=by
 have hl:=f9 (c:=c) U;refine bF (m:=c.toNat-2) ⟨U,U,OG _,λi hi=>?_,λi hi Ir=>?_,?_,?_,λi hi Ir=>?_,λi hi Ir=>U⟩ U<|(N7 _).mpr λk hk=>?_
 .rw[IV U,IV U];dsimp only;lia
 .have CT:i=c.toNat-1:=U
  subst CT;have e1:AA (Ee c) ((c.toNat-1+1:Nat))=AA (Ee c) 0:=by rw[<-OG];congr 1;lia
  have e2:=IV (c:=c) (i:=0) U;rw[e1,IV U];rw[show((0:Nat):Int)=0 from rfl]at e2;rw[e2];dsimp only;lia
 .rw[(IV (c:=c) (i:=0) U)];simp
 .rw[IV U];dsimp only;rw[show c-1-((c.toNat-2+1:Nat))=0 by lia];lia
 .rw[IV U];dsimp only;have:=AAq (U:(0:Int)<i) (U:0<c-1-(i));omega
 .have e:∀j:Int,0<=j->j<c->AA (Ee c) j=(j,0-j*(c-1-j)):=λj h0 h1=>by have:=IV (c:=c) (i:=j.toNat) U;rw[AAz h0]at this;exact this
  have e':∀j:Int,-c<=j->j<0->AA (Ee c) j=(j+c,0-(j+c)*(c-1-(j+c))):=λj h0 h1=>by rw[<-AM.Ef,hl];exact e (j+c) U U
  have ne3:∀u v w:Int,u≠v->u≠w->v≠w->AG (u,0-u*(c-1-u)) (v,0-v*(c-1-v)) (w,0-w*(c-1-w))≠0:=λu v w a b d=>by rw[wt];exact ADc (ADc U U) U
  by_cases J0:2<=k
  .rw[e _ U U,e _ U U,e _ U U];exact ne3 _ _ _ U U U
  .by_cases lz:k=1
   .subst lz;rw[e' _ U U,e _ U U,e _ U U];exact ne3 _ _ _ U U U
   .have Mh:k=0:=U
    subst Mh;rw[e' _ U U,e' _ U U,e _ U U];exact ne3 _ _ _ U U U
def HS(p:Pt):Prop:=-41<=p.1/\p.1<=41/\-30<=p.2/\p.2<=30
theorem rg(s:List Int)(k:Int){count:Int}(h1:3<=count)(h2:count<=12):Rm (GB s k count)/\∀p∈GB s k count,HS p:=by
 have st:L7 (Ag s (k+1)%4) (count-2).toNat<|Cm s k count:=aS h1 h2 _ U;unfold GB;cases hf:Fq (CW<|Cm s k count)with
 |true=>
  refine⟨gA h1 h2,λp hp=>?_⟩;obtain⟨j,hj,rfl⟩:=ABD.mp hp;have CM:=AAr.mp hj;unfold HS;dsimp only;by_cases h0:j=0
  .subst h0;simp
  .by_cases hc:(j)=count-1
   .rw[hc,show count-1-(count-1)=0 by lia];lia
   .have:=Zl (a:=(j)) (b:=count-1-j) U U U;lia
 |false=>
  rw[AAj AAd];have hl:=QM<|Cm s k count;have Bg:=st.len;refine⟨bF (wI st U) U (by rw[Xt,hf];rfl),λp hp=>?_⟩;unfold CW at hp;simp only[ABM,AA9,ACk]at hp;have:=st.lo;have:=st.hi;unfold HS;rcases hp with((rfl|hp)|rfl)|hp
  .simp
  .have:=st.bl p hp;lia
  .lia
  .have:=st.bh p hp;lia
theorem zP{a b c d:Pt}(h:a.1<c.1/\a.1<d.1/\b.1<c.1/\b.1<d.1\/a.2<c.2/\a.2<d.2/\b.2<c.2/\b.2<d.2):¬ Bk a b c d:=by
 rcases h with h|h
 .exact AM.Us (max a.1 b.1) (max a.1 b.1+1) U U U U U
 .exact AM.wc (max a.2 b.2) (max a.2 b.2+1) U U U U U
noncomputable def Dw:List Pt:=[(0,0),(5,0),(5,5),(1,5),(1,2),(3,2),(3,3),(2,3),(2,4),(4,4),(4,1),(0,1)]
noncomputable abbrev VT(a b c d:Pt):Bool:=decide <| a.1.toNat<c.1.toNat/\a.1.toNat<d.1.toNat/\b.1.toNat<c.1.toNat/\b.1.toNat<d.1.toNat\/a.2.toNat<c.2.toNat/\a.2.toNat<d.2.toNat/\b.2.toNat<c.2.toNat/\b.2.toNat<d.2.toNat
abbrev zI(a b c:Pt):Prop:=a.1.toNat=b.1.toNat/\b.2.toNat=c.2.toNat/\a.2.toNat≠b.2.toNat/\b.1.toNat≠c.1.toNat\/a.2.toNat=b.2.toNat/\b.1.toNat=c.1.toNat/\a.1.toNat≠b.1.toNat/\b.2.toNat≠c.2.toNat
theorem HD{X:Nat->Int}(h:∀i,X i<X (i+1)){i j:Nat}(Bm:i<j):X i<X j:=by
 induction Bm with
 |refl=>exact h _
 |step _ ih=>exact AEY ih<|h _
theorem Lk{X:Nat->Int}(h:∀i,X i<X (i+1)){i j:Nat}(Bm:i≠j):X i-X j≠0:=by
 rcases Nat.lt_or_gt_of_ne Bm with z|z
 .have:=HD h z;lia
 .have:=HD h z;lia
theorem zK{X Y:Nat->Int}(hX:∀i,X i<X (i+1))(hY:∀i,Y i<Y (i+1)):Rm<|Dw.map λp=>(X p.1.toNat,Y p.2.toNat):=by
 have hc:∀k,AA (Dw.map λp=>(X p.1.toNat,Y p.2.toNat)) k=(X (AA Dw k).1.toNat,Y (AA Dw k).2.toNat):=AM.DL AAe;refine⟨by show 3<=12;decide,by show 12<=12;decide,?_,Rb (by show 0<12;decide)<|(N7 _).mpr λk hk=>?_,AM.RW (by show 2<=12;decide) λk m h0 h1 h2 hn=>?_,?_⟩
 .refine List.Pairwise.map _ (λa b BA e=>?_) (show Dw.Pairwise (λa b=>a.1.toNat≠b.1.toNat\/a.2.toNat≠b.2.toNat)by decide);injection e with e1 e2
  rcases BA with z|z
  .exact Lk hX z U
  .exact Lk hY z U
 .simp only[hc,hc,hc];unfold AG;rcases(AAf:∀k:Nat,k<12->zI (AA Dw<|(k)-2) (AA Dw<|(k)-1) (AA Dw k)) k hk with⟨a,b,c,d⟩|⟨a,b,c,d⟩
  .have:=ADc (Lk hY c)<|Lk hX d;dsimp only;rw[a,<-b];grind
  .have:=ADc (Lk hX c)<|Lk hY d;dsimp only;rw[a,<-b];grind
 .obtain⟨i,rfl⟩:=AD2 h0;obtain⟨j,rfl⟩:=AD2 (U:0<=m);have X9:(j:Int)<12:=h2;have:=(AAf:∀j:Nat,j<12->∀i:Nat,i<j->nb 12 ((j)-i)=false->VT (AA Dw i) (AA Dw<|(i)+1) (AA Dw j) (AA Dw<|(j)+1)\/VT (AA Dw j) (AA Dw<|(j)+1) (AA Dw i) (AA Dw<|(i)+1)) j U i U hn;unfold M;simp only[hc,hc,hc,hc];have w:∀{a b c d:Pt},VT a b c d->¬ Bk (X a.1.toNat,Y a.2.toNat) (X b.1.toNat,Y b.2.toNat) (X c.1.toNat,Y c.2.toNat) (X d.1.toNat,Y d.2.toNat):=λh=>zP<|(of_decide_eq_true h).imp (λh=>⟨HD hX h.1,HD hX h.2.1,HD hX h.2.2.1,HD hX h.2.2.2⟩) λh=>⟨HD hY h.1,HD hY h.2.1,HD hY h.2.2.1,HD hY h.2.2.2⟩;exact AM.Ze<|this.elim w λh z=>w h z.symm
 .unfold AM.DS;have a:=hX 0;have b:=hX 1;have c:=hX 2;have d:=hX 3;have e:=hX 4
  have f:=hY 0;have g:=hY 1;have h:=hY 2;have i:=hY 3;have j:=hY 4
  have:=AAq (U:0<X 5-X 4) (U:0<Y 5-Y 0);have:=AAq (U:0<X 4-X 0) (U:0<Y 1-Y 0);have:=AAq (U:0<X 4-X 2) (U:0<Y 5-Y 4);have:=AAq (U:0<X 3-X 2) (U:0<Y 3-Y 2);have:=AAq (U:0<X 2-X 1) (U:0<Y 5-Y 2);simp[AM.AV,AA,Dw,AM.B9]
  grind
theorem dB(s:List Int)(k:Int)(i:Nat):wx s k i<wx s k (i+1)/\wx s k (i+1)<=wx s k i+4:=by simp only[wx];lia
theorem dD(s:List Int)(k:Int)(i:Nat):wy s k i<wy s k (i+1)/\wy s k (i+1)<=wy s k i+4:=by simp only[wy];lia
theorem dA(s:List Int)(k:Int):∀i:Nat,0<=wx s k i/\wx s k i<=4*i
 |0=>by simp[wx]
 |i+1=>by have:=dA s k i;have:=dB s k i;lia
theorem dC(s:List Int)(k:Int):∀i:Nat,0<=wy s k i/\wy s k i<=4*i
 |0=>by simp[wy]
 |i+1=>by have:=dC s k i;have:=dD s k i;lia
theorem zJ(s:List Int)(k:Int):Rm (Lj s k)/\∀p∈Lj s k,HS p:=by
 refine⟨zK (λi=>(dB s k i).1) λi=>(dD s k i).1,λp hp=>?_⟩;have key:∀i j:Nat,i<=5->j<=5->HS (wx s k i,wy s k j):=λi j hi hj=>by have h1:=dA s k i;have h2:=dC s k j;unfold HS;dsimp only;lia
 unfold Lj at hp;simp only[AAy,ACj,AD0]at hp;rcases hp with rfl|rfl|rfl|rfl|rfl|rfl|rfl|rfl|rfl|rfl|rfl|rfl<;>exact key _ _ U U
theorem fV(s:List Int)(k:Int){most:Int}(h1:3<=most)(h2:most<=12):Rm (Dz s k most)/\∀p∈Dz s k most,HS p:=by
 unfold Dz;split
 .exact zJ s k
 .have a:=ABC (Ag s k) (b:=most-2) U;have b:=AA3 (Ag s k) (b:=most-2) U;exact rg s k U U
theorem w6{z:Int}(hz:z = -1\/z=0\/z=1){p:Pt}(h:HS p):Bd 80<|G8 z p:=by
 unfold HS at h
 delta Bd G8
 dsimp only;rcases hz with rfl|rfl|rfl<;>omega
theorem Ys{i:Int}(h:DZ i<80) : -80<=i/\i<=80:=by unfold DZ at h;split at h<;>lia
theorem sZ{s:List Int}{k:Int}{r:List Pt}{d:Nat}(h:Rm r/\∀p∈r,Bd 80 p):Rm (LX s k r d)/\∀p∈LX s k r d,Bd 80 p:=by
 unfold LX;dsimp only;generalize Ag s (k+15+(d))=c;split
 .rename_i hc;simp only[AAk,decide_eq_true_eq]at hc;obtain⟨h1,h2⟩:=hc;rw[kb]at h2;refine⟨((KN _).mp h2).1,λp hp=>?_⟩;unfold Gy at hp;simp only[ABM,AA9]at hp;rcases hp with(hp|rfl)|hp
  .exact h.2 p<|AC5 hp
  .have a:=Ys (i:=(Ep r c).1) U;have b:=Ys (i:=(Ep r c).2) U;exact⟨a.1,a.2,b.1,b.2⟩
  .exact h.2 p<|ADb hp
 .exact h
theorem sY{s:List Int}{k:Int}{r:List Pt}(h:Rm r/\∀p∈r,Bd 80 p):Rm (LW s k r)/\∀p∈LW s k r,Bd 80 p:=by
 unfold LW;generalize List.range (Ag s (k+1) / 4%5).toNat=l
 induction l generalizing r with
 |nil=>exact h
 |cons d l ih=>exact ih<|sZ h
theorem sf(s:List Int)(k:Int){most:Int}(h1:3<=most)(h2:most<=12):Rm (Er s k most)/\∀p∈Er s k most,Bd 80 p:=by have hb:=fV s k h1 h2;refine sY ⟨hb.1.map<|nZ _,λp hp=>?_⟩;obtain⟨q,hq,rfl⟩:=ABD.mp hp;exact w6 (by unfold Di;lia)<|hb.2 q hq
theorem Uj{T:Pt->Pt}(k:Keeps T (-1))(hT:∀p,Bd 80 p->Bd 80 (T p)){r:List Pt}(h:Rm r/\∀p∈r,Bd 80 p):Rm (r.map T).reverse/\∀p∈(r.map T).reverse,Bd 80 p:=
 ⟨h.1.mapRev k,λp hp=>by obtain⟨q,hq,rfl⟩:=ABD.mp<|ACk.mp hp;exact hT q<|h.2 q hq⟩
theorem yk(s:List Int)(k:Int){most:Int}(h1:3<=most)(h2:most<=12):Rm (DQ s k most)/\∀p∈DQ s k most,Bd 80 p:=by
 have h:=sf s k h1 h2;have t1:Rm (HB s k<|Er s k most)/\∀p∈HB s k (Er s k most),Bd 80 p:=by
  unfold HB;split
  .exact Uj nV (λp hp=>by delta Bd Jo at *;dsimp only at *;lia) h
  .exact h
 have t2:Rm (KZ s k<|HB s k<|Er s k most)/\∀p∈KZ s k (HB s k<|Er s k most),Bd 80 p:=by
  unfold KZ;split
  .exact Uj nW (λp hp=>by delta Bd Jp at *;dsimp only at *;lia) t1
  .exact t1
 delta DQ Qb;split
 .exact Uj ng (λp hp=>by delta Bd KW at *;dsimp only at *;lia) t2
 .exact t2
theorem i8(s:List Int)(k:Int){most:Int}(h1:3<=most)(h2:most<=12):Rm (drawn s k most)/\∀p∈drawn s k most,Bd 100 p:=by
 have h:=yk s k h1 h2;have h3:=h.1.l3;have hp:=QA (r:=DQ s k most) U<|Ag s<|k+3;refine⟨(h.1.KO U).1.map<|nY _ _,λp hp=>?_⟩;obtain⟨q,hq,rfl⟩:=ABD.mp hp;have K5:q∈DQ s k most:=by
  rcases ABM.mp hq with z|z
  .exact ADb z
  .exact AC5 z
 have:=h.2 q K5;unfold Bd JH at *
 lia
theorem i9(s:List Int)(k:Int){most:Int}(h1:3<=most)(h2:most<=12):Cw (drawn s k most)=true:=(KN _).mpr<|i8 s k h1 h2
open AM (AG An BD BW AA M nb Rm)
theorem FI{g h:YF}{ρ ρ':AX}(e:g ρ=some (.o<|.nx ρ')):FH g h ρ=h ρ':=by unfold FH;rw[e]
theorem dP{g h:YF}{ρ:AX}{nm:PySem.Str}(e:g ρ=some (.ex nm)):FH g h ρ=some (.ex nm):=by unfold FH;rw[e]
theorem dN{t:BF}{g h:YF}{ρ:AX}(e:t ρ=some true):HF t g h ρ=g ρ:=by unfold HF;rw[e]
theorem VW{t:BF}{g h:YF}{ρ:AX}(e:t ρ=some false):HF t g h ρ=h ρ:=by unfold HF;rw[e]
theorem dM{F:List PV->Option RV}{XF:List PV->Option PySem.Str}{ga:AF}{ρ:AX}{rs:List RV}{ps:List PV}{r:RV}(ea:ga ρ=some rs)(ec:CZ rs=some ps)(h:F ps=some r):HE F XF ga ρ=some (.o<|.nx ρ):=by unfold HE;rw[ea];dsimp only;rw[ec];dsimp only;rw[h]
theorem We{N n:Nat}{g:YF}{ps:List PV}{nm:PySem.Str}(hl:ps.length=n)(e:g (A5 N ps)=some (.ex nm)):E2 N n g ps=none/\Hb N n g ps=some nm:=by
 delta E2 Hb
 rw[AAl hl,AAl hl,e];exact⟨rfl,rfl⟩
theorem Wf{N n:Nat}{g:YF}{ps:List PV}{ρ:AX}(hl:ps.length=n)(e:g (A5 N ps)=some (.o<|.nx ρ)):E2 N n g ps=some (.cl .Au):=by
 unfold E2;rw[AAl hl,e]
 rfl
theorem Rv{N n:Nat}{g:YF}{ps:List PV}{r:RV}(hl:ps.length=n)(e:g (A5 N ps)=some (.o<|.rt r)):E2 N n g ps=some r:=by
 unfold E2;rw[AAl hl,e]
 rfl
theorem zS{g:SF}{ρ:AX}{r:RV}(e:g ρ=some (.rt r)):yL g ρ=some (.o<|.rt r):=by unfold yL;rw[e];rfl
theorem dc{r:List Pt}(h:Cw r=true):Nm [.lst<|AI r]=some (.cl .Au):=by refine Wf (ρ:=A5 1 [.lst<|AI r]) rfl ?_;have e:=D3<|Aw<|A3 (ρ:=A5 1 [.lst<|AI r]) (AL (f:=AB 0) rfl<|AY _) rfl<|di;rw[h]at e;exact(VW e).trans rfl
theorem Gz{r:List Pt}(h:Cw r=true):3<=r.length/\r.length<=12/\∀p∈r,Bd 1000 p:=by obtain⟨R,hb⟩:=(KN r).mp h;exact⟨R.l3,R.M4,λp hp=>by have:=hb p hp;unfold Bd at *;lia⟩
theorem Xc{t:BF}{f g:EF}{ρ:AX}(e:t ρ=some true):Hh t f g ρ=f ρ:=by unfold Hh;rw[e]
theorem Xb{t:BF}{f g:EF}{ρ:AX}(e:t ρ=some false):Hh t f g ρ=g ρ:=by unfold Hh;rw[e]
theorem XX{fa fb fc fd:EF}{ρ:AX}{i j k l:Int}(ha:fa ρ=some (.cl<|.int i))(hb:fb ρ=some (.cl<|.int j))(hc:fc ρ=some (.cl<|.int k))(hd:fd ρ=some (.cl<|.int l)):EM B8 Bw Bw fa fb fc fd ρ=some (.cl<|.bl<|decide (i<=j)&&(decide (j<k)&&decide (k<l))):=by
 unfold EM;rw[ha,hb];dsimp only;simp only[Hr];cases h:decide (i<=j)
 .rfl
 .dsimp only;rw[hc];dsimp only;simp only[Ht];cases h2:decide (j<k)
  .rfl
  .dsimp only;rw[hd];rfl
theorem dy{a b c:Pt}(ha:Bd 1000 a)(hb:Bd 1000 b):Nv [pw a b,pv c]=some (.cl<|.bl<|AM.pr a b c):=by
 refine Bh rfl ?_;unfold AM.pr;show AN _ _ [some<|.im<|pw a b,some<|.im<|pv c,some<|.im<|.bl<|decide (a.2>c.2),some<|.im<|.bl<|decide (b.2>c.2),none]=_;generalize decide (a.2>c.2)=x;generalize decide (b.2>c.2)=y;have et:AQ (f2 Bn (AB 2)<|AB 3) [some<|.im<|pw a b,some<|.im<|pv c,some<|.im<|.bl x,some<|.im<|.bl y,none]=some (x==y):=Aw<|AO rfl rfl<|nQ _ _;have es:AZ 4 (AS Ex<|AD (f2 AJ (AB 0)<|fC<|.int 0)<|AD (f2 AJ (AB 0)<|fC<|.int 1)<|AD (AB 1) AH) [some<|.im<|pw a b,some<|.im<|pv c,some<|.im<|.bl x,some<|.im<|.bl y,none]=some (.nx [some<|.im<|pw a b,some<|.im<|pv c,some<|.im<|.bl x,some<|.im<|.bl y,some<|.im<|.int<|AG a b c]):=
  A8 (A3 (AL (AO rfl rfl<|J8 a b)<|AL (AO rfl rfl<|J9 a b)<|AL rfl<|AY _) rfl<|Kc ha hb) rfl
 cases x<;>cases y
 .exact C5<|(Bj et).trans rfl
 .rw[sq<|(BR et).trans rfl,sq es];exact Cb<|(Xc rfl).trans<|AO rfl rfl<|Gs _ _
 .rw[sq<|(BR et).trans rfl,sq es];exact Cb<|(Xb rfl).trans<|AO rfl rfl<|Ht _ _
 .exact C5<|(Bj et).trans rfl
theorem R7{f:EF}{ρ:AX}{bs:List Bool}(e:f ρ=some (.fr<|bs.map PV.bl)):fB JC (AD f AH) ρ=some (.cl<|.bl<|bs.any id):=by refine Bp (AL e<|AY _) ?_;simp only[JC,RV.list,ABE,N8,ABi]
def place(ws:List<|Pt×Pt)(p:Pt):PySem.Str:=if(ws.any λw=>An w.1 w.2 p)=true then "on" else if((((ws.filter λw=>AM.pr w.1 w.2 p).length:Int)%2==1)=true)then "in" else "out"
theorem dv{ws:List (Pt×Pt)}{p:Pt}(hl:ws.length<=1000)(hb:∀w∈ws,Bd 1000 w.1/\Bd 1000 w.2):Q8 [.lst<|BS ws,pv p]=some (.cl<|.str<|place ws p):=by
 refine Bh rfl ?_;unfold W9;have E5:(BS ws).length<=1000:=by simpa[BS]using hl
 have c1:collect (Ae 0) Bl (AS GQ<|AD (AB 1)<|AD (AB 0) AH) (B2 1 [1]<|A5 3 [.lst<|BS ws,pv p]) (BS ws)=some ((ws.map λw=>An w.1 w.2 p).map PV.bl):=by rw[ABO];exact GW λw hw=>⟨_,.cl<|.bl<|An w.1 w.2 p,rfl,A3 (AL rfl<|AL rfl<|AY _) rfl<|Lw (hb w hw).1 (hb w hw).2,rfl⟩
 have c2:collect (Ae 0) (AQ<|AS Nv<|AD (AB 0)<|AD (AB 1) AH) (AB 0) (B2 1 [1]<|A5 3 [.lst<|BS ws,pv p]) (BS ws)=some (BS<|ws.filter λw=>AM.pr w.1 w.2 p):=by exact FP λw hw=>⟨_,rfl,Aw<|A3 (AL rfl<|AL rfl<|AY _) rfl<|dy (hb w hw).1 (hb w hw).2,λ_=>⟨.cl<|pw w.1 w.2,rfl,rfl⟩⟩
 have e1:=Aw<|R7<|DM (its:=BG false<|AB 0) (Eh rfl rfl) E5 c1;rw[show(ws.map λw=>An w.1 w.2 p).any id=ws.any λw=>An w.1 w.2 p by rw[ACW];rfl]at e1;unfold place;cases h:ws.any λw=>An w.1 w.2 p with
 |true=>
  rw[h]at e1;exact C5<|(Bj e1).trans rfl
 |false=>
  rw[h]at e1;rw[sq<|(BR e1).trans rfl,sq<|A8 (DM (its:=BG false<|AB 0) (Eh rfl rfl) E5 c2) rfl];have A7:(BS<|ws.filter λw=>AM.pr w.1 w.2 p).length=(ws.filter λw=>AM.pr w.1 w.2 p).length:=by simp[BS]
  generalize (ws.filter λw=>AM.pr w.1 w.2 p)=vs at *
  have el:fB Av (AD (AB 2) AH) ((A5 3 [.lst<|BS ws,pv p]).set 2<|some<|.im<|.lst<|BS vs)=some (.cl<|.int<|vs.length):=by rw[<-A7];rfl
  have e3:=Aw<|AO (AO el (fb:=fC<|.int 2) rfl<|ET U) (fb:=fC<|.int 1) rfl<|PU _ _;refine Cb ?_;cases h3:((vs.length:Int)%2==1)with
  |true=>rw[h3]at e3;exact(Xc e3).trans rfl
  |false=>rw[h3]at e3;exact(Xb e3).trans rfl
theorem Tn{a b:PySem.Str}{c:Bool}(ha:PySem.SeqAt.shaped (Al<|.str a)=true)(hb:PySem.SeqAt.shaped (Al<|.str b)=true)(h:(a==b)=c):Bn (.cl<|.str a) (.cl<|.str b)=some (.cl<|.bl c):=
 Y5 ha hb (by rw[<-h];show PySem.PyData.eqv (Al<|.str a) (Al<|.str b)=_;delta Al;simp[PySem.PyData.eqv])
theorem rZ(ws:List<|Pt×Pt)(p:Pt):Bn (.cl<|.str<|place ws p) (.cl<|.str "in")=some (.cl<|.bl (!(ws.any λw=>An w.1 w.2 p)&&(((ws.filter λw=>AM.pr w.1 w.2 p).length:Int)%2==1))):=by
 have s1:PySem.SeqAt.shaped (Al<|.str "on")=true:=AAf
 have s2:PySem.SeqAt.shaped (Al<|.str "in")=true:=AAf
 have s3:PySem.SeqAt.shaped (Al<|.str "out")=true:=AAf
 unfold place;cases (ws.any λw=>An w.1 w.2 p)
 .cases (((ws.filter λw=>AM.pr w.1 w.2 p).length:Int)%2==1)
  .exact Tn s3 s2 AAf
  .exact Tn s2 s2 AAf
 .refine Tn (a:="on") s1 s2 ?_;show(("on")==("in"))=false
  decide +kernel
theorem VQ{r:List Pt}(hb:∀p∈r,Bd 1000 p):∀w∈BX r,Bd 1000 w.1/\Bd 1000 w.2:=λw hw=>by obtain⟨k,_,rfl⟩:=ABD.mp hw;exact⟨DK AAc hb _,DK AAc hb _⟩
theorem cz(r:List Pt):(BX r).length=r.length:=by simp[BX]
theorem iQ{r:List Pt}(hb:∀p∈r,Bd 100 p):∀p∈r.map AM.dbl,Bd 1000 p:=λp hp=>by
 obtain⟨q,hq,rfl⟩:=ABD.mp hp;have:=hb q hq;unfold Bd AM.dbl at *
 dsimp only;omega
theorem nC(w:List Pt)(p:Pt):(!((BX w).any λz=>An z.1 z.2 p)&&((((BX w).filter λz=>AM.pr z.1 z.2 p).length:Int)%2==1))=AM.E7 w p:=by
 delta AM.E7 BX
 simp only[ACW,List.filter_map,AAi]
 rfl
theorem dt{r:List Pt}(h1:0<r.length)(hl:r.length<=1000)(hb:∀p∈r,Bd 100 p)(A B:Pt):Q6 [.lst<|AI r,pw A B]=some (.cl<|.bl<|AM.E7 (r.map AM.dbl) (A.1+B.1,A.2+B.2)):=by
 refine Bh rfl ?_;unfold W6;have c1:collect (Ae 0) Bl (Ao<|AD (f2 CP (fC<|.int 2)<|f2 AJ (AB 0)<|fC<|.int 0)<|AD (f2 CP (fC<|.int 2)<|f2 AJ (AB 0)<|fC<|.int 1) AH) (B2 1 []<|A5 4 [.lst<|AI r,pw A B]) (AI r)=some (AI<|r.map AM.dbl):=by unfold AI;rw[ABO];exact GW λp hp=>⟨_,.cl<|pv<|AM.dbl p,rfl,Ej (AL (AO rfl (AO rfl rfl<|DD p)<|F6<|Fj U)<|AL (AO rfl (AO rfl rfl<|DO p)<|F6<|Fj U)<|AY _) rfl,rfl⟩
 rw[sq<|A8 (DM (its:=BG false<|AB 0) (Eh rfl rfl) (by rw[By];exact hl) c1) rfl];rw[sq<|A8 (r:=.cl<|pv (A.1+B.1,A.2+B.2)) rfl rfl];refine Cb ?_;have K3:(r.map AM.dbl).length<=1000:=by simpa using hl
 refine(AO (A3 (AL (A3 (AL rfl<|AY _) rfl<|Nz K3<|by simpa using h1)<|AL rfl<|AY _) rfl<|dv (by rw[cz];exact K3)<|VQ<|iQ hb) rfl<|rZ _ _).trans ?_;rw[nC]
theorem OM(a b:Pt):PySem.PyData.eqv (Al<|pv a) (Al<|pv b)=decide (a=b):=by
 have:decide (a=b)=(a.1==b.1&&a.2==b.2):=by rw[AB5];simp[Prod.ext_iff]
 rw[this];simp[pv,Al,CQ,PySem.PyData.eqv,PySem.PyData.eqvAll]
theorem Ld(a:Pt):PySem.SeqAt.shaped (Al<|pv a)=true:=by
 have h1:PySem.PyData.canLay0 (Al<|pv a)=true:=by simp[pv,Al,CQ,PySem.PyData.canLay0,PySem.PyData.canLayAll0]
 have h2:PySem.PyData.depth (Al<|pv a)<=1:=by simp[pv,Al,CQ,PySem.PyData.depth,PySem.PyData.depthAll]
 unfold PySem.SeqAt.shaped
 assumption
theorem Y7(a c d:Pt):CD true (.cl<|pv a) (.cl<|pw c d)=some (.cl<|.bl (!(decide (a=c)||decide (a=d)))):=by unfold CD;have e:(RV.cl<|pw c d).seq=some [pv c,pv d]:=rfl;rw[e];dsimp only;have hx:(RV.cl<|pv a).any=pv a:=rfl;rw[hx,AAl ⟨Ld a,by unfold Lc;simp[Ld]⟩,AAl rfl];unfold inD;simp only[ABc,ABc,ADR,ACb,OM,OM,show decide (c=a)=decide (a=c)by simp[eq_comm],show decide (d=a)=decide (a=d)by simp[eq_comm]]
noncomputable def Ij(A B:Pt)(w:Pt×Pt):Bool:=(!(decide (A=w.1)||decide (A=w.2)))&&(!(decide (B=w.1)||decide (B=w.2)))
theorem sC(r:List Pt)(A B:Pt):(((BX r).filter<|Ij A B).map λw=>BD A B w.1 w.2).any id=AM.IA r A B:=by
 delta AM.IA BX
 simp only[ACW,List.any_filter,ACW]
 rfl
def Jh(n i j:Int):Bool:=(decide (0<=i)&&(decide (i<j)&&decide (j<n)))&&!(nb n<|j-i)
def QC(r:List Pt)(i j:Int):Bool:=Jh r.length i j&&(!AM.IA r (AA r i) (AA r j)&&AM.E7 (r.map AM.dbl) ((AA r i).1+(AA r j).1,(AA r i).2+(AA r j).2))
theorem Vc{r:List Pt}(h:Cw r=true)(i j:Int):Ls [.lst<|AI r,.int i,.int j]=some (.cl<|.bl<|QC r i j):=by
 obtain⟨h3,DA,hb⟩:=Gz h;refine Bh rfl ?_;unfold Wm;have el:fB Av (AD (AB 0) AH) (A5 5 [.lst<|AI r,.int i,.int j])=some (.cl<|.int<|r.length):=M6 r _ rfl;have et:(Bb (Be<|AQ<|EM B8 Bw Bw (fC<|.int 0) (AB 1) (AB 2)<|fB Av<|AD (AB 0) AH)<|AQ<|AS HG<|AD (fB Av<|AD (AB 0) AH)<|AD (AB 1)<|AD (AB 2) AH) (A5 5 [.lst<|AI r,.int i,.int j])=some (!(Jh r.length i j)):=by unfold Jh;rw[AEc,Bool.not_not];exact EK (D3<|Aw<|XX rfl rfl rfl el) λ_=>Aw<|A3 (AL el<|AL rfl<|AL rfl<|AY _) rfl<|Q7 U
 unfold QC;cases hc:Jh r.length i j with
 |false=>
  rw[hc]at et;exact C5<|(Bj et).trans rfl
 |true=>
  rw[hc]at et;rw[sq<|(BR et).trans rfl];have Bm:=by unfold Jh at hc;simp only[AAk,decide_eq_true_eq]at hc;exact hc.1
  have e1:Ao (AD (f2 AJ (AB 0)<|AB 1)<|AD (f2 AJ (AB 0)<|AB 2) AH) (A5 5 [.lst<|AI r,.int i,.int j])=some (.cl<|pw (AA r i)<|AA r j):=
   Ej (AL (AO rfl rfl<|CO r i U U)<|AL (AO rfl rfl<|CO r j U U)<|AY _) rfl
  rw[sq<|A8 e1 rfl];show AN _ _ [some<|.im<|.lst<|AI r,some<|.im<|.int i,some<|.im<|.int j,some<|.im<|pw (AA r i)<|AA r j,none]=_;have bA:=DK U hb i;have bB:=DK U hb j;generalize AA r i=A at *
  generalize AA r j=B at *
  have E5:(BS<|BX r).length<=1000:=by simp[BS,BX];lia
  have c1:collect (Ae 0) (CH (AQ<|f2 (CD true) (f2 AJ (AB 1)<|fC<|.int 0)<|AB 0)<|AQ<|f2 (CD true) (f2 AJ (AB 1)<|fC<|.int 1)<|AB 0) (AB 0) (B2 1 [3] [some<|.im<|.lst<|AI r,some<|.im<|.int i,some<|.im<|.int j,some<|.im<|pw A B,none]) (BS<|BX r)=some (BS<|(BX r).filter<|Ij A B):=by exact FP λw hw=>⟨_,rfl,Ie (Aw<|AO (AO rfl rfl<|J8 A B) rfl<|Y7 _ _ _) λ_=>Aw<|AO (AO rfl rfl<|J9 A B) rfl<|Y7 _ _ _,λ_=>⟨.cl<|pw w.1 w.2,rfl,rfl⟩⟩
  rw[sq<|A8 (DM (its:=BG false<|AS IL<|AD (AB 0) AH) (Eh (A3 (AL rfl<|AY _) rfl<|Nz U U) rfl) E5 c1) rfl];show AN _ _ [some<|.im<|.lst<|AI r,some<|.im<|.int i,some<|.im<|.int j,some<|.im<|pw A B,some<|.im<|.lst<|BS<|(BX r).filter<|Ij A B]=_;have Se:(BS<|(BX r).filter<|Ij A B).length<=1000:=by have:=ACY (Ij A B)<|BX r;rw[cz]at this;simp only[BS,AAi];lia
  have c2:collect (Ae 0) Bl (AS IK<|AD (AB 1)<|AD (AB 0) AH) (B2 1 [3] [some<|.im<|.lst<|AI r,some<|.im<|.int i,some<|.im<|.int j,some<|.im<|pw A B,some<|.im<|.lst<|BS<|(BX r).filter<|Ij A B]) (BS<|(BX r).filter<|Ij A B)=some ((((BX r).filter<|Ij A B).map λw=>BD A B w.1 w.2).map PV.bl):=by rw[ABO];exact GW λw hw=>⟨_,.cl<|.bl<|BD A B w.1 w.2,rfl,A3 (AL rfl<|AL rfl<|AY _) rfl<|Vg bA bB (VQ hb w (ABg.mp hw).1).1 (VQ hb w (ABg.mp hw).1).2,rfl⟩
  have e3:=Aw<|R7<|DM (its:=BG false<|AB 4) (Eh rfl rfl) Se c2;rw[sC]at e3;cases hp:AM.IA r A B with
  |true=>
   rw[hp]at e3;exact C5<|(Bj e3).trans rfl
  |false=>
   rw[hp]at e3;rw[sq<|(BR e3).trans rfl];exact Cb<|A3 (AL rfl<|AL rfl<|AY _) rfl<|dt U U (((KN r).mp h).2) A B
theorem To(i a b:Int):BC false (.cl<|.int i) (.fr [.int a,.int b])=some (.cl<|.bl (i==a||i==b)):=by simp only[BC,RV.seq,RV.list,DB,ABi,ABc,ADR,ACb,ACt,ADH];rw[ADA,ADA (a:=b)]
noncomputable def FQ(n i j:Int):Bool:=(decide (0<=i)&&(decide (i<j)&&decide (j<n)))&&!((j-i)==1||(j-i)==n-1)
def DE(r:List Pt)(i j:Int):Bool:=FQ r.length i j&&(!AM.KA r i j&&AM.MI (AA r<|i-1) (AA r i) (AA r<|i+1) (AA r j))
theorem Ve{r:List Pt}(h3:3<=r.length)(DA:r.length<=12)(hb:∀p∈r,Bd 1000 p)(i j:Int):HH [.lst<|AI r,.int i,.int j]=some (.cl<|.bl<|DE r i j):=by
 refine Bh rfl ?_;unfold Ww;rw[sq<|A8 (M6 r (A5 10 [.lst<|AI r,.int i,.int j]) rfl) rfl];show AN _ _ [some<|.im<|.lst<|AI r,some<|.im<|.int i,some<|.im<|.int j,some<|.im<|.int<|r.length,none,none,none,none,none,none]=_;have et:(Bb (Be<|AQ<|EM B8 Bw Bw (fC<|.int 0) (AB 1) (AB 2)<|AB 3)<|AQ<|f2 (BC false) (f2 Ad (AB 2)<|AB 1)<|BB<|AD (fC<|.int 1)<|AD (f2 Ad (AB 3)<|fC<|.int 1) AH) [some<|.im<|.lst<|AI r,some<|.im<|.int i,some<|.im<|.int j,some<|.im<|.int<|r.length,none,none,none,none,none,none]=some (!(FQ r.length i j)):=by unfold FQ;rw[AEc,Bool.not_not];exact EK (D3<|Aw<|XX rfl rfl rfl rfl) λ_=>Aw<|AO (AO rfl rfl<|Cq _ _) (EJ (AL rfl<|AL (AO rfl rfl<|Cq _ _)<|AY _) rfl)<|To _ _ _
 unfold DE;cases hc:FQ r.length i j with
 |false=>
  rw[hc]at et;exact C5<|(Bj et).trans rfl
 |true=>
  rw[hc]at et;rw[sq<|(BR et).trans rfl,Bool.true_and];have Bm:=by unfold FQ at hc;simp only[AAk,decide_eq_true_eq]at hc;exact hc.1
  rw[sq<|aD (AL (AO rfl rfl<|CO r i U U)<|AL (AO rfl rfl<|CO r j U U)<|AY _) rfl];show AN _ _ [some<|.im<|.lst<|AI r,some<|.im<|.int i,some<|.im<|.int j,some<|.im<|.int<|r.length,some<|.im<|pv<|AA r i,some<|.im<|pv<|AA r j,none,none,none,none]=_;have bc:=λk=>DK U hb k;have I0:Bu (AD (AB 3) AH) [some<|.im<|.lst<|AI r,some<|.im<|.int i,some<|.im<|.int j,some<|.im<|.int<|r.length,some<|.im<|pv<|AA r i,some<|.im<|pv<|AA r j,none,none,none,none]=some ((List.range r.length).map λk:Nat=>PV.int<|k):=D4 (AL rfl<|AY _) U;have H:=Gv (enc:=λk:Nat=>PV.int<|k) (gt:=Ae 6) (body:=(AN (Aq (CH (AQ<|f2 (BC true) (AB 6)<|BB<|AD (AB 1)<|AD (AB 2) AH)<|AQ<|AS IJ<|AD (AB 4)<|AD (AB 5)<|AD (f2 AJ (AB 0)<|AB 6) AH) (Ai<|fC<|.bl false) A0)<|AN (AZ 7<|f2 A4 (f2 Aa (AB 6)<|fC<|.int 1)<|AB 3)<|Aq (CH (AQ<|f2 (BC true) (AB 6)<|BB<|AD (AB 1)<|AD (AB 2) AH)<|AQ<|f2 (BC true) (AB 7)<|BB<|AD (AB 1)<|AD (AB 2) AH) (Aq (AQ<|AS II<|AD (AB 4)<|AD (AB 5)<|AD (f2 AJ (AB 0)<|AB 6)<|AD (f2 AJ (AB 0)<|AB 7) AH) (Ai<|fC<|.bl false) A0) A0))
   (c:=λk=>((!((k)==i||(k)==j))&&An (AA r i) (AA r j) (AA r k))||(((!((k)==i||(k)==j))&&(!(((k)+1)%(r.length)==i||((k)+1)%(r.length)==j)))&&BW (AA r i) (AA r j) (AA r k) (AA r<|((k)+1)%(r.length))))
   (λρ=>∃a b,ρ=[some<|.im<|.lst<|AI r,some<|.im<|.int i,some<|.im<|.int j,some<|.im<|.int<|r.length,some<|.im<|pv<|AA r i,some<|.im<|pv<|AA r j,a,b,none,none]) (xs:=List.range r.length) ⟨none,none,rfl⟩ (by
   rintro k hk ρ ⟨a,b,rfl⟩;have Bi:=AAr.mp hk;refine⟨_,rfl,?_⟩;have l1:=AA3 ((k)+1) (b:=(r.length)) U;have ON:(CH (AQ<|f2 (BC true) (AB 6)<|BB<|AD (AB 1)<|AD (AB 2) AH)<|AQ<|AS IJ<|AD (AB 4)<|AD (AB 5)<|AD (f2 AJ (AB 0)<|AB 6) AH) [some<|.im<|.lst<|AI r,some<|.im<|.int i,some<|.im<|.int j,some<|.im<|.int<|r.length,some<|.im<|pv<|AA r i,some<|.im<|pv<|AA r j,some<|.im<|.int<|k,b,none,none]=some ((!((k)==i||(k)==j))&&An (AA r i) (AA r j) (AA r k)):=
    Ie (Aw<|AO rfl (EJ (AL rfl<|AL rfl<|AY _) rfl)<|Pc _ _ _) λ_=>Aw<|A3 (AL rfl<|AL rfl<|AL (AO rfl rfl<|CO r (k) U U)<|AY _) rfl<|Vh (bc _)<|bc _
   have es:AZ 7 (f2 A4 (f2 Aa (AB 6)<|fC<|.int 1)<|AB 3) [some<|.im<|.lst<|AI r,some<|.im<|.int i,some<|.im<|.int j,some<|.im<|.int<|r.length,some<|.im<|pv<|AA r i,some<|.im<|pv<|AA r j,some<|.im<|.int<|k,b,none,none]=some (.nx [some<|.im<|.lst<|AI r,some<|.im<|.int i,some<|.im<|.int j,some<|.im<|.int<|r.length,some<|.im<|pv<|AA r i,some<|.im<|pv<|AA r j,some<|.im<|.int<|k,some<|.im<|.int<|((k)+1)%(r.length),none,none]):=
    A8 (AO (AO rfl rfl<|JB _ _) rfl<|ET U) rfl
   have R6:(CH (AQ<|f2 (BC true) (AB 6)<|BB<|AD (AB 1)<|AD (AB 2) AH)<|AQ<|f2 (BC true) (AB 7)<|BB<|AD (AB 1)<|AD (AB 2) AH) [some<|.im<|.lst<|AI r,some<|.im<|.int i,some<|.im<|.int j,some<|.im<|.int<|r.length,some<|.im<|pv<|AA r i,some<|.im<|pv<|AA r j,some<|.im<|.int<|k,some<|.im<|.int<|((k)+1)%(r.length),none,none]=some ((!((k)==i||(k)==j))&&(!(((k)+1)%(r.length)==i||((k)+1)%(r.length)==j))):=
    Ie (Aw<|AO rfl (EJ (AL rfl<|AL rfl<|AY _) rfl)<|Pc _ _ _) λ_=>Aw<|AO rfl (EJ (AL rfl<|AL rfl<|AY _) rfl)<|Pc _ _ _
   have XU:(AQ<|AS II<|AD (AB 4)<|AD (AB 5)<|AD (f2 AJ (AB 0)<|AB 6)<|AD (f2 AJ (AB 0)<|AB 7) AH) [some<|.im<|.lst<|AI r,some<|.im<|.int i,some<|.im<|.int j,some<|.im<|.int<|r.length,some<|.im<|pv<|AA r i,some<|.im<|pv<|AA r j,some<|.im<|.int<|k,some<|.im<|.int<|((k)+1)%(r.length),none,none]=some (BW (AA r i) (AA r j) (AA r k)<|AA r<|((k)+1)%(r.length)):=
    Aw (A3 (AL rfl<|AL rfl<|AL (AO rfl rfl<|CO r (k) U U)<|AL (AO rfl rfl<|CO r (((k)+1)%(r.length)) U AAg)<|AY _) rfl<|Vf (bc _) (bc _) (bc _)<|bc _)
   generalize ((!((k)==i||(k)==j))&&An (AA r i) (AA r j) (AA r k))=b1 at *
   generalize ((!((k)==i||(k)==j))&&(!(((k)+1)%(r.length)==i||((k)+1)%(r.length)==j)))=b2 at *
   generalize BW (AA r i) (AA r j) (AA r k) (AA r<|((k)+1)%(r.length))=b3 at *
   cases b1 with
   |true=>exact⟨λ_=>C5<|(Bj ON).trans rfl,λh=>by simp at h⟩
   |false=>
    cases b2 with
    |false=>exact⟨λh=>by simp at h,λ_=>⟨_,(sq<|(BR ON).trans rfl).trans<|(sq es).trans<|(BR R6).trans rfl,_,_,rfl⟩⟩
    |true=>
     cases b3 with
     |false=>exact⟨λh=>by simp at h,λ_=>⟨_,(sq<|(BR ON).trans rfl).trans<|(sq es).trans<|(Bj R6).trans<|(BR XU).trans rfl,_,_,rfl⟩⟩
     |true=>exact⟨λ_=>(sq<|(BR ON).trans rfl).trans<|(sq es).trans<|(Bj R6).trans<|(Bj XU).trans rfl,λh=>by simp at h⟩)
  cases hl:AM.KA r i j with
  |true=>exact C5<|(Ca I0).trans<|H.1 hl
  |false=>
   obtain⟨ρ',e,a,b,rfl⟩:=H.2 hl;rw[sq<|(Ca I0).trans e,AEF,Bool.true_and];have l0:=ABC (i+1) (b:=(r.length)) U;have l1:=AA3 (i+1) (b:=(r.length)) U;have em:AA r ((i+1)%(r.length))=AA r (i+1):=AM.FR r _;have kn:=CO r ((i+1)%(r.length)) U AAg;rw[em]at kn;have fn:∀x y z w:Option SV,f2 AJ (AB 0) (f2 A4 (f2 Aa (AB 1)<|fC<|.int 1)<|AB 3) [some<|.im<|.lst<|AI r,some<|.im<|.int i,some<|.im<|.int j,some<|.im<|.int<|r.length,some<|.im<|pv<|AA r i,some<|.im<|pv<|AA r j,x,y,z,w]=some (.cl<|pv<|AA r<|i+1):=λ_ _ _ _=>
    AO rfl (AO (AO rfl rfl<|JB _ _) rfl<|ET U) kn
   have fp:∀x y z w:Option SV,f2 AJ (AB 0) (f2 Ad (AB 1)<|fC<|.int 1) [some<|.im<|.lst<|AI r,some<|.im<|.int i,some<|.im<|.int j,some<|.im<|.int<|r.length,some<|.im<|pv<|AA r i,some<|.im<|pv<|AA r j,x,y,z,w]=some (.cl<|pv<|AA r<|i-1):=λ_ _ _ _=>
    AO rfl (AO rfl rfl<|Cq _ _) (CO r (i-1) U U)
   have sd:∀(f g h:EF)(u v w:Pt)(ρ:AX),Bd 1000 u->Bd 1000 v->f ρ=some (.cl<|pv u)->g ρ=some (.cl<|pv v)->h ρ=some (.cl<|pv w)->f2 CC (AS EC<|AD f<|AD g<|AD h AH) (fC<|.int 0) ρ=some (.cl<|.bl<|decide (AG u v w>0)):=λf g h u v w ρ b1 b2 e1 e2 e3=>
    AO (A3 (AL e1<|AL e2<|AL e3<|AY _) rfl<|Nw b1 b2) rfl (Gs _ _)
   rw[sq<|A8 (sd _ _ _ (AA r i) (AA r<|i+1) (AA r j) _ (bc _) (bc _) rfl (fn _ _ _ _) rfl) rfl];show AN _ _ [some<|.im<|.lst<|AI r,some<|.im<|.int i,some<|.im<|.int j,some<|.im<|.int<|r.length,some<|.im<|pv<|AA r i,some<|.im<|pv<|AA r j,a,b,some<|.im<|.bl<|decide (AG (AA r i) (AA r<|i+1) (AA r j)>0),none]=_;rw[sq<|A8 (sd _ _ _ (AA r<|i-1) (AA r i) (AA r j) _ (bc _) (bc _) (fp _ _ _ _) rfl rfl) rfl];show AN _ _ [some<|.im<|.lst<|AI r,some<|.im<|.int i,some<|.im<|.int j,some<|.im<|.int<|r.length,some<|.im<|pv<|AA r i,some<|.im<|pv<|AA r j,a,b,some<|.im<|.bl<|decide (AG (AA r i) (AA r<|i+1) (AA r j)>0),some<|.im<|.bl<|decide (AG (AA r<|i-1) (AA r i) (AA r j)>0)]=_;have e4:=Aw<|sd (f2 AJ (AB 0)<|f2 Ad (AB 1)<|fC<|.int 1) (AB 4) (f2 AJ (AB 0)<|f2 A4 (f2 Aa (AB 1)<|fC<|.int 1)<|AB 3) (AA r<|i-1) (AA r i) (AA r<|i+1) [some<|.im<|.lst<|AI r,some<|.im<|.int i,some<|.im<|.int j,some<|.im<|.int<|r.length,some<|.im<|pv<|AA r i,some<|.im<|pv<|AA r j,a,b,some<|.im<|.bl<|decide (AG (AA r i) (AA r<|i+1) (AA r j)>0),some<|.im<|.bl<|decide (AG (AA r<|i-1) (AA r i) (AA r j)>0)] (bc _) (bc _) (fp _ _ _ _) rfl<|fn _ _ _ _;unfold AM.MI;by_cases h4:AG (AA r<|i-1) (AA r i) (AA r<|i+1)>0
   .rw[ABq h4]at e4;rw[AAl h4];exact C5<|(Bj e4).trans<|Cb<|Ks rfl λ_=>rfl
   .rw[ABr h4]at e4;rw[AAj h4,sq<|(BR e4).trans rfl];exact Cb<|Kt rfl λ_=>rfl
theorem ZP{r:List Pt}(h:Cw r=true)(i j:Int):QC r i j=DE r i j:=by
 obtain⟨R,_⟩:=(KN r).mp h;have h3:=R.l3
 delta QC DE
 have lO:Jh r.length i j=FQ r.length i j:=by
  delta Jh FQ
  cases hd:(decide (0<=i)&&(decide (i<j)&&decide (j<(r.length))))with
  |false=>rfl
  |true=>
   simp only[AAk,decide_eq_true_eq]at hd;unfold AM.nb;rw[AAh U U]
 simp only[lO];cases hc:FQ r.length i j with
 |false=>rfl
 |true=>
  simp only[FQ,AAk,AAk,AAk,decide_eq_true_eq,decide_eq_true_eq,decide_eq_true_eq,ABJ,ABN,AA7,AA7]at hc;obtain⟨⟨a,b,c⟩,d,e⟩:=hc;refine AM.oH R a U U c ?_;have f:AM.B0 r.length<|j-i:=by unfold AM.B0;rw[AAh U U];exact⟨U,d,e⟩
  have:=f.neg U;rw[show -(j-i)=i-j by lia]at this;exact this
theorem OR{g:AF}{ρ:AX}{i j:Nat}(e:g ρ=some [.cl<|.int<|i,.cl<|.int<|j])(hi:i<=1000)(hj:j<=1000):DV g ρ=some ((List.range<|j-i).map λt:Nat=>PV.int<|(i+t:Nat)):=by unfold DV;rw[e];dsimp only;rw[AAl (by unfold IH;lia)];unfold La;rw[show((j:Int)-(i)).toNat=j-i by lia];dsimp only[Int.natCast_add]
theorem XY{fa fb fc fd:EF}{ρ:AX}{i j k l:Int}(ha:fa ρ=some (.cl<|.int i))(hb:fb ρ=some (.cl<|.int j))(hc:fc ρ=some (.cl<|.int k))(hd:fd ρ=some (.cl<|.int l)):EM Bw Bw Bw fa fb fc fd ρ=some (.cl<|.bl<|decide (i<j)&&(decide (j<k)&&decide (k<l))):=by
 unfold EM;rw[ha,hb];dsimp only;simp only[Ht];cases h:decide (i<j)
 .rfl
 .dsimp only;rw[hc];dsimp only;simp only[Ht];cases h2:decide (j<k)
  .rfl
  .dsimp only;rw[hd];rfl
noncomputable def xB(e f:Pt):Bool:=(decide (e.1<f.1)&&(decide (f.1<e.2)&&decide (e.2<f.2)))||(decide (f.1<e.1)&&(decide (e.1<f.2)&&decide (f.2<e.2)))
theorem zQ(e f:Pt):xB e f=xB f e:=by unfold xB;simp only[ADz]
theorem de(e f:Pt):Nn [pv e,pv f]=some (.cl<|.bl<|xB e f):=by refine Bh rfl ?_;exact Cb<|Kt (XY (AO rfl rfl<|DD e) (AO rfl rfl<|DD f) (AO rfl rfl<|DO e)<|AO rfl rfl<|DO f) λ_=>XY (AO rfl rfl<|DD f) (AO rfl rfl<|DD e) (AO rfl rfl<|DO f)<|AO rfl rfl<|DO e
theorem jd{f:EF}{ρ:AX}{b:Bool}(e:f ρ=some (.cl<|.bl b)):Jm f ρ=some (.cl<|.bl (!b)):=by unfold Jm;rw[e]
theorem ja{f:EF}{ρ:AX}{bs:List Bool}(e:f ρ=some (.fr<|bs.map PV.bl)):fB E8 (AD f AH) ρ=some (.cl<|.bl<|bs.all id):=by refine Bp (AL e<|AY _) ?_;simp only[E8,RV.list,ABE,N8,ABi]
theorem RS{its:IF}{own:Nat}{cap:List Nat}{g:GF}{fe:EF}{ρ:AX}{α:Type}{enc:α->PV}{h:α->Bool}{xs:List α}(e:its ρ=some (xs.map enc))(hl:xs.length<=1000)(H:∀x∈xs,∃A9,g (enc x) (B2 own cap ρ)=some A9/\fe A9=some (.cl<|.bl<|h x)):fB E8 (AD (BI its own cap g Bl fe) AH) ρ=some (.cl<|.bl<|xs.all h):=by have:=ja ((DM e (by rw[AAi];exact hl)<|GW λx hx=>(by obtain⟨A9,a,b⟩:=H x hx;exact⟨A9,_,a,b,rfl⟩)).trans (by rw[ABO];rfl));rw[ADy]at this;exact this
theorem du(e:Pt){N:List Pt}(hN:N.length<=1000):Qw [pv e,.lst<|AI N]=some (.cl<|.bl (!N.any (xB e))):=by refine Bh rfl ?_;have:=jd (R7 <|(DM (own:=1) (cap:=[0]) (its:=BG false<|AB 1) (ρ:=A5 2 [pv e,.lst<|AI N]) (Eh rfl rfl) (by rw[By];exact hN)<|GW (g:=Ae 0) (fe:=AS Nn<|AD (AB 1)<|AD (AB 0) AH) λf _=>⟨_,_,rfl,A3 (AL rfl<|AL rfl<|AY _) rfl<|de e f,rfl⟩).trans (by rw[ABO];rfl));rw[ACW]at this;exact Cb this
theorem kp(c:Int->Int->Int->Int->Bool)(e f:Pt):LF c (.cl<|pv e) (.cl<|pv f)=some (.cl<|.bl<|c e.1 e.2 f.1 f.2):=rfl
section
variable{r N:List Pt}(h:Cw r=true)(hN:N.length<=1000)
def ltB(N:List Pt)(k:Nat):Bool:=D1 (AA N k).1 (AA N k).2 (AA N<|(k:Int)+1).1 (AA N<|(k:Int)+1).2
def QH(N:List Pt):Bool:=(List.range<|N.length-1).all<|ltB N
def Tt(r N:List Pt):Bool:=N.all λe=>DE r e.1 e.2
def pL(N:List Pt):Bool:=(List.range N.length).all λk=>!(N.take k).any (xB<|AA N k)
def EG(r N:List Pt):Bool:=((N.length:Int)==(r.length:Int)-3)&&((QH N&&Tt r N)&&pL N)
include hN in
theorem eC:Q9 [.lst<|AI N]=some (.cl<|.bl<|QH N):=by
 refine Bh rfl ?_;have l1:fB Av (AD (AB 0) AH) (A5 1 [.lst<|AI N])=some (.cl<|.int<|N.length):=Bp (AL rfl<|AY _) (by rw[Hs,By]);refine Cb (RS (OR (g:=AD (fC<|.int 1)<|AD (fB Av<|AD (AB 0) AH) AH) (i:=1) (AL rfl<|AL l1<|AY _) U hN) (by rw[ABd];omega) λt ht=>?_);have ht:=AAr.mp ht;refine⟨_,rfl,?_⟩;refine AO (AO rfl (AO rfl rfl (by rw[Cq,show((1+t:Nat):Int)-1=(t)by lia]))<|CO _ _ U U) (AO rfl rfl<|CO _ _ U U) ?_;rw[show((1+t:Nat))=(t)+1 by lia]
 rfl
include h hN
theorem df:Qx [.lst<|AI r,.lst<|AI N]=some (.cl<|.bl<|EG r N):=by
 refine Bh rfl ?_;show AN _ _ [some<|.im<|.lst<|AI r,some<|.im<|.lst<|AI N]=_;have l1:fB Av (AD (AB 1) AH) [some<|.im<|.lst<|AI r,some<|.im<|.lst<|AI N]=some (.cl<|.int<|N.length):=Bp (AL rfl<|AY _) (by rw[Hs,By]);have l0:fB Av (AD (AB 0) AH) [some<|.im<|.lst<|AI r,some<|.im<|.lst<|AI N]=some (.cl<|.int<|r.length):=Bp (AL rfl<|AY _) (by rw[Hs,By]);have e0:=Aw<|AO l1 (AO (fb:=fC<|.int 3) l0 rfl<|Cq _ _)<|Hu _ _;unfold EG;cases c:(N.length:Int)==(r.length)-3
 .rw[c]at e0;exact(C5<|(Bj e0).trans rfl).trans rfl
 rw[c]at e0;rw[sq<|(BR e0).trans rfl];have e1:=EK (D3<|Aw<|A3 (g:=AD (AB 1) AH) (ρ:=[some<|.im<|.lst<|AI r,some<|.im<|.lst<|AI N]) (AL rfl<|AY _) rfl<|eC hN) λ_=>D3 (Aw (RS (own:=1) (cap:=[0]) (its:=BG false<|AB 1) (g:=Ae 0) (fe:=AS Ls<|AD (AB 1)<|AD (f2 AJ (AB 0)<|fC<|.int 0)<|AD (f2 AJ (AB 0)<|fC<|.int 1) AH) (h:=λe=>DE r e.1 e.2) (Eh rfl rfl) hN λe _=>⟨_,rfl,by rw[<-ZP h];exact A3 (AL rfl<|AL (AO rfl rfl<|DD e)<|AL (AO rfl rfl<|DO e)<|AY _) rfl<|Vc h _ _⟩))
 rw[<-AEc]at e1
 change _=some (!(QH N&&Tt r N))at e1
 cases d:QH N&&Tt r N
 .rw[d]at e1;exact(C5<|(Bj e1).trans rfl).trans rfl
 rw[d]at e1;rw[sq<|(BR e1).trans rfl];refine Cb (RS (D4 (AL l1<|AY _) hN) (by rw[ABd];exact hN) λk hk=>⟨_,rfl,?_⟩);have hk:=AAr.mp hk;refine A3 (rs:=[.cl<|pv<|AA N k,.fr<|AI<|N.take k]) (AL (AO rfl rfl<|CO _ _ U U)<|AL ?_ (AY _)) rfl (du _ (by rw[ACQ];lia));rw[<-Wa N k U]
 rfl
end
theorem ZX{gt:GF}{body:SF}{enc:Nat->PV}(R:Nat->AX->Prop){n:Nat}{ρ:AX}(h0:R 0 ρ)(step:∀i,i<n->∀ρ,R i ρ->∃A9 Ba,gt (enc i) ρ=some A9/\body A9=some (.nx Ba)/\R (i+1) Ba) : ∃ρ',Du gt body ((List.range n).map enc) ρ=some (.nx ρ')/\R n ρ':=by
 have H:=KC (λ(u)(_)=>u) (λi _ ρ=>R i ρ) (xs:=List.range n) (b:=()) h0 λi x hx b ρ hR=>by have hi:=(AAn.mp hx).1;have TR:=(AAn.mp hx).2;simp at hi TR;subst TR;rw[ADM]at hR ⊢;exact step i hi ρ hR
 rw[ABd,ADM]at H;exact H
theorem XZ{f:EF}{g:AF}{ρ:AX}{r:RV}{rs:List RV}{ks:List (List Int)}{xs:List PV}{k:List Int}{p:PV}(e:f ρ=some r)(eg:g ρ=some rs)(ed:r.Co=some (ks,xs))(ek:JL rs=some k)(ep:C7 ks xs k=some p)(hk:Nat.ble k.length 1000=true:=by rfl):Hg f g ρ=some (.cl p):=by
 unfold Hg;rw[e,eg];dsimp only;rw[ed,ek];dsimp only;rw[AAl<|AC2 hk,ep]
 rfl
theorem jc{i:Nat}{g:AF}{f:EF}{ρ:AX}{r:RV}{rs:List RV}{t:Option PySem.Addr}{ks:List (List Int)}{xs:List PV}{k:List Int}{p:PV}(e:f ρ=some r)(er:ρ[i]? = some (some<|.Dg t ks xs))(eg:g ρ=some rs)(ec:r.clean=some p)(ek:JL rs=some k)(hl:ks.length<1000000)(hk:Nat.ble k.length 1000=true:=by rfl) : Il i g f ρ=some (.nx<|ρ.set i<|some<|.Dg t (Fm ks k)<|Hc ks xs k p):=by unfold Il;rw[e,er,eg];dsimp only;rw[ec,ek];dsimp only;rw[AAl ⟨hl,AC2 hk⟩]
noncomputable def kN(i j:Nat):List Int:=[(i:Int),(j:Int)]
theorem nT{i j k l:Nat}:kN i j=kN k l↔i=k/\j=l:=by unfold kN;lia
def Dc(r:List Pt)(i j:Nat):Bool:=((j:Int)-(i:Int)==1||(j:Int)-(i:Int)==(r.length:Int)-1)||DE r (i:Int) (j:Int)
def L5(r:List Pt)(ok:Nat->Nat->Prop)(b:Nat)(ks:List<|List Int)(xs:List PV):Prop:=ks.length=xs.length/\ks.length<=b/\∀x y,x<y->y<r.length->ok x y->C7 ks xs (kN x y)=some (.bl<|Dc r x y)
theorem L5.put{r:List Pt}{ok Zx:Nat->Nat->Prop}{b:Nat}{ks:List (List Int)}{xs:List PV}(h:L5 r ok b ks xs)(i j:Nat)(Af:∀x y,x<y->y<r.length->Zx x y->(x=i/\y=j)\/ok x y):L5 r Zx (b+1) (Fm ks<|kN i j)<|Hc ks xs (kN i j)<|.bl<|Dc r i j:=by
 refine⟨i6 h.1 _ _,ABe (i5 _ _) (by have:=h.2.1;lia),λx y h1 h2 h3=>?_⟩;rw[iu h.1];by_cases e:kN x y=kN i j
 .rw[AAl e];obtain⟨rfl,rfl⟩:=nT.mp e
  rfl
 .rw[AAj e];rcases Af x y h1 h2 h3 with⟨rfl,rfl⟩|hq
  .exact absurd rfl e
  .exact h.2.2 x y h1 h2 hq
theorem dm{r:List Pt}(h:Cw r=true):∃ks xs,Q1 [.lst<|AI r]=some (.fd ks xs)/\ks≠[]/\∀x y,x<y->y<r.length->C7 ks xs (kN x y)=some (.bl<|Dc r x y):=by
 obtain⟨h3,DA,hb⟩:=Gz h;have el:fB Av (AD (AB 0) AH) (A5 5 [.lst<|AI r])=some (.cl<|.int<|r.length):=by rw[<-By];rfl
 obtain⟨ρ',e,ks,xs,c,d,rfl,hI⟩:=ZX (gt:=Ae 3) (body:=(CI (Bu<|AD (AB 3) AH) (Ae 4)<|Il 2 (AD (AB 4)<|AD (AB 3) AH)<|DN (f2 (BC false) (f2 Ad (AB 3)<|AB 4)<|BB<|AD (fC<|.int 1)<|AD (f2 Ad (AB 1)<|fC<|.int 1) AH)<|AS HH<|AD (AB 0)<|AD (AB 4)<|AD (AB 3) AH)) (λm ρ=>∃ks xs c d,ρ=[some<|.im<|.lst<|AI r,some<|.im<|.int<|r.length,some<|.Dg none ks xs,c,d]/\L5 r (λ_ y=>y<m) (12*m) ks xs) (n:=r.length) ⟨[],[],none,none,rfl,rfl,AAd,λx y _ _ h=>U⟩ (by
  rintro m hm ρ ⟨ks,xs,c,d,rfl,hI⟩;obtain⟨ρ',e,Pg,VU,d',rfl,SX⟩:=ZX (gt:=Ae 4) (body:=(Il 2 (AD (AB 4)<|AD (AB 3) AH)<|DN (f2 (BC false) (f2 Ad (AB 3)<|AB 4)<|BB<|AD (fC<|.int 1)<|AD (f2 Ad (AB 1)<|fC<|.int 1) AH)<|AS HH<|AD (AB 0)<|AD (AB 4)<|AD (AB 3) AH)) (λf ρ=>∃ks xs d,ρ=[some<|.im<|.lst<|AI r,some<|.im<|.int<|r.length,some<|.Dg none ks xs,some<|.im<|.int<|m,d]/\L5 r (λx y=>y<m\/(y=m/\x<f)) (12*m+f) ks xs) (n:=m) ⟨ks,xs,d,rfl,hI.1,hI.2.1,λx y h1 h2 h3=>hI.2.2 x y h1 h2 U⟩ (by
   rintro f hf ρ ⟨ks,xs,d,rfl,hI⟩;have eV:DN (f2 (BC false) (f2 Ad (AB 3)<|AB 4)<|BB<|AD (fC<|.int 1)<|AD (f2 Ad (AB 1)<|fC<|.int 1) AH) (AS HH<|AD (AB 0)<|AD (AB 4)<|AD (AB 3) AH) [some<|.im<|.lst<|AI r,some<|.im<|.int<|r.length,some<|.Dg none ks xs,some<|.im<|.int<|m,some<|.im<|.int<|f]=some (.cl<|.bl<|Dc r f m):=by exact Kt (AO (AO rfl rfl<|Cq _ _) (EJ (AL rfl<|AL (AO rfl rfl<|Cq _ _)<|AY _) rfl)<|To _ _ _) λ_=>A3 (AL rfl<|AL rfl<|AL rfl<|AY _) rfl<|Ve h3 DA hb _ _
   exact⟨_,_,rfl,jc (k:=kN f m) eV rfl rfl rfl rfl (by have:=hI.2.1;lia),_,_,_,rfl,hI.put f m λx y h1 h2 h3=>U⟩)
  exact⟨_,_,rfl,(Ca<|D4 (AL rfl<|AY _) U).trans e,_,_,_,_,rfl,SX.1,by have:=SX.2.1;lia,λx y h1 h2 h3=>SX.2.2 x y h1 h2 U⟩)
 refine⟨ks,xs,Bh rfl ?_,λz=>?_,λx y h1 h2=>hI.2.2 x y h1 h2 h2⟩
 .unfold Wv;rw[sq<|A8 el rfl];rw[sq (ρ':=[some<|.im<|.lst<|AI r,some<|.im<|.int<|r.length,some<|.Dg none [] [],none,none]) rfl];rw[sq<|(Ca<|D4 (AL rfl<|AY _) U).trans e]
  rfl
 .have:=hI.2.2 0 1 U U U;rw[z]at this
  contradiction
theorem Tv{r:List Pt}(h:Cw r=true){i j:Nat}(Bm:i<j)(hj:j<r.length):DE r (i) (j)=true↔AM.Line r (i) (j):=by
 obtain⟨R,_⟩:=(KN r).mp h;have h3:=R.l3;unfold DE;constructor
 .intro e;rw[AAk,AAk,ABJ]at e;obtain⟨hc,hb,hk⟩:=e;simp only[FQ,AAk,AAk,AAk,decide_eq_true_eq,decide_eq_true_eq,decide_eq_true_eq,ABJ,ABN,AA7,AA7]at hc;obtain⟨⟨a,b,c⟩,d,e⟩:=hc;have f:AM.B0 r.length<|(i)-j:=AM.MS U;exact⟨(AM.Ph R.simple R.Cn a AAc AAc c f).mp hb,AM.Rt.mp hk⟩
 .rintro⟨p,k⟩;have f:=AM.OS U p.Bq U U;simp only[AAk,AAk,ABJ];refine⟨?_,(AM.Ph R.simple R.Cn U U U U p.Bq).mpr p,AM.Rt.mpr k⟩;simp only[FQ,AAk,AAk,AAk,decide_eq_true_eq,decide_eq_true_eq,decide_eq_true_eq,ABJ,ABN,AA7,AA7];omega
theorem Mv{r:List Pt}{i j:Nat}:Dc r i j=true↔(j:Int)-i=1\/(j:Int)-i=(r.length)-1\/DE r i j=true:=by unfold Dc;rw[ABb,ABb,ABw,ABw,or_assoc]
theorem nP{r:List Pt}(h:Cw r=true){a b:Nat}(BA:a+1<b)(hb:b<r.length)(hj:Dc r a b=true):∃c,a<c/\c<b/\Dc r a c=true/\Dc r c b=true:=by
 obtain⟨R,_⟩:=(KN r).mp h;obtain⟨k,k1,k2,k3,k4⟩:=R.Je (i:=(a)) (j:=(b)) U U U (by
  rcases Mv.mp hj with c|c|c
  .lia
  .right;lia
  .exact .inl<|(Tv h U hb).mp c)
 obtain⟨c,rfl⟩:∃c:Nat,k=(c):=⟨k.toNat,U⟩;refine⟨c,U,U,Mv.mpr ?_,Mv.mpr ?_⟩
 .rcases k3 with e|e
  .left;lia
  .exact .inr<|.inr<|(Tv h U U).mpr e
 .rcases k4 with e|e
  .left;lia
  .exact .inr<|.inr<|(Tv h U AAg).mpr e
abbrev NN:=Nat×Nat
noncomputable def Fe(T:List NN):Nat:=(T.map λe=>e.2-e.1-1).sum
noncomputable def Em(T:List NN):Nat:=(T.map λe=>2*(e.2-e.1)-1).sum
def Xn(e f:NN):Prop:=(e.1<f.1/\f.1<e.2/\e.2<f.2)\/(f.1<e.1/\e.1<f.2/\f.2<e.2)
structure Dr(r:List Pt)(T L:List NN):Prop where
 seg:∀e∈T,e.1<e.2/\e.2<r.length/\Dc r e.1 e.2=true
 XI:T.Pairwise λe f=>e.2<=f.1\/f.2<=e.1
 ln:∀e∈L,e.1<e.2/\e.2<r.length/\DE r e.1 e.2=true
 out:∀e∈L,∀f∈T,(e.1<=f.1/\f.2<=e.2/\(e.1<f.1\/f.2<e.2))\/e.2<=f.1\/f.2<=e.1
 nx:L.Pairwise λe f=>e≠f/\¬ Xn e f
 ct:(T=[(0,r.length-1)]/\L=[])\/L.length+Fe T+3=r.length
theorem VS(T AAa:List NN):Fe (T++AAa)=Fe T+Fe AAa:=by unfold Fe;rw[ABQ,AD5]
theorem oZ(T AAa:List NN):Em (T++AAa)=Em T+Em AAa:=by unfold Em;rw[ABQ,AD5]
theorem Dr.drop{r:List Pt}{T L:List NN}{a b:Nat}(D:Dr r (T ++ [(a,b)]) L)(h3:3<=r.length)(h:¬ a+1<b):Dr r T L:=by
 have m:∀e∈T,e∈T ++ [(a,b)]:=λe he=>ACA _ he;refine⟨λe he=>D.seg e<|m e he,(ABx.mp D.XI).1,D.ln,λe he f hf=>D.out e he f<|m f hf,D.nx,?_⟩;rcases D.ct with⟨c,_⟩|c
 .have:=ACE List.getLast? c;simp at this;omega
 .rw[VS,show Fe [(a,b)]=0 by simp[Fe];omega]at c;exact .inr c
theorem Dr.step{r:List Pt}{T L:List NN}{a b c:Nat}(D:Dr r (T ++ [(a,b)]) L)(ac:a<c)(cb:c<b)(j1:Dc r a c=true)(j2:Dc r c b=true):Dr r (T ++ [(a,c),(c,b)]) (if(b:Int)-a<(r.length:Int)-1 then L ++ [(a,b)]else L):=by
 obtain⟨h1,h2,h4⟩:=D.seg (a,b) AAd;have m:∀e∈T,e∈T ++ [(a,b)]:=λe he=>ACA _ he;obtain⟨p1,_,p2⟩:=ABx.mp D.XI;have p2:∀e∈T,e.2<=a\/b<=e.1:=λe he=>p2 e he (a,b) AAd;have sg:∀e∈T ++ [(a,c),(c,b)],e.1<e.2/\e.2<r.length/\Dc r e.1 e.2=true:=λe he=>by
  rcases ABM.mp he with he|he
  .exact D.seg e<|m e he
  .simp only[AAy,ACj,AD0]at he;rcases he with rfl|rfl
   .exact⟨ac,U,j1⟩
   .exact⟨cb,h2,j2⟩
 have ds:(T ++ [(a,c),(c,b)]).Pairwise λe f=>e.2<=f.1\/f.2<=e.1:=by refine ABx.mpr ⟨p1,AAd,λe he f hf=>?_⟩;have:=p2 e he;simp only[AAy,ACj,AD0]at hf;rcases hf with rfl|rfl<;>dsimp only<;>lia
 have ou:∀e∈L,∀f∈T ++ [(a,c),(c,b)],(e.1<=f.1/\f.2<=e.2/\(e.1<f.1\/f.2<e.2))\/e.2<=f.1\/f.2<=e.1:=λe he f hf=>by
  rcases ABM.mp hf with hf|hf
  .exact D.out e he f<|m f hf
  .have:=D.out e he (a,b) AAd;simp only[AAy,ACj,AD0]at hf;rcases hf with rfl|rfl<;>dsimp only at this ⊢ <;> lia
 have w:Fe [(a,b)]=Fe [(a,c),(c,b)]+1:=by simp[Fe];lia
 have w0:Fe [(a,b)]=b-a-1:=by simp[Fe]
 split
 .refine⟨sg,ds,λe he=>?_,λe he f hf=>?_,ABx.mpr ⟨D.nx,AAd,λe he f hf=>?_⟩,?_⟩
  .rcases ABM.mp he with he|he
   .exact D.ln e he
   .rw[AA9]at he;subst he;refine⟨h1,h2,?_⟩;rcases Mv.mp h4 with q|q|q
    .dsimp only at q;lia
    .dsimp only at q;lia
    .exact q
  .rcases ABM.mp he with he|he
   .exact ou e he f hf
   .rw[AA9]at he;subst he;rcases ABM.mp hf with hf|hf
    .have:=p2 f hf;dsimp only;lia
    .simp only[AAy,ACj,AD0]at hf;rcases hf with rfl|rfl<;>dsimp only<;>lia
  .rw[AA9]at hf;subst hf;have o:=D.out e he (a,b) AAd;dsimp only at o;refine⟨λq=>?_,λq=>?_⟩
   .rw[q]at o;dsimp only at o;lia
   .unfold Xn at q;dsimp only at q;lia
  .rcases D.ct with⟨q,_⟩|q
   .have:=ACE List.getLast? q;simp at this;lia
   .rw[VS]at q ⊢;simp only[ABA,ABh];lia
 .refine⟨sg,ds,D.ln,ou,D.nx,?_⟩;rcases D.ct with⟨q,rfl⟩|q
  .have:=by have:=ACE List.length q;simp at this;exact this
   subst this;simp only[AB6]at q ⊢;simp only[ACF];dsimp only at *
   lia
  .rw[VS]at q;lia
noncomputable def zz(e:NN):Pt:=((e.1:Int),(e.2:Int))
abbrev zs(L:List NN):List PV:=AI<|L.map zz
theorem VX(L:List NN):(zs L).length=L.length:=by rw[By,AAi]
theorem T6{i:Nat}{ga:AF}{ρ:AX}{rs:List RV}{ps:List PV}{p:PV}(er:ρ[i]? = some (some<|.own ps))(ea:ga ρ=some rs)(ec:CZ rs=some [p])(h:ps.length<1000):Ci i CU ga ρ=some (.nx<|ρ.set i<|some<|.own<|ps ++ [p]):=by unfold Ci;rw[er,ea];dsimp only;rw[ec];unfold CU;dsimp only;rw[AAl h]
theorem rm{i:Nat}{gt:GF}{ρ ρ':AX}{ps:List PV}{p:PV}(er:ρ[i]? = some (some<|.own<|ps ++ [p]))(eg:gt p (ρ.set i<|some<|.own ps)=some ρ'):Js i gt ρ=some (.nx ρ'):=by unfold Js;rw[er];dsimp only;simp only[ABA,ABh,Nat.add_sub_cancel,ABL<|AAw _,Nat.sub_self];dsimp only[List.getElem?_cons_zero];rw[List.dropLast_concat,eg]
def wT:BF:=AQ<|f2 CC (fB Av<|AD (AB 5) AH)<|fC<|.int 0
def wS:EF:=BI (DV<|AD (f2 Aa (AB 6)<|fC<|.int 1)<|AD (AB 7) AH) 1 [3,6,7] (Ae 0) (CH (AQ<|Hg (AB 1)<|AD (AB 2)<|AD (AB 0) AH)<|AQ<|Hg (AB 1)<|AD (AB 0)<|AD (AB 3) AH)<|AB 0
def wA:EF:=f2 AJ (AB 8)<|f2 A4 (f2 CB (AS B6<|AD (AB 0)<|AD (f2 Aa (AB 1)<|AB 6) AH)<|f2 Aa (fC<|.int 1)<|AB 7)<|fB Av<|AD (AB 8) AH
def wG:SF:=AN (Js 5<|C3 2<|Bc (Ae 6)<|Bc (Ae 7) C9)<|Aq (AQ<|f2 CC (f2 Ad (AB 7)<|AB 6)<|fC<|.int 1) (AN (AZ 8 wS)<|AN (AZ 9 wA)<|AN (EN 5<|f2 Aa (AB 5)<|BB<|AD (Ao<|AD (AB 6)<|AD (AB 9) AH)<|AD (Ao<|AD (AB 9)<|AD (AB 7) AH) AH)<|Aq (AQ<|f2 Bw (f2 Ad (AB 7)<|AB 6)<|f2 Ad (fB Av<|AD (AB 2) AH)<|fC<|.int 1) (Ci 4 CU<|AD (Ao<|AD (AB 6)<|AD (AB 7) AH) AH) A0) A0
section
variable{s:List Int}{r:List Pt}{ks:List (List Int)}{xs:List PV}(h:Cw r=true)(hd:∀x y,x<y->y<r.length->C7 ks xs (kN x y)=some (.bl (Dc r x y)))
def wR(s:List Int)(r:List Pt)(ks:List<|List Int)(xs:List PV)(L T:List NN)(x:List<|Option SV):AX:=some (.im<|.rd<|A2 s)::some (.im<|.int 20)::some (.im<|.lst<|AI r)::some (.im<|.Co ks xs)::some (.own<|zs L)::some (.own<|zs T)::x
include h hd
theorem zF{L T:List NN}{a b:Nat}(BA:a+1<b)(hb:b<r.length)(x8 x9:Option SV):wS (wR s r ks xs L T [some<|.im<|.int<|a,some<|.im<|.int<|b,x8,x9])=some (.fr (((List.range<|b-(a+1)).filter λt=>Dc r a (a+1+t)&&Dc r (a+1+t) b).map λt:Nat=>PV.int<|(a+1+t:Nat))):=by obtain⟨h3,DA,_⟩:=Gz h;refine DM (OR (AL (AO rfl rfl<|by rfl)<|AL rfl<|AY _) U U) (by rw[AAi,ABd];lia)<|FP λt ht=>⟨_,rfl,?_,λ_=>⟨.cl<|.int<|(a+1+t:Nat),rfl,rfl⟩⟩;have ht:=AAr.mp ht;exact Ie (Aw<|XZ rfl rfl rfl rfl<|hd a (a+1+t) U U) λ_=>Aw<|XZ rfl rfl rfl rfl<|hd (a+1+t) b U hb
theorem zE{L T:List NN}{a b:Nat}(D:Dr r (T ++ [(a,b)]) L)(hT:T.length<=900)(x:List<|Option SV)(hx:x.length=4):∃L' T' x',wG (wR s r ks xs L (T ++ [(a,b)]) x)=some (.nx<|wR s r ks xs L' T' x')/\x'.length=4/\Dr r T' L'/\T'.length<=T.length+2/\Em T'<Em (T ++ [(a,b)]):=by
 obtain⟨h3,DA,_⟩:=Gz h;obtain⟨x6,x7,x8,x9,rfl⟩:∃x6 x7 x8 x9,x=[x6,x7,x8,x9]:=by
  match x,hx with
  |[x6,x7,x8,x9],_=>exact⟨x6,x7,x8,x9,rfl⟩
 obtain⟨h1,h2,h4⟩:=D.seg (a,b) AAd;dsimp only at h1 h2 h4;unfold wG;rw[sq (ρ':=wR s r ks xs L T [some<|.im<|.int<|a,some<|.im<|.int<|b,x8,x9])<|rm (by delta wR zs AI;simp only[ABQ,ABQ];rfl) rfl];have e1:AQ (f2 CC (f2 Ad (AB 7)<|AB 6)<|fC<|.int 1) (wR s r ks xs L T [some<|.im<|.int<|a,some<|.im<|.int<|b,x8,x9])=some (decide ((1:Int)<(b)-a)):=Aw<|AO (AO rfl rfl<|Cq _ _) rfl<|Gs _ _;by_cases c:a+1<b
 .rw[ABq U]at e1;rw[Bj e1];have eS:=zF (s:=s) (L:=L) (T:=T) h hd c h2 x8 x9;generalize hF:((List.range<|b-(a+1)).filter λt=>Dc r a (a+1+t)&&Dc r (a+1+t) b)=F at eS;have hF0:0<F.length:=by
   obtain⟨c,c1,c2,c3,c4⟩:=nP h c h2 h4;have:c-(a+1)∈F:=by
    rw[<-hF];refine ABg.mpr ⟨AAr.mpr U,?_⟩;rw[show a+1+(c-(a+1))=c by lia,c3,c4]
    rfl
   exact ACw this
  have Ss:=AA3 (Ag s (20+a) / (1+b)) (b:=(F.length)) U;have hm:(Ag s (20+a) / (1+b)%(F.length)).toNat<F.length:=U
  have ht:=ACg hm;have eA:wA (wR s r ks xs L T [some<|.im<|.int<|a,some<|.im<|.int<|b,some<|.im<|.lst (F.map λt:Nat=>PV.int<|(a+1+t:Nat)),x9])=some (.cl<|.int<|(a+1+F[(Ag s (20+a) / (1+b)%(F.length)).toNat]:Nat)):=by
   refine AO rfl (AO (AO (A3 (AL rfl<|AL (AO rfl rfl<|JB _ _)<|AY _) rfl<|Qu s _ U) (AO rfl rfl<|JB _ _)<|Y4 U U) (Bp (AL rfl<|AY _)<|by rw[Hs,AAi])<|ET U) ?_;show(CY (F.map λt:Nat=>PV.int<|(a+1+t:Nat)) _).map _=_
   delta CY Gp
   rw[AAl<|ABC (Ag s (20+a) / (1+b)) (b:=(F.length)) U,AAl (by rw[AAi];exact Ss),ABE,ABm,AA1 hm]
   rfl
  generalize F[(Ag s (20+a) / (1+b)%(F.length)).toNat]=t at ht eA;rw[<-hF]at ht;obtain⟨ht,hj⟩:=ABg.mp ht;have ht:=AAr.mp ht;rw[AAk]at hj;have D':=D.step U U hj.1 hj.2;rw[sq (ρ':=wR s r ks xs L T [some<|.im<|.int<|a,some<|.im<|.int<|b,some<|.im<|.lst (F.map λt:Nat=>PV.int<|(a+1+t:Nat)),x9])<|A8 eS rfl];rw[sq <|A8 eA rfl];rw[sq (ρ':=wR s r ks xs L (T ++ [(a,a+1+t),(a+1+t,b)]) [some<|.im<|.int<|a,some<|.im<|.int<|b,some<|.im<|.lst (F.map λt:Nat=>PV.int<|(a+1+t:Nat)),some<|.im<|.int<|(a+1+t:Nat)]) ((set_own (AO rfl rfl (Hq rfl rfl (by rw[VX];show T.length+2<=_;lia)))).trans (by delta wR zs AI;simp only[ABQ,ABQ];rfl))];have e2:AQ (f2 Bw (f2 Ad (AB 7)<|AB 6)<|f2 Ad (fB Av<|AD (AB 2) AH)<|fC<|.int 1) (wR s r ks xs L (T ++ [(a,a+1+t),(a+1+t,b)]) [some<|.im<|.int<|a,some<|.im<|.int<|b,some<|.im<|.lst (F.map λt:Nat=>PV.int<|(a+1+t:Nat)),some<|.im<|.int<|(a+1+t:Nat)])=some (decide ((b:Int)-a<(r.length)-1)):=Aw (AO (AO rfl rfl<|Cq _ _) (AO (Bp (AL rfl<|AY _)<|by rw[Hs,By]) rfl<|Cq _ _)<|Ht _ _);have F1:Em (T ++ [(a,a+1+t),(a+1+t,b)])<Em (T ++ [(a,b)]):=by simp[Em];lia
  have l5:L.length<1000:=by
   rcases D.ct with⟨_,q⟩|q
   .rw[q];decide
   .lia
  by_cases q:(b:Int)-a<(r.length)-1
  .rw[ABq q]at e2;rw[AAl q]at D';rw[Bj e2,T6 rfl (AL rfl<|AY _) rfl (by rw[VX];exact l5)];refine⟨L ++ [(a,b)],_,[some<|.im<|.int<|a,some<|.im<|.int<|b,some<|.im<|.lst (F.map λt:Nat=>PV.int<|(a+1+t:Nat)),some<|.im<|.int<|(a+1+t:Nat)],?_,rfl,D',AAd,F1⟩
   delta wR zs AI
   rw[ABQ (l₁:=L),ABQ (l₁:=L.map zz)]
   rfl
  .rw[ABr q]at e2;rw[AAj q]at D';rw[BR e2];exact⟨L,_,_,rfl,rfl,D',AAd,F1⟩
 .rw[ABr U]at e1;rw[BR e1];refine⟨L,T,[some<|.im<|.int<|a,some<|.im<|.int<|b,x8,x9],rfl,rfl,D.drop h3 c,U,?_⟩;rw[oZ];simp[Em];lia
theorem c7:∀(f:Nat)(L T:List NN)(x:List<|Option SV),Dr r T L->Em T<f->T.length+2*Em T<=900->x.length=4->∃L' x',JW wT wG f (wR s r ks xs L T x)=some (.nx<|wR s r ks xs L' [] x')/\x'.length=4/\Dr r [] L'
 |0,_,_,_,_,hm,_,_=>absurd hm U
 |f+1,L,T,x,D,hm,hT,hx=>by
  have e0:wT (wR s r ks xs L T x)=some (decide ((0:Int)<(T.length))):=Aw (AO (Bp (AL rfl<|AY _)<|by rw[nS,VX]) rfl<|Gs _ _);unfold JW;rw[e0];rcases List.eq_nil_or_concat T with rfl|⟨T',⟨a,b⟩,rfl⟩
  .exact⟨L,x,rfl,hx,D⟩
  .rw[List.concat_eq_append]at *
   rw[ABq AAd];dsimp only;simp only[ABA,ABh]at hT;obtain⟨L',T2,x',e,E6,D',hl,CN⟩:=zE h hd D U x hx;rw[e];exact c7 f L' T2 x' D' U U E6
end
theorem aB:∀Q:List Pt,LU (AI Q)=some Q
 |[]=>rfl
 |q::Q=>by
  show(LU<|AI Q).map _=_;rw[aB Q]
  rfl
theorem kQ(Q:List Pt)(i:Nat)(hi:i<Q.length):(AI Q).getD i .Au=pv (Q.getD i (0,0)):=by
 unfold AI;rw[ABW,ABW,ABm,AA1 hi]
 rfl
def CG(Q:List Pt):List Pt:=(C2.ord Q).map λi=>Q.getD i (0,0)
theorem Uy{f:EF}{ρ:AX}{r:RV}{Q:List Pt}(e:f ρ=some r)(hl:r.list=some (AI Q))(Hj:Q.length<64)(nd:Q.Nodup):fB Hv (AD f AH) ρ=some (.fr<|AI<|CG Q):=by
 refine Bp (AL e<|AY _) ?_;unfold Hv;dsimp only;rw[hl];dsimp only;rw[aB];dsimp only;rw[AAl ⟨by rw[By];exact Hj,nd⟩];unfold CG;rw[show AI ((C2.ord Q).map λi=>Q.getD i (0,0))=(C2.ord Q).map λi=>pv (Q.getD i (0,0))by unfold AI;rw[ABO];rfl]
 congr 2
 exact ACU λi hi=>kQ Q i<|C2.UN nd i hi
theorem QS{Q:List Pt}(nd:Q.Nodup):(CG Q).Perm Q:=by have:=(C2.UO nd).map λi=>Q.getD i (0,0);rw[show(List.range Q.length).map (λi=>Q.getD i (0,0))=Q from List.ext_getElem AAd λi h1 h2=>by simp[List.getD,h2]]at this;exact this
theorem U2{Q:List Pt}(nd:Q.Nodup):(CG Q).Pairwise λp q=>D1 p.1 p.2 q.1 q.2=true:=by unfold CG;rw[ACJ];exact C2.qe nd
theorem Qn{e f:NN}(h:zz e=zz f):e=f:=by unfold zz at h;exact ABS U U
theorem dI{e f:NN}(h:¬ Xn e f):xB (zz e) (zz f)=false:=by
 unfold Xn at h
 delta xB zz
 simp only[ACo];lia
theorem Dr.cut{r:List Pt}{L:List NN}(D:Dr r [] L)(h3:3<=r.length):(L.map zz).Nodup/\(CG<|L.map zz).length=L.length/\L.length+3=r.length/\EG r (CG<|L.map zz)=true:=by
 have hl:L.length+3=r.length:=by
  rcases D.ct with⟨q,_⟩|q
  .contradiction
  .exact q
 have nd:(L.map zz).Nodup:=by unfold List.Nodup;rw[ACJ];exact D.nx.imp λ{a b} k e=>k.1<|Qn e
 have hp:=QS nd;have hz:(CG<|L.map zz).length=L.length:=by rw[hp.length_eq,AAi]
 have nx:∀e∈L,∀f∈L,¬ Xn e f:=λe he f hf=>by
  obtain⟨i,hi,rfl⟩:=ACN he;obtain⟨j,hj,rfl⟩:=ACN hf;have P:=ABV.mp D.nx;rcases AC0 i j with c|c|c
  .exact(P i j hi hj c).2
  .subst c;unfold Xn;omega
  .have:=(P j i hj hi c).2;unfold Xn at *
   omega
 refine⟨nd,hz,hl,?_⟩;unfold EG;rw[AAk,AAk,AAk,ABw];refine⟨U,⟨?_,?_⟩,?_⟩
 .refine ABK.mpr λk hk=>?_;have hk:=AAr.mp hk;unfold ltB;rw[show(k:Int)+1=((k+1:Nat))by lia,Eg (U:k<_),Eg (U:k+1<_)];exact ABV.mp (U2 nd) k (k+1) U U U
 .refine ABK.mpr λe he=>?_;obtain⟨f,hf,rfl⟩:=ABD.mp<|hp.mem_iff.mp he;exact(D.ln f hf).2.2
 .refine ABK.mpr λk hk=>?_;have hk:=AAr.mp hk;rw[ABJ,ACD];intro e he;obtain⟨f,hf,rfl⟩:=ABD.mp<|hp.mem_iff.mp<|AC5 he;obtain⟨g,hg,eg⟩:=ABD.mp (hp.mem_iff.mp (show AA (CG<|L.map zz) k∈CG (L.map zz)by rw[Eg hk];exact ACg hk));rw[<-eg,dI<|nx g hg f hf];exact AB7
theorem dg(s:List Int){r:List Pt}(h:Cw r=true):∃N:List Pt,Q0 [.rd<|A2 s,.int 20,.lst<|AI r]=some (.fr<|AI N)/\EG r N=true/\N.length+3=r.length:=by
 obtain⟨h3,DA,_⟩:=Gz h;obtain⟨ks,xs,ej,_,hd⟩:=dm h;obtain⟨L,x,ew,hx,D⟩:=c7 h hd 1000 [] [(0,r.length-1)] [none,none,none,none] ⟨λe he=>by rw[AA9]at he;subst he;exact⟨by dsimp only;lia,by dsimp only;lia,Mv.mpr<|.inr<|.inl U⟩,AAd,λe he=>(nomatch he),λe he=>(nomatch he),.nil,.inl ⟨rfl,rfl⟩⟩ (by simp[Em];lia) (by simp[Em];lia) rfl
 obtain⟨nd,hz,hl,hc⟩:=D.cut h3;refine⟨CG<|L.map zz,Bh rfl ?_,hc,U⟩;unfold Ws;rw[sq<|A8 (A3 (AL rfl<|AY _) rfl ej) rfl];rw[sq<|set_own<|EJ (AY _) rfl];have et:Ao (AD (fC<|.int 0)<|AD (f2 Ad (fB Av<|AD (AB 2) AH)<|fC<|.int 1) AH) (((A5 10 [.rd<|A2 s,.int 20,.lst<|AI r]).set 3<|some<|.im<|.Co ks xs).set 4<|some<|.own [])=some (.cl<|pv<|zz (0,r.length-1)):=(Ej (AL rfl<|AL (AO (Bp (AL rfl<|AY _)<|by rw[Hs,By]) rfl<|Cq _ _)<|AY _) rfl).trans (by delta pv zz;rw[show((r.length-1:Nat):Int)=(r.length)-1 by lia];rfl);rw[sq <|(set_own<|EJ (AL et<|AY _) rfl).trans rfl];refine(sq ew).trans ?_;exact KL<|Uy rfl rfl (by rw[AAi];lia) nd
end L2.EV
namespace BL
abbrev NN:=Nat×Nat
def X(e f:NN):Prop:=(e.1<f.1/\f.1<e.2/\e.2<f.2)\/(f.1<e.1/\e.1<f.2/\f.2<e.2)
noncomputable def mc(S:List NN)(i j:Nat):Nat:=S.countP λe=>decide (i<=e.1/\e.2<=j)
def jn(S:List NN)(i j:Nat):Prop:=j=i+1\/(i,j)∈S
structure Nx(S:List NN):Prop where
 nd:S.Nodup
 Bq:∀e∈S,e.1+1<e.2
 nx:∀e∈S,∀f∈S,¬ X e f
theorem countP_le{α}(p q r:α->Bool):∀l:List α,(∀x∈l,p x=true->q x=true\/r x=true)->l.countP p<=l.countP q+l.countP r
 |[],_=>AAd
 |x::l,h=>by
  have ih:=countP_le p q r l λy hy=>h y<|AAs _ hy;simp only[AD1,AD1,AD1];by_cases a:p x=true
  .rcases(h x AAu) a with b|b<;>rw[AAl a,AAl b]<;>lia
  .rw[AAj a];lia
theorem jo(S:List NN){i j:Nat}(h:i+1<j):∃c,i<c/\c<j/\jn S i c/\∀d,c<d->d<j->(i,d)∉S:=by
 suffices ∀k,i+1+k<j->(∀d,i+1+k<d->d<j->(i,d)∉S)->∃c,i<c/\c<j/\jn S i c/\∀d,c<d->d<j->(i,d)∉S from
  this (j-i-2) U λd a b=>U
 intro k
 induction k with
 |zero=>exact λa b=>⟨i+1,U,a,.inl rfl,b⟩
 |succ k ih=>
  intro a b;by_cases m:(i,i+1+(k+1))∈S
  .exact⟨_,U,a,.inr m,b⟩
  .refine ih U λd p q=>?_;by_cases e:d=i+1+(k+1)
   .rwa [e]
   .exact b d U q
theorem Nx.split{S:List NN}(N:Nx S){i j:Nat}(h:i+1<j):∃c,i<c/\c<j/\jn S i c/\∀e∈S,i<=e.1->e.2<=j->e=(i,j)\/e.2<=c\/c<=e.1:=by
 obtain⟨c,c1,c2,c3,c4⟩:=jo S h;refine⟨c,c1,c2,c3,λe he a b=>?_⟩;have h4:e.1=i->c<e.2->e.2<j->False:=λp q r=>c4 e.2 q r (by rw[<-p];exact he);rcases c3 with c3|c3
 .by_cases p:e.1=i
  .by_cases q:e.2=j
   .exact .inl<|ABS p q
   .right;left;have:=h4 p;lia
  .lia
 .have:=N.nx _ c3 e he;unfold X at this;by_cases p:e.1=i
  .by_cases q:e.2=j
   .exact .inl<|ABS p q
   .right;left;have:=h4 p;lia
  .dsimp only at this;lia
theorem WZ{S:List NN}(nd:S.Nodup)(e:NN):S.countP (λf=>decide (f=e))<=1:=by have:=List.nodup_iff_count.mp nd e;refine ABe (AER ?_) this;exact List.countP_congr λx _=>AAd
theorem Nx.cut{S:List NN}(N:Nx S){i j c:Nat}(hc:∀e∈S,i<=e.1->e.2<=j->e=(i,j)\/e.2<=c\/c<=e.1):mc S i j<=S.countP (λf=>decide (f=(i,j)))+(mc S i c+mc S c j):=by
 have a:=countP_le (λe=>decide (i<=e.1/\e.2<=j)) (λf=>decide (f=(i,j))) (λe=>decide (i<=e.1/\e.2<=c)||decide (c<=e.1/\e.2<=j)) S λe he h=>by
  simp only[decide_eq_true_eq,ABb]at h ⊢;rcases hc e he h.1 h.2 with z|z|z
  .exact .inl z
  .exact .inr<|.inl ⟨h.1,z⟩
  .exact .inr<|.inr ⟨z,h.2⟩
 have b:=countP_le (λe:NN=>decide (i<=e.1/\e.2<=c)||decide (c<=e.1/\e.2<=j)) (λe=>decide (i<=e.1/\e.2<=c)) (λe=>decide (c<=e.1/\e.2<=j)) S λe _ h=>by simpa using h
 unfold mc;lia
theorem Nx.le{S:List NN}(N:Nx S):∀(k i j:Nat),j-i<=k->i<j->mc S i j<=j-i-1
 |0,i,j,h,h'=>U
 |k+1,i,j,h,h'=>by
  by_cases g:i+1<j
  .obtain⟨c,c1,c2,_,c4⟩:=N.split g;have:=N.cut c4;have:=WZ N.nd (i,j);have:=N.le k i c U c1;have:=N.le k c j U c2;lia
  .have:mc S i j=0:=ADD.mpr λe he z=>by have:=N.Bq e he;simp only[decide_eq_true_eq]at z;lia
   lia
def full(S:List NN)(i j:Nat):Prop:=mc S i j=j-i-1
theorem Nx.Oc{S:List NN}(N:Nx S){i j:Nat}(h:i<j)(f:full S i j):jn S i j:=by
 by_cases g:i+1<j
 .right;by_cases m:(i,j)∈S
  .exact m
  .obtain⟨c,c1,c2,_,c4⟩:=N.split g;have a:=N.cut c4;have b:=N.le (c-i) i c U c1;have d:=N.le (j-c) c j U c2;have:S.countP (λf=>decide (f=(i,j)))=0:=ADD.mpr λe he z=>m (by simp only[decide_eq_true_eq]at z;rwa [<-z]);unfold full at f;lia
 .exact .inl U
theorem Nx.Je{S:List NN}(N:Nx S){i j:Nat}(g:i+1<j)(f:j-i-1<=mc S i j+1/\(i,j)∉S\/full S i j):∃c,i<c/\c<j/\full S i c/\full S c j/\∀e∈S,i<=e.1->e.2<=j->e=(i,j)\/e.2<=c\/c<=e.1:=by
 obtain⟨c,c1,c2,_,c4⟩:=N.split g;have a:=N.cut c4;have b:=N.le (c-i) i c U c1;have d:=N.le (j-c) c j U c2;have o:=WZ N.nd (i,j);refine⟨c,c1,c2,?_,?_,c4⟩<;>unfold full at *
 all_goals
  rcases f with⟨f,m⟩|f
  .have:S.countP (λf=>decide (f=(i,j)))=0:=ADD.mpr λe he z=>m (by simp only[decide_eq_true_eq]at z;rwa [<-z]);lia
  .lia
structure Ct(n:Nat)(S:List NN):Prop extends Nx S where
 lt:∀e∈S,e.2<n
 rt:(0,n-1)∉S
 ln:S.length+3=n
def J(n:Nat)(S:List NN)(i j:Nat):Prop:=j=i+1\/(i,j)∈S\/(i=0/\j=n-1)
def JJ(n:Nat)(S:List NN)(i j:Nat):Prop:=(i<j/\J n S i j)\/(j<i/\J n S j i)
theorem jn.J{n:Nat}{S:List NN}{i j:Nat}(h:jn S i j):J n S i j:=h.elim .inl λh=>.inr<|.inl h
theorem Ct.nX{n:Nat}{S:List NN}(C:Ct n S){e:NN}(he:e∈S){u v:Nat}(h:J n S u v):¬ X e (u,v):=by
 have b:=C.lt e he;rcases h with h|h|h
 .unfold X;lia
 .exact C.nx e he _ h
 .unfold X;lia
theorem Ct.TY{n:Nat}{S:List NN}(_:Ct n S){u v w:Nat}(h:J n S u v)(h1:u<w)(h2:w<v)(h3:0<u\/v<n-1):(u,v)∈S:=by
 rcases h with h|h|h
 .lia
 .exact h
 .lia
theorem Ct.down{n:Nat}{S:List NN}(C:Ct n S){a b:Nat}(ab:a<b)(h:jn S a b):∀(k i j:Nat),j-i<=k->i+1<j->j<n->J n S i j->(j-i-1<=mc S i j+1/\(i,j)∉S\/full S i j)->i<=a->b<=j->(a,b)≠(i,j)->full S a b/\∃d,d<n/\(d<a\/b<d)/\JJ n S d a/\JJ n S d b
 |0,i,j,h1,h2,_,_,_,_,_,_=>U
 |k+1,i,j,h1,h2,h3,h4,h5,h6,h7,h8=>by
  obtain⟨c,c1,c2,c3,c4,c5⟩:=C.Je h2 h5;have s:b<=c\/c<=a:=by
   rcases h with h|h
   .lia
   .rcases c5 _ h h6 h7 with z|z
    .exact absurd z h8
    .exact z
  have j1:=C.Oc c1 c3;have j2:=C.Oc c2 c4;rcases s with s|s
  .by_cases e:(a,b)=(i,c)
   .obtain⟨rfl,rfl⟩:=ADC e;exact⟨c3,j,h3,.inr c2,.inr ⟨U,h4⟩,.inr ⟨c2,j2.J⟩⟩
   .have:i+1<c:=by
     rcases AEZ (i+1) c with z|z
     .exact z
     .exact absurd (ABS (by dsimp only;lia) (by dsimp only;lia)) e
    exact C.down ab h k i c U this U j1.J (.inr c3) h6 s e
  .by_cases e:(a,b)=(c,j)
   .obtain⟨rfl,rfl⟩:=ADC e;exact⟨c4,i,U,.inl c1,.inl ⟨c1,j1.J⟩,.inl ⟨U,h4⟩⟩
   .have:c+1<j:=by
     rcases AEZ (c+1) j with z|z
     .exact z
     .exact absurd (ABS (by dsimp only;lia) (by dsimp only;lia)) e
    exact C.down ab h k c j U this h3 j2.J (.inr c4) s h7 e
theorem Ct.whole{n:Nat}{S:List NN}(C:Ct n S):mc S 0 (n-1)=S.length:=by exact List.countP_eq_length.mpr λe he=>by have:=C.lt e he;lia
theorem Ct.root{n:Nat}{S:List NN}(C:Ct n S):n-1-0-1<=mc S 0 (n-1)+1/\(0,n-1)∉S:=by have:=C.whole;have:=C.ln;exact⟨U,C.rt⟩
theorem Ct.Z6{n:Nat}{S:List NN}(C:Ct n S){a b t d:Nat}(ab:a<b)(td:t<d)(dn:d<n)(bn:b<n)(ht:t<a\/b<t)(hd:d<a\/b<d)(ta:JJ n S t a)(tb:JJ n S t b)(da:JJ n S d a)(db:JJ n S d b):False:=by
 have x:∀{u v x y w},J n S u v->J n S x y->u<w->w<v->v<n-1->¬ X (u,v) (x,y):=λh h' a b c=>C.nX (C.TY h a b<|.inr c) h';rcases ht with ht|ht
 .have ta:J n S t a:=by rcases ta with z|z;exact z.2;lia
  have tb:J n S t b:=by rcases tb with z|z;exact z.2;lia
  rcases hd with hd|hd
  .have db:J n S d b:=by rcases db with z|z;exact z.2;lia
   exact x ta db td hd U (by unfold X;lia)
  .have da:J n S a d:=by rcases da with z|z;lia;exact z.2
   exact x tb da ht ab U (by unfold X;lia)
 .have ta:J n S a t:=by rcases ta with z|z;lia;exact z.2
  have db:J n S b d:=by rcases db with z|z;lia;exact z.2
  exact x ta db ab ht U (by unfold X;lia)
theorem Ct.cJ{n:Nat}{S:List NN}(C:Ct n S){a b:Nat}(h:(a,b)∈S):∃p q,p<q/\q<n/\X (a,b) (p,q)/\∀t,JJ n S t a/\JJ n S t b↔t=p\/t=q:=by
 have f:=C.Bq _ h;have l:=C.lt _ h;dsimp only at f l;have n3:=C.ln;obtain⟨fu,d,d0,d1,d2,d3⟩:=C.down U (.inr h) (n-1) 0 (n-1) U U U (.inr<|.inr ⟨rfl,rfl⟩) (.inl C.root) U U λe=>C.rt (by rw[<-e];exact h)
 obtain⟨c,c1,c2,c3,c4,_⟩:=C.Je f<|.inr fu;have j1:J n S a c:=(C.Oc c1 c3).J;have j2:J n S c b:=(C.Oc c2 c4).J;have u:∀t,JJ n S t a/\JJ n S t b->t=c\/t=d:=by
  rintro t ⟨ta,tb⟩;unfold JJ at ta tb d2 d3;by_cases i:a<t/\t<b
  .left;have ta:J n S a t:=by rcases ta with z|z;lia;exact z.2
   have tb:J n S t b:=by rcases tb with z|z;exact z.2;lia
   rcases AC0 t c with z|z|z
   .have m1:=C.TY j1 i.1 z U;have:=C.nX m1 tb;unfold X at this;dsimp only at this;lia
   .exact z
   .have:=C.nX (C.TY ta c1 z U) j2;unfold X at this;dsimp only at this;lia
  .right;have tl:t<n:=by
    rcases ta with⟨z,_⟩|⟨z,w⟩
    .lia
    .rcases w with w|w|w
     .lia
     .have:=C.lt _ w;exact this
     .lia
   have to:t<a\/b<t:=U
   rcases AC0 t d with z|z|z
   .exact(C.Z6 U z d0 l to d1 ta tb d2 d3).elim
   .exact z
   .exact(C.Z6 U z tl l d1 to d2 d3 ta tb).elim
 have tc:JJ n S c a/\JJ n S c b:=⟨.inr ⟨c1,j1⟩,.inl ⟨c2,j2⟩⟩;rcases d1 with d1|d1
 .exact⟨d,c,U,U,by unfold X;lia,λt=>⟨λz=>(u t z).symm,λz=>by rcases z with rfl|rfl;exact⟨d2,d3⟩;exact tc⟩⟩
 .exact⟨c,d,U,AAg,by unfold X;lia,λt=>⟨λz=>u t z,λz=>by rcases z with rfl|rfl;exact tc;exact⟨d2,d3⟩⟩⟩
theorem J.mono{n:Nat}{S S':List NN}{i j:Nat}(h:J n S i j)(hs:∀e∈S,e=(i,j)->e∈S'):J n S' i j:=by
 rcases h with h|h|h
 .exact .inl h
 .exact .inr<|.inl<|hs _ h rfl
 .exact .inr<|.inr h
theorem Ct.turn{n:Nat}{S T:List NN}(C:Ct n S){a b p q:Nat}(h:(a,b)∈S)(pq:p<q)(qn:q<n)(hx:X (a,b) (p,q))(ht:∀t,JJ n S t a/\JJ n S t b↔t=p\/t=q)(hT:T.Perm ((p,q)::S.filter λe=>e != (a,b))):Ct n T/\∀t,JJ n T t p/\JJ n T t q↔t=a\/t=b:=by
 have f:=C.Bq _ h;have l:=C.lt _ h;dsimp only at f l;obtain⟨pa,pb⟩:=(ht p).mpr<|.inl rfl;obtain⟨qa,qb⟩:=(ht q).mpr<|.inr rfl;have mT:∀e,e∈T↔e=(p,q)\/(e∈S/\e≠(a,b)):=λe=>by rw[hT.mem_iff,AAy,ABg,AEH]
 have no:=λm=>C.nx _ h _ m hx;have nX:∀e∈S,e≠(a,b)->¬ X e (p,q):=λe he hn z=>by
  have s:∀{u v},JJ n S u v->(u<v->¬ X e (u,v))/\(v<u->¬ X e (v,u)):=λj=>by
   rcases j with⟨c,j⟩|⟨c,j⟩
   .exact⟨λ_=>C.nX he j,λ_=>U⟩
   .exact⟨λ_=>U,λ_=>C.nX he j⟩
  have a1:=s pa;have a2:=s pb;have a3:=s qa;have a4:=s qb;have a5:=C.nx _ he _ h;have e1:=C.Bq e he;have e2:e.1<a\/a<e.1\/e.2<b\/b<e.2:=by have:¬ (e.1=a/\e.2=b):=λw=>hn<|ABS w.1 w.2;lia
  unfold X at *
  dsimp only at *
  generalize e.1=x at *
  generalize e.2=y at *
  rcases hx with hx|hx
  .have a1:=a1.2 hx.1
   replace a2:=a2.1 hx.2.1
   replace a3:=a3.2 U
   replace a4:=a4.2 hx.2.2
   rcases z with z|z<;>lia
  .have a1:=a1.1 hx.1
   replace a2:=a2.1 U
   replace a3:=a3.2 hx.2.1
   replace a4:=a4.1 hx.2.2
   rcases z with z|z<;>lia
 have C':Ct n T:=by
  refine⟨⟨?_,λe he=>?_,λe he g hg=>?_⟩,λe he=>?_,λm=>?_,?_⟩
  .refine hT.symm.nodup<|ACK.mpr ⟨λm=>no (ABg.mp m).1,C.nd.filter _⟩
  .rcases(mT e).mp he with rfl|⟨z,_⟩
   .unfold X at hx;dsimp only at *;lia
   .exact C.Bq e z
  .rcases(mT e).mp he with rfl|⟨z,z'⟩<;>rcases(mT g).mp hg with rfl|⟨y,y'⟩
   .unfold X;lia
   .exact λw=>nX g y y' (by unfold X at *;lia)
   .exact nX e z z'
   .exact C.nx e z g y
  .rcases(mT e).mp he with rfl|⟨z,_⟩
   .exact qn
   .exact C.lt e z
  .rcases(mT _).mp m with e|⟨z,_⟩
   .obtain⟨rfl,rfl⟩:=ADC e;unfold X at hx;dsimp only at *;lia
   .exact C.rt z
  .rw[hT.length_eq,AA6];have:=C.ln;have:(S.filter λe=>e != (a,b)).length+1=S.length:=by rw[<-C.nd.erase_eq_filter,ADu h];have:=ACw h;lia
   lia
 refine⟨C',?_⟩;obtain⟨p',q',c1,c2,_,c4⟩:=C'.cJ<|(mT (p,q)).mpr<|.inl rfl;have k:∀{u v},JJ n S u v->(u<v/\(u,v)≠(a,b))\/(v<u/\(v,u)≠(a,b))->JJ n T v u:=λ{u v} j z=>by
  have m:∀{x y},(x,y)≠(a,b)->∀e∈S,e=(x,y)->e∈T:=λw e he h=>(mT e).mpr (.inr ⟨he,by rw[h];exact w⟩);rcases j with⟨c,j⟩|⟨c,j⟩
  .exact .inr ⟨c,j.mono<|m (by rcases z with z|z;exact z.2;lia)⟩
  .exact .inl ⟨c,j.mono<|m (by rcases z with z|z;lia;exact z.2)⟩
 have hp:p≠a/\p≠b/\q≠a/\q≠b:=by unfold X at hx;dsimp only at hx;lia
 have w:∀{u v},u≠v->u≠a/\u≠b->(u<v/\(u,v)≠(a,b))\/(v<u/\(v,u)≠(a,b)):=λ{u v} h1 h2=>by
  rcases Nat.lt_or_gt_of_ne h1 with z|z
  .exact .inl ⟨z,λe=>h2.1 (ADC e).1⟩
  .exact .inr ⟨z,λe=>h2.2 (ADC e).2⟩
 have ta:=(c4 a).mp ⟨k pa<|w hp.1 ⟨hp.1,hp.2.1⟩,k qa<|w hp.2.2.1 hp.2.2⟩;have tb:=(c4 b).mp ⟨k pb<|w hp.2.1 ⟨hp.1,hp.2.1⟩,k qb<|w hp.2.2.2 hp.2.2⟩;intro t;rw[c4];lia
end BL
namespace L2.EV
open L2.PL L2.K
open AM (AG An BD BW AA M nb Rm)
theorem gE{a b c:Pt}(h:D1 a.1 a.2 b.1 b.2=true)(h':D1 b.1 b.2 c.1 c.2=true):D1 a.1 a.2 c.1 c.2=true:=by
 unfold D1 at *
 lia
theorem Wd{r N:List Pt}(hc:EG r N=true):N.Pairwise λp q=>D1 p.1 p.2 q.1 q.2=true:=by
 unfold EG at hc;simp only[AAk]at hc;have st:∀k,(h:k+1<N.length)->D1 N[k].1 N[k].2 N[k+1].1 N[k+1].2=true:=λk h=>by have:=(ABK.mp hc.2.1.1) k<|AAr.mpr AAc;unfold ltB at this;rw[show(k:Int)+1=((k+1:Nat))by lia,Eg (AAc:k<_),Eg h]at this;exact this
 refine ABV.mpr λi j hi hj Bm=>?_
 induction j with
 |zero=>lia
 |succ j ih=>
  by_cases e:i=j
  .subst e;exact st i hj
  .exact gE (ih U U)<|st j hj
theorem iF{r N:List Pt}(hc:EG r N=true):∃S:List NN,N=S.map zz/\BL.Ct r.length S:=by
 have up:=Wd hc;unfold EG at hc;simp only[AAk,ABw]at hc;obtain⟨hl,⟨_,h2⟩,h3⟩:=hc;have ln:∀e∈N,0<=e.1/\e.1<e.2/\e.2<r.length/\e.2-e.1≠1/\e.2-e.1≠(r.length)-1:=λe he=>by have:=ABK.mp h2 e he;unfold DE FQ at this;simp only[AAk,decide_eq_true_eq,ABJ,ABN,AA7]at this;exact⟨this.1.1.1,this.1.1.2.1,this.1.1.2.2,this.1.2⟩
 have en:N=(N.map λe=>(e.1.toNat,e.2.toNat)).map zz:=by rw[ABO];refine(AEd N).symm.trans (ACU λe he=>?_);have:=ln e he;unfold zz;exact ABS (by dsimp only[Function.comp];lia) (by dsimp only[Function.comp];lia)
 refine⟨_,en,⟨⟨?_,λe he=>?_,?_⟩,λe he=>?_,λm=>?_,by rw[AAi];lia⟩⟩
 .unfold List.Nodup;rw[ACJ];refine up.imp_of_mem λ{a b} ha hb c e=>?_;have:=ln a ha;unfold D1 at c;simp only[decide_eq_true_eq]at c;lia
 .obtain⟨a,ha,rfl⟩:=ABD.mp he;have:=ln a ha;dsimp only;lia
 .have nx:∀i j,(hi:i<N.length)->(hj:j<N.length)->i<j->xB N[j] N[i]=false:=λi j hi hj Bm=>by have:=ABK.mp h3 j<|AAr.mpr hj;rw[ABJ,ACD,Eg hj]at this;exact ACz.mpr<|this _<|List.mem_take_iff_getElem.mpr ⟨i,U,rfl⟩
  have pI:∀a∈N,∀b∈N,xB a b=false:=λa ha b hb=>by
   obtain⟨i,hi,rfl⟩:=ACN ha;obtain⟨j,hj,rfl⟩:=ACN hb;rcases AC0 i j with c|c|c
   .rw[zQ];exact nx i j hi hj c
   .subst c;unfold xB;simp
   .exact nx j i hj hi c
  intro e he f hf z;obtain⟨a,ha,rfl⟩:=ABD.mp he;obtain⟨b,hb,rfl⟩:=ABD.mp hf;have:=pI a ha b hb;have:=ln b hb;unfold xB at *
  unfold BL.X at z;simp only[ABN,Bool.and_eq_false_iff,ACo]at *
  lia
 .obtain⟨a,ha,rfl⟩:=ABD.mp he;have:=ln a ha;dsimp only;lia
 .obtain⟨a,ha,e⟩:=ABD.mp m;have:=ln a ha;lia
theorem iB{r N:List Pt}{S:List NN}(C:BL.Ct r.length S)(ln:∀e∈S,DE r e.1 e.2=true)(hp:N.Perm<|S.map zz)(up:N.Pairwise λp q=>D1 p.1 p.2 q.1 q.2=true):EG r N=true:=by
 have hl:=hp.length_eq;rw[AAi]at hl;have h3:=C.ln;unfold EG;rw[AAk,AAk,AAk,ABw];refine⟨U,⟨?_,?_⟩,?_⟩
 .refine ABK.mpr λk hk=>?_;have hk:=AAr.mp hk;unfold ltB;rw[show(k:Int)+1=((k+1:Nat))by lia,Eg (U:k<_),Eg (U:k+1<_)];exact ABV.mp up k (k+1) U U U
 .refine ABK.mpr λe he=>?_;obtain⟨f,hf,rfl⟩:=ABD.mp<|hp.mem_iff.mp he;exact ln f hf
 .refine ABK.mpr λk hk=>?_;have hk:=AAr.mp hk;rw[ABJ,ACD];intro e he;obtain⟨f,hf,rfl⟩:=ABD.mp<|hp.mem_iff.mp<|AC5 he;obtain⟨g,hg,eg⟩:=ABD.mp (hp.mem_iff.mp (show AA N k∈N by rw[Eg hk];exact ACg hk));rw[<-eg,dI<|C.nx g hg f hf];exact AB7
theorem nD(N:List Pt)(a:Pt):inD (AI N) (pv a)=decide (a∈N):=by
 delta inD AI
 rw[ACW,AB5];simp only[List.any_eq_true,Function.comp,OM,decide_eq_true_eq];exact⟨(by rintro⟨x,hx,e⟩;exact e ▸ hx),λhx=>⟨a,hx,rfl⟩⟩
theorem My(neg:Bool)(N:List Pt)(a:Pt):CD neg (.cl<|pv a) (.cl<|.lst<|AI N)=some (.cl (.bl (if neg=true then !decide (a∈N)else decide (a∈N)))):=by
 have:Lc (AI N)=true:=by delta Lc AI;simp[Ld]
 show(if PySem.SeqAt.shaped (Al<|pv a)=true/\Lc (AI N)=true then some (RV.cl (.bl (if neg=true then !inD (AI N) (pv a)else inD (AI N) (pv a))))else none)=_;rw[AAl ⟨Ld _,this⟩,nD]
def LA(n:Nat)(N:List Pt)(i j:Nat):Bool:=nb (n:Int) ((j:Int)-(i:Int))||decide ((min (i:Int) j,max (i:Int) j)∈N)
theorem Vd{n:Nat}(N:List Pt)(h0:0<n)(i j:Nat):Lq [.int<|n,.lst<|AI N,.int<|i,.int<|j]=some (.cl<|.bl<|LA n N i j):=by refine Bh rfl ?_;refine Cb<|Kt (A3 (AL rfl<|AL rfl<|AL rfl<|AY _) rfl<|Q7 U) λ_=>?_;refine AO ?_ rfl (My false _ _);exact Ej (AL (Bp (AL rfl<|AL rfl<|AY _)<|Pa _ _)<|AL (Bp (AL rfl<|AL rfl<|AY _)<|LC _ _)<|AY _) rfl
theorem o4{n i j:Nat}(h3:3<=n)(hi:i<n)(hj:j<n):nb (n) ((j)-i)=true↔j=i+1\/i=j+1\/(i=0/\j=n-1)\/(j=0/\i=n-1):=by
 unfold AM.nb;rw[ABb,ABw,ABw];by_cases c:i<=j
 .rw[AAh U U];lia
 .rw[<-ADm,AAh U U];lia
theorem Pu{S:List NN}{a b:Nat}:((a:Int),(b:Int))∈S.map zz↔(a,b)∈S:=by rw[ABD];exact⟨(by rintro⟨e,he,z⟩;rwa [<-Qn (f:=(a,b)) z]),λh=>⟨_,h,rfl⟩⟩
theorem Y1{n:Nat}{S:List NN}(C:BL.Ct n S){i j:Nat}(hi:i<n)(hj:j<n):LA n (S.map zz) i j=true↔BL.JJ n S i j:=by
 have h3:=C.ln
 delta LA BL.JJ BL.J
 simp only[ABb,o4 U hi hj,decide_eq_true_eq];rcases AC0 i j with c|c|c
 .rw[Int.min_eq_left U,Int.max_eq_right U,Pu];lia
 .subst c;rw[Int.min_eq_left U,Int.max_eq_right U,Pu];have:(i,i)∉S:=λm=>by have:=C.Bq _ m;lia
  lia
 .rw[Int.min_eq_right U,Int.max_eq_left U,Pu];lia
theorem jq{P:Nat->Bool}:∀{n p q:Nat},p<q->q<n->(∀t,t<n->(P t=true↔t=p\/t=q))->(List.range n).filter P=[p,q]:=by
 have z:∀n,(∀t,t<n->P t=false)->(List.range n).filter P=[]:=λn h=>ADV.mpr λt ht e=>by rw[h t<|AAr.mp ht]at e;contradiction
 have s1:∀n,[n].filter P=if P n=true then[n]else[]:=λn=>by simp only[AC6,List.filter_nil]
 have one:∀n p,p<n->(∀t,t<n->(P t=true↔t=p))->(List.range n).filter P=[p]:=λn=>by
  induction n with
  |zero=>intro p h;lia
  |succ n ih=>
   intro p h k;rw[ACL,ADn,s1];by_cases e:p=n
   .subst e;rw[z p λt ht=>ACz.mpr λq=>by have:=(k t U).mp q;lia,AAl<|(k p h).mpr rfl]
    rfl
   .rw[ih p U λt ht=>k t U,AAj λq=>e ((k n U).mp q).symm,ABs]
 intro n
 induction n with
 |zero=>intro p q _ h;lia
 |succ n ih=>
  intro p q pq h k;rw[ACL,ADn,s1];by_cases e:q=n
  .subst e;rw[one q p pq λt ht=>by rw[k t U];lia,AAl<|(k q h).mpr<|.inr rfl]
   rfl
  .rw[ih pq U λt ht=>k t U,AAj λz=>by have:=(k n U).mp z;lia,ABs]
theorem eG{n:Nat}(N:List Pt)(h0:0<n)(h1:n<=1000)(a b:Nat):Ny [.int<|n,.lst<|AI N,pv<|zz (a,b)]=some (.fr (((List.range n).filter λt=>LA n N t b&&LA n N t a).map λt:Nat=>PV.int<|t)):=by
 refine Bh rfl ?_;unfold XA;have e1:BI (Bu<|AD (AB 0) AH) 1 [0,1,2] (Ae 0) (AQ<|AS Lq<|AD (AB 1)<|AD (AB 2)<|AD (AB 0)<|AD (f2 AJ (AB 3)<|fC<|.int 0) AH) (AB 0) (A5 4 [.int<|n,.lst<|AI N,pv<|zz (a,b)])=some (.fr (((List.range n).filter λt=>LA n N t a).map λt:Nat=>PV.int<|t)):=
  DM (D4 (AL rfl<|AY _) h1) (by rw[AAi,ABd];exact h1) (FP λt _=>⟨_,rfl,Aw<|A3 rfl rfl<|Vd N h0 t a,λ_=>⟨_,rfl,rfl⟩⟩)
 rw[sq<|A8 e1 rfl];rw[<-List.filter_filter];refine KL<|DM (Eh rfl rfl) ?_ (FP λt _=>⟨_,rfl,Aw<|A3 rfl rfl<|Vd N h0 t b,λ_=>⟨_,rfl,rfl⟩⟩);rw[AAi];exact ABe (ACY _ _) (by rw[ABd];exact h1)
theorem yN{n:Nat}{S:List NN}(C:BL.Ct n S)(h1:n<=1000){a b p q:Nat}(BA:(a,b)∈S)(pq:p<q)(qn:q<n)(ht:∀t,BL.JJ n S t a/\BL.JJ n S t b↔t=p\/t=q):Ny [.int<|n,.lst<|AI<|S.map zz,pv<|zz (a,b)]=some (.fr [.int<|p,.int<|q]):=by
 have:=C.Bq _ BA;have bn:=C.lt _ BA;dsimp only at this bn;rw[eG _ U h1,jq pq qn λt tn=>by rw[AAk,Y1 C tn bn,Y1 C tn U,<-ht,and_comm]]
 rfl
theorem Vi{r:List Pt}{S:List NN}(C:BL.Ct r.length S)(h1:r.length<=1000){a b p q:Nat}(BA:(a,b)∈S)(pq:p<q)(qn:q<r.length)(ht:∀t,BL.JJ r.length S t a/\BL.JJ r.length S t b↔t=p\/t=q):Nu [.lst<|AI r,.lst<|AI<|S.map zz,pv<|zz (a,b)]=some (.cl<|pv<|zz (p,q)):=by refine Bh rfl ?_;unfold W7;rw[sq<|A8 (A3 (AL (Bp (AL rfl<|AY _)<|by rw[Hs,By]) rfl) rfl<|yN C h1 BA pq qn ht) rfl];exact Cb<|Ej (ps:=[.int<|p,.int<|q]) (AL (AO rfl rfl rfl)<|AL (AO rfl rfl rfl)<|AY _) rfl
theorem dZ{r:List Pt}(h:Cw r=true){S:List NN}(C:BL.Ct r.length S)(h1:r.length<=1000){a b p q:Nat}(BA:(a,b)∈S)(pq:p<q)(qn:q<r.length)(ht:∀t,BL.JJ r.length S t a/\BL.JJ r.length S t b↔t=p\/t=q):Lr [.lst<|AI r,.lst<|AI<|S.map zz,pv<|zz (a,b)]=some (.cl<|.bl<|DE r p q):=by refine Bh rfl ?_;unfold Wj;rw[sq<|A8 (A3 rfl rfl<|Vi C h1 BA pq qn ht) rfl];rw[<-ZP h];exact Cb<|A3 rfl rfl<|Vc h _ _
theorem ZA(a b:Pt):BP (.cl<|pv a) (.cl<|pv b)=some (.cl<|.bl (!decide (a=b))):=by exact(AAl ⟨Ld a,Ld b⟩).trans (ACE (λb=>some<|RV.cl<|PV.bl (!b))<|OM a b)
noncomputable def Qf(e:Pt):NN:=(e.1.toNat,e.2.toNat)
theorem yx(S:List NN):(S.map zz).map Qf=S:=by rw[ABO];exact AEd S
theorem xI{N Q:List Pt}(nd:Q.Nodup)(hp:N.Perm Q)(up:N.Pairwise λp q=>D1 p.1 p.2 q.1 q.2=true):CG Q=N:=
 List.Perm.eq_of_pairwise (λa b _ _ h h'=>by
  unfold D1 at *
  rw[decide_eq_true_eq]at *
  exact ABS U U) (U2 nd) up ((QS nd).trans hp.symm)
noncomputable def Ea(N:List Pt)(l o:Pt):List Pt:=(N.filter λe=>!decide (e=l)) ++ [o]
theorem cM(S:List NN)(l o:NN):Ea (S.map zz) (zz l) (zz o)=((S.filter λe=>e != l) ++ [o]).map zz:=by
 unfold Ea;simp only[List.filter_map,ABQ]
 congr 2
 refine List.filter_congr λe _=>?_;show(!decide (zz e=zz l)) = !(e==l)
 congr 1
 rw[AB5,decide_eq_true_eq,ABw];exact⟨Qn,λh=>by rw[h]⟩
section
variable{r:List Pt}(h:Cw r=true){S:List NN}(C:BL.Ct r.length S){a b p q:Nat}(BA:(a,b)∈S)(pq:p<q)(qn:q<r.length)(hx:BL.X (a,b) (p,q))(ht:∀t,BL.JJ r.length S t a/\BL.JJ r.length S t b↔t=p\/t=q)
include C BA pq qn hx ht
theorem Qc:∃T:List NN,CG (Ea (S.map zz) (zz (a,b))<|zz (p,q))=T.map zz/\(Ea (S.map zz) (zz (a,b))<|zz (p,q)).Nodup/\T.Perm ((p,q)::S.filter λe=>e != (a,b))/\(T.map zz).Pairwise (λp q=>D1 p.1 p.2 q.1 q.2=true):=by
 rw[cM];generalize hQ:(S.filter λe=>e != (a,b)) ++ [(p,q)]=Q;have pQ:Q.Perm ((p,q)::S.filter λe=>e != (a,b)):=by rw[<-hQ];exact ADo _ _
 have nd:(Q.map zz).Nodup:=by unfold List.Nodup;rw[ACJ];exact(pQ.symm.nodup ((C.turn BA pq qn hx ht<|AEE _).1).nd).imp λ{a b} k e=>k<|Qn e
 have e:((CG<|Q.map zz).map Qf).map zz=CG (Q.map zz):=by
  rw[ABO];refine(ACU λx hx=>?_).trans (AEd _);obtain⟨y,_,rfl⟩:=ABD.mp<|(QS nd).mem_iff.mp hx
  rfl
 refine⟨(CG<|Q.map zz).map Qf,e.symm,nd,?_,by rw[e];exact U2 nd⟩;have:=(QS nd).map Qf;rw[yx]at this;exact this.trans pQ
theorem dY(h1:r.length<=60):RA [.lst<|AI r,.lst<|AI<|S.map zz,pv<|zz (a,b)]=some (.fr<|AI<|CG<|Ea (S.map zz) (zz (a,b))<|zz (p,q)):=by
 obtain⟨T,_,nd,pT,_⟩:=Qc C BA pq qn hx ht;have hl:=C.ln;have ql:(Ea (S.map zz) (zz (a,b))<|zz (p,q)).length<64:=by unfold Ea;simp only[ABA,ABh];have:=ACY (λe=>!decide (e=zz (a,b)))<|S.map zz;rw[AAi]at this;lia
 refine Bh rfl ?_;unfold XC;have e1:BI (BG false<|AB 1) 1 [2] (Ae 0) (AQ<|f2 BP (AB 0)<|AB 1) (AB 0) (A5 4 [.lst<|AI r,.lst<|AI<|S.map zz,pv<|zz (a,b)])=some (.fr<|AI<|(S.map zz).filter λe=>!decide (e=zz (a,b))):=
  DM (Eh rfl rfl) (by rw[By,AAi];lia) (FP λe _=>⟨_,rfl,Aw<|AO rfl rfl<|ZA _ _,λ_=>⟨_,rfl,rfl⟩⟩)
 rw[sq<|A8 e1 rfl];refine KL<|Uy (r:=.fr<|AI<|Ea (S.map zz) (zz (a,b))<|zz (p,q)) (AO rfl (EJ (AL (A3 rfl rfl<|Vi C U BA pq qn ht)<|AY _) rfl) ?_) rfl ql nd;unfold Ea;rw[show AI (((S.map zz).filter λe=>!decide (e=zz (a,b))) ++ [zz (p,q)])=AI ((S.map zz).filter λe=>!decide (e=zz (a,b))) ++ [pv<|zz (p,q)]by unfold AI;rw[ABQ];rfl];refine Hq rfl rfl ?_;rw[By,ABh];have:=ACY (λe=>!decide (e=zz (a,b)))<|S.map zz;rw[AAi]at this;lia
end
section
variable{r N:List Pt}(h:Cw r=true)(hN:N.length<=1000)
include h
theorem Ro{ρ:AX}(e:AB 0 ρ=some (.cl<|.lst<|AI r)):HE Nm RN (AD (AB 0) AH) ρ=some (.o<|.nx ρ):=dM (AL e<|AY _) rfl<|dc h
include hN
theorem Rp(hc:EG r N=true){i:Nat}{ρ:AX}(e:AB 0 ρ=some (.cl<|.lst<|AI r))(e1:AB i ρ=some (.cl<|.lst<|AI N)):HE Qv RM (AD (AB 0)<|AD (AB i) AH) ρ=some (.o<|.nx ρ):=by refine dM (AL e<|AL e1<|AY _) rfl<|Wf (ρ:=A5 2 [.lst<|AI r,.lst<|AI N]) rfl ?_;have et:=D3<|Aw<|A3 (ρ:=A5 2 [.lst<|AI r,.lst<|AI N]) (AL (f:=AB 0) rfl<|AL (f:=AB 1) rfl<|AY _) rfl<|df h hN;rw[hc]at et;exact(VW et).trans rfl
end
section
variable{r:List Pt}(h:Cw r=true){S:List NN}(C:BL.Ct r.length S)(hc:EG r (S.map zz)=true)
include h C hc
theorem yo{a b:Int}(O0:(a,b)∉S.map zz):Eb [.lst<|AI r,.lst<|AI<|S.map zz,pv (a,b)]=none/\L9 [.lst<|AI r,.lst<|AI<|S.map zz,pv (a,b)]=some "NoTurn":=by
 obtain⟨h3,DA,_⟩:=Gz h;have hl:=C.ln;refine We rfl ?_;unfold MM;rw[FI<|Ro h rfl,FI<|Rp h (by rw[AAi];lia) hc rfl rfl];have et:AQ (f2 (CD true) (AB 2)<|AB 1) (A5 3 [.lst<|AI r,.lst<|AI<|S.map zz,pv (a,b)])=some true:=Aw (AO rfl rfl<|(My true _ _).trans (by rw[ABr O0];rfl));have eo:Bb (AQ<|f2 (CD true) (AB 2)<|AB 1) (Be<|AQ<|AS Lr<|AD (AB 0)<|AD (AB 1)<|AD (AB 2) AH) (A5 3 [.lst<|AI r,.lst<|AI<|S.map zz,pv (a,b)])=some (true||true):=EK et λz=>by contradiction
 exact dP<|(dN eo).trans rfl
variable{a b p q:Nat}(BA:(a,b)∈S)(pq:p<q)(qn:q<r.length)(hx:BL.X (a,b) (p,q))(ht:∀t,BL.JJ r.length S t a/\BL.JJ r.length S t b↔t=p\/t=q)
include BA pq qn hx ht
theorem cP:Bb (AQ<|f2 (CD true) (AB 2)<|AB 1) (Be<|AQ<|AS Lr<|AD (AB 0)<|AD (AB 1)<|AD (AB 2) AH) (A5 3 [.lst<|AI r,.lst<|AI<|S.map zz,pv<|zz (a,b)])=some (!DE r p q):=by obtain⟨h3,DA,_⟩:=Gz h;have et:AQ (f2 (CD true) (AB 2)<|AB 1) (A5 3 [.lst<|AI r,.lst<|AI<|S.map zz,pv<|zz (a,b)])=some false:=Aw (AO rfl rfl<|(My true _ _).trans (by rw[ABq<|AEM BA];rfl));exact(EK et λ_=>D3<|Aw<|A3 rfl rfl<|dZ h C U BA pq qn ht).trans (by rw[Bool.false_or])
theorem yq(hn:DE r p q=false):Eb [.lst<|AI r,.lst<|AI<|S.map zz,pv<|zz (a,b)]=none/\L9 [.lst<|AI r,.lst<|AI<|S.map zz,pv<|zz (a,b)]=some "NoTurn":=by obtain⟨h3,DA,_⟩:=Gz h;have hl:=C.ln;have et:=cP h C hc BA pq qn hx ht;rw[hn]at et;refine We rfl ?_;unfold MM;rw[FI<|Ro h rfl,FI<|Rp h (by rw[AAi];lia) hc rfl rfl];exact dP<|(dN et).trans rfl
theorem cO(hn:DE r p q=true):Eb [.lst<|AI r,.lst<|AI<|S.map zz,pv<|zz (a,b)]=some (.fr<|AI<|CG<|Ea (S.map zz) (zz (a,b))<|zz (p,q)):=by obtain⟨h3,DA,_⟩:=Gz h;have hl:=C.ln;have et:=cP h C hc BA pq qn hx ht;rw[hn]at et;refine Rv rfl ?_;unfold MM;rw[FI<|Ro h rfl,FI (Rp h (by rw[AAi];lia) hc rfl rfl),FI <|(VW et).trans rfl];exact zS<|KL<|A3 rfl rfl<|dY C BA pq qn hx ht U
theorem yn(hn:DE r p q=true):Eb [.lst<|AI r,.lst<|AI<|CG<|Ea (S.map zz) (zz (a,b))<|zz (p,q),pv<|zz (p,q)]=some (.fr<|AI<|S.map zz):=by
 obtain⟨T,eT,nd,pT,uT⟩:=Qc C BA pq qn hx ht;obtain⟨C',Mo⟩:=C.turn BA pq qn hx ht pT;have mT:∀e,e∈T↔e=(p,q)\/(e∈S/\e≠(a,b)):=λe=>by rw[pT.mem_iff,AAy,ABg,AEH]
 have lS:=λe he=>by unfold EG at hc;simp only[AAk]at hc;exact ABK.mp hc.2.1.2 (zz e)<|AEM he
 have cT:=iB C' (λe he=>by
  rcases(mT e).mp he with rfl|z
  .exact hn
  .exact lS e z.1) (AEE _) uT
 have fa:=C.Bq _ BA;have la:=C.lt _ BA;have E6:BL.X (p,q) (a,b):=by unfold BL.X at *;lia
 rw[eT,cO h C' cT ((mT (p,q)).mpr<|.inl rfl) (by dsimp only at fa;lia) la E6 Mo<|lS _ BA];obtain⟨T2,e2,o5,pT2,_⟩:=Qc C' ((mT (p,q)).mpr<|.inl rfl) (by dsimp only at fa;lia) la E6 Mo
 congr 3
 refine xI o5 ?_ (Wd hc);rw[cM];refine List.Perm.map zz ?_;refine List.Perm.symm<|(ADo _ _).trans ?_;have no:(p,q)∉S:=λm=>C.nx _ BA _ m hx;have f1:(T.filter λe=>e != (p,q)).Perm<|S.filter λe=>e != (a,b):=by refine(pT.filter _).trans ?_;rw[AC6,AAj AAd,ADe.mpr];intro e he;rw[AEH];intro z;rw[z]at he;exact no (ABg.mp he).1
 refine(f1.cons _).trans ?_;rw[<-C.nd.erase_eq_filter];exact(List.perm_cons_erase BA).symm
end
abbrev N3:=Nat×Nat×Nat
noncomputable def e3(x:N3):PV:=.tup [.int (x.1:Int),.int (x.2.1:Int),.int (x.2.2:Int)]
def Gq(n:Nat)(N:List Pt)(e:NN):Bool:=((zz e).2-(zz e).1==1||(zz e).2-(zz e).1==(n:Int)-1)||decide (zz e∈N)
def p3(n:Nat)(N:List Pt)(i j k:Nat):Bool:=(([(i,j),(j,k),(i,k)].filter (Gq n N)).length:Int)==3
theorem qk{n:Nat}{N:List Pt}{i j k:Nat}:p3 n N i j k=true↔Gq n N (i,j)=true/\Gq n N (j,k)=true/\Gq n N (i,k)=true:=by unfold p3;rw[AC6,AC6,AC6];cases Gq n N (i,j)<;>cases Gq n N (j,k)<;>cases Gq n N (i,k)<;>simp
def LG(n:Nat)(N:List Pt)(i j:Nat)(b:List N3)(u:Nat):List N3:=if p3 n N i j (j+1+u)=true then b ++ [(i,j,j+1+u)]else b
def Mt(n:Nat)(N:List Pt)(i:Nat)(b:List N3)(t:Nat):List N3:=(List.range<|n-(i+1+t+1)).foldl (LG n N i<|i+1+t) b
def J7(n:Nat)(N:List Pt)(b:List N3)(i:Nat):List N3:=(List.range<|n-(i+1)).foldl (Mt n N i) b
def Ck(n:Nat)(N:List Pt):List N3:=(List.range n).foldl (J7 n N) []
theorem Pp{α β:Type}{f:List β->α->List β}{g:α->β->Prop}{y:β}:∀{xs:List α}{b:List β},(∀b,∀x∈xs,y∈f b x↔y∈b\/g x y)->(y∈xs.foldl f b↔y∈b\/∃x∈xs,g x y)
 |[],b,_=>AAd
 |x::xs,b,h=>by simp only[List.foldl_cons,Pp λb z hz=>h b z<|AAs _ hz,h b x AAu];simp only[AAy,exists_eq_or_imp,or_assoc]
theorem oY{n:Nat}{N:List Pt}{i j k:Nat}:(i,j,k)∈Ck n N↔i<j/\j<k/\k<n/\p3 n N i j k=true:=by
 have a1:∀(x t:Nat)(b:List N3),(i,j,k)∈Mt n N x b t↔(i,j,k)∈b\/(i=x/\j=x+1+t/\j<k/\k<n/\p3 n N i j k=true):=λx t b=>by
  unfold Mt;rw[Pp (g:=λu y=>y=(x,x+1+t,x+1+t+1+u)/\p3 n N x (x+1+t) (x+1+t+1+u)=true) λb u _=>by
   unfold LG;split
   .rename_i h;simp[h]
   .rename_i h;simp[h]]
  refine or_congr_right ⟨λ⟨u,hu,e,h⟩=>?_,λ⟨h1,h2,h3,h4,h5⟩=>⟨k-(x+1+t+1),AAr.mpr AAc,?_⟩⟩
  .have:=AAr.mp hu;obtain⟨rfl,e⟩:=ADC e;obtain⟨rfl,rfl⟩:=ADC e;exact⟨rfl,rfl,U,AAc,h⟩
  .subst h1 h2;rw[show i+1+t+1+(k-(i+1+t+1))=k by omega];exact⟨rfl,h5⟩
 have a2:∀(x:Nat)(b:List N3),(i,j,k)∈J7 n N b x↔(i,j,k)∈b\/(i=x/\i<j/\j<k/\k<n/\p3 n N i j k=true):=λx b=>by unfold J7;rw[Pp (g:=λt _=>i=x/\j=x+1+t/\j<k/\k<n/\p3 n N i j k=true) λb t _=>a1 x t b];refine or_congr_right ⟨(by rintro⟨t,_,h1,h2,h3,h4,h5⟩;exact⟨h1,U,h3,h4,h5⟩),(by rintro⟨h1,h2,h3,h4,h5⟩;exact⟨j-(x+1),AAr.mpr U,h1,AAc,h3,h4,h5⟩)⟩
 unfold Ck;rw[Pp (g:=λx _=>i=x/\i<j/\j<k/\k<n/\p3 n N i j k=true) λb x _=>a2 x b];refine⟨λh=>?_,λh=>.inr ⟨i,AAr.mpr U,rfl,h⟩⟩;rcases h with h|⟨x,_,_,h⟩
 .cases h
 .exact h
theorem LB{n:Nat}{S:List NN}{u v:Nat}(h:u<v)(hv:v<n):Gq n (S.map zz) (u,v)=true↔BL.J n S u v:=by
 delta Gq BL.J
 rw[ABb,ABb,ABw,ABw,decide_eq_true_eq];have m:zz (u,v)∈S.map zz↔(u,v)∈S:=Pu;simp only[m];show((v:Int)-u=1\/(v:Int)-u=(n)-1)\/_↔_;lia
section
variable{r N:List Pt}(hN:N.length<=1000)
def pR(r N:List Pt)(b:List N3)(x:List<|Option SV):AX:=some (.im<|.lst<|AI r)::some (.im<|.lst<|AI N)::some (.im<|.int (r.length:Int))::some (.own<|b.map e3)::x
def pB:SF:=(AN (AZ 7<|BB<|AD (Ao<|AD (AB 4)<|AD (AB 5) AH)<|AD (Ao<|AD (AB 5)<|AD (AB 6) AH)<|AD (Ao<|AD (AB 4)<|AD (AB 6) AH) AH)<|Aq (AQ<|f2 Bn (fB Av<|AD (BI (BG false<|AB 7) 1 [1,2] (Ae 0) (Bb (AQ<|f2 (BC false) (f2 Ad (f2 AJ (AB 0)<|fC<|.int 1)<|f2 AJ (AB 0)<|fC<|.int 0)<|BB<|AD (fC<|.int 1)<|AD (f2 Ad (AB 2)<|fC<|.int 1) AH)<|AQ<|f2 (CD false) (AB 0)<|AB 1)<|AB 0) AH)<|fC<|.int 3) (Ci 3 CU<|AD (Ao<|AD (AB 4)<|AD (AB 5)<|AD (AB 6) AH) AH) A0)
theorem qm{b:List N3}(hb:b.length<1000)(i j k:Nat)(x7:Option SV):pB (pR r N b [some<|.im<|.int<|i,some<|.im<|.int<|j,some<|.im<|.int<|k,x7])=some (.nx (pR r N (if p3 r.length N i j k=true then b ++ [(i,j,k)]else b) [some<|.im<|.int<|i,some<|.im<|.int<|j,some<|.im<|.int<|k,some<|.im<|.lst ([(i,j),(j,k),(i,k)].map λe=>pv<|zz e)])):=by
 have t2:∀(u v:Nat)(a c:Nat)(x:Option SV),AB a (pR r N b [some<|.im<|.int<|i,some<|.im<|.int<|j,some<|.im<|.int<|k,x])=some (.cl<|.int<|u)->AB c (pR r N b [some<|.im<|.int<|i,some<|.im<|.int<|j,some<|.im<|.int<|k,x])=some (.cl<|.int<|v)->Ao (AD (AB a)<|AD (AB c) AH) (pR r N b [some<|.im<|.int<|i,some<|.im<|.int<|j,some<|.im<|.int<|k,x])=some (.cl<|pv<|zz (u,v)):=λu v a c x h1 h2=>Ej (AL h1<|AL h2<|AY _) rfl;unfold pB;rw[sq (ρ':=pR r N b [some<|.im<|.int<|i,some<|.im<|.int<|j,some<|.im<|.int<|k,some<|.im<|.lst ([(i,j),(j,k),(i,k)].map λe=>pv<|zz e)])<|(A8 (EJ (AL (t2 i j 4 5 x7 rfl rfl)<|AL (t2 j k 5 6 x7 rfl rfl)<|AL (t2 i k 4 6 x7 rfl rfl)<|AY _) rfl) rfl).trans rfl];have ec:BI (BG false<|AB 7) 1 [1,2] (Ae 0) (Bb (AQ<|f2 (BC false) (f2 Ad (f2 AJ (AB 0)<|fC<|.int 1)<|f2 AJ (AB 0)<|fC<|.int 0)<|BB<|AD (fC<|.int 1)<|AD (f2 Ad (AB 2)<|fC<|.int 1) AH)<|AQ<|f2 (CD false) (AB 0)<|AB 1) (AB 0) (pR r N b [some<|.im<|.int<|i,some<|.im<|.int<|j,some<|.im<|.int<|k,some<|.im<|.lst ([(i,j),(j,k),(i,k)].map λe=>pv<|zz e)])=some (.fr<|([(i,j),(j,k),(i,k)].filter (Gq r.length N)).map λe=>pv<|zz e):=
  DM (Eh rfl rfl) (by show 3<=1000;decide) (FP λe _=>⟨_,rfl,EK (Aw<|AO (AO (AO rfl rfl<|DO<|zz e) (AO rfl rfl<|DD<|zz e)<|Cq _ _) (EJ (AL rfl<|AL (AO rfl rfl<|Cq _ _)<|AY _) rfl)<|To _ _ _) λ_=>Aw<|AO rfl rfl<|My false N<|zz e,λ_=>⟨_,rfl,rfl⟩⟩)
 have et:=Aw (AO (fb:=fC<|.int 3) (Bp (k:=Av) (AL ec<|AY _)<|by rw[Y8,AAi]) rfl<|PU _ _);split
 .rename_i h;unfold p3 at h;rw[h]at et;rw[Bj et,T6 rfl (AL (Ej (AL (x:=.cl<|.int<|i) rfl<|AL (x:=.cl<|.int<|j) rfl<|AL (x:=.cl<|.int<|k) rfl<|AY _) rfl)<|AY _) rfl (by rw[AAi];exact hb)];unfold pR;rw[ABQ]
  rfl
 .rename_i h;unfold p3 at h;rw[ACz.mpr h]at et;rw[BR et]
  rfl
end
noncomputable def tS:Nat->Nat
 |0=>0
 |m+1=>tS m+(10-m)
theorem cB(m:Nat):tS m<=55:=by
 by_cases h:m<10
 .exact(AAe:∀m,m<10->tS m<=55) m h
 .have:∀k,tS (10+k)=55:=λk=>by
   induction k with
   |zero=>rfl
   |succ k ih=>rw[<-Nat.add_assoc,tS,ih];lia
  rw[show m=10+(m-10)by omega,this];lia
theorem Um{n i x:Nat}(h:(List.range n)[i]? = some x):x=i/\i<n:=by obtain⟨h1,h2⟩:=AAn.mp h;rw[ABd]at h1;rw[ADi]at h2;exact⟨h2.symm,h1⟩
section
variable{r N:List Pt}(DA:r.length<=12)
def pK:SF:=CI (DV<|AD (f2 Aa (AB 5)<|fC<|.int 1)<|AD (AB 2) AH) (Ae 6) pB
def pJ:SF:=CI (DV<|AD (f2 Aa (AB 4)<|fC<|.int 1)<|AD (AB 2) AH) (Ae 5) pK
include DA
theorem qp{b:List N3}(hb:b.length<=900){i j:Nat}(hj:j<r.length)(x6 x7:Option SV):∃y6 y7,pK (pR r N b [some<|.im<|.int<|i,some<|.im<|.int<|j,x6,x7])=some (.nx<|pR r N ((List.range<|r.length-(j+1)).foldl (LG r.length N i j) b) [some<|.im<|.int<|i,some<|.im<|.int<|j,y6,y7])/\((List.range<|r.length-(j+1)).foldl (LG r.length N i j) b).length<=b.length+(r.length-(j+1)):=by
 unfold pK;rw[Ca<|OR (i:=j+1) (AL (AO rfl rfl<|by rfl)<|AL rfl<|AY _) U U];obtain⟨ρ',e,⟨y6,y7,rfl⟩,hl⟩:=KC (gt:=Ae 6) (LG r.length N i j) (λm b' ρ=>(∃y6 y7,ρ=pR r N b' [some<|.im<|.int<|i,some<|.im<|.int<|j,y6,y7])/\b'.length<=b.length+m) (xs:=List.range<|r.length-(j+1)) (n:=0) (b:=b) ⟨⟨x6,x7,rfl⟩,U⟩ (by
  rintro u x hx b' ρ ⟨⟨y6,y7,e⟩,hl⟩;obtain⟨rfl,hu⟩:=Um hx;subst e;refine⟨_,_,rfl,qm (k:=j+1+x) AAc i j y7,⟨_,_,rfl⟩,?_⟩;unfold LG;split
  .simp only[ABA,ABh];lia
  .lia)
 rw[ABd]at hl;exact⟨y6,y7,e,U⟩
theorem qo{b:List N3}(hb:b.length<=800){i:Nat}(hi:i<r.length)(x5 x6 x7:Option SV):∃y5 y6 y7,pJ (pR r N b [some<|.im<|.int<|i,x5,x6,x7])=some (.nx<|pR r N (J7 r.length N b i) [some<|.im<|.int<|i,y5,y6,y7])/\(J7 r.length N b i).length<=b.length+55:=by
 unfold pJ;rw[Ca<|OR (i:=i+1) (AL (AO rfl rfl<|by rfl)<|AL rfl<|AY _) U U];obtain⟨ρ',e,⟨y5,y6,y7,rfl⟩,hl⟩:=KC (gt:=Ae 5) (Mt r.length N i) (λm b' ρ=>(∃y5 y6 y7,ρ=pR r N b' [some<|.im<|.int<|i,y5,y6,y7])/\b'.length<=b.length+tS m) (xs:=List.range<|r.length-(i+1)) (n:=0) (b:=b) ⟨⟨x5,x6,x7,rfl⟩,U⟩ (by rintro t x hx b' ρ ⟨⟨y5,y6,y7,e⟩,hl⟩;obtain⟨rfl,hu⟩:=Um hx;subst e;have:=cB<|0+x;obtain⟨z6,z7,ek,hk⟩:=qp DA (b:=b') U (j:=i+1+x) AAc y6 y7;refine⟨_,_,rfl,ek,⟨_,_,_,rfl⟩,?_⟩;simp only[tS];unfold Mt;omega)
 have:=cB<|0+(List.range<|r.length-(i+1)).length;exact⟨y5,y6,y7,e,by unfold J7;lia⟩
theorem dr:Q2 [.lst<|AI r,.lst<|AI N]=some (.fr<|(Ck r.length N).map e3)/\(Ck r.length N).length<=700:=by
 obtain⟨ρ',e,⟨x4,x5,x6,x7,rfl⟩,hl⟩:=KC (gt:=Ae 4) (J7 r.length N) (λm b' ρ=>(∃x4 x5 x6 x7,ρ=pR r N b' [x4,x5,x6,x7])/\b'.length<=55*m) (n:=0) (b:=[]) ⟨⟨none,none,none,none,rfl⟩,AAd⟩ (by rintro i x hx b' ρ ⟨⟨y4,y5,y6,y7,e⟩,hl⟩;obtain⟨rfl,hu⟩:=Um hx;subst e;obtain⟨z5,z6,z7,ej,hk⟩:=qo DA (b:=b') U hu y5 y6 y7;exact⟨_,_,rfl,ej,⟨_,_,_,_,rfl⟩,U⟩)
 rw[ABd]at hl;refine⟨Bh rfl ?_,by unfold Ck;lia⟩;unfold W2;rw[sq<|A8 (Bp (AL rfl<|AY _)<|by rw[Hs,By]) rfl];rw[sq <|(set_own<|EJ (AY _) rfl).trans rfl];exact(sq <|(Ca<|D4 (AL rfl<|AY _) U).trans e).trans rfl
end
theorem Zh{p q:Int}(pq:p<q):∀(ns:List Int)(m:Int),(m=p\/m=q)->(∀x∈ns,x=p\/x=q)->(m=p\/p∈ns)->De m ns=p
 |[],m,_,_,h=>by
  rcases h with h|h
  .exact h
  .contradiction
 |n::ns,m,hm,hn,h=>by
  have h1:=hn n AAu;have h2:=λx hx=>hn x<|AAs _ hx;rw[AAy]at h;refine Zh pq ns _ (by split;exact h1;exact hm) h2 ?_;split
  .rcases h with h|h|h
   .lia
   .exact .inl h.symm
   .exact .inr h
  .rcases h with h|h|h
   .exact .inl h
   .left;lia
   .exact .inr h
theorem Zc{p q:Int}(pq:p<q):∀(ns:List Int)(m:Int),(m=p\/m=q)->(∀x∈ns,x=p\/x=q)->(m=q\/q∈ns)->Dd m ns=q
 |[],m,_,_,h=>by
  rcases h with h|h
  .exact h
  .contradiction
 |n::ns,m,hm,hn,h=>by
  have h1:=hn n AAu;have h2:=λx hx=>hn x<|AAs _ hx;rw[AAy]at h;refine Zc pq ns _ (by split;exact h1;exact hm) h2 ?_;split
  .rcases h with h|h|h
   .lia
   .exact .inl h.symm
   .exact .inr h
  .rcases h with h|h|h
   .exact .inl h
   .left;lia
   .exact .inr h
noncomputable def D7(a:Nat)(x:N3):Bool:=decide (x.1=a\/x.2.1=a\/x.2.2=a)
theorem Y6(a:Nat)(x:N3):CD false (.cl<|.int<|a) (.cl<|e3 x)=some (.cl<|.bl<|D7 a x):=by
 have sh:∀i:Int,PySem.SeqAt.shaped (Al<|.int i)=true:=λi=>by simp[Al,PySem.SeqAt.shaped,PySem.PyData.canLay0,PySem.PyData.depth]
 have eq:∀i j:Int,PySem.PyData.eqv (Al<|.int i) (Al<|.int j)=decide (i=j):=λi j=>by rw[AB5];simp[Al,PySem.PyData.eqv]
 unfold CD;have e:(RV.cl<|e3 x).seq=some [.int<|x.1,.int<|x.2.1,.int<|x.2.2]:=rfl;rw[e];dsimp only;rw[show(RV.cl<|.int<|a).any=.int (a)from rfl,AAl ⟨sh a,by unfold Lc;simp[sh]⟩,AAj AAd]
 delta inD D7
 simp only[ABc,ABc,ABc,ADR,eq,eq,eq,ACb]
 congr 3
 rw[AB5];simp only[ABb,decide_eq_true_eq];lia
noncomputable def GK(a b:Nat)(x:N3):Int:=((x.1:Int)+((x.2.1:Int)+((x.2.2:Int)+0)))-a-b
section
variable{n:Nat}{S:List NN}(C:BL.Ct n S){a b p q:Nat}(BA:(a,b)∈S)(pq:p<q)(qn:q<n)(ht:∀t,BL.JJ n S t a/\BL.JJ n S t b↔t=p\/t=q)
include C
theorem Pq{i j k:Nat}:(i,j,k)∈Ck n (S.map zz)↔i<j/\j<k/\k<n/\BL.J n S i j/\BL.J n S j k/\BL.J n S i k:=by
 rw[oY,qk];constructor
 .rintro⟨h1,h2,h3,h4,h5,h6⟩;exact⟨h1,h2,h3,(LB h1 U).mp h4,(LB h2 h3).mp h5,(LB U h3).mp h6⟩
 .rintro⟨h1,h2,h3,h4,h5,h6⟩;exact⟨h1,h2,h3,(LB h1 U).mpr h4,(LB h2 h3).mpr h5,(LB U h3).mpr h6⟩
include BA pq qn ht
theorem yM(z:Int):z∈((Ck n<|S.map zz).filter λx=>D7 a x&&D7 b x).map (GK a b)↔z=p\/z=q:=by
 have fa:=C.Bq _ BA;have la:=C.lt _ BA;dsimp only at fa la;have Ti:BL.J n S a b:=.inr<|.inl BA;rw[ABD];have kZ:∀t:Nat,t<n->(BL.JJ n S t a/\BL.JJ n S t b)->∃x∈(Ck n<|S.map zz).filter (λx=>D7 a x&&D7 b x),GK a b x=(t):=(by
  rintro t tn ⟨h1,h2⟩;have mk:∀x:N3,x∈Ck n (S.map zz)->(x.1=a\/x.2.1=a\/x.2.2=a)->(x.1=b\/x.2.1=b\/x.2.2=b)->GK a b x=(t)->∃x∈(Ck n<|S.map zz).filter (λx=>D7 a x&&D7 b x),GK a b x=(t):=λx hx ha hb e=>⟨x,ABg.mpr ⟨hx,by unfold D7;simp only[ABq ha,ABq hb];rfl⟩,e⟩;rcases h1 with⟨c1,j1⟩|⟨c1,j1⟩
  .have j2:BL.J n S t b:=by rcases h2 with z|z;exact z.2;lia
   exact mk (t,a,b) ((Pq C).mpr ⟨c1,U,la,j1,Ti,j2⟩) (.inr<|.inl rfl) (.inr<|.inr rfl) (by unfold GK;dsimp only;lia)
  .rcases h2 with⟨c2,j2⟩|⟨c2,j2⟩
   .exact mk (a,t,b) ((Pq C).mpr ⟨c1,c2,la,j1,j2,Ti⟩) (.inl rfl) (.inr<|.inr rfl) (by unfold GK;dsimp only;lia)
   .exact mk (a,b,t) ((Pq C).mpr ⟨U,c2,tn,Ti,j2,j1⟩) (.inl rfl) (.inr<|.inl rfl) (by unfold GK;dsimp only;lia))
 constructor
 .rintro⟨⟨i,j,k⟩,hx,rfl⟩;obtain⟨hx,hi⟩:=ABg.mp hx;obtain⟨h1,h2,h3,h4,h5,h6⟩:=(Pq C).mp hx;rw[AAk]at hi;unfold D7 at hi;simp only[decide_eq_true_eq,decide_eq_true_eq]at hi;unfold GK;dsimp only at hi ⊢;have fin:∀t:Nat,(BL.JJ n S t a/\BL.JJ n S t b)->((t:Int)=p\/(t:Int)=q):=λt h=>by
   rcases(ht t).mp h with e|e
   .exact .inl U
   .exact .inr U
  rcases hi with⟨ha|ha|ha,hb|hb|hb⟩<;>try lia
  .subst ha hb;rw[show((i:Int)+((j)+((k)+0)))-i-j=(k)by lia];exact fin k ⟨.inr ⟨U,h6⟩,.inr ⟨h2,h5⟩⟩
  .subst ha hb;rw[show((i:Int)+((j)+((k)+0)))-i-k=(j)by lia];exact fin j ⟨.inr ⟨h1,h4⟩,.inl ⟨h2,h5⟩⟩
  .subst ha hb;rw[show((i:Int)+((j)+((k)+0)))-j-k=(i)by lia];exact fin i ⟨.inl ⟨h1,h4⟩,.inl ⟨U,h6⟩⟩
 .intro h;have key:=λt e=>by exact kZ t U<|(ht t).mpr e
  rcases h with rfl|rfl
  .exact key p<|.inl rfl
  .exact key q<|.inr rfl
end
theorem dq{n:Nat}{S:List NN}(C:BL.Ct n S){a b p q:Nat}(BA:(a,b)∈S)(pq:p<q)(qn:q<n)(ht:∀t,BL.JJ n S t a/\BL.JJ n S t b↔t=p\/t=q)(hl:(Ck n<|S.map zz).length<=1000):Nr [.lst<|(Ck n<|S.map zz).map e3,pv<|zz (a,b)]=some (.cl<|pv<|zz (p,q)):=by
 refine Bh rfl ?_;unfold W0;have e1:BI (BG false<|AB 0) 1 [1] (Ae 0) (CH (AQ<|f2 (CD false) (f2 AJ (AB 1)<|fC<|.int 0)<|AB 0)<|AQ<|f2 (CD false) (f2 AJ (AB 1)<|fC<|.int 1)<|AB 0) (f2 Ad (f2 Ad (fB M1<|AD (AB 0) AH)<|f2 AJ (AB 1)<|fC<|.int 0)<|f2 AJ (AB 1)<|fC<|.int 1) (A5 3 [.lst<|(Ck n<|S.map zz).map e3,pv<|zz (a,b)])=some (.fr<|((Ck n<|S.map zz).filter λx=>D7 a x&&D7 b x).map λx=>PV.int<|GK a b x):=
  DM (Eh rfl rfl) (by rw[AAi];exact hl) (FP λx _=>⟨_,rfl,Ie (Aw<|AO (AO rfl rfl<|DD<|zz (a,b)) rfl<|Y6 a x) λ_=>Aw<|AO (AO rfl rfl<|DO<|zz (a,b)) rfl<|Y6 b x,λ_=>⟨_,AO (AO (Bp (AL rfl<|AY _) rfl) (AO rfl rfl<|DD<|zz (a,b))<|Cq _ _) (AO rfl rfl<|DO<|zz (a,b))<|Cq _ _,rfl⟩⟩)
 rw[sq<|A8 e1 rfl];have hz:=yM C BA pq qn ht;generalize hZ:((Ck n<|S.map zz).filter λx=>D7 a x&&D7 b x).map (GK a b)=Z at hz;have eZ:(((Ck n<|S.map zz).filter λx=>D7 a x&&D7 b x).map λx=>PV.int<|GK a b x)=Z.map PV.int:=by rw[<-hZ,ABO];rfl
 rw[eZ];have zp:=(hz p).mpr<|.inl rfl;have zq:=(hz q).mpr<|.inr rfl;cases Z with
 |nil=>contradiction
 |cons m ns=>
  have hm:=(hz m).mp AAu;have hn:=λx hx=>(hz x).mp<|AAs _ hx;rw[AAy]at zp zq;refine Cb<|Ej (AL (Bp (z:=.cl<|.int<|p) (AL rfl<|AY _) ?_)<|AL (Bp (z:=.cl<|.int<|q) (AL rfl<|AY _) ?_)<|AY _) rfl
  .show(match DB ((m::ns).map PV.int)with|some (m::ns)=>some (RV.cl<|.int<|De m ns)|_=>none)=_;rw[Tb];dsimp only;rw[Zh U ns m hm hn<|zp.imp_left Eq.symm]
  .show(match DB ((m::ns).map PV.int)with|some (m::ns)=>some (RV.cl<|.int<|Dd m ns)|_=>none)=_;rw[Tb];dsimp only;rw[Zc U ns m hm hn<|zq.imp_left Eq.symm]
theorem Xd{f:EF}{ρ:AX}{r:RV}{ps:List PV}(e:f ρ=some r)(h:r.clean=some (.lst ps)):BG true f ρ=some ps:=by unfold BG;rw[e];dsimp only;rw[AAl rfl,h]
theorem jb{F:List PV->Option RV}{g:AF}{ρ:AX}{rs:List RV}{z:RV}(e:g ρ=some rs)(h:F (rs.map RV.any)=some z):Ih F g ρ=some z:=by unfold Ih;rw[e];exact h
section
variable{i j:Nat}{L:List PySem.Str}{F:List PV->Option RV}{XF:List PV->Option PySem.Str}{ga:AF}{Fd:SF}{ρ:AX}{rs:List RV}{ps:List PV}
theorem yS{qs:List PV}(e:ga ρ=some rs)(ec:CZ rs=some ps)(eF:F ps=some (.fr qs)):JX i j L F XF ga Fd ρ=some (.o<|.nx<|ρ.set j<|some<|.own qs):=by unfold JX;rw[e];dsimp only;rw[ec];dsimp only;rw[eF]
theorem yR{nm:PySem.Str}{ρ':AX}(e:ga ρ=some rs)(ec:CZ rs=some ps)(eF:F ps=none/\XF ps=some nm)(hL:L.contains nm=true)(es:Fd ((JE ρ).set i<|some<|.exc nm)=some (.nx ρ')):JX i j L F XF ga Fd ρ=some (.o<|.nx<|ρ'.set i none):=by unfold JX;rw[e];dsimp only;rw[ec];dsimp only;rw[eF.1];rw[eF.2];dsimp only;rw[AAl hL,es]
end
theorem oa{a b c:PV}{ps:List PV}(h:Eb [a,b,c]=some (.fr ps)):JZ [a,b,c]=some (.tf (.int (-1)) ps):=by
 refine Rv rfl ?_;unfold OI;rw[FI rfl,FI rfl];rw[FI<|yS rfl rfl h]
 rfl
theorem Zf{a b c:PV}(h:Eb [a,b,c]=none/\L9 [a,b,c]=some "NoTurn"):JZ [a,b,c]=some (.cl<|.tup [.int 3,.Au]):=by
 refine Rv rfl ?_;unfold OI;rw[FI rfl,FI (ρ':=[some<|.im a,some<|.im b,some<|.im c,some<|.im<|.int (-1),some<|.im .Au,none]) rfl];have es:Kx 3 5 Qs ((JE [some<|.im a,some<|.im b,some<|.im c,some<|.im<|.int (-1),some<|.im .Au,none]).set 5<|some<|.exc "NoTurn")=some (.nx [some<|.im a,some<|.im b,some<|.im c,some<|.im<|.int 3,some<|.im .Au,some<|.exc "NoTurn"]):=by rfl
 rw[FI<|yR rfl rfl h AAe es]
 rfl
theorem Vk(v:Int):Kb [.int v]=some (.cl<|.bl true):=rfl
theorem eI(N:List Pt):Ka [.lst<|AI N]=some (.cl<|.bl true):=by
 refine Bh rfl ?_;unfold Wx;have e0:Be (AQ<|Gb "list"<|AB 0) (A5 2 [.lst<|AI N])=some (!true):=D3<|Aw rfl;rw[sq<|(BR e0).trans rfl];have H:=Gv (gt:=Ae 1) (body:=(Aq (Bb (Be<|AQ<|MR<|AB 1)<|Bb (AQ<|f2 BP (fB Av<|AD (AB 1) AH)<|fC<|.int 2)<|Bb (Be<|AQ<|AS Kb<|AD (f2 AJ (AB 1)<|fC<|.int 0) AH)<|Be<|AQ<|AS Kb<|AD (f2 AJ (AB 1)<|fC<|.int 1) AH) (Ai<|fC<|.bl false) A0)) (c:=λ_=>false) (r:=.cl<|.bl false) (λρ=>∃x,ρ=[some<|.im<|.lst<|AI N,x]) (xs:=N) (ρ:=A5 2 [.lst<|AI N]) ⟨none,rfl⟩ (by
  rintro e he ρ ⟨x,rfl⟩;refine⟨_,rfl,λh=>by simp at h,λ_=>⟨_,(BR (?_)).trans rfl,_,rfl⟩⟩;exact EK (D3 (a:=true)<|Aw rfl) λ_=>EK (a:=false) (Aw<|AO (x:=.cl<|.int 2) rfl rfl<|Hu 2 2) λ_=>
   EK (D3 <|Aw<|A3 (AL (AO rfl rfl<|DD e)<|AY _) rfl<|Vk _) λ_=>D3 <|Aw<|A3 (AL (AO rfl rfl<|DO e)<|AY _) rfl<|Vk _)
 obtain⟨ρ',e,x,rfl⟩:=H.2 AAd;rw[sq<|(Ca<|Xd rfl rfl).trans e]
 rfl
theorem yr(r N:List Pt):PySem.SeqAt.shaped (Al<|.lst [.lst<|AI r,.lst<|AI N])=true/\PySem.PyData.eqv (Al<|.lst [.lst<|AI r,.lst<|AI N]) (Al<|.lst [.lst<|AI r,.lst<|AI N])=true:=by
 have h:=Pj r;have h':=Pj N;constructor
 .dsimp only[PySem.SeqAt.shaped,Al,CQ,PySem.PyData.canLay0,PySem.PyData.canLayAll0,PySem.PyData.depth,PySem.PyData.depthAll,h.1,h'.1,Bool.true_and,decide_eq_true_eq];lia
 .simp only[Al,CQ,PySem.PyData.eqv,PySem.PyData.eqvAll,R5,Bool.and_self]
theorem nU(r N:List Pt):BP (.cl<|.lst [.lst<|AI r,.lst<|AI N]) (.fr [.lst<|AI r,.lst<|AI N])=some (.cl<|.bl false):=by have h:=yr r N;exact(AAl ⟨h.1,h.1⟩).trans (ACE (λb=>some<|RV.cl<|PV.bl (!b)) h.2)
theorem Tp{x y:RV}{M:List Pt}(hx:x.any=.lst (AI M))(hy:y.any=.lst (AI M)):BP x y=some (.cl<|.bl false):=by have h:=wk M;unfold BP;rw[hx,hy];exact(AAl ⟨h.1,h.1⟩).trans (ACE (λb=>some<|RV.cl<|PV.bl (!b)) h.2)
def lR(s:List Int)(r N:List Pt)(P:List PV)(ys:List<|Option SV):AX:=some (.im<|.rd<|A2 s)::some (.im<|.lst<|AI r)::some (.im<|.lst<|AI N)::some (.im<|.lst P)::some (.im<|.lst [.lst<|AI r,.lst<|AI N])::ys
def ZJ(i:Nat):EF:=AS JZ<|AD (f2 AJ (AB 4)<|fC<|.int 0)<|AD (f2 AJ (AB 4)<|fC<|.int 1)<|AD (AB i) AH
def ZI:EF:=fB Hv<|AD (f2 Aa (BI (BG false<|AB 2) 1 [5] (Ae 0) (AQ<|f2 BP (AB 0)<|AB 1)<|AB 0)<|BB<|AD (AB 6) AH) AH
def ZH:SF:=(AN (AZ 6<|AS Nr<|AD (AB 3)<|AD (AB 5) AH)<|AN (Jr 7 8<|ZJ 5)<|AN (Aq (AQ<|f2 BP (AB 4)<|BB<|AD (AB 1)<|AD (AB 2) AH) (Ai<|fC<|.bl false) A0)<|Aq (Be<|AQ<|AS HH<|AD (AB 1)<|AD (f2 AJ (AB 6)<|fC<|.int 0)<|AD (f2 AJ (AB 6)<|fC<|.int 1) AH) (Aq (Bb (AQ<|f2 BP (AB 7)<|fC<|.int 3)<|AQ<|f2 LD (AB 8)<|fC .Au) (Ai<|fC<|.bl false) A0)<|AN (AZ 9 ZI)<|AN (Aq (Bb (AQ<|f2 BP (AB 7)<|Fo<|fC<|.int 1)<|Bb (Be<|AQ<|Ih Ka<|AD (AB 8) AH)<|AQ<|f2 BP (AB 8)<|AB 9) (Ai<|fC<|.bl false) A0)<|AN (Aq (AQ<|f2 BP (AS Eb<|AD (f2 AJ (AB 4)<|fC<|.int 0)<|AD (fB JD<|AD (AB 8) AH)<|AD (AB 6) AH)<|AB 2) (Ai<|fC<|.bl false) A0)<|AN (Ci 8 CU<|AD (Ao<|AD (fC<|.int 0)<|AD (fC<|.int 0) AH) AH)<|Aq (AQ<|f2 BP (AS Eb<|AD (f2 AJ (AB 4)<|fC<|.int 0)<|AD (f2 AJ (AB 4)<|fC<|.int 1)<|AD (AB 5) AH)<|AB 9) (Ai<|fC<|.bl false) A0)
section
variable{s:List Int}{r:List Pt}(h:Cw r=true){S:List NN}(C:BL.Ct r.length S)(hc:EG r (S.map zz)=true)(hP:(Ck r.length (S.map zz)).length<=700)
include h C hc hP
theorem fg{a b:Nat}(BA:(a,b)∈S)(x6 x7 x8 x9:Option SV):∃y6 y7 y8 y9,ZH (lR s r (S.map zz) ((Ck r.length<|S.map zz).map e3) [some<|.im<|pv<|zz (a,b),x6,x7,x8,x9,none])=some (.nx<|lR s r (S.map zz) ((Ck r.length<|S.map zz).map e3) [some<|.im<|pv<|zz (a,b),y6,y7,y8,y9,none]):=by
 obtain⟨h3,DA,hb⟩:=Gz h;have hl:=C.ln;obtain⟨p,q,pq,qn,hx,ht⟩:=C.cJ BA;have ek:=dq C BA pq qn ht U;have iG:=yq h C hc BA pq qn hx ht;have Wb:=cO h C hc BA pq qn hx ht;have iE:=yn h C hc BA pq qn hx ht;obtain⟨T,eT,nd,pT,uT⟩:=Qc C BA pq qn hx ht;have tl:T.length+3=r.length:=by
  have:=(C.turn BA pq qn hx ht pT).1.ln
  assumption
 have fl:((S.map zz).filter λe=>!decide (e=zz (a,b))).length<=12:=by have:=ACY (λe=>!decide (e=zz (a,b)))<|S.map zz;rw[AAi]at this;lia
 generalize hP':(Ck r.length<|S.map zz).map e3=P at *
 generalize hN:S.map zz=N at *
 generalize hM:CG (Ea N (zz (a,b))<|zz (p,q))=M at *
 have ne2:∀ys,AQ (f2 BP (AB 4)<|BB<|AD (AB 1)<|AD (AB 2) AH) (lR s r N P ys)=some false:=λys=>Aw<|AO rfl (EJ rfl rfl)<|nU r N;unfold ZH;rw[sq (ρ':=lR s r N P [some<|.im<|pv<|zz (a,b),some<|.im<|pv<|zz (p,q),x7,x8,x9,none])<|A8 (A3 rfl rfl ek) rfl];have et:∀y7 y8,Be (AQ<|AS HH<|AD (AB 1)<|AD (f2 AJ (AB 6)<|fC<|.int 0)<|AD (f2 AJ (AB 6)<|fC<|.int 1) AH) (lR s r N P [some<|.im<|pv<|zz (a,b),some<|.im<|pv<|zz (p,q),y7,y8,x9,none])=some (!DE r p q):=λy7 y8=>D3<|Aw<|A3 rfl rfl<|Ve h3 DA hb (p)<|q;have am:∀{z:RV}{ρ:AX},JZ [.lst<|AI r,.lst<|AI N,pv<|zz (a,b)]=some z->ρ=lR s r N P [some<|.im<|pv<|zz (a,b),some<|.im<|pv<|zz (p,q),x7,x8,x9,none]->ZJ 5 ρ=some z:=λ{z ρ} e jk=>by subst jk;exact A3 rfl rfl e
 cases hL:DE r p q
 .have e7:=am (Zf<|iG hL) rfl;rw[sq (ρ':=lR s r N P [some<|.im<|pv<|zz (a,b),some<|.im<|pv<|zz (p,q),some<|.im<|.int 3,some<|.im .Au,x9,none]) (by unfold Jr;rw[e7];rfl)];rw[sq<|(BR<|ne2 _).trans rfl];have et:=et (some<|.im<|.int 3)<|some<|.im .Au;rw[hL]at et;refine⟨_,_,_,_,(Bj et).trans<|(BR (?_)).trans rfl⟩;exact EK (a:=false) (Aw<|AO rfl rfl<|Hu 3 3) λ_=>Aw<|AO rfl rfl rfl
 .have e7:=am (oa<|Wb hL) rfl;rw[sq (ρ':=lR s r N P [some<|.im<|pv<|zz (a,b),some<|.im<|pv<|zz (p,q),some<|.im<|.int (-1),some<|.own<|AI M,x9,none]) (by unfold Jr;rw[e7];rfl)];rw[sq<|(BR<|ne2 _).trans rfl];have et:=et (some<|.im<|.int (-1))<|some<|.own<|AI M;rw[hL]at et;have ed:ZI (lR s r N P [some<|.im<|pv<|zz (a,b),some<|.im<|pv<|zz (p,q),some<|.im<|.int (-1),some<|.own<|AI M,x9,none])=some (.fr<|AI M):=by
   rw[<-hM];refine Uy (r:=.fr<|AI<|Ea N (zz (a,b))<|zz (p,q)) (AO (x:=.fr<|AI<|N.filter λe=>!decide (e=zz (a,b))) ?_ (EJ (AL rfl<|AY _) rfl) ?_) rfl ?_ nd
   .exact DM (Eh rfl rfl) (by rw[By,<-hN,AAi];lia)<|FP λe _=>⟨_,rfl,Aw<|AO rfl rfl<|ZA _ _,λ_=>⟨_,rfl,rfl⟩⟩
   .unfold Ea;rw[show AI ((N.filter λe=>!decide (e=zz (a,b))) ++ [zz (p,q)])=AI (N.filter λe=>!decide (e=zz (a,b))) ++ [pv<|zz (p,q)]by unfold AI;rw[ABQ];rfl];refine Hq rfl rfl ?_;rw[By,ABh];lia
   .unfold Ea;rw[ABA,ABh];lia
  have ml:(AI M).length<1000:=by rw[By,eT,AAi];lia
  refine⟨some<|.im<|pv<|zz (p,q),some<|.im<|.int (-1),some<|.own<|AI M ++ [.tup [.int 0,.int 0]],some<|.im<|.lst<|AI M,(BR et).trans ?_⟩;rw[sq (ρ':=lR s r N P [some<|.im<|pv<|zz (a,b),some<|.im<|pv<|zz (p,q),some<|.im<|.int (-1),some<|.own<|AI M,some<|.im<|.lst<|AI M,none])<|A8 ed rfl];have t1:Bb (AQ<|f2 BP (AB 7)<|Fo<|fC<|.int 1) (Bb (Be<|AQ<|Ih Ka<|AD (AB 8) AH)<|AQ<|f2 BP (AB 8)<|AB 9) (lR s r N P [some<|.im<|pv<|zz (a,b),some<|.im<|pv<|zz (p,q),some<|.im<|.int (-1),some<|.own<|AI M,some<|.im<|.lst<|AI M,none])=some false:=
   EK (a:=false) (Aw<|AO rfl rfl<|Hu (-1) (-1)) λ_=>EK (D3 (a:=true)<|Aw<|jb (AL rfl<|AY _)<|eI M) λ_=>Aw<|AO rfl rfl<|Tp rfl rfl
  rw[sq<|(BR t1).trans rfl];have t2:AQ (f2 BP (AS Eb<|AD (f2 AJ (AB 4)<|fC<|.int 0)<|AD (fB JD<|AD (AB 8) AH)<|AD (AB 6) AH)<|AB 2) (lR s r N P [some<|.im<|pv<|zz (a,b),some<|.im<|pv<|zz (p,q),some<|.im<|.int (-1),some<|.own<|AI M,some<|.im<|.lst<|AI M,none])=some false:=
   Aw (AO (A3 rfl rfl<|iE hL) rfl<|Tp rfl rfl)
  rw[sq<|(BR t2).trans rfl];rw[sq <|T6 rfl (AL (Ej rfl rfl)<|AY _) rfl ml];have t3:AQ (f2 BP (AS Eb<|AD (f2 AJ (AB 4)<|fC<|.int 0)<|AD (f2 AJ (AB 4)<|fC<|.int 1)<|AD (AB 5) AH)<|AB 9) (lR s r N P [some<|.im<|pv<|zz (a,b),some<|.im<|pv<|zz (p,q),some<|.im<|.int (-1),some<|.own<|AI M ++ [.tup [.int 0,.int 0]],some<|.im<|.lst<|AI M,none])=some false:=
   Aw (AO (A3 rfl rfl<|Wb hL) rfl<|Tp rfl rfl)
  exact(BR t3).trans rfl
end
theorem dk(s:List Int):Np [.rd<|A2 s]=some (.cl<|.bl true):=by
 obtain⟨er,h3,DA⟩:=eE s 0 12 U AAc AAc;have hr:=i9 s 0 (most:=12) AAc AAc;generalize drawn s 0 12=r at *
 obtain⟨B,eB,hB,hBl⟩:=dg s hr;obtain⟨S,rfl,C⟩:=iF hB;have ec:∀(k:Int)(ρ:AX),0<=k->AB 0 ρ=some (.cl<|.rd<|A2 s)->AS B6 (AD (AB 0)<|AD (fC<|.int k) AH) ρ=some (.cl<|.int<|Ag s k):=λk ρ hk e=>A3 (AL e<|AL rfl<|AY _) rfl<|Qu s k hk;obtain⟨eP,lP⟩:=dr (r:=r) U;refine Bh rfl ?_;unfold Wo;rw[sq<|A8 (A3 (AL rfl<|AL rfl<|AL rfl<|AY _) rfl er) rfl];rw[sq<|A8 (A3 rfl rfl eB) rfl];rw[sq<|A8 (A3 rfl rfl eP) rfl];rw[sq (ρ':=lR s r (S.map zz) ((Ck r.length<|S.map zz).map e3) [none,none,none,none,none,none])<|A8 (EJ (AL (Bp (AL rfl<|AY _) rfl)<|AL (Bp (AL rfl<|AY _) rfl)<|AY _) rfl) rfl];have H:=Gv (gt:=Ae 5) (c:=λ_=>false) (r:=.cl<|.bl false)
  (λρ=>∃x5 x6 x7 x8 x9,ρ=lR s r (S.map zz) ((Ck r.length<|S.map zz).map e3) [x5,x6,x7,x8,x9,none]) (xs:=S.map zz) (ρ:=lR s r (S.map zz) ((Ck r.length<|S.map zz).map e3) [none,none,none,none,none,none]) ⟨_,_,_,_,_,rfl⟩ (by
  rintro e he ρ ⟨x5,x6,x7,x8,x9,rfl⟩;obtain⟨⟨a,b⟩,BA,rfl⟩:=ABD.mp he;obtain⟨y6,y7,y8,y9,eb⟩:=fg hr C hB lP BA x6 x7 x8 x9;exact⟨_,rfl,λq=>(nomatch q),λ_=>⟨_,eb,_,_,_,_,_,rfl⟩⟩)
 obtain⟨ρ',e,x5,x6,x7,x8,x9,rfl⟩:=H.2 AAd;refine(sq<|(Ca (its:=BG true<|AB 2) <|Xd rfl rfl).trans e).trans ?_;rw[sq <|A8 (Ej (AL (AO (AO (ec 40 _ AAe rfl) rfl<|ET AAe) rfl<|Cq _ _)<|AL (AO (AO (ec 41 _ AAe rfl) rfl<|ET AAe) rfl<|Cq _ _)<|AY _) rfl) rfl];generalize Ag s 40%14-1=u;generalize Ag s 41%14-1=v;have e1:f2 (CD false) (AB 10) (AB 2) (lR s r (S.map zz) ((Ck r.length<|S.map zz).map e3) [x5,x6,x7,x8,x9,some<|.im<|pv (u,v)])=some (.cl<|.bl<|decide ((u,v)∈S.map zz)):=AO rfl rfl<|My false _ _;by_cases hm:(u,v)∈S.map zz
 .rw[ABq hm]at e1;exact Cb<|Kt (b:=true) e1 λz=>by injection z
 .rw[ABr hm]at e1;refine Cb (Kt e1 λ_=>AO (A3 rfl rfl<|Zf<|yo hr C hB hm) rfl<|Y5 ?_ ?_ ?_)<;>decide
end L2.EV
set_option tactic.hygienic true
namespace L2.K
open PySem L2.PL
theorem eL(ns:List Int)(_:ns.length<=63):Np [.rd<|ns.map PV.int]=some (.cl<|.bl true):=L2.EV.dk ns
open PySem PySem.Spec PyProof.Rows L2.PL
set_option maxHeartbeats 0
seal AQ f2 C8 CH fB fC AS Ih EL EM BI AD Hg SA Hh Gb Hi MR BG Ii BB Fo AH Dq Jm Be DN Bb DU Fp Bu DV DW Bl Ao AB Jr Il CI Aq Ci Od A0 Ge Js Ai Oe Of Og AN Oh AZ EN Kx Ae C3 SQ HE HF yL VV FH JX DC Aa E8 JC CU PR CB Bn CC BC CD PY AJ B8 Av JD Bw D8 PZ Gu Pb A4 CP BP LD LF Hv Ad Mz M1 dR BO FL N1 PX DR HN Cf Cg Dm HM Kd IQ Ke Kf
noncomputable def top (i : Nat) : Stmt := PySem.Challenge.pw_threewards_k11_lines_turned.main.body.getD i (.Pass ⟨0,0,0,0⟩)
def Ln:List Prop->Prop
 |[]=>True
 |p::l=>p/\Ln l
theorem VY:∀{L:List Prop}{k:Nat}{p:Prop},Ln L->L[k]? = some p->p
 |[],_,_,_,e=>by simp at e
 |_::_,0,_,h,e=>by cases e;exact h.1
 |_::_,_+1,_,h,e=>VY h.2 e
theorem jA{L:List Prop}{k:Nat}{p:Prop}(h:L[k]? = some p)(x:p)(f:p->Ln (L.drop<|k+1)):Ln<|L.drop k:=by obtain⟨hk,e⟩:=AAn.mp h;rw[ACd hk,e];exact⟨x,f x⟩
def ML(K:W.Frag):List (Str×Nat)->Prop
 |[]=>True
 |(x,i)::l=>dR K x (top i)/\ML K l
theorem dcs{K:W.Frag}{x:Str}{i:Nat}{l:List (Str×Nat)}(h:dR K x<|top i)(t:ML K l):ML K ((x,i)::l):=⟨h,t⟩
theorem dnl{K:W.Frag}:ML K []:=trivial
theorem DT{X:Cx}{N ps:List Str}{st:Stmt}{scope:Scope}{Nb:List Str}{own:Nat}{cap:List Nat}(_:FS N ps st)(h1:X.env.scope=BU st)(h2:X.N=N)(h:(Rl (BU st).names N scope Nb own cap&&(Nb.take own).all λx=>scope.names.lookup x==some .local||scope.names.lookup x==some .cell)=true):GP X scope Nb own cap:=gh (by rw[h1,h2];exact(Bool.and_eq_true_iff.mp h).1)
theorem wa:FS ["script","room","lines","parts_v","handed","line","other","which","found","due","pair"] ["script"]<|top 65:=NQ AAf ⟨[_],rfl,rfl⟩
theorem j6:∀ps r,Ka ps=some r->r.flat=true:=j4<|Xs (Xq (SI<|SG rfl) Xr)<|Xs (j5<|Xq (SI<|SG rfl) Xr)<|SI<|SG rfl
def QR(K:W.Frag):Sp:=λvs H Q _=>∃(a:Addr)(ns:List Int),vs=[.ref a]/\CS K H a (ns.map V.int)/\ns.length<=63/\∀H',Q (.bl true) H'
set_option tactic.hygienic false
theorem NO{K:W.Frag}{H:Hp}:∀ns:List Int,Ab K H (ns.map PV.int) (ns.map V.int)
 |[]=>by simp[Ab]
 |n::ns=>by rw[AAx,AAx,Ab];exact⟨_,_,rfl,by simp[Rep],NO ns⟩
theorem ye{K:W.Frag}{G:Hp}{a:Addr}(ns:List Int)(h:∃(o:Obj)(its:Array Value)(n:Nat),K.lookup a=some o/\o.cls=.type "tuple"/\o.data=.seq its n/\its.size<=sizeLine/\As (ns.map V.int) its.toList):Rep K G (.tup<|ns.map PV.int)<|.ref a:=by unfold Rep;exact⟨a,ns.map V.int,rfl,.inr h,NO ns⟩
theorem xF{K:W.Frag}{vs:List V}{H:Hp}{Q:VK}{E:XK}(h:QR K vs H Q E):Le K 1 Np vs H Q E:=by
 obtain⟨a,ns,rfl,hS,hl,k⟩:=h;refine⟨rfl,H,[.rd<|ns.map PV.int],.cl<|.bl true,Ak.refl _,?_,eL ns hl,λv G' H' _ r=>?_⟩
 .unfold Ab;refine⟨_,_,rfl,?_,by unfold Ab;rfl⟩;unfold Rep;exact⟨a,_,rfl,hS,NO ns⟩
 .rw[r.bl];exact k H'
def eR(K:W.Frag)(x:Str)(C:Addr):Prop:=W.nsIn K mainGlobals x=some (some<|.ref C)/\W.excIn K C [.type "ValueError",.type "Exception",.type "BaseException",.type "object"] "ValueError.__new__" = true
def eY(l:W.OpenLaw)(w:World)(K:W.Frag)(mg:Str->Option Value)(base:Heap)(fa:Addr)(fd:FuncData):List Prop:=[FS ["script","k","base"] ["script","k"]<|top 43,BO l.prog w K mg base "_law_cell" 1 2 B6,FS ["one","two","point","across","up"] ["one","two","point"]<|top 45,BO l.prog w K mg base "_law_side" 1 3 EC,FS ["room","k"] ["room"]<|top 46,BO l.prog w K mg base "_law_flat" 2 1 Lu,FS ["script","k","count","mode","x","low","high","j","cell","y","room"] ["script","k","count"]<|top 47,BO l.prog w K mg base "_law_plain_room" 3 3 Q3,FS ["script","k","xs","ys","j","cell","plan"] ["script","k"]<|top 48,BO l.prog w K mg base "_law_winding" 2 2 Nt,FS ["room","total","k","one","two"] ["room"]<|top 53,BO l.prog w K mg base "_law_area" 1 1 Nq,FS ["one","two","point","low","high"] ["one","two","point"]<|top 51,BO l.prog w K mg base "_law_on" 2 3 IJ,FS ["one","two","three","four","some","a","b","point","first"] ["one","two","three","four"]<|top 52,BO l.prog w K mg base "_law_meet" 3 4 II,FS ["room","count","k","j"] ["room"]<|top 54,BO l.prog w K mg base "_law_good" 4 1 Lv,FS ["script","k","room","j","cell","at","x","y","tried"] ["script","k","room"]<|top 49,BO l.prog w K mg base "_law_pushed" 5 3 Q4,FS ["script","k","most","cell","room","slant","turn_v","first","x","y"] ["script","k","most"]<|top 50,BO l.prog w K mg base "_law_room" 6 3 Q5,FS ["room","one","other","count","here","there","k","later","left","right"] ["room","one","other"]<|top 55,BO l.prog w K mg base "_law_line" 4 3 HH,FS ["room","count","joined","other","one"] ["room"]<|top 59,BO l.prog w K mg base "_law_joined" 5 1 Q1,FS ["script","k","room","joined","lines","todo","one","other","some","at"] ["script","k","room"]<|top 60,BO l.prog w K mg base "_law_drawn_cut" 6 3 Q0,FS ["room","lines","count","found","one","two","three","sides"] ["room","lines"]<|top 61,BO l.prog w K mg base "_law_parts" 1 2 Q2,FS ["parts_v","line","some"] ["parts_v","line"]<|top 64,BO l.prog w K mg base "_law_other" 1 2 Nr,FS ["corners"] ["corners"]<|top 21,BO l.prog w K mg base "all_near" 1 1 Nl,FS ["one","other","third"] ["one","other","third"]<|top 8,BO l.prog w K mg base "turn" 1 3 Ex,FS ["corners"] ["corners"]<|top 22,BO l.prog w K mg base "all_bend" 2 1 Qt,FS ["corners"] ["corners"]<|top 24,BO l.prog w K mg base "walls_of" 1 1 IL,FS ["count","one","other"] ["count","one","other"]<|top 23,BO l.prog w K mg base "are_neighbours" 1 3 HG,FS ["way","other","start_side","end_side"] ["way","other"]<|top 10,BO l.prog w K mg base "parts" 2 2 Lx,FS ["point","way","start","end","in_width","in_height"] ["point","way"]<|top 9,BO l.prog w K mg base "lies_on" 2 2 GQ,FS ["way","other","touches_way","touches_other"] ["way","other"]<|top 11,BO l.prog w K mg base "meet" 3 2 IK,FS ["corners","walls","k","m"] ["corners"]<|top 25,BO l.prog w K mg base "walls_keep_apart" 4 1 RB,FS ["corners"] ["corners"]<|top 26,BO l.prog w K mg base "doubled_area" 2 1 Qy,FS ["room"] ["room"]<|top 18,BO l.prog w K mg base "is_room" 5 1 Qz,FS ["room"] ["room"]<|top 20,FL l.prog w K mg base "check_room" 6 1 Nm RN,FS ["lines"] ["lines"]<|top 32,BO l.prog w K mg base "rises" 1 1 Q9,FS ["way","point","start_above","end_above","side"] ["way","point"]<|top 12,BO l.prog w K mg base "passes_right_of" 2 2 Nv,FS ["walls","point","passed"] ["walls","point"]<|top 27,BO l.prog w K mg base "place_within" 3 2 Q8,FS ["corners","way","doubled","middle"] ["corners","way"]<|top 28,BO l.prog w K mg base "middle_is_inside" 4 2 Q6,FS ["room","one","other","way","far_walls"] ["room","one","other"]<|top 19,BO l.prog w K mg base "has_line" 5 3 Ls,FS ["one","other"] ["one","other"]<|top 33,BO l.prog w K mg base "cross" 1 2 Nn,FS ["line","lines"] ["line","lines"]<|top 34,BO l.prog w K mg base "crosses_none" 2 2 Qw,FS ["room","lines"] ["room","lines"]<|top 31,BO l.prog w K mg base "cuts_up" 6 2 Qx,FS ["room","lines"] ["room","lines"]<|top 30,FL l.prog w K mg base "check_cut" 7 2 Qv RM,FS ["count","lines","one","other"] ["count","lines","one","other"]<|top 35,BO l.prog w K mg base "are_joined" 2 4 Lq,FS ["count","lines","side","near"] ["count","lines","side"]<|top 36,BO l.prog w K mg base "tips_of" 3 3 Ny,FS ["room","lines","line","tips"] ["room","lines","line"]<|top 39,BO l.prog w K mg base "other_line" 4 3 Nu,FS ["room","lines","line","put"] ["room","lines","line"]<|top 40,BO l.prog w K mg base "can_turn" 6 3 Lr,FS ["room","lines","line","kept"] ["room","lines","line"]<|top 41,BO l.prog w K mg base "turned_at" 5 3 RA,FS ["room","lines","line"] ["room","lines","line"]<|top 38,FL l.prog w K mg base "turned" 8 3 Eb L9,FS ["e","told"] ["e"]<|top 62,N1 l.prog w K mg base "_law_which" 1 Qs,FS ["room","lines","line","which","found","e"] ["room","lines","line"]<|top 63,FL l.prog w K mg base "_law_met" 9 3 JZ e9,FS ["found"] ["found"]<|top 44,BO l.prog w K mg base "_law_whole" 1 1 Kb,FS ["lines","line"] ["lines"]<|top 57,BO l.prog w K mg base "_law_lines_told" 2 1 Ka,FS ["script","room","lines","parts_v","handed","line","other","which","found","due","pair"] ["script"]<|top 65,Cd l.prog w K mg base Dx 10 fa fd ["script"]<|Le K 1 Np]
theorem all_mk{l:W.OpenLaw}{w:World}{K:W.Frag}{h:Heap}{mg:Str->Option Value}{fa:Addr}(X:K.In h)(G:h.Ns mainGlobals mg)(lV:mg "law" = some (.ref fa)) {yG:Tok} {yJ yK:Tok} {Z8:Addr} {UC:Obj} {o3:Nat} {yH:Tok} {yI:Tok} {DH:Addr} {Ni:Addr} {Ng:Addr} {Nh:Addr} {Nj:Addr} {Nk:Addr} (D:ML K (("_law_cell",43)::("_law_side",45)::("_law_flat",46)::("_law_plain_room",47)::("_law_winding",48)::("_law_area",53)::("_law_on",51)::("_law_meet",52)::("_law_good",54)::("_law_pushed",49)::("_law_room",50)::("_law_line",55)::("_law_joined",59)::("_law_drawn_cut",60)::("_law_parts",61)::("_law_other",64)::("all_near",21)::("turn",8)::("all_bend",22)::("walls_of",24)::("are_neighbours",23)::("parts",10)::("lies_on",9)::("meet",11)::("walls_keep_apart",25)::("doubled_area",26)::("is_room",18)::("check_room",20)::("rises",32)::("passes_right_of",12)::("place_within",27)::("middle_is_inside",28)::("has_line",19)::("cross",33)::("crosses_none",34)::("cuts_up",31)::("check_cut",30)::("are_joined",35)::("tips_of",36)::("other_line",39)::("can_turn",40)::("turned_at",41)::("turned",38)::("_law_which",62)::("_law_met",63)::("_law_whole",44)::("_law_lines_told",57)::("law",65) :: [])) (zs:bR K ["len","range","min","max","abs","set","sorted","sum","all","any","isinstance","ValueError","int","bool","list","tuple"]) (zT:W.nsIn K mainGlobals "FARTHEST" = some (some<|.int 100 yG)) (zW:W.nsIn K mainGlobals "ORIGIN" = some (some<|.ref Z8)) (zR:K.lookup Z8=some UC) (zG:UC.cls=.type "tuple") (zC:UC.data=.seq #[.int 0 yJ,.int 0 yK] o3) (zU:W.nsIn K mainGlobals "FEWEST_CORNERS" = some (some<|.int 3 yH)) (zV:W.nsIn K mainGlobals "MOST_CORNERS" = some (some<|.int 12 yI)) (vo:eR K "NoTurn" DH) (vn:eR K "NoRoom" Ni) (vk:eR K "NoCut" Ng) (vm:eR K "NoPoint" Nh) (vp:eR K "TooMany" Nj) (vq:eR K "WardError" Nk) (kO:W.findIn K (.ref DH) "__getattribute__" = some (some<|.builtin "BaseException.__getattribute__")) (kY:W.findIn K (.ref DH) "__getattr__" = some none) (gp:W.findIn K (.ref DH) "__class__" = some (some<|.builtin "object.__class__")) (xG:W.specialIn K (.builtin "object.__class__") "__get__" = some (some<|.builtin "getset_descriptor.__get__")) (yO:W.takesIn K (.builtin "object.__class__")=some true) (ot:W.mroIn K DH (.type "object")=some true) (oV:W.mroIn K DH (.type "BaseException")=some true) (lQ:W.hasDictIn K DH=true) (pE:(Value.ref DH==Value.ref Ni)=false) (wW:W.subIn K (.ref DH) (.ref Ni)=some false) (pC:(Value.ref DH==Value.ref Ng)=false) (wU:W.subIn K (.ref DH) (.ref Ng)=some false) (pD:(Value.ref DH==Value.ref Nh)=false) (wV:W.subIn K (.ref DH) (.ref Nh)=some false) (pG:(Value.ref DH==Value.ref Nj)=false) (wX:W.subIn K (.ref DH) (.ref Nj)=some false) (wY:W.subIn K (.ref DH) (.type "ValueError")=some true) (wZ:W.subIn K (.ref Nk) (.type "BaseException")=some true) (xH:W.subIn K (.ref DH) (.ref Nk)=some true) : ∃fd:FuncData,(∀(s:Shared)(v:Value),BindsTo s fd ⟨[v],[]⟩ [("script",v)])/\∀base:Heap,K.In base->base.Ns mainGlobals mg->Cd l.prog w K mg base Dx 10 fa fd ["script"] (QR K):=by
 have AAC:∃t,mg "FARTHEST" = some (.int 100 t):=⟨_,W.mg_of X G zT⟩;have AAF:∃a,mg "ORIGIN" = some (.ref a)/\∀G,Rep K G (.tup [(.int 0),(.int 0)])<|.ref a:=⟨_,W.mg_of X G zW,λG=>ye [0,0] ⟨_,_,_,zR,zG,zC,(by show 2<=sizeLine;decide),(.cons ⟨_,rfl⟩<|.cons ⟨_,rfl⟩ .nil)⟩⟩;have AAD:∃t,mg "FEWEST_CORNERS" = some (.int 3 t):=⟨_,W.mg_of X G zU⟩;have AAE:∃t,mg "MOST_CORNERS" = some (.int 12 t):=⟨_,W.mg_of X G zV⟩;obtain⟨zm,zu,zt,zr,zg,zv,zw,zx,zh,zi,zl,zf,zk,zj,zo,zy,_⟩:=V8 X G zs;obtain⟨GZ,vc⟩:=vo;have oS:=W.mg_of X G GZ;obtain⟨jK,vZ⟩:=vn;have AAP:=W.mg_of X G jK;obtain⟨jI,vX⟩:=vk;have AAN:=W.mg_of X G jI;obtain⟨jJ,vY⟩:=vm;have AAO:=W.mg_of X G jJ;obtain⟨jL,vd⟩:=vp;have AAQ:=W.mg_of X G jL;obtain⟨jM,ve⟩:=vq;have AAR:=W.mg_of X G jM;have Kj:Lp K DH:=⟨kO,kY,gp,xG,yO,ot,oV,lQ⟩;have zb:IM K ["NoTurn"] "NoRoom"<|.ref Ni:=K9 GZ Kj (Pe pE vZ wW) rfl;have zZ:IM K ["NoTurn"] "NoCut"<|.ref Ng:=K9 GZ Kj (Pe pC vX wU) rfl;have za:IM K ["NoTurn"] "NoPoint"<|.ref Nh:=K9 GZ Kj (Pe pD vY wV) rfl;have zc:IM K ["NoTurn"] "NoTurn"<|.ref DH:=K9 GZ Kj n0 rfl;have zd:IM K ["NoTurn"] "TooMany"<|.ref Nj:=K9 GZ Kj (Pe pG vd wX) rfl;have ze:IM K ["NoTurn"] "ValueError"<|.type "ValueError":=K9 GZ Kj (nz AAf wY) rfl;have AAX:∀(nm:Str) C,List.contains (["NoTurn"]:List Str) nm=true->DI K nm C->W.exmOne K (.ref C) (.ref Nk)=some true:=λnm C hL hC=>by obtain rfl:=Ru hL;obtain rfl:=DI.inj hC GZ;exact jh ve wZ xH
 have AAZ:∀(nm:Str),List.contains (["NoTurn"]:List Str) nm=true->∃C,DI K nm C:=λnm hL=>by obtain rfl:=Ru hL;exact⟨_,GZ⟩
 obtain⟨d0,d1,d2,d3,d4,d5,d6,d7,d8,d9,d10,d11,d12,d13,d14,d15,d16,d17,d18,d19,d20,d21,d22,d23,d24,d25,d26,d27,d28,d29,d30,d31,d32,d33,d34,d35,d36,d37,d38,d39,d40,d41,d42,d43,d44,d45,d46,iN,_⟩:=D;obtain⟨f,fd,F,hm⟩:=OW X G iN;have e:=lV.symm.trans hm;cases e;refine⟨fd,λs v=>Ec.bt F wa s [v] rfl,λbase KB _=>?_⟩;have H:Ln<|(eY l w K mg base fa fd).drop 0:=by
  have AAT:∃C,DI K "NoTurn" C/\OwnCls "NoTurn" C [.type "ValueError",.type "Exception",.type "BaseException",.type "object"] "ValueError.__new__" mg base:=⟨_,GZ,qj KB oS vc⟩
  iterate 96
   refine jA rfl ?_ λsc=>?_
   .first
     |exact NQ AAf ⟨[_],rfl,rfl⟩|exact NQ AAf ⟨[_,_],rfl,rfl⟩|exact NQ AAf ⟨[_,_,_],rfl,rfl⟩|exact NQ AAf ⟨[_,_,_,_],rfl,rfl⟩
     |refine gG (OW X G AAg) sc λhr hu TQ PD hc=>?_
     |refine gY (OW X G AAg) sc λhr hu TQ PD hc=>?_
     |refine gW (OW X G AAg) sc λhr hu hc=>?_
     |refine gL F sc λhr hu TQ PD hc=>?_
    repeat' first|(show _=_;first|exact rfl|exact Zu _|exact Tw|exact ln2|exact Tx|exact ZV|assumption|decide|with_unfolding_all rfl)|(show _\/_;first|exact Or.inl rfl|exact Or.inr rfl|exact Or.inr<|Or.inl rfl)|(show PX _ _ _;first|apply uO|apply tV|apply tw|apply tG (Fn.of (by first|assumption|exact FL.toG AAg) hr)|apply uL|apply sy|apply tx|apply uM|apply t8|apply tE|apply tK|apply t7|apply tL|apply tO|apply t9|apply tD|apply uH|apply uG|apply tI|apply tJ|apply uI|apply uJ|apply tT|apply uK|apply uC|apply uE|apply t6|apply tQ|apply tR|apply tW|apply tZ|apply tj|apply tN|apply tM|apply tU|apply tP|apply uD|apply tY|apply GC (gS hc) qW AAg WD|apply GC (gQ hc) qU AAg WC|apply GC gF qP AAg fi|apply GC gc qY AAg f6|apply GC (gf hc) qc AAg WE|apply GC (gT hc) qX AAg WD|apply GC (gR hc) qV AAg WC|apply GC (gH hc) qQ AAg fj|apply GC (gd hc) qZ AAg WE|apply GC (gI hc) qR AAg fo|apply uN gP qT AAg WB|apply tH (Fn.of (by first|assumption|exact FL.toG AAg) hr) j6|exact ai (L:=["NoTurn"]) (y:=.ref _) _ AAg (λ_ z=>z) (qx AAg) AAg|exact ai (L:=["NoTurn"]) (y:=.ty "ValueError") _ AAg (λ_ z=>z) (qw (T:="ValueError") AAg AAf) AAg)|(show Cf _ _ _;first|apply Z9|apply qr|apply qt|apply NM|apply Ud)|(show DR _ _ _;first|apply vG|apply vH|apply vD|apply vE|apply vI|apply vJ)|(show Cg _ _ _ _ _;first|apply u4|apply u3|apply uv|apply uk|apply uj|apply u6|apply uf|apply ur|apply um|apply u5|apply ui|apply uw|apply vC|apply uu|apply uy|apply u9|apply uz|apply ug)|(show Dm _ _ _ _ _;first|apply uh|apply uq|apply uo)|(show HN _ _ _;first|apply vM|apply vN|apply vK|apply vL)|(show HP _ _ _ _ _ _;first|apply vP AAg hr|apply vR|apply vV|apply vW|apply vS)|(show HQ _ _ _ _ _ _;first|apply vU|apply vQ|apply vT)|(show IQ _ _ _ _ _;first|apply uW|apply uX|apply uY)|(show Kf _ _ _;first|apply ud|apply ue)|(show Ke _ _ _;first|apply uZ|apply uc)|(show Kd _ _ _;first|apply uR|apply uS)|(show HM _ _ _;first|apply uP|apply uQ)|(show Lz _ _;first|apply kW|apply kX)|(show Ja _ _;first|apply kT|apply kU)|(show Cc _ _ _;first|exact gu|exact g5 hu|exact gy|exact gz|exact gr hu|exact gw PD|exact g6|exact gv|exact g7 PD|exact g4 TQ|exact gx)|(show GP _ _ _ _ _;first|exact DT sc rfl rfl (Nb:=["wall"]) AAf|exact DT sc rfl rfl (Nb:=["x","y"]) AAf|exact DT sc rfl rfl (Nb:=["corner"]) AAf|exact DT sc rfl rfl (Nb:=["j","count"]) AAf|exact DT sc rfl rfl (Nb:=["k","lines"]) AAf|exact DT sc rfl rfl (Nb:=["wall","way"]) AAf|exact DT sc rfl rfl (Nb:=["one","line"]) AAf|exact DT sc rfl rfl (Nb:=["part","line"]) AAf|exact DT sc rfl rfl (Nb:=["k","corners"]) AAf|exact DT sc rfl rfl (Nb:=["line","room"]) AAf|exact DT sc rfl rfl (Nb:=["wall","point"]) AAf|exact DT sc rfl rfl (Nb:=["other","line"]) AAf|exact DT sc rfl rfl (Nb:=["x","y","slant"]) AAf|exact DT sc rfl rfl (Nb:=["a","b","x","y"]) AAf|exact DT sc rfl rfl (Nb:=["a","b","xs","ys"]) AAf|exact DT sc rfl rfl (Nb:=["pair","lines","count"]) AAf|exact DT sc rfl rfl (Nb:=["j","joined","one","other"]) AAf|exact DT sc rfl rfl (Nb:=["corner","count","lines","side"]) AAf)|(show List.Nodup _;first|exact sc.nd|decide|(dsimp only[CL];decide +kernel))|assumption|decide|exact Tw|exact ln2|exact Tx|exact ZV|exact Zu _|exact PassesOwn.never|exact qv λ_ _ z=>z|exact Tg|exact vv|exact PySem.F.excBase_ValueError|exact wD hr|(intro;first|rfl|skip)
  exact trivial
 exact(VY (k:=95) H rfl).imp λvs H Q E h=>xF h
theorem walk{l:W.OpenLaw}{q:Program}{loose:List Str}{XP:(Str->Option Value)->Heap->Prop}{YP:World->Heap->Prop}{d:DefRec}{K:Params->W.Frag}(hn:l.most=some 63)(Hk:d.params.defaults=[]) (hY:∀(w:World)(h:Heap),YP w h->(K w.params).In h) (F:∀(w:World)(mg:Str->Option Value)(fa:Addr)(h:Heap),(K w.params).In h->h.Ns mainGlobals mg->mg d.name=some (.ref fa)->
  ∃fd:FuncData,(∀(s:Shared)(u:Value),BindsTo s fd ⟨[u],[]⟩ [("script",u)])/\∀base:Heap,(K w.params).In base->base.Ns mainGlobals mg->Cd l.prog w (K w.params) mg base Dx 10 fa fd ["script"] (QR<|K w.params)) :
 W.WalkO q loose XP YP l.row.toRowW d [] (λf vs=>PySem.call f vs):=
 L2.zH (n:=63) (k:=10) (x:="script") (CX:=λ_=>Dx) (sp:=λw=>QR<|K w.params) hn AAe Hk ⟨rfl,AAe,AAe⟩ hY F (λ_ _ a ns hl _ hS=>⟨a,ns,rfl,hS,hl,λ_=>rfl⟩) λ_ _ _ _ _ z=>z
end L2.K
end
end Internal
open Internal
namespace PySem.W.Fast
def N:=Nat
def tw4704023450036673528:=N
def tw55691465285826201:=N
def tw1136566113617186324:=N
def tw1006637676690370158:=N
def tw9464297698164934801:=N
def tw1601411228365974119:=N
def tw14979874578660465608:=N
def tw12395435936541084304:=N
def tw5708497128347904185:=N
def tw10089045247903695017:=N
def tw12029015457876912295:=N
def tw5192837341414347651:=N
def tw10287289331929305227:=N
def tw8867808442546337648:=N
def tw17088448694464676617:=N
def tw1653384475030397627:=N
def tw6733283296223648880:=N
def tw7316364130667450707:=N
def tw11460037908997597379:=N
def tw3006209532638139381:=N
def tw11183480625512684004:=N
def tw6706958877519933309:=N
def tw6001163101521273447:=N
def tw4891889521038460446:=N
def tw4523524819165118452:=N
def tw12862687785985850847:=N
def tw5828338439800591891:=N
def tw6196864911350463997:=N
def tw1221997038710771665:=N
def tw11283010730690873088:=N
def tw16859878193079756305:=N
def tw13393135123433929900:=N
def tw8411328108817884529:=N
def tw17298262330267854385:=N
def tw6134804295881315734:=N
def tw17375763663320400318:=N
def tw1734960824224283718:=N
def tw3810677208255947853:=N
def tw18393219516738139573:=N
def tw14121660054711828933:=N
def tw7254224026623304963:=N
def tw16500744074546139710:=N
def tw7384955761259985789:=N
def tw8665443843213444527:=N
def tw3208737732233635059:=N
def tw3044774346556390013:=N
def tw1475499185249552234:=N
def tw6380213199789630775:=N
def tw3958422915423604504:=N
def tw10921053589225715036:=N
def tw16002561956522829617:=N
def tw3273067048396809589:=N
def tw366696465456613876:=N
def tw14214179111981862660:=N
def tw12160245741263948773:=N
def tw4382231381033991152:=N
def tw2449653297931066660:=N
def tw16522306166870443812:=N
def tw4409857130083685568:=N
def tw4083313823724986727:=N
def tw13258106044710461572:=N
def tw14833924603582234477:=N
def tw9028236593078198112:=N
def tw12651862276798670068:=N
def tw10100177311735924793:=N
def tw628967967254362188:=N
def tw3117106247699636955:=N
def tw11926616468736335212:=N
def tw12503897317338774999:=N
def tw5218834371828021945:=N
def tw9588938954635819403:=N
def tw9331476637415668052:=N
def tw2104635059669015984:=N
def tw4865800940962277581:=N
def tw17875545067229101806:=N
def tw5379697628568881295:=N
def tw11723302797330100081:=N
def tw165794295534837287:=N
def tw12575321944864792710:=N
def tw12379134024580264804:=N
def tw10820865732254298418:=N
def tw17841397936194472816:=N
def tw15048413337472777624:=N
def tw7348440264556783438:=N
def tw17958978524321878938:=N
def tw15865029311921877513:=N
def tw16872397354954260012:=N
def tw12536857774316312400:=N
def tw16433486032654446407:=N
def tw1579014783450839812:=N
def tw4635903974874381085:=N
def tw4786801096519326972:=N
def tw3707456509035718986:=N
def tw371509244257579866:=N
def tw11901181276686407373:=N
def tw274603793514644610:=N
def tw14320648586675027998:=N
def tw2198821548814360869:=N
def tw475777349360216665:=N
def tw7808877830070567218:=N
def tw2154033271153737224:=N
def tw12025878610632221642:=N
def tw15615679703120156714:=N
def tw2956380020967956848:=N
def tw1740579482189609746:=N
def tw1624391437410601883:=N
def tw16197605633676366715:=N
def tw9964661854026546163:=N
def tw10887898838135432792:=N
def tw88375492058018677:=N
def tw12990178479925266550:=N
def tw13014348868558216233:=N
def tw11505780001107401101:=N
def tw8874880269603558142:=N
def tw17031880067140087986:=N
def tw5332349943247671076:=N
def tw6312364574028175193:=N
def tw6983997083208120650:=N
def tw8943194990539991684:=N
def tw3627142069178403621:=N
def tw3858808466887660424:=N
def tw12268609021306672318:=N
def tw12662954261938838654:=N
def tw13278983086227353710:=N
def tw17071091284042850341:=N
def tw4326731032329683778:=N
def tw1449660296212375535:=N
def tw16660662890471218264:=N
def tw2938979555330090444:=N
def tw13650203712148115363:=N
def tw12175605388904832018:=N
def tw9077938974735569610:=N
def tw9472942421000507116:=N
def tw8421349418646617007:=N
def tw2980198703646972613:=N
def tw16750518750234486889:=N
def tw2574341204417367637:=N
def tw9695268013254285447:=N
def tw18375288659978581633:=N
def tw5874377301524087370:=N
def tw2693961274204621578:=N
def tw18224214319263229353:=N
def tw11983238192817747053:=N
def tw10870400214126033197:=N
def tw12914370882844700490:=N
def tw9353925314754667599:=N
def tw17436127751643598040:=N
def tw18049019864830457288:=N
def tw16431528638381728692:=N
def tw12109750502351735241:=N
def tw16502063700362182180:=N
def tw7882116125855182948:=N
def tw12582029898256302490:=N
def tw620179588242021165:=N
def tw15720305911705979488:=N
def tw11190922814452824477:=N
def tw15247089604344311270:=N
def tw13620443588426765744:=N
def tw211920011303512838:=N
def tw11247615178705747676:=N
def tw982254279414450190:=N
def tw3558318486436337893:=N
def tw4614999760050267174:=N
def tw13613257260221628183:=N
def tw3577515573086128848:=N
def tw15223152735078244345:=N
def tw17610265689046516339:=N
def tw11189184430049528193:=N
def tw9456958450303527926:=N
def tw11136954558574484729:=N
def tw784248803062304197:=N
def tw15514606829144921732:=N
def tw13784659678860935829:=N
def tw17323896158447352790:=N
def tw14725579377034274990:=N
def tw6332262241503106374:=N
def tw254150855601602269:=N
def tw3350473067054606173:=N
def tw12020630161704503272:=N
def tw500721406055368688:=N
def tw3247465516383286298:=N
def tw17926671679233226270:=N
def tw13228447669030059360:=N
def tw7361868862076157884:=N
def tw3230088618888628262:=N
def tw1599431511756182036:=N
def tw16840792573426508580:=N
def tw16754786867866665576:=N
def tw10580418641249120460:=N
def tw7586480911325059547:=N
def tw10412844402334150395:=N
def tw12511193606938062904:=N
def tw8777470900642303034:=N
def tw1330282374720039700:=N
def tw7795294892572158959:=N
def tw7377465014276455705:=N
def tw5033435494324450307:=N
def tw477696422613046486:=N
def tw1764179390849848794:=N
def tw9499979473604918511:=N
def tw4271424043400965427:=N
def tw6750944272274768039:=N
def tw8308191596331822149:=N
def tw16611274173137060329:=N
def tw10764535001786060897:=N
def tw14242033176768234621:=N
def tw7682838076257517727:=N
def tw3695809808534985328:=N
def tw13303929133310059143:=N
def tw8895932841890175629:=N
def tw3327447228444450505:=N
def tw18393015265994540304:=N
def tw14397127542370123463:=N
def tw11870203814155405267:=N
def tw8620236530590472614:=N
def tw6620041015328845781:=N
def tw4577355913503069798:=N
def tw8373721615382534758:=N
def tw18023670255763862194:=N
def tw11270134398261642566:=N
def tw10677482240243372215:=N
def tw16749894465510268877:=N
def tw13640541536070249743:=N
def tw11582003719084222025:=N
def tw13967595602225454198:=N
def tw9581140669582933052:=N
def tw17854219754097792670:=N
def tw4846190108940706782:=N
def tw16749993975828391202:=N
def tw11955376883792613034:=N
def tw8401292368453033649:=N
def tw1386493710636177224:=N
def tw17035111616386151196:=N
def tw6687116544945096386:=N
def tw1162593594733152745:=N
def tw7915446825169541316:=N
def tw6895520986425206039:=N
def tw6279941659024700210:=N
def tw482150288706383617:=N
def tw18417080348781303964:=N
def tw14125679518661710891:=N
def tw6236319646440446562:=N
def tw13999662767056371654:=N
def tw3283708306951359961:=N
def tw12329836731267745764:=N
def tw7640319502891218150:=N
def tw5007063585531029291:=N
def tw4995511838853973454:=N
def tw16952613755863994223:=N
def tw17185157662858260633:=N
def tw2188000251668849507:=N
def tw17459443578055213519:=N
def tw9283607757836549423:=N
def tw10093960633394033424:=N
def tw13653747487930031735:=N
def tw8673730870735522100:=N
def tw4418021420344161675:=N
def tw4034813954432588183:=N
def tw3763671891567809893:=N
def tw3225418290746829381:=N
def tw11506263370674297023:=N
def tw588315159494554291:=N
end PySem.W.Fast
open PySem PySem.W PyProof.Rows
set_option maxHeartbeats 0 in
theorem PySem.Challenge.cw_threewards_k11_lines_turned_holds : PySem.Challenge.rw_threewards_k11_lines_turned.Holds := by
  w_on; o_law; k_head; (case hw => w_witness2)
  k_fill
  refine L2.K.walk (l := PySem.Challenge.rw_threewards_k11_lines_turned) rfl rfl (fun w h Y => PySem.W.kIn_of Y) ?F
  case F =>
    intro w mg fa h KX G hmg
    refine' L2.K.all_mk KX G hmg ..
    all_goals try first | ((refine' L2.K.dcs (L2.PL.dmk ?a ?b ?c ?d) ?_; (case a => k_is); (case b => k_is); (case c => k_is); (case d => k_is)); (repeat (refine' L2.K.dcs (L2.PL.dmk ?a ?b ?c ?d) ?_; (case a => k_is); (case b => k_is); (case c => k_is); (case d => k_is))); exact L2.K.dnl) | k_is | (refine' L2.PL.dmk ?a ?b ?c ?d; (case a => k_is); (case b => k_is); (case c => k_is); (case d => k_is)) | (refine' ⟨?_, ?_⟩; k_is; k_exc) | exact rfl | (refine' ⟨?_, ?_⟩; k_is; refine' ⟨?_, ?_⟩; k_is; refine' ⟨?_, ?_⟩; k_is; refine' ⟨?_, ?_⟩; k_is; refine' ⟨?_, ?_⟩; k_is; refine' ⟨?_, ?_⟩; k_is; refine' ⟨?_, ?_⟩; k_is; refine' ⟨?_, ?_⟩; k_is; refine' ⟨?_, ?_⟩; k_is; refine' ⟨?_, ?_⟩; k_is; refine' ⟨?_, ?_⟩; k_is; refine' ⟨?_, ?_⟩; k_is; refine' ⟨?_, ?_⟩; k_is; refine' ⟨?_, ?_⟩; k_is; refine' ⟨?_, ?_⟩; k_is; refine' ⟨?_, ?_⟩; k_is; trivial)
