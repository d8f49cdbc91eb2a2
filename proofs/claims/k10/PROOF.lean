import PyProof.Rows.All
import Wide.All
import OpenK.AllK
import Wide.FinOn
import Lean
import PyProof.EqAt
import PyProof.EqKinds
import PyProof.TupleCall
import PyProof.CompFree
import PyProof.CompUse
import PySem.SetOps
import PyProof.SetScanFacts
import PyProof.TupleKey
import PyProof.SetKind
import PyProof.Rows.SetFrom
import PyProof.IsRules
import PyProof.P3Eq
import PyProof.NeKinds
import KE.KSortTup
import KE.KTupSum
import PySem.Challenge.RW_threewards_k10_whole_all_in_view
set_option Elab.async false
set_option linter.all false
set_option maxRecDepth 100000
set_option compiler.extract_closed false
set_option bootstrap.genMatcherCode false
namespace Internal
noncomputable section
theorem U{p:Prop}(h:p:=by first|with_reducible(first|assumption|exact Int.le_of_lt (by assumption)|exact Nat.le_of_lt (by assumption)|exact Int.ne_of_gt (by assumption)|exact Int.ne_of_lt (by assumption))|lia):p:=h
theorem AGg{p:Prop}(h:p:=by grind):p:=h
theorem AGh{p:Prop}(h:p:=by simp):p:=h
theorem AGi{p:Prop}(h:p:=by omega):p:=h
theorem AGj{p:Prop}(h:p:=by decide):p:=h
theorem AGk{p:Prop}(h:p:=by decide +kernel):p:=h
theorem AGl{p:Prop}(h:p:=by assumption):p:=h
def AGm:=@List.length_map
def AGn:=@Int.emod_eq_of_lt
def AGo:=@if_pos
def AGp:=@if_neg
def AGq:=@List.mem_range
def AGr:=@List.mem_cons_of_mem
def AGs:=@List.getElem?_eq_some_iff
def AGt:=@Int.le_of_lt
def AGu:=@Int.mul_nonneg
def AGv:=@List.map_cons
def AGw:=@List.mem_cons_self
def AGx:=@Bool.and_eq_true
def AGy:=@Nat.le_refl
def AGz:=@List.mem_cons
def AG0:=@decide_eq_true_eq
def AG1:=@Int.mul_pos
def AG2:=@List.size_toArray
def AG3:=@List.mem_singleton
def AG4:=@Int.emod_lt_of_pos
def AG5:=@Int.mul_le_mul_of_nonneg_left
def AG6:=@List.length_cons
def AG7:=@Nat.ne_of_lt
def AG8:=@List.getElem?_eq_getElem
def AG9:=@Int.add_zero
def AHA:=@Int.mul_eq_zero
def AHB:=@Int.toNat_of_nonneg
def AHC:=@List.length_append
def AHD:=@List.length_range
def AHE:=@Int.emod_nonneg
def AHF:=@Option.bind_some
def AHG:=@beq_eq_false_iff_ne
def AHH:=@List.getElem?_set_ne
def AHI:=@Nat.lt_of_lt_of_le
def AHJ:=@List.mem_append
def AHK:=@decide_eq_false
def AHL:=@Int.mul_le_mul_of_nonneg_right
def AHM:=@decide_eq_true
def AHN:=@List.mem_filter
def AHO:=@Int.emod_emod_of_dvd
def AHP:=@Option.some.inj
def AHQ:=@Int.mul_nonpos_of_nonneg_of_nonpos
def AHR:=@List.getElem?_append_left
def AHS:=@List.map_append
def AHT:=@List.map_map
def AHU:=@Int.lt_or_gt_of_ne
def AHV:=@List.getElem?_append_right
def AHW:=@Int.zero_add
def AHX:=@Array.getElem?_eq_getElem
def AHY:=@Int.le_refl
def AHZ:=@Bool.not_eq_true'
def AHa:=@congrArg
def AHb:=@List.mem_map
def AHc:=@Option.some.injEq
def AHd:=@Nat.le_trans
def AHe:=@Bool.or_eq_false_iff
def AHf:=@Int.zero_mul
def AHg:=@List.filter_cons
def AHh:=@Ne.symm
def AHi:=@List.getElem?_map
def AHj:=@List.any_cons
def AHk:=@List.getD_eq_getElem?_getD
def AHl:=@List.mem_append_right
def AHm:=@Array.length_toList
def AHn:=@Classical.byContradiction
def AHo:=@Bool.eq_iff_iff
def AHp:=@List.pairwise_append
def AHq:=@List.length_nil
def AHr:=@Option.map_some
def AHs:=@Bool.or_eq_true
def AHt:=@PySem.mem_of_lookup
def AHu:=@Int.sub_self
def AHv:=@Int.mul_zero
def AHw:=@List.mem_append_left
def AHx:=@List.mem_of_getElem?
def AHy:=@List.pairwise_iff_getElem
def AHz:=@Int.le_of_mul_le_mul_left
def AH0:=@Int.eq_of_mul_eq_mul_left
def AH1:=@List.nil_append
def AH2:=@Int.dvd_refl
def AH3:=@Int.sub_emod
def AH4:=@List.not_mem_nil
def AH5:=@List.getElem?_cons_succ
def AH6:=@PySem.F.plainAttrs_list
def AH7:=@Int.add_mul_emod_self_left
def AH8:=@List.append_nil
def AH9:=@List.all_eq_true
def AIA:=@beq_iff_eq
def AIB:=@List.sum_cons
def AIC:=@Array.getElem?_toList
def AID:=@Prod.ext
def AIE:=@PySem.W.kia_one
def AIF:=@Bool.false_ne_true
def AIH:=@List.getElem?_replicate
def AII:=@List.lookup_cons
def AIJ:=@List.cons_append
def AIK:=@Int.le_trans
def AIL:=@Int.add_emod
def AIM:=@Int.emod_self
def AIN:=@if_true
def AIO:=@Nat.zero_le
def AIP:=@List.any_eq_false
def AIQ:=@List.nodup_cons
def AIR:=@Int.mul_ediv_add_emod
def AIS:=@Bool.true_and
def AIT:=@List.range_succ
def AIU:=@List.getElem?_set_self
def AIV:=@Int.mul_sub
def AIW:=@Prod.mk.inj
def AIX:=@List.length_take
def AIY:=@List.length_replicate
def AIZ:=@List.length_singleton
def AIa:=@List.set_cons_zero
def AIb:=@List.drop_eq_getElem_cons
def AIc:=@Nat.le_of_lt
def AId:=@List.any_map
def AIe:=@Int.pos_of_mul_pos_right
def AIf:=@List.pairwise_map
def AIg:=@Bool.eq_false_iff
def AIh:=@Int.lt_trichotomy
def AIi:=@Int.add_assoc
def AIj:=@decide_eq_false_iff_not
def AIk:=@Int.emod_eq_emod_iff_emod_sub_eq_zero
def AIl:=@Int.one_mul
def AIm:=@List.map_nil
def AIn:=@Int.le_total
def AIo:=@Int.mul_lt_mul_of_pos_right
def AIp:=@Int.mul_emod_right
def AIq:=@List.foldl_cons
def AIr:=@List.length_filter_le
def AIs:=@Nat.lt_irrefl
def AIt:=@Bool.or_false
def AIu:=@Int.mul_nonneg_of_nonpos_of_nonpos
def AIv:=@List.getElem?_of_mem
def AIw:=@Int.mul_neg_of_pos_of_neg
def AIx:=@Int.le_sub_one_of_lt
def AIy:=@Int.sub_one_lt_of_le
def AIz:=@Int.neg_mul
def AI0:=@Nat.zero_add
def AI1:=@Int.mul_comm
def AI2:=@or_false
def AI3:=@List.mem_reverse
def AI4:=@List.getElem_append_left
def AI5:=@List.filterMap_cons
def AI6:=@List.getElem_of_mem
def AI7:=@List.find?_cons
def AI8:=@Int.not_le
def AI9:=@List.Nodup.length_le_of_subset
def AJA:=@List.getElem_cons_succ
def AJB:=@List.take_of_length_le
def AJC:=@Int.neg_neg
def AJD:=@Int.mul_neg
def AJE:=@Option.isSome_map
def AJF:=@Nat.lt_succ_of_lt
def AJG:=@Int.le_of_eq
def AJH:=@Int.sub_nonneg
def AJI:=@Nat.le_of_ble_eq_true
def AJJ:=@PyProof.Rows.callWith_type1
def AJK:=@List.length_drop
def AJL:=@List.getElem_mem
def AJM:=@Int.lt_iff_le_and_ne
def AJN:=@Array.getElem?_eq_some_iff
def AJO:=@Prod.mk.injEq
def AJP:=@List.perm_ext_iff_of_nodup
def AJQ:=@Array.perm_iff_toList_perm
def AJR:=@Int.mul_lt_mul_of_pos_left
def AJS:=@Int.lt_irrefl
def AJT:=@Bool.beq_comm
def AJU:=@Int.sub_pos
def AJV:=@List.countP_eq_zero
def AJW:=@List.length_reverse
def AJX:=@List.map_congr_left
def AJY:=@List.filter_eq_self
def AJZ:=@Int.mul_ne_zero
def AJa:=@Int.lt_of_mul_lt_mul_left
def AJb:=@Bool.decide_and
def AJc:=@List.filter_nil
def AJd:=@List.mem_filterMap
def AJe:=@Nat.lt_of_le_of_lt
def AJf:=@List.pairwise_cons
def AJg:=@PyProof.Rows.F.entry_set_update_loop
def AJh:=@Int.sub_zero
def AJi:=@Int.lt_of_le_of_lt
def AJj:=@List.set_cons_succ
def AJk:=@List.any_nil
def AJl:=@List.reverse_cons
def AJm:=@Int.mul_nonpos_of_nonpos_of_nonneg
def AJn:=@List.foldl_append
def AJo:=@PySem.W.cellsFrom_some
def AJp:=@List.length_pos_of_mem
def AJq:=@List.filter_eq_nil_iff
def AJr:=@Int.sub_mul
def AJs:=@List.getElem_inj
def AJt:=@List.nodup_range
def AJu:=@List.mem_toArray
def AJv:=@List.any_eq_true
def AJw:=@Array.getElem?_setIfInBounds_ne
def AJx:=@List.of_mem_zip
def AJy:=@List.mem_of_mem_drop
def AJz:=@List.countP_map
def AJ0:=@List.mem_of_mem_take
def AJ1:=@Int.mul_le_mul_of_nonpos_left
def AJ2:=@List.getElem?_range
def AJ3:=@Bool.not_false
def AJ4:=@Bool.false_and
def AJ5:=@or_congr_right
def AJ6:=@Int.neg_pos
def AJ7:=@List.getElem_range
def AJ8:=@List.lookup_append
def AJ9:=@List.zip_cons_cons
def AKA:=@Array.getD_eq_getD_getElem?
def AKB:=@Int.add_emod_right
def AKC:=@List.countP_append
def AKD:=@List.take_sublist
def AKE:=@Int.toNat_natCast
def AKF:=@List.nodup_append
def AKG:=@List.append_assoc
def AKH:=@Int.mul_pos_of_neg_of_neg
def AKI:=@Int.not_lt
def AKJ:=@Int.mul_neg_of_neg_of_pos
def AKK:=@Decidable.byContradiction
def AKL:=@List.getElem?_take_of_lt
def AKM:=@Nat.lt_trans
def AKN:=@Nat.succ_pos
def AKO:=@List.filterMap_cons_some
def AKP:=@List.drop_length
def AKQ:=@List.all_map
def AKR:=@Nat.lt_or_ge
def AKS:=@Int.add_comm
def AKT:=@List.countP_cons
def AKU:=@PySem.F.slot_list_count
def AKV:=@PySem.F.type_list_count
def AKW:=@PySem.F.slot_list_index
def AKX:=@PySem.F.type_list_index
def AKY:=@Int.emod_eq_zero_of_dvd
def AKZ:=@Nat.exists_eq_add_of_le
def AKa:=@Int.eq_ofNat_of_zero_le
def AKb:=@List.pairwise_singleton
def AKc:=@List.length_set
def AKd:=@List.cons.injEq
def AKe:=@List.sum_append
def AKf:=@Sum.inl.inj
def AKg:=@Option.map_eq_some_iff
def AKh:=@List.pairwise_lt_range
def AKi:=@Nat.le_succ
def AKj:=@List.not_of_lt_findIdx
def AKk:=@List.find?_cons_of_pos
def AKl:=@List.find?_cons_of_neg
def AKm:=@List.nodup_nil
def AKn:=@List.take_append_drop
def AKo:=@List.drop_zero
def AKp:=@PySem.boot_len
def AKq:=@List.dropLast_eq_take
def AKr:=@Nat.mod_lt
def AKs:=@List.getElem_toArray
def AKu:=@Bool.not_true
def AKv:=@Nat.add_assoc
def AKw:=@PySem.W.hideAll_get
def AK0:=@Nat.le_of_eq
def AK5:=@Bool.or_comm
def AK7:=@Int.lt_trans
def ALH:=@Int.min_def
def ALI:=@Int.max_def
theorem Br{z y q:Nat}(h0:z<q)(h1:q<y):z<y:=U
theorem Bn(h0:3<=z):0<z:=U
theorem Cp(h0:y<=z):(0:Int)<=(z-y):=U
theorem JR(h0:(0:Int)<z):(0:Int)<=z:=U
theorem KU(h0:(q=(0:Int))\/((z-y)=(0:Int)))(h1:¬(q=(0:Int))):z=y:=U
theorem Ce{z y:Nat}(h0:z<y):(↑z:Int)<(↑y:Int):=U
theorem Bi : (0:Int)<=(0:Int):=U
theorem Bj{z:Nat} : (0:Int)<=(↑z:Int):=U
theorem Cf(h0:(0:Int)<=z)(h1:¬(z=(0:Int))):(0:Int)<z:=U
theorem FP: z<(z+1):=U
theorem DH : (0:Int)<=(1:Int):=U
theorem EJ{z:Int} : z<=z:=U
theorem EK(h0:(0:Int)<=z):(0:Int)<=(z+(1:Int)):=U
theorem F0(h0:y<z):(0:Int)<(z-y):=U
theorem GS(h0:z<(y+1))(h1:¬(z=y)):z<y:=U
theorem Dt: ((z-(1:Int))+(1:Int))=z:=U
theorem Eg(h0:z<=12):z<=1000:=U
theorem FO(h0:(0:Int)<z):¬(z=(0:Int)):=U
theorem HF : (0:Int)<(1:Int):=U
theorem F1(h0:y<z):(0:Int)<=(z-y):=U
theorem E3{z:Nat}(h0:0<z):(0:Int)<(↑z:Int):=U
theorem Dd{z:Nat} : (↑z:Int)<=(↑z:Int):=U
theorem HG(h0:z<y):z<(y+1):=U
theorem Pb(h0:¬(y=z)):¬((z-y)=(0:Int)):=U
theorem yK(h0:¬((0:Int)<z)):z<=(0:Int):=U
theorem Ld{z y q:Int}(h0:(z<=q)/\(q<y)):z<y:=U
theorem JQ{z:Nat}(h0:3<=z):(0:Int)<(↑z:Int):=U
theorem KS{z:Nat}(h0:3<=z):(2:Int)<=(↑z:Int):=U
theorem Pc(h0:¬(z<(0:Int))):(0:Int)<=z:=U
theorem JS{z y q v:Nat}(h0:z<q)(h1:q<v)(h2:v<y):z<y:=U
theorem GU: (z+(y+(1:Int)))=((z+y)+(1:Int)):=U
theorem IC{z:Nat}(h0:0<z):¬((↑z:Int)=(0:Int)):=U
theorem Le{z y:Nat}(h0:¬(y<z)):z<=y:=U
theorem JT: (z-(z+y))=(-y):=U
theorem M1(h0:(z+1)<=y):z<=y:=U
theorem M3: 0<=z:=U
theorem Lf(h0:(0:Int)<=y):(z-y)<=z:=U
theorem JU{y:Nat}(h0:z<(↑y:Int)):z<=(↑y:Int):=U
theorem Lg(h0:(z+1)<y):z<y:=U
theorem Lh{z:Nat}(h0:3<=z):¬((↑z:Int)=(0:Int)):=U
theorem De : (0:Int)<=(1000:Int):=U
theorem Df{z:Nat}(h0:3<=z):(1:Int)<(↑z:Int):=U
theorem KW(h0:z<=y):z<(y+1):=U
theorem Pd{z y:Nat}(h0:z<y):(↑z:Int)<=(↑y:Int):=U
theorem Pe{z y q:Int} : (z-y)=((z-q)+(q-y)):=U
theorem jJ(h0:(y<=q)/\(q<z)):(0:Int)<((2:Int)*(z-y)):=U
theorem M4(h0:(0:Int)<=z):(0:Int)<=z:=U
theorem Xa{z y:Int} : ((z+y)-z)=y:=U
theorem Sh{z y q:Int}(h0:(z-q)=(y-q)):z=y:=U
theorem M5(h0:z<=y):z<=(y+1):=U
theorem Si: (z-(z-(1:Int)))=(1:Int):=U
theorem Sj: ((y*z)+((0:Int)*(z-z)))=(y*z):=U
theorem Pf(h0:z<=y):(z+1)<=(y+1):=U
theorem Sk(h0:z=(0:Int)):(0:Int)<=z:=U
theorem yM{z y q v:Int}(h0:(z-y)=(q-v)):z=(y+(q-v)):=U
theorem Sl{z y:Int} : (z+(y-z))=y:=U
theorem Sn(h0:(z*y)<((z*q)+(v*(u-q)))):((z*y)+((0:Int)*(y-y)))<((z*q)+(v*(u-q))):=U
theorem Pg{z y:Nat}(h0:(↑z:Int)<(↑y:Int)):z<y:=U
theorem M6(h0:(y+3)=z):(z-1)<z:=U
theorem Ph{z:Nat} : (((↑z:Int)-(1:Int))+(1:Int))=(↑z:Int):=U
theorem jK(h0:z<=((y+1)+q)):z<=(y+(q+1)):=U
theorem Pj{y q z:Int}(h0:((y<=z)/\(z<q))\/((q<=z)/\(z<y))):¬(y=q):=U
theorem Mz{z y:Nat}(h0:z<y):((↑z:Int)-(1:Int))<(↑y:Int):=U
theorem PU: (z+(y-(1:Int)))=((z+y)-(1:Int)):=U
theorem PY : (0:Int)<(2:Int):=U
theorem Lc{y q:Nat}(h0:(0:Int)<=z)(h1:(y+2)<=q):((↑y:Int)-z)<(↑q:Int):=U
theorem PZ(h0:(1:Int)<=z):(0:Int)<z:=U
theorem XY(h0:((z*y)+(v*(u-y)))<(z*q)):((z*y)+(v*(u-y)))<((z*q)+((0:Int)*(q-q))):=U
theorem XZ: (y*z)=((y*z)+((0:Int)*(z-z))):=U
theorem Pa(h0:z<(0:Int)):(0:Int)<(-z):=U
theorem yJ(h0:¬((0:Int)<=z)):(0:Int)<(-z):=U
theorem Sg: ((z+y)-(z-(1:Int)))=(y+(1:Int)):=U
theorem jI: 0<(z+1):=U
theorem JP: ((z+(1:Int))-(1:Int))=z:=U
namespace L2
open PySem PySem.Spec PyProof.Rows
abbrev Key:=Sum Int Str
noncomputable def Mr:Key->Value->Bool
 |.inl k,v=>Value.isInt k v
 |.inr x,v=>Value.isStrOf x v
noncomputable def xh(w:World):Key->Int
 |.inl k=>hashInt k
 |.inr x=>hashStr w x
theorem JN:∀{k:Key}{v:Value},Mr k v=true->(∃i t,k=Sum.inl i/\v=Value.int i t)\/(∃x t,k=Sum.inr x/\v=Value.str x t)
 |.inl i,v,h=>by obtain⟨t,e⟩:=Value.isInt_shape h;exact .inl ⟨i,t,rfl,e⟩
 |.inr x,v,h=>by obtain⟨t,e⟩:=Value.isStrOf_shape h;exact .inr ⟨x,t,rfl,e⟩
theorem xi(i:Int)(t:Tok):Mr (.inl i) (.int i t)=true:=by simp[Mr,Value.isInt]
theorem xj(x:Str)(t:Tok):Mr (.inr x) (.str x t)=true:=by simp[Mr,Value.isStrOf]
theorem xk(a b:Int):decide ((Sum.inl a:Key)=Sum.inl b)=(a==b):=by
 by_cases e:a=b
 .subst e;simp
 .have h:¬ (Sum.inl a:Key)=Sum.inl b:=λq=>e<|AKf q;rw[AHK h];exact(AHG.mpr e).symm
theorem xn(a b:Str):decide ((Sum.inr a:Key)=Sum.inr b)=decide (a=b):=by
 by_cases e:a=b
 .simp
 .have h:¬ (Sum.inr a:Key)=Sum.inr b:=λq=>e<|Sum.inr.inj q;simp only[AHK h,AHK e]
theorem xl(a:Int)(b:Str):decide ((Sum.inl a)=Sum.inr b)=false:=AHK λq=>nomatch q
theorem xm(a:Str)(b:Int):decide ((Sum.inr a)=Sum.inl b)=false:=AHK λq=>nomatch q
def E4(prog:Program)(w:World):PySem.KeyKind prog w Key where
 is:=Mr
 hash:=xh w
 inj:=λv a b ha q=>by
  rcases JN ha with⟨i,t,rfl,rfl⟩|⟨x,t,rfl,rfl⟩
  .rcases JN q with⟨j,u,rfl,e⟩|⟨y,u,rfl,e⟩
   .injection e with e1 _;rw[e1]
   .exact nomatch e
  .rcases JN q with⟨j,u,rfl,e⟩|⟨y,u,rfl,e⟩
   .exact nomatch e
   .injection e with e1 _;rw[e1]
 byValue:=λk v h=>by rcases JN h with⟨i,t,rfl,rfl⟩|⟨x,t,rfl,rfl⟩<;>rfl
 pyHash:=λz h=>by
  rcases JN z with⟨i,t,rfl,rfl⟩|⟨x,t,rfl,rfl⟩
  .exact wpAny_pyHash_int h
  .exact wpAny_pyHash_str h
 eqBool:=λp z h=>by
  rcases JN p with⟨i,t,rfl,rfl⟩|⟨x,t,rfl,rfl⟩
  .rcases JN z with⟨j,u,rfl,rfl⟩|⟨y,u,rfl,rfl⟩
   .rw[xk]at h;exact wpAny_eqBool_int h
   .rw[xl]at h;exact SeqAt.EqAt.int_str i t y u _ _ _ _ h
  .rcases JN z with⟨j,u,rfl,rfl⟩|⟨y,u,rfl,rfl⟩
   .rw[xm]at h;exact SeqAt.EqAt.str_int x t j u _ _ _ _ h
   .rw[xn]at h;exact wpAny_eqBool_str h
 «strs»:=λk x t v h=>by
  rcases JN h with⟨i,u,rfl,e⟩|⟨y,u,rfl,e⟩
  .exact nomatch e
  .injection e with e1 _
   subst e1;cases v<;>rfl
theorem yg(prog:Program)(w:World)(i:Int)(t:Tok):(E4 prog w).is (.inl i) (.int i t)=true:=xi i t
theorem yh(prog:Program)(w:World)(x:Str)(t:Tok):(E4 prog w).is (.inr x) (.str x t)=true:=xj x t
inductive V where
 |As|bl (b:Bool)|int (i:Int)|str (x:Str)|VC (b:Array UInt8)|MP (b:UInt64)|ref (a:Addr)|ty (n:String)
def RelV:V->Value->Prop
 |.As,u=>u=Value.none
 |.bl b,u=>u=Value.bool b
 |.int i,u=>∃t,u=Value.int i t
 |.str x,u=>∃t,u=Value.str x t
 |.VC b,u=>∃t,u=Value.bytes b t
 |.MP b,u=>∃t,u=Value.float b t
 |.ref a,u=>u=Value.ref a
 |.ty n,u=>u=Value.type n
abbrev Ar:List V->List Value->Prop:=Paired RelV
theorem Ar.length(r:Ar xs us):xs.length=us.length:=Paired.length r
set_option tactic.hygienic false
theorem Ar.get:∀{xs:List V}{us:List Value}{i:Nat}{x:V},Ar xs us->xs[i]? = some x->∃u,us[i]? = some u/\RelV x u:=by
 intro xs us i x h
 induction h generalizing i with
 |nil=>intro e;contradiction
 |cons r t ih=>
  intro e;cases i with
  |zero=>cases e;exact⟨_,rfl,r⟩
  |succ i=>exact ih e
theorem Ar.append:∀{xs ys:List V}{us ws:List Value},Ar xs us->Ar ys ws->Ar (xs++ys) (us++ws):=by
 intro xs ys us ws h s
 induction h with
 |nil=>exact s
 |cons r t ih=>exact .cons r ih
theorem Ar.take:∀{xs:List V}{us:List Value}(n:Nat),Ar xs us->Ar (xs.take n) (us.take n)
 |_,_,0,_=>.nil
 |_,_,_+1,.nil=>.nil
 |_,_,n+1,.cons r t=>.cons r<|Ar.take n t
theorem Ar.drop:∀{xs:List V}{us:List Value}(n:Nat),Ar xs us->Ar (xs.drop n) (us.drop n)
 |_,_,0,r=>r
 |_,_,_+1,.nil=>.nil
 |_,_,n+1,.cons _ t=>Ar.drop n t
def Gj:Option V->Option Value->Prop
 |some v,some u=>RelV v u
 |none,none=>True
 |_,_=>False
def KV{κ:Type}:List (κ×V)->List (κ×Value)->Prop:=Paired λ(p:κ×V)(q:κ×Value)=>p.1=q.1/\RelV p.2 q.2
noncomputable def kV:Key->V
 |.inl i=>.int i
 |.inr x=>.str x
inductive HO where
 |lst (xs:List V)
 |tup (xs:List V)
 |dK (AK:List<|Key×V)|dT (AK:List<|List Key×V)
 |set (S:Int->Bool) (n:Nat)
 |ins (C dx:Addr) (fs:List<|Str×V)
 |own (x:Addr)
 |xd (fs:List<|Str×V)
 |met (f x:Addr)
 |TX (lo hi:Int)
 |Ec (o:Obj) (u:HO)
 |Kh (ps:Array Value)
 |ext (φ:Heap->Prop)
abbrev Hp:=Addr->Option HO
noncomputable def upd(H:Hp)(a:Addr)(o:HO):Hp:=λb=>if b=a then some o else H b
theorem Cs:upd H a o a=some o:=by unfold upd;rw[AGo rfl]
theorem BM(h:b≠a):upd H a o b=H b:=by unfold upd;rw[AGp h]
theorem y8{H:Hp}(h:H a=some o)(h':H b=some u)(d:o≠u):a≠b:=by intro e;subst e;rw[h]at h';exact d<|AHP h'
theorem Du{H:Hp}(h:H a=some o)(h':H b=none):a≠b:=by intro e;subst e;rw[h]at h';contradiction
section
variable(P:Program)(w:World)
def Bw(H:Hp)(h:Heap)(a:Addr):HO->Prop
 |.lst xs=>xs.length<=sizeLine/\∃(its:List Value)(n:Nat),Ar xs its/\h.get? a=some {cls:=.type "list",data:=.seq its.toArray n}
 |.tup xs=>xs.length<=sizeLine/\∃its:List Value,Ar xs its/\IsTup h a its.toArray
 |.dK AK=>AK.length<=sizeLine/\(a==sysModules)=false/\∃vs,KV AK vs/\h.DictOf (E4 P w) a vs
 |.dT AK=>AK.length<=sizeLine/\(a==sysModules)=false/\∃xs:List<|List Key×Addr×Value,
  Paired (λ(p:List Key×V)(q:List Key×Addr×Value)=>p.1=q.1/\H q.2.1=some (.tup<|p.1.map kV)/\RelV p.2 q.2.2) AK xs/\
  ∃o es y,h.get? a=some o/\o.ExactDict/\o.data=.dict es y/\es.toList=xs.map (entryOfKey<|tupleKind<|E4 P w)/\(xs.map (·.1)).Nodup
 |.set S n=>h.SetOf (intKind P w) a S n
 |.ins C dx fs=>H dx=some (.own a)/\fs.length<=1000/\dx≠a/\h.get? a=some (PySem.W.instObj C dx)/\
  ∃mA,h.Ns1 dx mA/\(∀f,Gj (fs.lookup f)<|mA f)/\PySem.Within mA (fs.map (·.1))
 |.own _=>∃o,h.get? a=some o
 |.xd fs=>∃mA,h.Ns1 a mA/\∀f,Gj (fs.lookup f)<|mA f
 |.TX lo hi=>∃t u v,h.get? a=some {cls:=.type "range",data:=.fields #[.int lo t,.int hi u,.int 1 v]}
 |.Ec o u=>h.get? a=some o/\Bw H h a u
 |.Kh ps=>h.get? a=some {cls:=.none,data:=.fields ps}
 |.met f x=>h.get? a=some (PySem.W.methodObj (.ref f)<|.ref x)
 |.ext φ=>φ h/\(∃o,h.get? a=some o)/\∀h1 z:Heap,φ h1->(∀o,h1.get? a=some o->z.get? a=some o)->φ z
def Bp(H:Hp)(h:Heap):Prop:=∀a o,H a=some o->Bw P w H h a o
end
section
variable{P:Program}{w:World}{H H':Hp}{h h':Heap}{a:Addr}{o:HO}
theorem Bw.lt(x:Bw P w H h a o):a<h.objs.size:=by
 cases o with
 |lst xs=>obtain⟨_,_,_,_,e⟩:=x;exact Heap.lt_size e
 |tup xs=>obtain⟨_,_,_,p⟩:=x;exact p.lt
 |dK AK=>obtain⟨_,_,_,_,o,_,_,e,_⟩:=x;exact Heap.lt_size e
 |dT AK=>obtain⟨_,_,_,_,o,_,_,e,_⟩:=x;exact Heap.lt_size e
 |set S n=>obtain⟨o,_,_,_,e,_⟩:=x;exact Heap.lt_size e
 |ins C dx fs=>obtain⟨_,_,_,e,_⟩:=x;exact Heap.lt_size e
 |own y=>obtain⟨_,e⟩:=x;exact Heap.lt_size e
 |xd fs=>obtain⟨_,⟨_,_,_,e,_⟩,_⟩:=x;exact Heap.lt_size e
 |TX lo hi=>obtain⟨_,_,_,e⟩:=x;exact Heap.lt_size e
 |Ec ob u=>obtain⟨e,_⟩:=x;exact Heap.lt_size e
 |Kh ps=>exact Heap.lt_size (show h.get? a=some _ from x)
 |met f y=>exact Heap.lt_size (show h.get? a=some _ from x)
 |ext φ=>obtain⟨_,⟨_,e⟩,_⟩:=x;exact Heap.lt_size e
theorem Paired.Xe:∀{l₁:List α}{l₂:List β},Paired F l₁ l₂->(∀a b,F a b->G a b)->Paired G l₁ l₂:=by
 intro l m h f
 induction h with
 |nil=>exact .nil
 |cons r t ih=>exact .cons (f _ _ r) ih
theorem Bw.JY(x:Bw P w H h a o)(k:∀b u,(b=a\/H b=some (.own a))->h.get? b=some u->h'.get? b=some u) (ho:∀b,H b=some (.own a)->H' b=some (.own a)) (Q:∀b xs,H b=some (.tup xs)->H' b=some (.tup xs)):Bw P w H' h' a o:=by
 induction o with
 |lst xs=>obtain⟨z,its,n,r,e⟩:=x;exact⟨z,its,n,r,k _ _ (.inl rfl) e⟩
 |tup xs=>obtain⟨z,its,r,Z,e,c⟩:=x;exact⟨z,its,r,Z,k _ _ (.inl rfl) e,c⟩
 |dK AK=>obtain⟨z,y,vs,r,Z,es,Y,e,c⟩:=x;exact⟨z,y,vs,r,Z,es,Y,k _ _ (.inl rfl) e,c⟩
 |dT AK=>
  obtain⟨z,y,xs,r,Z,es,Y,e,c⟩:=x;exact⟨z,y,xs,Paired.Xe r λp q z=>⟨z.1,Q _ _ z.2.1,z.2.2⟩,Z,es,Y,k _ _ (.inl rfl) e,c⟩
 |set S n=>obtain⟨Z,es,Y,t,e,c⟩:=x;exact⟨Z,es,Y,t,k _ _ (.inl rfl) e,c⟩
 |ins C dx fs=>
  obtain⟨d,z,ne,e,mA,⟨od,es,Y,O,c⟩,r⟩:=x;exact⟨ho _ d,z,ne,k _ _ (.inl rfl) e,mA,⟨od,es,Y,k _ _ (.inr d) O,c⟩,r⟩
 |own y=>obtain⟨Z,e⟩:=x;exact⟨Z,k _ _ (.inl rfl) e⟩
 |xd fs=>obtain⟨mA,⟨od,es,Y,e,c⟩,r⟩:=x;exact⟨mA,⟨od,es,Y,k _ _ (.inl rfl) e,c⟩,r⟩
 |TX lo hi=>obtain⟨t,u,v,e⟩:=x;exact⟨t,u,v,k _ _ (.inl rfl) e⟩
 |Ec Z u ih=>obtain⟨e,q⟩:=x;exact⟨k _ _ (.inl rfl) e,ih q⟩
 |Kh ps=>
  have e:=x;exact k a _ (.inl rfl) e
 |met f y=>
  have e:=x;exact k a _ (.inl rfl) e
 |ext φ=>obtain⟨p,⟨o,e⟩,st⟩:=x;exact⟨st _ _ p λo q=>k _ _ (.inl rfl) q,⟨o,k _ _ (.inl rfl) e⟩,st⟩
theorem Bp.lt(x:Bp P w H h)(e:H a=some o):a<h.objs.size:=(x a o e).lt
theorem Bp.fresh(x:Bp P w H h)(e:h.objs.size<=a):H a=none:=by
 cases q:H a with
 |none=>rfl
 |some u=>exact absurd (AHI (x.lt q) e) (AIs _)
theorem Bp.kept(x:Bp P w H h)(k:∀b u,h.get? b=some u->h'.get? b=some u):Bp P w H h':=λa o e=>
 (x a o e).JY (λb u _ q=>k b u q) (λ_ q=>q) λ_ _ q=>q
theorem Bp.laid(x:Bp P w H h)(k:∀b u,h.get? b=some u->h'.get? b=some u)(hp:h.objs.size<=a)(new:Bw P w (upd H a o) h' a o):Bp P w (upd H a o) h':=λb u e=>by
 have hn:=x.fresh hp;by_cases z:b=a
 .subst z;rw[Cs]at e;cases e;exact new
 .rw[BM z]at e;exact(x b u e).JY (λc v _ q=>k c v q) (λc q=>by rw[BM<|Du q hn];exact q) λc xs q=>by rw[BM<|Du q hn];exact q
end
def Rd(H:Hp)(a:Addr)(u:HO):Prop:=H a=some u\/∃o,H a=some (.Ec o u)
theorem Rd.ok(r:Rd H a u)(x:Bp P w H h):Bw P w H h a u:=by
 rcases r with r|⟨o,r⟩
 .exact x a u r
 .obtain⟨_,q⟩:=x a _ r;exact q
def Nz:Option HO->Prop
 |some (.lst _)=>True
 |some (.dK _)=>True
 |some (.dT _)=>True
 |some (.set _ _)=>True
 |some (.ins _ _ _)=>True
 |some (.ext _)=>True
 |_=>False
section
variable{P:Program}{w:World}{H:Hp}{h h':Heap}{x e:Addr}{o':HO}
theorem Bp.write(ok:Bp P w H h)(p:Nz<|H x)(he:e=x\/H e=some (.own x))(k:∀b u,b≠e->h.get? b=some u->h'.get? b=some u)(D:∃u,h'.get? e=some u) (new:Bw P w (upd H x o') h' x o'):Bp P w (upd H x o') h':=λb u q=>by
 have Q:∀c y,H c=some (.own y)->c≠x:=λc y r z=>by subst z;rw[r]at p;exact p
 have F:∀c xs,H c=some (.tup xs)->c≠x:=λc xs r z=>by subst z;rw[r]at p;exact p
 by_cases Z:b=x
 .subst Z;rw[Cs]at q;cases q;exact new
 .rw[BM Z]at q;by_cases Y:b=e
  .have O:H b=some (.own x):=by
    rcases he with z|z
    .exact absurd (Y.trans z) Z
    .rw[Y];exact z
   rw[q]at O;cases O;obtain⟨v,R⟩:=D;exact⟨v,by rw[Y];exact R⟩
  .refine(ok b u q).JY (λc v hc r=>k c v ?_ r) (λc r=>by rw[BM<|Q c b r];exact r) λc xs r=>by rw[BM<|F c xs r];exact r
   rcases hc with rfl|hc
   .exact Y
   .rintro rfl;rcases he with z|z
    .exact Q c b hc z
    .rw[hc]at z;cases z;exact Z rfl
end
structure Un(fs ex:List Addr)(H H':Hp)(h h':Heap):Prop where
 keep:∀b o,h.get? b=some o->H b=none->b∉fs->b∉ex->h'.get? b=some o
 slot:∀b o,h.get? b=some o->H b=none->b∈fs->b∉ex->∃sl,h'.get? b=some {o with slots:=sl}
 free:∀b o,h.get? b=some o->H b=none->b∉ex->H' b=none
 there:∀b o,h.get? b=some o->b∉ex->∃o',h'.get? b=some o'
 El:∀b xs,H b=some (.tup xs)->H' b=some (.tup xs)
 FH:∀b o u,H b=some (.Ec o u)->H' b=some (.Ec o u)
 Gb:∀b ps,H b=some (.Kh ps)->∃more,H' b=some (.Kh<|ps++more)
section
variable{fs uH ex ex':List Addr}{H H1 H2:Hp}{h h1 h2 h':Heap}{a x e:Addr}{o:HO}
theorem Un.any(u:Un fs ex H H1 h h1)(q:h.get? b=some z)(n:H b=none)(y:b∉ex):∃sl,h1.get? b=some {z with slots:=sl}:=by
 by_cases v:b∈fs
 .exact u.slot b z q n v y
 .exact⟨z.slots,u.keep b z q n v y⟩
theorem Un.kept(k:∀b u,h.get? b=some u->h'.get? b=some u):Un fs ex H H h h':=
 ⟨λb z q _ _ _=>k b z q,λb z q _ _ _=>⟨z.slots,k b z q⟩,λ_ _ _ n _=>n,λb z q _=>⟨z,k b z q⟩,λ_ _ q=>q,λ_ _ _ q=>q,λ_ ps q=>⟨#[],by rw[q];simp⟩⟩
theorem Un.refl:Un fs ex H H h h:=Un.kept λ_ _ q=>q
theorem Un.laid(k:∀b u,h.get? b=some u->h'.get? b=some u)(hp:h.objs.size<=a)(hn:H a=none):Un fs ex H (upd H a o) h h' where
 keep:=λb u q _ _ _=>k b u q
 slot:=λb u q _ _ _=>⟨u.slots,k b u q⟩
 free:=λb u q n _=>by rw[BM<|AG7<|AHI (Heap.lt_size q) hp];exact n
 there:=λb u q _=>⟨u,k b u q⟩
 El:=λb xs q=>by rw[BM<|Du q hn];exact q
 FH:=λb u xs q=>by rw[BM<|Du q hn];exact q
 Gb:=λb ps q=>⟨#[],by rw[BM<|Du q hn,q];simp⟩
theorem Un.write(y:Nz<|H x)(he:e=x\/H e=some (.own x))(k:∀b u,b≠e->h.get? b=some u->h'.get? b=some u)(Y:∃u,h'.get? e=some u):Un fs ex H (upd H x o) h h':=by
 have v:∀b,H b=none->b≠x:=λb n z=>by subst z;rw[n]at y;exact y
 have p:∀b,H b=none->b≠e:=λb n z=>by
  subst z;rcases he with r|r
  .exact v b n r
  .rw[n]at r;contradiction
 have hm:∀b u,H b=some u->¬ Nz (some u)->b≠x:=λb u q nm z=>by subst z;rw[q]at y;exact nm y
 refine⟨λb u q n _ _=>k b u (p b n) q,λb u q n _ _=>⟨u.slots,k b u (p b n) q⟩,λb u q n _=>by rw[BM<|v b n];exact n,λb u q _=>?_,
  λb xs q=>by rw[BM<|hm b _ q λz=>z];exact q,λb u xs q=>by rw[BM<|hm b _ q λz=>z];exact q,λb ps q=>⟨#[],by rw[BM<|hm b _ q λz=>z,q];simp⟩⟩
 by_cases Z:b=e
 .subst Z;exact Y
 .exact⟨u,k b u Z q⟩
end
noncomputable def Lv(h:Heap)(H:Hp):List Addr:=(List.range h.objs.size).filter λa=>(H a).isSome
def J8(h:Heap)(H:Hp):Heap:=PySem.W.hideAll h<|Lv h H
theorem vR(h:Heap)(H:Hp):(J8 h H).objs.size=h.objs.size:=PySem.W.hideAll_size _ _
theorem vQ(e:h.get? b=some o)(n:H b=none):(J8 h H).get? b=some o:=
 AKw _ e λhm=>by have q:=(AHN.mp hm).2;rw[n]at q;simp at q
theorem zN(e:(J8 h H).get? b=some o):h.get? b=some o/\H b=none:=by
 have y:=PySem.W.of_hideAll (Lv h H) e;refine⟨y,?_⟩;cases q:H b with
 |none=>rfl
 |some x=>
  have hm:b∈Lv h H:=AHN.mpr ⟨AGq.mpr<|Heap.lt_size y,by simp[q]⟩;have z:(J8 h H).get? b=none:=PySem.W.hideAll_none (Lv h H) hm;rw[z]at e;contradiction
structure Mod(K:PySem.W.Frag)(mg:Str->Option Value)(base:Heap):Prop where
 Ms:K.In base
 glob:base.Ns mainGlobals mg
 blt:∃mb,base.Ns builtinsNs mb/\∀x:Str,x≠"__name__"->mb x=bootBuiltins x
 nolimit:base.NoLimit
structure Cx where
 prog:Program
 w:World
 K:PySem.W.Frag
 mg:Str->Option Value
 base:Heap
 A:Around
 N:List Str
 CB:Shared
 AR:Hp
 env:Env
 outer:List Env
 stack:List Env
 ex:List Addr
 fn:Str->Bool
 calm:Bool
 pn:List<|Addr×Obj
 xe:Value->Shared->Prop
noncomputable def C1(l:List Env):List Addr:=l.filterMap (·.frame)
abbrev Cx.fs(X:Cx):List Addr:=C1 X.outer
def DJ(sc:Scope)(x:Str):Prop:=sc.names.lookup x=some .local\/sc.names.lookup x=some .cell\/sc.names.lookup x=some .free
def Loc(sc:Scope)(x:Str):Prop:=sc.names.lookup x=some .local\/sc.names.lookup x=some .cell
def Look(env:Env)(h:Heap)(m:Str->Option Value)(x:Str)(u:Value):Prop:=
 (env.kindOf x=some .local/\m x=some u)\/((env.kindOf x=some .cell\/env.kindOf x=some .free)/\∃c,env.cells.lookup x=some c/\h.IsCell c (some u))
structure Cx.Ok(X:Cx):Prop where
 mod:Mod X.K X.mg X.base
 kind:X.env.scope.kind=.function
 glob:X.env.globals=mainGlobals
 blt:X.env.builtins=builtinsNs
 above:X.CB.heap.objs.size<=X.env.locals
 inj:∀x y c,X.env.cells.lookup x=some c->X.env.cells.lookup y=some c->x=y
 has:∀x,(X.env.kindOf x=some .cell\/X.env.kindOf x=some .free)->∃c,X.env.cells.lookup x=some c
 Ii:∀x c,X.fn x=true->X.env.cells.lookup x=some c->X.CB.heap.objs.size<=c
 hd:X.calm=true->X.A.handled=none
 frames:X.A.frames=some X.stack
 F8:X.stack=X.outer\/(X.stack=X.env::X.outer/\X.env.frame=some X.env.locals)
 Jz:∀b∈X.ex,b≠X.env.locals/\∀x c,X.env.cells.lookup x=some c->c≠b
 bs:∀b o,X.base.get? b=some o->X.CB.heap.get? b=some o/\X.AR b=none
 Fe:X.base.objs.size<=X.CB.heap.objs.size
 JW:∀b o,X.base.get? b=some o->b∉X.ex
 Iz:∀b∈X.ex,b∉X.fs
 EB:X.CB.heap.FunFrames X.base X.outer
 Gv:∀b∈X.fs,X.AR b=none
structure Inv(X:Cx)(AD:List (Addr×Obj))(σ:List (Option V))(H:Hp)(s:Shared):Prop where
 ok:X.Ok
 os:s.os=X.CB.os
 bare:AllBare s.gens
 base:Un X.fs X.ex X.AR H X.CB.heap s.heap
 loc:∃m,s.heap.Ns X.env.locals m/\∀(i:Nat)(x:Str)(v:V),X.N[i]? = some x->σ[i]? = some (some v)->DJ X.env.scope x->∃u,RelV v u/\Look X.env s.heap m x u
 cell:∀x c,X.env.cells.lookup x=some c->∃v,s.heap.IsCell c v
 free:H X.env.locals=none
 EA:∀x c,X.env.cells.lookup x=some c->H c=none
 pin:∀p∈X.pn++AD,s.heap.get? p.1=some p.2/\H p.1=none/\p.1≠X.env.locals/\p.1∉X.fs/\∀v,p.2.data≠.cell v
 AX:Bp X.prog X.w H s.heap
 len:σ.length=X.N.length
section
variable{X:Cx}{AD:List (Addr×Obj)}{σ:List (Option V)}{H H':Hp}{s:Shared}{h':Heap}
theorem Cx.Ok.y9(ok:X.Ok)(e:X.base.get? b=some o):b∉X.fs:=λz=>by have:=(ok.EB.mem z).1;rw[e]at this;contradiction
theorem Inv.bs(I:Inv X AD σ H s):∀b o,X.base.get? b=some o->s.heap.get? b=some o/\H b=none:=λb o e=>
 ⟨I.base.keep b o (I.ok.bs b o e).1 (I.ok.bs b o e).2 (I.ok.y9 e)<|I.ok.JW b o e,I.base.free b o (I.ok.bs b o e).1 (I.ok.bs b o e).2<|I.ok.JW b o e⟩
theorem Inv.bk(I:Inv X AD σ H s):∀b o,X.base.get? b=some o->s.heap.get? b=some o:=λb o e=>(I.bs b o e).1
theorem Inv.mod(I:Inv X AD σ H s):Mod X.K X.mg X.base:=I.ok.mod
theorem Inv.BZ(I:Inv X AD σ H s):X.K.In s.heap:=I.ok.mod.Ms.keeps I.bk
theorem Inv.lt(I:Inv X AD σ H s):X.env.locals<s.heap.objs.size:=let ⟨_,hn,_⟩:=I.loc;hn.lt
theorem Inv.sz(I:Inv X AD σ H s):X.CB.heap.objs.size<=s.heap.objs.size:=AHd I.ok.above<|AIc I.lt
theorem Inv.zB(I:Inv X AD σ H s){a:Addr}(h:s.heap.objs.size<=a):a∉X.fs:=λz=>by obtain⟨_,o,ho,_⟩:=I.ok.EB.mem z;exact absurd (AHI (Heap.lt_size ho)<|AHd I.sz h) (AIs _)
theorem Inv.Ik(I:Inv X AD σ H s):∀x c,X.env.cells.lookup x=some c->c≠X.env.locals:=λx c e z=>by obtain⟨v,o,ho,hd⟩:=I.cell x c e;obtain⟨m,⟨o',es,ep,y,q,_⟩,_⟩:=I.loc;rw[z,y]at ho;cases ho;rw[q]at hd;contradiction
theorem Inv.EB(I:Inv X AD σ H s):s.heap.FunFrames X.base X.outer:=by
 have all:∀(l:List Env),(∀b∈C1 l,b∈X.fs)->X.CB.heap.FunFrames X.base l->s.heap.FunFrames X.base l:=by
  intro l
  induction l with
  |nil=>intro _ _;trivial
  |cons env r ih=>
   intro hs u;obtain⟨p,⟨L,o,y,hn,ho,hd⟩,Z⟩:=u;have q:=hs L (by unfold C1;simp only[AI5,y];exact AGw);obtain⟨sl,e⟩:=I.base.slot L o ho (I.ok.Gv L q) q λz=>I.ok.Iz L z q
   exact⟨p,⟨L,_,y,hn,e,hd⟩,ih (λb v=>hs b (by unfold C1;simp only[AI5,y];exact AGr _ v)) Z⟩
 exact all X.outer (λ_ v=>v) I.ok.EB
theorem Inv.stack(I:Inv X AD σ H s):s.heap.FunFrames X.base X.stack:=by
 rcases I.ok.F8 with e|⟨e,z⟩
 .rw[e];exact I.EB
 .rw[e];obtain⟨m,hn,_⟩:=I.loc;refine .cons (by rw[I.ok.kind];decide) z hn ?_ I.EB;exact Heap.get?_none_of_le (AHd I.ok.Fe I.ok.above)
theorem Inv.P6(I:Inv X AD σ H s):∀b∈C1 X.stack,b∈X.env.locals::X.fs:=λb z=>by
 rcases I.ok.F8 with e|⟨e,y⟩
 .rw[e]at z;exact AGr _ z
 .rw[e]at z;unfold C1 at z;simp only[AI5,y]at z;exact z
theorem Inv.Yb(I:Inv X AD σ H s):∀b∈C1 X.stack,H b=none:=λb y=>by
 rcases AGz.mp (I.P6 b y)with e|y
 .rw[e];exact I.free
 .obtain⟨_,o,ho,_⟩:=I.ok.EB.mem y;exact I.base.free b o ho (I.ok.Gv b y) λz=>I.ok.Iz b z y
theorem Inv.step{ch:List Addr}(I:Inv X AD σ H s) (O:∀b∈ch,(b∈X.ex\/X.CB.heap.objs.size<=b)/\b≠X.env.locals/\(∀x c,X.env.cells.lookup x=some c->c≠b)/\∀p∈X.pn++AD,p.1≠b) (keep:∀b o,b≠X.env.locals->b∉X.fs->b∉ch->s.heap.get? b=some o->H b=none->h'.get? b=some o) (slot:∀b o,b≠X.env.locals->b∈X.fs->b∉ch->s.heap.get? b=some o->H b=none->∃sl,h'.get? b=some {o with slots:=sl}) (free:∀b o,b∉ch->s.heap.get? b=some o->H b=none->H' b=none) (there:∀b o,b∉ch->s.heap.get? b=some o->∃o',h'.get? b=some o') (El:∀b xs,H b=some (.tup xs)->H' b=some (.tup xs)) (FH:∀b o u,H b=some (.Ec o u)->H' b=some (.Ec o u)) (Gb:∀b ps,H b=some (.Kh ps)->∃more,H' b=some (.Kh<|ps++more)) (ns:∀m,s.heap.Ns X.env.locals m->h'.Ns X.env.locals m) (AX:Bp X.prog X.w H' h') (S:AllBare g') : Inv X AD σ H' {s with heap:=h',gens:=g',drawn:=G,toks:=t'}:=by
 have R:∀b o,X.CB.heap.get? b=some o->b≠X.env.locals:=λb o e=>AG7<|AHI (Heap.lt_size e) I.ok.above;have F:∀b o,X.CB.heap.get? b=some o->b∉X.ex->b∉ch:=λb o e y Q=>by
  rcases(O b Q).1 with z|z
  .exact y z
  .exact absurd (AHI (Heap.lt_size e) z) (AIs _)
 have Z:∀x c,X.env.cells.lookup x=some c->∀v,s.heap.IsCell c v->h'.IsCell c v:=(by
  rintro x c e v ⟨o,ho,hd⟩;have P:=λz=>(O c z).2.2.1 x c e rfl;by_cases hc:c∈X.fs
  .obtain⟨sl,q⟩:=slot c o (I.Ik x c e) hc P ho<|I.EA x c e;exact⟨_,q,hd⟩
  .exact⟨o,keep c o (I.Ik x c e) hc P ho<|I.EA x c e,hd⟩)
 refine⟨I.ok,I.os,S,⟨λb o e n Q y=>?_,λb o e n Q y=>?_,λb o e n y=>?_,λb o e y=>?_,λb xs e=>El b xs<|I.base.El b xs e,λb o xs e=>FH b o xs<|I.base.FH b o xs e,λb ps e=>?_⟩,?_,λx c e=>?_,?_,λx c e=>?_,λp hp=>?_,AX,I.len⟩
 .exact keep b o (R b o e) Q (F b o e y) (I.base.keep b o e n Q y)<|I.base.free b o e n y
 .obtain⟨sl,Y⟩:=I.base.slot b o e n Q y;obtain⟨T,D⟩:=slot b _ (R b o e) Q (F b o e y) Y<|I.base.free b o e n y;exact⟨T,D⟩
 .obtain⟨o',Y⟩:=I.base.there b o e y;exact free b o' (F b o e y) Y<|I.base.free b o e n y
 .obtain⟨o',Y⟩:=I.base.there b o e y;exact there b o' (F b o e y) Y
 .obtain⟨C,Y⟩:=I.base.Gb b ps e;obtain⟨E,D⟩:=Gb b _ Y;exact⟨C++E,by rw[D,Array.append_assoc]⟩
 .obtain⟨m,hn,t⟩:=I.loc;refine⟨m,ns m hn,λi x v Y D e3=>?_⟩;obtain⟨u,r,l⟩:=t i x v Y D e3;refine⟨u,r,?_⟩;rcases l with l|⟨k,c,e,z⟩
  .exact .inl l
  .exact .inr ⟨k,c,e,Z x c e _ z⟩
 .obtain⟨v,z⟩:=I.cell x c e;exact⟨v,Z x c e v z⟩
 .obtain⟨m,⟨o,_,_,ho,_⟩,_⟩:=I.loc;exact free _ o (λz=>(O _ z).2.1 rfl) ho I.free
 .obtain⟨v,o,ho,hd⟩:=I.cell x c e;exact free c o (λz=>(O c z).2.2.1 x c e rfl) ho<|I.EA x c e
 .obtain⟨e,n,ne,B,d⟩:=I.pin p hp;have P:=λz=>(O p.1 z).2.2.2 p hp rfl;exact⟨keep p.1 p.2 ne B P e n,free p.1 p.2 P e n,ne,B,d⟩
theorem Inv.un(I:Inv X AD σ H s)(u:Un X.fs [] H H' s.heap h')(AX:Bp X.prog X.w H' h'):Inv X AD σ H' {s with heap:=h',toks:=t'}:=by obtain⟨m,⟨o,es,ep,ho,r⟩,_⟩:=id I.loc;obtain⟨sl,v⟩:=u.any ho I.free AGh;exact I.step (ch:=[]) (λ_ z=>nomatch z) (λb o _ y _ e n=>u.keep b o e n y AGh) (λb o _ y _ e n=>u.slot b o e n y AGh) (λb o _ e n=>u.free b o e n AGh) (λb o _ e=>u.there b o e AGh) u.El u.FH u.Gb (λm' hm=>by obtain⟨o',es',p,q,Z⟩:=hm;rw[ho]at q;cases q;exact⟨_,es',p,v,Z⟩) AX I.bare
theorem Inv.call(I:Inv X AD σ H s)(u:Un (C1 X.stack) ch H H' s.heap h')(AX:Bp X.prog X.w H' h')(Y:AllBare g') (q:∀b∈ch,(b∈X.ex\/X.CB.heap.objs.size<=b)/\b≠X.env.locals/\(∀x c,X.env.cells.lookup x=some c->c≠b)/\∀p∈X.pn++AD,p.1≠b) : Inv X AD σ H' {s with heap:=h',gens:=g',drawn:=Z,toks:=t'}:=by
 obtain⟨m,⟨o,es,ep,ho,r⟩,_⟩:=id I.loc;obtain⟨sl,y⟩:=u.any ho I.free λz=>(q _ z).2.1 rfl
 exact I.step q (λb o y Q hc e n=>u.keep b o e n (λz=>(AGz.mp<|I.P6 b z).elim y Q) hc) (λb o _ _ hc e n=>u.any e n hc) (λb o hc e n=>u.free b o e n hc) (λb o hc e=>u.there b o e hc) u.El u.FH u.Gb (λm' hm=>by obtain⟨o',es',O,v,P⟩:=hm;rw[ho]at v;cases v;exact⟨_,es',O,y,P⟩) AX Y
theorem Inv.turned(I:Inv X AD σ H s)(k:∀b o,b≠it->s.heap.get? b=some o->h'.get? b=some o)(hn:H it=none)(y:it≠X.env.locals) (h1:it∈X.ex\/X.CB.heap.objs.size<=it) (Y:∀x c,X.env.cells.lookup x=some c->c≠it) (h3:∀p∈X.pn++AD,p.1≠it):Inv X AD σ H {s with heap:=h',toks:=t'}:=by
 have Z:∀b u,H b=some u->b≠it:=λb u e z=>by rw[z,hn]at e;contradiction
 refine I.step (ch:=[it]) (λb Q=>?_) (λb o _ _ hc e _=>k b o (λz=>hc<|by simp[z]) e) (λb o _ _ hc e _=>⟨o.slots,k b o (λz=>hc<|by simp[z]) e⟩) (λ_ _ _ _ n=>n)
  (λb o hc e=>⟨o,k b o (λz=>hc<|by simp[z]) e⟩) (λ_ _ e=>e) (λ_ _ _ e=>e) (λb ps e=>⟨#[],by rw[e];simp⟩) (λm hm=>?_) (λb u e=>?_) I.bare
 .have e:=by simpa using Q
  subst e;exact⟨h1,y,Y,h3⟩
 .obtain⟨o,es,O,ho,r⟩:=hm;exact⟨o,es,O,k _ o (AHh y) ho,r⟩
 .refine(I.AX b u e).JY (λc v hc q=>k c v ?_ q) (λ_ q=>q) λ_ _ q=>q;rcases hc with z|z
  .rw[z];exact Z b u e
  .exact Z c _ z
theorem Inv.tok(I:Inv X AD σ H s)(t:Nat):Inv X AD σ H {s with toks:=t}:=I.un Un.refl I.AX
theorem Inv.kept(I:Inv X AD σ H s)(k:∀b u,s.heap.get? b=some u->h'.get? b=some u):Inv X AD σ H {s with heap:=h',toks:=t'}:=I.un (Un.kept k)<|I.AX.kept k
theorem Inv.laid{a:Addr}(I:Inv X AD σ H s)(k:∀b u,s.heap.get? b=some u->h'.get? b=some u)(hp:s.heap.objs.size<=a)(new:Bw X.prog X.w (upd H a o) h' a o) : Inv X AD σ (upd H a o) {s with heap:=h',toks:=t'}:=I.un (Un.laid k hp<|I.AX.fresh hp)<|I.AX.laid k hp new
theorem Inv.write(I:Inv X AD σ H s)(z:Nz<|H x)(he:e=x\/H e=some (.own x))(k:∀b u,b≠e->s.heap.get? b=some u->h'.get? b=some u)(y:∃u,h'.get? e=some u) (new:Bw X.prog X.w (upd H x o) h' x o):Inv X AD σ (upd H x o) {s with heap:=h',toks:=t'}:=I.un (Un.write z he k y)<|I.AX.write z he k y new
theorem Inv.kO(I:Inv X AD σ H s)(h:∀p∈y,s.heap.get? p.1=some p.2/\H p.1=none/\p.1≠X.env.locals/\p.1∉X.fs/\∀v,p.2.data≠.cell v):Inv X y σ H s:=
 ⟨I.ok,I.os,I.bare,I.base,I.loc,I.cell,I.free,I.EA,λp hp=>(AHJ.mp hp).elim (λz=>I.pin p<|AHw _ z)<|h p,I.AX,I.len⟩
theorem Xj{N:List Str}(z:N.Nodup){i j:Nat}(a:N[i]? = some x)(b:N[j]? = some x):i=j:=by obtain⟨h1,y⟩:=AGs.mp a;obtain⟨h2,q⟩:=AGs.mp b;exact(AJs z).mp (y.trans q.symm)
theorem ll(I:Inv X AD σ H s)(f:X.N.Nodup)(hi:X.N[i]? = some x)(O:Loc X.env.scope x)(r:RelV v u) (h:∀s',Inv X AD (σ.set i<|some v) H s'->(∃a,Heap.SameBut a s.heap s'.heap/\(a=X.env.locals\/X.env.cells.lookup x=some a))->Q () s') (hf:X.fn x=true\/X.env.scope.names.lookup x=some .local:=by first|exact .inl rfl|exact .inr rfl|assumption):wpAny M A (storeName X.env x u) Q E s:=by
 obtain⟨m,hn,hl⟩:=id I.loc;have WM:(X.env.scope.kind == .class||(X.env.scope.kind == .module&&X.env.locals != X.env.globals))=false:=by rw[I.ok.kind];rfl
 have MZ:i<σ.length:=by rw[I.len];exact(AGs.mp hi).1
 have Ik:=I.Ik;have Z:∀{a:Addr}{h':Heap},(∃o,s.heap.get? a=some o/\H a=none)->Heap.SameBut a s.heap h'->Bp X.prog X.w H h':=λ{a h'} ha hs b ob e=>by
  obtain⟨_,_,J5⟩:=ha;refine(I.AX b ob e).JY (λc R hc q=>(hs.2 c ?_).trans q) (λ_ q=>q) λ_ _ q=>q;rintro rfl;rcases hc with rfl|hc
  .rw[J5]at e;contradiction
  .rw[J5]at hc;contradiction
 rcases O with hk|hk
 .refine wpAny_storeName_local hk hn (λh' Wk hs=>?_) WM;obtain⟨oL,_,_,R0,_⟩:=id hn;refine h _ ⟨I.ok,I.os,I.bare,⟨λb o e n D O=>?_,λb o e n D O=>?_,I.base.free,λb o e O=>?_,I.base.El,I.base.FH,I.base.Gb⟩,⟨_,Wk,λj y G Y P e3=>?_⟩,λy c e=>?_,I.free,I.EA,λp hp=>?_,Z ⟨oL,R0,I.free⟩ hs,by simpa using I.len⟩ ⟨_,hs,.inl rfl⟩
  .exact(hs.2 b<|AG7<|AHI (Heap.lt_size e) I.ok.above).trans (I.base.keep b o e n D O)
  .obtain⟨sl,Y⟩:=I.base.slot b o e n D O;exact⟨sl,(hs.2 b<|AG7<|AHI (Heap.lt_size e) I.ok.above).trans Y⟩
  .obtain⟨o',Y⟩:=I.base.there b o e O;exact⟨o',(hs.2 b<|AG7<|AHI (Heap.lt_size e) I.ok.above).trans Y⟩
  .by_cases F:j=i
   .subst F;rw[hi]at Y;cases Y;rw[AIU MZ]at P;cases P;exact⟨u,r,.inl ⟨hk,AGh⟩⟩
   .rw[AHH<|AHh F]at P;obtain⟨S,T,q⟩:=hl j y G Y P e3;refine⟨S,T,?_⟩;rcases q with⟨k,e⟩|⟨k,c,e,z⟩
    .refine .inl ⟨k,?_⟩;have:y≠x:=λe=>F<|Xj f Y<|e ▸ hi;simp[this,e]
    .exact .inr ⟨k,c,e,z.sameBut hs<|Ik y c e⟩
  .obtain⟨R,z⟩:=I.cell y c e;exact⟨R,z.sameBut hs<|Ik y c e⟩
  .obtain⟨e,n,ne,C,d⟩:=I.pin p hp;exact⟨(hs.2 p.1 ne).trans e,n,ne,C,d⟩
 .have t:X.fn x=true:=by
   rcases hf with z|z
   .exact z
   .rw[z]at hk;contradiction
  obtain⟨c,hc⟩:=I.ok.has x<|.inl hk;obtain⟨R,z⟩:=I.cell x c hc;refine wpAny_storeName_cell I.ok.kind hk hc z λh' Hl hs=>?_;obtain⟨oc,gr,vv⟩:=id z;refine h {s with heap:=h'} ⟨I.ok,I.os,I.bare,⟨λb o e n D O=>?_,λb o e n D O=>?_,I.base.free,λb o e O=>?_,I.base.El,I.base.FH,I.base.Gb⟩,⟨m,hn.sameBut hs<|AHh<|Ik x c hc,λj y G Y P e3=>?_⟩,λy B e=>?_,I.free,I.EA,λp hp=>?_,Z ⟨oc,gr,I.EA x c hc⟩ hs,by simpa using I.len⟩ ⟨c,hs,.inr hc⟩
  .exact(hs.2 b<|AG7<|AHI (Heap.lt_size e)<|I.ok.Ii x c t hc).trans (I.base.keep b o e n D O)
  .obtain⟨sl,Y⟩:=I.base.slot b o e n D O;exact⟨sl,(hs.2 b<|AG7<|AHI (Heap.lt_size e)<|I.ok.Ii x c t hc).trans Y⟩
  .obtain⟨o',Y⟩:=I.base.there b o e O;exact⟨o',(hs.2 b<|AG7<|AHI (Heap.lt_size e)<|I.ok.Ii x c t hc).trans Y⟩
  .by_cases F:j=i
   .subst F;rw[hi]at Y;cases Y;rw[AIU MZ]at P;cases P;exact⟨u,r,.inr ⟨.inl hk,c,hc,Hl⟩⟩
   .rw[AHH<|AHh F]at P;obtain⟨S,T,q⟩:=hl j y G Y P e3;refine⟨S,T,?_⟩;rcases q with q|⟨k,B,e,z'⟩
    .exact .inl q
    .refine .inr ⟨k,B,e,z'.sameBut hs ?_⟩;rintro rfl;exact F<|Xj f Y<|I.ok.inj _ _ _ e hc ▸ hi
  .by_cases Hm:B=c
   .subst Hm;exact⟨_,Hl⟩
   .obtain⟨w2,z2⟩:=I.cell y B e;exact⟨w2,z2.sameBut hs Hm⟩
  .obtain⟨e,n,ne,C,d⟩:=I.pin p hp;refine⟨(hs.2 p.1 ?_).trans e,n,ne,C,d⟩;intro q;rw[q,gr]at e;have q':=AHP e;exact d R (by rw[<-q'];exact vv)
theorem Lo(I:Inv X AD σ H s)(z:X.N.Nodup)(hi:X.N[i]? = some x)(y:Loc X.env.scope x)(r:RelV v u) (h:∀s',Inv X AD (σ.set i<|some v) H s'->Q () s') (q:X.fn x=true\/X.env.scope.names.lookup x=some .local:=by first|exact .inl rfl|exact .inr rfl|assumption):wpAny M A (storeName X.env x u) Q E s:=
 ll I z hi y r (λs' p _=>h s' p) q
theorem Inv.Zu(I:Inv X AD σ H s)(ho:s'.os=s.os)(u:Un (C1 X.stack) ch H H' s.heap s'.heap)(AX:Bp X.prog X.w H' s'.heap)(z:AllBare s'.gens) (y:∀b∈ch,(b∈X.ex\/X.CB.heap.objs.size<=b)/\b≠X.env.locals/\(∀x c,X.env.cells.lookup x=some c->c≠b)/\∀p∈X.pn++AD,p.1≠b):Inv X AD σ H' s':=by obtain⟨h',g',d',t',o'⟩:=s';have e:o'=s.os:=ho;subst e;exact I.call u AX z y
end
abbrev XK:=Value->Option Addr->Hp->Prop
abbrev St:=List<|Option V
abbrev VK:=V->Hp->Prop
abbrev TE:=St->Hp->VK->Prop
abbrev TT:=St->Hp->(Bool->Hp->Prop)->Prop
abbrev TA:=St->Hp->(List V->Hp->Prop)->Prop
structure Ends where
 nx:St->Hp->Prop
 rt:VK
 bk:St->Hp->Prop:=λ_ _=>False
 ct:St->Hp->Prop:=λ_ _=>False
abbrev TS:=Ends->St->Hp->Prop
def EP(X:Cx)(AD:List<|Addr×Obj)(σ:St)(Q:VK)(u:Value)(s':Shared):Prop:=∃v H',Inv X AD σ H' s'/\RelV v u/\Q v H'
def TP(X:Cx)(AD:List<|Addr×Obj)(σ:St)(Q:Bool->Hp->Prop)(b:Bool)(s':Shared):Prop:=∃H',Inv X AD σ H' s'/\Q b H'
def AP(X:Cx)(AD:List<|Addr×Obj)(σ:St)(Q:List V->Hp->Prop)(us:List Value)(s':Shared):Prop:=∃vs H',Inv X AD σ H' s'/\Ar vs us/\Q vs H'
def SP(X:Cx)(AD:List<|Addr×Obj)(D:Ends)(f:Flow)(s':Shared):Prop:=
 match f with
 |.next=>∃z H',Inv X AD z H' s'/\D.nx z H'
 |.brk=>∃z H',Inv X AD z H' s'/\D.bk z H'
 |.cont=>∃z H',Inv X AD z H' s'/\D.ct z H'
 |.ret u=>∃v z H',Inv X AD z H' s'/\RelV v u/\D.rt v H'
def PE(X:Cx)(e:Expr)(t:TE):Prop:=
 ∀(AD:List<|Addr×Obj)(s:Shared)(σ:St)(H:Hp)(Q:VK),Inv X AD σ H s->t σ H Q->wpAny (model X.prog X.w) X.A (eval e X.env) (EP X AD σ Q) X.xe s
def PT(X:Cx)(e:Expr)(t:TT):Prop:=
 ∀(AD:List<|Addr×Obj)(s:Shared)(σ:St)(H:Hp)(Q:Bool->Hp->Prop),Inv X AD σ H s->t σ H Q->wpAny (model X.prog X.w) X.A (isTrue e X.env<|eval e X.env) (TP X AD σ Q) X.xe s
def PW(X:Cx)(e:Expr)(t:TT):Prop:=
 ∀(whole:Sem Value)(AD:List<|Addr×Obj)(s:Shared)(σ:St)(H:Hp)(Q:Bool->Hp->Prop),Inv X AD σ H s->t σ H Q->wpAny (model X.prog X.w) X.A (isTrue e X.env whole) (TP X AD σ Q) X.xe s
theorem PW.pt(h:PW X e t):PT X e t:=h _
def PA(X:Cx)(es:List Expr)(t:TA):Prop:=
 ∀(pos:Pos)(AD:List<|Addr×Obj)(s:Shared)(σ:St)(H:Hp)(Q:List V->Hp->Prop),Inv X AD σ H s->t σ H Q->wpAny (model X.prog X.w) X.A (spliced<|backTo pos<|starEach es X.env) (AP X AD σ Q) X.xe s
def PS(X:Cx)(st:Stmt)(t:TS):Prop:=
 ∀(AD:List<|Addr×Obj)(s:Shared)(σ:St)(H:Hp)(D:Ends),Inv X AD σ H s->t D σ H->wpAny (model X.prog X.w) X.A (exec st X.env) (SP X AD D) X.xe s
def Cw(X:Cx)(st:List Stmt)(t:TS):Prop:=
 ∀(AD:List<|Addr×Obj)(s:Shared)(σ:St)(H:Hp)(D:Ends),Inv X AD σ H s->t D σ H->wpAny (model X.prog X.w) X.A (execs st X.env) (SP X AD D) X.xe s
theorem Ae(h:wpAny M A t Q E s)(y:∀a s,Q a s->z a s):wpAny M A t z E s:=wpAny_mono h y λ_ _ x=>x
section
variable{X:Cx}
def Ts(i:Nat):TE:=λσ H Q=>∃v,σ[i]? = some (some v)/\Q v H
def tC(v:V):TE:=λ_ H Q=>Q v H
theorem Ej{pos:Pos}(q:X.N[i]? = some x)(p:DJ X.env.scope x)(hd:(x==("__debug__"))=false:=by decide)(Z:(x==("__classdict__"))=false:=by decide):PE X (.Name x pos)<|Ts i:=by
 intro AD s σ H Q I h;obtain⟨v,e,h⟩:=h;obtain⟨m,hn,Y⟩:=I.loc;obtain⟨u,r,l⟩:=Y i x v q e p;have fin:EP X AD σ Q u s:=⟨v,H,I,r,h⟩;rcases l with⟨z,hm⟩|⟨z,c,hc,y⟩
 .exact wpAny_Name (wpAny_loadName_local I.ok.kind z hn hm fin) hd
 .rcases z with z|z
  .exact wpAny_Name (wpAny_loadName_cell I.ok.kind z hc y fin) hd
  .exact wpAny_Name (wpAny_loadName_free I.ok.kind z hc y fin Z) hd
theorem X3:PE X (.Constant (.int i) j pos)<|tC<|.int i:=λ_ _ _ H _ I h=>wpAny_Constant_int ⟨.int i,H,I.tok _,⟨_,rfl⟩,h⟩
theorem AAX:PE X (.Constant (.bool b) j pos)<|tC<|.bl b:=λ_ _ _ H _ I h=>Constant_bool ⟨.bl b,H,I,rfl,h⟩
theorem AAi:PE X (.Constant .none j pos)<|tC .As:=λ_ _ _ H _ I h=>Constant_none ⟨.As,H,I,rfl,h⟩
theorem kL:PE X (.Constant (.str x) j pos)<|tC<|.str x:=λ_ _ _ H _ I h=>Calls.Constant_str ⟨.str x,H,I.tok _,⟨_,rfl⟩,h⟩
def Gl(X:Cx)(x:Str):Prop:=X.env.kindOf x=some .globalImplicit
theorem Mt{σ:St}(I:Inv X AD σ H s)(z:Gl X x)(hm:X.mg x=some u)(h:Q u s) (hd:(x==("__debug__"))=false:=by decide):wpAny (model X.prog X.w) X.A (eval (.Name x pos) X.env) Q E s:=
 Calls.Name_function_global I.ok.kind z (Calls.loadGlobal_global (by rw[I.ok.glob];exact I.mod.glob.keeps I.bk) hm h) hd
theorem PN{E:Value->Shared->Prop}{s:Shared}{σ:St}{H:Hp}{x:Str}{u:Value}{pos:Pos}{Q:Value->Shared->Prop}(I:Inv X AD σ H s)(z:Gl X x)(hm:X.mg x=none)(y:bootBuiltins x=some u)(h:Q u s) (hn:x≠"__name__":=by decide) (hd:(x==("__debug__"))=false:=by decide):wpAny (model X.prog X.w) X.A (eval (.Name x pos) X.env) Q E s:=by obtain⟨mb,h1,q⟩:=I.mod.blt;exact Calls.Name_function_global I.ok.kind z (Calls.loadGlobal_builtin (by rw[I.ok.glob];exact I.mod.glob.keeps I.bk) hm (by rw[I.ok.blt];exact h1.keeps I.bk) ((q x hn).trans y) h) hd
theorem X2(z:Gl X x)(hm:X.mg x=some u)(r:RelV v u)(hd:(x==("__debug__"))=false:=by decide):PE X (.Name x pos)<|tC v:=
 λ_ _ _ H _ I h=>Mt I z hm ⟨v,H,I,r,h⟩ hd
theorem X1{pos:Pos}(z:Gl X x)(hm:X.mg x=none)(y:bootBuiltins x=some u)(r:RelV v u)(hn:x≠"__name__":=by decide)(hd:(x==("__debug__"))=false:=by decide):PE X (.Name x pos)<|tC v:=
 λ_ _ _ H _ I h=>PN I z hm y ⟨v,H,I,r,h⟩ hn hd
variable{a b:Expr}{ta tb:TE}{pos:Pos}
def PC(X:Cx)(op:CmpOp)(a b:Expr)(t:TE):Prop:=
 ∀(AD:List<|Addr×Obj)(s:Shared)(σ:St)(H:Hp)(Q:VK),Inv X AD σ H s->t σ H Q->wpAny (model X.prog X.w) X.A (eval a X.env) (λv z=>wpAny (model X.prog X.w) X.A (eval b X.env) (λu y=>wpAny (model X.prog X.w) X.A (compareOp op v u) (EP X AD σ Q) X.xe y) X.xe z) X.xe s
def tB(t:TE):TT:=λσ H Q=>t σ H λx z=>∃c,x=.bl c/\Q c z
theorem kd(h:PC X op a b t)(h1:behindInMarks op b=false:=by first|exact AGX _ AGj AGj|rfl):PT X (.Compare a [op] [b] pos)<|tB t:=by intro AD s σ H Q I z;refine wpAny_isTrue_Compare1 (Ae (h AD s σ H _ I z) λv s1 h1=>Ae h1 λu s2 y=>Ae y ?_) h1;rintro c s3 ⟨x,p,Z,Y,O⟩;obtain⟨d,rfl,q⟩:=O;cases Y;exact wpAny_truthy_bool ⟨p,Z,q⟩
theorem ABU(h:PE X e t)(he:∀whole,isTrue e X.env whole=(do let v<-whole;standAt e.pos;holding [v] (truthy v)):=by intro _;rfl):PT X e<|tB t:=by intro AD s σ H Q I z;refine isTrue_plain (Ae (h AD s σ H _ I z) ?_)<|he _;rintro v s1 ⟨x,y,u,p,Z⟩;obtain⟨d,rfl,q⟩:=Z;cases p;exact wpAny_truthy_bool ⟨y,u,q⟩
variable{tA Tr:TT}{BJ:List Expr}
def mE(t u:TT):TT:=λσ H Q=>t σ H λc z=>if c=true then u σ z Q else Q false z
def mJ(t u:TT):TT:=λσ H Q=>t σ H λc z=>if c=true then Q true z else u σ z Q
def AEe(t:TT):TT:=λσ H Q=>t σ H λc z=>Q (!c) z
theorem ABb(ha:PT X a tA):PW X (.BoolOp .And [a] pos) tA:=by
 intro wh AD s σ H Q I h;refine isTrue_and<|Ae (ha AD s σ H Q I h) λc s1 e=>?_;cases c with
 |true=>exact isTrue_and_nil e
 |false=>exact e
theorem ABd(ha:PT X a tA):PW X (.BoolOp .Or [a] pos) tA:=by
 intro wh AD s σ H Q I h;refine isTrue_or<|Ae (ha AD s σ H Q I h) λc s1 e=>?_;cases c with
 |false=>exact isTrue_or_nil e
 |true=>exact e
theorem ABa(ha:PT X a tA)(v:PW X (.BoolOp .And (b::BJ) pos) Tr):PW X (.BoolOp .And (a::b::BJ) pos)<|mE tA Tr:=by
 intro u AD s σ H Q I h;refine isTrue_and<|Ae (ha AD s σ H _ I h) ?_;rintro c s1 ⟨z,y,q⟩;cases c with
 |true=>exact v u AD s1 σ z Q y q
 |false=>exact⟨z,y,q⟩
theorem ABc(ha:PT X a tA)(v:PW X (.BoolOp .Or (b::BJ) pos) Tr):PW X (.BoolOp .Or (a::b::BJ) pos)<|mJ tA Tr:=by
 intro u AD s σ H Q I h;refine isTrue_or<|Ae (ha AD s σ H _ I h) ?_;rintro c s1 ⟨z,y,q⟩;cases c with
 |true=>exact⟨z,y,q⟩
 |false=>exact v u AD s1 σ z Q y q
theorem ABT(ha:PT X a tA):PT X (.UnaryOp .Not a pos)<|AEe tA:=by intro AD s σ H Q I h;exact isTrue_not<|ha AD s σ H (λc z=>Q (!c) z) I h
def AEJ(ta tb:TE):TE:=λσ H Q=>ta σ H λx z=>∃c,x=.bl c/\if c=true then tb σ z Q else Q (.bl false) z
def AEg(ta tb:TE):TE:=λσ H Q=>ta σ H λx z=>∃c,x=.bl c/\if c=true then Q (.bl true) z else tb σ z Q
def AEf(ta:TE):TE:=λσ H Q=>ta σ H λx z=>∃c,x=.bl c/\Q (.bl (!c)) z
theorem AAk(h:PE X a t):PE X (.BoolOp op [a] pos) t:=λAD s σ H Q I z=>BoolOp_one<|h AD s σ H Q I z
theorem AAW(ha:PE X a ta)(u:PE X (.BoolOp .And (b::BJ) pos) tb):PE X (.BoolOp .And (a::b::BJ) pos)<|AEJ ta tb:=by
 intro AD s σ H Q I h;refine BoolOp_and<|Ae (ha AD s σ H _ I h) ?_;rintro v s1 ⟨x,y,q,p,z⟩;obtain⟨c,rfl,z⟩:=z;cases p;refine wpAny_truthy_bool ?_;cases c with
 |true=>exact u AD s1 σ y Q q z
 |false=>exact⟨.bl false,y,q,rfl,z⟩
theorem AAm(ha:PE X a ta)(u:PE X (.BoolOp .Or (b::BJ) pos) tb):PE X (.BoolOp .Or (a::b::BJ) pos)<|AEg ta tb:=by
 intro AD s σ H Q I h;refine BoolOp_or<|Ae (ha AD s σ H _ I h) ?_;rintro v s1 ⟨x,y,q,p,z⟩;obtain⟨c,rfl,z⟩:=z;cases p;refine wpAny_truthy_bool ?_;cases c with
 |false=>exact u AD s1 σ y Q q z
 |true=>exact⟨.bl true,y,q,rfl,z⟩
theorem AAj(ha:PE X a ta):PE X (.UnaryOp .Not a pos)<|AEf ta:=by intro AD s σ H Q I h;refine UnaryOp_<|Ae (ha AD s σ H _ I h) ?_;rintro v s1 ⟨x,y,q,u,z⟩;obtain⟨c,rfl,z⟩:=z;cases u;exact not_of<|wpAny_truthy_bool ⟨.bl (!c),y,q,rfl,z⟩
def tIf(t:TT)(ta tb:TE):TE:=λσ H Q=>t σ H λc z=>if c=true then ta σ z Q else tb σ z Q
theorem AAf(hc:PT X c tA)(ha:PE X a ta)(v:PE X b tb):PE X (.IfExp c a b pos)<|tIf tA ta tb:=by
 intro AD s σ H Q I h;refine wpAny_IfExp<|Ae (hc AD s σ H _ I h) ?_;rintro d s1 ⟨z,y,q⟩;cases d with
 |true=>exact ha AD s1 σ z Q y q
 |false=>exact v AD s1 σ z Q y q
end
def CO(K:PySem.W.Frag)(H:Hp)(a:Addr)(xs:List V):Prop:=
 Rd H a (.lst xs)\/∃(o:Obj)(its:Array Value)(n:Nat),K.lookup a=some o/\o.cls=.type "list"/\o.dict=none/\o.data=.seq its n/\its.size<=sizeLine/\Ar xs its.toList
def Ba(K:PySem.W.Frag)(H:Hp)(a:Addr)(xs:List V):Prop:=
 Rd H a (.tup xs)\/∃(o:Obj)(its:Array Value)(n:Nat),K.lookup a=some o/\o.cls=.type "tuple"/\o.data=.seq its n/\its.size<=sizeLine/\Ar xs its.toList
noncomputable def oj:Value->Option V
 |.none=>some .As
 |.bool b=>some<|.bl b
 |.int i _=>some<|.int i
 |.str x _=>some<|.str x
 |.bytes b _=>some<|.VC b
 |.float b _=>some<|.MP b
 |.ref a=>some<|.ref a
 |.type n=>some<|.ty n
 |_=>none
theorem RelV.abs(r:RelV x u):oj u=some x:=by
 cases x with
 |As=>cases r;rfl
 |bl _=>cases r;rfl
 |int _=>obtain⟨t,rfl⟩:=r;rfl
 |str _=>obtain⟨t,rfl⟩:=r;rfl
 |VC _=>obtain⟨t,rfl⟩:=r;rfl
 |MP _=>obtain⟨t,rfl⟩:=r;rfl
 |ref _=>cases r;rfl
 |ty _=>cases r;rfl
theorem RelV.inj(r:RelV x u)(q:RelV y u):x=y:=AHP<|r.abs.symm.trans q.abs
theorem Ar.inj:∀{xs ys:List V}{us:List Value},Ar xs us->Ar ys us->xs=ys:=by
 intro xs ys us h
 induction h generalizing ys with
 |nil=>intro g;cases g;rfl
 |cons r t ih=>
  intro g;cases g with
  |cons r' t'=>rw[r.inj r',ih t']
section
variable{X:Cx}{AD:List (Addr×Obj)}{σ:St}{H:Hp}{s:Shared}{a:Addr}{xs ys:List V}
theorem Inv.list(I:Inv X AD σ H s)(h:CO X.K H a xs):∃its:List Value,Ar xs its/\PlainL s.heap a its.toArray/\xs.length<=sizeLine:=by
 rcases h with h|⟨o,its,n,y,hc,hd,hs,hz,r⟩
 .obtain⟨z,its,n,r,e⟩:=h.ok I.AX;exact⟨its,r,⟨_,n,e,rfl,rfl,rfl⟩,z⟩
 .refine⟨its.toList,r,⟨o,n,I.BZ a o y,hc,hd,by simpa using hs⟩,?_⟩;have e:=r.length;simp only[AHm]at e;lia
theorem Inv.tuple(I:Inv X AD σ H s)(h:Ba X.K H a xs):∃its:List Value,Ar xs its/\IsTup s.heap a its.toArray/\xs.length<=sizeLine:=by
 rcases h with h|⟨o,its,n,y,hc,hs,hz,r⟩
 .obtain⟨z,its,r,p⟩:=h.ok I.AX;exact⟨its,r,p,z⟩
 .refine⟨its.toList,r,⟨o,I.BZ a o y,hc,n,by simpa using hs⟩,?_⟩;have e:=r.length;simp only[AHm]at e;lia
theorem Inv.yD(I:Inv X AD σ H s)(h:CO X.K H a xs)(h':CO X.K H a ys):xs=ys:=by
 obtain⟨its,r,⟨o,n,e,_,_,d⟩,_⟩:=I.list h;obtain⟨its',q,⟨o',n',z,_,_,y⟩,_⟩:=I.list h';rw[e]at z;cases z;rw[d]at y;injection y with d1 _
 have:=by simpa using AHa Array.toList d1
 subst this;exact r.inj q
theorem Inv.AFB(I:Inv X AD σ H s)(h:Ba X.K H a xs)(h':Ba X.K H a ys):xs=ys:=by
 obtain⟨its,r,⟨o,e,_,n,d⟩,_⟩:=I.tuple h;obtain⟨its',q,⟨o',z,_,n',y⟩,_⟩:=I.tuple h';rw[e]at z;cases z;rw[d]at y;injection y with d1 _
 have:its=its':=by simpa using AHa Array.toList d1
 subst this;exact r.inj q
end
noncomputable abbrev Cx.HU(X:Cx)(E:Value->Shared->Prop):Cx:={X with xe:=E}
abbrev Cx.HJ(X:Cx):Cx:=X.HU λ_ _=>False
theorem Cx.Ok.HU{X:Cx}(ok:X.Ok)(E:Value->Shared->Prop):(X.HU E).Ok:=
 ⟨ok.mod,ok.kind,ok.glob,ok.blt,ok.above,ok.inj,ok.has,ok.Ii,ok.hd,ok.frames,ok.F8,ok.Jz,ok.bs,ok.Fe,ok.JW,ok.Iz,ok.EB,ok.Gv⟩
theorem Cx.Ok.Ja{X:Cx}(ok:(X.HU E).Ok):X.Ok:=
 ⟨ok.mod,ok.kind,ok.glob,ok.blt,ok.above,ok.inj,ok.has,ok.Ii,ok.hd,ok.frames,ok.F8,ok.Jz,ok.bs,ok.Fe,ok.JW,ok.Iz,ok.EB,ok.Gv⟩
section
variable{X:Cx}{AD:List (Addr×Obj)}{σ:St}{H:Hp}{s:Shared}{E:Value->Shared->Prop}
theorem Inv.HU(I:Inv X AD σ H s)(E:Value->Shared->Prop):Inv (X.HU E) AD σ H s:=⟨I.ok.HU E,I.os,I.bare,I.base,I.loc,I.cell,I.free,I.EA,I.pin,I.AX,I.len⟩
theorem Inv.Ja(I:Inv (X.HU E) AD σ H s):Inv X AD σ H s:=⟨I.ok.Ja,I.os,I.bare,I.base,I.loc,I.cell,I.free,I.EA,I.pin,I.AX,I.len⟩
theorem SP.Ja{D:Ends}{f:Flow}{s':Shared}(h:SP (X.HU E) AD D f s'):SP X AD D f s':=by
 cases f with
 |next=>obtain⟨z,H',I,q⟩:=h;exact⟨z,H',I.Ja,q⟩
 |brk=>obtain⟨z,H',I,q⟩:=h;exact⟨z,H',I.Ja,q⟩
 |cont=>obtain⟨z,H',I,q⟩:=h;exact⟨z,H',I.Ja,q⟩
 |ret u=>obtain⟨v,z,H',I,r,q⟩:=h;exact⟨v,z,H',I.Ja,r,q⟩
theorem Cw.HJ{st:List Stmt}(h:Cw X.HJ st t):Cw X st t:=λAD s σ H D I y=>
 wpAny_mono (h AD s σ H D (I.HU _) y) (λ_ _ q=>q.Ja) λ_ _ z=>False.elim z
end
section
variable{X:Cx}{st:Stmt}{BJ:List Stmt}{t u:TS}{e:Expr}{te:TE}{pos:Pos}
def AEb:TS:=λD σ H=>D.nx σ H
def AEm(t u:TS):TS:=λD σ H=>t {D with nx:=u D} σ H
theorem ABP:Cw X [] AEb:=λ_ _ σ H _ I h=>wpAny_execs_nil ⟨σ,H,I,h⟩
theorem kb(h1:PS X st t)(z:Cw X BJ u):Cw X (st::BJ)<|AEm t u:=by
 intro AD s σ H D I h;refine wpAny_execs_cons<|Ae (h1 AD s σ H {D with nx:=u D} I h) λf s1 q=>?_;cases f with
 |next=>
  obtain⟨y,H',p,q⟩:=q;exact z AD s1 y H' D p q
 |ret v=>exact q
 |brk=>exact q
 |cont=>exact q
theorem kc(h1:PS X st t):Cw X [st] t:=by
 intro AD s σ H D I h;refine wpAny_execs_cons<|Ae (h1 AD s σ H D I h) λf s1 q=>?_;cases f with
 |next=>exact wpAny_execs_nil q
 |ret v=>exact q
 |brk=>exact q
 |cont=>exact q
theorem Inv.quiet{σ:St}(I:Inv X AD σ H s):interactive X.env=false:=by simp[interactive,I.ok.kind]
def Yp(te:TE):TS:=λD σ H=>te σ H λ_ z=>D.nx σ z
theorem TQ(he:PE X e te)(hs:swapsWith e none pos.line X.env=pure false:=by rfl):PS X (.Expr e pos)<|Yp te:=by intro AD s σ H D I h;exact wpAny_Expr_any (Ae (he AD s σ H _ I h) (by rintro v s1 ⟨x,z,y,r1,q⟩;exact⟨σ,z,y,q⟩)) I.quiet hs
def AEk(te:TE):TS:=λD σ H=>te σ H D.rt
theorem X6(he:PE X e te):PS X (.Return (some e) pos)<|AEk te:=by intro AD s σ H D I h;exact wpAny_Return_some<|Ae (he AD s σ H _ I h) (by rintro v s1 ⟨x,z,y,q,p⟩;exact⟨x,σ,z,y,q,p⟩)
def AEV(c:TT)(t u:TS):TS:=λD σ H=>c σ H λb z=>if b=true then t D σ z else u D σ z
theorem ABH(hc:PT X c z)(ha:Cw X a t)(p:Cw X b u):PS X (.If c a b pos)<|AEV z t u:=by
 intro AD s σ H D I h;refine wpAny_If<|Ae (hc AD s σ H _ I h) ?_;rintro d s1 ⟨y,q,v⟩;cases d with
 |true=>exact ha AD s1 σ y D q v
 |false=>exact p AD s1 σ y D q v
def AEa:TS:=λ_ _ _=>False
theorem ABI:PS X st AEa:=λ_ _ _ _ _ _ h=>h.elim
end
abbrev TG:=V->St->Hp->(St->Hp->Prop)->Prop
abbrev Gk:=List V->St->Hp->(St->Hp->Prop)->Prop
def PG(X:Cx)(y:Expr)(t:TG):Prop:=
 ∀(AD:List<|Addr×Obj)(s:Shared)(σ:St)(H:Hp)(v:V)(u:Value)(Q:St->Hp->Prop),Inv X AD σ H s->RelV v u->t v σ H Q->wpAny (model X.prog X.w) X.A (assign y X.env u) (λ_ s'=>∃z H',Inv X AD z H' s'/\Q z H') X.xe s
def Gh(X:Cx)(ts:List Expr)(t:Gk):Prop:=
 ∀(AD:List<|Addr×Obj)(s:Shared)(σ:St)(H:Hp)(vs:List V)(us:List Value)(Q:St->Hp->Prop),Inv X AD σ H s->Ar vs us->t vs σ H Q->wpAny (model X.prog X.w) X.A (assignInOrder ((assignEach ts X.env).map (·.2)) us) (λ_ s'=>∃z H',Inv X AD z H' s'/\Q z H') X.xe s
section
variable{X:Cx}{pos:Pos}
def Oc(i:Nat):TG:=λv σ H Q=>Q (σ.set i<|some v) H
theorem AAr(z:X.N.Nodup)(hi:X.N[i]? = some x)(y:Loc X.env.scope x)(q:X.fn x=true\/X.env.scope.names.lookup x=some .local:=by first|exact .inl rfl|exact .inr rfl|assumption):PG X (.Name x pos)<|Oc i:=by intro AD s σ H v u Q I r h;exact wpAny_assign_Name<|Lo I z hi y r (λs' p=>⟨_,H,p,h⟩) q
def uM:Gk:=λvs σ H Q=>vs=[]/\Q σ H
def uK(t:TG)(u:Gk):Gk:=λvs σ H Q=>∃v r,vs=v::r/\t v σ H λz H'=>u r z H' Q
theorem AAv:Gh X [] uM:=by intro AD s σ H vs us Q I r h;obtain⟨e,h⟩:=h;exact assignInOrder_nil ⟨σ,H,I,h⟩
theorem AAu(h1:PG X e t)(z:Gh X es u) (hs:(assignEach (e::es) X.env).map (·.2)=assign e X.env::(assignEach es X.env).map (·.2):=by rfl):Gh X (e::es)<|uK t u:=by
 intro AD s σ H vs us Q I r h;obtain⟨v,vr,y,h⟩:=h;subst y;cases r with
 |cons r rr=>
  rw[hs];refine assignInOrder_cons<|Ae (h1 AD s σ H _ _ _ I r h) ?_;rintro _ s1 ⟨q,p,Z,Y⟩;exact z AD s1 q p _ _ Q Z rr Y
def uN(K:PySem.W.Frag)(n:Nat)(t:Gk):TG:=λv σ H Q=>∃a xs,v=.ref a/\Ba K H a xs/\xs.length=n/\t xs σ H Q
theorem AAs{k:Nat}(hc:X.calm=true)(h:Gh X es t) (hn:(assignEach es X.env).length=n:=by rfl) (y:(assignEach es X.env).findIdx? (·.1)=none:=by rfl):PG X (.Tuple es k pos)<|uN X.K n t:=by intro AD s σ H v u Q I r z;obtain⟨a,xs,q,p,Z,z⟩:=z;subst q;cases r;obtain⟨its,rv,Y,hz⟩:=I.tuple p;refine assign_Tuple_tuple (I.ok.hd hc) Y (by simp[hn,<-Z,rv.length]) y λh' O=>?_;have P:Inv X AD σ H {s with heap:=h'}:=I.kept λb o e=>O b o (AG7<|Heap.lt_size e) e;exact h AD _ σ H xs _ Q P (by simpa using rv) z
def P8(te:TE)(g:TG):TS:=λD σ H=>te σ H λx z=>g x σ z D.nx
theorem kY(he:PE X e te)(z:PG X tg g)(hs:swapsWithSole [tg] e pos.line X.env=pure false:=by rfl)(y:swappedStores [tg] e X.env=pure none:=by rfl) (h1:(assignEach [tg] X.env).map (·.2)=[assign tg X.env]:=by rfl):PS X (.Assign [tg] e pos)<|P8 te g:=by intro AD s σ H D I h;refine wpAny_Assign_stores (Ae (he AD s σ H _ I h) ?_) hs y;rintro v s1 ⟨x,u,p,Z,Y⟩;rw[h1];exact Ae (z AD s1 σ u x v _ p Z Y) λ_ s2 q=>q
theorem Px(q:X.N.Nodup)(hi:X.N[i]? = some x)(u:Loc X.env.scope x)(he:PE X e te)(hs:swapsWith e (some<|.Name x z) pos.line X.env=pure false:=by rfl)(p:X.fn x=true\/X.env.scope.names.lookup x=some .local:=by first|exact .inl rfl|exact .inr rfl|assumption) : PS X (.Assign [.Name x z] e pos)<|P8 te<|Oc i:=by intro AD s σ H D I h;refine wpAny_Assign_Name (Ae (he AD s σ H _ I h) ?_) hs;rintro v s1 ⟨y,Z,Y,Q,O⟩;exact Lo Y q hi u Q (λs2 P=>⟨_,Z,P,O⟩) p
def AEh(i j:Nat)(z:TA):TS:=λD σ H=>z σ H λvs y=>∃v w,vs=[v,w]/\D.nx ((σ.set i<|some v).set j<|some w) y
theorem ABJ(hc:X.calm=true)(P:X.N.Nodup)(hi:X.N[i]? = some x)(S:X.N[j]? = some y)(T:i≠j) (F:X.env.scope.names.lookup x=some .local) (R:X.env.scope.names.lookup y=some .local) (ha:PA X [a,b] O) (C:swappedStores [.Tuple [.Name x Z,.Name y Y] kt pt] (.Tuple [a,b] k2 Lk) X.env=pure (some [x,y])) (hs:swapsWithSole [.Tuple [.Name x Z,.Name y Y] kt pt] (.Tuple [a,b] k2 Lk) pos.line X.env=pure false:=by rfl) : PS X (.Assign [.Tuple [.Name x Z,.Name y Y] kt pt] (.Tuple [a,b] k2 Lk) pos)<|AEh i j O:=by
 intro AD s σ H D I h;refine wpAny_bind<|wpAny_standAt ?_;refine wpAny_bind<|wpAny_pure ?_;refine wpAny_bind<|Tuple_<|Ae (ha _ AD s σ H _ I h) ?_;rintro us s1 ⟨vs,B,E,n,Q⟩;obtain⟨v,w,t,Q⟩:=Q;subst t;obtain⟨z,u,rfl,rv,f⟩:∃z u,us=[z,u]/\RelV v z/\RelV w u:=by
  cases n with
  |cons p q=>
   cases q with
   |cons p' q'=>
    cases q';exact⟨_,_,rfl,p,p'⟩
 refine wpAny_newObj_type ?_ (by show 2<=sizeLine;decide);have I2:Inv X AD σ B {s1 with heap:=s1.heap.push {cls:=.type "tuple",data:=.seq [z,u].toArray}}:=E.kept λb o e=>Heap.get?_push_of_some _ e;rw[C];refine wpAny_bind<|wpAny_pure ?_;refine wpAny_bind<|wpAny_rule<|wpAny_bind<|unpackItems_tuple (items:=#[z,u]) (I.ok.hd hc) (IsTup.new s1.heap _) λh' Hr=>?_;have I3:=I2.kept (t':=s1.toks) λb o e=>Hr b o (AG7<|Heap.lt_size e) e;refine wpAny_bind<|assignInOrder_cons<|wpAny_bindName<|Lo I3 P S (.inl R) f (λs2 I4=>?_)<|.inr R;refine assignInOrder_cons<|wpAny_bindName<|Lo I4 P hi (.inl F) rv (λs3 G=>assignInOrder_nil<|wpAny_pure ?_)<|.inr F;rw[List.set_comm _ _<|AHh T]at G;exact⟨_,B,G,Q⟩
end
section
variable{X:Cx}{pos:Pos}
def AEq(c:TT)(v:TS):TS:=λD σ H=>∃W:Nat->St->Hp->Prop,(∃m,W m σ H)/\∀m σ H,W m σ H->
 c σ H λb z=>if b=true then ∃N:St->Hp->Prop,(∀y H',N y H'->∃q,q<m/\W q y H')/\v {D with nx:=N,ct:=N,bk:=D.nx} σ z else D.nx σ z
theorem ABN{body:List Stmt}(hp:PassesOwn (model X.prog X.w) X.A X.env X.xe)(hc:PT X c Q)(S:Cw X body O):PS X (.While c body [] pos)<|AEq Q O:=by
 intro AD s σ H D I h;obtain⟨W,⟨T,C⟩,turn⟩:=h;refine wpAny_While<|codeAny_whileLoop (λn s'=>∃P H',Inv X AD P H' s'/\W n P H') ?_ T ⟨σ,H,I,C⟩;rintro n s1 ⟨q,F,E,t⟩;refine wpAny_passesOwn hp<|Ae (hc AD s1 q F _ E<|turn n q F t) ?_;rintro b s2 ⟨R,B,u⟩;cases b with
 |true=>
  obtain⟨N,G,u⟩:=u;refine wpAny_passesOwn hp<|Ae (S AD s2 q R _ B u) λf s3 q3=>?_;cases f with
  |next=>
   obtain⟨z,y,p,Z⟩:=q3;obtain⟨Y,hm,w3⟩:=G z y Z;exact⟨Y,hm,z,y,p,w3⟩
  |cont=>
   obtain⟨z,y,p,Z⟩:=q3;obtain⟨Y,hm,w3⟩:=G z y Z;exact⟨Y,hm,z,y,p,w3⟩
  |brk=>exact q3
  |ret v=>exact q3
 |false=>
  exact wpAny_execs_nil ⟨q,R,B,u⟩
end
structure It where
 go:Nat->Hp->Prop
 UA:Nat->Hp->V->Hp->Prop
 stop:Nat->Hp->Prop
def Gf(X:Cx)(AD:List<|Addr×Obj)(H:Hp)(b:Addr):Prop:=
 H b=none/\b≠X.env.locals/\b∉X.fs/\(b∈X.ex\/X.CB.heap.objs.size<=b)/\(∀x c,X.env.cells.lookup x=some c->c≠b)/\∀p∈X.pn++AD,p.1≠b
theorem Inv.Rg{σ:St}{H H':Hp}{s:Shared}{b:Addr}(I:Inv X AD σ H s)(y:s.heap.objs.size<=b)(hn:H' b=none):Gf X AD H' b:=by
 refine⟨hn,Nat.ne_of_gt<|AHI I.lt y,I.zB y,.inr<|AHd I.sz y,λx c e z=>?_,λp hp z=>?_⟩
 .obtain⟨v,q⟩:=I.cell x c e;exact absurd (AHI q.lt (by rw[z];exact y)) (AIs _)
 .exact absurd (AHI (Heap.lt_size (I.pin p hp).1) (by rw[z];exact y)) (AIs _)
structure Turn(P:Program)(w:World)(K:PySem.W.Frag)(tg:Expr)(J:It)(fp:List Addr)(it:Addr)(tn:Nat->Heap->Prop):Prop where
 mem:it∈fp
 obj:∀i h,tn i h->∀b∈fp,∃o,h.get? b=some o/\∀v,o.data≠.cell v
 keep:∀i h h',tn i h->(∀b∈fp,∀o,h.get? b=some o->h'.get? b=some o)->tn i h'
 item:∀(X:Cx),X.prog=P->X.w=w->X.K=K->X.calm=true->∀(i:Nat)(AD:List<|Addr×Obj)(s:Shared)(σ:St)(H:Hp)(E:Value->Shared->Prop),Inv X AD σ H s->(∀b∈fp,Gf X AD H b)->tn i s.heap->J.go i H->wpAny (model P w) X.A (pyNext<|.ref it) (λr s1=>∃u,r=some u/\
   wpAny (model P w) X.A (letOwnedTupleGo tg (.ref it) u) (λ_ s2=>∃x H',Inv X AD σ H' s2/\RelV x u/\J.UA i H x H'/\tn (i+1) s2.heap/\∀b∈fp,H' b=none) E s1) E s
 done:∀(X:Cx),X.prog=P->X.w=w->X.K=K->X.calm=true->∀(i:Nat)(AD:List<|Addr×Obj)(s:Shared)(σ:St)(H:Hp)(E:Value->Shared->Prop),Inv X AD σ H s->(∀b∈fp,Gf X AD H b)->tn i s.heap->J.stop i H->wpAny (model P w) X.A (pyNext<|.ref it) (λr s1=>r=none/\Inv X AD σ H s1) E s
 self:∀(A:Around)(i:Nat)(s:Shared)(Q:Value->Shared->Prop)(E:Value->Shared->Prop),tn i s.heap->Q (.ref it) s->wpAny (model P w) A (pyIter<|.ref it) Q E s
abbrev TI:=St->Hp->(It->Hp->Prop)->Prop
def ZT(X:Cx)(AD:List<|Addr×Obj)(σ:St)(tg:Expr)(R:It->Hp->Prop)(z:Value)(s2:Shared):Prop:=
 ∃(it:Addr)(fp:List Addr)(tn:Nat->Heap->Prop)(J:It)(H':Hp),z=.ref it/\Inv X AD σ H' s2/\Turn X.prog X.w X.K tg J fp it tn/\tn 0 s2.heap/\(∀b∈fp,Gf X AD H' b)/\R J H'
def PI(X:Cx)(tg z:Expr)(wi:TI):Prop:=
 ∀(AD:List<|Addr×Obj)(s:Shared)(σ:St)(H:Hp)(R:It->Hp->Prop),Inv X AD σ H s->wi σ H R->wpAny (model X.prog X.w) X.A (eval z X.env) (λv s1=>wpAny (model X.prog X.w) X.A (pyIter v) (ZT X AD σ tg R) X.xe s1) X.xe s
theorem WG(ho:s.heap.get? it=some o)(hc:o.cls=.type n)(hd:o.data=.fields vs) (hn:["enumerate","zip","dict_itemiterator","dict_reverseitemiterator","odict_iterator","itertools.zip_longest","itertools.pairwise"].contains n=false) (z:Q () s):wpAny M A (letOwnedTupleGo tg (.ref it) u) Q E s:=by
 cases tg<;>first
  |exact wpAny_pure z
  |(cases u<;>first
   |exact wpAny_pure z
   |(
    refine wpAny_bind<|wpAny_load ho ?_;rw[hc,hd];show wpAny M A (if(["enumerate","zip","dict_itemiterator","dict_reverseitemiterator","odict_iterator","itertools.zip_longest","itertools.pairwise"].contains n&&vs[0]? == some (rawInt _))=true then _ else _) Q E s;rw[AGp (by intro h;rw[hn]at h;contradiction)];exact wpAny_pure z))
noncomputable def Um(K:PySem.W.Frag)(a:Addr):It:=
 ⟨λi H=>∃xs x,CO K H a xs/\xs[i]? = some x,λi H x H'=>H'=H/\∀xs,CO K H a xs->xs[i]? = some x,λi H=>∃xs,CO K H a xs/\xs.length<=i⟩
noncomputable def Uo(K:PySem.W.Frag)(a:Addr):It:=
 ⟨λi H=>∃xs x,Ba K H a xs/\xs[i]? = some x,λi H x H'=>H'=H/\∀xs,Ba K H a xs->xs[i]? = some x,λi H=>∃xs,Ba K H a xs/\xs.length<=i⟩
noncomputable def Nv(lo:Int)(n:Nat):It:=⟨λi _=>i<n,λi H x H'=>H'=H/\x=.int (lo+i),λi _=>n<=i⟩
theorem AFE{K:PySem.W.Frag}(a it:Addr):Turn P w K tg (Um K a) [it] it (λi h=>h.IsListIter it a i) where
 mem:=AGh
 obj:=λi h st b y=>by
  have e:=by simpa using y
  subst e;obtain⟨o,e,c,d⟩:=st;exact⟨o,e,λv z=>by rw[d]at z;injection z⟩
 keep:=λi h h' st k=>st.at λo e=>k it AGh o e
 item:=by intro X Y Q O hc i AD s σ H E I q st D;subst Y Q O;obtain⟨xs,x,Z,F⟩:=D;obtain⟨its,rv,p,S⟩:=I.list Z;obtain⟨u,T,C⟩:=rv.get F;obtain⟨R,f1,f2,f3,f4,B⟩:=q it AGh;refine wpAny_pyNext_list_item st p.isList (by simpa using T) λh' G n=>?_;have t:Inv X AD σ H {s with heap:=h'}:=I.turned (λb o y e=>(n.2 b y).trans e) R f1 f3 f4 B;obtain⟨o,e,c,d⟩:=id G;exact⟨u,rfl,WG e c d AGj ⟨x,H,t,C,⟨rfl,λys f=>by rw[I.yD f Z];exact F⟩,G,λb y=>(q b y).1⟩⟩
 done:=by intro X Y Q O hc i AD s σ H E I q st D;subst Y Q O;obtain⟨xs,Z,F⟩:=D;obtain⟨its,rv,p,S⟩:=I.list Z;obtain⟨R,f1,f2,f3,f4,B⟩:=q it AGh;have hl:=rv.length;exact wpAny_pyNext_list_end (I.ok.hd hc) st p.isList (by simp;lia) λh' eb=>⟨rfl,I.turned (λb o y e=>eb b o y e) R f1 f3 f4 B⟩
 self:=λ_ _ _ _ _ st h=>wpAny_pyIter_listiter st h
theorem AFG{K:PySem.W.Frag}(a it:Addr):Turn P w K tg (Uo K a) [it] it (λi h=>h.IsTupleIter it a i) where
 mem:=AGh
 obj:=λi h st b y=>by
  have e:b=it:=by simpa using y
  subst e;obtain⟨o,e,c,d⟩:=st;exact⟨o,e,λv z=>by rw[d]at z;injection z⟩
 keep:=λi h h' st k=>st.at λo e=>k it AGh o e
 item:=by intro X Y Q O hc i AD s σ H E I q st D;subst Y Q O;obtain⟨xs,x,Z,F⟩:=D;obtain⟨its,rv,p,S⟩:=I.tuple Z;obtain⟨u,T,C⟩:=rv.get F;obtain⟨R,f1,f2,f3,f4,B⟩:=q it AGh;refine wpAny_pyNext_tuple_item st (show s.heap.IsTuple a its.toArray from p) (x:=u) (by simpa using T) λh' G n=>?_;have t:Inv X AD σ H {s with heap:=h'}:=I.turned (t':=s.toks) (λb o y e=>(n.2 b y).trans e) R f1 f3 f4 B;obtain⟨o,e,c,d⟩:=id G;exact⟨u,rfl,WG (s:={s with heap:=h'}) e c d AGj ⟨x,H,t,C,⟨rfl,λys f=>by rw[I.AFB f Z];exact F⟩,G,λb y=>(q b y).1⟩⟩
 done:=by intro X Y Q O hc i AD s σ H E I q st D;subst Y Q O;obtain⟨xs,Z,F⟩:=D;obtain⟨its,rv,p,S⟩:=I.tuple Z;obtain⟨R,f1,f2,f3,f4,B⟩:=q it AGh;have hl:=rv.length;exact wpAny_pyNext_tuple_end (I.ok.hd hc) st (show s.heap.IsTuple a its.toArray from p) (by simp;lia) λh' eb=>⟨rfl,I.turned (t':=s.toks) (λb o y e=>eb b o y e) R f1 f3 f4 B⟩
 self:=λ_ _ _ _ _ st h=>wpAny_pyIter_tupleiter st h
theorem AFF{K:PySem.W.Frag}(it:Addr)(lo:Int)(n:Nat):Turn P w K tg (Nv lo n) [it] it (λi h=>IsRangeIter h it (lo+(i)*1) ((n)-(i)) 1) where
 mem:=AGh
 obj:=λi h st b y=>by
  have e:=by simpa using y
  subst e;exact⟨_,st,λv z=>by have F:Data.fields _=Data.cell v:=z;injection F⟩
 keep:=λi h h' st k=>k it AGh _ st
 item:=by intro X u p Z hc i AD s σ H E I q st Y;subst u p Z;obtain⟨Q,f1,f2,f3,f4,O⟩:=q it AGh;have W:=Walks.range (prog:=X.prog) (w:=X.w) (I.ok.hd hc) it lo 1 n;refine W.item i s _ _ Y st λv h' tk R D kk=>?_;obtain⟨t,rfl⟩:=R;have B:Inv X AD σ H {s with heap:=h',toks:=tk}:=I.turned (λb o y e=>kk b o (by simpa using y) e) Q f1 f3 f4 O;refine⟨_,rfl,WG D rfl rfl AGj ⟨.int<|lo+i,H,B,⟨t,?_⟩,⟨rfl,rfl⟩,D,λb y=>(q b y).1⟩⟩;rw[Int.mul_one]
 done:=by intro X u p Z hc i AD s σ H E I q st Y;subst u p Z;obtain⟨Q,f1,f2,f3,f4,O⟩:=q it AGh;exact wpAny_pyNext_range_end (I.ok.hd hc) st (by have:n<=i:=Y;lia) λh' G=>⟨rfl,I.turned (λb o y e=>G b o y e) Q f1 f3 f4 O⟩
 self:=λ_ _ _ _ _ st h=>wpAny_pyIter_rangeiter st h
section
variable{X:Cx}{tg:Expr}
def wg(K:PySem.W.Frag)(tl:TE):TI:=λσ H R=>tl σ H λx z=>∃a,x=.ref a/\(∃xs,CO K z a xs)/\R (Um K a) z
def wm(K:PySem.W.Frag)(tl:TE):TI:=λσ H R=>tl σ H λx z=>∃a,x=.ref a/\(∃xs,Ba K z a xs)/\R (Uo K a) z
theorem AAw(y:PE X l tl):PI X tg l<|wg X.K tl:=by
 intro AD s σ H R I h;refine Ae (y AD s σ H _ I h) ?_;rintro v s1 ⟨x,u,z,Z,Y⟩;obtain⟨a,e,⟨xs,Q⟩,q⟩:=Y;subst e;cases Z;obtain⟨its,rv,p,hz⟩:=z.list Q;refine wpAny_pyIter_list p.isList ?_;refine⟨s1.heap.objs.size,[s1.heap.objs.size],_,_,u,rfl,z.kept λb o e=>Heap.get?_push_of_some _ e,AFE a _,⟨_,Heap.get?_push_size _ rfl,rfl,rfl⟩,λb O=>?_,q⟩;have e:=by simpa using O
 subst e;exact z.Rg (AGy _)<|z.AX.fresh<|AGy _
theorem AAz(y:PE X l tl):PI X tg l<|wm X.K tl:=by
 intro AD s σ H R I h;refine Ae (y AD s σ H _ I h) ?_;rintro v s1 ⟨x,u,z,Z,Y⟩;obtain⟨a,e,⟨xs,Q⟩,q⟩:=Y;subst e;cases Z;obtain⟨its,rv,p,hz⟩:=z.tuple Q;refine wpAny_pyIter_tuple (show s1.heap.IsTuple a its.toArray from p) ?_;refine⟨s1.heap.objs.size,[s1.heap.objs.size],_,_,u,rfl,z.kept (t':=s1.toks) λb o e=>Heap.get?_push_of_some _ e,AFG a _,⟨_,Heap.get?_push_size _ rfl,rfl,rfl⟩,λb O=>?_,q⟩;have e:b=s1.heap.objs.size:=by simpa using O
 subst e;exact z.Rg (AGy _)<|z.AX.fresh<|AGy _
theorem ky{σ:St}{H:Hp}{s:Shared}{R:It->Hp->Prop}{E:Value->Shared->Prop}{lo hi:Int}{t u v:Tok}{tk:Nat}(I:Inv X AD σ H s)(h1 : -(2 ^ 62)<=lo)(y:lo<2 ^ 62)(h3 : -(2 ^ 62)<=hi)(p:hi<2 ^ 62) (q:R (Nv lo (hi-lo).toNat) H):wpAny (model X.prog X.w) X.A (pyIter<|.ref s.heap.objs.size) (ZT X AD σ tg R) E {s with heap:=s.heap.push {cls:=.type "range",data:=.fields #[.int lo t,.int hi u,.int 1 v]},toks:=tk}:=by
 refine wpAny_pyIter_range (IsRange.new ..) (small_one h1 y h3 p) ?_;have z:Inv X AD σ H {s with heap:=s.heap.push {cls:=.type "range",data:=.fields #[.int lo t,.int hi u,.int 1 v]},toks:=tk}:=I.kept λb o e=>Heap.get?_push_of_some _ e;refine⟨(s.heap.push {cls:=.type "range",data:=.fields #[.int lo t,.int hi u,.int 1 v]}).objs.size,[(s.heap.push {cls:=.type "range",data:=.fields #[.int lo t,.int hi u,.int 1 v]}).objs.size],_,_,H,rfl,z.kept λb o e=>Heap.get?_push_of_some _ e,AFF _ lo (hi-lo).toNat,?_,λb Z=>?_,q⟩
 .have Y:lo+((0:Nat))*1=lo:=AGh
  have Q:(((hi-lo).toNat))-((0:Nat))=Builtin.Range.rangeSize lo hi 1:=by rw[rangeSize_one];split<;>lia
  rw[Y,Q];exact Heap.get?_push_size _ rfl
 .have e:b=(s.heap.push {cls:=.type "range",data:=.fields #[.int lo t,.int hi u,.int 1 v]}).objs.size:=by simpa using Z
  subst e;exact z.Rg (AGy _)<|z.AX.fresh<|AGy _
def wj(z:TA):TI:=λσ H R=>z σ H λvs y=>∃j:Int,vs=[.int j]/\-(2 ^ 62)<=j/\j<2 ^ 62/\R (Nv 0 j.toNat) y
def wk(z:TA):TI:=λσ H R=>z σ H λvs y=>∃i j:Int,vs=[.int i,.int j]/\(-(2 ^ 62)<=i/\i<2 ^ 62/\-(2 ^ 62)<=j/\j<2 ^ 62)/\R (Nv i (j-i).toNat) y
theorem AAx(v:Gl X "range")(hm:X.mg "range" = none)(ha:PA X [a] y)(hs:starEach [a] X.env=[(false,eval a X.env)]:=by rfl):PI X tg (.Call (.Name "range" p) [a] [] pos)<|wj y:=by
 intro AD s σ H R I h;refine Call_<|PN I v hm boot_range<|AJJ (Ae (ha pos AD s σ H _ I h) ?_) hs rfl;rintro us s1 ⟨vs,H1,u,Z,z⟩;obtain⟨j,e,z,Y,q⟩:=z;subst e;cases Z with
 |cons r rr=>
  cases rr;obtain⟨t,rfl⟩:=r;exact call_range_1<|ky u U AGi z Y<|by simpa using q
theorem AAy{p pos:Pos}(u:Gl X "range")(hm:X.mg "range" = none)(ha:PA X [a,b] y)(hs:starEach [a,b] X.env=[(false,eval a X.env),(false,eval b X.env)]:=by rfl)(v:starEach [b] X.env=[(false,eval b X.env)]:=by rfl) : PI X tg (.Call (.Name "range" p) [a,b] [] pos)<|wk y:=by
 intro AD s σ H R I h;refine Call_ (PN I u hm boot_range<|AJJ (Ae (ha pos AD s σ H _ I h) λus s1 ⟨vs,H1,Z,Y,z⟩=>?_) (by rw[hs,v]) (by rw[v];rfl));obtain⟨i,j,e,⟨z,Q,q3,O⟩,q⟩:=z;subst e;cases Y with
 |cons r rr=>
  cases rr with
  |cons r' rr=>
   cases rr;obtain⟨t,rfl⟩:=r;obtain⟨t',rfl⟩:=r';exact call_range_2<|ky Z z Q q3 O q
def AEU(wi:TI)(g:TG)(q:TS):TS:=λD σ H=>wi σ H λJ v=>∃W:Nat->Nat->St->Hp->Prop,(∃m,W 0 m σ v)/\∀i m σ H,W i m σ H->
 (J.stop i H/\D.nx σ H)\/(J.go i H/\∃N:St->Hp->Prop,(∀z H',N z H'->∃y,y<m/\W (i+1) y z H')/\∀x H',J.UA i H x H'->g x σ H' λu p=>q {D with nx:=N,ct:=N,bk:=D.nx} u p)
noncomputable def Pw(fp:List Addr)(h:Heap):List<|Addr×Obj:=fp.filterMap λb=>(h.get? b).map λo=>(b,o)
theorem Sy(z:b∈fp)(e:h.get? b=some o):(b,o)∈Pw fp h:=AJd.mpr ⟨b,z,by rw[e];rfl⟩
theorem zO(hp:p∈Pw fp h):p.1∈fp/\h.get? p.1=some p.2:=by
 obtain⟨b,z,e⟩:=AJd.mp hp;cases q:h.get? b with
 |none=>rw[q]at e;contradiction
 |some o=>
  rw[q]at e;have y:=AHP e;subst y;exact⟨z,q⟩
theorem Inv.pinned{σ:St}(I:Inv X AD σ H s)(u:∀b∈fp,Gf X AD H b)(ho:∀b∈fp,∃o,s.heap.get? b=some o/\∀v,o.data≠.cell v):Inv X (AD++Pw fp s.heap) σ H s:=
 I.kO λp hp=>(AHJ.mp hp).elim (λz=>I.pin p<|AHl _ z) λz=>by obtain⟨y,e⟩:=zO z;obtain⟨Z,f1,f2,_⟩:=u p.1 y;obtain⟨o,q,d⟩:=ho p.1 y;rw[e]at q;cases q;exact⟨e,Z,f1,f2,d⟩
theorem Inv.T4{σ:St}(I:Inv X (AD++z) σ H s):Inv X AD σ H s:=I.kO λp hp=>I.pin p<|AHl _<|AHw _ hp
theorem ABG{body:List Stmt}(hp:PassesOwn (model X.prog X.w) X.A X.env X.xe)(hc:X.calm=true)(hi:PI X tg z wi)(hg:PG X tg g)(y:Cw X body E) (hs:∀x,foldedSetIterable z X.env x=pure x:=by intro _;rfl):PS X (.For tg z body [] pos)<|AEU wi g E:=by
 intro AD s σ H D I h;refine wpAny_For (Ae (hi AD s σ H _ I h) λv s1 h1=>Ae h1 λSH s2 h2=>?_) hs;obtain⟨it,fp,tn,J,H2,e,I2,T,Ke,f2,W,⟨m0,w0⟩,turn⟩:=h2;subst e;have B:∀{H':Hp},(∀b∈fp,H' b=none)->∀b∈fp,Gf X AD H' b:=λhn b y=>⟨hn b y,(f2 b y).2⟩;refine codeAny_forLoop_any (λn s'=>∃i O H',Inv X AD O H' s'/\tn i s'.heap/\(∀b∈fp,H' b=none)/\W i n O H') ?_ m0 ⟨0,σ,H2,I2,Ke,λb y=>(f2 b y).1,w0⟩;rintro n t ⟨i,P,R,a,FY,OX,w3⟩;rcases turn i n P R w3 with⟨stop,qn⟩|⟨go,N,hN,step⟩
 .refine wpAny_passesOwn hp<|Ae (T.done X rfl rfl rfl hc i AD t P R X.xe a (B OX) FY stop) ?_;rintro r s4 ⟨G,I4⟩;subst G;exact wpAny_execs_nil ⟨P,R,I4,qn⟩
 .refine wpAny_passesOwn hp<|Ae (T.item X rfl rfl rfl hc i AD t P R X.xe a (B OX) FY go) ?_;rintro r s4 ⟨u,G,h4⟩;subst G;refine wpAny_passesOwn hp<|Ae h4 ?_;rintro _ s5 ⟨x,H5,I5,r5,y5,S,V9⟩;have Ul:=I5.pinned (B V9)<|T.obj _ _ S;refine wpAny_passesOwn hp<|Ae (hg _ s5 P H5 x u _ Ul r5<|step x H5 y5) ?_;rintro _ s6 ⟨Nd,H6,I6,q6⟩;refine wpAny_passesOwn hp<|Ae (y _ s6 Nd H6 _ I6 q6) λf C Q=>?_;have q:∀{p:St}{Z:Hp},Inv X (AD++Pw fp s5.heap) p Z C->N p Z->∃m,m<n/\∃i O H',Inv X AD O H' C/\tn i C.heap/\(∀b∈fp,H' b=none)/\W i m O H':=λ{p Z} Y F=>by obtain⟨m',hm,w7⟩:=hN p Z F;refine⟨m',hm,i+1,p,Z,Y.T4,T.keep _ _ _ S λb y o e=>(Y.pin (b,o)<|AHl _<|AHl _<|Sy y e).1,λb y=>?_,w7⟩;obtain⟨o,e,d⟩:=T.obj _ _ S b y;exact(Y.pin (b,o)<|AHl _<|AHl _<|Sy y e).2.1
  cases f with
  |next=>obtain⟨p,Z,Y,F⟩:=Q;exact q Y F
  |cont=>obtain⟨p,Z,Y,F⟩:=Q;exact q Y F
  |brk=>obtain⟨p,Z,Y,Q⟩:=Q;exact⟨p,Z,Y.T4,Q⟩
  |ret v=>obtain⟨x7,p,Z,Y,r7,Q⟩:=Q;exact⟨x7,p,Z,Y.T4,r7,Q⟩
end
abbrev R2:=V->V->Hp->VK->Prop
def Be(X:Cx)(f:Value->Value->Sem Value)(r:R2):Prop:=
 ∀(AD:List<|Addr×Obj)(s:Shared)(σ:St)(H:Hp)(x y:V)(v u:Value)(Q:VK),Inv X AD σ H s->RelV x v->RelV y u->r x y H Q->wpAny (model X.prog X.w) X.A (f v u) (EP X AD σ Q) X.xe s
def Uw(X:Cx)(f:Value->Sem Value)(r:V->Hp->VK->Prop):Prop:=
 ∀(AD:List<|Addr×Obj)(s:Shared)(σ:St)(H:Hp)(x:V)(v:Value)(Q:VK),Inv X AD σ H s->RelV x v->r x H Q->wpAny (model X.prog X.w) X.A (f v) (EP X AD σ Q) X.xe s
def Cu(X:Cx)(f:Value)(r:List V->Hp->VK->Prop):Prop:=
 ∀(AD:List<|Addr×Obj)(s:Shared)(σ:St)(H:Hp)(xs:List V)(us:List Value)(Q:VK),Inv X AD σ H s->Ar xs us->r xs H Q->wpAny (model X.prog X.w) X.A (call f us) (EP X AD σ Q) X.xe s
def P9(r:R2)(z q:TE):TE:=λσ H Q=>z σ H λx v=>q σ v λy u=>r x y u Q
def tUn(r:V->Hp->VK->Prop)(z:TE):TE:=λσ H Q=>z σ H λx y=>r x y Q
def rI(C:Int->Int->Prop)(g:Int->Int->V):R2:=λx y H Q=>∃i j,x=.int i/\y=.int j/\C i j/\Q (g i j) H
def IG(g:Int->Int->V):R2:=λx y H Q=>∃i j,x=.int i/\y=.int j/\Q (g i j) H
def rU(g:Int->V):V->Hp->VK->Prop:=λx H Q=>∃i,x=.int i/\Q (g i) H
section
variable{X:Cx}{a b c:Expr}{ta tb tc:TE}{pos:Pos}
theorem U8(ha:PE X a ta)(p:PE X b tb){σ:St}{H:Hp}{R:V->V->Hp->Prop}(I:Inv X AD σ H s) (h:ta σ H λx q=>tb σ q λy z=>R x y z) {Q:Value->Shared->Prop} {f:Value->Value->Sem Value}
 (Z:∀v u s2 x y z,Inv X AD σ z s2->RelV x v->RelV y u->R x y z->wpAny (model X.prog X.w) X.A (f v u) Q X.xe s2) :
 wpAny (model X.prog X.w) X.A (eval a X.env) (λv Y=>wpAny (model X.prog X.w) X.A (eval b X.env) (λu O=>wpAny (model X.prog X.w) X.A (f v u) Q X.xe O) X.xe Y) X.xe s:=by
 refine Ae (ha AD s σ H _ I h) ?_;rintro v s1 ⟨x,q,P,D,F⟩;refine Ae (p AD s1 σ q _ P F) ?_;rintro u s2 ⟨y,z,B,G,S⟩;exact Z v u s2 x y z B D G S
theorem AAl(ho:Be X (binaryOp op) r)(ha:PE X a ta)(z:PE X b tb):PE X (.BinOp a op b pos)<|P9 r ta tb:=by intro AD s σ H Q I h;exact wpAny_BinOp<|U8 ha z I h λv u s2 x y p Z Y O q=>ho AD s2 σ p x y v u Q Z Y O q
theorem kM(ho:Uw X (unaryOp op) r)(ha:PE X a ta):PE X (.UnaryOp op a pos)<|tUn r ta:=by intro AD s σ H Q I h;exact UnaryOp_<|Ae (ha AD s σ H _ I h) (by rintro v s1 ⟨x,z,y,q,u⟩;exact ho AD s1 σ z x v Q y q u)
theorem Xt{g:Int->Int->Int}(z:∀(i j:Int)(t u:Tok)(s:Shared)(Q:Value->Shared->Prop)(E:Value->Shared->Prop),C i j->Q (.int (g i j) s.toks) {s with toks:=s.toks+1}->wpAny (model X.prog X.w) X.A (f (.int i t)<|.int j u) Q E s) : Be X f<|rI C λi j=>.int<|g i j:=by intro AD s σ H x y v u Q I p Z h;obtain⟨i,j,rfl,rfl,hc,q⟩:=h;obtain⟨t,rfl⟩:=p;obtain⟨t',rfl⟩:=Z;exact z i j t t' s _ _ hc ⟨.int<|g i j,H,I.tok _,⟨_,rfl⟩,q⟩
theorem j0{g:Int->Int->Int}(z:∀(i j:Int)(t u:Tok)(s:Shared)(Q:Value->Shared->Prop)(E:Value->Shared->Prop),Q (.int (g i j) s.toks) {s with toks:=s.toks+1}->wpAny (model X.prog X.w) X.A (f (.int i t)<|.int j u) Q E s) : Be X f<|IG λi j=>.int<|g i j:=by intro AD s σ H x y v u Q I p Z h;obtain⟨i,j,rfl,rfl,q⟩:=h;obtain⟨t,rfl⟩:=p;obtain⟨t',rfl⟩:=Z;exact z i j t t' s _ _ ⟨.int<|g i j,H,I.tok _,⟨_,rfl⟩,q⟩
theorem TF{g:Int->Int->Bool}(z:∀(i j:Int)(t u:Tok)(s:Shared)(Q:Value->Shared->Prop)(E:Value->Shared->Prop),Q (.bool<|g i j) s->wpAny (model X.prog X.w) X.A (f (.int i t)<|.int j u) Q E s) : Be X f<|IG λi j=>.bl<|g i j:=by intro AD s σ H x y v u Q I p Z h;obtain⟨i,j,rfl,rfl,q⟩:=h;obtain⟨t,rfl⟩:=p;obtain⟨t',rfl⟩:=Z;exact z i j t t' s _ _ ⟨.bl<|g i j,H,I,rfl,q⟩
def Ng(i j:Int):Prop:=0<j/\j<1073741824
def Fb(i j:Int):Prop:=(-(2 ^ 64)<i/\i<2 ^ 64)\/(-(2 ^ 64)<j/\j<2 ^ 64)
theorem Fb.ok(h:Fb i j):IntMulOk i j:=by
 rcases h with⟨h1,z⟩|⟨h1,z⟩
 .exact .of_left<|intBits_le_64 h1 z
 .exact .of_right<|intBits_le_64 h1 z
theorem zZ:Be X (binaryOp .Add)<|IG λi j=>.int<|i+j:=j0 λ_ _ _ _ _ _ _ q=>add_int q
theorem zr:Be X (binaryOp .Sub)<|IG λi j=>.int<|i-j:=j0 λ_ _ _ _ _ _ _ q=>sub_int q
theorem zm:Be X (binaryOp .Mult)<|rI Fb λi j=>.int<|i*j:=Xt λ_ _ _ _ _ _ _ hc q=>mul_int q hc.ok
theorem zc:Be X (binaryOp .FloorDiv)<|rI Ng λi j=>.int<|i / j:=Xt λi j _ _ _ _ _ hc q=>by have h1:=hc.1;have h2:=hc.2;exact floordiv_int AGi (by rw[Int.fdiv_eq_ediv_of_nonneg i AGi];exact q)<|.inl<|PyProof.noPylong_small AGi
theorem zk:Be X (binaryOp .Mod)<|rI (λ_ j=>0<j) λi j=>.int<|i%j:=Xt λi j _ _ _ _ _ hc q=>by exact mod_int' U (by rw[Int.fmod_eq_emod_of_nonneg i U];exact q)
theorem unI{g:Int->Int}(z:∀(i:Int)(t:Tok)(s:Shared)(Q:Value->Shared->Prop)(E:Value->Shared->Prop),Q (.int (g i) s.toks) {s with toks:=s.toks+1}->wpAny (model X.prog X.w) X.A (f<|.int i t) Q E s) : Uw X f<|rU λi=>.int<|g i:=by intro AD s σ H x v Q I y h;obtain⟨i,rfl,q⟩:=h;obtain⟨t,rfl⟩:=y;exact z i t s _ _ ⟨.int<|g i,H,I.tok _,⟨_,rfl⟩,q⟩
theorem mj:Uw X (unaryOp .USub)<|rU λi=>.int (-i):=unI λ_ _ _ _ _ q=>neg_int q
end
section
variable{X:Cx}{a b c:Expr}{ta tb tc:TE}{pos:Pos}
theorem zi:Be X (compareOp .Lt)<|IG λi j=>.bl<|decide (i<j):=TF λ_ _ _ _ _ _ _ q=>lt_int q
theorem zh:Be X (compareOp .LtE)<|IG λi j=>.bl<|decide (i<=j):=TF λ_ _ _ _ _ _ _ q=>le_int q
theorem ze:Be X (compareOp .Gt)<|IG λi j=>.bl<|decide (j<i):=TF λ_ _ _ _ _ _ _ q=>gt_int q
theorem zd:Be X (compareOp .GtE)<|IG λi j=>.bl<|decide (j<=i):=TF λ_ _ _ _ _ _ _ q=>ge_int q
theorem Be.or(h:Be X f r)(h':Be X f z):Be X f (λx y H Q=>r x y H Q\/z x y H Q):=by
 intro AD s σ H x y v u Q I p Z q;rcases q with q|q
 .exact h AD s σ H x y v u Q I p Z q
 .exact h' AD s σ H x y v u Q I p Z q
theorem jm(b:Expr)(h:op≠.In:=by decide)(z:op≠.NotIn:=by decide):behindInMarks op b=false:=by
 have y:(op==CmpOp.In)=false:=by cases op<;>first|rfl|exact absurd rfl h
 have q:(op==CmpOp.NotIn)=false:=by cases op<;>first|rfl|exact absurd rfl z
 cases b<;>simp[behindInMarks,y,q]
theorem AAb(ho:Be X (compareOp op) r)(ha:PE X a ta)(z:PE X b tb)(hm:behindInMarks op b=false):PE X (.Compare a [op] [b] pos)<|P9 r ta tb:=by intro AD s σ H Q I h;exact wpAny_Compare1 (U8 ha z I h λv u s2 x y p Z Y O q=>ho AD s2 σ p x y v u Q Z Y O q) hm
def Yr(t:TE):TT:=λσ H Q=>t σ H λx H'=>∃k,x=.bl k/\Q k H'
theorem ABS(ho:Be X (compareOp op) r)(ha:PE X a ta)(q:PE X b tb)(hm:behindInMarks op b=false):PT X (.Compare a [op] [b] pos)<|Yr<|P9 r ta tb:=by intro AD s σ H Q I h;refine wpAny_isTrue_Compare1 (Ae (ha AD s σ H _ I h) ?_) hm;rintro v s1 ⟨x,p,Z,Y,O⟩;refine Ae (q AD s1 σ p _ Z O) ?_;rintro u s2 ⟨y,P,D,F,R⟩;refine Ae (ho AD s2 σ P x y v u _ D Y F R) ?_;rintro c s3 ⟨z,B,G,S,k,e,q3⟩;subst e;cases S;exact wpAny_truthy_bool ⟨B,G,q3⟩
def Ym(r v:R2)(ta tb tc:TE):TE:=λσ H Q=>ta σ H λx u=>tb σ u λy p=>r x y p λz q=>∃k,z=.bl k/\
 (if k=true then tc σ q λZ Y=>v y Z Y Q else Q (.bl false) q)
theorem AAZ(ho:Be X (compareOp op) r)(P:Be X (compareOp q) p)(ha:PE X a ta)(D:PE X b tb)(hc:PE X c tc) (hm:lastMarks [op,q] [b,c]=false:=by with_unfolding_all rfl):PE X (.Compare a [op,q] [b,c] pos)<|Ym r p ta tb tc:=by
 intro AD s σ H Q I h;refine Compare_chain (Ae (ha AD s σ H _ I h) ?_) hm;rintro v s1 ⟨x,F,R,B,G⟩;refine chain_link<|Ae (D AD s1 σ F _ R G) ?_;rintro u s2 ⟨y,S,T,Z,C⟩;refine Ae (ho AD s2 σ S x y v u _ T B Z C) ?_;rintro d E ⟨z,Y,O,n,k,e,q3⟩;subst e;cases n;refine wpAny_truthy_bool ?_;cases k with
 |false=>exact ite_ff ⟨.bl false,Y,O,rfl,q3⟩
 |true=>exact ite_tt<|chain_last<|Ae (hc AD E σ Y _ O q3) (by rintro t f ⟨z',H4,I4,r4,q4⟩;exact P AD f σ H4 y z' u t Q I4 Z r4 q4)
theorem ABQ(ho:Be X (compareOp op) r)(P:Be X (compareOp q) p)(ha:PE X a ta)(D:PE X b tb)(hc:PE X c tc) (hm:lastMarks [op,q] [b,c]=false:=by with_unfolding_all rfl):PT X (.Compare a [op,q] [b,c] pos)<|Yr<|Ym r p ta tb tc:=by
 intro AD s σ H Q I h;refine isTrue_chain (Ae (ha AD s σ H _ I h) ?_) hm;rintro v s1 ⟨x,F,R,B,G⟩;refine test_link<|Ae (D AD s1 σ F _ R G) ?_;rintro u s2 ⟨y,S,T,Z,C⟩;refine Ae (ho AD s2 σ S x y v u _ T B Z C) ?_;rintro d E ⟨z,Y,O,n,k,e,q3⟩;subst e;cases n;refine wpAny_truthy_bool ?_;cases k with
 |false=>
  obtain⟨k',t,f⟩:=q3;cases t;exact ite_ff ⟨Y,O,f⟩
 |true=>
  refine ite_tt<|test_last<|Ae (hc AD E σ Y _ O q3) ?_;rintro w' s4 ⟨z',H4,I4,r4,q4⟩;refine Ae (P AD s4 σ H4 y z' u w' _ I4 Z r4 q4) ?_;rintro d' s5 ⟨z2,H5,I5,r5,k2,e2,q5⟩;subst e2;cases r5;exact wpAny_truthy_bool ⟨H5,I5,q5⟩
theorem XS:(sizeLine)<2 ^ 63:=AGj
theorem vals1{us:List Value}(r:Ar [x] us):∃u,us=[u]/\RelV x u:=by
 cases r with
 |cons r1 r2=>cases r2;exact⟨_,rfl,r1⟩
theorem vals2{x y:V}(r:Ar [x,y] us):∃u z,us=[u,z]/\RelV x u/\RelV y z:=by
 cases r with
 |cons r1 r2=>
  cases r2 with
  |cons r3 r4=>cases r4;exact⟨_,_,rfl,r1,r3⟩
theorem pV:Cu X (.builtin "abs") (λxs H Q=>∃i,xs=[.int i]/\Q (.int (if i<0 then -i else i)) H):=by intro AD s σ H xs us Q I r h;obtain⟨i,rfl,q⟩:=h;obtain⟨u,rfl,t,rfl⟩:=vals1 r;exact call_abs_int λu tk=>⟨.int (if i<0 then -i else i),H,I.tok _,⟨_,rfl⟩,q⟩
theorem p7(hc:X.calm=true):Cu X (.builtin "max") (λxs H Q=>∃i j,xs=[.int i,.int j]/\Q (.int (if j>i then j else i)) H):=by
 intro AD s σ H xs us Q I r h;obtain⟨i,j,rfl,q⟩:=h;obtain⟨u,w',rfl,⟨t,rfl⟩,⟨t',rfl⟩⟩:=vals2 r;refine max_two_ints (I.ok.hd hc) λh' tk k=>⟨_,H,I.kept k,?_,q⟩;by_cases z:j>i
 .rw[AGo z,AGo z];exact⟨_,rfl⟩
 .rw[AGp z,AGp z];exact⟨_,rfl⟩
theorem p9(hc:X.calm=true):Cu X (.builtin "min") (λxs H Q=>∃i j,xs=[.int i,.int j]/\Q (.int (if j<i then j else i)) H):=by
 intro AD s σ H xs us Q I r h;obtain⟨i,j,rfl,q⟩:=h;obtain⟨u,w',rfl,⟨t,rfl⟩,⟨t',rfl⟩⟩:=vals2 r;refine min_two_ints (I.ok.hd hc) λh' tk k=>⟨_,H,I.kept k,?_,q⟩;by_cases z:j<i
 .rw[AGo z,AGo z];exact⟨_,rfl⟩
 .rw[AGp z,AGp z];exact⟨_,rfl⟩
set_option tactic.hygienic true
theorem pY:Cu X (.type "int") (λxs H Q=>(∃i,xs=[.int i]/\Q (.int i) H)\/∃k,xs=[.bl k]/\Q (.int (if k then 1 else 0)) H):=by
 intro AD s σ H xs us Q I r h;rcases h with⟨i,rfl,q⟩|⟨k,rfl,q⟩
 .obtain⟨u,rfl,t,rfl⟩:=vals1 r;exact call_int_int ⟨.int i,H,I,⟨_,rfl⟩,q⟩
 .obtain⟨u,rfl,z⟩:=vals1 r;cases z;exact call_int_bool ⟨.int (if k then 1 else 0),H,I.tok _,⟨_,rfl⟩,q⟩
end
set_option tactic.hygienic true
structure Uq(h:Heap)(x dx C:Addr)(mA:Str->Option Value):Prop where
 obj:h.get? x=some (PySem.W.instObj C dx)
 ns:h.Ns1 dx mA
 ne:dx≠x
theorem yH{h:Heap}(n:h.Ns1 dx mA):∃od,h.get? dx=some od/\∀v,PySem.W.lookIn v od=some (mA v):=by
 obtain⟨o,es,ep,ho,hd,u,_,hm⟩:=n;refine⟨o,ho,λv=>?_⟩;have e:=hm v;unfold nsFind findBy at e;rw[<-Array.find?_toList]at e;unfold PySem.W.lookIn;rw[hd];dsimp only;split
 .rename_i y q;rw[q]at e;exact AHa some e
 .rename_i q;rw[q]at e;have a:es.toList.any (·.refKey)=false:=by rw[AIP];intro y p;obtain⟨z,t,Z⟩:=u y<|Array.mem_toList_iff.mp p;simp[DictEntry.refKey,Z]
  have Y:¬ es.toList.any (·.refKey)=true:=by rw[a];exact AIF
  rw[AGp Y];exact AHa some e
set_option tactic.hygienic false
theorem Uq.look(I:Uq h x dx C mA):∃od,PySem.W.InstAt h x (PySem.W.instObj C dx) C (some od)/\∀z,PySem.W.lookIn z od=some (mA z):=
 let ⟨od,ho,hl⟩:=yH I.ns
 ⟨od,⟨I.obj,rfl,rfl,ho⟩,hl⟩
section
variable{prog:Program}{w:World}{A:Around}{E:Value->Shared->Prop}{s:Shared}{K:PySem.W.Frag}{x dx C f:Addr}{mA:Str->Option Value}{name:Str}{v:Value}
end
theorem Gj.some_of{o:Option Value}(r:Gj (some v) o):∃u,o=some u/\RelV v u:=by
 cases o with
 |none=>exact(show False from r).elim
 |some u=>exact⟨u,rfl,r⟩
section
variable{P:Program}{w:World}{H H':Hp}{h h':Heap}{a C dx:Addr}{fs uH:List (Str×V)}
theorem w6(AX:Bp P w H h)(e:H a=some (.ins C dx fs)):∃mA,Uq h a dx C mA/\(∀f,Gj (fs.lookup f)<|mA f)/\PySem.Within mA (fs.map (·.1))/\fs.length<=1000/\H dx=some (.own a):=by obtain⟨d,z,ne,y,mA,n,r,q⟩:=(show Bw P w H h a (.ins C dx fs)from AX a _ e);exact⟨mA,⟨y,n,ne⟩,r,q,z,d⟩
end
structure UC(K:PySem.W.Frag)(C:Addr):Prop where
 pg:PySem.W.plainGet K C Str.empty=true
 hd:PySem.W.hasDictIn K C=true
 po:PySem.W.plainOver K C=true
 sa:PySem.W.findIn K (.ref C) "__setattr__" = some (some<|.builtin "object.__setattr__")
theorem UC.get{K:PySem.W.Frag}(c:UC K C)(f:Str):PySem.W.plainGet K C f=true:=c.pg
structure Con(K:PySem.W.Frag)(C:Addr)(f:Str)(v:V)(u:Value):Prop where
 at_:PySem.W.findIn K (.ref C) f=some (some u)
 rel:RelV v u
 get:PySem.W.specialIn K u "__get__" = some none
 cp:PySem.W.copiedNames.contains f=false
structure Meth(K:PySem.W.Frag)(C:Addr)(m:Str)(f:Addr):Prop where
 at_:PySem.W.findIn K (.ref C) m=some (some<|.ref f)
 fn:PySem.W.isFn K (.ref f)=true
 kp:PySem.W.keepIn K (.ref f)=true
section
variable{X:Cx}{AD:List (Addr×Obj)}{σ:St}{H:Hp}{s:Shared}{a C dx:Addr}{fs:List (Str×V)}{f:Str}{v:V}{A:Around}{E:Value->Shared->Prop}
end
section
variable{X:Cx}{o e value:Expr}{f:Str}{pos pos' Lu:Pos}{ta tv:TE}
end
section
variable{X:Cx}{AD:List (Addr×Obj)}{σ:St}{H:Hp}{s:Shared}{A:Around}{E:Value->Shared->Prop}{Q:Value->Shared->Prop}{c:Value}{b:Bool}
inductive Fd(K:PySem.W.Frag)(H:Hp):V->Value->Prop where
 |As:Fd K H .As<|.type "NoneType"
 |bl (x:Bool):Fd K H (.bl x)<|.type "bool"
 |int (i:Int):Fd K H (.int i)<|.type "int"
 |str (x:Str):Fd K H (.str x)<|.type "str"
 |MP (x:UInt64):Fd K H (.MP x)<|.type "float"
 |lst {a:Addr} {xs:List V} (e:H a=some (.lst xs)):Fd K H (.ref a)<|.type "list"
 |Ec {a:Addr} {o:Obj} {xs:List V} (e:H a=some (.Ec o<|.lst xs)):Fd K H (.ref a)<|.type "list"
 |tup {a:Addr} {xs:List V} (e:H a=some (.tup xs)):Fd K H (.ref a)<|.type "tuple"
 |dK {a:Addr} {AK:List (Key×V)} (e:H a=some (.dK AK)):Fd K H (.ref a)<|.type "dict"
 |dT {a:Addr} {AK:List (List Key×V)} (e:H a=some (.dT AK)):Fd K H (.ref a)<|.type "dict"
 |ins {a C dx:Addr} {fs:List (Str×V)} (e:H a=some (.ins C dx fs)) (cl:UC K C) (ha:PySem.W.findIn K (.ref C) "__class__" = some (some<|.builtin "object.__class__")) (hn:PySem.W.specialIn K (.builtin "object.__class__") "__get__" = some (some<|.builtin "getset_descriptor.__get__")) (Mc:PySem.W.takesIn K (.builtin "object.__class__")=some true) (hm:PySem.W.mroIn K C (.type "object")=some true):Fd K H (.ref a)<|.ref C
theorem xE(I:Inv X AD σ H s)(v:RelV x u)(ty:Fd X.K H x t)(e:PySem.W.kitOne X.K t c=some b)(h:∀tk,Q (.bool b) {s with toks:=tk}) : wpAny (model X.prog X.w) A (call (.builtin "isinstance") [u,c]) Q E s:=by
 cases ty with
 |As=>cases (show u=Value.none from v);exact AIE PySem.W.kitx_none I.BZ True.intro e (λz=>nomatch z) h
 |bl y=>cases (show u=Value.bool y from v);exact AIE PySem.W.kitx_bool I.BZ True.intro e (λz=>nomatch z) h
 |int i=>obtain⟨t,q⟩:=(show ∃t,u=Value.int i t from v);cases q;exact AIE PySem.W.kitx_int I.BZ True.intro e (λz=>nomatch z) h
 |str y=>obtain⟨t,q⟩:=(show ∃t,u=Value.str y t from v);cases q;exact AIE PySem.W.kitx_str I.BZ True.intro e (λz=>nomatch z) h
 |MP y=>obtain⟨t,q⟩:=(show ∃t,u=Value.float y t from v);cases q;exact AIE PySem.W.kitx_float I.BZ True.intro e (λz=>nomatch z) h
 |@lst a xs ea=>
  cases (show u=Value.ref a from v);obtain⟨_,_,n,_,h1⟩:=(show Bw X.prog X.w H s.heap a (.lst xs)from I.AX a _ ea);exact AIE PySem.W.kitx_list I.BZ ⟨_,h1,rfl⟩ e (λz=>nomatch z) h
 |@Ec a ob xs ea=>
  cases (show u=Value.ref a from v);obtain⟨_,_,_,n,_,h1⟩:=(show Bw X.prog X.w H s.heap a (.Ec ob<|.lst xs)from I.AX a _ ea);exact AIE PySem.W.kitx_list I.BZ ⟨_,h1,rfl⟩ e (λz=>nomatch z) h
 |@tup a xs ea=>
  cases (show u=Value.ref a from v);obtain⟨_,_,_,p⟩:=(show Bw X.prog X.w H s.heap a (.tup xs)from I.AX a _ ea);obtain⟨o,h1,Z,_⟩:=p;exact AIE PySem.W.kitx_tuple I.BZ ⟨o,h1,Z⟩ e (λz=>nomatch z) h
 |@dK a AK ea=>
  cases (show u=Value.ref a from v);obtain⟨_,_,vs,_,p⟩:=(show Bw X.prog X.w H s.heap a (.dK AK)from I.AX a _ ea);obtain⟨o,es,Y,h1,Z,_⟩:=p;exact AIE PySem.W.kitx_dict I.BZ ⟨o,h1,Z.1⟩ e (λz=>nomatch z) h
 |@dT a AK ea=>
  cases (show u=Value.ref a from v);obtain⟨_,_,xs,_,o,es,Y,h1,Z,_⟩:=(show Bw X.prog X.w H s.heap a (.dT AK)from I.AX a _ ea);exact AIE PySem.W.kitx_dict I.BZ ⟨o,h1,Z.1⟩ e (λz=>nomatch z) h
 |@ins a C dx fs ea cl ha hn Mc hm=>
  cases (show u=Value.ref a from v);obtain⟨mA,O,_⟩:=w6 I.AX ea;obtain⟨od,J,_⟩:=O.look;exact AIE (PySem.W.kitx_own (cl.get _) cl.hd ha hn Mc hm) I.BZ J e (λz=>nomatch z) h
end
structure B2(k:Nat)(A:Around):Prop where
 hd:A.handled=none
 dp:A.depth+3*k+5<recursionLimit
 un:A.units+16*k+200<cLine
theorem B2.mono(r:B2 k A)(h:j<=k):B2 j A:=⟨r.hd,by have:=r.dp;lia,by have:=r.un;omega⟩
theorem B2.deeper{k:Nat}{A:Around}(r:B2 (k+1) A)(env:Env):B2 k<|A.deeper env:=
 ⟨r.hd,by have:=r.dp;show A.depth+1+3*k+5<_;lia,by have:=r.un;show A.units+3+16*k+200<_;omega⟩
theorem B2.depth(r:B2 k A):A.depth<recursionLimit:=by have:=r.dp;lia
theorem B2.units(r:B2 k A):A.units+64<cLine:=by have:=r.un;lia
def AEc:TA:=λ_ H Q=>Q [] H
def AEO(z:TE)(tr:TA):TA:=λσ H Q=>z σ H λx y=>tr σ y λxs q=>Q (x::xs) q
section
variable{X:Cx}{e:Expr}{es:List Expr}{te:TE}{t:TA}{pos:Pos}
theorem F4:PA X [] AEc:=λ_ _ _ _ H Q I h=>Calls.spliced_nil ⟨[],H,I,.nil,h⟩
theorem Ei(ha:PE X e te)(z:PA X es t)(hs:starEach (e::es) X.env=(false,eval e X.env)::starEach es X.env:=by rfl):PA X (e::es)<|AEO te t:=by intro pos AD s σ H Q I h;rw[hs];show wpAny _ _ (spliced ((false,eval e X.env)::backTo pos (starEach es X.env))) _ _ s;refine Calls.spliced_cons<|Ae (ha AD s σ H _ I h) ?_;rintro u s1 ⟨x,y,q,v,p⟩;exact Ae (z pos AD s1 σ y _ q p) (by rintro us s2 ⟨xs,Z,Y,O,P⟩;exact⟨x::xs,Z,Y,.cons v O,P⟩)
def AEp(t:TA):TE:=λσ H Q=>t σ H λxs z=>xs.length<=sizeLine/\∀p,z p=none->Q (.ref p) (upd z p<|.tup xs)
def AEX(t:TA):TE:=λσ H Q=>t σ H λxs z=>xs.length<=sizeLine/\∀p,z p=none->Q (.ref p) (upd z p<|.lst xs)
theorem X4(h:PA X es t):PE X (.Tuple es x1 pos)<|AEp t:=by intro AD s σ H Q I v;refine wpAny_Tuple_spliced (Ae (h pos AD s σ H _ I v) λus s1 ⟨xs,p,y,r,z,q⟩=>⟨by rw[<-r.length];exact z,?_⟩);have Z:=y.AX.fresh<|AGy _;refine⟨.ref s1.heap.objs.size,upd p s1.heap.objs.size<|.tup xs,y.laid (λb u e=>Heap.get?_push_of_some _ e) (AGy _) ?_,rfl,q _ Z⟩;exact⟨z,us,r,⟨_,Heap.get?_push_size _ rfl,rfl,_,rfl⟩⟩
theorem AAh(h:PA X es t):PE X (.List es pos)<|AEX t:=by intro AD s σ H Q I v;refine wpAny_List_spliced (Ae (h pos AD s σ H _ I v) λus s1 ⟨xs,p,y,r,z,q⟩=>⟨by rw[<-r.length];exact z,?_⟩);have Z:=y.AX.fresh<|AGy _;refine⟨.ref s1.heap.objs.size,upd p s1.heap.objs.size<|.lst xs,y.laid (λb u e=>Heap.get?_push_of_some _ e) (AGy _) ?_,rfl,q _ Z⟩;exact⟨z,us,0,r,Heap.get?_push_size _ rfl⟩
end
abbrev Sp:=List V->Hp->VK->XK->Prop
abbrev E7:=List Env->Hp->Shared->XK->Value->Shared->Prop
structure Ko(P:Program)(w:World)(K:PySem.W.Frag)(mg:Str->Option Value)(base:Heap)(A:Around)(outer:List Env)(s:Shared)(H:Hp):Prop where
 frames:A.frames=some outer
 mod:Mod K mg base
 bs:∀b o,base.get? b=some o->s.heap.get? b=some o/\H b=none
 Fe:base.objs.size<=s.heap.objs.size
 EB:s.heap.FunFrames base outer
 Gv:∀b∈C1 outer,H b=none
 AX:Bp P w H s.heap
 bare:AllBare s.gens
def CE(outer:List Env)(P:Program)(w:World)(H:Hp)(s:Shared)(Q:VK)(u:Value)(s':Shared):Prop:=
 ∃v H',s'.os=s.os/\AllBare s'.gens/\Un (C1 outer) [] H H' s.heap s'.heap/\Bp P w H' s'.heap/\RelV v u/\Q v H'
def CR(CX:E7)(outer:List Env)(P:Program)(w:World)(H:Hp)(s:Shared)(Q:VK)(E:XK)(r:Result)(s':Shared):Prop:=
 match r with
 |.ok (.ret u)=>CE outer P w H s Q u s'
 |.ok _=>False
 |.error e=>CX outer H s E e s'
structure Cv(P:Program)(w:World)(K:PySem.W.Frag)(mg:Str->Option Value)(base:Heap)(CX:E7)(k:Nat)(f:Addr)(fd:FuncData)(ps:List Str)(sp:Sp):Prop where
 len:∀vs H Q E,sp vs H Q E->vs.length=ps.length
 run:∀(A:Around)(outer:List Env)(s:Shared)(H:Hp)(args:Args)(us:List Value)(vs:List V)(Q:VK)(E:XK),B2 k A->Ko P w K mg base A outer s H->BindsTo s fd args (ps.zip us)->Ar vs us->sp vs H Q E->codeAny (model P w) A (.call (.ref f) args) (CR CX outer P w H s Q E) s
theorem Cv.mono{K:PySem.W.Frag}(F:Cv P w K mg base CX j f fd ps sp)(h:j<=k) : Cv P w K mg base CX k f fd ps sp:=⟨F.len,λA outer s H args us vs Q E z=>F.run A outer s H args us vs Q E<|z.mono h⟩
theorem Cv.imp{K:PySem.W.Frag}(F:Cv P w K mg base CX k f fd ps sp) (h:∀vs H Q E,z vs H Q E->sp vs H Q E):Cv P w K mg base CX k f fd ps z:=
 ⟨λvs H Q E q=>F.len vs H Q E<|h _ _ _ _ q,λA outer s H args us vs Q E y he v u hs=>F.run A outer s H args us vs Q E y he v u<|h _ _ _ _ hs⟩
section
variable{X:Cx}{AD:List (Addr×Obj)}{σ:St}{H:Hp}{s s':Shared}
theorem Inv.Vr(I:Inv X AD σ H s):Ko X.prog X.w X.K X.mg X.base X.A X.stack s H:=
 ⟨I.ok.frames,I.ok.mod,I.bs,AHd I.ok.Fe I.sz,I.stack,I.Yb,I.AX,I.bare⟩
theorem Inv.after(I:Inv X AD σ H s)(h:CE X.stack X.prog X.w H s Q u s'):EP X AD σ Q u s':=by obtain⟨v,H',os,bare,un,AX,r,q⟩:=h;obtain⟨hh,g,d,t,y⟩:=s';obtain rfl:y=s.os:=os;exact⟨v,H',I.call un AX bare λb z=>absurd z AGh,r,q⟩
end
def AEM(sp:Sp)(z:List V)(E:XK)(t:TA):TE:=λσ H Q=>t σ H λvs y=>sp (vs++z) y Q E
def Binds(K:PySem.W.Frag)(fd:FuncData)(ps:List Str)(z:List Value):Prop:=
 ∀(s:Shared)(us:List Value),K.In s.heap->(us++z).length=ps.length->BindsTo s fd ⟨us,[]⟩ (ps.zip<|us++z)
theorem Binds.all{K:PySem.W.Frag}(h:∀us:List Value,us.length=ps.length->bindArgs fd ⟨us,[]⟩=pure (ps.zip us)):Binds K fd ps []:=λs us _ z=>by rw[AH8]at z ⊢;exact .of_eq<|h us z
def Passes(CX:E7)(X:Cx)(E:XK):Prop:=∀(AD:List<|Addr×Obj)(σ:St)(H:Hp)(s:Shared)(e:Value)(s':Shared),Inv X AD σ H s->CX X.stack H s E e s'->X.xe e s'
section
variable{X:Cx}{CX:E7}{k:Nat}{f C:Addr}{fd:FuncData}{ps:List Str}{sp:Sp}{LA:List V}{ds:List Value}{E:XK}{x m:Str}{p pos apos:Pos}{e o:Expr}{es:List Expr}{ta:TE}{t:TA}
theorem ADl{σ:St}(F:Cv X.prog X.w X.K X.mg X.base CX k f fd ps sp)(q:B2 k X.A)(v:Binds X.K fd ps ds)(hd:Ar LA ds)(Z:Passes CX X E) (I:Inv X AD σ H s) (r:Ar vs us) (h:sp (vs++LA) H Q E):wpAny (model X.prog X.w) X.A (call (.ref f) us) (EP X AD σ Q) X.xe s:=by
 have y:=r.append hd;have Y:(us++ds).length=ps.length:=by rw[<-y.length];exact F.len _ _ _ _ h
 refine wpAny_call<|codeAny_mono (F.run X.A X.stack s H ⟨us,[]⟩ (us++ds) (vs++LA) Q E q I.Vr (v s us I.BZ Y) y h) λr s' z=>?_;cases r with
 |error e=>exact Z AD σ H s e s' I z
 |ok fl=>
  cases fl with
  |ret u=>exact I.after z
  |next=>exact False.elim z
  |brk=>exact False.elim z
  |cont=>exact False.elim z
theorem kH(F:Cv X.prog X.w X.K X.mg X.base CX k f fd ps sp)(y:B2 k X.A)(v:Gl X x)(hm:X.mg x=some (.ref f))(u:PySem.W.keepIn X.K (.ref f)=true)(Z:Binds X.K fd ps ds)(hd:Ar LA ds)(Y:Passes CX X E) (ha:PA X (e::es) t) (O:(x==("__debug__"))=false:=by decide) (he:starEach (e::es) X.env=(false,eval e X.env)::starEach es X.env:=by rfl) (P:(backTo pos<|starEach es X.env).any (·.1)=false:=by rfl) : PE X (.Call (.Name x p) (e::es) [] pos)<|AEM sp LA E t:=by intro AD s σ H Q I h;refine wpAny_Call_Name_kw<|Mt I v hm ?_ O;refine PySem.W.callWith_K I.ok.mod.Ms u (Ae (ha pos AD s σ H _ I h) ?_) he P;rintro us s1 ⟨vs,H1,z,r,q⟩;refine⟨z.BZ,?_⟩;exact ADl F y Z hd Y z r q
structure Mk(K:PySem.W.Frag)(C f:Addr):Prop where
 makes:PySem.W.makesIn K C=true
 init:PySem.W.findIn K (.ref C) "__init__" = some (some<|.ref f)
 fn:PySem.W.isFn K (.ref f)=true
 kp:PySem.W.keepIn K (.ref C)=true
end
section
variable{X:Cx}{CX:E7}{k:Nat}{f C:Addr}{fd:FuncData}{ps ks:List Str}{sp:Sp}{E:XK}{x m:Str}{p pos apos AGQ:Pos}{e o:Expr}{es:List Expr}{kws:List Keyword}{te ta:TE}{t tk:TA}{nm:Option Str}
structure AFp(K:PySem.W.Frag)(fd:FuncData)(ps ks:List Str)(g:List Value->List Value->List Value)(gV:List V->List V->List V):Prop where
 to:∀(s:Shared)(us ws:List Value),K.In s.heap->(g us ws).length=ps.length->BindsTo s fd ⟨us,ks.zip ws⟩ (ps.zip<|g us ws)
 rel:∀{vs:List V}{us:List Value}{zs:List V}{ws:List Value},Ar vs us->Ar zs ws->Ar (gV vs zs) (g us ws)
variable{g:List Value->List Value->List Value}{gV:List V->List V->List V}
end
structure IU(N P:List Str)(sc:Scope):Prop where
 kind:sc.kind=.function
 co:sc.isCoroutine=false
 gen:sc.isGenerator=false
 nd:N.Nodup
 pre:N.take P.length=P
 par:∀x∈P,sc.names.lookup x=some .local\/sc.names.lookup x=some .cell
 zA:∀y∈sc.names,y.2≠.free
theorem Zi{kindOf:Str->Option NameKind}:∀{binds:List (Str×Value)}{m:Str->Option Value},(∀v,(x,v)∉binds)->bindL kindOf binds m x=m x
 |[],_,_=>rfl
 |(n,v)::r,m,h=>by
  unfold bindL;rw[Zi λw z=>h w<|AGr _ z];split
  .have:x≠n:=by rintro rfl;exact h v AGw
   simp[this]
  .rfl
theorem Zg{kindOf:Str->Option NameKind}:∀{binds:List (Str×Value)}{m:Str->Option Value},(∀v,(x,v)∉binds)->bindC kindOf binds m x=m x
 |[],_,_=>rfl
 |(n,v)::r,m,h=>by
  unfold bindC;rw[Zg λw z=>h w<|AGr _ z];split
  .rfl
  .have:x≠n:=by rintro rfl;exact h v AGw
   simp[this]
theorem Zh{kindOf:Str->Option NameKind}:∀{P:List Str}{vs:List Value}{i:Nat}{m:Str->Option Value},P.Nodup->P[i]? = some x->vs[i]? = some v->kindOf x=some .local->bindL kindOf (P.zip vs) m x=some v
 |[],_,_,_,_,h,_,_=>by simp at h
 |_::_,[],_,_,_,_,h,_=>by simp at h
 |p::P,w::vs,0,m,nd,h1,h2,hk=>by simp at h1 h2;subst h1;subst h2;show bindL kindOf ((p,w)::P.zip vs) m p=_;unfold bindL;rw[Zi λv z=>(AIQ.mp nd).1 (AJx z).1,AGo hk];simp
 |p::P,w::vs,i+1,m,nd,h1,h2,hk=>by show bindL kindOf ((p,w)::P.zip vs) m x=_;exact Zh (AIQ.mp nd).2 (by simpa using h1) (by simpa using h2) hk
theorem Zf{kindOf:Str->Option NameKind}:∀{P:List Str}{vs:List Value}{i:Nat}{m:Str->Option Value},P.Nodup->P[i]? = some x->vs[i]? = some v->kindOf x≠some .local->bindC kindOf (P.zip vs) m x=some v
 |[],_,_,_,_,h,_,_=>by simp at h
 |_::_,[],_,_,_,_,h,_=>by simp at h
 |p::P,w::vs,0,m,nd,h1,h2,hk=>by simp at h1 h2;subst h1;subst h2;show bindC kindOf ((p,w)::P.zip vs) m p=_;unfold bindC;rw[Zg λv z=>(AIQ.mp nd).1 (AJx z).1,AGp hk];simp
 |p::P,w::vs,i+1,m,nd,h1,h2,hk=>by show bindC kindOf ((p,w)::P.zip vs) m x=_;exact Zf (AIQ.mp nd).2 (by simpa using h1) (by simpa using h2) hk
noncomputable def start(N:List Str)(vs:List V):St:=vs.map some++List.replicate (N.length-vs.length) none
noncomputable def Gn(CX:E7)(P:Program)(w:World)(K:PySem.W.Frag)(mg:Str->Option Value)(base:Heap)(N:List Str)(qual:Str)(scope:Scope)(f:Addr)(z:Value)(A:Around)(outer:List Env)(s:Shared)(H:Hp)(E:XK):Cx where
 prog:=P
 w:=w
 K:=K
 mg:=mg
 base:=base
 A:=A.deeper<|envOfC qual scope s.heap.objs.size f z
 N:=N
 CB:=s
 AR:=H
 env:=envOfC qual scope s.heap.objs.size f z
 outer:=outer
 stack:=envOfC qual scope s.heap.objs.size f z::outer
 ex:=[]
 calm:=true
 fn:=λ_=>true
 pn:=[]
 xe:=λe s'=>wpAny (model P w) (A.deeper<|envOfC qual scope s.heap.objs.size f z) (leaving (envOfC qual scope s.heap.objs.size f z) e) (λ_ y=>CX outer H s E e y) (λq y=>CX outer H s E q y) s'
theorem Qo{sc:Scope}(h:sc.names.lookup x=some .cell):∃c,(cellsFrom n sc.names []).lookup x=some c:=by have q:=AJo sc.names n []<|.inl h;exact Option.isSome_iff_exists.mp q
theorem iH{K:PySem.W.Frag}(S:IU N ps scope) (hd:A.handled=none) (Y:Ko P w K mg base A outer s H) (hl:vs.length=ps.length) (r:Ar vs us) (x:InCallC s s.heap.objs.size (bindL (envOfC qual scope s.heap.objs.size f O).kindOf (ps.zip us) λ_=>none) (cellsFrom (s.heap.objs.size+1) scope.names []) (bindC (envOfC qual scope s.heap.objs.size f O).kindOf (ps.zip us) λ_=>none) s1) :
 Inv (Gn CX P w K mg base N qual scope f O A outer s H E) [] (start N vs) H s1:=by
 have A9:ps.length<=N.length:=by have:=AHa List.length S.pre;rw[AIX]at this;lia
 obtain⟨h1,tk,rfl,F⟩:=x.done;have D:∀b:Addr,b∉(Gn CX P w K mg base N qual scope f O A outer s H E).ex:=λb z=>absurd (show b∈([])from z) AGh;refine⟨⟨Y.mod,S.kind,rfl,rfl,AGy _,λy z c h1 Z=>?_,λy Q=>?_,λy c _ h=>?_,λ_=>hd,Around.frames_deeper Y.frames,.inr ⟨rfl,rfl⟩,λb z=>absurd z (D b),Y.bs,Y.Fe,λb _ _=>D b,λb z=>absurd z (D b),Y.EB,Y.Gv⟩,
  rfl,Y.bare,Un.kept F,⟨_,x.toInCall.ns,λi y v h1 Z h3=>?_⟩,λy c h=>⟨_,x.cell y c h⟩,Y.AX.fresh<|AGy _,λy c h=>?_,λp hp=>absurd (show p∈([])from hp) AGh,Y.AX.kept F,?_⟩
 .exact name_of_addr x.apart (AHt h1)<|AHt Z
 .rcases Q with Q|Q
  .exact Qo Q
  .exact absurd rfl (S.zA _<|AHt Q)
 .exact AIc<|x.above y c<|AHt h
 .have hi:i<vs.length:=by
   unfold start at Z;by_cases hi:i<vs.length
   .exact hi
   .rw[AHV<|by simpa using hi]at Z;rw[AIH]at Z;split at Z<;>nomatch Z
  have ha:vs[i]? = some v:=by
   unfold start at Z;rw[AHR (by simpa using hi),AHi]at Z;cases e:vs[i]? with
   |none=>rw[e]at Z;contradiction
   |some a=>rw[e]at Z;cases Z;rfl
  obtain⟨u,R,rv⟩:=r.get ha;have hp:ps[i]? = some y:=by rw[<-S.pre,AKL U];exact h1
  have B:ps.Nodup:=by rw[<-S.pre];exact S.nd.sublist<|AKD _ _
  refine⟨u,rv,?_⟩;rcases S.par y (AHx hp)with k|k
  .exact .inl ⟨k,Zh B hp R k⟩
  .obtain⟨c,e⟩:=Qo k;refine .inr ⟨.inl k,c,e,?_⟩;have q:=x.cell y c e;rw[Zf B hp R (by show scope.names.lookup y≠_;rw[k];decide)]at q;exact q
 .exact Y.AX.fresh<|AIc<|x.above y c<|AHt h
 .unfold start;show _=N.length;simp only[AHC,AGm,AIY];lia
theorem fX{K:PySem.W.Frag}{mg:Str->Option Value}{base:Heap}{k:Nat}{f:Addr}{p qual:Str}{z:Arguments}{body:List Stmt}{scope:Scope}{F kV doc pm A3 ct oc:Value}{an od:Option Addr} {HL:Array (Option Value)} {N ps:List Str} {sp:Sp} (G:K.lookup f=some ⟨oc,od,.func<|PySem.W.fnOf p qual z body scope F kV doc pm an A3 ct,HL⟩) (T:PySem.W.codeIn K A3 qual=true) (S:IU N ps scope) (len:∀vs H Q E,sp vs H Q E->vs.length=ps.length) (C:∀(A:Around)(outer:List Env)(s:Shared)(H:Hp)(vs:List V)(Q:VK)(E:XK),B2 k (A.deeper<|envOfC qual scope s.heap.objs.size f A3)->sp vs H Q E->
  ∃t,Cw (Gn CX P w K mg base N qual scope f A3 A outer s H E) body t/\t {nx:=λ_ H'=>Q .As H',rt:=Q} (start N vs) H) :
 Cv P w K mg base CX (k+1) f (PySem.W.fnOf p qual z body scope F kV doc pm an A3 ct) ps sp:=by
 refine⟨len,λA outer s H args us vs Q E O Z a r R=>?_⟩;have h:=len _ _ _ _ R;have B:=Z.mod.Ms.keeps λb o e=>(Z.bs b o e).1;have D:=Z.mod.nolimit.keeps λb o e=>(Z.bs b o e).1;have Wd:∀y∈ps.zip us,scope.names.lookup y.1=some .local\/(scope.names.lookup y.1=some .cell/\((cellsFrom (s.heap.objs.size+1) scope.names []).lookup y.1).isSome=true):=(by
  rintro⟨n,v⟩ hy;rcases S.par n (AJx hy).1 with q|q
  .exact .inl q
  .exact .inr ⟨q,AJo _ _ _<|.inl q⟩)
 refine codeAny_call_function O.depth (B _ _ G) rfl S.co S.gen rfl (PySem.W.codeRec_of B T)<|a _ _ _ _ ?_;refine wpAny_newFunctionEnv_cells S.kind Wd λenv he s1 x=>?_;subst he;refine⟨D.keeps x.toInCall.keep,codeAny_func ?_⟩;obtain⟨t,ht,hq⟩:=C A outer s H vs Q E (O.deeper _) R;have I:Inv (Gn CX P w K mg base N qual scope f A3 A outer s H E) [] (start N vs) H s1:=iH S O.hd Z h r x;refine wpAny_mono (ht [] s1 (start N vs) H _ I hq) (λfl s' hs=>?_) λe s' hs=>hs;have fin:∀{Y:St}{H':Hp}{v:V}{u:Value},Inv (Gn CX P w K mg base N qual scope f A3 A outer s H E) [] Y H' s'->RelV v u->Q v H'->CE outer P w H s Q u s':=
  λ{Y H' v u} J rv q=>⟨v,H',J.os,J.bare,J.base,J.AX,rv,q⟩
 cases fl with
 |ret u=>
  obtain⟨v,Y,H',J,rv,q⟩:=hs;exact fin J rv q
 |next=>
  obtain⟨Y,H',J,q⟩:=hs;exact fin (v:=V.As) J rfl q
 |brk=>
  obtain⟨_,_,_,q⟩:=hs;exact False.elim q
 |cont=>
  obtain⟨_,_,_,q⟩:=hs;exact False.elim q
section
variable{X:Cx}{x:Str}{p pos:Pos}{e:Expr}{es:List Expr}{t:TA}{id T:String}{r:List V->Hp->VK->Prop}
def Yl(r:List V->Hp->VK->Prop)(t:TA):TE:=λσ H Q=>t σ H λvs z=>r vs z Q
theorem NI(hc:Cu X (.builtin id) r)(z:Gl X x)(hm:X.mg x=none)(y:bootBuiltins x=some (.builtin id))(ha:PA X (e::es) t)(hn:x≠"__name__":=by decide)(q:(x==("__debug__"))=false:=by decide) (he:starEach (e::es) X.env=(false,eval e X.env)::starEach es X.env:=by rfl) (v:(backTo pos<|starEach es X.env).any (·.1)=false:=by rfl):PE X (.Call (.Name x p) (e::es) [] pos)<|Yl r t:=by intro AD s σ H Q I h;refine wpAny_Call_Name_kw<|PN I z hm y ?_ hn q;exact PyProof.Rows.callWith_builtin1 (Ae (ha pos AD s σ H _ I h) (by rintro us s1 ⟨vs,u,Z,Y,O⟩;exact hc AD s1 σ u vs us Q Z Y O)) he v
theorem kJ(hc:Cu X (.type T) r)(z:Gl X x)(hm:X.mg x=none)(y:bootBuiltins x=some (.type T))(ha:PA X (e::es) t)(hn:x≠"__name__":=by decide)(q:(x==("__debug__"))=false:=by decide) (he:starEach (e::es) X.env=(false,eval e X.env)::starEach es X.env:=by rfl) (v:(backTo pos<|starEach es X.env).any (·.1)=false:=by rfl):PE X (.Call (.Name x p) (e::es) [] pos)<|Yl r t:=by intro AD s σ H Q I h;refine wpAny_Call_Name_kw<|PN I z hm y ?_ hn q;exact AJJ (Ae (ha pos AD s σ H _ I h) (by rintro us s1 ⟨vs,u,Z,Y,O⟩;exact hc AD s1 σ u vs us Q Z Y O)) he v
end
end L2
namespace HT
open PySem PyProof.Rows
section
open PySem.SeqAt
open PySem.AutoSeq1 (wpAny_loadPart')
open PySem.MeetsSeq PySem.MeetsSeq2 PySem.MeetsSeq3
end
section
variable{prog:Program}{w:World}{A:Around}{E:Value->Shared->Prop}{s:Shared}
noncomputable def DQ(n d:Nat):Option Int->Nat
 |none=>d
 |some v=>if v<0 then(v+(n:Int)).toNat else min v.toNat n
theorem lJ(n d:Nat):DQ n d none=d:=rfl
theorem lI(n d k:Nat):DQ n d (some<|k)=min k n:=by show(if(k:Int)<0 then((k:Int)+(n)).toNat else min (k:Int).toNat n)=min k n;rw[AGp U,AKE]
end
end HT
set_option tactic.hygienic false
namespace L2
open PySem PySem.Spec PyProof.Rows
abbrev TO:=St->Hp->(Option Int->Hp->Prop)->Prop
def PO(X:Cx)(e:Option Expr)(t:TO):Prop:=
 ∀(AD:List<|Addr×Obj)(s:Shared)(σ:St)(H:Hp)(Q:Option Int->Hp->Prop),Inv X AD σ H s->t σ H Q->wpAny (model X.prog X.w) X.A (evalPart e X.env) (λu s'=>∃o H',Inv X AD σ H' s'/\IsPart u o/\Q o H') X.xe s
def AEd:TO:=λ_ H Q=>Q none H
def AEi(t:TE):TO:=λσ H Q=>t σ H λx z=>∃i,x=.int i/\Q (some i) z
theorem intsAre_of:∀{us:List Value},Ar (ns.map V.int) us->IntsAre us ns:=by
 induction ns with
 |nil=>intro us r;cases r;exact .nil
 |cons n ns ih=>
  intro us r;cases r with
  |cons r1 r2=>
   obtain⟨t,e⟩:=r1;subst e;exact .cons n t<|ih r2
section
variable{X:Cx}{e:Expr}{te:TE}{lo hi:Option Expr}{tl th:TO}{pos p2:Pos}
theorem AA9:PO X none AEd:=by intro AD s σ H Q I h;exact wpAny_pure ⟨none,H,I,.none,h⟩
theorem ABA(h:PE X e te):PO X (some e)<|AEi te:=by intro AD s σ H Q I z;refine Ae (h AD s σ H _ I z) ?_;rintro u s1 ⟨x,y,v,p,Z⟩;obtain⟨i,rfl,q⟩:=Z;obtain⟨t,rfl⟩:=p;exact⟨some i,y,v,.int i t,q⟩
def ZW(X:Cx)(r:V->Option Int->Option Int->Hp->VK->Prop):Prop:=
 ∀(AD:List<|Addr×Obj)(s:Shared)(σ:St)(H:Hp)(x:V)(v z y:Value)(lo hi:Option Int)(sl:Addr)(Q:VK),Inv X AD σ H s->RelV x v->s.heap.IsSliceOf sl z y .none->IsPart z lo->IsPart y hi->r x lo hi H Q->∃T id,typeLookup (.type T) "__getitem__" = pure (some<|.builtin id)/\s.TypeIs v T/\wpAny (model X.prog X.w) X.A (getItem v<|.ref sl) (EP X AD σ Q) X.xe s
def tSl(r:V->Option Int->Option Int->Hp->VK->Prop)(te:TE)(tl th:TO):TE:=λσ H Q=>te σ H λx z=>tl σ z λl y=>th σ y λu q=>r x l u q Q
theorem AAo(Y:ZW X r)(he:PE X e te)(O:PO X lo tl)(P:PO X hi th):PE X (.Subscript e (.Slice lo hi none p2) pos)<|tSl r te tl th:=by intro AD s σ H Q I h;refine Subscript_<|Ae (he AD s σ H _ I h) ?_;rintro v s1 ⟨x,D,F,R,B⟩;refine wpAny_Slice<|Ae (O AD s1 σ D _ F B) ?_;rintro y s2 ⟨l,G,S,C,E⟩;refine Ae (P AD s2 σ G _ S E) ?_;rintro p z ⟨u,Z,n,t,q3⟩;refine wpAny_pure ?_;have f:Inv X AD σ Z {z with heap:=z.heap.push {cls:=.type "slice",data:=.fields #[y,p,.none]}}:=n.kept λb ob q=>Heap.get?_push_of_some _ q;obtain⟨T,id,a,ht,hg⟩:=Y AD {z with heap:=z.heap.push {cls:=.type "slice",data:=.fields #[y,p,.none]}} σ Z x v y p l u z.heap.objs.size Q f R (Heap.IsSliceOf.new ..) C t q3;exact tail_any ht a hg<|by with_unfolding_all rfl
def Qu(xs:List V)(lo hi:Option Int):List V:=(xs.drop<|HT.DQ xs.length 0 lo).take<|HT.DQ xs.length xs.length hi-HT.DQ xs.length 0 lo
theorem qo(xs:List V)(lo hi:Option Int):(Qu xs lo hi).length<=xs.length:=by unfold Qu;rw[AIX,AJK];omega
end
noncomputable def GN(n:Nat)(i:Int):Option Nat:=if 0<=i then(if i<n then some i.toNat else none)else if -(n:Int)<=i then some (i+n).toNat else none
def CD{α:Type}(xs:List α)(i:Int):Option α:=(GN xs.length i).bind λj=>xs[j]?
theorem xJ(h:GN n i=some j):seqIndex? i n=some j/\j<n/\-(n)<=i/\i<n:=by
 unfold GN at h;by_cases h0:0<=i
 .rw[AGo h0]at h;by_cases h1:i<n
  .rw[AGo h1]at h;have e:=AHP h;exact⟨by rw[seqIndex_of h0 h1,e],AGi,AGi,h1⟩
  .rw[AGp h1]at h;contradiction
 .rw[AGp h0]at h;by_cases h1 : -(n)<=i
  .rw[AGo h1]at h;have e:=AHP h;exact⟨by rw[seqIndex_neg AGi h1,e],AGi,h1,AGi⟩
  .rw[AGp h1]at h;contradiction
theorem Za(h:CD xs i=some v):∃j,seqIndex? i xs.length=some j/\xs[j]? = some v/\j<xs.length/\-(xs.length)<=i/\i<xs.length:=by
 unfold CD at h;cases e:GN xs.length i with
 |none=>rw[e]at h;contradiction
 |some j=>
  rw[e]at h;obtain⟨h1,z,h3,y⟩:=xJ e;exact⟨j,h1,h,z,h3,y⟩
def ZU(b:Expr):Prop:=∀o i,subscripted b false o i=operate [o,i] (getItem o i)
def Jf(X:Cx)(r:R2):Prop:=
 ∀(q z:Expr)(AD:List<|Addr×Obj)(s:Shared)(σ:St)(H:Hp)(x y:V)(v u:Value)(Q:VK),Inv X AD σ H s->RelV x v->RelV y u->r x y H Q->subscripted z false v u=operate [v,u] (getItem v u)->wpAny (model X.prog X.w) X.A (subscriptTail q z v u) (EP X AD σ Q) X.xe s
def ZS(X:Cx)(id:String)(r:V->List V->Hp->VK->Prop):Prop:=
 ∀(AD:List<|Addr×Obj)(s:Shared)(σ:St)(H:Hp)(x:V)(xs:List V)(v:Value)(us:List Value)(Q:VK),Inv X AD σ H s->RelV x v->Ar xs us->r x xs H Q->wpAny (model X.prog X.w) X.A (call (.builtin id) (v::us)) (EP X AD σ Q) X.xe s
section
variable{X:Cx}{a b:Expr}{ta tb:TE}{pos:Pos}
theorem Jf.or(h:Jf X r)(h':Jf X Z):Jf X (λx y H Q=>r x y H Q\/Z x y H Q):=by
 intro z p AD s σ H x y v u Q I Y O q hs;rcases q with q|q
 .exact h z p AD s σ H x y v u Q I Y O q hs
 .exact h' z p AD s σ H x y v u Q I Y O q hs
theorem AAg(z:Jf X r)(ha:PE X a ta)(p:PE X b tb)(hs:ZU b):PE X (.Subscript a b pos)<|P9 r ta tb:=by intro AD s σ H Q I h;exact Subscript_<|U8 ha p I h λv u s2 x y Z Y O P q=>z a b AD s2 σ Z x y v u Q Y O P q<|hs _ _
def km(K:PySem.W.Frag):R2:=λx y H Q=>∃p xs i v,x=.ref p/\y=.int i/\CO K H p xs/\CD xs i=some v/\Q v H
def kr(K:PySem.W.Frag):R2:=λx y H Q=>∃p xs i v,x=.ref p/\y=.int i/\Ba K H p xs/\CD xs i=some v/\Q v H
theorem xM:Jf X<|km X.K:=by
 intro value slice AD s σ H x y v u Q I P D h hs;obtain⟨p,xs,i,z,rfl,rfl,F,he,q⟩:=h;cases P;obtain⟨t,rfl⟩:=D;obtain⟨its,r,Z,hz⟩:=I.list F;obtain⟨j,h1,R,h3,B,G⟩:=Za he;obtain⟨w,O,S⟩:=r.get R;have T:=r.length;have hn:=XS;have fin:EP X AD σ Q w s:=⟨z,H,I,S,q⟩;by_cases h0:0<=i
 .have Y:=by rw[seqIndex_of h0 G]at h1;exact AHP h1
  exact item_listR Z.isList h0 U (by rw[Y];simpa using O) fin hs
 .have Y:(i+(its.toArray.size)).toNat=j:=by rw[seqIndex_neg AGi B]at h1;rw[AG2,<-T];exact AHP h1
  exact subscriptTail_builtinR Z.isList.typeIs slot_list_getitem.lookup (wpAny_getItem_list_neg Z.isList AGi (by rw[AG2]<;>lia) U (by rw[Y];simpa using O) ⟨rfl,fin⟩) hs
theorem xN:Jf X<|kr X.K:=by intro value slice AD s σ H x y v u Q I Y O h hs;obtain⟨p,xs,i,z,rfl,rfl,P,he,q⟩:=h;cases Y;obtain⟨t,rfl⟩:=O;obtain⟨its,r,Z,hz⟩:=I.tuple P;obtain⟨j,h1,D,h3,h4,h5⟩:=Za he;obtain⟨w,F,R⟩:=r.get D;have B:=r.length;have hn:=XS;have fin:EP X AD σ Q w s:=⟨z,H,I,R,q⟩;exact subscriptTail_builtinR Z.typeIs slot_tuple_getitem.lookup (getItem_tuple Z AGi AGi (by rw[AG2,<-B];exact h1) (by simpa using F) ⟨rfl,fin⟩) hs
theorem AD6(lo hi:Option Int)(n:Nat):(sliceBounds lo hi none n).1=((HT.DQ n 0 lo))/\(sliceBounds lo hi none n).2.1=((HT.DQ n n hi))/\(sliceBounds lo hi none n).2.2=1:=by
 refine⟨?_,?_,rfl⟩
 .cases lo with
  |none=>simp[sliceBounds,HT.DQ]
  |some i=>
   simp only[sliceBounds,HT.DQ,Option.getD_none,show(1:Int)>0 by decide,AIN];by_cases h:i<0
   .simp only[h,AIN]<;>omega
   .simp only[h,if_false]<;>omega
 .cases hi with
  |none=>simp[sliceBounds,HT.DQ]
  |some i=>
   simp only[sliceBounds,HT.DQ,Option.getD_none,show(1:Int)>0 by decide,AIN];by_cases h:i<0
   .simp only[h,AIN]<;>omega
   .simp only[h,if_false]<;>omega
theorem AD5(its:List Value)(lo hi:Option Int):slicePick its.toArray lo hi none=((its.drop<|HT.DQ its.length 0 lo).take<|HT.DQ its.length its.length hi-HT.DQ its.length 0 lo).toArray:=by obtain⟨h1,z,h3⟩:=AD6 lo hi its.toArray.size;unfold slicePick;simp only[h1,z,h3];simp only[sliceRange_one,pick_run]<;>rfl
def ADR(K:PySem.W.Frag):V->Option Int->Option Int->Hp->VK->Prop:=λx lo hi H Q=>∃a xs,x=.ref a/\CO K H a xs/\∀p,H p=none->Q (.ref p) (upd H p<|.lst<|Qu xs lo hi)
theorem AD3:ZW X<|ADR X.K:=by intro AD s σ H x v vl vu lo hi sl Q I y hs u p h;obtain⟨a,xs,rfl,Z,q⟩:=h;cases y;obtain⟨its,r,z,Y⟩:=I.list Z;have O:=r.length;refine⟨"list",_,slot_list_getitem.lookup,z.isList.typeIs,?_⟩;refine wpAny_getItem_list_slice z.isList hs u p .none AGh ?_ (by rw[AG2]<;>lia);rw[AD5,<-O];refine⟨.ref s.heap.objs.size,_,I.laid (λb ob q=>Heap.get?_push_of_some _ q) (AGy _) ?_,rfl,q _<|I.AX.fresh<|AGy _⟩;exact⟨AHd (qo xs lo hi) Y,_,0,(r.drop<|HT.DQ xs.length 0 lo).take<|HT.DQ xs.length xs.length hi-HT.DQ xs.length 0 lo,Heap.get?_push_size _ rfl⟩
noncomputable def J0:V->Bool
 |.As=>true
 |.bl _=>true
 |.int _=>true
 |.str _=>true
 |_=>false
noncomputable def Jw:V->V->Bool
 |.As,.As=>true
 |.bl a,.bl b=>a==b
 |.bl a,.int b=>(if a then 1 else 0)==b
 |.int a,.bl b=>a==(if b then 1 else 0)
 |.int a,.int b=>a==b
 |.str a,.str b=>a==b
 |_,_=>false
theorem sk(q:RelV y u)(z:RelV x v)(p:J0 y=true)(fx:J0 x=true):SeqAt.EqAt A s u v<|Jw y x:=by
 cases y with
 |As=>
  cases q;cases x with
  |As=>cases z;exact SeqAt.EqAt.same _
  |bl b=>cases z;exact SeqAt.EqAt.none_bool b
  |int b=>obtain⟨t,rfl⟩:=z;exact SeqAt.EqAt.none_int b t
  |str b=>obtain⟨t,rfl⟩:=z;exact SeqAt.EqAt.none_str b t
  |_=>exact absurd (show false=true from fx) AIF
 |bl a=>
  cases q;cases x with
  |As=>cases z;exact SeqAt.EqAt.bool_none a
  |bl b=>cases z;exact SeqAt.EqAt.bool_bool a b
  |int b=>obtain⟨t,rfl⟩:=z;exact SeqAt.EqAt.bool_int a b t
  |str b=>obtain⟨t,rfl⟩:=z;exact SeqAt.EqAt.bool_str a b t
  |_=>exact absurd (show false=true from fx) AIF
 |int a=>
  obtain⟨t',rfl⟩:=q;cases x with
  |As=>cases z;exact SeqAt.EqAt.int_none a t'
  |bl b=>cases z;exact SeqAt.EqAt.int_bool a t' b
  |int b=>obtain⟨t,rfl⟩:=z;exact SeqAt.EqAt.int_int a t' b t
  |str b=>obtain⟨t,rfl⟩:=z;exact SeqAt.EqAt.int_str a t' b t
  |_=>exact absurd (show false=true from fx) AIF
 |str a=>
  obtain⟨t',rfl⟩:=q;cases x with
  |As=>cases z;exact SeqAt.EqAt.str_none a t'
  |bl b=>cases z;exact SeqAt.EqAt.str_bool a t' b
  |int b=>obtain⟨t,rfl⟩:=z;exact SeqAt.EqAt.str_int a t' b t
  |str b=>obtain⟨t,rfl⟩:=z;exact SeqAt.EqAt.str_str a t' b t
  |_=>exact absurd (show false=true from fx) AIF
 |_=>exact absurd (show false=true from p) AIF
def Eu(x:V)(u:Value):Bool:=match u with
 |.none=>Jw .As x
 |.bool b=>Jw (.bl b) x
 |.int i _=>Jw (.int i) x
 |.str z _=>Jw (.str z) x
 |_=>false
theorem eE(r:RelV y u)(f:J0 y=true):Eu x u=Jw y x:=by
 cases y with
 |As=>cases r;rfl
 |bl b=>cases r;rfl
 |int i=>obtain⟨t,rfl⟩:=r;rfl
 |str z=>obtain⟨t,rfl⟩:=r;rfl
 |_=>exact absurd (show false=true from f) AIF
theorem Qh:∀{xs:List V}{us:List Value},Ar xs us->xs.all J0=true->us.any (Eu x)=xs.any λy=>Jw y x:=by
 intro xs us h
 induction h with
 |nil=>intro f;rfl
 |cons r t ih=>
  intro f;rw[List.all_cons,AGx]at f;rw[AHj,AHj,eE r f.1,ih f.2]
theorem Sv(y:RelV x v)(fx:J0 x=true):∀{xs:List V}{us:List Value},Ar xs us->xs.all J0=true->∀u∈us,SeqAt.EqAt A s u v<|Eu x u:=by
 intro xs us h
 induction h with
 |nil=>intro f u z;cases z
 |cons r t ih=>
  intro f q z;rw[List.all_cons,AGx]at f;cases z with
  |head=>rw[eE r f.1];exact sk r y f.1 fx
  |tail _ z=>exact ih f.2 q z
def SG(x:V)(xs:List V):Bool:=xs.any λy=>Jw y x
def YC(K:PySem.W.Frag)(neg:Bool):R2:=λx y H Q=>∃p xs,y=.ref p/\(CO K H p xs\/Ba K H p xs)/\J0 x=true/\xs.all J0=true/\Q (.bl (if neg then !SG x xs else SG x xs)) H
theorem zg:Be X (compareOp .In)<|YC X.K false:=by
 intro AD s σ H x y v u Q I O P h;obtain⟨p,xs,rfl,z,fx,fs,q⟩:=h;cases P;rcases z with z|z
 .obtain⟨its,r,Z,D⟩:=I.list z;refine SeqAt.in_listAt (Eu x) Z.isList (λw Y=>Sv O fx r fs w<|by simpa using Y) ⟨.bl _,H,I,rfl,?_⟩;rw[show its.toArray.any (Eu x)=its.any (Eu x)by simp,Qh r fs];exact q
 .obtain⟨its,r,Z,D⟩:=I.tuple z;refine SeqAt.in_tupleAt (Eu x) Z (λw Y=>Sv O fx r fs w<|by simpa using Y) ⟨.bl _,H,I,rfl,?_⟩;rw[show its.toArray.any (Eu x)=its.any (Eu x)by simp,Qh r fs];exact q
theorem zq:Be X (compareOp .NotIn)<|YC X.K true:=by
 intro AD s σ H x y v u Q I O P h;obtain⟨p,xs,rfl,z,fx,fs,q⟩:=h;cases P;rcases z with z|z
 .obtain⟨its,r,Z,D⟩:=I.list z;refine SeqAt.notIn_listAt (Eu x) Z.isList (λw Y=>Sv O fx r fs w<|by simpa using Y) ⟨.bl _,H,I,rfl,?_⟩;rw[show its.toArray.any (Eu x)=its.any (Eu x)by simp,Qh r fs];exact q
 .obtain⟨its,r,Z,D⟩:=I.tuple z;refine SeqAt.notIn_tupleAt (Eu x) Z (λw Y=>Sv O fx r fs w<|by simpa using Y) ⟨.bl _,H,I,rfl,?_⟩;rw[show its.toArray.any (Eu x)=its.any (Eu x)by simp,Qh r fs];exact q
theorem pq:Cu X (.builtin "len") (λxs H Q=>∃p ys,xs=[.ref p]/\(CO X.K H p ys\/Ba X.K H p ys)/\Q (.int ys.length) H):=by
 intro AD s σ H xs us Q I r h;obtain⟨p,ys,rfl,z,q⟩:=h;obtain⟨u,rfl,Y⟩:=vals1 r;cases Y;have hn:=XS;rcases z with z|z
 .obtain⟨its,y,v,O⟩:=I.list z;have Z:=y.length;exact Calls.call_len_list v.isList (by simp only[AG2]<;>omega) ⟨.int ys.length,H,I.tok _,⟨s.toks+1,by rw[AG2,Z]⟩,q⟩
 .obtain⟨its,y,v,O⟩:=I.tuple z;have Z:=y.length;exact len_tuple v (by simp only[AG2]<;>omega) ⟨.int ys.length,H,I.tok _,⟨s.toks+1,by rw[AG2,Z]⟩,q⟩
theorem pz:Cu X (.type "list") (λxs H Q=>∃p ys,xs=[.ref p]/\(CO X.K H p ys\/Ba X.K H p ys)/\∀l,H l=none->Q (.ref l) (upd H l<|.lst ys)):=by
 intro AD s σ H xs us Q I r h;obtain⟨p,ys,rfl,v,q⟩:=h;obtain⟨u,rfl,O⟩:=vals1 r;cases O;have fin:∀(its:List Value),Ar ys its->ys.length<=sizeLine->∀(h':Heap)(z:Nat),(∀b o',s.heap.get? b=some o'->h'.get? b=some o')->h'.get? s.heap.objs.size=some {cls:=.type "list",dict:=none,data:=.seq its.toArray z,slots:=#[]}->EP X AD σ Q (.ref s.heap.objs.size) {s with heap:=h'}:=λits y Z h' z kp e=>
  ⟨.ref s.heap.objs.size,_,I.laid kp (AGy _) (show Bw X.prog X.w _ h' _ (.lst ys)from⟨Z,its,z,y,e⟩),rfl,q _<|I.AX.fresh<|AGy _⟩
 rcases v with v|v
 .obtain⟨its,y,Y,Z⟩:=I.list v;have P:=y.length;obtain⟨o,ho,hc,n,hd⟩:=Y.isList;exact call_list_seq p (.inl rfl) ho hc hd (λh' z kp e=>fin its y Z h' z kp e) (by simp only[AG2]<;>omega)
 .obtain⟨its,y,Y,Z⟩:=I.tuple v;have P:=y.length;obtain⟨o,ho,hc,n,hd⟩:=Y;exact call_list_seq p (.inr rfl) ho hc hd (λh' z kp e=>fin its y Z h' z kp e) (by simp only[AG2]<;>omega)
def Yx(K:PySem.W.Frag)(T:String)(x:V)(H:Hp):Prop:=match x with
 |.str _=>T = "str"
 |.int _=>T = "int"
 |.ref p=>(T = "list"/\∃xs,CO K H p xs)\/(T = "tuple"/\∃o,K.lookup p=some o/\o.cls=.type "tuple"/\o.dict=none)\/
  (T = "dict"/\((∃AK,H p=some (.dK AK))\/∃AK,H p=some (.dT AK)))\/(T = "set"/\∃S n,H p=some (.set S n))
 |_=>False
theorem me{σ:St}(I:Inv X AD σ H s)(r:RelV x v)(ty:Yx X.K T x H) : s.TypeIs v T/\∀a,v=.ref a->∃u,s.heap.get? a=some u/\u.dict=none:=by
 cases x with
 |str z=>
  obtain⟨t,rfl⟩:=r;cases (show T = "str" from ty);exact⟨typeIs_str s z t,λ_ e=>nomatch e⟩
 |int i=>
  obtain⟨t,rfl⟩:=r;cases (show T = "int" from ty);exact⟨typeIs_int s i t,λ_ e=>nomatch e⟩
 |ref p=>
  cases r;rcases ty with⟨rfl,xs,Y⟩|⟨rfl,o,y,hc,hd⟩|⟨rfl,y⟩|⟨rfl,S,n,y⟩
  .obtain⟨its,_,Z,_⟩:=I.list Y;refine⟨Z.isList.typeIs,λa e=>?_⟩;cases e;obtain⟨o,n,e,c,hd,_⟩:=Z;exact⟨o,e,hd⟩
  .refine⟨⟨o,I.BZ p o y,hc⟩,λa e=>?_⟩;cases e;exact⟨o,I.BZ _ o y,hd⟩
  .have z:∃o,s.heap.get? p=some o/\o.ExactDict:=by
    rcases y with⟨AK,y⟩|⟨AK,y⟩
    .obtain⟨_,_,_,_,o,_,_,e,ex,_⟩:=I.AX p _ y;exact⟨o,e,ex⟩
    .obtain⟨_,_,_,_,o,_,_,e,ex,_⟩:=I.AX p _ y;exact⟨o,e,ex⟩
   obtain⟨o,e,ex⟩:=z;refine⟨⟨o,e,ex.1⟩,λa q=>?_⟩;cases q;exact⟨o,e,ex.2.1⟩
  .obtain⟨o,_,_,_,e,ex,_⟩:=I.AX p _ y;refine⟨⟨o,e,ex.1⟩,λa q=>?_⟩;cases q;exact⟨o,e,ex.2.1⟩
 |_=>exact False.elim ty
def mH(K:PySem.W.Frag)(T:String)(r:V->List V->Hp->VK->Prop)(to:TE):TE:=λσ H Q=>to σ H λx z=>Yx K T x z/\r x [] z Q
def mG(K:PySem.W.Frag)(T:String)(r:V->List V->Hp->VK->Prop)(to:TE)(t:TA):TE:=λσ H Q=>to σ H λx z=>Yx K T x z/\t σ z λxs y=>r x xs y Q
variable{o e:Expr}{es:List Expr}{to:TE}{t:TA}{name:Str}{apos Ak:Pos}{T id:String}{r:V->List V->Hp->VK->Prop}
theorem kG(q:PlainAttrs T)(slot:Slot T name id)(u:typeOf (.builtin id)=pure (.type "method_descriptor"))(hm:ZS X id r)(ho:PE X o to) (p:attributeBase o name X.env (eval o X.env)=eval o X.env:=by rfl) (Z:(apos.endLine==Ak.line)=true:=by rfl):PE X (.Call (.Attribute o name apos) [] [] Ak)<|mH X.K T r to:=by intro AD s σ H Q I h;refine wpAny_Call_method0_late p Z<|Ae (ho AD s σ H _ I h) ?_;rintro v s1 ⟨x,Y,z,y,ty,O⟩;obtain⟨h1,P⟩:=me z y ty;exact⟨T,id,q,slot,u,h1,P,Calls.callWith_builtin rfl<|PySem.evalArgs_none<|hm AD s1 σ Y x [] v [] Q z y .nil O⟩
theorem NH(u:PlainAttrs T)(slot:Slot T name id)(p:typeOf (.builtin id)=pure (.type "method_descriptor"))(hm:ZS X id r)(ho:PE X o to)(ha:PA X (e::es) t) (Z:attributeBase o name X.env (eval o X.env)=eval o X.env:=by rfl) (Y:((backTo Ak<|starEach (e::es) X.env).all (λx=>!x.1)&&(backToKw Ak<|keywordEach [] X.env).all (λx=>x.1.isSome)
  && decide ((e::es).length+([]:List Keyword).length+(if([]:List Keyword).isEmpty then 0 else 1)<30))=true:=by rfl)
 (O:(apos.endLine==Ak.line)=true:=by rfl) (hs:starEach (e::es) X.env=(false,eval e X.env)::starEach es X.env:=by rfl) (P:(backTo Ak<|starEach es X.env).any (·.1)=false:=by rfl) :
 PE X (.Call (.Attribute o name apos) (e::es) [] Ak) (mG X.K T r to t):=by
 intro AD s σ H Q I h;refine wpAny_Call_method_late Z Y O rfl<|Ae (ho AD s σ H _ I h) ?_;rintro v s1 ⟨x,D,z,y,ty,F⟩;obtain⟨h1,R⟩:=me z y ty;refine⟨T,id,u,slot,p,h1,R,?_⟩;have q:=ha Ak AD s1 σ D _ z F;rw[hs]at q ⊢;refine Calls.callWith_builtin (by show(false||(backTo Ak<|starEach es X.env).any (·.1))=false;rw[P]<;>rfl)<|Calls.evalArgs_plain ?_;exact Ae q (by rintro us s2 ⟨vs,B,G,S,C⟩;exact hm AD s2 σ B x vs v us Q G y S C)
end
def Jg(X:Cx)(id:String)(r:V->List V->Hp->VK->Prop):Prop:=
 ∀(AD:List<|Addr×Obj)(s:Shared)(σ:St)(H:Hp)(x:V)(xs:List V)(v:Value)(us:List Value)(Q:VK),Inv X AD σ H s->RelV x v->Ar xs us->r x xs H Q->wpAny (model X.prog X.w) X.A (call (.builtin id) (v::us)) (EP X AD σ Q) X.xe s
theorem Ar.one:∀{x:V}{us:List Value},Ar [x] us->∃u,us=[u]/\RelV x u:=by rintro x us (_|⟨r,⟨⟩⟩);exact⟨_,rfl,r⟩
theorem Ar.zero:∀{us:List Value},Ar [] us->us=[]
 |_,.nil=>rfl
theorem Ar.dropLast(h:Ar xs us):Ar xs.dropLast us.dropLast:=by
 induction h with
 |nil=>exact .nil
 |cons r t ih=>
  cases t with
  |nil=>exact .nil
  |cons q t'=>exact .cons r ih
theorem Ar.reverse(h:Ar xs us):Ar xs.reverse us.reverse:=by
 induction h with
 |nil=>exact .nil
 |cons r t ih=>simp only[AJl,AJl];exact Ar.append ih<|.cons r .nil
theorem sy{α:Type}(l:List α):l.eraseIdx (l.length-1)=l.dropLast:=by
 induction l with
 |nil=>rfl
 |cons a r ih=>
  cases r with
  |nil=>rfl
  |cons b r=>
   have e:(a::b::r).length-1=((b::r).length-1)+1:=by
    have h1:(a::b::r).length=r.length+2:=rfl;have h2:(b::r).length=r.length+1:=rfl
    assumption
   simp only[e,List.eraseIdx_cons_succ,ih]
   all_goals rfl
section
variable{X:Cx}{AD:List (Addr×Obj)}{σ:St}{H:Hp}{s:Shared}{l b:Addr}{xs ys zs:List V}
theorem Inv.So{its its':List Value}(I:Inv X AD σ H s)(z:H l=some (.lst xs)) (e:s.heap.get? l=some {cls:=.type "list",data:=.seq its.toArray n}) (y:f its.toArray=its'.toArray) (v:Ar ys its') (p:ys.length<=sizeLine) : Inv X AD σ (upd H l<|.lst ys) {s with heap:=s.heap.update l<|Obj.mapSeq f,toks:=t'}:=by have q:=PySem.IsL.update e f;rw[y]at q;refine I.write (by rw[z];exact trivial) (.inl rfl) (λb' u Z Y=>(Heap.get?_update_other s.heap (Obj.mapSeq f) (AHh Z)).trans Y) ⟨_,q⟩ ?_;exact⟨p,its',_,v,q⟩
theorem Inv.yF(I:Inv X AD σ H s)(z:Ar ys its)(y:ys.length<=sizeLine) : Inv X AD σ (upd H s.heap.objs.size<|.lst ys) {s with heap:=s.heap.push {cls:=.type "list",data:=.seq its.toArray},toks:=t'}:=
 I.laid (λ_ _ q=>Heap.get?_push_of_some _ q) (AGy _) ⟨y,its,0,z,Heap.get?_push_size _ rfl⟩
theorem Inv.fresh(I:Inv X AD σ H s):H s.heap.objs.size=none:=I.AX.fresh<|AGy _
theorem Inv.Sr(I:Inv X AD σ H s)(y:H l=some (.lst xs)):xs.length<=sizeLine/\∃(its:List Value)(n:Nat),Ar xs its/\xs.length=its.length/\s.heap.get? l=some {cls:=.type "list",data:=.seq its.toArray n}:=by obtain⟨z,its,n,r,e⟩:=I.AX l _ y;exact⟨z,its,n,r,r.length,e⟩
theorem zC(h:n<=sizeLine):Builtin.List.listTooLong n=false:=by unfold Builtin.List.listTooLong;exact AHK U
end
section
variable{X:Cx}
def kh:V->List V->Hp->VK->Prop:=λx vs H Q=>∃l xs y,x=.ref l/\vs=[y]/\H l=some (.lst xs)/\xs.length<sizeLine/\Q .As (upd H l<|.lst<|xs ++ [y])
theorem ja:Jg X "list.append" kh:=by
 intro AD s σ H x vs v us Q I Z rv h;obtain⟨l,xs,y,rfl,rfl,p,hz,q⟩:=h;cases Z;obtain⟨u,rfl,Y⟩:=rv.one;obtain⟨z,its,n,r,hl,e⟩:=I.Sr p;refine call_meets F.slot_list_append ⟨_,e,rfl⟩ F.entry_list_append (F.args_list_append_2 _ _) (PySem.list_append l its.toArray n u (by rw[AG2];lia)) ⟨e,?_⟩;refine⟨.As,_,I.So p e AGh (r.append<|.cons Y .nil) ?_,rfl,q⟩;simp only[AHC,AIZ]
 assumption
def ADQ:V->List V->Hp->VK->Prop:=λx vs H Q=>∃l xs y,x=.ref l/\vs=[]/\H l=some (.lst xs)/\xs[xs.length-1]? = some y/\Q y (upd H l<|.lst xs.dropLast)
theorem yu:Jg X "list.pop" ADQ:=by
 intro AD s σ H x vs v us Q I Z rv h;obtain⟨l,xs,y,rfl,rfl,p,Y,q⟩:=h;cases Z;have O:=rv.zero;subst O;obtain⟨z,its,n,r,P,e⟩:=I.Sr p;obtain⟨u,D,R⟩:=r.get Y;have B:=by show its.toArray[its.length-1]? = some u;rw[<-AIC,<-P];exact D
 refine call_meets F.slot_list_pop ⟨_,e,rfl⟩ F.entry_list_pop (F.args_list_pop_1 _) (MeetsSeq.list_pop_last l its.toArray n u B (by rw[AG2];lia)) ⟨e,?_⟩;refine⟨y,_,I.So p e ?_ r.dropLast ?_,R,q⟩
 .rw[AG2,List.eraseIdxIfInBounds_toArray,sy]
 .rw[List.length_dropLast];omega
set_option tactic.hygienic true
def kj:V->List V->Hp->VK->Prop:=λx vs H Q=>∃l xs,x=.ref l/\vs=[]/\H l=some (.lst xs)/\Q .As (upd H l<|.lst [])
theorem yj:Jg X "list.clear" kj:=by intro AD s σ H x vs v us Q I u rv h;obtain⟨l,xs,rfl,rfl,y,q⟩:=h;cases u;have p:=rv.zero;subst p;obtain⟨z,its,n,r,hl,e⟩:=I.Sr y;refine call_meets F.slot_list_clear ⟨_,e,rfl⟩ F.entry_list_clear (F.args_list_clear_1 _) (AutoSeq1.list_clear_list_0 l its.toArray n (by rw[AG2];lia)) ⟨e,?_⟩;exact⟨.As,_,I.So (its':=[]) (ys:=[]) y e rfl .nil<|AIO _,rfl,q⟩
end
section
variable{prog:Program}{w:World}{A:Around}{E:Value->Shared->Prop}{s:Shared}
end
section
variable{X:Cx}
end
end L2
namespace ZA
open PySem PySem.W PySem.Calls PyProof.Rows
theorem xA:∀(ns:List Int)(vs:List Value),WellAll P h vs (ns.map WData.int)->IntsAre vs ns:=by
 intro ns
 induction ns with
 |nil=>
  intro vs w;cases w;exact .nil
 |cons n ns ih=>
  intro vs w;cases w with
  |cons a b=>
   cases a;exact .cons _ _<|ih _ b
theorem ADu{l:OpenLaw}(hn:l.most=some n) (u:l.row.toRowW.claim.pre args=true) (p:WellAll P h z args) : ∃a vs ns,z=[Value.ref a]/\args=[WData.list<|ns.map WData.int]/\h.get? a=some {cls:=.type "list",data:=.seq vs.toArray}/\IntsAre vs ns/\ns.length<=n:=by
 have BQ:WShape.hasAll [] args [.list .int]=true:=(pre_splitW u).1;have hc:l.pre.holds [] {args:=args}=true:=(pre_splitW u).2;obtain⟨d,r,rfl,h1,Z⟩:=hasAllW_cons BQ;obtain rfl:=hasAllW_nil Z;obtain⟨xs,rfl,h3⟩:=hasW_list h1;obtain⟨ns,rfl⟩:=items_int h3;have Y:ns.length<=n:=by
  have y:=by have y:=(holds_andW hc).1;rw[hn]at y;exact y
  have v:=condW_of y<|w_not<|w_lt w_lit<|w_len_list<|w_arg rfl;rw[AGm]at v;refine Nat.le_of_not_lt λq=>?_;have Q:(n:Int)<((ns.length)):=AGi
  first
   |(rw[AHM Q]at v;exact absurd v AGj)
   |(simp at v)
 cases p with
 |cons w1 w2=>
  cases w2;cases w1 with
  |list ho Bk=>exact⟨_,_,ns,rfl,rfl,ho,xA ns _ Bk,Y⟩
theorem ABC(l:OpenLaw)(args:List WData):l.row.toRowW.claim.post args (.bool true) args=true:=
 postW_of (show WShape.has [] (.bool true) .bool=true by first|rfl|decide|simp[WShape.has]) (show(WTm.eq .res<|.lit<|.bool true).value [] {args:=args,res:=some<|.bool true,after:=args}=some (.bool<|true==true)from w_eq_bool (w_res rfl) w_lit) rfl
theorem o7{l:OpenLaw}(hn:l.most=some n) (P:d.params.defaults=[]) (call:∀(w:World)(CB y:Shared)(mg mb:Str->Option Value)(fa:Addr)(o:Obj)(pm u doc:Value)(a:Addr)(vs:List Value)(ns:List Int),
  Ground q z [] Z w CB mg mb y.heap->Q w y.heap->
  y.heap.get? fa=some o->o.data=.func (docDef d.name d.params d.body d.scope pm u doc)->y.heap.CodeRec u d.name->mg d.name=some (.ref fa)->
  y.heap.get? a=some {cls:=.type "list",data:=.seq vs.toArray}->IntsAre vs ns->ns.length<=n->y.gens=#[]->
  codeAny (model l.prog w) callerA (.call (.ref fa) ⟨[.ref a],[]⟩) (λr s'=>r=.ok (.ret<|.bool true)/\OldK y.heap s'.heap/\s'.os=y.os/\AllBare s'.gens) y) :
 WalkO q z Z Q l.row.toRowW d [] (λf vs=>PySem.call f vs):=by
 intro w CB y mg mb G Y fa o pm u doc D kV ho hd F O p R args vals as B AGL hrd S Wg;obtain rfl:D=.none:=Dflts.none O P;obtain rfl:kV=.none:=Dflts.noKw O;obtain⟨a,vs,ns,rfl,rfl,T,v,C⟩:=ADu hn B S;refine enter_call<|codeAny_mono (call w CB y mg mb fa o pm u doc a vs ns G Y ho (fd_plain hd) F p T v C R) λr s' E=>?_;obtain⟨rfl,H,h3,I⟩:=E;exact⟨.inl ⟨.bool true,.bool true,[],rfl,λ_=>rfl,.bool true,ABC l _,λ_=>⟨List.Pairwise.nil,λ_ hm=>(nomatch hm)⟩⟩,H,h3,I⟩
section
variable{prog:Program}{w:World}{A:Around}{E:Value->Shared->Prop}{s:Shared}{K:Frag}
end
end ZA
namespace L2
open PySem PySem.Spec PyProof.Rows
theorem AFP:∀{vs:List Value}{ns:List Int},IntsAre vs ns->Ar (ns.map V.int) vs:=by
 intro vs ns h
 induction h with
 |nil=>exact .nil
 |cons n t h ih=>exact .cons ⟨t,rfl⟩ ih
def Ur(H:Hp):Prop:=∀b,H b=none\/∃o xs,H b=some (.Ec o<|.lst xs)
theorem xy{K:PySem.W.Frag}(B:K.In y.heap) (G:y.heap.Ns mainGlobals mg) (p:y.heap.Ns builtinsNs mb) (f:∀x:Str,x≠"__name__"->mb x=bootBuiltins x) (vb:y.heap.NoLimit) (hg:y.gens=#[]) (ha:y.heap.get? a=some {cls:=.type "list",data:=.seq vs.toArray}) (hi:IntsAre vs ns) (S:ns.length<=sizeLine) (hr:B2 k callerA) (F:∀base:Heap,K.In base->base.Ns mainGlobals mg->Cv P w K mg base CX k fa fd [x] sp) (u4:∀(s:Shared)(u:Value),BindsTo s fd ⟨[u],[]⟩ [(x,u)]) (Dm:∀H:Hp,Ur H->CO K H a (ns.map V.int)->sp [.ref a] H (λv _=>v=.bl true) λ_ _ _=>False)
 (WH:∀H e s',CX [] H y (λ_ _ _=>False) e s'->False) :
 codeAny (model P w) callerA (.call (.ref fa) ⟨[.ref a],[]⟩) (λr s'=>r=.ok (.ret<|.bool true)/\OldK y.heap s'.heap/\s'.os=y.os/\AllBare s'.gens) y:=by
 have rv:=AFP hi;have yB:=hi.length;have Z:∀H:Hp,Ur H->CO K H a (ns.map V.int)->Bp P w H y.heap->(∀b,H b≠none->b=a)->(H a≠none->K.lookup a=none)->codeAny (model P w) callerA (.call (.ref fa) ⟨[.ref a],[]⟩) (λr s'=>r=.ok (.ret<|.bool true)/\OldK y.heap s'.heap/\s'.os=y.os/\AllBare s'.gens) y:=by
  intro H T hS AX C hK;have E:∀{b:Addr}{o:Obj},y.heap.get? b=some o->H b=none->(J8 y.heap H).get? b=some o:=λe n=>vQ e n;have Pp:∀{b:Addr}{o:Obj}{es:Array DictEntry}{Y:Nat},y.heap.get? b=some o->o.data=.dict es Y->H b=none:=λ{b o es Y} e d=>by
   cases q:H b with
   |none=>rfl
   |some u=>
    have D:=C b (by rw[q];simp);subst D;rw[ha]at e;cases e;have d':=d
    contradiction
  have Q:∀{b:Addr}{m:Str->Option Value},y.heap.Ns b m->(J8 y.heap H).Ns b m:=λ{b m} ⟨o,es,Y,e,d,r⟩=>⟨o,es,Y,E e<|Pp e d,d,r⟩;have I:=λb o e=>E (B b o e) (by
   cases q:H b with
   |none=>rfl
   |some u=>
    have D:=C b (by rw[q];simp);subst D;rw[hK (by rw[q];simp)]at e;contradiction)
  have hM:Mod K mg<|J8 y.heap H:=⟨I,Q G,⟨mb,Q p,f⟩,let ⟨mc,h1,h2⟩:=vb;⟨mc,Q h1,h2⟩⟩;have e0:Ko P w K mg (J8 y.heap H) callerA [] y H:=⟨rfl,hM,λb o e=>zN e,AK0<|vR _ _,trivial,λb p=>absurd (show b∈([])from p) AGh,AX,.of_eq hg⟩;refine codeAny_mono ((F _ I<|Q G).run callerA [] y H ⟨[.ref a],[]⟩ [.ref a] [.ref a] _ _ hr e0 (u4 y<|.ref a) (.cons rfl .nil)<|Dm H T hS) λr s' h=>?_;cases r with
  |error e=>exact(WH H e s' h).elim
  |ok fl=>
   cases fl with
   |next=>exact False.elim h
   |brk=>exact False.elim h
   |cont=>exact False.elim h
   |ret u=>
    obtain⟨v,H',os,bare,un,Wn,r',q⟩:=h;have q':=q;subst q';obtain rfl:u=Value.bool true:=r';refine⟨rfl,OldK.of_keep λb o e=>?_,os,bare⟩;cases q:H b with
    |none=>exact un.keep b o e q (by intro z;exact absurd (show b∈([])from z) AGh) AGh
    |some u=>
     rcases T b with z|⟨ob,xs,z⟩
     .rw[q]at z;contradiction
     .have z2:=un.FH b ob _ z;obtain⟨t,_⟩:=AX b _ z;obtain⟨e2,_⟩:=Wn b _ z2;rw[e]at t;cases t;exact e2
 cases R:K.lookup a with
 |some o=>
  have e:=B a o R;rw[ha]at e;cases e;refine Z (λ_=>none) (λ_=>.inl rfl) (.inr ⟨_,vs.toArray,_,R,rfl,rfl,rfl,by rw[AG2,yB];exact S,by simpa using rv⟩) (λb u z=>by have O:(none)=some u:=z;contradiction) (λb z=>absurd rfl z) λz=>absurd rfl z
 |none=>
  refine Z (λb=>if b=a then some (.Ec {cls:=.type "list",data:=.seq vs.toArray}<|.lst<|ns.map V.int)else none) (λb=>?_) (.inl<|.inr ⟨{cls:=.type "list",data:=.seq vs.toArray},AGo rfl⟩) (λb u z=>?_) (λb z=>?_) λ_=>R
  .by_cases p:b=a
   .exact .inr ⟨_,_,AGo p⟩
   .exact .inl<|AGp p
  .by_cases p:b=a
   .have O:=(AGo p).symm.trans z;cases O;subst p;exact⟨ha,by rw[AGm];exact S,vs,_,rv,ha⟩
   .have O:=(AGp p).symm.trans z;injection O
  .by_cases p:b=a
   .exact p
   .exact absurd (AGp p) z
theorem AFV{l:PySem.W.OpenLaw}{q:Program}{z:List Str}{P:(Str->Option Value)->Heap->Prop}{Z:World->Heap->Prop}{d:DefRec}{K:Params->PySem.W.Frag}{CX:World->E7}{sp:World->Sp}{x:Str} (hn:l.most=some n) (D:n<=sizeLine) (R:d.params.defaults=[]) (B:B2 k callerA) (S:∀(w:World)(h:Heap),Z w h->(K w.params).In h) (F:∀(w:World)(mg:Str->Option Value)(fa:Addr)(h:Heap),(K w.params).In h->h.Ns mainGlobals mg->mg d.name=some (.ref fa)->
  ∃fd:FuncData,(∀(s:Shared)(u:Value),BindsTo s fd ⟨[u],[]⟩ [(x,u)])/\∀base:Heap,(K w.params).In base->base.Ns mainGlobals mg->Cv l.prog w (K w.params) mg base (CX w) k fa fd [x] (sp w))
 (C:∀(w:World)(H:Hp)(a:Addr)(ns:List Int),ns.length<=n->Ur H->CO (K w.params) H a (ns.map V.int)->sp w [.ref a] H (λv _=>v=.bl true) λ_ _ _=>False)
 (E:∀(w:World)(H:Hp)(s:Shared)(e:Value)(s':Shared),CX w [] H s (λ_ _ _=>False) e s'->False) :
 PySem.W.WalkO q z P Z l.row.toRowW d [] (λf vs=>PySem.call f vs):=by
 refine ZA.o7 hn R λw CB I mg mb fa o pm cd doc a vs ns G Y ho hd BG p t y Q hg=>?_;have O:=S w _ Y;obtain⟨fd,hb,hF⟩:=F w mg fa _ O G.T.g p;exact xy O G.T.g G.T.b G.T.builtins G.T.nolimit hg t y (AHd Q D) B hF hb (λH hO hS=>C w H a ns Q hO hS) λH e s'=>E w H I e s'
noncomputable def Im(s:Stmt):Arguments:=match s with
 |.FunctionDef _ a _ _ _ _ _ _ _ _=>a
 |_=>{posonlyargs:=[],args:=[],vararg:=none,kwonlyargs:=[],kw_defaults:=[],kwarg:=none,defaults:=[]}
noncomputable def EZ(s:Stmt):List Stmt:=match s with
 |.FunctionDef _ _ b _ _ _ _ _ _ _=>b
 |_=>[]
noncomputable def BX(s:Stmt):Scope:=match s with
 |.FunctionDef _ _ _ _ _ _ sc _ _ _=>sc
 |_=>{kind:=.function,names:=[],isGenerator:=false,isCoroutine:=false}
abbrev ER:E7:=λ_ _ _ _ _ _=>False
abbrev E0:XK:=λ_ _ _=>False
theorem kF:Passes ER X E0:=λ_ _ _ _ _ _ _ h=>h.elim
structure E9(K:PySem.W.Frag)(x qual:Str)(st:Stmt)(f:Addr)(fd:FuncData):Prop where
 ex:∃(oc:Value)(od:Option Addr)(kV doc pm:Value)(an:Option Addr)(A3 ct:Value)(HL:Array<|Option Value),fd=PySem.W.fnOf x qual (Im st) (EZ st) (BX st) .none kV doc pm an A3 ct/\K.lookup f=some ⟨oc,od,.func fd,HL⟩/\PySem.W.codeIn K A3 qual=true
 kp:PySem.W.keepIn K (.ref f)=true
section
variable{P:Program}{w:World}{K:PySem.W.Frag}{mg:Str->Option Value}{base:Heap}
theorem E9.ok{st:Stmt}(F:E9 K x qual st f fd)(S:IU N ps<|BX st)(len:∀vs H Q E,sp vs H Q E->vs.length=ps.length) (z:∀(A3:Value)(A:Around)(outer:List Env)(s:Shared)(H:Hp)(vs:List V)(Q:VK)(E:XK),B2 k (A.deeper<|envOfC qual (BX st) s.heap.objs.size f A3)->sp vs H Q E->
  ∃t,Cw (Gn ER P w K mg base N qual (BX st) f A3 A outer s H E).HJ (EZ st) t/\t {nx:=λ_ H'=>Q .As H',rt:=Q} (start N vs) H):Cv P w K mg base ER (k+1) f fd ps sp:=by
 obtain⟨oc,od,kV,doc,pm,an,A3,ct,HL,rfl,y,v⟩:=F.ex;refine fX y v S len λA outer s H vs Q E u p=>?_;obtain⟨t,h,q⟩:=z A3 A outer s H vs Q E u p;exact⟨t,h.HJ,q⟩
theorem E9.binds{st:Stmt}(F:E9 K x qual st f fd) (h:∀(kV doc pm:Value)(an:Option Addr)(A3 ct:Value)(us:List Value),us.length=ps.length->bindArgs (PySem.W.fnOf x qual (Im st) (EZ st) (BX st) .none kV doc pm an A3 ct) ⟨us,[]⟩=pure (ps.zip us)):Binds K fd ps []:=by obtain⟨oc,od,kV,doc,pm,an,A3,ct,HL,rfl,lk,BG⟩:=F.ex;exact .all<|h kV doc pm an A3 ct
theorem uI{st:Stmt}{f:Addr}{oc:Value}{od an:Option Addr}{HL:Array (Option Value)}{kV doc pm A3 ct:Value}(l:K.lookup f=some ⟨oc,od,.func<|PySem.W.fnOf x qual (Im st) (EZ st) (BX st) .none kV doc pm an A3 ct,HL⟩) (c:PySem.W.codeIn K A3 qual=true) (k:PySem.W.keepIn K (.ref f)=true):E9 K x qual st f<|PySem.W.fnOf x qual (Im st) (EZ st) (BX st) .none kV doc pm an A3 ct:=⟨⟨oc,od,kV,doc,pm,an,A3,ct,HL,rfl,l,c⟩,k⟩
end
theorem lW(h:n<=1000):n<sizeLine:=AJe h AGj
section
variable{X:Cx}
theorem pv(i:Nat){pos:Pos}(z:X.N[i]? = some x:=by rfl)(y:DJ X.env.scope x:=by first|exact Or.inl rfl|exact Or.inr (Or.inl rfl)|exact Or.inr<|Or.inr rfl)(hd:(x==("__debug__" : Str))=false:=by decide) (q:(x==("__classdict__" : Str))=false:=by decide):PE X (.Name x pos)<|Ts i:=Ej z y hd q
end
theorem xG{A B:Prop}(h:B):if false=true then A else B:=by exact h
theorem xH{A B:Prop}(h:A):if true=true then A else B:=by exact h
def Ah(H H':Hp):Prop:=∀b o,H b=some o->H' b=some o
theorem Ah.refl(H:Hp):Ah H H:=λ_ _ h=>h
theorem Ah.trans(a:Ah H z)(b:Ah z y):Ah H y:=λc o h=>b c o<|a c o h
theorem Ah.free(e:Ah H H')(h:H' l=Option.none):H l=Option.none:=by
 cases q:H l with
 |none=>rfl
 |some o=>
  rw[e l o q]at h
  contradiction
theorem Ah.seq{K:PySem.W.Frag}(e:Ah H H')(h:CO K H a xs):CO K H' a xs:=by
 rcases h with(h|⟨o,h⟩)|h
 .exact .inl<|.inl<|e _ _ h
 .exact .inl<|.inr ⟨o,e _ _ h⟩
 .exact .inr h
section
variable{κ:Type}[DecidableEq κ]
noncomputable def FZ(AK:List<|κ×V)(k:κ):Option V:=(AK.find? λz=>decide (z.1=k)).map (·.2)
noncomputable def Dg(AK:List<|κ×V)(k:κ)(v:V):List<|κ×V:=
 if(AK.any λz=>decide (z.1=k))=true then AK.map (λz=>if z.1=k then(z.1,v)else z)else AK ++ [(k,v)]
theorem m9{k:κ}:FZ ([]:List<|κ×V) k=none:=rfl
theorem QB{p:κ×V}{r:List (κ×V)}{k:κ}(e:p.1=k):FZ (p::r) k=some p.2:=by simp[FZ,AI7,e]
theorem NX{p:κ×V}(e:¬ p.1=k):FZ (p::r) k=FZ r k:=by simp[FZ,AI7,e]
theorem Y0(k:κ):∀AK:List<|κ×V,(AK.any λz=>decide (z.1=k))=(FZ AK k).isSome
 |[]=>rfl
 |p::r=>by
  rw[AHj];by_cases e:p.1=k
  .simp only[QB e,AHM e,Bool.true_or,Option.isSome_some]
  .rw[NX e,AHK e,Bool.false_or];exact Y0 k r
theorem XR(AK:List<|κ×V)(k:κ)(v:V):(Dg AK k v).length<=AK.length+1:=by
 unfold Dg;split
 .rw[AGm];omega
 .rw[AHC,AG6,AHq];omega
theorem X8{k:κ}(v:V)(h:FZ AK k=none):Dg AK k v=AK ++ [(k,v)]:=by unfold Dg;rw[Y0,h];exact AGp AGj
theorem Gj.O7(r:Gj o u):o.isSome=u.isSome:=by
 cases o with
 |none=>cases u with
  |none=>rfl
  |some _=>exact(show False from r).elim
 |some _=>cases u with
  |none=>exact(show False from r).elim
  |some _=>rfl
theorem KV.val(r:KV AK vs)(k:κ):Gj (FZ AK k)<|valueAt vs k:=by
 unfold KV at r
 induction r with
 |nil=>exact True.intro
 |@cons p q ps qs h t ih=>
  obtain⟨h1,v⟩:=h;by_cases e:p.1=k
  .have y:q.1=k:=h1.symm.trans e;have b:valueAt (q::qs) k=some q.2:=by simp[valueAt,AI7,y]
   rw[QB e,b];exact v
  .have y:¬ q.1=k:=λz=>e<|h1.trans z;have b:valueAt (q::qs) k=valueAt qs k:=by simp[valueAt,AI7,y]
   rw[NX e,b];exact ih
theorem KV.any(r:KV AK vs)(k:κ):(AK.any λz=>decide (z.1=k))=vs.any λz=>decide (z.1=k):=by
 unfold KV at r
 induction r with
 |nil=>rfl
 |cons h t ih=>rw[AHj,AHj,ih,h.1]
theorem KV.YE(r:KV AK vs)(k:κ)(Z:RelV y u) : KV (AK.map λv=>if v.1=k then(v.1,y)else v) (vs.map λv=>if v.1=k then(v.1,u)else v):=by
 unfold KV at r ⊢
 induction r with
 |nil=>exact .nil
 |@cons p q ps qs h t ih=>
  rw[AGv,AGv];refine .cons ?_ ih;obtain⟨h1,Y⟩:=h;by_cases e:p.1=k
  .rw[AGo e,AGo<|h1.symm.trans e];exact⟨h1,Z⟩
  .rw[AGp e,AGp λz=>e<|h1.trans z];exact⟨h1,Y⟩
theorem KV.put(r:KV AK vs)(k:κ)(z:RelV y u):KV (Dg AK k y)<|stored vs k u:=by
 unfold Dg stored;rw[r.any k];by_cases e:(vs.any λq=>decide (q.1=k))=true
 .rw[AGo e,AGo e];exact r.YE k z
 .rw[AGp e,AGp e];exact Paired.snoc r ⟨rfl,z⟩
theorem KV.length{AK:List (κ×V)}{vs:List (κ×Value)}(r:KV AK vs):AK.length=vs.length:=Paired.length r
end
theorem Mq{P:Program}{w:World}{k:Key}{u:Value}(r:RelV (kV k) u):(E4 P w).is k u=true:=by
 cases k with
 |inl i=>obtain⟨t,e⟩:=(show ∃t,u=Value.int i t from r);subst e;exact yg P w i t
 |inr x=>obtain⟨t,e⟩:=(show ∃t,u=Value.str x t from r);subst e;exact yh P w x t
theorem iO:∀{ks:List Key}{us:List Value},Ar (ks.map kV) us->ItemsAre (E4 P w) ks us
 |[],_,r=>by rw[AIm]at r;cases r;exact .nil
 |k::ks,_,r=>by
  rw[AGv]at r;cases r with
  |cons h t=>exact .cons (Mq h)<|iO t
abbrev KT(H:Hp):List (List Key×V)->List (List Key×Addr×Value)->Prop:=Paired λp q=>p.1=q.1/\H q.2.1=some (.tup<|p.1.map kV)/\RelV p.2 q.2.2
theorem KT.val(r:KT H AK xs)(k:List Key):Gj (FZ AK k) ((atKey xs k).map (·.2)):=by
 induction r with
 |nil=>exact True.intro
 |@cons p q ps qs h t ih=>
  obtain⟨h1,_,v⟩:=h;by_cases e:p.1=k
  .have y:q.1=k:=h1.symm.trans e;have b:atKey (q::qs) k=some q.2:=by simp[atKey,AI7,y]
   rw[QB e,b];exact v
  .have y:¬ q.1=k:=λz=>e<|h1.trans z;have b:atKey (q::qs) k=atKey qs k:=by simp[atKey,AI7,y]
   rw[NX e,b];exact ih
theorem KT.YE(r:KT H AK xs)(k:List Key)(Y:RelV y u) : KT H (AK.map λv=>if v.1=k then(v.1,y)else v)<|xs.map<|putAt k u:=by
 induction r with
 |nil=>exact .nil
 |@cons p q ps qs h t ih=>
  rw[AGv,AGv];refine .cons ?_ ih;obtain⟨h1,Z,h3⟩:=h;unfold putAt;by_cases e:p.1=k
  .rw[AGo e,AGo<|h1.symm.trans e];exact⟨h1,Z,Y⟩
  .rw[AGp e,AGp λz=>e<|h1.trans z];exact⟨h1,Z,h3⟩
theorem KT.put(r:KT H AK xs)(k:List Key)(v:H b=some (.tup<|k.map kV))(z:RelV y u) : KT H (Dg AK k y)<|storedH xs k b u:=by
 have e:(AK.any λp=>decide (p.1=k))=(atKey xs k).isSome:=by rw[Y0,(r.val k).O7,AJE]
 unfold Dg storedH;rw[e];by_cases q:(atKey xs k).isSome=true
 .rw[AGo q,AGo q];exact r.YE k z
 .rw[AGp q,AGp q];exact Paired.snoc r ⟨rfl,v,z⟩
theorem KT.keeps(r:KT H AK xs)(y:∀b ys,H b=some (.tup ys)->H' b=some (.tup ys)):KT H' AK xs:=
 Paired.Xe r λ_ _ z=>⟨z.1,y _ _ z.2.1,z.2.2⟩
section
variable{P:Program}{w:World}{H:Hp}{h:Heap}{a:Addr}
theorem k6(ok:Bp P w H h)(e:Rd H a u):Bw P w H h a u:=e.ok ok
theorem MG(ok:Bp P w H h)(e:Rd H a<|.dK AK):AK.length<=sizeLine/\(a==sysModules)=false/\∃vs,KV AK vs/\h.DictOf (E4 P w) a vs:=
 show Bw P w H h a (.dK AK)from k6 ok e
theorem bQ(ok:Bp P w H h)(e:H a=some (.dK AK)):AK.length<=sizeLine/\(a==sysModules)=false/\∃vs,KV AK vs/\h.DictOf (E4 P w) a vs:=MG ok<|.inl e
theorem PH(ok:Bp P w H h)(e:H a=some (.tup<|ks.map kV)):(tupleKind<|E4 P w).is h ks a:=by obtain⟨_,its,r,o,h1,z,n,h3⟩:=(show Bw P w H h a (.tup<|ks.map kV)from ok a _ e);exact⟨o,its.toArray,n,h1,z,h3,by simpa using iO r⟩
theorem ON(ok:Bp P w H h)(e:Rd H a<|.dT AK):AK.length<=sizeLine/\(a==sysModules)=false/\∃xs,KT H AK xs/\h.DictOfH (tupleKind<|E4 P w) a xs:=by
 obtain⟨z,y,xs,r,o,es,u,h1,Z,h3,Y,Q⟩:=(show Bw P w H h a (.dT AK)from k6 ok e);refine⟨z,y,xs,r,o,es,u,h1,Z,h3,Y,λx v=>?_,Q⟩;have all:∀{l:List (List Key×V)}{m:List (List Key×Addr×Value)},KT H l m->∀x∈m,(tupleKind<|E4 P w).is h x.1 x.2.1:=by
  intro l m q
  induction q with
  |nil=>intro x v;exact nomatch v
  |@cons p q ps qs hq t ih=>
   intro x v;rcases AGz.mp v with e|v
   .subst e;exact PH ok (by rw[<-hq.1];exact hq.2.1)
   .exact ih x v
 exact all r x v
theorem sJ(ok:Bp P w H h)(e:H a=some (.dT AK)):AK.length<=sizeLine/\(a==sysModules)=false/\∃xs,KT H AK xs/\h.DictOfH (tupleKind<|E4 P w) a xs:=ON ok<|.inl e
end
def Kn(H:Hp)(a:Addr)(y:V)(r:Option V):Prop:=
 (∃AK k,Rd H a (.dK AK)/\y=kV k/\r=FZ AK k)\/∃AK k b,Rd H a (.dT AK)/\y=.ref b/\H b=some (.tup<|k.map kV)/\r=FZ AK k
def ZD(H:Hp)(a:Addr)(y v:V)(H':Hp):Prop:=
 (∃AK k,H a=some (.dK AK)/\y=kV k/\AK.length<sizeLine/\H'=upd H a (.dK<|Dg AK k v))\/
 ∃AK k b,H a=some (.dT AK)/\y=.ref b/\H b=some (.tup<|k.map kV)/\AK.length<sizeLine/\H'=upd H a (.dT<|Dg AK k v)
section
variable{X:Cx}{AD:List (Addr×Obj)}{σ:St}{H:Hp}{s:Shared}{a:Addr}{y v:V}{u r:Value}{o:Option V}{A:Around}{E:Value->Shared->Prop}
theorem Inv.big(I:Inv X AD σ H s):sysModules<s.heap.objs.size:=by have h:mainGlobals<s.heap.objs.size:=(I.mod.glob.keeps I.bk).lt;exact AKM AGj h
theorem q8(D:A.units+1<cLine)(I:Inv X AD σ H s)(g:Kn H a y<|some v)(P:RelV y u)(h:∀q s',Inv X AD σ H s'->RelV v q->Q q s') : wpAny (model X.prog X.w) A (getItem (.ref a) u) Q E s:=by
 rcases g with⟨AK,k,e,Z,l⟩|⟨AK,k,b,e,Z,F,l⟩
 .subst Z;obtain⟨z,hd,vs,rel,dd⟩:=MG I.AX e;obtain⟨q,Y,O⟩:=Gj.some_of (v:=v) (o:=valueAt vs k) (by rw[l];exact rel.val k);exact wpAny_getItem_of (Mq P) dd.mapOf Y<|h q _ (I.tok _) O
 .subst Z;cases (show u=Value.ref b from P);obtain⟨z,hd,xs,rel,dd⟩:=ON I.AX e;obtain⟨q,Y,O⟩:=Gj.some_of (v:=v) (o:=(atKey xs k).map (·.2)) (by rw[l];exact rel.val k);obtain⟨p,hp,R⟩:=AKg.mp Y;refine wpAny_getItem_heap (tupleKind_room_in1 D) (PH I.AX F) dd hp ?_;rw[R];exact h q _ (I.tok _) O
theorem q9(Y:A.units+1<cLine)(I:Inv X AD σ H s)(g:Kn H a y o)(Z:RelV y u)(h:∀s',Inv X AD σ H s'->Q (.bool o.isSome) s') : wpAny (model X.prog X.w) A (compareOp .In u<|.ref a) Q E s:=by
 rcases g with⟨AK,k,e,p,l⟩|⟨AK,k,b,e,p,O,l⟩
 .subst p;obtain⟨z,hd,vs,rel,dd⟩:=MG I.AX e;refine wpAny_in_of (Mq Z) hd dd.mapOf ?_;rw[<-(rel.val k).O7,<-l];exact h _<|I.tok _
 .subst p;cases (show u=Value.ref b from Z);obtain⟨z,hd,xs,rel,dd⟩:=ON I.AX e;refine wpAny_in_heap (tupleKind_room_in1 Y) (PH I.AX O) hd dd ?_;have q:=(rel.val k).O7;rw[AJE]at q;rw[<-q,<-l];exact h _<|I.tok _
theorem rB(Y:A.units+1<cLine)(I:Inv X AD σ H s)(g:Kn H a y o)(Z:RelV y u)(h:∀s',Inv X AD σ H s'->Q (.bool (!o.isSome)) s') : wpAny (model X.prog X.w) A (compareOp .NotIn u<|.ref a) Q E s:=by
 rcases g with⟨AK,k,e,p,l⟩|⟨AK,k,b,e,p,O,l⟩
 .subst p;obtain⟨z,hd,vs,rel,dd⟩:=MG I.AX e;refine wpAny_notIn_of (Mq Z) hd dd.mapOf ?_;rw[<-(rel.val k).O7,<-l];exact h _<|I.tok _
 .subst p;cases (show u=Value.ref b from Z);obtain⟨z,hd,xs,rel,dd⟩:=ON I.AX e;refine wpAny_notIn_heap (tupleKind_room_in1 Y) (PH I.AX O) hd dd ?_;have q:=(rel.val k).O7;rw[AJE]at q;rw[<-q,<-l];exact h _<|I.tok _
theorem VQ(I:Inv X AD σ H s)(Z:Nz<|H a)(hs:Heap.SameBut a s.heap h')(he:∃q,h'.get? a=some q)(new:Bw X.prog X.w (upd H a p) h' a p) : Inv X AD σ (upd H a p) {s with heap:=h',toks:=t'}:=
 I.write (x:=a) (e:=a) Z (.inl rfl) (λb q Y z=>(hs.2 b Y).trans z) he new
theorem bO(z:AK.length<=sizeLine)(hd:(a==sysModules)=false)(rel:KV AK vs)(dd:h'.DictOf (E4 P w) a vs) : Bw P w H' h' a<|.dK AK:=⟨z,hd,vs,rel,dd⟩
theorem rC(G:A.units+1<cLine)(I:Inv X AD σ H s)(g:ZD H a y v H')(F:RelV y u)(rv:RelV v r)(h:∀s',Inv X AD σ H' s'->Q () s') : wpAny (model X.prog X.w) A (setItem (.ref a) u r) Q E s:=by
 rcases g with⟨AK,k,e,Y,l,O⟩|⟨AK,k,b,e,Y,R,l,O⟩
 .subst Y O;obtain⟨z,hd,vs,rel,dd⟩:=bQ I.AX e;have P:vs.length<=sizeLine:=by rw[<-rel.length];exact z
  have D:(Dg AK k v).length<=sizeLine:=by have:=XR AK k v;omega
  refine wpAny_setItem_pairs (hsz:=P) (Mq F) dd λh' p hs=>h _ ?_;have he:∃q,h'.get? a=some q:=let ⟨q,_,_,Z,_⟩:=p;⟨q,Z⟩
  exact VQ I (by rw[e];exact True.intro) hs he<|bO D hd (rel.put k rv) p
 .subst Y O;cases (show u=Value.ref b from F);obtain⟨z,hd,xs,rel,dd⟩:=sJ I.AX e;have P:xs.length<=sizeLine:=by rw[<-Paired.length rel];exact z
  have D:(Dg AK k v).length<=sizeLine:=by have:=XR AK k v;omega
  refine wpAny_setItem_heap (hsz:=P) (tupleKind_room_in1 G) (PH I.AX R) dd λh' p hs=>h _ ?_;obtain⟨q,es,S,Z,T,h3,C,_,n⟩:=p;refine VQ I (by rw[e];exact True.intro) hs ⟨q,Z⟩ ⟨D,hd,_,(rel.put k R rv).keeps λc ys B=>?_,q,es,S,Z,T,h3,C,n⟩;rw[BM<|y8 B e λz=>nomatch z];exact B
end
section
variable{X:Cx}{AD:List (Addr×Obj)}{σ:St}{H:Hp}{s:Shared}{a:Addr}{AK:List (Key×V)}{k:Key}{u:Value}{A:Around}{E:Value->Shared->Prop}
theorem rA(I:Inv X AD σ H s)(e:Rd H a<|.dK AK)(h:∀t s',Inv X AD σ H s'->Q (.int AK.length t) s'):wpAny (model X.prog X.w) A (call (.builtin "len") [.ref a]) Q E s:=by obtain⟨z,hd,vs,rel,dd⟩:=MG I.AX e;refine call_len_dict hd dd (by rw[<-rel.length];rw[sizeLine_eq]at z;omega) ?_;rw[<-rel.length];exact h _ _<|I.tok _
end
def Qc(i:Expr):Prop:=∀z y,subscripted i false z y=operate [z,y] (getItem z y)
theorem AEH{T id:String} (Y:typeLookup (.type T) "__getitem__" = pure (some<|.builtin id)) (hs:Qc z) (h:wpAny (model prog w) A (eval y env) (λo u=>wpAny (model prog w) A (eval z env) (λi q=>q.TypeIs o T/\wpAny (model prog w) A (getItem o i) Q E q) E u) E s) :
 wpAny (model prog w) A (eval (.Subscript y z pos) env) Q E s:=by
 refine Subscript_<|wpAny_mono h (λo u O=>wpAny_mono O (λi q v=>?_) λ_ _ x=>x) λ_ _ x=>x;obtain⟨p,v⟩:=v;unfold subscriptTail;refine wpAny_bind ?_;rw[getitemInPython_of_ne p.not_modules];refine wpAny_bind<|wpAny_specialOf p Y ?_;have fin:wpAny (model prog w) A (subscripted z false o i) (λr Z=>wpAny (model prog w) A (letTemporaryGo y o r >>= λ_=>pure r) Q E Z) E q:=by rw[hs o i];exact wpAny_operating<|wpAny_mono v (λr Z P=>wpAny_bind<|wpAny_letTemporaryGo<|wpAny_pure P) λ_ _ x=>x
 first
  |exact wpAny_pure<|wpAny_bind fin
  |exact wpAny_bind<|wpAny_pure<|wpAny_bind fin
  |exact wpAny_bind fin
theorem rh{σ:St}(I:Inv X AD σ H s)(g:Kn H a y o):s.TypeIs (.ref a) "dict":=by
 rcases g with⟨AK,k,e,_,_⟩|⟨AK,k,b,e,_,_,_⟩
 .obtain⟨_,_,vs,_,dd⟩:=MG I.AX e;exact dd.typeIs
 .obtain⟨_,_,xs,_,dd⟩:=ON I.AX e;exact dd.typeIs
def AEP(q ty:TE):TE:=λσ H Q=>q σ H λx u=>ty σ u λy z=>∃a v,x=.ref a/\Kn z a y (some v)/\Q v z
def AEQ(ty q:TE):TE:=λσ H Q=>ty σ H λy v=>q σ v λx z=>∃a o,x=.ref a/\Kn z a y o/\Q (.bl o.isSome) z
def AES(ty q:TE):TE:=λσ H Q=>ty σ H λy v=>q σ v λx z=>∃a o,x=.ref a/\Kn z a y o/\Q (.bl (!o.isSome)) z
def ADm(q ty u:TE):TS:=λD σ H=>u σ H λv p=>q σ p λx Z=>ty σ Z λy Y=>∃a z,x=.ref a/\ZD Y a y v z/\D.nx σ z
section
variable{X:Cx}{o i e value:Expr}{pos pos' Lu:Pos}{td ty tv:TE}
theorem kK(q:X.A.units+1<cLine)(ho:PE X o td)(hi:PE X i ty)(hs:Qc i):PE X (.Subscript o i pos)<|AEP td ty:=by intro AD s σ H Q I h;refine AEH PySem.F.slot_dict_getitem.lookup hs<|Ae (ho AD s σ H _ I h) ?_;rintro u s1 ⟨x,p,Z,Y,O⟩;refine Ae (hi AD s1 σ p _ Z O) ?_;rintro iv s2 ⟨y,P,z,D,a,v,ex,g,R⟩;subst ex;obtain rfl:u=Value.ref a:=Y;exact⟨rh z g,q8 q z g D λw' s3 B G=>⟨v,P,B,G,R⟩⟩
theorem AAT(z:X.A.units+1<cLine)(hi:PE X i ty)(ho:PE X o td):PC X .In i o<|AEQ ty td:=by intro AD s σ H Q I h;refine Ae (hi AD s σ H _ I h) ?_;rintro iv s1 ⟨y,q,v,p,Z⟩;refine Ae (ho AD s1 σ q _ v Z) ?_;rintro u s2 ⟨x,Y,O,P,a,D,ex,g,F⟩;subst ex;obtain rfl:u=Value.ref a:=P;exact q9 z O g p λs3 R=>⟨.bl D.isSome,Y,R,rfl,F⟩
theorem AAU(z:X.A.units+1<cLine)(hi:PE X i ty)(ho:PE X o td):PC X .NotIn i o<|AES ty td:=by intro AD s σ H Q I h;refine Ae (hi AD s σ H _ I h) ?_;rintro iv s1 ⟨y,q,v,p,Z⟩;refine Ae (ho AD s1 σ q _ v Z) ?_;rintro u s2 ⟨x,Y,O,P,a,D,ex,g,F⟩;subst ex;obtain rfl:u=Value.ref a:=P;exact rB z O g p λs3 R=>⟨.bl (!D.isSome),Y,R,rfl,F⟩
theorem kZ(z:X.A.units+1<cLine)(ho:PE X o td)(hi:PE X i ty)(q:PE X value tv)(hs:swapsWith value (some<|.Subscript o i pos') pos.line X.env=pure false) : PS X (.Assign [.Subscript o i pos'] value pos)<|ADm td ty tv:=by intro AD s σ H D I h;refine wpAny_Assign_Subscript (Ae (q AD s σ H _ I h) ?_) hs;rintro r s1 ⟨v,p,Z,rv,Y⟩;refine Ae (ho AD s1 σ p _ Z Y) ?_;rintro u s2 ⟨x,Q,O,P,F⟩;refine Ae (hi AD s2 σ Q _ O F) ?_;rintro iv s3 ⟨y,H3,R,B,a,G,ex,g,q3⟩;subst ex;obtain rfl:u=Value.ref a:=P;exact rC z R g B rv λs4 S=>⟨σ,G,S,q3⟩
end
theorem rm(h:Heap)(z:sysModules<h.objs.size):Bw P w H (h.push {cls:=.type "dict",data:=.dict #[]}) h.objs.size<|.dK []:=
 ⟨AIO _,AHG.mpr<|AHh<|AG7 z,[],.nil,Heap.DictOf.new h⟩
theorem sI(h:Heap)(z:sysModules<h.objs.size):Bw P w H (h.push {cls:=.type "dict",data:=.dict #[]}) h.objs.size<|.dT []:=
 ⟨AIO _,AHG.mpr<|AHh<|AG7 z,[],.nil,_,#[],0,Heap.get?_push_size _ rfl,⟨rfl,rfl,rfl⟩,rfl,rfl,AKm⟩
def AER:TE:=λ_ H Q=>∀p,H p=none->Q (.ref p) (upd H p<|.dT [])
section
variable{X:Cx}{pos:Pos}
theorem AAe:PE X (.Dict [] [] pos) AER:=λAD s σ H Q I h=>
 wpAny_Dict_empty ⟨.ref s.heap.objs.size,_,I.laid (a:=s.heap.objs.size) (o:=.dT []) (t':=s.toks) (λ_ _ q=>Heap.get?_push_of_some _ q) (AGy _)<|sI s.heap I.big,rfl,h _<|I.AX.fresh<|AGy _⟩
end
def Yq:List (TE×TE)->St->Hp->(List (V×V)->Hp->Prop)->Prop
 |[],_,H,Q=>Q [] H
 |(tk,tv)::r,σ,H,Q=>tk σ H λx z=>tv σ z λy q=>Yq r σ q λps v=>Q ((x,y)::ps) v
abbrev VV:List (V×V)->List (Value×Value)->Prop:=Paired λp q=>RelV p.1 q.1/\RelV p.2 q.2
def Qe(X:Cx)(pos:Pos)(y:List<|Option Expr)(z:List Expr)(q:List<|TE×TE):Prop:=
 ∀(AD:List<|Addr×Obj)(s:Shared)(σ:St)(H:Hp)(Q:List (V×V)->Hp->Prop),Inv X AD σ H s->Yq q σ H Q->wpAny (model X.prog X.w) X.A (evalPairs<|pairTrees y z X.env pos) (λvs s'=>∃ps H',Inv X AD σ H' s'/\VV ps vs/\Q ps H') X.xe s
theorem ABD:Qe X pos [] [] []:=λAD s σ H Q I h=>pairTrees_nil_walk ⟨[],H,I,.nil,h⟩
theorem kU(p:PE X k tk)(Z:PE X v z)(Y:Qe X pos ks vs q) : Qe X pos (some k::ks) (v::vs) ((tk,z)::q):=λAD s σ H Q I h=>
 pairTrees_cons_walk (Ae (p AD s σ H _ I h) λu s1 ⟨x,O,P,D,F⟩=>Ae (Z AD s1 σ O _ P F) λw2 s2 ⟨y,R,B,G,S⟩=>
  Ae (Y AD s2 σ R _ B S) λws s3 ⟨ps,T,C,rel,q3⟩=>⟨(x,y)::ps,T,C,.cons ⟨D,G⟩ rel,q3⟩)
def Li(AK more:List<|Key×V):List<|Key×V:=more.foldl (λacc z=>Dg acc z.1 z.2) AK
theorem KV.merge:∀{more:List (Key×V)}{rs:List (Key×Value)}{AK:List (Key×V)}{vs:List (Key×Value)},KV more rs->KV AK vs->KV (Li AK more) (merged vs rs):=by
 intro more rs AK vs r;unfold KV at r
 induction r generalizing AK vs with
 |nil=>intro q;exact q
 |@cons p q ps qs h t ih=>
  intro z;have e:KV (Dg AK p.1 p.2)<|stored vs q.1 q.2:=by have:=z.put p.1 h.2;rw[<-h.1];exact this
  exact ih e
theorem i9:∀(more AK:List<|Key×V),(Li AK more).length<=AK.length+more.length
 |[],AK=>by show AK.length<=AK.length+0;omega
 |p::r,AK=>by have h1:=i9 r<|Dg AK p.1 p.2;have h2:=XR AK p.1 p.2;show(Li (Dg AK p.1 p.2) r).length<=_;rw[AG6];omega
theorem Zw{P:Program}{w:World}:∀{AK:List (Key×V)}{ws:List (Value×Value)},VV (AK.map λz=>(kV z.1,z.2)) ws->∃rs,Carries (E4 P w) ws rs/\KV AK rs
 |[],_,r=>by rw[AIm]at r;cases r;exact⟨[],True.intro,.nil⟩
 |p::AK,_,r=>by
  rw[AGv]at r;cases r with
  |@cons a b as bs h t=>
   obtain⟨rs,c,q⟩:=Zw (P:=P) (w:=w) t;obtain⟨b1,b2⟩:=b;exact⟨(p.1,b2)::rs,⟨Mq h.1,rfl,c⟩,.cons ⟨rfl,h.2⟩ q⟩
def AET(q:List<|TE×TE):TE:=λσ H Q=>∀p,H p=none->Yq q σ (upd H p<|.dK []) λps z=>z p=some (.dK [])/\∃AK:List<|Key×V,ps=AK.map (λy=>(kV y.1,y.2))/\AK.length<=15/\Q (.ref p) (upd z p<|.dK<|Li [] AK)
theorem AAd(h:Qe X pos y v u)(Y:y.all (·.isSome)=true)(O:y.length=v.length)(h0:y≠[]) (D:y.length<=15):PE X (.Dict y v pos)<|AET u:=by
 intro AD s σ H Q I q;have hn:=I.AX.fresh<|AGy s.heap.objs.size;have F:=I.laid (a:=s.heap.objs.size) (o:=.dK []) (h':=s.heap.push {cls:=.type "dict",data:=.dict #[]}) (t':=s.toks) (λ_ _ q=>Heap.get?_push_of_some _ q) (AGy _)<|rm s.heap I.big;refine wpAny_Dict_walk (knd:=E4 X.prog X.w) Y O h0 D<|Ae (h AD _ σ _ _ F<|q _ hn) ?_;rintro ws s2 ⟨ps,H2,p,rel,e,AK,R,lk,B⟩;subst R;obtain⟨rs,c,G⟩:=Zw (P:=X.prog) (w:=X.w) rel;obtain⟨z,hd,vs0,S,dd⟩:=bQ p.AX e;cases S;refine⟨rs,c,dd,λh' Z hs=>⟨.ref s.heap.objs.size,_,?_,rfl,B⟩⟩;have T:(Li [] AK).length<=sizeLine:=by have h1:=i9 AK [];rw[AHq]at h1;rw[sizeLine_eq];omega
 have he:∃q,h'.get? s.heap.objs.size=some q:=let ⟨q,_,_,hq,_⟩:=Z;⟨q,hq⟩
 exact VQ p (by rw[e];exact True.intro) hs he<|bO T hd (G.merge .nil) Z
end L2
set_option linter.all false
namespace L2
set_option tactic.hygienic true
open PySem
noncomputable def D3(cells:List<|Str×Addr):List (Str×NameKind)->List (Str×Addr)->List (Str×Addr)
 |[],acc=>acc
 |(n,k)::r,acc=>if(k==NameKind.free)=true then(match cells.lookup n with|some c=>D3 cells r ((n,c)::acc)|none=>D3 cells r acc)else D3 cells r acc
theorem Z1(h:∀y∈scope.names,y.2=.free->∃c,env.cells.lookup y.1=some c):closureFor scope env=pure (D3 env.cells scope.names []):=by
 simp only[closureFor];generalize ([]:List<|Str×Addr)=acc;revert h acc;generalize scope.names=l
 induction l with
 |nil=>intro h acc;simp[D3]
 |cons x r ih=>
  intro h acc;obtain⟨n,k⟩:=x;rw[List.forIn_cons];by_cases z:(k==NameKind.free)=true
  .have v:k=.free:=by simpa using z
   obtain⟨c,hc⟩:=h (n,k) (AGw) v;have u:cellOf env n=pure c:=by unfold cellOf;rw[show env.cells.lookup n=some c from hc]
   simp only[D3,z,AIN,u,pure_bind];rw[show List.lookup n env.cells=some c from hc];exact ih (λy q=>h y<|AGr _ q) _
  .simp only[D3,z,if_false,pure_bind,Bool.false_eq_true];exact ih (λy q=>h y<|AGr _ q) _
theorem Ij{cells:List (Str×Addr)}:∀{l:List (Str×NameKind)}{acc:List (Str×Addr)}{x:Str}{c:Addr},(∀y d,acc.lookup y=some d->cells.lookup y=some d)->(D3 cells l acc).lookup x=some c->cells.lookup x=some c
 |[],acc,x,c,ha,h=>ha x c h
 |(n,k)::r,acc,x,c,ha,h=>by
  unfold D3 at h;split at h
  .split at h
   .rename_i d hd;refine Ij (l:=r) (acc:=(n,d)::acc) (λy e z=>?_) h;rw[AII]at z;split at z
    .rename_i q;have:y=n:=by simpa using q
     subst this;rw[hd];exact z
    .exact ha y e z
   .exact Ij (l:=r) ha h
  .exact Ij (l:=r) ha h
theorem qd(I:Nat->Shared->Prop)(turn:∀n s,I n s->wpAny (model prog w) A (pyNext it) (λr p=>match r with
  |none=>R (.ok .next) p
  |some v=>wpAny (model prog w) A (letOwnedTupleGo u it v) (λ_ Y=>wpAny (model prog w) A (assign u env v) (λ_ Q=>
   wpAny (model prog w) A (forIn q true λc r=>if r=true then do let ok<-isTrue c env<|eval c env;pure (ForInStep.yield ok)else pure (ForInStep.yield r)) (λok Z=>
    if ok=true then wpAny (model prog w) A (eval y env) (λx O=>
     wpAny (model prog w) A (call (.builtin "list.append") [acc,x]) (λ_ P=>∃m,m<n/\I m P) (λ_ _=>False) O) (λ_ _=>False) Z
    else ∃m,m<n/\I m Z) (λ_ _=>False) Q) (λ_ _=>False) Y) (λ_ _=>False) p) (λ_ _=>False) s)
 (n:Nat) (h:I n s) :
 codeAny (model prog w) A (.compLoop (.ListComp y [⟨u,z,q,0⟩] scope pos) 0 it acc env) R s:=by
 refine codeAny_loop rfl I (λn s B=>?_) n h;show wpAny _ A ((compTurn (.ListComp y [⟨u,z,q,0⟩] scope pos) 0 it acc env).onRaise (λx=>do noteFrame x env;theTreesLotGoes x)) _ _ s;refine wpAny_noted ?_;rw[compTurn_list];refine wpAny_bind<|wpAny_standAt<|wpAny_bind<|wpAny_mono (turn n s B) (λr p D=>?_) λ_ _ h'=>False.elim h';cases r with
 |none=>exact wpAny_pure D
 |some v=>
  refine wpAny_bind<|wpAny_mono D (λ_ Y G=>?_) λ_ _ h'=>False.elim h';refine wpAny_bind<|wpAny_mono G (λ_ Q S=>wpAny_bind<|wpAny_mono S (λok Z F=>?_) λ_ _ h'=>False.elim h') λ_ _ h'=>False.elim h';cases ok with
  |false=>exact wpAny_pure ⟨rfl,F⟩
  |true=>
   exact wpAny_bind<|wpAny_bind<|wpAny_mono F (λx O T=>wpAny_bind<|wpAny_mono T (λ_ P C=>wpAny_pure<|wpAny_pure ⟨rfl,C⟩) λ_ _ h'=>False.elim h') λ_ _ h'=>False.elim h'
end L2
set_option linter.all false
namespace ST
open PySem PySem.SetTable
theorem Z4(l:List Nat)(j:Nat):l.countP (· < j)<=l.length:=List.countP_le_length
theorem P5:∀(l:List Nat)(j:Nat),l.Pairwise (· < ·)->∀i (h:i<l.length),(l[i]<j↔i<l.countP (· < j))
 |[],_,_,i,h=>by simp at h
 |x::r,j,hs,i,h=>by
  obtain⟨h1,u⟩:=AJf.mp hs;by_cases z:x<j
  .rw[List.countP_cons_of_pos<|by simpa using z];cases i with
   |zero=>simp[z]
   |succ i=>
    have:=P5 r j u i (by simpa using h);simp only[AJA];lia
  .have v:∀y∈r,¬ y<j:=λy q=>by have:=h1 y q;lia
   have h0:r.countP (· < j)=0:=AJV.mpr λy q=>by simpa using v y q
   rw[List.countP_cons_of_neg (by simpa using z),h0];cases i with
   |zero=>simp[z]
   |succ i=>
    simp only[AJA];have:=v _ (AJL<|by simpa using h);lia
theorem U6(xs:Array Nat)(j:Nat)(hs:xs.toList.Pairwise (· < ·)):∀(f lo hi:Nat),hi-lo<=f->hi<=xs.size->lo<=xs.toList.countP (· < j)->xs.toList.countP (· < j)<=hi->below.go xs j f lo hi=xs.toList.countP (· < j)
 |0,lo,hi,h1,h2,h3,h4=>by unfold below.go;grind
 |f+1,lo,hi,h1,h2,h3,h4=>by
  unfold below.go;by_cases y:lo<hi
  .rw[AGo y];have hm:(lo+hi) / 2<xs.size:=U
   have q:xs.getD ((lo+hi) / 2) j=xs.toList[(lo+hi) / 2]'(by simpa using hm):=by simp[Array.getD,hm]
   have:=P5 xs.toList j hs ((lo+hi) / 2) (by simpa using hm);dsimp only;rw[q];by_cases hc:xs.toList[(lo+hi) / 2]'(by simpa using hm)<j
   .rw[AGo hc];exact U6 xs j hs f _ hi AGg h2 U h4
   .rw[AGp hc];exact U6 xs j hs f lo _ (by clear h3;grind) U h3 (by have:=λz=>hc<|this.mpr z;lia)
  .rw[AGp y];lia
theorem U5(xs:Array Nat)(j:Nat)(hs:xs.toList.Pairwise (· < ·)):below xs j=xs.toList.countP (· < j):=by exact U6 xs j hs xs.size 0 xs.size U (AGy _) (AIO _) (by have:=Z4 xs.toList j;simpa using this)
theorem N7(xs:Array Nat)(j:Nat)(hs:xs.toList.Pairwise (· < ·))(i:Nat)(h:xs[i]? = some j):below xs j=i:=by
 obtain⟨hi,e⟩:=AJN.mp h;rw[U5 xs j hs];have h1:=P5 xs.toList j hs i (by simpa using hi);have z:xs.toList[i]'(by simpa using hi)=j:=by simpa using e
 rw[z]at h1;by_cases h3:xs.toList.countP (· < j)=i
 .exact h3
 .have y:xs.toList.countP (· < j)<xs.toList.length:=by rw[AHm];clear h3;lia
  have h4:=P5 xs.toList j hs _ y;have q:=AHy.mp hs _ _ y (by simpa using hi) U;rw[z]at q
  grind
theorem lV{t:SetTable}(hs:t.place.toList.Pairwise (· < ·)){i j:Nat}(h:t.place[i]? = some j):t.slot j=.live i:=by unfold slot;dsimp only;rw[N7 _ _ hs i h,h];simp
theorem AD7{t:SetTable}(hd:t.dummies=#[])(h:j∉t.place.toList):t.slot j=.empty:=by
 unfold slot;have h1:¬ (t.place[below t.place j]? == some j)=true:=by intro z;rw[AIA]at z;have:=Array.mem_of_getElem? z;exact h<|by simpa using this
 rw[AGp h1];have y:has t.dummies j=false:=by rw[hd];simp[has]
 rw[y];simp
theorem w9(xs:Array Nat)(j:Nat)(hs:xs.toList.Pairwise (· < ·))(Y:j∉xs.toList):(insertAt xs (below xs j) j).toList.Pairwise (· < ·):=by
 rw[SetTable.toList_insertAt,U5 xs j hs];have q:=P5 xs.toList j hs;rw[AHp];refine⟨hs.sublist<|AKD _ _,?_,?_⟩
 .rw[AJf];refine⟨λy p=>?_,hs.sublist<|List.drop_sublist _ _⟩;obtain⟨k,v,e⟩:=AI6 p;rw[List.getElem_drop]at e;rw[AJK]at v;have:=q (xs.toList.countP (· < j)+k) AGg;have Ax:y≠j:=λz=>Y<|z ▸ AJy p;rw[e]at this;lia
 .intro a ha b u;obtain⟨k,v,e⟩:=AI6 ha;rw[List.getElem_take]at e;rw[AIX]at v;have h1:=q k AGg;rw[e]at h1;have Q:=h1.mpr AGg;rcases AGz.mp u with rfl|u
  .exact Q
  .obtain⟨O,P,Z⟩:=AI6 u;rw[List.getElem_drop]at Z;rw[AJK]at P;have:=q (xs.toList.countP (· < j)+O) U;rw[Z]at this;lia
noncomputable def CJ(mask i:Nat):Nat:=runEnd mask i-i
theorem ADk(mask i:Nat):CJ mask i<=9:=by unfold CJ runEnd;split<;>lia
def Ic(mask:Nat)(p:Probe):Probe:=
 if p.more>0 then {p with j:=p.j+1,more:=p.more-1}else
 {p with j:=(leap mask p.i p.perturb).1,more:=CJ mask (leap mask p.i p.perturb).1,i:=(leap mask p.i p.perturb).1,perturb:=(leap mask p.i p.perturb).2}
def st0(mask:Nat)(h:Int):Probe:={j:=bits h%(mask+1),more:=CJ mask<|bits h%(mask+1),i:=bits h%(mask+1),perturb:=bits h,dummy:=none}
def road(mask:Nat)(h:Int):Nat->Probe
 |0=>st0 mask h
 |n+1=>Ic mask<|road mask h n
theorem lF(mask:Nat)(h:Int):∀n,(road mask h n).dummy=none
 |0=>rfl
 |n+1=>by have:=lF mask h n;unfold road Ic;split<;>simpa using this
noncomputable def BW(mask:Nat):Nat->Nat×Nat->Nat×Nat
 |0,x=>x
 |n+1,x=>leap mask (BW mask n x).1 (BW mask n x).2
noncomputable def L0(mask:Nat)(h:Int):Nat×Nat:=(bits h%(mask+1),bits h)
theorem Ta(mask:Nat)(h:Int)(r i pt:Nat)(z:road mask h r=⟨i,CJ mask i,i,pt,none⟩):∀k,k<=CJ mask i->road mask h (r+k)=⟨i+k,CJ mask i-k,i,pt,none⟩
 |0,_=>by simpa using z
 |k+1,hk=>by have y:=Ta mask h r i pt z k<|M1 hk;show Ic mask (road mask h<|r+k)=_;rw[y];unfold Ic;rw[AGo (by show CJ mask i-k>0;lia)];simp only[and_true];lia
theorem lG(mask:Nat)(h:Int):∀n,∃r,r<=10*n/\road mask h r=⟨(BW mask n<|L0 mask h).1,CJ mask (BW mask n<|L0 mask h).1,(BW mask n<|L0 mask h).1,(BW mask n<|L0 mask h).2,none⟩
 |0=>⟨0,AGy _,rfl⟩
 |n+1=>by
  obtain⟨r,hr,e⟩:=lG mask h n;have h1:=Ta mask h r _ _ e _<|AGy _;have hl:=ADk mask (BW mask n<|L0 mask h).1;refine⟨r+CJ mask (BW mask n<|L0 mask h).1+1,U,?_⟩;show Ic mask (road mask h<|r+CJ mask (BW mask n<|L0 mask h).1)=_;rw[h1];unfold Ic;rw[AGp (by show ¬ (CJ mask _-CJ mask _>0);lia)]
  rfl
theorem pG(h:Int):bits h<2 ^ 64:=by unfold bits;lia
theorem i7(mask:Nat)(x:Nat×Nat):∀n,(BW mask n x).2=x.2 / 32 ^ n
 |0=>by simp[BW]
 |n+1=>by unfold BW leap;dsimp only;rw[i7 mask x n,Nat.div_div_eq_div_mul,Nat.pow_succ]
theorem AAq(mask:Nat)(h:Int)(n:Nat)(hn:13<=n):(BW mask n<|L0 mask h).2=0:=by rw[i7];have h1:=pG h;have z:2 ^ 64<=32 ^ n:=AHd AGj<|Nat.pow_le_pow_right AGj hn;exact Nat.div_eq_of_lt<|AHI h1 z
noncomputable def AA(mask:Nat):Nat->Nat->Nat
 |0,i=>i
 |n+1,i=>(AA mask n i*5+1)%(mask+1)
theorem i6(mask:Nat)(h:Int):∀n,(BW mask (13+n)<|L0 mask h).1=AA mask n (BW mask 13<|L0 mask h).1
 |0=>rfl
 |n+1=>by show(leap mask (BW mask (13+n)<|L0 mask h).1 (BW mask (13+n)<|L0 mask h).2).1=_;rw[AAq mask h (13+n) U,i6 mask h n];show(AA mask n _*5+1+0 / 32)%(mask+1)=(AA mask n _*5+1)%(mask+1);simp
theorem yA(mask:Nat)(h:Int):∀n,(BW mask n<|L0 mask h).1<mask+1
 |0=>AKr _<|AKN _
 |n+1=>AKr _<|AKN _
theorem qt:∀i<8,∀j<8,∃n<8,AA 7 n i=j:=AGj
theorem qr:∀i<32,∀j<32,∃n<32,AA 31 n i=j:=AGk
def Good(mask:Nat):Prop:=mask=7\/mask=31
theorem i8{mask:Nat}(hm:Good mask)(h:Int)(hj:j<=mask):∃n,n<turns mask-1/\(BW mask n<|L0 mask h).1=j:=by
 have z:=yA mask h 13;have:∃n<mask+1,AA mask n (BW mask 13<|L0 mask h).1=j:=by
  rcases hm with rfl|rfl
  .exact qt _ z j U
  .exact qr _ z j U
 obtain⟨n,hn,e⟩:=this;exact⟨13+n,by unfold turns;lia,by rw[i6];exact e⟩
theorem ADg{mask:Nat}(hm:Good mask)(h:Int)(z:j<=mask):∃n,n<10*turns mask/\(road mask h n).j=j:=by obtain⟨n,hn,e⟩:=i8 hm h z;obtain⟨r,hr,y⟩:=lG mask h n;exact⟨r,by unfold turns at *;lia,by rw[y];exact e⟩
theorem jk:∀(v q:List Nat),v.Nodup->(∀x∈v,x∈q)->v.length<=q.length
 |[],_,_,_=>AIO _
 |x::r,q,hn,hs=>by obtain⟨h1,Z⟩:=AIQ.mp hn;have u:=hs x AGw;have:=jk r (q.erase x) Z λy p=>(List.mem_erase_of_ne (show y≠x from λz=>h1<|z ▸ p)).mpr<|hs y<|AGr _ p;rw[List.length_erase_of_mem u]at this;have hp:=AJp u;rw[AG6];lia
theorem fh(mask:Nat)(L:List Nat)(hn:L.Nodup)(hl:L.length<=mask)(hle:∀j∈L,j<=mask):∃j,j<=mask/\j∉L:=by refine AHn λh=>?_;have y:∀j,j∈List.range (mask+1)->j∈L:=λj q=>AHn λz=>h ⟨j,by have:=AGq.mp q;lia,z⟩;have:=jk _ _ (AJt) y;rw[AHD]at this;lia
theorem tW{mask:Nat}(hm:Good mask)(h:Int)(L:List Nat)(hn:L.Nodup)(u:L.length<=mask)(q:∀j∈L,j<=mask):∃n,n<10*turns mask/\(road mask h n).j∉L/\∀m<n,(road mask h m).j∈L:=by
 obtain⟨j,p,Z⟩:=fh mask L hn u q;obtain⟨n,hn,e⟩:=ADg hm h p;have v:∀k,(∃n,n<k/\(road mask h n).j∉L)->∃n,n<k/\(road mask h n).j∉L/\∀m<n,(road mask h m).j∈L:=by
  intro k
  induction k with
  |zero=>rintro⟨n,hn,_⟩;lia
  |succ k ih=>
   rintro⟨n,hn,e⟩;by_cases y:∃n,n<k/\(road mask h n).j∉L
   .obtain⟨Y,h1,Q,h3⟩:=ih y;exact⟨Y,HG h1,Q,h3⟩
   .have O:n=k:=by
     by_cases z:n<k
     .exact absurd ⟨n,z,e⟩ y
     .lia
    subst O;exact⟨n,hn,e,λm hm=>AHn λz=>y ⟨m,hm,z⟩⟩
 exact v _ ⟨n,hn,by rw[e];exact Z⟩
end ST
set_option linter.all false
namespace ST
open PySem PySem.SetTable
theorem kW{t:SetTable}(hs:t.place.toList.Pairwise (· < ·))(hd:t.dummies=#[])(z:Nat->Int)(h:Int)(N:Nat)(Z:(road t.mask h N).j∉t.place.toList):∀(f n:Nat),n<=N->N-n<f->(∀m,n<=m->m<N->(road t.mask h m).j∈t.place.toList)->(∃m i,n<=m/\m<N/\t.place[i]? = some (road t.mask h m).j/\z i=h/\(∀k,n<=k->k<m->∀i',t.place[i']? = some (road t.mask h k).j->z i'≠h)/\probe.go t z h f (road t.mask h n)=some (.candidate (road t.mask h m).j i<|road t.mask h<|m+1))\/((∀k,n<=k->k<N->∀i',t.place[i']? = some (road t.mask h k).j->z i'≠h)/\probe.go t z h f (road t.mask h n)=some (.empty (road t.mask h N).j none))
 |0,n,_,hf,_=>U
 |f+1,n,hn,hf,Bk=>by
  by_cases he:n=N
  .subst he;right;refine⟨λk h1 y=>U,?_⟩;unfold probe.go;rw[AD7 hd Z];rw[lF]
  .have O:=Bk n (AGy _) U;obtain⟨i,hi⟩:=AIv O;have q:=by simpa using hi
   have Y:=lV hs q;have inj:∀i',t.place[i']? = some (road t.mask h n).j->i'=i:=λi' e=>by rw[<-N7 _ _ hs i' e,N7 _ _ hs i q]
   by_cases hh:z i=h
   .left;refine⟨n,i,AGy _,U,q,hh,λk h1 y=>U,?_⟩;unfold probe.go;rw[Y];dsimp only;rw[AGo<|by simpa using hh]
    rfl
   .have step:probe.go t z h (f+1) (road t.mask h n)=probe.go t z h f (road t.mask h<|n+1):=by
     conv=>lhs;unfold probe.go
     rw[Y];dsimp only;rw[AGp<|by simpa using hh]
     rfl
    rw[step];have Q:∀i',t.place[i']? = some (road t.mask h n).j->z i'≠h:=λi' e=>by rw[inj i' e];exact hh
    rcases kW hs hd z h N Z f (n+1) U U (λm h1 y=>Bk m (M1 h1) y)with⟨m,P,h1,y,h3,D,v,u⟩|⟨v,u⟩
    .left;refine⟨m,P,M1 h1,y,h3,D,λk k1 k2=>?_,u⟩;by_cases p:k=n
     .subst p;exact Q
     .exact v k U k2
    .right;refine⟨λk k1 k2=>?_,u⟩;by_cases p:k=n
     .subst p;exact Q
     .exact v k U k2
section
variable{prog:Program}{w:World}{A:Around}{E:Value->Shared->Prop}{s:Shared}
abbrev knd(prog:Program)(w:World):=intKind prog w
noncomputable abbrev BQ(prog:Program)(w:World)(k:List Int):Int:=tupleKeyHash (knd prog w) k
structure Fc(prog:Program)(w:World)(h:Heap)(es:Array (Int×Value))(t:SetTable)(kk:List (List Int)):Prop where
 K9:t.dummies=#[]
 NA:Good t.mask
 EO:t.place.toList.Pairwise (· < ·)
 le:∀j∈t.place.toList,j<=t.mask
 sz:t.place.size=es.size
 RZ:es.size*5<t.mask*3
 len:kk.length=es.size
 ent:∀(i:Nat)(hh:Int)(v:Value),es[i]? = some (hh,v)->∃k b,kk[i]? = some k/\v=.ref b/\IsTupleKey (knd prog w) h k b/\hh=BQ prog w k
 nd:kk.Nodup
 reach:∀(i j:Nat)(k:List Int),t.place[i]? = some j->kk[i]? = some k->∃n,(road t.mask (BQ prog w k) n).j=j/\∀m<n,(road t.mask (BQ prog w k) m).j∈t.place.toList
theorem Fc.fits(T:Fc prog w h es t kk):t.fits es.size=true:=by unfold SetTable.fits SetTable.fill;rw[T.K9,T.sz];have:=T.RZ;simp;lia
theorem Fc.uQ(T:Fc prog w h es t kk):t.gaveWay=false:=by unfold SetTable.gaveWay;rcases T.NA with e|e<;>rw[e]<;>rfl
theorem zM(n:Nat)(h:carriedByValue v=true):ofAClassStatement n v=pure false:=by
 cases v with
 |ref a=>simp[carriedByValue]at h
 |_=>first|rfl|(cases n<;>rfl)
theorem nF{ks:List Int}(z:IsTupleKey (knd prog w) s.heap ks b)(h:Q false s):wpAny (model prog w) A (ofAClassStatement 8<|.ref b) Q E s:=by
 have Z:=z.typeIs;obtain⟨o,items,n,ho,hc,hd,hi⟩:=z;unfold ofAClassStatement;refine wpAny_bind<|wpAny_typeOf Z ?_;refine wpAny_bind<|wpAny_pure ?_;refine wpAny_bind<|wpAny_seqItems ho hd ?_;refine wpAny_bind ?_;rw[<-Array.forIn_toList];refine wpAny_forIn_list _ (λy r s'=>r.1=none/\s'=s/\∀v∈y,carriedByValue v=true) _ ?_ ?_ _ _ ⟨rfl,rfl,hi.byValue⟩
 .rintro v y r s' ⟨q,rfl,p⟩;rw[zM _<|p v AGw];exact wpAny_pure ⟨rfl,rfl,λu Y=>p u<|AGr _ Y⟩
 .rintro⟨r1,r2⟩ s' ⟨q,rfl,_⟩;subst q;exact wpAny_pure h
theorem AFd{k:List Int}(q:IsTupleKey (knd prog w) s.heap k b)(D:∀v∈l,∃y z,v=.ref z/\IsTupleKey (knd prog w) s.heap y z)(h:Q false s):wpAny (model prog w) A (searchCouldBeSeen (.ref b) l) Q E s:=by
 refine wpAny_bind ?_;refine wpAny_forIn_list _ (λp r s'=>r.1=none/\s'=s/\∀v∈p,∃y z,v=.ref z/\IsTupleKey (knd prog w) s.heap y z) _ ?_ ?_ _ _ ⟨rfl,rfl,D⟩
 .rintro v p r s' ⟨Z,rfl,Y⟩;obtain⟨y,z,rfl,O⟩:=Y v AGw;have P:=λu F=>Y u<|AGr _ F;refine wpAny_ite_split (λ_=>wpAny_pure ⟨rfl,rfl,P⟩) λ_=>?_;refine wpAny_bind<|wpAny_eqIsQuiet_tuple q ?_;refine wpAny_bind<|wpAny_eqIsQuiet_tuple O ?_;refine wpAny_bind<|nF q ?_;refine wpAny_bind<|nF O ?_;exact wpAny_pure ⟨rfl,rfl,P⟩
 .rintro⟨r1,r2⟩ s' ⟨Z,rfl,_⟩;subst Z;exact wpAny_pure h
theorem nG(ho:s.heap.get? a=some o) (hd:o.data=.set es ep t) (T:Fc prog w s.heap es t kk) (O:A.units<cLine) (B:IsTupleKey (knd prog w) s.heap k b) (Oi:N<10*turns t.mask) (P:(road t.mask (BQ prog w k) N).j∉t.place.toList) (Bk:∀m<N,(road t.mask (BQ prog w k) m).j∈t.place.toList) (h1:k∈kk->Q (.there none) s) (h2:k∉kk->Q (.free (road t.mask (BQ prog w k) N).j false) s) : ∀(f n:Nat)(G:Option Probe),G.getD (t.probeStart<|BQ prog w k)=road t.mask (BQ prog w k) n->n<=N->N-n<f->(∀(i j:Nat),kk[i]? = some k->t.place[i]? = some j->∀m<n,(road t.mask (BQ prog w k) m).j≠j)->
  wpAny (model prog w) A (setSearchFrom a (.ref b) (BQ prog w k) true f G) Q E s
 |0,n,_,_,_,hf,_=>U
 |f+1,n,G,FK,hn,hf,gm=>by
  refine wpAny_bind<|wpAny_setState_of ho hd T.fits ?_;dsimp only;rw[T.uQ];simp only[Bool.false_eq_true,if_false];rw[FK];have Wt:=kW T.EO T.K9 (λi=>(es[i]?.map (·.1)).getD 0) (BQ prog w k) N P (10*turns t.mask) n hn AGg λm _ hm=>Bk m hm;rcases Wt with⟨m,i,m1,m2,m3,m4,S,C⟩|⟨S,C⟩
  .generalize H:SetTable.probe t _ _ _=pr;have I:=H.symm.trans C;subst I;dsimp only;have hi:i<es.size:=by rw[<-T.sz];exact(AJN.mp m3).1
   obtain⟨⟨hh,v⟩,e⟩:∃x,es[i]? = some x:=⟨es[i],AHX hi⟩;obtain⟨h,b',ek,rfl,BL,rfl⟩:=T.ent i hh v e;have vE:∀u∈(es.filter λx=>x.1==BQ prog w k).toList.map (λx=>x.2),∃h b',u=Value.ref b'/\IsTupleKey (knd prog w) s.heap h b':=λu O=>by
    obtain⟨⟨h',u'⟩,hm,rfl⟩:=AHb.mp O;have Ck:=by have:=AHN.mp (by simpa using hm:(h',u')∈es.toList.filter (λx=>x.1==BQ prog w k));simpa using this.1
    obtain⟨i',sf⟩:=Array.getElem?_of_mem Ck;obtain⟨k2,b2,_,q,LR,_⟩:=T.ent i' h' u' sf;exact⟨k2,b2,q,LR⟩
   refine wpAny_ite_split (λ_=>wpAny_bind<|AFd B vE ?_) λ_=>?_
   all_goals
    rw[e];refine wpAny_bind<|wpAny_holding<|wpAny_eqBool_tuple O BL B ?_;refine wpAny_bind<|wpAny_setState_of ho hd T.fits ?_;dsimp only;by_cases JI:h=k
    .subst JI;simp only[decide_true];exact wpAny_pure<|h1<|AHx ek
    .rw[AHK JI];have O1:t.sameMemory t.moves t.mask=some true:=by unfold SetTable.sameMemory;simp
     rw[O1];dsimp only;rw[AGo rfl,lV T.EO m3];dsimp only;rw[e];refine wpAny_bind<|wpAny_isSame_ref_self ?_;refine nG ho hd T O B Oi P Bk h1 h2 f (m+1) _ rfl U U λy j2 q D F Ck=>?_;by_cases vi:F<n
     .exact gm y j2 q D F vi
     .by_cases LU:F=m
      .subst LU;intro z;have:y=i:=by rw[<-N7 _ _ T.EO y D,<-z,N7 _ _ T.EO i m3]
       subst this;rw[ek]at q;exact JI<|AHP q
      .intro z;have Ax:=S F U U y (by rw[z];exact D);have J7:y<es.size:=by rw[<-T.sz];exact(AJN.mp D).1
       obtain⟨⟨WY,v2⟩,Z⟩:∃x,es[y]? = some x:=⟨es[y],AHX J7⟩;obtain⟨k3,b3,Y,_,_,e3⟩:=T.ent y WY v2 Z;rw[q]at Y;cases Y;apply Ax;rw[Z];exact e3
  .generalize H:SetTable.probe t _ _ _=pr;have I:=H.symm.trans C;subst I;refine wpAny_pure<|h2 λHq=>?_;obtain⟨i,R⟩:=AIv Hq;have hi:i<t.place.size:=by rw[T.sz,<-T.len];exact(AGs.mp R).1
   have hp:=AHX hi;obtain⟨p,e1,hb⟩:=T.reach i _ k hp R;have gj:p<N:=by
    by_cases z:p<N
    .exact z
    .exfalso;by_cases z2:p=N
     .subst z2;apply P;rw[e1];exact AHx (by rw[AIC];exact hp)
     .exact P<|hb N U
   by_cases Ox:p<n
   .exact gm i _ R hp p Ox e1
   .have Ax:=S p (Le Ox) gj i (by rw[e1];exact hp);have J7:i<es.size:=by rw[<-T.sz];exact hi
    obtain⟨⟨WY,v2⟩,Z⟩:∃x,es[i]? = some x:=⟨es[i],AHX J7⟩;obtain⟨k3,b3,Y,_,_,e3⟩:=T.ent i WY v2 Z;rw[R]at Y;cases Y;apply Ax;rw[Z];exact e3
end
end ST
set_option linter.all false
namespace ST
open PySem PySem.SetTable
def rI(mask:Nat)(h:Int):Nat->Nat
 |0=>0
 |n+1=>rI mask h n+CJ mask (BW mask n<|L0 mask h).1+1
theorem TZ(mask:Nat)(h:Int):∀n,road mask h (rI mask h n)=⟨(BW mask n<|L0 mask h).1,CJ mask (BW mask n<|L0 mask h).1,(BW mask n<|L0 mask h).1,(BW mask n<|L0 mask h).2,none⟩
 |0=>rfl
 |n+1=>by
  have h1:=Ta mask h (rI mask h n) _ _ (TZ mask h n) _<|AGy _;show Ic mask (road mask h<|rI mask h n+CJ mask (BW mask n<|L0 mask h).1)=_;rw[h1];unfold Ic;rw[AGp (by show ¬ (CJ mask _-CJ mask _>0);lia)]
  rfl
def Gg(Ai:Array<|Option Nat)(j:Nat):Prop:=(Ai.getD j<|some 0).isSome=true
theorem lH(mask i:Nat):runEnd mask i+1-i=CJ mask i+1:=by unfold CJ runEnd;split<;>lia
theorem fM(p:Nat->Bool):∀(n:Nat),match (List.range n).find? p with|some k=>k<n/\p k=true/\∀m<k,p m=false|none=>∀m<n,p m=false:=by
 intro n;cases h:(List.range n).find? p with
 |none=>
  intro m hm;have:=List.find?_eq_none.mp h m (AGq.mpr hm);simpa using this
 |some k=>
  obtain⟨h1,y,bs,e,u⟩:=List.find?_eq_some_iff_append.mp h;have q:k∈List.range n:=by rw[e];simp
  refine⟨AGq.mp q,h1,λm hm=>?_⟩;have Bh:y.length=k:=by
   have z:(List.range n)[y.length]? = some k:=by rw[e];simp
   obtain⟨hl,v⟩:=AGs.mp z;rw[AJ7]at v;exact v
  have Z:=by
   have z:(List.range n)[m]? = some m:=by rw[AJ2 (by have:=AGq.mp q;exact Br hm this)]
   rw[e,AHR U]at z;exact AHx z
  simpa using u m Z
theorem uE{mask:Nat}(Ai:Array<|Option Nat)(h:Int)(ns:Nat)(p:¬ Gg Ai (BW mask ns<|L0 mask h).1):∀(d n f:Nat),n+d=ns->d<f->(∀m<rI mask h n,Gg Ai (road mask h m).j)->∃N,(∀m<N,Gg Ai (road mask h m).j)/\¬ Gg Ai (road mask h N).j/\layClean.free mask Ai f (BW mask n<|L0 mask h).1 (BW mask n<|L0 mask h).2=some (road mask h N).j:=by
 intro d
 induction d with
 |zero=>
  intro n f hn Q v;obtain⟨f,rfl⟩:∃g,f=g+1:=⟨f-1,U⟩;have O:n=ns:=U
  subst O;refine⟨rI mask h n,v,by rw[TZ];exact p,?_⟩;unfold layClean.free;rw[lH];have:=fM (λk=>(Ai.getD ((BW mask n<|L0 mask h).1+k)<|some 0).isNone)<|CJ mask (BW mask n<|L0 mask h).1+1;have h0:(Ai.getD ((BW mask n<|L0 mask h).1+0)<|some 0).isNone=true:=by unfold Gg at p;simpa using p
  cases q:(List.range<|CJ mask (BW mask n<|L0 mask h).1+1).find? (λk=>(Ai.getD ((BW mask n<|L0 mask h).1+k)<|some 0).isNone)with
  |none=>
   rw[q]at this;have z:=this 0 U;rw[h0]at z;cases z
  |some k=>
   rw[q]at this;obtain⟨k1,k2,k3⟩:=this;by_cases Z:k=0
   .subst Z;rw[TZ];simp
   .have z:=k3 0 U;rw[h0]at z;cases z
 |succ d ih=>
  intro n f hn Q v;obtain⟨f,rfl⟩:∃g,f=g+1:=⟨f-1,U⟩;unfold layClean.free;rw[lH];have:=fM (λk=>(Ai.getD ((BW mask n<|L0 mask h).1+k)<|some 0).isNone)<|CJ mask (BW mask n<|L0 mask h).1+1;have u:∀k,k<=CJ mask (BW mask n<|L0 mask h).1->(road mask h<|rI mask h n+k).j=(BW mask n<|L0 mask h).1+k:=λk Z=>by rw[Ta mask h (rI mask h n) _ _ (TZ mask h n) k Z]
  cases q:(List.range<|CJ mask (BW mask n<|L0 mask h).1+1).find? (λk=>(Ai.getD ((BW mask n<|L0 mask h).1+k)<|some 0).isNone)with
  |some k=>
   rw[q]at this;obtain⟨k1,k2,k3⟩:=this;refine⟨rI mask h n+k,λm hm=>?_,?_,by rw[u k U]⟩
   .by_cases Y:m<rI mask h n
    .exact v m Y
    .have z:=k3 (m-rI mask h n) U;have e:=u (m-rI mask h n) U;rw[show rI mask h n+(m-rI mask h n)=m by lia]at e;rw[e];unfold Gg;cases y:Ai.getD ((BW mask n<|L0 mask h).1+(m-rI mask h n)) (some 0)with
     |none=>rw[y]at z;cases z
     |some _=>rfl
   .rw[u k U];unfold Gg;intro z;cases y:Ai.getD ((BW mask n<|L0 mask h).1+k) (some 0)with
    |none=>rw[y]at z;cases z
    |some _=>rw[y]at k2;cases k2
  |none=>
   rw[q]at this;have P:=λm hm=>by
    by_cases Y:m<rI mask h n
    .exact v m Y
    .have Ck:m<rI mask h n+CJ mask (BW mask n<|L0 mask h).1+1:=hm;have z:=this (m-rI mask h n) U;have e:=u (m-rI mask h n) U;rw[show rI mask h n+(m-rI mask h n)=m by lia]at e;rw[e];unfold Gg;cases y:Ai.getD ((BW mask n<|L0 mask h).1+(m-rI mask h n)) (some 0)with
     |none=>rw[y]at z;cases z
     |some _=>rfl
   exact ih (n+1) f U U P
structure Laid(mask:Nat)(hs:List Int)(Ai:Array (Option Nat))(js:List Nat):Prop where
 sz:Ai.size=mask+1
 len:js.length=hs.length
 nd:js.Nodup
 le:∀j∈js,j<=mask
 own:∀(k j:Nat),js[k]? = some j->Ai[j]? = some (some k)
 As:∀j,j<=mask->j∉js->Ai[j]? = some none
 reach:∀(k j:Nat)(h:Int),js[k]? = some j->hs[k]? = some h->∃n,(road mask h n).j=j/\∀m<n,(road mask h m).j∈js
theorem Laid.Xn{mask:Nat}(L:Laid mask hs Ai js)(q:j<=mask):Gg Ai j↔j∈js:=by
 unfold Gg;constructor
 .intro z;refine AHn λhn=>?_;have e:=L.As j q hn;have y:j<Ai.size:=by rw[L.sz];exact KW q
  rw[AHX y]at e;simp only[y,dif_pos]at z;have v:=AHP e;rw[show Ai.getInternal j y=Ai[j]from rfl,v]at z;cases z
 .intro hm;obtain⟨k,u⟩:=AIv hm;have e:=L.own k j u;have y:j<Ai.size:=by rw[L.sz];exact KW q
  rw[AHX y]at e;simp only[y,dif_pos];have v:=AHP e;rw[show Ai.getInternal j y=Ai[j]from rfl,v]
  rfl
theorem TY{mask:Nat}(h:Int):∀n,(road mask h n).j<=mask/\(road mask h n).j+(road mask h n).more<=mask/\(road mask h n).i<=mask
 |0=>by have h1:bits h%(mask+1)<mask+1:=AKr _<|AKN _;show bits h%(mask+1)<=mask/\bits h%(mask+1)+CJ mask (bits h%(mask+1))<=mask/\bits h%(mask+1)<=mask;unfold CJ runEnd;split<;>lia
 |n+1=>by
  obtain⟨h1,h2,h3⟩:=TY (mask:=mask) h n;unfold road Ic;split
  .dsimp only;lia
  .dsimp only;have h4:(leap mask (road mask h n).i (road mask h n).perturb).1<mask+1:=AKr _<|AKN _;unfold CJ runEnd;split<;>lia
theorem iw{mask:Nat}(hm:Good mask):∀(u hs:List Int)(Ai:Array<|Option Nat)(js:List Nat),Laid mask hs Ai js->hs.length+u.length<=mask->∃Z O,Laid mask (hs++u) Z O/\(u.foldl (init:=some (Ai,hs.length)) λacc h=>(do
  let (Ai,k)<-acc
  let j<-layClean.free mask Ai (turns mask) (bits h%(mask+1))<|bits h
  pure (Ai.setIfInBounds j<|some k,k+1)))=some (Z,(hs++u).length)
 |[],hs,Ai,js,L,_=>⟨Ai,js,by simpa using L,AGh⟩
 |h::u,hs,Ai,js,L,Bh=>by
  have R:js.length<=mask:=by rw[L.len];lia
  obtain⟨j,D,B⟩:=fh mask js L.nd R L.le;obtain⟨ns,HB,G⟩:=i8 hm h D;have S:¬ Gg Ai (BW mask ns<|L0 mask h).1:=by rw[G,L.Xn D];exact B
  obtain⟨N,T,C,E⟩:=uE Ai h ns S ns 0 (turns mask) U (by unfold turns at *;lia) (λm hm=>by simp[rI]at hm);have v:=(TY (mask:=mask) h N).1;have F:=λz=>C<|(L.Xn v).mpr z;have hsz:(road mask h N).j<Ai.size:=by rw[L.sz];exact KW v
  have H:Laid mask (hs ++ [h]) (Ai.setIfInBounds (road mask h N).j<|some hs.length)<|js ++ [(road mask h N).j]:=by
   refine⟨by simpa using L.sz,by simp[L.len],?_,λx q=>?_,λk x y=>?_,λx q Y=>?_,λk x h' y hh=>?_⟩
   .rw[AKF];exact⟨L.nd,AGh,λa ha b Q=>by rw[AG3]at Q;subst Q;intro z;exact F<|z ▸ ha⟩
   .rcases AHJ.mp q with q|q
    .exact L.le x q
    .rw[AG3]at q;subst q;exact v
   .by_cases p:k<js.length
    .rw[AHR p]at y;have Y:(road mask h N).j≠x:=λz=>F<|z ▸ AHx y;rw[AJw Y];exact L.own k x y
    .rw[AHV<|Le p]at y;have P:k=js.length:=by have:=(AGs.mp y).1;simp at this;grind
     subst P;simp at y;subst y;rw[Array.getElem?_setIfInBounds_self_of_lt hsz,L.len]
   .have h1:=λz=>Y<|AHw _ z;have I:(road mask h N).j≠x:=λz=>Y (AHl _<|by simp[z]);rw[AJw I];exact L.As x q h1
   .by_cases p:k<js.length
    .rw[AHR p]at y;rw[AHR (by rw[<-L.len];exact p)]at hh;obtain⟨n,e,Q⟩:=L.reach k x h' y hh;exact⟨n,e,λm hm=>AHw _<|Q m hm⟩
    .rw[AHV<|Le p]at y;have P:k=js.length:=by have:=(AGs.mp y).1;simp at this;lia
     subst P;simp at y;subst y;rw[AHV (by rw[L.len];exact AGy _),L.len]at hh;simp at hh;subst hh;exact⟨N,rfl,λm hm=>AHw _<|(L.Xn (TY _ m).1).mp<|T m hm⟩
  obtain⟨Z,O,L2,t⟩:=iw hm u (hs ++ [h]) _ _ H (by simp at Bh ⊢;lia);refine⟨Z,O,by simpa using L2,?_⟩;rw[AIq];have f:(do
   let (Ai,k)<-(some (Ai,hs.length))
   let j<-layClean.free mask Ai (turns mask) (bits h%(mask+1))<|bits h
   pure (Ai.setIfInBounds j<|some k,k+1))=some (Ai.setIfInBounds (road mask h N).j<|some hs.length,(hs ++ [h]).length):=by
   show(layClean.free mask Ai (turns mask) (bits h%(mask+1))<|bits h).bind _=_;have:layClean.free mask Ai (turns mask) (bits h%(mask+1)) (bits h)=some (road mask h N).j:=E;rw[this];simp
  rw[f,t];simp
theorem xx{mask:Nat}(hm:Good mask)(hs:Array Int)(y:hs.size<=mask):∃Ai js,Laid mask hs.toList Ai js/\layClean mask hs=some Ai:=by
 have L0:Laid mask [] (Array.replicate (mask+1) none) []:=by refine⟨AGh,rfl,AKm,AGh,AGh,λj q _=>?_,AGh⟩;rw[Array.getElem?_replicate,AGo<|KW q]
 obtain⟨Ai,js,L,e⟩:=iw hm hs.toList [] _ _ L0 (by simpa using y);refine⟨Ai,js,by simpa using L,?_⟩;unfold layClean;rw[<-Array.foldl_toList];have z:=e;simp only[AHq]at z;rw[z]
 rfl
end ST
set_option linter.all false
namespace ST
open PySem PySem.SetTable
theorem Ra{α β:Type}(f:α->Option β):∀(l:List α)(_:∀x∈l,∃y,f x=some y)(i:Nat),(l.filterMap f)[i]? = (l[i]?).bind f
 |[],_,i=>AGh
 |x::r,h,i=>by
  obtain⟨y,q⟩:=h x AGw;rw[AKO q];cases i with
  |zero=>simp[q]
  |succ i=>
   exact Ra f r (λz v=>h z<|AGr _ v) i
noncomputable def live(mask:Nat)(Ai:Array<|Option Nat):List<|Nat×Nat:=(List.range<|mask+1).filterMap λj=>(Ai.getD j none).map (j,·)
theorem Mx{mask:Nat}(L:Laid mask hs Ai js)(j k:Nat):(j,k)∈live mask Ai↔js[k]? = some j:=by
 unfold live;rw[AJd];constructor
 .rintro⟨z,Z,e⟩;have q:z<=mask:=by have:=AGq.mp Z;lia
  have y:z<Ai.size:=by rw[L.sz];exact KW q
  cases ho:Ai.getD z none with
  |none=>rw[ho]at e;cases e
  |some k'=>
   rw[ho]at e;simp only[AHr,AHc,AJO]at e;obtain⟨rfl,rfl⟩:=e;simp only[Array.getD,y]at ho;have v:Ai[z]? = some (some k'):=by rw[AHX y];exact AHa some ho
   by_cases hm:z∈js
   .obtain⟨k2,u⟩:=AIv hm;have:=L.own k2 z u;rw[v]at this;simp only[AHc]at this;subst this;exact u
   .have:=L.As z q hm;rw[v]at this;cases this
 .intro h;have p:=L.le j<|AHx h;have y:j<Ai.size:=by rw[L.sz];exact KW p
  refine⟨j,AGq.mpr<|KW p,?_⟩;have:=L.own k j h;rw[AHX y]at this;have e:Ai.getD j none=some k:=by simp only[Array.getD,y];exact AHP this
  rw[e];rfl
theorem jB(mask:Nat)(Ai:Array<|Option Nat):(live mask Ai).Pairwise (λa b=>a.1<b.1):=by
 unfold live;rw[List.pairwise_filterMap];refine AKh.imp ?_;intro a b u x z y q;cases ha:Ai.getD a none with
 |none=>rw[ha]at z;cases z
 |some k=>
  cases v:Ai.getD b none with
  |none=>rw[v]at q;cases q
  |some l=>
   rw[ha]at z;rw[v]at q;cases z;cases q;exact u
theorem yE{mask:Nat}(L:Laid mask hs Ai js):((live mask Ai).map (·.2)).Perm<|List.range hs.length:=by
 have v:((live mask Ai).map (·.2)).Nodup:=by show List.Pairwise _ _;rw[AIf];have u:=jB mask Ai;have y:∀x∈live mask Ai,js[x.2]? = some x.1:=λx p=>(Mx L x.1 x.2).mp p;refine(List.Pairwise.and_mem.mp u).imp ?_;rintro a b ⟨ha,Z,DG⟩ z;have h1:=y a ha;have Y:=y b Z;rw[z,Y]at h1;lia
 refine(AJP v AJt).mpr λk=>?_;rw[AHb,AGq];constructor
 .rintro⟨⟨j,Q⟩,hm,rfl⟩;have:=(Mx L j Q).mp hm;rw[<-L.len];exact(AGs.mp this).1
 .intro q;rw[<-L.len]at q;exact⟨(js[k],k),(Mx L _ _).mpr<|AG8 q,rfl⟩
section
variable{prog:Program}{w:World}{A:Around}{E:Value->Shared->Prop}{s:Shared}
structure Uu(prog:Program)(w:World)(h:Heap)(es:Array (Int×Value))(kk:List (List Int)):Prop where
 len:kk.length=es.size
 ent:∀(i:Nat)(hh:Int)(v:Value),es[i]? = some (hh,v)->∃k b,kk[i]? = some k/\v=.ref b/\IsTupleKey (knd prog w) h k b/\hh=BQ prog w k
 nd:kk.Nodup
theorem ADb{t:SetTable}(T:Uu prog w h es kk)(f:sizeAbove n=32)(hsz:es.size*5<93) : ∃t' z B,t.relaid (es.map (·.1)) n=some (t',z)/\(z.filterMap (es[·]?)).size=es.size/\Fc prog w h (z.filterMap (es[·]?)) t' B/\B.Perm kk:=by
 have hm:Good 31:=.inr rfl;obtain⟨Ai,js,L,e⟩:=xx hm (es.map (·.1)) (by simp;lia);have Y:=yE L;have a:((es.map (·.1)).toList).length=es.size:=AGh
 rw[a]at Y;have G:∀k∈(live 31 Ai).map (·.2),k<es.size:=λk u=>AGq.mp<|Y.mem_iff.mp u;have vG:∀k∈(live 31 Ai).map (·.2),∃y,es[k]? = some y:=λk u=>⟨es[k]'(G k u),AHX _⟩;have S:∀k∈(live 31 Ai).map (·.2),∃y,kk[k]? = some y:=λk u=>⟨kk[k]'(by rw[T.len];exact G k u),AG8 _⟩;have vc:=by have:=Y.length_eq;simpa using this
 have C:(((live 31 Ai).map (·.2)).toArray.filterMap (es[·]?)).toList=((live 31 Ai).map (·.2)).filterMap (λk=>es[k]?):=by rw[Array.toList_filterMap]
 have O:(((live 31 Ai).map (·.2)).toArray.filterMap (es[·]?)).size=es.size:=by rw[<-AHm,C];have h1:=(Y.filterMap λk=>es[k]?).length_eq;rw[h1,filterMap_getElem?_range];simp
 have D:=by have h1:=Y.filterMap λk=>kk[k]?;rw[<-T.len,List.filterMap_getElem?_range_length]at h1;exact h1
 refine⟨{mask:=31,place:=((live 31 Ai).map (·.1)).toArray,dummies:=#[],finger:=t.finger,led:=t.led,moves:=t.movedTo<|sizeAbove n-1,plain:=t.plain},((live 31 Ai).map (·.2)).toArray,((live 31 Ai).map (·.2)).filterMap λk=>kk[k]?,?_,O,?_,D⟩
 .unfold relaid laid;rw[f,e]
  rfl
 .refine⟨rfl,hm,?_,λj hj=>?_,by rw[O];simpa using vc,by rw[O];exact hsz,?_,λi hh v Q=>?_,D.nodup_iff.mpr T.nd,λi j k hp u=>?_⟩
  .rw[AIf];exact jB 31 Ai
  .have C9:j∈(live 31 Ai).map (·.1):=by simpa using hj
   obtain⟨⟨P,k⟩,F,rfl⟩:=AHb.mp C9;exact L.le _<|AHx<|(Mx L P k).mp F
  .rw[O,<-T.len];exact D.length_eq
  .rw[<-AIC,C,Ra _ _ vG]at Q;rw[Ra _ _ S];cases ho:((live 31 Ai).map (·.2))[i]? with
   |none=>rw[ho]at Q;cases Q
   |some k=>
    rw[ho]at Q;exact T.ent k hh v Q
  .rw[Ra _ _ S]at u;have Z:((live 31 Ai).map (·.1))[i]? = some j:=by simpa using hp
   rw[AHi]at Z u;cases R:(live 31 Ai)[i]? with
   |none=>rw[R]at Z;cases Z
   |some x=>
    obtain⟨P,p⟩:=x;rw[R]at Z u;simp only[AHr,AHc]at Z;subst Z;have vX:=(Mx L P p).mp<|AHx R;have H:=by simpa using u
    have Ft:p<es.size:=by rw[<-T.len];exact(AGs.mp H).1
    obtain⟨⟨hh,v⟩,I⟩:∃x,es[p]? = some x:=⟨es[p],AHX Ft⟩;obtain⟨k2,b2,b,_,_,e3⟩:=T.ent p hh v I;rw[H]at b;cases b;have vM:((es.map (·.1)).toList)[p]? = some (BQ prog w k):=by
     rw[AIC,Array.getElem?_map,I,e3]
     rfl
    obtain⟨n1,r1,r2⟩:=L.reach p P _ vX vM;refine⟨n1,r1,λm F=>?_⟩;have:=r2 m F;obtain⟨q,hq⟩:=AIv this;have:=(Mx L _ q).mpr hq;have:(road 31 (BQ prog w k) m).j∈(live 31 Ai).map (·.1):=AHb.mpr ⟨_,this,rfl⟩;simpa using this
end
end ST
set_option linter.all false
namespace ST
open PySem PySem.SetTable
section
variable{prog:Program}{w:World}{A:Around}{E:Value->Shared->Prop}{s:Shared}
theorem iq{h h':Heap}(x:IsTupleKey (knd prog w) h ks a)(ho:h.get? d=some o)(hd:o.data=.set es ep t)(hs:Heap.SameBut d h h'):IsTupleKey (knd prog w) h' ks a:=by
 obtain⟨o',items,n,y,hc,z,hi⟩:=x;have q:a≠d:=by rintro rfl;obtain rfl:o'=o:=AHP<|y.symm.trans ho;rw[hd]at z;exact nomatch z
 exact⟨o',items,n,(hs.2 a q).trans y,hc,z,hi⟩
theorem Fc.move(T:Fc prog w h es t kk)(m:∀k b,IsTupleKey (knd prog w) h k b->IsTupleKey (knd prog w) h' k b):Fc prog w h' es t kk:=
 ⟨T.K9,T.NA,T.EO,T.le,T.sz,T.RZ,T.len,λi hh v e=>let ⟨k,b,e1,e2,e3,e4⟩:=T.ent i hh v e;⟨k,b,e1,e2,m k b e3,e4⟩,T.nd,T.reach⟩
theorem AFe{k:List Int}(y:IsTupleKey (knd prog w) s.heap k b)(h:Q true s):wpAny (model prog w) A (hashByValue 8<|.ref b) Q E s:=by
 have Y:=y.typeIs;obtain⟨o,items,n,ho,hc,hd,hi⟩:=y;refine wpAny_bind<|wpAny_specialOf Y F.slot_tuple_hash.lookup ?_;refine wpAny_bind<|wpAny_seqItems ho hd ?_;refine wpAny_bind ?_;rw[<-Array.forIn_toList];have q:∀{x:List Int}{vs:List Value},ItemsAre (knd prog w) x vs->∀v∈vs,∃i t,v=Value.int i t:=by
  intro x vs y
  induction y with
  |nil=>intro v z;simp at z
  |@cons k v' ks vs h1 _ ih=>
   intro v z;rcases AGz.mp z with rfl|z
   .obtain⟨t,e⟩:=Value.isInt_shape h1;exact⟨_,t,e⟩
   .exact ih v z
 refine wpAny_forIn_list _ (λp r s'=>r.1=none/\s'=s/\∀v∈p,∃i t,v=Value.int i t) _ ?_ ?_ _ _ ⟨rfl,rfl,q hi⟩
 .rintro v p r s' ⟨Z,rfl,q⟩;obtain⟨i,t,rfl⟩:=q v AGw;exact wpAny_pure ⟨rfl,rfl,λu O=>q u<|AGr _ O⟩
 .rintro⟨r1,r2⟩ s' ⟨Z,rfl,_⟩;subst Z;exact wpAny_pure h
theorem XE(xs:Array α)(p:Nat)(x:α)(hp:p<=xs.size)(i:Nat):(insertAt xs p x)[i]? = if i<p then xs[i]? else if i=p then some x else xs[i-1]?:=by
 rw[<-AIC,SetTable.toList_insertAt];by_cases h1:i<p
 .rw[AGo h1,AHR (by simp;lia),AKL h1,AIC]
 .rw[AGp h1,AHV (by rw[AIX];simp;lia)];have e:(List.take p xs.toList).length=p:=by rw[AIX];simp;lia
  rw[e];by_cases z:i=p
  .subst z;simp
  .rw[AGp z];obtain⟨d,hd⟩:∃d,i-p=d+1:=⟨i-p-1,U⟩;rw[hd,AH5,List.getElem?_drop,AIC]
   congr 1
   lia
theorem iF{α:Type}(xs:List α)(p:Nat)(x:α)(hp:p<=xs.length)(i:Nat):(xs.take p++x::xs.drop p)[i]? = if i<p then xs[i]? else if i=p then some x else xs[i-1]?:=by have:=XE xs.toArray p x (by simpa using hp) i;rw[<-AIC,SetTable.toList_insertAt]at this;simpa using this
theorem ABZ(T:Fc prog w h es t kk)(H:IsTupleKey (knd prog w) h k b)(I:k∉kk) (f:(road t.mask (BQ prog w k) N).j∉t.place.toList) (Bk:∀m<N,(road t.mask (BQ prog w k) m).j∈t.place.toList) (t1:SetTable) (HC:t1.mask=t.mask/\t1.dummies=t.dummies/\t1.place=(t.put (road t.mask (BQ prog w k) N).j).1.place) : ∃O,O.Perm (k::kk)/\Uu prog w h (insertAt es (t.put (road t.mask (BQ prog w k) N).j).2 (BQ prog w k,.ref b)) O/\(insertAt es (t.put (road t.mask (BQ prog w k) N).j).2 (BQ prog w k,Value.ref b)).size=es.size+1/\t1.place.size=es.size+1/\
  ((es.size+1)*5<t.mask*3->Fc prog w h (insertAt es (t.put (road t.mask (BQ prog w k) N).j).2 (BQ prog w k,.ref b)) t1 O):=by
 obtain⟨Z,m2,m3⟩:=HC;have hp:(t.put (road t.mask (BQ prog w k) N).j).2=below t.place (road t.mask (BQ prog w k) N).j:=rfl;have A9:(t.put (road t.mask (BQ prog w k) N).j).1.place=insertAt t.place (below t.place (road t.mask (BQ prog w k) N).j) (road t.mask (BQ prog w k) N).j:=rfl;rw[A9]at m3;rw[hp];have Y:below t.place (road t.mask (BQ prog w k) N).j<=t.place.size:=by rw[U5 _ _ T.EO];have:=Z4 t.place.toList (road t.mask (BQ prog w k) N).j;simpa using this
 generalize B:(road t.mask (BQ prog w k) N).j=jj at *
 generalize wI:below t.place jj=p at *
 have G:kk.length=t.place.size:=by rw[T.sz];exact T.len
 have hsz:(insertAt es p (BQ prog w k,Value.ref b)).size=es.size+1:=by
  rw[<-AHm,SetTable.toList_insertAt];simp;have:=T.sz
  grind
 have hsz2:t1.place.size=es.size+1:=by
  rw[m3,<-AHm,SetTable.toList_insertAt];simp;have:=T.sz
  grind
 have P:=by
  have:=List.perm_middle (a:=k) (l₁:=kk.take p) (l₂:=kk.drop p)
  rwa [AKn]at this
 have Q:Uu prog w h (insertAt es p (BQ prog w k,.ref b)) (kk.take p++k::kk.drop p):=by
  refine⟨?_,λi hh v e=>?_,P.nodup_iff.mpr<|AIQ.mpr ⟨I,T.nd⟩⟩
  .rw[hsz,P.length_eq,AG6,T.len]
  .rw[XE es p _ (by rw[<-T.sz];exact Y)]at e;rw[iF kk p k (by rw[G];exact Y)];by_cases h1:i<p
   .rw[AGo h1]at e ⊢;exact T.ent i hh v e
   .rw[AGp h1]at e ⊢;by_cases u:i=p
    .rw[AGo u]at e ⊢;cases e;exact⟨k,b,rfl,rfl,H,rfl⟩
    .rw[AGp u]at e ⊢;exact T.ent (i-1) hh v e
 refine⟨_,P,Q,hsz,hsz2,λED=>?_⟩;have D:∀x∈t.place.toList,x∈t1.place.toList:=λx Hr=>by rw[m3];exact(SetTable.insertAt_perm t.place p jj).mem_iff.mpr (by simpa using Or.inl (by simpa using Hr))
 refine⟨by rw[m2,T.K9],by rw[Z];exact T.NA,?_,λj S=>?_,by rw[hsz2,hsz],by rw[hsz,Z];exact ED,Q.len,Q.ent,Q.nd,λi j C y q=>?_⟩
 .rw[m3,<-wI];exact w9 t.place jj T.EO f
 .rw[m3]at S;have:=(SetTable.insertAt_perm t.place p jj).mem_iff.mp S;rw[Z];rw[Array.toList_push]at this;rcases AHJ.mp this with z|z
  .exact T.le j z
  .rw[AG3]at z;rw[z,<-B];exact(TY _ N).1
 .rw[m3,XE t.place p jj Y]at y;rw[iF kk p k (by rw[G];exact Y)]at q;rw[Z];by_cases h1:i<p
  .rw[AGo h1]at y q;obtain⟨n,F,R⟩:=T.reach i j C y q;exact⟨n,F,λm hm=>D _<|R m hm⟩
  .rw[AGp h1]at y q;by_cases u:i=p
   .rw[AGo u]at y q;cases y;cases q;exact⟨N,B,λm hm=>D _<|Bk m hm⟩
   .rw[AGp u]at y q;obtain⟨n,F,R⟩:=T.reach (i-1) j C y q;exact⟨n,F,λm hm=>D _<|R m hm⟩
def IZ(prog:Program)(w:World)(h:Heap)(a:Addr)(ks:List<|List Int):Prop:=
 ∃o es z t kk,h.get? a=some o/\o.ExactSet/\o.data=.set es z t/\Fc prog w h es t kk/\kk.Perm ks
theorem ft{h:Heap}(ho:h.get? a=some o)(hd:o.data=.set es z t) : (h.update a<|Obj.putSet es' t').get? a=some {o with data:=.set es' (z+1) t'}:=by have:=Heap.get?_update_self (Obj.putSet es' t') ho (by rw[putSet_of es' t' hd];rfl);rw[putSet_of es' t' hd]at this;exact this
theorem AFb(hS:IZ prog w s.heap a ks)(P:IsTupleKey (knd prog w) s.heap k b)(hu:A.units<cLine)(ED:ks.length+1<=18) (h:∀h' r,Heap.SameBut a s.heap h'->IZ prog w h' a (if k∈ks then ks else k::ks)->Q r {s with heap:=h'}):wpAny (model prog w) A (setAddHashed a (.ref b)<|BQ prog w k) Q E s:=by
 obtain⟨o,es,ep,t,kk,ho,q,hd,T,u⟩:=hS;refine wpAny_holding<|wpAny_bind<|wpAny_setState_of ho hd T.fits ?_;dsimp only;have HA:=T.EO.imp λh=>AG7 h;have Bh:t.place.toList.length<=t.mask:=by have h1:=T.sz;have h2:=T.RZ;simp;lia
 obtain⟨N,D,B,G⟩:=tW T.NA (BQ prog w k) t.place.toList HA Bh T.le;have Ft:=u.length_eq;refine wpAny_bind (nG ho hd T hu P D B G ?_ ?_ 100000 0 none rfl (AIO _) (by have:=T.NA;unfold turns at D;rcases this with e|e<;>rw[e]at D<;>lia) (λ_ _ _ _ m hm=>U))
 .intro O;refine wpAny_pure ?_;have:=h s.heap false<|Heap.SameBut.refl a s.heap;rw[AGo<|u.mem_iff.mp O]at this;exact this ⟨o,es,ep,t,kk,ho,q,hd,T,u⟩
 .intro O;have S:=λz=>O<|u.mem_iff.mpr z;refine wpAny_bind<|wpAny_setState_of ho hd T.fits ?_;have fin:∀t1:SetTable,(t1.mask=t.mask/\t1.dummies=t.dummies/\t1.place=(t.put (road t.mask (BQ prog w k) N).j).1.place)->wpAny (model prog w) A (do
    storeSet a (insertAt es (t.put (road t.mask (BQ prog w k) N).j).2 (BQ prog w k,.ref b)) t1
    if(
     !false&&t1.tooFull)=true then do
     setRelay a (grown<|es.size+1)
     pure true
     else pure true) Q E s:=by
   intro t1 p;obtain⟨KQ,GL,T0,hsz,hsz2,hT⟩:=ABZ T P O B G t1 p;have F:t1.fill=es.size+1:=by
    unfold SetTable.fill;rw[hsz2,p.2.1,T.K9]
    rfl
   have hsn:es.size=ks.length:=by rw[<-T.len,Ft]
   refine wpAny_bind (wpAny_storeSet_of ho hd ?_ (by rw[hsz,sizeLine_eq];lia));have Z:=ft (es':=insertAt es (t.put (road t.mask (BQ prog w k) N).j).2 (BQ prog w k,Value.ref b)) (t':=t1) ho hd;have R:=Heap.SameBut.update s.heap a<|Obj.putSet (insertAt es (t.put (road t.mask (BQ prog w k) N).j).2 (BQ prog w k,Value.ref b)) t1;generalize AGK:insertAt es (t.put (road t.mask (BQ prog w k) N).j).2 (BQ prog w k,Value.ref b)=OS at *
   have C:∀k2 b2,IsTupleKey (knd prog w) s.heap k2 b2->IsTupleKey (knd prog w) (s.heap.update a<|Obj.putSet OS t1) k2 b2:=λ_ _ z=>iq z ho hd R;have H:=GL.trans<|u.cons k;by_cases v:t1.tooFull=true
   .rw[AGo (by rw[v];rfl)];have I:=by unfold SetTable.tooFull at v;rw[F,p.1]at v;simpa using v
    have Y:t.mask=7/\es.size=4:=by
     have h1:=T.RZ;rcases T.NA with e|e
     .rw[e]at h1 I;exact⟨e,by clear ED;lia⟩
     .rw[e]at I;clear h1;lia
    have n:sizeAbove (grown<|es.size+1)=32:=by rw[Y.2];rfl
    obtain⟨t',y,xr,wK,f,T',Wq⟩:=ADb T0 n (by rw[hsz,Y.2];decide);have vJ:t1.fits OS.size=true:=by
     unfold SetTable.fits;rw[F,hsz2,hsz,p.1,Y.1,Y.2]
     rfl
    refine wpAny_bind ?_;refine wpAny_bind<|wpAny_setState_of Z rfl vJ ?_;rw[n];refine wpAny_bind (wpAny_of_eq (a:=(y.filterMap (OS[·]?),t')) ?_ ?_)
    .rw[wK];show(if(_ != _)=true then _ else _)=_;rw[f];simp
    .refine wpAny_storeSet_of Z rfl ?_ (by rw[f,hsz,Y.2];decide);have x:=Heap.SameBut.update (s.heap.update a<|Obj.putSet OS t1) a (Obj.putSet (y.filterMap (OS[·]?)) t');refine wpAny_pure ?_;have:=h _ true<|R.trans x;rw[AGp S]at this;refine this ⟨_,_,_,_,xr,ft Z rfl,q,rfl,T'.move λ_ _ z=>iq (C _ _ z) Z rfl x,Wq.trans H⟩
   .rw[AGp<|by simpa using v];refine wpAny_pure ?_;have:=h _ true R;rw[AGp S]at this;refine this ⟨_,_,_,_,KQ,Z,q,rfl,(hT ?_).move C,H⟩;unfold SetTable.tooFull at v;rw[F,p.1]at v;lia
  by_cases A9:(t.put (road t.mask (BQ prog w k) N).j).1.plain=true
  .rw[AGo A9];refine wpAny_bind<|AFe P ?_;simp only[AIN];refine fin _ ⟨rfl,?_,rfl⟩;show(if has t.dummies _=true then _ else t.dummies)=t.dummies;rw[T.K9];simp[has]
  .rw[AGp A9];refine wpAny_bind<|wpAny_pure ?_;simp only[AIN];refine fin _ ⟨rfl,?_,rfl⟩;show(if has t.dummies _=true then _ else t.dummies)=t.dummies;rw[T.K9];simp[has]
end
end ST
set_option linter.all false
set_option maxRecDepth 100000
namespace ST
open PySem PySem.SetTable
section
variable{prog:Program}{w:World}{A:Around}{E:Value->Shared->Prop}{s:Shared}
noncomputable def Em:List (List Int)->List (List Int)->List (List Int)
 |acc,[]=>acc
 |acc,k::r=>Em (if k∈acc then acc else k::acc) r
theorem ml:∀(l acc:List<|List Int),(Em acc l).length<=acc.length+l.length
 |[],acc=>by unfold Em;simp
 |k::r,acc=>by refine AHd (ml r _) ?_;split<;>simp<;>lia
theorem PF{h h':Heap}(z:IsTupleKey (knd prog w) h k b)(m:∀o,h.get? b=some o->h'.get? b=some o):IsTupleKey (knd prog w) h' k b:=by obtain⟨o',items,n,y,hc,q,hi⟩:=z;exact⟨o',items,n,m o' y,hc,q,hi⟩
def oY(S I:Addr)(h h':Heap):Prop:=∀b o,b≠S->b≠I->h.get? b=some o->h'.get? b=some o
theorem AFM{items:Array Value}{kks:List (List Int)}(hh:A.in1.handled=none)(a:A.in1.units<cLine)(P:S≠I)(Rv:l≠S)(Wf:l≠I){R:Result->Shared->Prop}(Bh:kks.length=items.size)(gi:items.size<=17) : ∀(k i:Nat)(s:Shared)(acc:List<|List Int),items.size-i=k->i<=items.size->acc.length<=i->s.heap.IsList l items->s.heap.IsListIter I l i->IZ prog w s.heap S acc->
  (∀(j:Nat)(v:Value),items[j]? = some v->∃q b,kks[j]? = some q/\v=.ref b/\b≠S/\b≠I/\IsTupleKey (knd prog w) s.heap q b)->
  (∀h' tk,oY S I s.heap h'->IZ prog w h' S (Em acc<|kks.drop i)->R (.ok<|.ret .none) {s with heap:=h',toks:=tk})->
  codeAny (model prog w) A (.builtin "set.update.loop" ⟨[.ref S,.ref I],[]⟩) R s:=by
 intro k
 induction k with
 |zero=>
  intro i s acc hk hi h Q Z D hit hR;have gS:i=items.size:=AGg
  refine codeAny_builtin AJg ?_;refine wpAny_bind (wpAny_pyNext_list_end hh Z Q (by simp;lia) λh' B=>?_);have uo:IZ prog w h' S acc:=by obtain⟨o,es,G,t,kk,ho,p,hd,T,hp⟩:=D;refine⟨o,es,G,t,kk,B S o P ho,p,hd,T.move λk' b z=>?_,hp⟩;obtain⟨oI,C,u6,H⟩:=Z;refine PF z λo' e=>B b o' (λzz=>?_) e;subst zz;obtain⟨o2,xF,n2,Y,u5,u,_⟩:=z;rw[C]at Y;cases Y;rw[H]at u;cases u
  refine wpAny_pure ?_;have:=hR h' s.toks λb o h1 n e=>B b o n e;rw[List.drop_of_length_le (U:kks.length<=i)]at this;exact this uo
 |succ k ih=>
  intro i s acc hk hi h Q Z D hit hR;have BA:i<items.size:=AGg
  have hv:=AHX BA;obtain⟨q,b,eq,ev,hbS,u3,Wb⟩:=hit i _ hv;refine codeAny_builtin AJg ?_;refine wpAny_bind<|wpAny_pyNext_list_item Z Q hv λh1 uf sb=>?_;have y:∀c o,c≠I->s.heap.get? c=some o->h1.get? c=some o:=λc o hc e=>(sb.2 c hc).trans e;rw[ev];refine wpAny_bind<|wpAny_holding ?_;refine wpAny_holding ?_;have gd:=PF Wb λo e=>y b o u3 e;have uq:IZ prog w h1 S acc:=by obtain⟨o,es,G,t,kk,ho,p,hd,T,hp⟩:=D;refine⟨o,es,G,t,kk,y S o P ho,p,hd,T.move λk' c z=>?_,hp⟩;obtain⟨oI,C,u6,H⟩:=Z;refine PF z λo' e=>y c o' (λzz=>?_) e;subst zz;obtain⟨o2,xF,n2,Y,u5,u,_⟩:=z;rw[C]at Y;cases Y;rw[H]at u;cases u
  refine wpAny_bind<|wpAny_pyHash_tuple a gd ?_;refine AFb (s:={s with heap:=h1,toks:=s.toks+(q.length+1)}) uq gd a U λn r f MX=>?_;refine wpAny_pure ⟨plainId_quiet PyProof.Rows.F.plain_set_update_loop _,?_⟩;have O:∀c o,c≠S->h1.get? c=some o->n.get? c=some o:=λc o hc e=>(f.2 c hc).trans e;refine ih (i+1) _ _ (by clear hi;grind) BA ?_ ?_ ?_ MX (λj v hj=>?_) λh3 tk ht ur=>?_
  .split
   .exact M5 h
   .simp;lia
  .exact Q.at λo e=>O l o Rv<|y l o Wf e
  .exact uf.at λo e=>O I o (AHh P) e
  .obtain⟨q',x,e1,e2,e3,e4,e5⟩:=hit j v hj;exact⟨q',x,e1,e2,e3,e4,PF e5 λo e=>O x o e3<|y x o e4 e⟩
  .have Ol:kks.drop i=q::kks.drop (i+1):=by
    have G8:i<kks.length:=U
    rw[AIb G8];rw[AG8 G8]at eq;rw[AHP eq]
   refine hR h3 tk (λc o c1 c2 e=>ht c o c1 c2<|O c o c1<|y c o c2 e) ?_;rw[Ol];exact ur
end
end ST
set_option linter.all false
set_option maxRecDepth 100000
namespace ST
open PySem PySem.SetTable
section
variable{prog:Program}{w:World}{A:Around}{E:Value->Shared->Prop}{s:Shared}
noncomputable abbrev Iw(led:Bool):Obj:={cls:=.type "set",dict:=none,data:=.set #[] 0 (.fresh 0 0 led)}
theorem uG(led:Bool):Fc prog w h #[] (.fresh 0 0 led) []:=
 by
 refine⟨rfl,.inl rfl,.nil,(λj z=>by cases z),rfl,(AGj:0*5<7*3),rfl,λi hh v e=>?_,AKm,λi j k e _=>?_⟩
 .simp at e
 .simp[SetTable.fresh]at e
set_option maxHeartbeats 3200000 in
theorem qC(hh:A.handled=none)(hu:A.units+8<cLine)(f:s.heap.IsList l items)(x:kks.length=items.size)(a:items.size<=17) (hit:∀(j:Nat)(v:Value),items[j]? = some v->∃q b,kks[j]? = some q/\v=.ref b/\IsTupleKey (knd prog w) s.heap q b) (h:∀(h':Heap)(tk:Nat),IZ prog w h' s.heap.objs.size (Em [] kks)->(∀b o,s.heap.get? b=some o->h'.get? b=some o)->Q (.ref s.heap.objs.size) {s with heap:=h',toks:=tk}) : wpAny (model prog w) A (call (.type "set") [.ref l]) Q E s:=by
 obtain⟨c0,tl0,AGM⟩:=F.called_set.mro;have AGW:=F.called_set.made;have AGb:=F.called_set.sub;refine wpAny_call<|codeAny_of_tree ?_;show wpAny _ _ (callAny (.type "set") _) _ _ _;refine wpAny_pure ⟨Code.quiet_builtin _ AGk,codeAny_builtin F.entry_type_call ?_⟩;rw[Around.under_plain (weight_type_call_type "set" [.ref l] []) rfl];have nt0:=F.called_set.notType;have cc0:=F.called_set.canCreate;have ct0:=F.typeCall_set_1<|.ref l
 repeat (any_goals (first|assumption|wp_step))
 let made (led:Bool):Shared:={s with heap:=s.heap.push (Iw led)}
 refine codeAny_mono (code_set_new_1 (.ref l) (E:=E) (Q₁:=λD st=>∃led:Bool,D=.ref s.heap.objs.size/\st=made led) λled=>⟨led,rfl,rfl⟩) λr1 st1 Z=>?_;cases r1 with
 |error e=>exact Z
 |ok fl=>
  cases fl with
  |ret D=>
   obtain⟨led,rfl,rfl⟩:=Z;have B:(s.heap.push<|Iw led).get? s.heap.objs.size=some (Iw led):=Heap.get?_push_size _ rfl;have Y:Shared.TypeIs (made led) (.ref s.heap.objs.size) "set":=⟨_,B,rfl⟩;have li0:=F.called_set.init.lookup;have bi0:=F.called_set.init.bind<|.ref s.heap.objs.size;show wpAny _ _ _ _ _ (made led)
   repeat (any_goals (first|assumption|wp_step))
   refine codeAny_mono (codeAny_call_builtin (R:=wants (λrv G=>rv=.none/\∃z tk,G={s with heap:=z,toks:=tk}/\IZ prog w z s.heap.objs.size (Em [] kks)/\(∀b o,s.heap.get? b=some o->z.get? b=some o)) E)
    F.called_set.init.plain F.entry_set_init (check_set_init_1 Y ?_)) λr2 G O=>?_
   .obtain⟨ol,T,C,H,Fs⟩:=id f;obtain⟨AGZ,zL,AGa,P⟩:=ol;simp only at C Fs;subst C;subst Fs;have v3:(s.heap.push<|Iw led).get? l=some {cls:=.type "list",dict:=zL,data:=.seq items H,slots:=P}:=Heap.get?_push_of_some _ T;have AGP:=F.sub_list_set;have AGO:=F.sub_list_frozenset;have Ax:(Value.type "list" == Value.type "dict")=false:=AGj
    have n:(s.heap.push<|Iw led).IsList l items:=⟨_,v3,rfl,H,rfl⟩;unfold Builtin.«set.__init__» noKeywords Builtin.Frozenset.updateFrom;generalize uj:pyIter=PI
    wp_walk
    subst uj;refine wpAny_pyIter_list n ?_;refine wpAny_bind<|wpAny_runValue ?_;have t:l<s.heap.objs.size:=Heap.lt_size T;have u:(s.heap.push<|Iw led).objs.size=s.heap.objs.size+1:=Heap.size_push ..;have Oj:s.heap.objs.size≠(s.heap.push<|Iw led).objs.size:=by rw[u];exact AG7<|Nat.lt_succ_self _
    have Wf:l≠(s.heap.push<|Iw led).objs.size:=by rw[u];exact AG7<|AJF t
    refine AFM (l:=l) (items:=items) (kks:=kks) (S:=s.heap.objs.size) (I:=(s.heap.push<|Iw led).objs.size) (by simp[hh]) (by simp;lia) Oj (AG7 t) Wf x a (items.size-0) 0 _ [] U (AIO _) (AIO _) (n.push _) ⟨_,Heap.get?_push_size _ rfl,rfl,rfl⟩ ?hS0 ?hit ?hR
    case hS0=>exact⟨_,_,_,_,[],Heap.get?_push_of_some _ B,⟨rfl,rfl,rfl⟩,rfl,uG led,.nil⟩
    case hit=>
     intro j v hj;obtain⟨q,b,e1,e2,e3⟩:=hit j v hj;have y:b<s.heap.objs.size:=by obtain⟨o2,_,_,e4,_⟩:=e3;exact Heap.lt_size e4
     exact⟨q,b,e1,e2,AG7 y,by rw[u];exact AG7<|AJF y,PF e3 λo e=>Heap.get?_push_of_some _ (Heap.get?_push_of_some _ e)⟩
    case hR=>
     intro z tk ht p;rw[AKo]at p;refine wpAny_pure ?_;show wpAny _ _ (ret Value.none) _ _ _;refine wpAny_pure ⟨rfl,z,tk,rfl,p,λb o e=>?_⟩;have y:=Heap.lt_size e;exact ht b o (AG7 y) (by rw[u];exact AG7<|AJF y)<|Heap.get?_push_of_some _ (Heap.get?_push_of_some _ e)
   .cases r2 with
    |error e=>exact O
    |ok tY=>
     cases tY with
     |ret rv=>
      obtain⟨rfl,z,tk,rfl,p,LR⟩:=O
      repeat (any_goals (first|assumption|wp_step))
      exact h _ _ p LR
     |_=>exact O.elim
  |_=>exact Z.elim
end
end ST
namespace L2
open PySem PySem.Spec PyProof.Rows
noncomputable def HP(env:Env):Str×NameKind->Str×NameKind:=λ(n,k)=>if(k==NameKind.free&&env.scope.kind == .function&&env.kindOf n==some .cell)then(n,NameKind.cell)else(n,k)
theorem lA(env:Env)(y:Str×NameKind):(HP env y).1=y.1:=by unfold HP;dsimp only;split<;>rfl
theorem lB(env:Env)(y:Str×NameKind):((HP env y).2=.cell/\y.2=.free)\/(HP env y).2=y.2:=by
 unfold HP;dsimp only;split
 .rename_i h;simp only[AGx,AIA]at h;exact .inl ⟨rfl,h.1.1⟩
 .exact .inr rfl
theorem jE{env:Env}:∀{names:List (Str×NameKind)}{x:Str},names.lookup x=some .free->(names.map<|HP env).lookup x=some .cell\/(names.map<|HP env).lookup x=some .free
 |[],_,h=>by simp at h
 |(n,k)::r,x,h=>by
  have p:=@jE env r x;have q:=lA env (n,k);have v:=lB env (n,k);rw[AGv];generalize HP env (n,k)=y at q v;obtain⟨m,j⟩:=y;obtain rfl:m=n:=q;cases u:x==m with
  |true=>
   simp only[AII,u]at h ⊢;cases h;rcases v with⟨z,_⟩|z
   .exact .inl<|AHa some z
   .exact .inr<|AHa some z
  |false=>
   simp only[AII,u]at h ⊢;exact p h
theorem fj{env:Env}:∀{names:List (Str×NameKind)}{x:Str},((names.map<|HP env).lookup x=some .cell\/(names.map<|HP env).lookup x=some .free)->(x,NameKind.free)∈names\/names.lookup x=some .cell
 |[],_,h=>by simp at h
 |(n,k)::r,x,h=>by
  have u:=@fj env r x;have q:=lA env (n,k);have v:=lB env (n,k);rw[AGv]at h;generalize HP env (n,k)=y at q v h;obtain⟨m,j⟩:=y;obtain rfl:m=n:=q;cases z:x==m with
  |true=>
   obtain rfl:x=m:=by simpa using z
   simp only[AII,z,AHc]at h ⊢;rcases v with⟨_,rfl⟩|rfl
   .exact .inl AGw
   .rcases h with rfl|rfl
    .exact .inr rfl
    .exact .inl AGw
  |false=>
   simp only[AII,z]at h ⊢;rcases u h with e|e
   .exact .inl<|AGr _ e
   .exact .inr e
theorem Qp:∀(names:List<|Str×NameKind)(n:Nat)(acc:List<|Str×Addr),cellsFrom n names acc=cellsFrom n names []++acc
 |[],_,_=>rfl
 |(x,k)::r,n,acc=>by
  unfold cellsFrom;split
  .simp only[Qp r (n+1) ((x,n)::acc),Qp r (n+1) [(x,n)],AKG];rfl
  .exact Qp r n acc
theorem VE:∀(names:List<|Str×NameKind)(n:Nat)(acc:List<|Str×Addr){x:Str}{c:Addr},(x,c)∈cellsFrom n names acc->(x,c)∈acc\/(x,NameKind.cell)∈names
 |[],_,_,_,_,h=>.inl h
 |(y,k)::r,n,acc,x,c,h=>by
  unfold cellsFrom at h;split at h
  .rename_i q;rcases VE r _ _ h with z|z
   .rcases AGz.mp z with e|e
    .right;have v:x=y:=AHa Prod.fst e;have u:=by simpa using q
     rw[v,u];exact AGw
    .exact .inl e
   .exact .inr<|AGr _ z
  .rcases VE r _ _ h with z|z
   .exact .inl z
   .exact .inr<|AGr _ z
theorem My{l m:List (Str×Addr)}(h:(l++m).lookup x=some c):l.lookup x=some c\/(l.lookup x=none/\m.lookup x=some c):=by
 rw[AJ8]at h;cases e:l.lookup x with
 |none=>rw[e]at h;exact .inr ⟨rfl,h⟩
 |some d=>rw[e]at h;exact .inl h
theorem AFc(y:Q {scope:=scope,locals:=s.heap.objs.size,globals:=globals,cells:=cellsFrom (s.heap.objs.size+1) scope.names []++z,qual:=qual,func:=none,code:=outer.code,frame:=outer.frame,builtins:=outer.builtins} {s with heap:=pushCells (s.heap.push {cls:=.type "dict",data:=.dict #[]}) scope.names}) : wpAny M A (newFunctionEnv scope globals z [] qual none .none<|some outer) Q E s:=by simp only[newFunctionEnv,Option.isSome_some,AIN];refine wpAny_bind<|wpAny_alloc ?_;refine wpAny_bind (wpAny_layCells _ (λname kind cells=>by cases q:kind==NameKind.cell<;>simp[q]) _ _ _ _ ?_);rw[show({s with heap:=s.heap.push {cls:=.type "dict",data:=.dict #[]}}:Shared).heap.objs.size=s.heap.objs.size+1 from Heap.size_push ..,Qp];exact wpAny_bind<|wpAny_pure<|wpAny_pure y
theorem ME(hc:cells.lookup x=some c):∀{l:List (Str×NameKind)}{acc:List (Str×Addr)},((x,NameKind.free)∈l\/acc.lookup x=some c)->(D3 cells l acc).lookup x=some c
 |[],acc,h=>by
  rcases h with h|h
  .contradiction
  .exact h
 |(n,k)::r,acc,h=>by
  unfold D3;by_cases z:(k==NameKind.free)=true
  .rw[AGo z];by_cases hn:x=n
   .subst hn;rw[hc];exact ME hc<|.inr<|by simp[AII]
   .have y:(x==n)=false:=by simpa using hn
    have h':(x,NameKind.free)∈r\/acc.lookup x=some c:=by
     rcases h with h|h
     .rcases AGz.mp h with e|e
      .exact absurd (AHa Prod.fst e) hn
      .exact .inl e
     .exact .inr h
    cases hd:cells.lookup n with
    |none=>exact ME hc h'
    |some d=>
     refine ME hc ?_;rcases h' with e|e
     .exact .inl e
     .right;simp only[AII,y];exact e
  .rw[AGp z];refine ME hc ?_;rcases h with h|h
   .rcases AGz.mp h with e|e
    .have:k=.free:=(AHa Prod.snd e).symm;rw[this]at z;exact absurd rfl z
    .exact .inl e
   .exact .inr h
def CF(X:Cx)(Nb:List Str)(scope:Scope)(C:Addr)(s:Shared)(H:Hp)(fp:List Addr)(AD:List<|Addr×Obj):Cx:=
 {X with N:=Nb,CB:=s,AR:=H,env:=compEnvC scope (cellsFrom (C+1) scope.names []++D3 X.env.cells scope.names []) C X.env,outer:=X.stack,stack:=X.stack,ex:=fp,fn:=λx=>scope.names.lookup x==some NameKind.cell,pn:=X.pn++AD,xe:=λ_ _=>False}
def Hc(X:Cx)(z:List Expr)(t:TT):Prop:=
 ∀(AD:List<|Addr×Obj)(s:Shared)(σ:St)(H:Hp)(Q:Bool->Hp->Prop),Inv X AD σ H s->t σ H Q->wpAny (model X.prog X.w) X.A (forIn z true λc r=>if r=true then do let ok<-isTrue c X.env<|eval c X.env;pure (ForInStep.yield ok)else pure (ForInStep.yield r)) (TP X AD σ Q) X.xe s
theorem AA1:Hc X [] (λ_ H Q=>Q true H):=λ_ _ _ H _ I h=>wpAny_tests_nil ⟨H,I,h⟩
theorem AA2(h:PT X c t):Hc X [c] t:=λAD s σ H Q I q=>wpAny_tests_one<|h AD s σ H Q I q
structure GD(X:Cx)(scope:Scope)(Nb:List Str)(own:Nat)(cap:List Nat):Prop where
 kind:scope.kind=.function
 cell:∀y∈scope.names,y.2=.cell->scope.names.lookup y.1=some .cell
 loc:∀x∈scope.names,x.2=.local->scope.names.lookup x.1=some .local
 free:∀y∈scope.names,y.2=.free->X.env.kindOf y.1=some .cell\/X.env.kindOf y.1=some .free
 len:Nb.length=own+cap.length
 cap:∀k j,cap[k]? = some j->∃x,Nb[own+k]? = some x/\X.N[j]? = some x/\scope.names.lookup x=some .free
noncomputable def Gm(own:Nat)(cap:List Nat)(σ:St):St:=List.replicate own none++cap.map λj=>(σ[j]?).join
theorem qJ(h:(Gm own cap σ)[i]? = some (some v)):∃k j,i=own+k/\cap[k]? = some j/\σ[j]? = some (some v):=by
 unfold Gm at h;by_cases hi:i<own
 .rw[AHR (by simpa using hi),AIH]at h;split at h<;>simp at h
 .rw[AHV (by simpa using hi),AHi]at h;simp only[AIY]at h;cases z:cap[i-own]? with
  |none=>rw[z]at h;simp at h
  |some j=>
   rw[z]at h;simp only[AHr,AHc]at h;refine⟨i-own,j,AGi,z,?_⟩;cases hs:σ[j]? with
   |none=>rw[hs]at h;simp at h
   |some o=>rw[hs]at h;simp at h;rw[h]
section
variable{X:Cx}{tg iter elt:Expr}{ifs:List Expr}{scope:Scope}{pos:Pos}{Nb:List Str}{own:Nat}{cap:List Nat}{wi:TI}{g:TG}{ti:TT}{te:TE}
def mI(own:Nat)(cap:List Nat)(g:TG)(ti:TT)(te:TE)(J:It)(σ:St)(q:Hp)(Q:VK):Prop:=∀D,q D=none->∃W:Nat->Nat->St->Hp->Prop,(∃m,W 0 m (Gm own cap σ)<|upd q D<|.lst [])/\∀i m u H',W i m u H'->(J.stop i H'/\Q (.ref D) H')\/(J.go i H'/\∃N:St->Hp->Prop,(∀p z,N p z->∃Z,Z<m/\W (i+1) Z p z)/\
  ∀x z,J.UA i H' x z->g x u z λy P=>ti y P λb Y=>if b=true then te y Y λv O=>∃ys,O D=some (.lst ys)/\ys.length<sizeLine/\N y (upd O D<|.lst<|ys ++ [v])else N y Y)
theorem Pu{C:Addr}{x:Str}{c:Addr}(h:(cellsFrom (C+1) scope.names []).lookup x=some c):C<c:=by
 let h0:Heap:={objs:=Array.replicate (C+1) default}
 have ok:=cellsFrom_ok scope.names h0 (C+1) [] ⟨λ_ _ hm=>(nomatch hm),List.Pairwise.nil⟩ (by simp[h0]);rw[show h0.objs.size=C+1 by simp[h0]]at ok;exact(ok.empty x c<|AHt h).2
theorem own_apart{C:Addr}:(cellsFrom (C+1) scope.names []).Pairwise λx y=>x.2≠y.2:=by
 let h0:Heap:={objs:=Array.replicate (C+1) default}
 have ok:=cellsFrom_ok scope.names h0 (C+1) [] ⟨λ_ _ hm=>(nomatch hm),List.Pairwise.nil⟩ (by simp[h0]);rw[show h0.objs.size=C+1 by simp[h0]]at ok;exact ok.apart
theorem Z0{σ:St}(I:Inv X AD σ H s)(h:(D3 X.env.cells l []).lookup x=some c):c<s.heap.objs.size:=by obtain⟨v,o,ho,_⟩:=I.cell x c (Ij (λ_ _ z=>by contradiction) h);exact Heap.lt_size ho
theorem qq{C:Addr}{H:Hp}{fp:List Addr}{AD:List (Addr×Obj)}{σ:St}(O:GD X scope Nb own cap)(I:Inv X AD σ H s)(f:∀b∈fp,Gf X AD H b)(v:s.heap.objs.size<=C)(Q:∀b∈fp,b<s.heap.objs.size) : (CF X Nb scope C s H fp AD).Ok:=by
 refine⟨I.ok.mod,O.kind,I.ok.glob,I.ok.blt,v,λx y c h1 Z=>?_,λx Y=>?_,λx c h Z=>?_,I.ok.hd,I.ok.frames,.inl rfl,λb q=>⟨?_,λx c h=>?_⟩,I.bs,AHd I.ok.Fe I.sz,λb o e q=>?_,λb q z=>?_,I.stack,I.Yb⟩
 .rcases My h1 with u|⟨_,u⟩<;>rcases My Z with p|⟨_,p⟩
  .exact name_of_addr own_apart (AHt u)<|AHt p
  .exact absurd (Pu u) (Nat.not_lt.mpr<|AHd (AIc<|Z0 I p) v)
  .exact absurd (Pu p) (Nat.not_lt.mpr<|AHd (AIc<|Z0 I u) v)
  .exact I.ok.inj x y c (Ij (λ_ _ z=>by cases z) u)<|Ij (λ_ _ z=>by cases z) p
 .show ∃c,(cellsFrom (C+1) scope.names []++D3 X.env.cells scope.names []).lookup x=some c;rw[AJ8];rcases fj Y with hm|hm
  .obtain⟨c,hc⟩:=I.ok.has x<|O.free _ hm rfl;cases (cellsFrom (C+1) scope.names []).lookup x with
   |none=>exact⟨c,ME hc<|.inl hm⟩
   |some d=>exact⟨d,rfl⟩
  .obtain⟨c,hc⟩:=Qo hm;exact⟨c,by rw[hc];rfl⟩
 .have Y:=by simpa[CF]using h
  obtain⟨c',P⟩:=Qo Y;rcases My Z with z|⟨z,_⟩
  .exact AHd v<|AIc<|Pu z
  .rw[P]at z;contradiction
 .exact AG7<|AHI (Q b q) v
 .rcases My h with z|⟨_,z⟩
  .exact AHh<|AG7<|AKM (AHI (Q b q) v)<|Pu z
  .exact(f b q).2.2.2.2.1 x c (Ij (λ_ _ z=>by contradiction) z)
 .rcases(f b q).2.2.2.1 with z|z
  .exact I.ok.JW b o e z
  .exact absurd (AHI (Heap.lt_size e)<|AHd I.ok.Fe z) (AIs _)
 .rcases AGz.mp (I.P6 b z)with e|e
  .exact(f b q).2.1 e
  .exact(f b q).2.2.1 e
theorem qp{σ:St}(O:GD X scope Nb own cap)(I:Inv X AD σ H s)(ok:(CF X Nb scope C s H fp AD).Ok) (D:s'.os=s.os) (F:AllBare s'.gens) (u:Un (C1 X.stack) fp H H' s.heap s'.heap) (k:∀b o,s.heap.get? b=some o->s'.heap.get? b=some o) (R:s.heap.objs.size<=C) (hn:s'.heap.Ns C m) (B:H' C=none) (Z:∀b o,s.heap.get? b=some o->H b=none->H' b=none) (AX:Bp X.prog X.w H' s'.heap) (Y:∀x c,(cellsFrom (C+1) scope.names []).lookup x=some c->s'.heap.IsCell c none/\H' c=none) : Inv (CF X Nb scope C s H fp AD) [] (Gm own cap σ) H' s':=by
 refine⟨ok,D,F,u,⟨m,hn,λi x v h1 G h3=>?_⟩,λx c h=>?_,B,λx c h=>?_,λp hp=>?_,AX,?_⟩
 .obtain⟨kk,j,rfl,S,hs⟩:=qJ G;obtain⟨y,T,E,e3⟩:=O.cap kk j S;have t:=by have Q:Nb[own+kk]? = some x:=h1;rw[T]at Q;exact AHP Q
  subst t;have hm:=AHt e3;have P:=O.free _ hm rfl;have f:DJ X.env.scope y:=by
   rcases P with z|z
   .exact .inr<|.inl z
   .exact .inr<|.inr z
  obtain⟨m0,hn0,a⟩:=I.loc;obtain⟨u0,r,l⟩:=a j y v E hs f;refine⟨u0,r,?_⟩;rcases l with⟨l,_⟩|⟨_,c,hc,Ro⟩
  .rcases P with z|z<;>(rw[l]at z;contradiction)
  .refine .inr ⟨jE e3,c,?_,Ro.keeps k⟩;show(cellsFrom (C+1) scope.names []++D3 X.env.cells scope.names []).lookup y=some c;rw[AJ8];cases eo:(cellsFrom (C+1) scope.names []).lookup y with
   |none=>exact ME hc<|.inl hm
   |some d=>
    rcases VE _ _ _ (AHt eo)with z|z
    .exact nomatch z
    .have:=O.cell _ z rfl;rw[e3]at this;contradiction
 .rcases My h with z|⟨_,z⟩
  .exact⟨_,(Y x c z).1⟩
  .obtain⟨v,z⟩:=I.cell x c (Ij (λ_ _ z=>by cases z) z);exact⟨v,z.keeps k⟩
 .rcases My h with z|⟨_,z⟩
  .exact(Y x c z).2
  .have hc:=Ij (λ_ _ z=>by cases z) z;obtain⟨v,o,ho,_⟩:=I.cell x c hc;exact Z c o ho<|I.EA x c hc
 .have GL:p∈X.pn++AD:=by have:p∈(X.pn++AD) ++ []:=hp;simpa using this
  obtain⟨e,n,ne,nf,d⟩:=I.pin p GL;refine⟨k _ _ e,Z _ _ e n,AG7<|AHI (Heap.lt_size e) R,λz=>?_,d⟩;rcases AGz.mp (I.P6 p.1 z)with q|q
  .exact ne q
  .exact nf q
 .show(Gm own cap σ).length=Nb.length;rw[O.len];simp[Gm]
theorem Z8{σ:St}{H:Hp}{Q:VK}{it:Addr}{fp:List Addr}{tn:Nat->Heap->Prop}{J:It}{E:Value->Shared->Prop}{RR:Value->Addr->Result->Shared->Prop}(hc:X.calm=true)(O:GD X scope Nb own cap) (hg:∀C s H fp AD,PG (CF X Nb scope C s H fp AD) tg g) (ht:∀C s H fp AD,Hc (CF X Nb scope C s H fp AD) ifs ti) (he:∀C s H fp AD,PE (CF X Nb scope C s H fp AD) elt te) (I:Inv X AD σ H s) (T:Turn X.prog X.w X.K tg J fp it tn) (st:tn 0 s.heap) (f:∀b∈fp,Gf X AD H b) (hW:mI own cap g ti te J σ H Q) (um:∀(D C:Addr)(s':Shared)(H':Hp)(m:Str->Option Value),Inv X AD σ H' s'->s'.heap.Ns C m->Gf X AD H' C->Q (.ref D) H'->RR (.ref D) C (.ok .next) s') : wpAny (model X.prog X.w) X.A (newList []) (λacc Kg=>wpAny (model X.prog X.w) X.A (newFunctionEnv scope X.env.globals (D3 X.env.cells scope.names []) [] X.env.qual none .none<|some X.env) (λZz Tq=>
  codeAny (model X.prog X.w) X.A (.compStart (.ListComp elt [⟨tg,iter,ifs,0⟩] scope pos) 0 (.ref it) acc {Zz with scope:=relabel scope X.env}) (RR acc Zz.locals) Tq) E Kg) E s:=by
 have Oq:∀b∈fp,b<s.heap.objs.size:=λb z=>by obtain⟨o,e,_⟩:=T.obj _ _ st b z;exact Heap.lt_size e
 refine wpAny_newObj_type<|AFc ?_;dsimp only;have hD:=I.AX.fresh<|AGy _;obtain⟨W,⟨m0,w0⟩,turn⟩:=hW s.heap.objs.size hD;generalize WJ:s.heap.push {cls:=.type "list",dict:=none,data:=.seq ([]).toArray}=H2;have gp:=(Heap.Ns.new H2<|.type "dict").keeps<|pushCells_keeps scope.names _;have WN:=cellsFrom_ok scope.names (H2.push {cls:=.type "dict",data:=.dict #[]}) (H2.objs.size+1) [] ⟨λ_ _ hm=>(nomatch hm),List.Pairwise.nil⟩ (by rw[Heap.size_push];exact AGy _);rw[Heap.size_push]at WN;have Xr:∀b o,H2.get? b=some o->(pushCells (H2.push {cls:=.type "dict",data:=.dict #[]}) scope.names).get? b=some o:=λb o e=>pushCells_keeps _ _ b o<|Heap.get?_push_of_some _ e;generalize hh1:pushCells (H2.push {cls:=.type "dict",data:=.dict #[]}) scope.names=HD at gp WN Xr ⊢;have hC:H2.objs.size=s.heap.objs.size+1:=by rw[<-WJ,Heap.size_push]
 have P:s.heap.objs.size<=H2.objs.size:=by rw[hC];exact AKi _
 have ue:s.heap.objs.size≠H2.objs.size:=by rw[hC];exact AG7<|Nat.lt_succ_self _
 have old:=λb o e=>Xr b o<|WJ ▸ Heap.get?_push_of_some _ e;have om:=Xr _ _<|WJ ▸ Heap.get?_push_size _ rfl;have vz:Bp X.prog X.w (upd H s.heap.objs.size<|.lst []) HD:=I.AX.laid old (AGy _) ⟨AIO _,[],0,.nil,om⟩;have ok:=qq O I f P Oq;have fC:∀{H':Hp},H' H2.objs.size=none->Gf X AD H' H2.objs.size:=λhn=>I.Rg P hn;have Ib:∀tk:Nat,Inv (CF X Nb scope H2.objs.size s H fp AD) [] (Gm own cap σ) (upd H s.heap.objs.size<|.lst []) {s with heap:=HD,toks:=tk}:=λtk=>
  qp O I ok rfl I.bare (Un.laid old (AGy _) hD) old P gp (by rw[BM<|AHh ue];exact I.AX.fresh P) (λb o e n=>by rw[BM<|AG7<|Heap.lt_size e];exact n) vz (λx c e=>⟨(WN.empty x c<|AHt e).1,by have BA:=Pu e;rw[BM<|AHh<|AG7<|AJe P BA];exact I.AX.fresh<|AHd P<|AIc BA⟩)
 have uD:∀b∈fp,(upd H s.heap.objs.size<|.lst []) b=none:=λb z=>by rw[BM<|AG7<|Oq b z];exact(f b z).1
 have Ya:∀{H':Hp},(∀b∈fp,H' b=none)->∀b∈fp,Gf (CF X Nb scope H2.objs.size s H fp AD) [] H' b:=λhn b z=>by
  refine⟨hn b z,(ok.Jz b z).1,ok.Iz b z,.inl z,(ok.Jz b z).2,λp hp=>?_⟩;have GL:p∈X.pn++AD:=by have:p∈(X.pn++AD) ++ []:=hp;simpa using this
  exact(f b z).2.2.2.2.2 p GL
 have u9:∀b∈fp,(b∈X.ex\/X.CB.heap.objs.size<=b)/\b≠X.env.locals/\(∀x c,X.env.cells.lookup x=some c->c≠b)/\∀p∈X.pn++AD,p.1≠b:=λb z=>by obtain⟨_,f1,_,f3,f4,f5⟩:=f b z;exact⟨f3,f1,f4,f5⟩
 have Z:∀tk:Nat,codeAny (model X.prog X.w) X.A (.compLoop (.ListComp elt [⟨tg,iter,ifs,0⟩] scope pos) 0 (.ref it) (.ref s.heap.objs.size)<|compEnvC scope (cellsFrom (H2.objs.size+1) scope.names []++D3 X.env.cells scope.names []) H2.objs.size X.env) (RR (.ref s.heap.objs.size) H2.objs.size) {s with heap:=HD,toks:=tk}:=λtk=>by
  refine qd (λn s'=>∃i B H',Inv (CF X Nb scope H2.objs.size s H fp AD) [] B H' s'/\tn i s'.heap/\(∀b∈fp,H' b=none)/\W i n B H') ?_ m0 ⟨0,_,_,Ib tk,T.keep _ _ _ st λb _ o e=>old b o e,uD,w0⟩;rintro n s3 ⟨i,t,a,I3,FY,OX,w3⟩;rcases turn i n t a w3 with⟨stop,qn⟩|⟨go,N,hN,step⟩
  .refine Ae (T.done (CF X Nb scope H2.objs.size s H fp AD) rfl rfl rfl hc i [] s3 t a _ I3 (Ya OX) FY stop) ?_;rintro r s4 ⟨hr,F⟩;subst hr;obtain⟨m4,vm,_⟩:=F.loc;exact um _ _ s4 a m4 (I.Zu F.os F.base F.AX F.bare u9) vm (fC F.free) qn
  .refine Ae (T.item (CF X Nb scope H2.objs.size s H fp AD) rfl rfl rfl hc i [] s3 t a _ I3 (Ya OX) FY go) ?_;rintro r s4 ⟨u,hr,h4⟩;subst hr;refine Ae h4 ?_;rintro _ s5 ⟨x,H5,I5,r5,y5,GZ,V9⟩;have Ul:=I5.pinned (Ya V9)<|T.obj _ _ GZ;refine Ae (hg H2.objs.size s H fp AD _ s5 t H5 x u _ Ul r5<|step x H5 y5) ?_;rintro _ s6 ⟨h,H6,I6,q6⟩;refine Ae (ht H2.objs.size s H fp AD _ s6 h H6 _ I6 q6) ?_;rintro b s7 ⟨H7,I7,q7⟩;have q:∀{G:St}{Y:Hp}{R:Shared},Inv (CF X Nb scope H2.objs.size s H fp AD) ([]++Pw fp s5.heap) G Y R->N G Y->∃m,m<n/\∃i B H',Inv (CF X Nb scope H2.objs.size s H fp AD) [] B H' R/\tn i R.heap/\(∀b∈fp,H' b=none)/\W i m B H':=λ{G Y R} S n8=>by obtain⟨m',hm,w8⟩:=hN G Y n8;refine⟨m',hm,i+1,G,Y,S.T4,T.keep _ _ _ GZ λb z o e=>(S.pin (b,o)<|AHl _<|AHl _<|Sy z e).1,λb z=>?_,w8⟩;obtain⟨o,e,d⟩:=T.obj _ _ GZ b z;exact(S.pin (b,o)<|AHl _<|AHl _<|Sy z e).2.1
   cases b with
   |false=>
    exact q I7 q7
   |true=>
    refine Ae (he H2.objs.size s H fp AD _ s7 h H7 _ I7 q7) ?_;rintro y R ⟨v,Y,S,r8,ys,e8,z8,n8⟩;refine Ae (ja _ R h Y (.ref s.heap.objs.size) [v] (.ref s.heap.objs.size) [y] (λ_ H9=>N h H9) S rfl (.cons r8 .nil) ⟨_,ys,v,rfl,rfl,e8,z8,n8⟩) (by rintro _ s9 ⟨_,H9,I9,_,n9⟩;exact q I9 n9)
 refine codeAny_compStart_list (Z _) ?_;exact T.self _ 0 _ _ _ (T.keep _ _ _ st λb _ o e=>old b o e)<|Z _
def Yo(own:Nat)(cap:List Nat)(wi:TI)(g:TG)(ti:TT)(te:TE):TE:=λσ H Q=>wi σ H λJ z=>mI own cap g ti te J σ z Q
theorem AAc(hc:X.calm=true)(O:GD X scope Nb own cap)(hi:PI X tg iter wi)(z:∀C s H fp AD,PG (CF X Nb scope C s H fp AD) tg g)(v:∀C s H fp AD,Hc (CF X Nb scope C s H fp AD) ifs ti)(he:∀C s H fp AD,PE (CF X Nb scope C s H fp AD) elt te) (hs:∀x,foldedSetIterable iter X.env x=pure x:=by intro _;rfl):PE X (.ListComp elt [⟨tg,iter,ifs,0⟩] scope pos)<|Yo own cap wi g ti te:=by intro AD s σ H Q I h;refine wpAny_comprehension_free rfl hs (Z1 λy u p=>I.ok.has _<|O.free y u p) O.kind O.loc<|Ae (hi AD s σ H _ I h) λxv s1 h1=>Ae h1 λSH s2 Z=>?_;obtain⟨it,fp,tn,J,H2,rfl,Y,T,P,f2,F⟩:=Z;refine Z8 hc O z v he Y T P f2 F λD C s' H' m R hn fC q=>?_;refine⟨m,hn,λh' B=>⟨.ref D,H',R.turned (λb o G e=>B.extBut b o G e) fC.1 fC.2.1 fC.2.2.2.1 fC.2.2.2.2.1 fC.2.2.2.2.2,rfl,q⟩⟩
theorem ABL{z u:Pos}(p:X.N.Nodup)(Z:X.N[i]? = some y)(Y:Loc X.env.scope y)(hc:X.calm=true)(O:GD X scope Nb own cap)(hi:PI X tg iter wi)(Q:∀C s H fp AD,PG (CF X Nb scope C s H fp AD) tg g)(P:∀C s H fp AD,Hc (CF X Nb scope C s H fp AD) ifs ti)(he:∀C s H fp AD,PE (CF X Nb scope C s H fp AD) elt te) (F:swapsWith (.ListComp elt [⟨tg,iter,ifs,0⟩] scope pos) (some<|.Name y z) u.line X.env=pure true:=by rfl) (hs:∀x,foldedSetIterable iter X.env x=pure x:=by intro _;rfl) (R:X.fn y=true\/X.env.scope.names.lookup y=some .local:=by first|exact .inl rfl|exact .inr rfl|assumption) : PS X (.Assign [.Name y z] (.ListComp elt [⟨tg,iter,ifs,0⟩] scope pos) u)<|P8 (Yo own cap wi g ti te)<|Oc i:=by
 intro AD s σ H D I h;rw[exec_Assign_Name_used _ _ _ _ F];refine wpAny_bind<|wpAny_standAt<|wpAny_bind ?_;refine wpAny_bind (wpAny_mono (wpAny_comprehension_free rfl hs (Z1 λy B G=>I.ok.has _<|O.free y B G) O.kind O.loc
  (Ae (hi AD s σ H _ I h) λxv s1 h1=>Ae h1 λSH s2 S=>?_)) (λ_ s' E=>wpAny_pure<|wpAny_pure E) λ_ _ e=>e)
 obtain⟨it,fp,tn,J,H2,rfl,n,T,t,f2,f⟩:=S;refine Z8 hc O Q P he n T t f2 f λD' C s' H' m I' hn fC q=>?_;refine wpAny_assign_Name<|ll I' p Z Y (v:=.ref D') rfl ?_ R;rintro NP oS ⟨a,O0,ha⟩;have ud:C≠a:=by
  rcases ha with rfl|ha
  .exact fC.2.1
  .exact AHh<|fC.2.2.2.2.1 y a ha
 refine⟨m,hn.sameBut O0 ud,λh' LX=>?_⟩;exact⟨_,H',oS.turned (λb o hb e=>LX.extBut b o hb e) fC.1 fC.2.1 fC.2.2.2.1 fC.2.2.2.2.1 fC.2.2.2.2.2,q⟩
end
theorem Bw.has(x:Bw P w H h a o):∃z,h.get? a=some z:=by
 cases o with
 |lst xs=>obtain⟨_,_,_,_,e⟩:=x;exact⟨_,e⟩
 |tup xs=>obtain⟨_,_,_,z,e,_⟩:=x;exact⟨_,e⟩
 |dK AK=>obtain⟨_,_,_,_,o,_,_,e,_⟩:=x;exact⟨_,e⟩
 |dT AK=>obtain⟨_,_,_,_,o,_,_,e,_⟩:=x;exact⟨_,e⟩
 |set S n=>obtain⟨o,_,_,_,e,_⟩:=x;exact⟨_,e⟩
 |ins C dx fs=>obtain⟨_,_,_,e,_⟩:=x;exact⟨_,e⟩
 |own y=>obtain⟨_,e⟩:=x;exact⟨_,e⟩
 |xd fs=>obtain⟨_,⟨_,_,_,e,_⟩,_⟩:=x;exact⟨_,e⟩
 |TX lo hi=>obtain⟨_,_,_,e⟩:=x;exact⟨_,e⟩
 |Ec z u=>obtain⟨e,_⟩:=x;exact⟨_,e⟩
 |Kh ps=>exact⟨_,(show h.get? a=some _ from x)⟩
 |met f y=>exact⟨_,(show h.get? a=some _ from x)⟩
 |ext φ=>obtain⟨_,⟨_,e⟩,_⟩:=x;exact⟨_,e⟩
structure Uk(P:Program)(w:World)(outer:List Env)(H:Hp)(s:Shared)(ea:Addr)(cls:Value)(B:Heap)(H':Hp)(s':Shared):Prop where
 os:s'.os=s.os
 bare:AllBare s'.gens
 un:Un (C1 outer) [] H H' s.heap s'.heap
 AX:Bp P w H' s'.heap
 V5:∃a0,Heap.FlyingW B outer ea cls a0 s'.heap
 nw:s.heap.get? ea=none
 he:H' ea=none
 b1:∀b o,s.heap.get? b=some o->b∉C1 outer->∃o',B.get? b=some o'/\(H b=none->o'=o)
 b2:∀b o,(H' b).isSome=true->s'.heap.get? b=some o->B.get? b=some o
def Km(P:Program)(w:World):E7:=λouter H s E e s'=>∃ea cls B H',e=.ref ea/\Uk P w outer H s ea cls B H' s'/\E cls none H'
section
variable{P:Program}{w:World}{outer:List Env}{H H':Hp}{s s':Shared}{ea:Addr}{cls:Value}{B Fp:Heap}
theorem Uk.then(F:Uk P w outer H s ea cls B H' s')(st:B.StaysIn Fp)(us:s'.heap.UpToSlots Fp):Un (C1 outer) [] H H' s.heap Fp/\Bp P w H' Fp:=by
 have slot:∀b o,s.heap.get? b=some o->H b=none->b∈C1 outer->∃sl,Fp.get? b=some {o with slots:=sl}:=λb o e n z=>by obtain⟨sl,y⟩:=F.un.slot b o e n z AGh;obtain⟨a0,fl⟩:=F.V5;obtain⟨_,o',v,p⟩:=fl.2.2.1.mem z;rw[y]at v;cases v;obtain⟨Z,e3⟩:=us b _ y p;exact⟨Z,e3⟩
 refine⟨⟨λb o e n z _=>?_,λb o e n z _=>slot b o e n z,λb o e n _=>F.un.free b o e n AGh,λb o e _=>?_,F.un.El,F.un.FH,F.un.Gb⟩,λa o e=>?_⟩
 .obtain⟨o',y,v⟩:=F.b1 b o e z;have:=v n;subst this;exact st _ _ y
 .by_cases z:b∈C1 outer
  .obtain⟨a0,fl⟩:=F.V5;obtain⟨_,o',v,p⟩:=fl.2.2.1.mem z;obtain⟨Z,e3⟩:=us b _ v p;exact⟨_,e3⟩
  .obtain⟨o',y,_⟩:=F.b1 b o e z;exact⟨_,st _ _ y⟩
 .refine(F.AX a o e).JY (λb u z q=>st _ _<|F.b2 b u ?_ q) (λ_ q=>q) λ_ _ q=>q;rcases z with rfl|z
  .rw[e];rfl
  .rw[z];rfl
end
section
variable{X:Cx}{AD:List (Addr×Obj)}{σ:St}{H H':Hp}{s s':Shared}{ea:Addr}{cls:Value}{B h':Heap}{vs:List Value}{M:Model}
structure QX(X:Cx):Prop where
 F8:X.stack=X.env::X.outer
 fr:X.env.frame=some X.env.locals
 ex:X.ex=[]
theorem Inv.Xk(I:Inv X AD σ H s)(e:X.CB.heap.get? b=some o)(y:b∉X.fs):b∉C1 X.stack:=λz=>by
 rcases AGz.mp (I.P6 b z)with q|q
 .exact absurd (AHI (Heap.lt_size e) I.ok.above) (by rw[q];exact AIs _)
 .exact y q
theorem Inv.old(I:Inv X AD σ H s)(d:X.ex=[])(e:s.heap.get? b=none):X.CB.heap.get? b=none:=by
 cases q:X.CB.heap.get? b with
 |none=>rfl
 |some o=>
  obtain⟨o',z⟩:=I.base.there b o q (by rw[d];simp);rw[e]at z;contradiction
theorem ADY(d:QX X)(I:Inv X AD σ H s)(hm:Heap.MadeExcOf s.heap h' ea cls vs)(D:E cls none H) : wpAny M X.A (leaving X.env<|.ref ea) (λ_ F=>Km X.prog X.w X.outer X.AR X.CB E (.ref ea) F) P {s with heap:=h'}:=by
 have R:∀env∈X.stack,∀a,env.frame=some a->a∈C1 X.stack:=λenv he a ha=>AJd.mpr ⟨env,he,ha⟩;have G:X.A.frames=some (X.env::X.outer):=by rw[<-d.F8];exact I.ok.frames
 have Z:∀b,b∉X.ex:=λb z=>by rw[d.ex]at z;nomatch z
 have Lv:∀b,(H b).isSome=true->b∉C1 X.stack:=λb z q=>by rw[I.Yb b q]at z;contradiction
 have S:s.heap.FunFrames (PySem.W.hideAll s.heap<|C1 X.stack) (X.env::X.outer):=by rw[<-d.F8];exact PySem.W.funFrames_hide I.stack R
 refine wpAny_leaves_madeW G d.fr (λb o q=>PySem.W.of_hideAll _ q) S hm λQ t Y x2 x3 T=>?_;have Ee:∀b o,s.heap.get? b=some o->b∉C1 X.stack->(PySem.W.hideAll s.heap<|C1 X.stack).get? b=some o:=λb o e y=>AKw _ e y;have slot:∀b o,s.heap.get? b=some o->b∈X.fs->∃sl,Q.get? b=some {o with slots:=sl}:=λb o e y=>by obtain⟨_,o',v,C⟩:=I.EB.mem y;rw[e]at v;cases v;exact T b _ (hm.keeps _ _ e) C
 have f:∀b,(H b).isSome=true->∃o,s.heap.get? b=some o:=λb z=>by
  cases q:H b with
  |none=>rw[q]at z;contradiction
  |some o=>exact(I.AX b o q).has
 refine⟨ea,cls,_,H,rfl,⟨I.os,I.bare,⟨λb o e n y _=>?_,λb o e n y _=>?_,λb o e n _=>I.base.free b o e n<|Z b,λb o e _=>?_,I.base.El,I.base.FH,I.base.Gb⟩,λa o e=>?_,⟨_,Y⟩,I.old d.ex hm.new,?_,λb o e y=>?_,λb o z e=>?_⟩,D⟩
 .exact Y.1 _ _<|Ee b o (I.base.keep b o e n y<|Z b)<|I.Xk e y
 .obtain⟨sl,p⟩:=I.base.slot b o e n y<|Z b;obtain⟨O,v⟩:=slot b _ p y;exact⟨O,v⟩
 .obtain⟨o',p⟩:=I.base.there b o e<|Z b;by_cases y:b∈X.fs
  .obtain⟨O,v⟩:=slot b _ p y;exact⟨_,v⟩
  .exact⟨_,Y.1 _ _<|Ee b o' p<|I.Xk e y⟩
 .refine(I.AX a o e).JY (λb u y q=>Y.1 _ _<|Ee b u q<|Lv b ?_) (λ_ q=>q) λ_ _ q=>q;rcases y with rfl|y
  .rw[e];rfl
  .rw[y];rfl
 .cases q:H ea with
  |none=>rfl
  |some o=>
   obtain⟨ob,z⟩:=(I.AX ea o q).has;rw[hm.new]at z;contradiction
 .obtain⟨o',p⟩:=I.base.there b o e<|Z b;refine⟨o',Ee b o' p<|I.Xk e y,λn=>?_⟩;have:=I.base.keep b o e n y<|Z b;rw[p]at this;exact AHP this
 .obtain⟨x,p⟩:=f b z;have v:=Ee b x p<|Lv b z;have e3:=Y.1 _ _ v;rw[show Q.get? b=some o from e]at e3;rw[v];exact e3.symm
end
set_option tactic.hygienic true
theorem AAL{K:PySem.W.Frag}(X:K.In z)(G:mg x=some (.ref C))(q:PySem.W.excIn K C y v=true):OwnCls x C y v mg z:=by
 refine⟨G,?_⟩;unfold PySem.W.excIn at q;split at q
 .rename_i dd Z sl ho;split at q
  .rename_i C' Y k0 k1 k2 k3 n k5 hm hs;simp only[AGx,AIA,AHZ]at q;obtain⟨⟨⟨⟨⟨rfl,rfl⟩,u⟩,Q⟩,AX⟩,p⟩:=q;obtain⟨nm,bs,mro,ns,O,hd,sn,sub,ab,col,del⟩:=Z;dsimp only at hm u AX p;subst hm u;have P:sl=#[k0,k1,k2,k3,some<|.builtin n,k5]:=by obtain⟨l⟩:=sl;simp only at hs;rw[hs]
   subst P;exact⟨Y,ns,nm,O,bs,hd,sn,sub,ab,col,dd,k0,k1,k2,k3,k5,_,X _ _ ho,.of_isNs<|PySem.W.isNs_of_in X AX,PySem.W.nsMap_none_of_in X AX p,PySem.W.tail_of_in X Q⟩
  .contradiction
 .contradiction
set_option tactic.hygienic false
section
variable{X:Cx}{E:XK}{x:Str}{C:Addr}{Ji:List Value}{B Ka XD:String}{np Ak pos:Pos}{RU:Expr}{BJ:List Expr}{ta:TA}
def Raises(X:Cx)(E:XK):Prop:=∀(AD:List<|Addr×Obj)(σ:St)(H:Hp)(s:Shared)(h':Heap)(e:Addr)(cls:Value)(vs:List Value),Inv X AD σ H s->Heap.MadeExcOf s.heap h' e cls vs->E cls none H->X.xe (.ref e) {s with heap:=h'}
def AEj(E:XK)(C:Addr)(ta:TA):TS:=λ_ σ H=>ta σ H λvs z=>vs.length<=sizeLine/\E (.ref C) none z
theorem ABK(O:OwnCls x C Ji Ka X.mg X.base)(v:ExcBaseFacts B Ka XD Ji)(hc:X.calm=true)(p:Gl X x)(ha:PA X (RU::BJ) ta)(Z:Raises X E)(hd:(x==("__debug__"))=false:=by decide) (he:starEach (RU::BJ) X.env=(false,eval RU X.env)::starEach BJ X.env:=by rfl) (Y:(backTo Ak<|starEach BJ X.env).any (·.1)=false:=by rfl) : PS X (.Raise (some<|.Call (.Name x np) (RU::BJ) [] Ak) none pos)<|AEj E C ta:=by
 intro AD s σ H D I h;obtain⟨tl,N,nm,q,bs,hdct,sn,sub,ab,col,dd,k0,k1,k2,k3,k5,mN,Q,P,F,T⟩:=O.obj;refine wpAny_Raise_call_subT (nm:=nm) (q:=q) (N:=N) (bs:=bs) (hdct:=hdct) (sn:=sn) (sub:=sub) (ab:=ab) (col:=col) (dd:=dd) (k0:=k0) (k1:=k1) (k2:=k2) (k3:=k3) (k5:=k5) v (T.hasType v.hasBase) (I.ok.hd hc) (by rw[he];show(false||(backTo Ak<|starEach BJ X.env).any (·.1))=false;rw[Y];rfl) F<|Mt I p O.bound ⟨rfl,?_⟩ hd
 have u:=ha Ak AD s σ H _ I h;rw[he]at u ⊢;refine Calls.evalArgs_plain<|wpAny_mono u ?_ λ_ _ y=>y;rintro us R ⟨vs,G,z,S,n,t⟩;refine⟨rfl,?_,z.bk _ _ Q,P.keeps z.bk,T.keeps z.bk,λh' e hm=>Z AD σ G R h' e _ _ z hm t⟩;rw[<-S.length];exact n
end
section
variable{P:Program}{w:World}{K:PySem.W.Frag}{mg:Str->Option Value}{base:Heap}{N:List Str}{qual:Str}{scope:Scope}{f:Addr}{cd:Value}{A:Around}{outer:List Env}{s:Shared}{H:Hp}{E E':XK}
abbrev Qw(P:Program)(w:World)(K:PySem.W.Frag)(mg:Str->Option Value)(base:Heap)(N:List Str)(qual:Str)(scope:Scope)(f:Addr)(cd:Value)(A:Around)(outer:List Env)(s:Shared)(H:Hp)(E:XK):Cx:=Gn (Km P w) P w K mg base N qual scope f cd A outer s H E
theorem iJ:QX<|Qw P w K mg base N qual scope f cd A outer s H E:=⟨rfl,rfl,rfl⟩
theorem ADZ:Raises (Qw P w K mg base N qual scope f cd A outer s H E) E:=λ_ _ _ _ _ _ _ _ I hm z=>ADY iJ I hm z
end
section
variable{X:Cx}{AD:List (Addr×Obj)}{σ:St}{H:Hp}{s:Shared}
noncomputable def Cx.re(X:Cx)(z:Value->Shared->Prop)(pn':List<|Addr×Obj):Cx:={X with xe:=z,pn:=pn'}
theorem Inv.re(I:Inv X AD σ H s):Inv (X.re z<|X.pn++AD) [] σ H s:=
 ⟨⟨I.ok.mod,I.ok.kind,I.ok.glob,I.ok.blt,I.ok.above,I.ok.inj,I.ok.has,I.ok.Ii,I.ok.hd,I.ok.frames,I.ok.F8,I.ok.Jz,I.ok.bs,I.ok.Fe,I.ok.JW,I.ok.Iz,I.ok.EB,I.ok.Gv⟩,I.os,I.bare,I.base,I.loc,I.cell,I.free,I.EA,λp hp=>I.pin p (by have:p∈(X.pn++AD) ++ []:=hp;simpa using this),I.AX,I.len⟩
theorem Inv.QA{z:Value->Shared->Prop}{y:List (Addr×Obj)}(I:Inv (X.re z<|X.pn++AD) y σ H s):Inv X AD σ H s:=
 ⟨⟨I.ok.mod,I.ok.kind,I.ok.glob,I.ok.blt,I.ok.above,I.ok.inj,I.ok.has,I.ok.Ii,I.ok.hd,I.ok.frames,I.ok.F8,I.ok.Jz,I.ok.bs,I.ok.Fe,I.ok.JW,I.ok.Iz,I.ok.EB,I.ok.Gv⟩,I.os,I.bare,I.base,I.loc,I.cell,I.free,I.EA,λp hp=>I.pin p<|AHw _ hp,I.AX,I.len⟩
noncomputable def Cx.Fs(X:Cx)(ea:Addr):Cx:={X with A:=X.A.mark<|some<|.ref ea,calm:=false,xe:=λ_ _=>False}
theorem Inv.Fs(I:Inv X AD σ H s):Inv (X.Fs ea) AD σ H s:=
 ⟨⟨I.ok.mod,I.ok.kind,I.ok.glob,I.ok.blt,I.ok.above,I.ok.inj,I.ok.has,I.ok.Ii,(λz=>by contradiction),I.ok.frames,I.ok.F8,I.ok.Jz,I.ok.bs,I.ok.Fe,I.ok.JW,I.ok.Iz,I.ok.EB,I.ok.Gv⟩,I.os,I.bare,I.base,I.loc,I.cell,I.free,I.EA,I.pin,I.AX,I.len⟩
theorem Inv.T1{ea:Addr}(ok:X.Ok)(I:Inv (X.Fs ea) AD σ H s):Inv X AD σ H s:=
 ⟨ok,I.os,I.bare,I.base,I.loc,I.cell,I.free,I.EA,I.pin,I.AX,I.len⟩
def FA(ea C:Addr)(h:Heap):Prop:=∃o,h.get? ea=some o/\o.cls=.ref C
theorem Inv.AE3(I:Inv X AD σ H s)(hn:H ea=none)(hs:X.CB.heap.get? ea=none)(y:FA ea C s.heap)(v:ea≠X.env.locals)(Z:∀x c,X.env.cells.lookup x=some c->c≠ea)(hp:∀p∈X.pn++AD,p.1≠ea) : Inv X AD σ (upd H ea<|.ext<|FA ea C) s:=by
 have ne:∀b o,H b=some o->b≠ea:=λb o e z=>by rw[z,hn]at e;contradiction
 refine⟨I.ok,I.os,I.bare,⟨I.base.keep,I.base.slot,λb o e n y=>?_,I.base.there,λb xs e=>?_,λb o u e=>?_,λb ps e=>?_⟩,I.loc,I.cell,?_,λx c e=>?_,λp q=>?_,λb o e=>?_,I.len⟩
 .rw[BM (λz=>by rw[z,hs]at e;contradiction)];exact I.base.free b o e n y
 .rw[BM<|ne _ _<|I.base.El b xs e];exact I.base.El b xs e
 .rw[BM<|ne _ _<|I.base.FH b o u e];exact I.base.FH b o u e
 .obtain⟨m,q⟩:=I.base.Gb b ps e;exact⟨m,by rw[BM<|ne _ _ q];exact q⟩
 .rw[BM<|AHh v];exact I.free
 .rw[BM<|Z x c e];exact I.EA x c e
 .obtain⟨a,b,c,d,f⟩:=I.pin p q;exact⟨a,by rw[BM<|hp p q];exact b,c,d,f⟩
 .by_cases z:b=ea
  .subst z;rw[Cs]at e;cases e;refine⟨y,?_,(by rintro h1 h2 ⟨o,a,b⟩ k;exact⟨o,k o a,b⟩)⟩;obtain⟨o,q,_⟩:=y;exact⟨o,q⟩
  .rw[BM z]at e;exact(I.AX b o e).JY (λc u _ q=>q) (λc q=>by rw[BM<|ne _ _ q];exact q) λc xs q=>by rw[BM<|ne _ _ q];exact q
theorem name_goes(I:Inv X AD σ H s)(S:X.N.Nodup)(hi:X.N[i]? = some n)(D:X.env.scope.names.lookup n=some .local) (h:∀s',Inv X AD (σ.set i none) H s'->Q () s'):wpAny M A (do bindName X.env n .none;unbindBehindTheSuite X.env n pos) Q E s:=by
 have f:(X.env.scope.kind == .class||(X.env.scope.kind == .module&&X.env.locals != X.env.globals))=false:=by rw[I.ok.kind];rfl
 refine wpAny_bind<|wpAny_bindName<|Lo I S hi (.inl D) (v:=.As) rfl (λs1 Z=>?_)<|.inr D;refine wpAny_onRaise ?_;refine wpAny_bind<|wpAny_point<|wpAny_bind ?_;unfold deleteName;have T:X.env.kindOf n=some .local:=D;simp only[T,f];obtain⟨m,hn,C⟩:=id Z.loc;have hm:(m n).isSome=true:=by
  have R:i<σ.length:=by rw[I.len];exact(AGs.mp hi).1
  obtain⟨u,_,l⟩:=C i n .As hi (by rw[AIU R])<|.inl D;rcases l with⟨_,l⟩|⟨l,_⟩
  .rw[l];rfl
  .rcases l with l|l<;>(rw[T]at l;contradiction)
 refine wpAny_bind<|wpAny_nsDel_keeps hn λHs v x Y=>?_;rw[hm];refine wpAny_pure<|wpAny_point<|h _ ?_;have old:∀b o,X.CB.heap.get? b=some o->b≠X.env.locals:=λb o e=>AG7<|AHI (Heap.lt_size e) I.ok.above;refine⟨Z.ok,Z.os,Z.bare,⟨λb o e n B P=>?_,λb o e n B P=>?_,Z.base.free,λb o e P=>?_,Z.base.El,Z.base.FH,Z.base.Gb⟩,⟨_,x,λj y a O F e3=>?_⟩,λy c e=>?_,Z.free,Z.EA,λp hp=>?_,λb ob e=>?_,by simpa using I.len⟩
 .exact(Y.2 b<|old b o e).trans (Z.base.keep b o e n B P)
 .obtain⟨sl,O⟩:=Z.base.slot b o e n B P;exact⟨sl,(Y.2 b<|old b o e).trans O⟩
 .obtain⟨o',O⟩:=Z.base.there b o e P;exact⟨o',(Y.2 b<|old b o e).trans O⟩
 .have G:j≠i:=λz=>by
   subst z;have R:j<σ.length:=by rw[I.len];exact(AGs.mp hi).1
   rw[AIU R]at F;nomatch F
  rw[AHH<|AHh G]at F;have W9:y≠n:=λz=>G<|Xj S (z ▸ O) hi;obtain⟨u,r,l⟩:=C j y a O (by rw[AHH<|AHh G];exact F) e3;refine⟨u,r,?_⟩;rcases l with⟨l1,l2⟩|⟨k,c,e,z⟩
  .exact .inl ⟨l1,(AGp W9).trans l2⟩
  .exact .inr ⟨k,c,e,z.sameBut Y<|Z.Ik y c e⟩
 .obtain⟨t,z⟩:=Z.cell y c e;exact⟨t,z.sameBut Y<|Z.Ik y c e⟩
 .obtain⟨e,n,ne,nf,d⟩:=Z.pin p hp;exact⟨(Y.2 p.1 ne).trans e,n,ne,nf,d⟩
 .refine(Z.AX b ob e).JY (λc t hc q=>(Y.2 c ?_).trans q) (λ_ q=>q) λ_ _ q=>q;rintro rfl;rcases hc with rfl|hc
  .rw[Z.free]at e;contradiction
  .rw[Z.free]at hc;contradiction
end
section
variable{X:Cx}{body Ga:List Stmt}{MD:Stmt}{x n:Str}{np R4 pos:Pos}{Wc:Addr}{i:Nat}{tb:XK->TS}{ts:TS}
end
open PySem PySem.Spec PyProof.Rows PySem.W PySem.Builtin PySem.Builtin.ObjectAttr PySem.Builtin.Getset_descriptor
section
variable{K:Frag}{x D:Addr}{M:Model}{h:Heap}{prog:Program}{w:World}{A:Around}{E:Value->Shared->Prop}{s:Shared}
theorem tM(X:K.In h)(ha:findIn K (.ref D) n=some (some a))(hn:specialIn K a "__get__" = some (some g))(Mc:takesIn K a=some true):Looks M h (find (.ref x) (.ref D) n)<|.bind g a:=
 (looks_findIn X ha).andThen ((show Looks M h (getOf<|some a) (some g)from looks_specialIn X hn).andThen ((show Looks M h (dataDescriptor? (some a) (some g)) (some (g,a))from(looks_takesIn X Mc).andThen .now).andThen<|Looks.tag .now))
theorem tL(X:K.In s.heap)(p:FA x D s.heap)(z:findIn K (.ref D) "__getattribute__" = some (some<|.builtin "BaseException.__getattribute__"))(y:findIn K (.ref D) "__getattr__" = some none) (ha:findIn K (.ref D) "__class__" = some (some<|.builtin "object.__class__")) (hn:specialIn K (.builtin "object.__class__") "__get__" = some (some<|.builtin "getset_descriptor.__get__")) (Mc:takesIn K (.builtin "object.__class__")=some true) (hm:mroIn K D (.type "object")=some true) (q:mroIn K D (.type "BaseException")=some true) (h:Q (some<|.ref D) {s with toks:=s.toks+1}):wpAny (model prog w) A (getAttr? (.ref x) "__class__") Q E s:=by
 obtain⟨o,ho,hc⟩:=p;obtain⟨hp,g,d,t,os⟩:=s;have ty:Looks (model prog w) hp (typeOf<|.ref x)<|.ref D:=hc ▸ (Looks.ld ho).andThen .now;have v:=looks_findIn (M:=model prog w) X z;have f1:=tM (M:=model prog w) (x:=x) X ha hn Mc;have f2:=looks_findIn (M:=model prog w) X y;have f3:=looks_mroIn (M:=model prog w) X hm;have f4:=looks_mroIn (M:=model prog w) X q;have u:splitId "BaseException.__getattribute__" = some ("BaseException","__getattribute__"):=AGk
 refine wpAny_bind<|wpAny_mkText<|wpAny_bind<|wpAny_attempt<|wpAny_holding<|wpAny_bind<|ty.at<|wpAny_bind<|v.at ?_;dsimp only;have bd:=F.excAttr_ValueError.ga.bind<|.ref x;have Z:=F.excAttr_ValueError.ga.plain;have Y:=F.args_bexc_ga (.ref x)<|.str "__class__" t;refine wpAny_bind ?_;refine f2.at<|wpAny_bind<|wpAny_attempt<|wpAny_holding ?_;refine wpAny_bind<|wpAny_of_eq bd<|wpAny_call ?_;refine codeAny_call_builtin Z F.entry_bexc_ga ?_;simp only[u];refine wpAny_bind<|wpAny_bind<|ty.at<|f4.at ?_;refine wpAny_of_eq Y ?_;refine wpAny_bind<|wpAny_pure ?_;refine wpAny_bind<|wpAny_pure ?_;refine wpAny_bind<|ty.at<|wpAny_bind<|f1.at ?_;unfold bindTo
 repeat (first|with_reducible refine wpAny_bind ?_|with_reducible refine wpAny_holding ?_|with_reducible refine wpAny_rule ?_)
 refine wpAny_call<|codeAny_call_builtin KF.slot_gs.plain KF.entry_gs<|KF.slot_gs.check _ _ _ _ _ _ _ _ KF.type_class (KF.args_gs _ _ _) ?_;refine wpAny_bind<|wpAny_pure ?_
 delta descrGetter descrCheckInstance descrNameAndClass isInstance
 simp only[KF.owner_class]
 repeat lk
 refine⟨Code.quiet_builtin _ AGk,codeAny_builtin KF.entry_class ?_⟩
 repeat lk
 exact h
structure Nh(K:Frag)(D:Addr):Prop where
 ga:findIn K (.ref D) "__getattribute__" = some (some<|.builtin "BaseException.__getattribute__")
 gn:findIn K (.ref D) "__getattr__" = some none
 cl:findIn K (.ref D) "__class__" = some (some<|.builtin "object.__class__")
 sp:specialIn K (.builtin "object.__class__") "__get__" = some (some<|.builtin "getset_descriptor.__get__")
 tk:takesIn K (.builtin "object.__class__")=some true
 mr:mroIn K D (.type "object")=some true
 mb:mroIn K D (.type "BaseException")=some true
 hd:hasDictIn K D=true
theorem xq(Z:Nh K D):KitX K (.ref x) (.ref D) (FA x D) where
 ty:=(by rintro _ _ _ ⟨_,ho,hc⟩;exact hc ▸ (Looks.ld ho).andThen .now)
 it:=λ_ _ X _=>by
  obtain⟨c,hc,_⟩:=any_some Z.hd;unfold clsIn at hc;split at hc
  .rename_i ho;exact λ_ _ _ _ k q=>wpAny_bind<|wpAny_loadPart (k _ _<|X _ _ ho)<|wpAny_pure q
  .contradiction
 ne:=λh z dd its n sl X y=>by
  obtain⟨c,hc,_⟩:=any_some Z.hd;refine AIg.mpr λq=>?_;obtain rfl:D=z:=Value.ref.inj<|AIA.mp q;unfold clsIn at hc;split at hc
  .rename_i ho;cases (X _ _ ho).symm.trans y
  .contradiction
 ca:=λX p k=>tL X p Z.ga Z.gn Z.cl Z.sp Z.tk Z.mr Z.mb k
end
structure EW(k:Nat)(A:Around):Prop where
 dp:A.depth+3*k+5<recursionLimit
 un:A.units+16*k+200<cLine
theorem EW.deeper{k:Nat}{A:Around}(r:EW (k+1) A)(env:Env):EW k<|A.deeper env:=by have h:=(B2.deeper (A:={A with handled:=none}) ⟨rfl,r.dp,r.un⟩ env);exact⟨h.dp,h.un⟩
structure Nr(P:Program)(w:World)(K:PySem.W.Frag)(mg:Str->Option Value)(base:Heap)(k:Nat)(f:Addr)(fd:FuncData)(ps:List Str)(sp:List V->Hp->VK->Prop):Prop where
 len:∀vs H Q,sp vs H Q->vs.length=ps.length
 run:∀(A:Around)(outer:List Env)(s:Shared)(H:Hp)(args:Args)(us:List Value)(vs:List V)(Q:VK),EW k A->Ko P w K mg base A outer s H->BindsTo s fd args (ps.zip us)->Ar vs us->sp vs H Q->codeAny (model P w) A (.call (.ref f) args) (λr s'=>match r with|.ok (.ret u)=>CE outer P w H s Q u s'|_=>False) s
def Qv(P:Program)(w:World)(K:PySem.W.Frag)(mg:Str->Option Value)(base:Heap)(N:List Str)(qual:Str)(scope:Scope)(f:Addr)(z:Value)(A:Around)(outer:List Env)(s:Shared)(H:Hp):Cx:=
 {Gn ER P w K mg base N qual scope f z A outer s H E0 with calm:=false,xe:=λ_ _=>False}
theorem xC{K:PySem.W.Frag}(S:IU N ps scope) (y:Ko P w K mg base A outer s H) (v:vs.length=ps.length) (r:Ar vs us) (x:InCallC s s.heap.objs.size (bindL (envOfC qual scope s.heap.objs.size f q).kindOf (ps.zip us) λ_=>none) (cellsFrom (s.heap.objs.size+1) scope.names []) (bindC (envOfC qual scope s.heap.objs.size f q).kindOf (ps.zip us) λ_=>none) s1) :
 Inv (Qv P w K mg base N qual scope f q A outer s H) [] (start N vs) H s1:=by
 have u:Ko P w K mg base {A with handled:=none} outer s H:=⟨y.frames,y.mod,y.bs,y.Fe,y.EB,y.Gv,y.AX,y.bare⟩;have I:=iH (CX:=ER) (E:=E0) S rfl u v r x;exact⟨⟨I.ok.mod,I.ok.kind,I.ok.glob,I.ok.blt,I.ok.above,I.ok.inj,I.ok.has,I.ok.Ii,(λz=>by contradiction),I.ok.frames,I.ok.F8,I.ok.Jz,I.ok.bs,I.ok.Fe,I.ok.JW,I.ok.Iz,I.ok.EB,I.ok.Gv⟩,I.os,I.bare,I.base,I.loc,I.cell,I.free,I.EA,I.pin,I.AX,I.len⟩
theorem t9{K:PySem.W.Frag}{mg:Str->Option Value}{base:Heap}{k:Nat}{f:Addr}{x qual:Str}{st:Stmt}{fd:FuncData}{N ps:List Str}{sp:List V->Hp->VK->Prop}(F:E9 K x qual st f fd)(S:IU N ps<|BX st) (len:∀vs H Q,sp vs H Q->vs.length=ps.length) (D:∀(A3:Value)(A:Around)(outer:List Env)(s:Shared)(H:Hp)(vs:List V)(Q:VK),EW k (A.deeper<|envOfC qual (BX st) s.heap.objs.size f A3)->sp vs H Q->
  ∃t,Cw (Qv P w K mg base N qual (BX st) f A3 A outer s H) (EZ st) t/\t {nx:=λ_ H'=>Q .As H',rt:=Q} (start N vs) H):Nr P w K mg base (k+1) f fd ps sp:=by
 obtain⟨oc,od,kV,doc,pm,an,A3,ct,HL,rfl,R,B⟩:=F.ex;refine⟨len,λA outer s H args us vs Q Z p G r Y=>?_⟩;have O:=p.mod.Ms.keeps λb o e=>(p.bs b o e).1;have T:∀y∈ps.zip us,(BX st).names.lookup y.1=some .local\/((BX st).names.lookup y.1=some .cell/\((cellsFrom (s.heap.objs.size+1) (BX st).names []).lookup y.1).isSome=true):=(by rintro⟨n,v⟩ C;exact(S.par n (AJx C).1).elim .inl λq=>.inr ⟨q,AJo _ _ _<|.inl q⟩);refine codeAny_call_function (by have:=Z.dp;lia) (O _ _ R) rfl S.co S.gen rfl (PySem.W.codeRec_of O B)<|G _ _ _ _<|wpAny_newFunctionEnv_cells S.kind T λenv he s1 x=>?_;subst he;refine⟨(p.mod.nolimit.keeps λb o e=>(p.bs b o e).1).keeps x.toInCall.keep,codeAny_func ?_⟩;obtain⟨t,E,I⟩:=D A3 A outer s H vs Q (Z.deeper _) Y;refine wpAny_mono (E [] s1 (start N vs) H _ (xC S p (len _ _ _ Y) r x) I) (λfl s' hs=>?_) λe s' z=>z.elim;cases fl with
 |ret u=>
  obtain⟨v,a,H',J,rv,q⟩:=hs;exact⟨v,H',J.os,J.bare,J.base,J.AX,rv,q⟩
 |next=>
  obtain⟨a,H',J,q⟩:=hs;exact⟨.As,H',J.os,J.bare,J.base,J.AX,rfl,q⟩
 |brk=>obtain⟨_,_,_,q⟩:=hs;exact q.elim
 |cont=>obtain⟨_,_,_,q⟩:=hs;exact q.elim
section
variable{X:Cx}{k:Nat}{f:Addr}{fd:FuncData}{ps:List Str}{sp:List V->Hp->VK->Prop}{x:Str}{p pos:Pos}{e:Expr}{es:List Expr}{t:TA}
def AEN(sp:List V->Hp->VK->Prop)(t:TA):TE:=λσ H Q=>t σ H λvs z=>sp vs z Q
theorem AAY(F:Nr X.prog X.w X.K X.mg X.base k f fd ps sp)(Z:EW k X.A)(Y:Gl X x)(hm:X.mg x=some (.ref f))(O:PySem.W.keepIn X.K (.ref f)=true)(P:Binds X.K fd ps []) (ha:PA X (e::es) t) (D:(x==("__debug__"))=false:=by decide) (he:starEach (e::es) X.env=(false,eval e X.env)::starEach es X.env:=by rfl) (R:(backTo pos<|starEach es X.env).any (·.1)=false:=by rfl) : PE X (.Call (.Name x p) (e::es) [] pos)<|AEN sp t:=by
 intro AD s σ H Q I h;refine wpAny_Call_Name_kw<|Mt I Y hm ?_ D;refine PySem.W.callWith_K I.ok.mod.Ms O (Ae (ha pos AD s σ H _ I h) ?_) he R;rintro us s1 ⟨vs,B,y,r,q⟩;refine⟨y.BZ,?_⟩;have G:us.length=ps.length:=by rw[<-r.length];exact F.len _ _ _ q
 have v:=P s1 us y.BZ (by simpa using G);rw[AH8]at v;refine wpAny_call<|codeAny_mono (F.run X.A X.stack s1 B ⟨us,[]⟩ us vs Q Z y.Vr v r q) λr s' z=>?_;cases r with
 |error e=>exact z.elim
 |ok fl=>
  cases fl with
  |ret u=>exact y.after z
  |next=>exact z.elim
  |brk=>exact z.elim
  |cont=>exact z.elim
end
end L2
set_option genInjectivity false
set_option genSizeOf false
namespace L2.PL
set_option tactic.hygienic true
open PySem PySem.Spec PyProof.Rows
inductive PV where
 |As|bl (b:Bool)|int (i:Int)|str (x:Str)|tup (xs:List PV)|lst (xs:List PV)
 |rd (xs:List PV)
 |C0 (ks:List<|List Int) (xs:List PV)
inductive RV where
 |cl (p:PV)|bo (ps:List PV)|fr (ps:List PV)
 |bd (ks:List<|List Int) (xs:List PV)|fd (ks:List<|List Int) (xs:List PV)
 |tf (p:PV) (ps:List PV)
inductive SV where
 |im (p:PV)|own (ps:List PV)
 |Dv (t:Option Addr) (ks:List<|List Int) (xs:List PV)
 |Eh (AK:List<|Int×Int)
 |exc (nm:Str)
abbrev AS:=List<|Option SV
noncomputable def Co(k:List Int):List Key:=k.map Sum.inl
mutual
def Rep(K:W.Frag)(H:Hp):PV->V->Prop
 |.As,v=>v=.As
 |.bl b,v=>v=.bl b
 |.int i,v=>v=.int i
 |.str x,v=>v=.str x
 |.tup xs,v=>∃a vs,v=.ref a/\Ba K H a vs/\AY K H xs vs
 |.lst xs,v=>∃a vs,v=.ref a/\Rd H a (.lst vs)/\AY K H xs vs
 |.rd xs,v=>∃a vs,v=.ref a/\CO K H a vs/\AY K H xs vs
 |.C0 ks xs,v=>∃a AK,v=.ref a/\Rd H a (.dT AK)/\AK.map (·.1)=ks.map Co/\AY K H xs (AK.map (·.2))
def AY(K:W.Frag)(H:Hp):List PV->List V->Prop
 |[],vs=>vs=[]
 |x::xs,vs=>∃v r,vs=v::r/\Rep K H x v/\AY K H xs r
end
theorem Rd.same(s:Ah H H')(h:Rd H a o):Rd H' a o:=by
 rcases h with h|⟨z,h⟩
 .exact .inl<|s _ _ h
 .exact .inr ⟨z,s _ _ h⟩
theorem Ba.same{K:W.Frag}(s:Ah H H')(h:Ba K H a xs):Ba K H' a xs:=by
 rcases h with h|h
 .exact .inl<|Rd.same s h
 .exact .inr h
mutual
theorem Rep.same{K:W.Frag}{H H':Hp}(s:Ah H H'):∀{p:PV}{v:V},Rep K H p v->Rep K H' p v
 |.As,_,h=>h
 |.bl _,_,h=>h
 |.int _,_,h=>h
 |.str _,_,h=>h
 |.tup _,_,h=>by unfold Rep at h ⊢;obtain⟨a,vs,e,q,r⟩:=h;exact⟨a,vs,e,Ba.same s q,AY.same s r⟩
 |.lst _,_,h=>by unfold Rep at h ⊢;obtain⟨a,vs,e,q,r⟩:=h;exact⟨a,vs,e,Rd.same s q,AY.same s r⟩
 |.rd _,_,h=>by unfold Rep at h ⊢;obtain⟨a,vs,e,q,r⟩:=h;exact⟨a,vs,e,Ah.seq s q,AY.same s r⟩
 |.C0 _ _,_,h=>by unfold Rep at h ⊢;obtain⟨a,vs,e,q,k,r⟩:=h;exact⟨a,vs,e,Rd.same s q,k,AY.same s r⟩
theorem AY.same{K:W.Frag}{H H':Hp}(s:Ah H H'):∀{ps:List PV}{vs:List V},AY K H ps vs->AY K H' ps vs
 |[],_,h=>h
 |_::_,_,h=>by unfold AY at h ⊢;obtain⟨v,r,e,q,t⟩:=h;exact⟨v,r,e,Rep.same s q,AY.same s t⟩
end
set_option tactic.hygienic false
theorem AY.paired{K:W.Frag}:∀{ps:List PV}{vs:List V},AY K H ps vs->Paired (Rep K H) ps vs
 |[],_,h=>by subst h;exact .nil
 |_::_,_,h=>by obtain⟨v,r,e,q,t⟩:=h;subst e;exact .cons q<|AY.paired t
theorem AY.of{K:W.Frag}:∀{ps:List PV}{vs:List V},Paired (Rep K H) ps vs->AY K H ps vs:=by
 intro ps vs h
 induction h with
 |nil=>rfl
 |cons q t ih=>exact⟨_,_,rfl,q,ih⟩
section
variable{α β:Type}{F:α->β->Prop}
theorem NF:∀{xs:List α}{us:List β}{i:Nat}{x:α},Paired F xs us->xs[i]? = some x->∃u,us[i]? = some u/\F x u:=by
 intro xs us i x h
 induction h generalizing i with
 |nil=>intro e;contradiction
 |cons r t ih=>
  intro e;cases i with
  |zero=>cases e;exact⟨_,rfl,r⟩
  |succ i=>exact ih e
theorem j4:∀{xs:List α}{us:List β}{i:Nat}{u:β},Paired F xs us->us[i]? = some u->∃x,xs[i]? = some x/\F x u:=by
 intro xs us i x h
 induction h generalizing i with
 |nil=>intro e;contradiction
 |cons r t ih=>
  intro e;cases i with
  |zero=>cases e;exact⟨_,rfl,r⟩
  |succ i=>exact ih e
theorem ND:∀{xs ys:List α}{us ws:List β},Paired F xs us->Paired F ys ws->Paired F (xs++ys) (us++ws):=by
 intro xs ys us ws h s
 induction h with
 |nil=>exact s
 |cons r t ih=>exact .cons r ih
theorem j5:∀{xs:List α}{us:List β}(n:Nat),Paired F xs us->Paired F (xs.take n) (us.take n):=by
 intro xs us n h
 induction h generalizing n with
 |nil=>cases n<;>exact .nil
 |cons r t ih=>
  cases n with
  |zero=>exact .nil
  |succ n=>exact .cons r<|ih n
theorem j3:∀{xs:List α}{us:List β}(n:Nat),Paired F xs us->Paired F (xs.drop n) (us.drop n)
 |_,_,0,r=>r
 |_,_,_+1,.nil=>.nil
 |_,_,n+1,.cons _ t=>j3 n t
theorem AAQ(h:Paired F xs us):Paired F xs.reverse us.reverse:=by
 induction h with
 |nil=>exact .nil
 |cons r t ih=>simp only[AJl,AJl];exact ND ih<|.cons r .nil
end
inductive Mu(H:Hp)(a:Addr):Prop
 |l {xs:List V} (h:H a=some (.lst xs)):Mu H a
 |d {AK:List (List Key×V)} (h:H a=some (.dT AK)):Mu H a
 |k {AK:List (Key×V)} (h:H a=some (.dK AK)):Mu H a
theorem Mu.same(s:Ah H H'):Mu H a->Mu H' a
 |.l h=>.l<|s _ _ h
 |.d h=>.d<|s _ _ h
 |.k h=>.k<|s _ _ h
theorem Mu.get:Mu H a->∃o,H a=some o
 |.l h=>⟨_,h⟩
 |.d h=>⟨_,h⟩
 |.k h=>⟨_,h⟩
structure Ap(G H G' H':Hp):Prop where
 gg:Ah G G'
 hh:Ah H H'
 sub:Ah G' H'
 ex:∀a,Mu H a->G a=none->G' a=none
theorem Ap.refl(h:Ah G H):Ap G H G H:=⟨Ah.refl _,Ah.refl _,h,λ_ _ n=>n⟩
theorem Ap.trans(a:Ap G H z y)(b:Ap z y q v):Ap G H q v:=
 ⟨a.gg.trans b.gg,a.hh.trans b.hh,b.sub,λc h n=>b.ex c (h.same a.hh)<|a.ex c h n⟩
noncomputable def EC(G' H H':Hp):Hp:=λa=>match G' a with|some o=>some o|none=>match H a with|some _=>none|none=>H' a
theorem LM:Ah G'<|EC G' H H':=λa o h=>by unfold EC;rw[h]
theorem WE(s:Ah G' H')(h:H a=none)(h':H' a=some o):EC G' H H' a=some o:=by
 unfold EC;cases e:G' a with
 |some o'=>rw[s _ _ e]at h';exact h'
 |none=>rw[h];exact h'
theorem Ap.all(s:Ap G H G' H'):Ap G H (EC G' H H') H':=by
 refine⟨s.gg.trans LM,s.hh,λa o h=>?_,λa h n=>?_⟩
 .unfold EC at h;cases e:G' a with
  |some o'=>rw[e]at h;cases h;exact s.sub _ _ e
  |none=>
   rw[e]at h;cases z:H a with
   |some _=>rw[z]at h;contradiction
   |none=>rw[z]at h;exact h
 .unfold EC;obtain⟨o,ho⟩:=h.get;rw[s.ex a h n,ho]
theorem Ap.new(s:Ah G H)(o:HO)(h:H a=none):Ap G H (upd G a o)<|upd H a o:=by
 have g:=s.free h;refine⟨λb u q=>by rw[BM<|Du q g];exact q,λb u q=>by rw[BM<|Du q h];exact q,λb u q=>?_,λb q n=>?_⟩
 .by_cases e:b=a
  .subst e;rw[Cs]at q ⊢;exact q
  .rw[BM e]at q ⊢;exact s _ _ q
 .obtain⟨o,ho⟩:=q.get;rw[BM<|Du ho h];exact n
theorem Ap.HI(s:Ah G H)(o:HO)(h:H a=none):Ap G H G<|upd H a o:=by have g:=s.free h;exact⟨Ah.refl _,λb u q=>by rw[BM<|Du q h];exact q,λb u q=>by rw[BM<|Du q g];exact s _ _ q,λ_ _ n=>n⟩
def Bx(K:W.Frag)(H G' H':Hp):RV->V->Prop
 |.cl p,v=>Rep K G' p v
 |.bo ps,v=>∃a vs,v=.ref a/\G' a=none/\H' a=some (.lst vs)/\AY K G' ps vs
 |.fr ps,v=>∃a vs,v=.ref a/\H a=none/\G' a=none/\H' a=some (.lst vs)/\AY K G' ps vs
 |.bd ks xs,v=>∃a AK,v=.ref a/\G' a=none/\H' a=some (.dT AK)/\AK.map (·.1)=ks.map Co/\AY K G' xs (AK.map (·.2))
 |.fd ks xs,v=>∃a AK,v=.ref a/\H a=none/\G' a=none/\H' a=some (.dT AK)/\AK.map (·.1)=ks.map Co/\AY K G' xs (AK.map (·.2))
 |.tf p ps,v=>∃a l x vs,v=.ref a/\Ba K G' a [x,.ref l]/\Rep K G' p x/\H l=none/\G' l=none/\H' l=some (.lst vs)/\AY K G' ps vs
theorem Bx.step{K:W.Frag}(s:Ap z y u Z)(h:Bx K H z y r v):Bx K H u Z r v:=by
 cases r with
 |cl p=>exact Rep.same s.gg h
 |bo ps=>
  obtain⟨a,vs,e,g,q,r⟩:=h;exact⟨a,vs,e,s.ex a (.l q) g,s.hh _ _ q,AY.same s.gg r⟩
 |fr ps=>
  obtain⟨a,vs,e,n,g,q,r⟩:=h;exact⟨a,vs,e,n,s.ex a (.l q) g,s.hh _ _ q,AY.same s.gg r⟩
 |bd ks xs=>
  obtain⟨a,vs,e,g,q,k,r⟩:=h;exact⟨a,vs,e,s.ex a (.d q) g,s.hh _ _ q,k,AY.same s.gg r⟩
 |fd ks xs=>
  obtain⟨a,vs,e,n,g,q,k,r⟩:=h;exact⟨a,vs,e,n,s.ex a (.d q) g,s.hh _ _ q,k,AY.same s.gg r⟩
 |tf p ps=>
  obtain⟨a,l,x,vs,e,t,Y,n,g,q,r⟩:=h;exact⟨a,l,x,vs,e,Ba.same s.gg t,Rep.same s.gg Y,n,s.ex l (.l q) g,s.hh _ _ q,AY.same s.gg r⟩
theorem Bx.back{K:W.Frag}(s:Ah z H)(h:Bx K H G' H' r v):Bx K z G' H' r v:=by
 cases r with
 |cl p=>exact h
 |bo ps=>exact h
 |fr ps=>
  obtain⟨a,vs,e,n,g,q,r⟩:=h;exact⟨a,vs,e,s.free n,g,q,r⟩
 |bd ks xs=>exact h
 |fd ks xs=>
  obtain⟨a,vs,e,n,g,q,r⟩:=h;exact⟨a,vs,e,s.free n,g,q,r⟩
 |tf p ps=>
  obtain⟨a,l,x,vs,e,t,y,n,q⟩:=h;exact⟨a,l,x,vs,e,t,y,s.free n,q⟩
noncomputable def RV.list:RV->Option (List PV)
 |.cl (.lst ps)=>some ps
 |.bo ps=>some ps
 |.fr ps=>some ps
 |_=>none
theorem Bx.list{K:W.Frag}(sub:Ah G' H')(h:Bx K H G' H' r v)(e:r.list=some ps):∃a vs,v=.ref a/\Rd H' a (.lst vs)/\AY K G' ps vs:=by
 cases r with
 |cl p=>
  cases p with
  |lst qs=>
   simp only[RV.list,AHc]at e;subst e;have h':=h;obtain⟨a,vs,e,q,r⟩:=h';exact⟨a,vs,e,Rd.same sub q,r⟩
  |_=>simp[RV.list]at e
 |bo qs=>
  simp only[RV.list,AHc]at e;subst e;obtain⟨a,vs,e,g,q,r⟩:=h;exact⟨a,vs,e,.inl q,r⟩
 |fr qs=>
  simp only[RV.list,AHc]at e;subst e;obtain⟨a,vs,e,n,g,q,r⟩:=h;exact⟨a,vs,e,.inl q,r⟩
 |bd ks xs=>simp[RV.list]at e
 |fd ks xs=>simp[RV.list]at e
 |tf p ps=>simp[RV.list]at e
noncomputable def RV.clean:RV->Option PV
 |.cl p=>some p
 |.fr ps=>some<|.lst ps
 |.fd ks xs=>some<|.C0 ks xs
 |.tf p ps=>some<|.tup [p,.lst ps]
 |.bo _=>none
 |.bd _ _=>none
theorem Bx.clean{K:W.Frag}(sub:Ah G' H')(h:Bx K H G' H' r v)(e:r.clean=some p):Rep K (EC G' H H') p v:=by
 cases r with
 |cl q=>
  simp only[RV.clean,AHc]at e;subst e;exact Rep.same LM h
 |bo qs=>simp[RV.clean]at e
 |fr qs=>
  simp only[RV.clean,AHc]at e;subst e;obtain⟨a,vs,e,n,g,q,r⟩:=h;exact⟨a,vs,e,.inl<|WE sub n q,AY.same LM r⟩
 |bd ks xs=>simp[RV.clean]at e
 |fd ks xs=>
  simp only[RV.clean,AHc]at e;subst e;obtain⟨a,vs,e,n,g,q,k,r⟩:=h;exact⟨a,vs,e,.inl<|WE sub n q,k,AY.same LM r⟩
 |tf p ps=>
  simp only[RV.clean,AHc]at e;subst e;obtain⟨a,l,x,vs,e,t,y,n,g,q,r⟩:=h;refine⟨a,_,e,Ba.same LM t,?_⟩;have z:Rep K (EC G' H H') (.lst ps)<|.ref l:=by exact⟨l,vs,rfl,.inl<|WE sub n q,AY.same LM r⟩
  exact⟨_,_,rfl,Rep.same LM y,_,_,rfl,z,rfl⟩
def DU(K:W.Frag)(nm:Str)(C:Addr):Prop:=W.nsIn K mainGlobals nm=some (some<|.ref C)
theorem DU.inj{K:W.Frag}(a:DU K nm C)(b:DU K nm D):C=D:=by unfold DU at a b;rw[a]at b;simpa using b
noncomputable def KR(p:Int×Int):Key×V:=(.inl p.1,.int p.2)
def MA(K:W.Frag)(G H:Hp):SV->V->Prop
 |.exc nm,v=>∃a C,v=.ref a/\DU K nm C/\G a=some (.ext<|FA a C)
 |.im p,v=>Rep K G p v
 |.own ps,v=>∃a vs,v=.ref a/\G a=none/\H a=some (.lst vs)/\AY K G ps vs
 |.Dv t ks xs,v=>∃a AK,v=.ref a/\G a=none/\H a=some (.dT AK)/\AK.map (·.1)=ks.map Co/\AY K G xs (AK.map (·.2))/\∀b,t=some b->a=b
 |.Eh AK,v=>∃a,v=.ref a/\G a=none/\H a=some (.dK<|AK.map KR)
theorem MA.step{K:W.Frag}(s:Ap G H G' H')(h:MA K G H sv v):MA K G' H' sv v:=by
 cases sv with
 |exc nm=>
  obtain⟨a,C,e,n,q⟩:=h;exact⟨a,C,e,n,s.gg _ _ q⟩
 |im p=>exact Rep.same s.gg h
 |own ps=>
  obtain⟨a,vs,e,g,q,r⟩:=h;exact⟨a,vs,e,s.ex a (.l q) g,s.hh _ _ q,AY.same s.gg r⟩
 |Dv t ks xs=>
  obtain⟨a,vs,e,g,q,k,r,z⟩:=h;exact⟨a,vs,e,s.ex a (.d q) g,s.hh _ _ q,k,AY.same s.gg r,z⟩
 |Eh AK=>
  obtain⟨a,e,g,q⟩:=h;exact⟨a,e,s.ex a (.k q) g,s.hh _ _ q⟩
noncomputable def SV.E2:SV->Bool
 |.own _=>true
 |.Dv _ _ _=>true
 |.Eh _=>true
 |_=>false
structure B8(K:W.Frag)(G H:Hp)(ρ:AS)(σ:St):Prop where
 sub:Ah G H
 slot:∀(i:Nat)(sv:SV),ρ[i]? = some (some sv)->∃v,σ[i]? = some (some v)/\MA K G H sv v
 apart:∀(i j:Nat)(s t:SV)(a b:Addr),i≠j->ρ[i]? = some (some s)->s.E2=true->ρ[j]? = some (some t)->t.E2=true->σ[i]? = some (some<|.ref a)->σ[j]? = some (some<|.ref b)->a≠b
 len:ρ.length=σ.length
theorem B8.step{K:W.Frag}(s:Ap G H G' H')(h:B8 K G H ρ σ):B8 K G' H' ρ σ:=
 ⟨s.sub,λi sv e=>let ⟨v,e1,q⟩:=h.slot i sv e;⟨v,e1,q.step s⟩,h.apart,h.len⟩
set_option tactic.hygienic true
abbrev EF:=AS->Option RV
def tX(K:W.Frag)(f:EF):TE:=λσ H Q=>∃G ρ r,B8 K G H ρ σ/\f ρ=some r/\∀v G' H',Ap G H G' H'->Bx K H G' H' r v->Q v H'
def PX(X:Cx)(e:Expr)(f:EF):Prop:=PE X e<|tX X.K f
abbrev BF:=AS->Option Bool
def GA(K:W.Frag)(f:BF):TT:=λσ H Q=>∃G ρ b,B8 K G H ρ σ/\f ρ=some b/\∀G' H',Ap G H G' H'->Q b H'
def DW(X:Cx)(e:Expr)(f:BF):Prop:=PT X e<|GA X.K f
def IY(X:Cx)(e:Expr)(f:BF):Prop:=PW X e<|GA X.K f
abbrev AF:=AS->Option (List RV)
def D2(K:W.Frag)(H G' H':Hp):List RV->List V->Prop:=Paired<|Bx K H G' H'
def Tu(K:W.Frag)(f:AF):TA:=λσ H Q=>∃G ρ rs,B8 K G H ρ σ/\f ρ=some rs/\∀vs G' H',Ap G H G' H'->D2 K H G' H' rs vs->Q vs H'
def Cy(X:Cx)(es:List Expr)(f:AF):Prop:=PA X es<|Tu X.K f
theorem PE.imp(h:PE X e t)(i:∀σ H Q,t' σ H Q->t σ H Q):PE X e t':=λAD s σ H Q I q=>h AD s σ H Q I<|i σ H Q q
theorem PT.imp(h:PT X e t)(i:∀σ H Q,t' σ H Q->t σ H Q):PT X e t':=λAD s σ H Q I q=>h AD s σ H Q I<|i σ H Q q
theorem PW.imp(h:PW X e t)(i:∀σ H Q,t' σ H Q->t σ H Q):PW X e t':=λz AD s σ H Q I q=>h z AD s σ H Q I<|i σ H Q q
theorem PA.imp(h:PA X es t)(i:∀σ H Q,t' σ H Q->t σ H Q):PA X es t':=λpos AD s σ H Q I q=>h pos AD s σ H Q I<|i σ H Q q
theorem PS.imp{st:Stmt}(h:PS X st t)(i:∀D σ H,t' D σ H->t D σ H):PS X st t':=λAD s σ H D I q=>h AD s σ H D I<|i D σ H q
theorem Cw.imp{st:List Stmt}(h:Cw X st t)(i:∀D σ H,t' D σ H->t D σ H):Cw X st t':=λAD s σ H D I q=>h AD s σ H D I<|i D σ H q
noncomputable def AG(i:Nat):EF:=λρ=>match ρ[i]? with|some (some<|.im p)=>some (.cl p)|some (some<|.own ps)=>some (.bo ps)|some (some<|.Dv _ ks xs)=>some (.bd ks xs)|_=>none
noncomputable def fC(p:PV):EF:=λ_=>some<|.cl p
section
variable{X:Cx}{a b c e:Expr}{es:List Expr}{fa fb fc f:EF}{pos:Pos}
theorem ACK(i:Nat)(u:X.N[i]? = some x)(Z:DJ X.env.scope x)(hd:(x==("__debug__"))=false) (Y:(x==("__classdict__"))=false):PX X (.Name x pos)<|AG i:=by
 refine PE.imp (Ej u Z hd Y) ?_;rintro σ H Q ⟨G,ρ,r,R,e,q⟩;unfold AG at e;split at e
 .rename_i p hp;cases e;obtain⟨v,z,y⟩:=R.slot i _ hp;exact⟨v,z,q v G H (Ap.refl R.sub) y⟩
 .rename_i ps hp;cases e;obtain⟨v,z,y⟩:=R.slot i _ hp;exact⟨v,z,q v G H (Ap.refl R.sub) y⟩
 .rename_i ks xs hp;cases e;obtain⟨v,z,a,vs,e,g,w,k,r,_⟩:=R.slot i _ hp;exact⟨v,z,q v G H (Ap.refl R.sub) ⟨a,vs,e,g,w,k,r⟩⟩
 .contradiction
set_option tactic.hygienic false
theorem NM(h:PE X e<|tC v)(z:∀G,Rep X.K G p v):PX X e<|fC p:=
 PE.imp h (by rintro σ H Q ⟨G,ρ,r,R,e,q⟩;cases e;exact q v G H (Ap.refl R.sub)<|z G)
theorem ABx:PX X (.Constant (.int i) j pos)<|fC<|.int i:=NM X3 λ_=>by rfl
theorem ABg:PX X (.Constant (.bool i) j pos)<|fC<|.bl i:=NM AAX λ_=>by rfl
theorem ACH:PX X (.Constant (.str i) j pos)<|fC<|.str i:=NM kL λ_=>by rfl
theorem ACB:PX X (.Constant .none j pos)<|fC .As:=NM AAi λ_=>by rfl
noncomputable def f2(k:RV->RV->Option RV)(fa fb:EF):EF:=λρ=>match fa ρ with|none=>none|some x=>match fb ρ with|none=>none|some y=>k x y
def Dj(K:W.Frag)(k:RV->RV->Option RV)(r:R2):Prop:=
 ∀(x y z:RV)(q G H:Hp)(u p:V)(Q:VK),Ah G H->Ah q H->k x y=some z->Bx K q G H x u->Bx K q G H y p->(∀v G' H',Ap G H G' H'->Bx K q G' H' z v->Q v H')->r u p H Q
theorem Tt{K:W.Frag}(p:Dj K k r)(h:tX K (f2 k fa fb) σ H Q):P9 r (tX K fa) (tX K fb) σ H Q:=by
 obtain⟨G,ρ,z,R,e,q⟩:=h;unfold f2 at e;cases ea:fa ρ with
 |none=>rw[ea]at e;contradiction
 |some x=>
  rw[ea]at e;cases u:fb ρ with
  |none=>rw[u]at e;contradiction
  |some y=>
   rw[u]at e;refine⟨G,ρ,x,R,ea,λZ Y H1 s1 O=>⟨Y,ρ,y,R.step s1,u,λP D F s2 B=>?_⟩⟩;exact p x y z H D F Z P Q s2.sub (s1.hh.trans s2.hh) e (O.step s2) (B.back s1.hh) λv G' H' S T=>q v G' H' ((s1.trans s2).trans S) T
theorem Py(ho:Be X (binaryOp op) r)(z:Dj X.K k r)(ha:PX X a fa)(y:PX X b fb):PX X (.BinOp a op b pos)<|f2 k fa fb:=
 PE.imp (AAl ho ha y) λ_ _ _ h=>Tt z h
def scalar:V->PV->Prop
 |.int i,.int j=>i=j
 |.bl i,.bl j=>i=j
 |.str i,.str j=>i=j
 |.As,.As=>True
 |_,_=>False
theorem scalar.rep{K:W.Frag}(h:scalar v p):Rep K G p v:=by cases v<;>cases p<;>simp only[scalar]at h<;>first|exact h.elim|(subst h;rfl)|(rfl)
set_option tactic.hygienic true
theorem Bx.int{K:W.Frag}(h:Bx K z G H (.cl<|.int i) v):v=.int i:=by have h':=h;exact h'
theorem Bx.bl{K:W.Frag}(h:Bx K z G H (.cl<|.bl i) v):v=.bl i:=by have h':=h;exact h'
noncomputable def kI(C:Int->Int->Prop)[∀i j,Decidable<|C i j](g:Int->Int->PV):RV->RV->Option RV
 |.cl (.int i),.cl (.int j)=>if C i j then some (.cl<|g i j)else none
 |_,_=>none
theorem Xs{K:W.Frag}[∀i j,Decidable<|C i j](u:∀i j,C i j->v i j)(p:∀i j,C i j->scalar (g' i j) (g i j)):Dj K (kI C g)<|rI v g':=by
 intro x y z H0 G H vx vy Q sub _ e Z Y q;unfold kI at e;split at e
 .rename_i i j;split at e
  .rename_i hc;cases e;exact⟨i,j,Z.int,Y.int,u i j hc,q _ G H (Ap.refl sub) (p i j hc).rep⟩
  .contradiction
 .contradiction
theorem NC{K:W.Frag}(v:∀i j,scalar (g' i j)<|g i j):Dj K (kI (λ_ _=>True) g)<|IG g':=by
 intro x y z H0 G H vx vy Q sub _ e u p q;unfold kI at e;split at e
 .rename_i i j;cases e;exact⟨i,j,u.int,p.int,q _ G H (Ap.refl sub) (v i j).rep⟩
 .contradiction
end
end L2.PL
namespace L2.PL
open PySem PySem.Spec PyProof.Rows
section
set_option tactic.hygienic true
variable{X:Cx}{a b c e:Expr}{es:List Expr}{fa fb fc f:EF}{pos:Pos}
instance{i j:Int}:Decidable<|Fb i j:=by unfold Fb;infer_instance
instance{i j:Int}:Decidable<|Ng i j:=by unfold Ng;infer_instance
def BI:RV->RV->Option RV:=kI (λ_ _=>True) λi j=>.int<|i-j
def DN:RV->RV->Option RV:=kI Fb λi j=>.int<|i*j
def Cd:RV->RV->Option RV:=kI Ng λi j=>.int<|i / j
def BV:RV->RV->Option RV:=kI (λ_ j=>0<j) λi j=>.int<|i%j
theorem ACI(ha:PX X a fa)(z:PX X b fb):PX X (.BinOp a .Sub b pos)<|f2 BI fa fb:=Py zr (NC λ_ _=>rfl) ha z
theorem AB9(ha:PX X a fa)(z:PX X b fb):PX X (.BinOp a .Mult b pos)<|f2 DN fa fb:=Py zm (Xs (λ_ _ h=>h) λ_ _ _=>rfl) ha z
theorem ABq(ha:PX X a fa)(z:PX X b fb):PX X (.BinOp a .FloorDiv b pos)<|f2 Cd fa fb:=Py zc (Xs (λ_ _ h=>h) λ_ _ _=>rfl) ha z
theorem AB8(ha:PX X a fa)(z:PX X b fb):PX X (.BinOp a .Mod b pos)<|f2 BV fa fb:=Py zk (Xs (λ_ _ h=>h) λ_ _ _=>rfl) ha z
def YB:R2:=λx y H Q=>∃l b xs zs,x=.ref l/\y=.ref b/\Rd H l (.lst xs)/\Rd H b (.lst zs)/\xs.length+zs.length<=sizeLine/\∀p,H p=none->Q (.ref p) (upd H p<|.lst<|xs++zs)
theorem za:Be X (binaryOp .Add) YB:=by
 intro AD s σ H x y v u Q I Y O h;obtain⟨l,b,xs,zs,rfl,rfl,D,F,hz,q⟩:=h;cases Y;cases O;obtain⟨z,its,n,r,e⟩:=D.ok I.AX;obtain⟨z2,p,n2,Z,R⟩:=F.ok I.AX;have hl:=r.length;have LS:=Z.length;refine PySem.P.add_list e R ?_ (by rw[AG2,AG2];lia);have ea:its.toArray++p.toArray=(its++p).toArray:=AGh
 rw[ea];exact⟨.ref _,_,I.yF (r.append Z) (by rw[AHC];omega),rfl,q _ I.fresh⟩
def PB(x y:RV):Option RV:=match x.list,y.list with
 |some xs,some ys=>if xs.length+ys.length<=1000 then some (.fr<|xs++ys)else none
 |_,_=>none
theorem small(h:n<=1000):n<=sizeLine:=AIc<|lW h
theorem AY.len{K:W.Frag}(h:AY K H ps vs):ps.length=vs.length:=Paired.length h.paired
theorem zU{K:W.Frag}:Dj K PB YB:=by
 intro x y z H0 G H vx vy Q sub Z e Y O q;unfold PB at e;split at e
 .rename_i xs ys ex P;split at e
  .cases e;obtain⟨l,vs,rfl,D,v⟩:=Y.list sub ex;obtain⟨b,us,rfl,F,u⟩:=O.list sub P;have e1:=v.len;have e2:=u.len;refine⟨l,b,vs,us,rfl,rfl,D,F,small U,λp hp=>?_⟩;refine q (.ref p) G _ (Ap.HI sub _ hp) ?_;refine⟨p,vs++us,rfl,Z.free hp,sub.free hp,Cs,AY.of<|ND v.paired u.paired⟩
  .contradiction
 .contradiction
def Ay(x y:RV):Option RV:=match x,y with
 |.cl (.int i),.cl (.int j)=>some<|.cl<|.int<|i+j
 |x,y=>PB x y
theorem zT{K:W.Frag}:Dj K Ay (λx y H Q=>IG (λi j=>.int<|i+j) x y H Q\/YB x y H Q):=by
 intro x y z v G H u p Q sub Z e Y O q;unfold Ay at e;split at e
 .rename_i i j;exact .inl<|NC (g:=λi j=>.int<|i+j) (g':=λi j=>.int<|i+j) (λ_ _=>rfl) (.cl<|.int i) (.cl<|.int j) z v G H u p Q sub Z (by simpa[kI]using e) Y O q
 .exact .inr<|zU _ _ z v G H u p Q sub Z e Y O q
theorem ABe(ha:PX X a fa)(z:PX X b fb):PX X (.BinOp a .Add b pos)<|f2 Ay fa fb:=Py (zZ.or za) zT ha z
noncomputable def RY(fa:EF):EF:=λρ=>match fa ρ with|some (.cl<|.int i)=>some (.cl<|.int (-i))|_=>none
theorem ACA(ha:PX X a fa):PX X (.UnaryOp .USub a pos)<|RY fa:=PE.imp (kM mj ha) (by
 rintro σ H Q ⟨G,ρ,r,R,e,q⟩;unfold RY at e;split at e
 .rename_i i ea;cases e;exact⟨G,ρ,_,R,ea,λv G' H' s rv=>⟨i,rv.int,q _ G' H' s<|by rfl⟩⟩
 .contradiction)
def CA:RV->RV->Option RV:=kI (λ_ _=>True) λi j=>.bl<|decide (i<j)
def CY:RV->RV->Option RV:=kI (λ_ _=>True) λi j=>.bl<|decide (i<=j)
def CS:RV->RV->Option RV:=kI (λ_ _=>True) λi j=>.bl<|decide (j<i)
def SM:RV->RV->Option RV:=kI (λ_ _=>True) λi j=>.bl<|decide (j<=i)
structure Cg(X:Cx)(op:CmpOp)(k:RV->RV->Option RV):Prop where
 ex:∃r,Be X (compareOp op) r/\Dj X.K k r
theorem qX:Cg X .Lt CA:=⟨_,zi,NC λ_ _=>rfl⟩
theorem qW:Cg X .LtE CY:=⟨_,zh,NC λ_ _=>rfl⟩
theorem qT:Cg X .Gt CS:=⟨_,ze,NC λ_ _=>rfl⟩
theorem qS:Cg X .GtE SM:=⟨_,zd,NC λ_ _=>rfl⟩
theorem ABl(hc:Cg X op k)(ha:PX X a fa)(z:PX X b fb)(hm:behindInMarks op b=false):PX X (.Compare a [op] [b] pos)<|f2 k fa fb:=by obtain⟨r,ho,y⟩:=hc.ex;exact PE.imp (AAb ho ha z hm) λ_ _ _ h=>Tt y h
noncomputable def AU(f:EF):BF:=λρ=>match f ρ with|some (.cl<|.bl b)=>some b|_=>none
theorem Tw{K:W.Frag}(h:GA K (AU f) σ H Q):tX K f σ H λx H'=>∃k,x=.bl k/\Q k H':=by
 obtain⟨G,ρ,r,R,e,q⟩:=h;unfold AU at e;split at e
 .rename_i b z;cases e;exact⟨G,ρ,_,R,z,λv G' H' s rv=>⟨_,rv.bl,q G' H' s⟩⟩
 .contradiction
theorem AC1(hc:Cg X op k)(ha:PX X a fa)(z:PX X b fb)(hm:behindInMarks op b=false):DW X (.Compare a [op] [b] pos)<|AU<|f2 k fa fb:=by obtain⟨r,ho,y⟩:=hc.ex;exact PT.imp (ABS ho ha z hm) λ_ _ _ h=>Tt y<|Tw h
noncomputable def Dl(k q:RV->RV->Option RV)(fa fb fc:EF):EF:=λρ=>match fa ρ,fb ρ with
 |some x,some y=>match k x y with
  |some (.cl<|.bl true)=>(match fc ρ with|some z=>q y z|none=>none)
  |some (.cl<|.bl false)=>some<|.cl<|.bl false
  |_=>none
 |_,_=>none
theorem mP{K:W.Frag}(S:Dj K k r)(t:Dj K F B)(h:tX K (Dl k F fa fb fc) σ H Q):Ym r B (tX K fa) (tX K fb) (tX K fc) σ H Q:=by
 obtain⟨G,ρ,z,R,e,q⟩:=h;unfold Dl at e;split at e
 .rename_i x y ea eb;refine⟨G,ρ,x,R,ea,λT G1 H1 s1 C=>⟨G1,ρ,y,R.step s1,eb,λZ E I s2 Y=>?_⟩⟩;split at e
  .rename_i O;cases P:fc ρ with
   |none=>rw[P]at e;contradiction
   |some w=>
    rw[P]at e;refine S x y _ H E I T Z _ s2.sub (s1.hh.trans s2.hh) O (C.step s2) (Y.back s1.hh) λv D n u rv=>⟨true,rv.bl,?_⟩;refine⟨D,ρ,w,(R.step s1).step<|s2.trans u,P,λvw G4 H4 p C6=>?_⟩;exact t y w z H G4 H4 Z vw Q p.sub (((s1.trans s2).trans u).trans p).hh e ((Y.back s1.hh).step<|u.trans p) (C6.back ((s1.trans s2).trans u).hh) λv G5 H5 s5 HR=>q v G5 H5 ((((s1.trans s2).trans u).trans p).trans s5) HR
  .rename_i O;cases e;refine S x y _ H E I T Z _ s2.sub (s1.hh.trans s2.hh) O (C.step s2) (Y.back s1.hh) λv D n u rv=>⟨false,rv.bl,?_⟩;exact q _ D n ((s1.trans s2).trans u)<|by rfl
  .contradiction
 .contradiction
set_option tactic.hygienic false
theorem ABj(hc:Cg X op k)(q:Cg X z y)(ha:PX X a fa)(v:PX X b fb)(u:PX X c fc)(hm:lastMarks [op,z] [b,c]=false) : PX X (.Compare a [op,z] [b,c] pos)<|Dl k y fa fb fc:=by obtain⟨r,ho,p⟩:=hc.ex;obtain⟨r',Z,Y⟩:=q.ex;exact PE.imp (AAZ ho Z ha v u hm) λ_ _ _ h=>mP p Y h
theorem ACz(hc:Cg X op k)(q:Cg X z y)(ha:PX X a fa)(v:PX X b fb)(u:PX X c fc)(hm:lastMarks [op,z] [b,c]=false) : DW X (.Compare a [op,z] [b,c] pos)<|AU<|Dl k y fa fb fc:=by obtain⟨r,ho,p⟩:=hc.ex;obtain⟨r',Z,Y⟩:=q.ex;exact PT.imp (ABQ ho Z ha v u hm) λ_ _ _ h=>mP p Y<|Tw h
noncomputable def D8(t u:BF):BF:=λρ=>match t ρ with|some true=>u ρ|some false=>some false|none=>none
noncomputable def Cb(t u:BF):BF:=λρ=>match t ρ with|some true=>some true|some false=>u ρ|none=>none
noncomputable def CV(t:BF):BF:=λρ=>(t ρ).map (!·)
variable{ta tb tc:BF}{BJ:List Expr}
theorem AEs{K:W.Frag}(h:GA K (D8 ta tb) σ H Q):mE (GA K ta) (GA K tb) σ H Q:=by
 obtain⟨G,ρ,r,R,e,q⟩:=h;unfold D8 at e;split at e
 .rename_i ea;refine⟨G,ρ,true,R,ea,λz y s1=>?_⟩;exact⟨z,ρ,r,R.step s1,e,λv u s2=>q v u<|s1.trans s2⟩
 .rename_i ea;cases e;refine⟨G,ρ,false,R,ea,λz y s1=>?_⟩;exact q z y s1
 .contradiction
theorem AEt{K:W.Frag}(h:GA K (Cb ta tb) σ H Q):mJ (GA K ta) (GA K tb) σ H Q:=by
 obtain⟨G,ρ,r,R,e,q⟩:=h;unfold Cb at e;split at e
 .rename_i ea;cases e;refine⟨G,ρ,true,R,ea,λz y s1=>?_⟩;exact q z y s1
 .rename_i ea;refine⟨G,ρ,false,R,ea,λz y s1=>?_⟩;exact⟨z,ρ,r,R.step s1,e,λv u s2=>q v u<|s1.trans s2⟩
 .contradiction
theorem AC8(ha:DW X a ta):IY X (.BoolOp .And [a] pos) ta:=ABb ha
theorem ADA(ha:DW X a ta):IY X (.BoolOp .Or [a] pos) ta:=ABd ha
theorem AC7(ha:DW X a ta)(z:IY X (.BoolOp .And (b::BJ) pos) tb):IY X (.BoolOp .And (a::b::BJ) pos)<|D8 ta tb:=PW.imp (ABa ha z) λ_ _ _ h=>AEs h
theorem AC9(ha:DW X a ta)(z:IY X (.BoolOp .Or (b::BJ) pos) tb):IY X (.BoolOp .Or (a::b::BJ) pos)<|Cb ta tb:=PW.imp (ABc ha z) λ_ _ _ h=>AEt h
theorem AC6(h:IY X e ta):DW X e ta:=h.pt
theorem AC4(ha:DW X a ta):DW X (.UnaryOp .Not a pos)<|CV ta:=PT.imp (ABT ha) (by
 rintro σ H Q ⟨G,ρ,r,R,e,q⟩;unfold CV at e;cases ea:ta ρ with
 |none=>rw[ea]at e;contradiction
 |some k=>
  rw[ea]at e;cases e;exact⟨G,ρ,k,R,ea,λz y s1=>q z y s1⟩)
theorem AC5(ha:PX X a fa)(he:∀whole,isTrue a X.env whole=(do let v<-whole;standAt a.pos;holding [v] (truthy v))):DW X a<|AU fa:=
 PT.imp (ABU ha he) λ_ _ _ h=>Tw h
noncomputable def DX(f g:EF):EF:=λρ=>match f ρ with|some (.cl<|.bl true)=>g ρ|some (.cl<|.bl false)=>some (.cl<|.bl false)|_=>none
noncomputable def Ex(f g:EF):EF:=λρ=>match f ρ with|some (.cl<|.bl false)=>g ρ|some (.cl<|.bl true)=>some (.cl<|.bl true)|_=>none
noncomputable def LI(f:EF):EF:=λρ=>match f ρ with|some (.cl<|.bl b)=>some (.cl<|.bl (!b))|_=>none
theorem ACD(h:PX X a fa):PX X (.BoolOp op [a] pos) fa:=AAk h
theorem ABf(ha:PX X a fa)(u:PX X (.BoolOp .And (b::BJ) pos) fb):PX X (.BoolOp .And (a::b::BJ) pos)<|DX fa fb:=PE.imp (AAW ha u) (by
 rintro σ H Q ⟨G,ρ,r,R,e,q⟩;unfold DX at e;split at e
 .rename_i ea;refine⟨G,ρ,_,R,ea,λv z y s1 rv=>⟨true,rv.bl,?_⟩⟩;exact⟨z,ρ,r,R.step s1,e,λp Z Y s2 O=>q p Z Y (s1.trans s2)<|O.back s1.hh⟩
 .rename_i ea;cases e;refine⟨G,ρ,_,R,ea,λv z y s1 rv=>⟨false,rv.bl,?_⟩⟩;exact q _ z y s1<|by rfl
 .contradiction)
theorem ACE(ha:PX X a fa)(u:PX X (.BoolOp .Or (b::BJ) pos) fb):PX X (.BoolOp .Or (a::b::BJ) pos)<|Ex fa fb:=PE.imp (AAm ha u) (by
 rintro σ H Q ⟨G,ρ,r,R,e,q⟩;unfold Ex at e;split at e
 .rename_i ea;refine⟨G,ρ,_,R,ea,λv z y s1 rv=>⟨false,rv.bl,?_⟩⟩;exact⟨z,ρ,r,R.step s1,e,λp Z Y s2 O=>q p Z Y (s1.trans s2)<|O.back s1.hh⟩
 .rename_i ea;cases e;refine⟨G,ρ,_,R,ea,λv z y s1 rv=>⟨true,rv.bl,?_⟩⟩;exact q _ z y s1<|by rfl
 .contradiction)
set_option tactic.hygienic true
theorem ACC(ha:PX X a fa):PX X (.UnaryOp .Not a pos)<|LI fa:=PE.imp (AAj ha) (by
 rintro σ H Q ⟨G,ρ,r,R,e,q⟩;unfold LI at e;split at e
 .rename_i b ea;cases e;exact⟨G,ρ,_,R,ea,λv z y s1 rv=>⟨b,rv.bl,q _ z y s1<|by rfl⟩⟩
 .contradiction)
noncomputable def JA(t:BF)(f g:EF):EF:=λρ=>match t ρ with|some true=>f ρ|some false=>g ρ|none=>none
theorem ABu(hc:DW X c tc)(ha:PX X a fa)(Y:PX X b fb):PX X (.IfExp c a b pos)<|JA tc fa fb:=PE.imp (AAf hc ha Y) (by
 rintro σ H Q ⟨G,ρ,r,R,e,q⟩;unfold JA at e;split at e
 .rename_i z;refine⟨G,ρ,true,R,z,λy O s1=>?_⟩;exact⟨y,ρ,r,R.step s1,e,λv u p s2 Z=>q v u p (s1.trans s2)<|Z.back s1.hh⟩
 .rename_i z;refine⟨G,ρ,false,R,z,λy O s1=>?_⟩;exact⟨y,ρ,r,R.step s1,e,λv u p s2 Z=>q v u p (s1.trans s2)<|Z.back s1.hh⟩
 .contradiction)
noncomputable def AO:AF:=λ_=>some []
noncomputable def AH(f:EF)(g:AF):AF:=λρ=>match f ρ,g ρ with|some x,some xs=>some (x::xs)|_,_=>none
variable{g:AF}
theorem YA:Cy X [] AO:=PA.imp F4 (by rintro σ H Q ⟨G,ρ,r,R,e,q⟩;cases e;exact q [] G H (Ap.refl R.sub) .nil)
theorem D2.back{K:W.Frag}(s:Ah z H):∀{rs:List RV}{vs:List V},D2 K H G' H' rs vs->D2 K z G' H' rs vs
 |_,_,.nil=>.nil
 |_,_,.cons r t=>.cons (r.back s)<|D2.back s t
theorem Pz(ha:PX X e f)(z:Cy X es g)(hs:starEach (e::es) X.env=(false,eval e X.env)::starEach es X.env:=by rfl):Cy X (e::es)<|AH f g:=PA.imp (Ei ha z hs) (by
 rintro σ H Q ⟨G,ρ,r,R,e,q⟩;unfold AH at e;split at e
 .rename_i x xs ea y;cases e;refine⟨G,ρ,x,R,ea,λv u H1 s1 rv=>⟨u,ρ,xs,R.step s1,y,λvs p Z s2 rs=>?_⟩⟩;exact q (v::vs) p Z (s1.trans s2)<|.cons (rv.step s2)<|D2.back s1.hh rs
 .contradiction)
def Ci:List RV->Option (List PV)
 |[]=>some []
 |r::rs=>match r.clean,Ci rs with|some p,some ps=>some (p::ps)|_,_=>none
theorem K1{K:W.Frag}(sub:Ah G' H'):∀{rs:List RV}{vs:List V}{ps:List PV},D2 K H G' H' rs vs->Ci rs=some ps->AY K (EC G' H H') ps vs:=by
 intro rs vs ps h
 induction h generalizing ps with
 |nil=>intro e;cases e;rfl
 |cons r t ih=>
  intro e;unfold Ci at e;split at e
  .rename_i p ps z y;cases e;exact⟨_,_,rfl,r.clean sub z,ih y⟩
  .contradiction
def A6(g:AF):EF:=λρ=>match g ρ with|some rs=>(match Ci rs with|some ps=>if ps.length<=1000 then some (.cl<|.tup ps)else none|none=>none)|none=>none
def B9(g:AF):EF:=λρ=>match g ρ with|some rs=>(match Ci rs with|some ps=>if ps.length<=1000 then some (.fr ps)else none|none=>none)|none=>none
theorem ACJ(h:Cy X es g):PX X (.Tuple es x1 pos)<|A6 g:=PE.imp (X4 h) (by
 rintro σ H Q ⟨G,ρ,r,R,e,q⟩;unfold A6 at e;split at e
 .rename_i rs v;split at e
  .rename_i ps u;split at e
   .cases e;refine⟨G,ρ,rs,R,v,λvs G1 H1 s1 rv=>?_⟩;have z:=K1 s1.sub rv u;have hl:=z.len;refine⟨small U,λp hp=>?_⟩;have s2:=s1.all;have y:=Ap.new s2.sub (.tup vs) hp;refine q (.ref p) _ _ (s2.trans y) ?_;exact⟨p,vs,rfl,.inl<|.inl Cs,AY.same y.gg z⟩
   .contradiction
  .contradiction
 .contradiction)
theorem AB7(h:Cy X es g):PX X (.List es pos)<|B9 g:=PE.imp (AAh h) (by
 rintro σ H Q ⟨G,ρ,r,R,e,q⟩;unfold B9 at e;split at e
 .rename_i rs y;split at e
  .rename_i ps v;split at e
   .cases e;refine⟨G,ρ,rs,R,y,λvs G1 H1 s1 rv=>?_⟩;have z:=K1 s1.sub rv v;have hl:=z.len;refine⟨small U,λp hp=>?_⟩;have s2:=s1.all;refine q (.ref p) _ _ (s2.trans<|Ap.HI s2.sub (.lst vs) hp) ?_;exact⟨p,vs,rfl,s1.hh.free hp,s2.sub.free hp,Cs,z⟩
   .contradiction
  .contradiction
 .contradiction)
end
section
variable{X:Cx}{a b c e:Expr}{es:List Expr}{fa fb fc f:EF}{g:AF}{pos:Pos}
def ko(K:W.Frag):R2:=λx y H Q=>km K x y H Q\/kr K x y H Q
theorem xK:Jf X<|ko X.K:=xM.or xN
def RV.seq:RV->Option (List PV)
 |.cl (.tup ps)=>some ps
 |.cl (.rd ps)=>some ps
 |r=>r.list
def Am(x y:RV):Option RV:=match x.seq,y with
 |some ps,.cl (.int i)=>(CD ps i).map .cl
 |_,_=>none
theorem AY.CD{K:W.Frag}(h:AY K H ps vs)(e:CD ps i=some p):∃v,CD vs i=some v/\Rep K H p v:=by
 unfold L2.CD at e ⊢;rw[<-h.len];cases z:GN ps.length i with
 |none=>rw[z]at e;contradiction
 |some j=>
  rw[z]at e;exact NF h.paired e
theorem Bx.seq{K:W.Frag}(sub:Ah G' H')(h:Bx K H G' H' r v)(e:r.seq=some ps):∃a vs,v=.ref a/\(CO K H' a vs\/Ba K H' a vs)/\AY K G' ps vs:=by
 by_cases z:∃qs,r=.cl (.tup qs)
 .obtain⟨qs,rfl⟩:=z;simp only[RV.seq,AHc]at e;subst e;have h':=h;obtain⟨a,vs,e,q,r⟩:=h';exact⟨a,vs,e,.inr<|Ba.same sub q,r⟩
 by_cases hd:∃qs,r=.cl (.rd qs)
 .obtain⟨qs,rfl⟩:=hd;simp only[RV.seq,AHc]at e;subst e;have h':=h;obtain⟨a,vs,e,q,r⟩:=h';exact⟨a,vs,e,.inl<|Ah.seq sub q,r⟩
 .have y:r.list=some ps:=by
   cases r with
   |cl p=>cases p<;>first|exact e|exact absurd ⟨_,rfl⟩ z|exact absurd ⟨_,rfl⟩ hd
   |bo ps=>exact e
   |fr ps=>exact e
   |bd _ _=>exact e
   |fd _ _=>exact e
   |tf _ _=>exact e
  obtain⟨a,vs,e,q,r⟩:=h.list sub y;exact⟨a,vs,e,.inl<|.inl q,r⟩
set_option tactic.hygienic true
theorem zW{K:W.Frag}:Dj K Am<|ko K:=by
 intro x y z H0 G H vx vy Q sub sh e D Y q;unfold Am at e;split at e
 .rename_i ps i ex;cases Z:CD ps i with
  |none=>rw[Z]at e;contradiction
  |some p=>
   rw[Z]at e;cases e;obtain⟨a,vs,rfl,u,F⟩:=D.seq sub ex;obtain⟨v,O,rv⟩:=F.CD Z;have P:=q v G H (Ap.refl sub) rv;rcases u with u|u
   .exact .inl ⟨a,vs,i,v,rfl,Y.int,u,O,P⟩
   .exact .inr ⟨a,vs,i,v,rfl,Y.int,u,O,P⟩
 .contradiction
theorem AB2(ha:PX X a fa)(z:PX X b fb)(hs:ZU b):PX X (.Subscript a b pos)<|f2 Am fa fb:=PE.imp (AAg xK ha z hs) λ_ _ _ h=>Tt zW h
abbrev OF:=AS->Option (Option Int)
noncomputable def Gr:OF:=λ_=>some none
noncomputable def GJ(f:EF):OF:=λρ=>match f ρ with|some (.cl<|.int i)=>some (some i)|_=>none
def tXO(K:W.Frag)(f:OF):TO:=λσ H Q=>∃G ρ r,B8 K G H ρ σ/\f ρ=some r/\∀G' H',Ap G H G' H'->Q r H'
def L6(X:Cx)(e:Option Expr)(f:OF):Prop:=PO X e<|tXO X.K f
theorem PO.imp{e:Option Expr}(h:PO X e t)(i:∀σ H Q,t' σ H Q->t σ H Q):PO X e t':=λAD s σ H Q I q=>h AD s σ H Q I<|i σ H Q q
theorem ACX:L6 X none Gr:=PO.imp AA9 (by rintro σ H Q ⟨G,ρ,r,R,e,q⟩;cases e;exact q G H<|Ap.refl R.sub)
theorem ACY(h:PX X e f):L6 X (some e)<|GJ f:=PO.imp (ABA h) (by
 rintro σ H Q ⟨G,ρ,r,R,e,q⟩;unfold GJ at e;split at e
 .rename_i i z;cases e;exact⟨G,ρ,_,R,z,λv G' H' s rv=>⟨i,rv.int,q G' H' s⟩⟩
 .contradiction)
def MF(xs:List PV)(lo hi:Option Int):List PV:=(xs.drop<|HT.DQ xs.length 0 lo).take<|HT.DQ xs.length xs.length hi-HT.DQ xs.length 0 lo
def GK(f:EF)(l u:OF):EF:=λρ=>match f ρ,l ρ,u ρ with
 |some x,some lo,some hi=>(match x.list with|some ps=>some (.fr<|MF ps lo hi)|none=>none)
 |_,_,_=>none
theorem ACG{lo hi:Option Expr}(he:PX X e f)(Y:L6 X lo l)(O:L6 X hi u):PX X (.Subscript e (.Slice lo hi none Z) pos)<|GK f l u:=PE.imp (AAo AD3 he Y O) (by
 rintro σ H Q ⟨G,ρ,r,R,e,q⟩;unfold GK at e;split at e
 .rename_i x P D ex F B;split at e
  .rename_i ps S;cases e;refine⟨G,ρ,x,R,ex,λv T H1 s1 rv=>⟨T,ρ,P,R.step s1,F,λC H2 s2=>⟨C,ρ,D,(R.step s1).step s2,B,λG3 H3 z=>?_⟩⟩⟩;obtain⟨a,vs,rfl,E,y⟩:=(rv.step<|s2.trans z).list z.sub S;refine⟨a,vs,rfl,.inl E,λp hp=>?_⟩;refine q (.ref p) _ _ (((s1.trans s2).trans z).trans<|Ap.HI z.sub _ hp) ?_;refine⟨p,_,rfl,((s1.trans s2).trans z).hh.free hp,z.sub.free hp,Cs,?_⟩
   delta MF Qu
   rw[y.len];exact AY.of<|j5 _<|j3 _ y.paired
  .cases e
 .cases e)
def AEl(te:TE):TE:=λσ H Q=>te σ H λx z=>∃a xs,x=.ref a/\Rd z a (.lst xs)/\∀p,z p=none->Q (.ref p) (upd z p<|.lst xs.reverse)
theorem AAn(he:PE X e te):PE X (.Subscript e (.Slice none none (some<|.UnaryOp .USub (.Constant (.int 1) j p1) p2) p3) pos)<|AEl te:=by intro AD s σ H Q I h;refine Subscript_<|Ae (he AD s σ H _ I h) ?_;rintro v s1 ⟨x,Z,O,P,D⟩;refine wpAny_Slice ?_;refine wpAny_pure ?_;refine wpAny_pure ?_;refine Ae (kM mj (X3) AD s1 σ Z (λv F=>v=.int (-1)/\F=Z) O ⟨1,rfl,rfl,rfl⟩) ?_;rintro st u ⟨y,R,B,G,q3⟩;obtain⟨rfl,rfl⟩:=q3;obtain⟨t,rfl⟩:=G;obtain⟨a,xs,rfl,S,q⟩:=D;cases P;have p:Inv X AD σ R {u with heap:=u.heap.push {cls:=.type "slice",data:=.fields #[.none,.none,.int (-1) t]}}:=B.kept λb T q=>Heap.get?_push_of_some _ q;obtain⟨z,its,n,r,e⟩:=S.ok p.AX;have hl:=r.length;have Y:Heap.IsList (u.heap.push {cls:=.type "slice",data:=.fields #[.none,.none,.int (-1) t]}) a its.toArray:=⟨_,e,rfl,n,rfl⟩;refine tail_any Y.typeIs slot_list_getitem.lookup ?_ (by with_unfolding_all rfl);refine wpAny_getItem_list_slice Y (Heap.IsSliceOf.new ..) .none .none (.int _ _) AGh ?_ (by rw[AG2]<;>lia);rw[W.krv_pick];refine⟨.ref _,_,p.laid (λb T q=>Heap.get?_push_of_some _ q) (AGy _) ?_,rfl,q _<|p.AX.fresh<|AGy _⟩;exact⟨by rw[AJW];exact z,_,0,r.reverse,Heap.get?_push_size _ rfl⟩
def Gs(f:EF):EF:=λρ=>match f ρ with|some x=>(match x.list with|some ps=>some (.fr ps.reverse)|none=>none)|none=>none
theorem ACF(he:PX X e f):PX X (.Subscript e (.Slice none none (some<|.UnaryOp .USub (.Constant (.int 1) j p1) p2) p3) pos)<|Gs f:=PE.imp (AAn he) (by
 rintro σ H Q ⟨G,ρ,r,R,e,q⟩;unfold Gs at e;split at e
 .rename_i x ex;split at e
  .rename_i ps z;cases e;refine⟨G,ρ,x,R,ex,λv G1 H1 s1 rv=>?_⟩;obtain⟨a,vs,rfl,y,u⟩:=rv.list s1.sub z;refine⟨a,vs,rfl,y,λp hp=>?_⟩;exact q (.ref p) _ _ (s1.trans<|Ap.HI s1.sub _ hp) ⟨p,_,rfl,s1.hh.free hp,s1.sub.free hp,Cs,AY.of<|AAQ u.paired⟩
  .contradiction
 .contradiction)
def NT(K:W.Frag)(n:Nat)(F:List PV->Option RV):Sp:=λvs H Q _=>vs.length=n/\∃G ps r,Ah G H/\AY K G ps vs/\F ps=some r/\∀v G' H',Ap G H G' H'->Bx K H G' H' r v->Q v H'
def AW(F:List PV->Option RV)(g:AF):EF:=λρ=>match g ρ with|some rs=>(match Ci rs with|some ps=>F ps|none=>none)|none=>none
structure Fn(X:Cx)(x:Str)(n:Nat)(F:List PV->Option RV):Prop where
 ex:∃k f fd ps,Cv X.prog X.w X.K X.mg X.base ER k f fd ps (NT X.K n F)/\B2 k X.A/\X.mg x=some (.ref f)/\W.keepIn X.K (.ref f)=true/\Binds X.K fd ps []/\ps.length=n
theorem ABh(y:Fn X x n F)(ha:Cy X (e::es) g)(hn:(e::es).length=n)(u:Gl X x)(Z:(x==("__debug__"))=false)(he:starEach (e::es) X.env=(false,eval e X.env)::starEach es X.env)(Y:(backTo pos<|starEach es X.env).any (·.1)=false) (O:∀ρ rs,g ρ=some rs->rs.length=n):PX X (.Call (.Name x p) (e::es) [] pos)<|AW F g:=by
 obtain⟨k,f,fd,ps,G,P,hm,D,B,wH⟩:=y.ex;refine PE.imp (kH G P u hm D B .nil kF ha Z he Y) ?_;rintro σ H Q ⟨G,ρ,r,R,e,q⟩;unfold AW at e;split at e
 .rename_i rs z;split at e
  .rename_i qs S;refine⟨G,ρ,rs,R,z,λvs T C s1 rv=>⟨?_,EC T H C,qs,r,s1.all.sub,?_,e,λv G' H' s E=>q v G' H' (s1.all.trans s)<|E.back s1.hh⟩⟩
   .rw[AH8,<-O ρ rs z];exact(Paired.length rv).symm
   .rw[AH8];exact K1 s1.sub rv S
  .contradiction
 .contradiction
mutual
noncomputable def PV.flat:PV->Bool
 |.tup xs=>PV.MO xs
 |.lst _=>false
 |.rd _=>false
 |.C0 _ _=>false
 |_=>true
noncomputable def PV.MO:List PV->Bool
 |[]=>true
 |x::xs=>x.flat&&PV.MO xs
end
def RV.flat:RV->Bool
 |.cl p=>p.flat
 |.fr ps=>PV.MO ps
 |.fd _ xs=>PV.MO xs
 |.tf _ _=>false
 |.bo _=>false
 |.bd _ _=>false
noncomputable def RV.any:RV->PV
 |.cl p=>p
 |.bo ps=>.lst ps
 |.fr ps=>.lst ps
 |.bd ks xs=>.C0 ks xs
 |.fd ks xs=>.C0 ks xs
 |.tf p ps=>.tup [p,.lst ps]
theorem Bx.any{K:W.Frag}(sub:Ah G' H')(h:Bx K H G' H' r v):Rep K H' r.any v:=by
 cases r with
 |cl p=>exact Rep.same sub h
 |bo ps=>
  obtain⟨a,vs,e,g,q,r⟩:=h;exact⟨a,vs,e,.inl q,AY.same sub r⟩
 |fr ps=>
  obtain⟨a,vs,e,n,g,q,r⟩:=h;exact⟨a,vs,e,.inl q,AY.same sub r⟩
 |bd ks xs=>
  obtain⟨a,vs,e,g,q,k,r⟩:=h;exact⟨a,vs,e,.inl q,k,AY.same sub r⟩
 |fd ks xs=>
  obtain⟨a,vs,e,n,g,q,k,r⟩:=h;exact⟨a,vs,e,.inl q,k,AY.same sub r⟩
 |tf p ps=>
  obtain⟨a,l,x,vs,e,t,y,n,g,q,r⟩:=h;refine⟨a,_,e,Ba.same sub t,?_⟩;have z:Rep K H' (.lst ps)<|.ref l:=by exact⟨l,vs,rfl,.inl q,AY.same sub r⟩
  exact⟨_,_,rfl,Rep.same sub y,_,_,rfl,z,rfl⟩
theorem D2.any{K:W.Frag}(sub:Ah G' H'):∀{rs:List RV}{vs:List V},D2 K H G' H' rs vs->AY K H' (rs.map RV.any) vs
 |_,_,.nil=>by rfl
 |_,_,.cons r t=>by exact⟨_,_,rfl,r.any sub,D2.any sub t⟩
noncomputable def Hk(z y G':Hp):Hp:=λa=>match z a with|some o=>some o|none=>match y a with|some (.lst _)=>none|some (.dT _)=>none|some (.dK _)=>none|some o=>some o|none=>G' a
theorem uS(sub:Ah y z)(hh:Ah z H')(s':Ah G' H'):Ap y z (Hk y z G') H':=by
 refine⟨λa o h=>by unfold Hk;rw[h],hh,λa o h=>?_,λa h n=>by unfold Hk;rcases h with h|h|h<;>rw[n,h]⟩;unfold Hk at h;split at h
 .rename_i o' e;cases h;exact hh _ _<|sub _ _ e
 .split at h
  .cases h
  .cases h
  .cases h
  .rename_i e;cases h;exact hh _ _ e
  .exact s' _ _ h
theorem fv{a:Addr}(sub:Ah y z)(hh:Ah z H')(s':Ah G' H')(h:G' a=some o)(hn:∀xs,o≠.lst xs)(hd:∀AK,o≠.dT AK)(q:∀AK,o≠.dK AK):Hk y z G' a=some o:=by
 have h':=s' _ _ h;unfold Hk;split
 .rename_i o' e;have:=hh _ _<|sub _ _ e;rw[h']at this;exact this.symm
 .split
  .rename_i xs e;have:=hh _ _ e;rw[h']at this;exact absurd (AHP this) (hn _)
  .rename_i xs e;have:=hh _ _ e;rw[h']at this;exact absurd (AHP this) (hd _)
  .rename_i xs e;have:=hh _ _ e;rw[h']at this;exact absurd (AHP this) (q _)
  .rename_i o' _ _ _ e;have:=hh _ _ e;rw[h']at this;exact this.symm
  .exact h
mutual
theorem Rep.flat{K:W.Frag}{u y G' H':Hp}(sub:Ah u y)(hh:Ah y H')(s':Ah G' H'):∀{p:PV}{v:V},p.flat=true->Rep K G' p v->Rep K (Hk u y G') p v
 |.As,_,_,h=>h
 |.bl _,_,_,h=>h
 |.int _,_,_,h=>h
 |.str _,_,_,h=>h
 |.tup xs,v,f,h=>by
  unfold Rep at h ⊢;unfold PV.flat at f;obtain⟨a,vs,e,q,r⟩:=h;refine⟨a,vs,e,?_,AY.flat sub hh s' f r⟩;rcases q with(q|⟨o,q⟩)|q
  .exact .inl<|.inl<|fv sub hh s' q (λ_ z=>nomatch z) (λ_ z=>nomatch z) λ_ z=>nomatch z
  .exact .inl<|.inr ⟨o,fv sub hh s' q (λ_ z=>nomatch z) (λ_ z=>nomatch z) λ_ z=>nomatch z⟩
  .exact .inr q
 |.lst _,_,f,_=>by unfold PV.flat at f;cases f
 |.rd _,_,f,_=>by unfold PV.flat at f;cases f
 |.C0 _ _,_,f,_=>by unfold PV.flat at f;cases f
theorem AY.flat{K:W.Frag}{y z G' H':Hp}(sub:Ah y z)(hh:Ah z H')(s':Ah G' H'):∀{ps:List PV}{vs:List V},PV.MO ps=true->AY K G' ps vs->AY K (Hk y z G') ps vs
 |[],_,_,h=>h
 |p::ps,_,f,h=>by unfold AY at h ⊢;unfold PV.MO at f;rw[AGx]at f;obtain⟨v,r,e,q,t⟩:=h;exact⟨v,r,e,Rep.flat sub hh s' f.1 q,AY.flat sub hh s' f.2 t⟩
end
def LD(F:List PV->Option RV)(g:AF):EF:=λρ=>match g ρ with|some rs=>F (rs.map RV.any)|none=>none
set_option tactic.hygienic false
theorem ABi(Z:Fn X x n F)(Y:∀ps r,F ps=some r->r.flat=true)(ha:Cy X (e::es) g)(hn:(e::es).length=n)(O:Gl X x)(P:(x==("__debug__"))=false)(he:starEach (e::es) X.env=(false,eval e X.env)::starEach es X.env)(D:(backTo pos<|starEach es X.env).any (·.1)=false) (B:∀ρ rs,g ρ=some rs->rs.length=n):PX X (.Call (.Name x p) (e::es) [] pos)<|LD F g:=by
 obtain⟨k,f,fd,ps,G,S,hm,T,C,wH⟩:=Z.ex;refine PE.imp (kH G S O hm T C .nil kF ha P he D) ?_;rintro σ H Q ⟨G,ρ,r,R,e,q⟩;unfold LD at e;split at e
 .rename_i rs u;refine⟨G,ρ,rs,R,u,λvs G1 E s1 rv=>⟨?_,E,_,r,Ah.refl _,?_,e,λv G' H' s z=>?_⟩⟩
  .rw[AH8,<-B ρ rs u];exact(Paired.length rv).symm
  .rw[AH8];exact D2.any s1.sub rv
  .have st:=uS s1.sub s.hh s.sub;refine q v _ H' (s1.trans st) ?_;have y:=Y _ _ e;cases r with
   |cl p=>exact Rep.flat s1.sub s.hh s.sub y z
   |bo ps=>contradiction
   |fr ps=>
    obtain⟨a,vs,e,n,g,q,r⟩:=z;refine⟨a,vs,e,s1.hh.free n,?_,q,AY.flat s1.sub s.hh s.sub y r⟩;unfold Hk;rw[s1.sub.free n,n];exact g
   |bd _ _=>contradiction
   |tf _ _=>contradiction
   |fd ks xs=>
    obtain⟨a,vs,e,n,g,q,k,r⟩:=z;refine⟨a,vs,e,s1.hh.free n,?_,q,k,AY.flat s1.sub s.hh s.sub y r⟩;unfold Hk;rw[s1.sub.free n,n];exact g
 .contradiction
theorem tT(ρ:AS)(rs:List RV)(h:AO ρ=some rs):rs.length=0:=by cases h;rfl
set_option tactic.hygienic true
theorem ML(h:∀ρ rs,g ρ=some rs->rs.length=n)(ρ:AS)(rs:List RV)(e:AH f g ρ=some rs):rs.length=n+1:=by
 unfold AH at e;split at e
 .rename_i x xs _ z;cases e;rw[AG6,h ρ xs z]
 .contradiction
noncomputable def fB(k:List RV->Option RV)(g:AF):EF:=λρ=>match g ρ with|some rs=>k rs|none=>none
def ET(K:W.Frag)(k:List RV->Option RV)(r:List V->Hp->VK->Prop):Prop:=
 ∀(rs:List RV)(z:RV)(y G H:Hp)(vs:List V)(Q:VK),Ah G H->Ah y H->k rs=some z->D2 K y G H rs vs->(∀v G' H',Ap G H G' H'->Bx K y G' H' z v->Q v H')->r vs H Q
theorem mM{K:W.Frag}(y:ET K k r)(h:tX K (fB k g) σ H Q):Yl r (Tu K g) σ H Q:=by
 obtain⟨G,ρ,z,R,e,q⟩:=h;unfold fB at e;split at e
 .rename_i rs u;exact⟨G,ρ,rs,R,u,λvs p Z s1 rv=>y rs z H p Z vs Q s1.sub s1.hh e rv λv G' H' s Y=>q v G' H' (s1.trans s) Y⟩
 .contradiction
theorem HN{id:String}{k:List RV->Option RV}{r:List V->Hp->VK->Prop}{p:Pos}(hc:Cu X (.builtin id) r)(z:ET X.K k r)(hm:X.mg x=none)(y:bootBuiltins x=some (.builtin id))(ha:Cy X (e::es) g)(q:Gl X x:=by rfl)(hn:x≠"__name__":=by decide)(v:(x==("__debug__"))=false:=by decide) (he:starEach (e::es) X.env=(false,eval e X.env)::starEach es X.env:=by rfl) (u:(backTo pos<|starEach es X.env).any (·.1)=false:=by rfl):PX X (.Call (.Name x p) (e::es) [] pos)<|fB k g:=
 PE.imp (NI hc q hm y ha hn v he u) λ_ _ _ h=>mM z h
theorem kf(hc:Cu X (.type T) r)(z:ET X.K k r)(hm:X.mg x=none)(y:bootBuiltins x=some (.type T))(ha:Cy X (e::es) g)(q:Gl X x)(hn:x≠"__name__")(v:(x==("__debug__"))=false) (he:starEach (e::es) X.env=(false,eval e X.env)::starEach es X.env) (u:(backTo pos<|starEach es X.env).any (·.1)=false):PX X (.Call (.Name x p) (e::es) [] pos)<|fB k g:=
 PE.imp (kJ hc q hm y ha hn v he u) λ_ _ _ h=>mM z h
set_option tactic.hygienic false
theorem D2.one{K:W.Frag}(h:D2 K z G H [r] vs):∃v,vs=[v]/\Bx K z G H r v:=by
 cases h with
 |cons r t=>cases t;exact⟨_,rfl,r⟩
theorem D2.two{K:W.Frag}(h:D2 K y G H [r,z] vs):∃v q,vs=[v,q]/\Bx K y G H r v/\Bx K y G H z q:=by
 cases h with
 |cons r t=>
  cases t with
  |cons z t=>cases t;exact⟨_,_,rfl,r,z⟩
set_option tactic.hygienic true
def Ds:List RV->Option RV
 |[r]=>r.seq.map λps=>.cl<|.int ps.length
 |_=>none
theorem zx:ET X.K Ds (λxs H Q=>∃p ys,xs=[.ref p]/\(CO X.K H p ys\/Ba X.K H p ys)/\Q (.int ys.length) H):=by
 intro rs z H0 G H vs Q sub sh e rv q;unfold Ds at e;split at e
 .rename_i r;cases es:r.seq with
  |none=>rw[es]at e;contradiction
  |some ps=>
   rw[es]at e;cases e;obtain⟨v,rfl,y⟩:=rv.one;obtain⟨a,us,rfl,u,Z⟩:=y.seq sub es;refine⟨a,us,rfl,u,q _ G H (Ap.refl sub) ?_⟩;show Rep _ _ _ _;unfold Rep;rw[Z.len]
 .contradiction
theorem AB5(hm:X.mg "len" = none)(ha:Cy X (e::es) g)(z:Gl X "len")(he:starEach (e::es) X.env=(false,eval e X.env)::starEach es X.env)(y:(backTo pos<|starEach es X.env).any (·.1)=false):PX X (.Call (.Name "len" p) (e::es) [] pos)<|fB Ds g:=
 HN pq zx hm AKp ha z AGj AGj he y
noncomputable def Hy:List RV->Option RV
 |[.cl<|.int i]=>some (.cl (.int (if i<0 then -i else i)))
 |_=>none
noncomputable def GP:List RV->Option RV
 |[.cl<|.int i,.cl<|.int j]=>some (.cl (.int (if j>i then j else i)))
 |_=>none
noncomputable def IA:List RV->Option RV
 |[.cl<|.int i,.cl<|.int j]=>some (.cl (.int (if j<i then j else i)))
 |_=>none
theorem zt:ET X.K Hy (λxs H Q=>∃i,xs=[.int i]/\Q (.int (if i<0 then -i else i)) H):=by
 intro rs z H0 G H vs Q sub sh e rv q;unfold Hy at e;split at e
 .rename_i i;cases e;obtain⟨v,rfl,y⟩:=rv.one;exact⟨i,by rw[y.int],q _ G H (Ap.refl sub)<|by rfl⟩
 .contradiction
theorem z9:ET X.K GP (λxs H Q=>∃i j,xs=[.int i,.int j]/\Q (.int (if j>i then j else i)) H):=by
 intro rs z H0 G H vs Q sub sh e rv q;unfold GP at e;split at e
 .rename_i i j;cases e;obtain⟨v,v',rfl,y,u⟩:=rv.two;exact⟨i,j,by rw[y.int,u.int],q _ G H (Ap.refl sub)<|by rfl⟩
 .contradiction
theorem AAB:ET X.K IA (λxs H Q=>∃i j,xs=[.int i,.int j]/\Q (.int (if j<i then j else i)) H):=by
 intro rs z H0 G H vs Q sub sh e rv q;unfold IA at e;split at e
 .rename_i i j;cases e;obtain⟨v,v',rfl,y,u⟩:=rv.two;exact⟨i,j,by rw[y.int,u.int],q _ G H (Ap.refl sub)<|by rfl⟩
 .contradiction
def Ml:List RV->Option RV
 |[r]=>r.seq.map .fr
 |_=>none
theorem zy:ET X.K Ml (λxs H Q=>∃p ys,xs=[.ref p]/\(CO X.K H p ys\/Ba X.K H p ys)/\∀l,H l=none->Q (.ref l) (upd H l<|.lst ys)):=by
 intro rs z H0 G H vs Q sub u e rv q;unfold Ml at e;split at e
 .rename_i r;cases es:r.seq with
  |none=>rw[es]at e;contradiction
  |some ps=>
   rw[es]at e;cases e;obtain⟨v,rfl,Z⟩:=rv.one;obtain⟨a,us,rfl,Y,O⟩:=Z.seq sub es;exact⟨a,us,rfl,Y,λl y=>q _ _ _ (Ap.HI sub _ y) ⟨l,us,rfl,u.free y,sub.free y,Cs,O⟩⟩
 .contradiction
noncomputable def DA:List PV->Option (List Int)
 |[]=>some []
 |.int i::r=>(DA r).map (i :: ·)
 |_=>none
noncomputable def GI:List PV->Option (List Bool)
 |[]=>some []
 |.bl i::r=>(GI r).map (i :: ·)
 |_=>none
set_option tactic.hygienic false
theorem Hu{K:W.Frag}:∀{ps:List PV}{vs:List V}{ns:List Int},DA ps=some ns->AY K G ps vs->vs=ns.map V.int
 |[],vs,ns,e,h=>by cases e;exact h
 |.int i::r,vs,ns,e,h=>by
  unfold DA at e;cases z:DA r with
  |none=>rw[z]at e;contradiction
  |some ms=>
   rw[z]at e;cases e;obtain⟨v,us,rfl,y,t⟩:=h;subst y;rw[Hu z t,AGv]
 |.As::_,_,_,e,_=>by contradiction
 |.bl _::_,_,_,e,_=>by contradiction
 |.str _::_,_,_,e,_=>by contradiction
 |.tup _::_,_,_,e,_=>by contradiction
 |.lst _::_,_,_,e,_=>by contradiction
 |.rd _::_,_,_,e,_=>by contradiction
 |.C0 _ _::_,_,_,e,_=>by contradiction
theorem N9{K:W.Frag}:∀{ps:List PV}{vs:List V}{ns:List Bool},GI ps=some ns->AY K G ps vs->vs=ns.map V.bl
 |[],vs,ns,e,h=>by cases e;exact h
 |.bl i::r,vs,ns,e,h=>by
  unfold GI at e;cases z:GI r with
  |none=>rw[z]at e;contradiction
  |some ms=>
   rw[z]at e;cases e;obtain⟨v,us,rfl,y,t⟩:=h;subst y;rw[N9 z t,AGv]
 |.As::_,_,_,e,_=>by contradiction
 |.int _::_,_,_,e,_=>by contradiction
 |.str _::_,_,_,e,_=>by contradiction
 |.tup _::_,_,_,e,_=>by contradiction
 |.lst _::_,_,_,e,_=>by contradiction
 |.rd _::_,_,_,e,_=>by contradiction
 |.C0 _ _::_,_,_,e,_=>by contradiction
theorem U9:∀{bs:List Bool}{us:List Value},Ar (bs.map V.bl) us->LSm.BoolsAre us bs
 |[],us,r=>by cases r;exact .nil
 |b::bs,us,r=>by
  cases r with
  |cons r1 r2=>cases r1;exact .cons b<|U9 r2
theorem qE(hc:X.calm=true):Cu X (.builtin "sum") (λxs H Q=>∃(p:Addr)(ns:List Int),xs=[.ref p]/\Rd H p (.lst<|ns.map V.int)/\Q (.int ns.sum) H):=by
 intro AD s σ H xs us Q I r h;obtain⟨p,ns,rfl,v,q⟩:=h;obtain⟨u,rfl,Z⟩:=vals1 r;cases Z;obtain⟨z,its,n,rv,e⟩:=v.ok I.AX;have hi:=intsAre_of rv;obtain⟨xs,y⟩:=hi.allInts.items;have Y:s.heap.IsList p its.toArray:=⟨_,e,rfl,n,rfl⟩;have O:=y ▸ Y;refine sum_intListG (I.ok.hd hc) O λh' tk t' P=>?_;have D:ns=xs.toList.map (·.1):=by rw[<-nums_intItems,<-y];exact(show numsOf its.toArray.toList=ns from hi.numsOf).symm
 have F:preSum (numAt xs) xs.size=ns.sum:=by rw[preSum_eq,AJB AGh,D]
 rw[F];exact⟨.int ns.sum,H,I.kept P,⟨_,rfl⟩,q⟩
theorem pW(hc:X.calm=true):Cu X (.builtin "all") (λxs H Q=>∃(p:Addr)(bs:List Bool),xs=[.ref p]/\Rd H p (.lst<|bs.map V.bl)/\Q (.bl<|bs.all id) H):=by
 intro AD s σ H xs us Q I r h;obtain⟨p,bs,rfl,O,q⟩:=h;obtain⟨u,rfl,P⟩:=vals1 r;cases P;obtain⟨z,its,n,rv,e⟩:=O.ok I.AX;have y:=U9 rv;have Z:s.heap.IsList p its.toArray:=⟨_,e,rfl,n,rfl⟩;have D:=Heap.lt_size e;refine call_all_walk<|wpAny_pyIter_list Z ?_;refine⟨s.heap.objs.size,[s.heap.objs.size,p],[s.heap.objs.size],its.toArray.size,_,_,λi=>(bs[i]?).getD true,rfl,Walks.list (A:=X.A.in1) (I.ok.hd hc) _ p (AG7 D) its.toArray,
  ⟨⟨_,Heap.get?_push_size _ rfl,rfl,rfl⟩,Z.push _⟩,λi v s' Q' E' F Y=>?_,λh' tk R=>?_⟩
 .obtain⟨b,e,rfl⟩:=y.get i v (by simpa using F);simp only[e]at Y;exact wpAny_truthy_bool Y
 .have e:((List.range its.toArray.size).all λi=>(bs[i]?).getD true)=bs.all id:=by rw[AG2,y.length];exact LSm.range_all bs
  rw[e];exact⟨.bl<|bs.all id,H,I.kept<|LSm.kept_iter R,rfl,q⟩
theorem pX(hc:X.calm=true):Cu X (.builtin "any") (λxs H Q=>∃(p:Addr)(bs:List Bool),xs=[.ref p]/\Rd H p (.lst<|bs.map V.bl)/\Q (.bl<|bs.any id) H):=by
 intro AD s σ H xs us Q I r h;obtain⟨p,bs,rfl,O,q⟩:=h;obtain⟨u,rfl,P⟩:=vals1 r;cases P;obtain⟨z,its,n,rv,e⟩:=O.ok I.AX;have y:=U9 rv;have Z:s.heap.IsList p its.toArray:=⟨_,e,rfl,n,rfl⟩;have D:=Heap.lt_size e;refine call_any_walk<|wpAny_pyIter_list Z ?_;refine⟨s.heap.objs.size,[s.heap.objs.size,p],[s.heap.objs.size],its.toArray.size,_,_,λi=>(bs[i]?).getD false,rfl,Walks.list (A:=X.A.in1) (I.ok.hd hc) _ p (AG7 D) its.toArray,
  ⟨⟨_,Heap.get?_push_size _ rfl,rfl,rfl⟩,Z.push _⟩,λi v s' Q' E' F Y=>?_,λh' tk R=>?_⟩
 .obtain⟨b,e,rfl⟩:=y.get i v (by simpa using F);simp only[e]at Y;exact wpAny_truthy_bool Y
 .have e:((List.range its.toArray.size).any λi=>(bs[i]?).getD false)=bs.any id:=by rw[AG2,y.length];exact LSm.range_any bs
  rw[e];exact⟨.bl<|bs.any id,H,I.kept<|LSm.kept_iter R,rfl,q⟩
set_option tactic.hygienic true
def Lb:List RV->Option RV
 |[r]=>(r.list.bind DA).map λns=>.cl<|.int ns.sum
 |_=>none
def Fx:List RV->Option RV
 |[r]=>(r.list.bind GI).map λns=>.cl<|.bl<|ns.all id
 |_=>none
def KJ:List RV->Option RV
 |[r]=>(r.list.bind GI).map λns=>.cl<|.bl<|ns.any id
 |_=>none
theorem AAE:ET X.K Lb (λxs H Q=>∃(p:Addr)(ns:List Int),xs=[.ref p]/\Rd H p (.lst<|ns.map V.int)/\Q (.int ns.sum) H):=by
 intro rs z H0 G H vs Q sub sh e rv q;unfold Lb at e;split at e
 .rename_i r;cases es:r.list with
  |none=>rw[es]at e;contradiction
  |some ps=>
   rw[es]at e;cases y:DA ps with
   |none=>rw[AHF,y]at e;contradiction
   |some ns=>
    rw[AHF,y]at e;cases e;obtain⟨v,rfl,Z⟩:=rv.one;obtain⟨a,us,rfl,u,Y⟩:=Z.list sub es;rw[Hu y Y]at u;exact⟨a,ns,rfl,u,q _ G H (Ap.refl sub)<|by rfl⟩
 .contradiction
theorem zu:ET X.K Fx (λxs H Q=>∃(p:Addr)(ns:List Bool),xs=[.ref p]/\Rd H p (.lst<|ns.map V.bl)/\Q (.bl<|ns.all id) H):=by
 intro rs z H0 G H vs Q sub sh e rv q;unfold Fx at e;split at e
 .rename_i r;cases es:r.list with
  |none=>rw[es]at e;contradiction
  |some ps=>
   rw[es]at e;cases y:GI ps with
   |none=>rw[AHF,y]at e;contradiction
   |some ns=>
    rw[AHF,y]at e;cases e;obtain⟨v,rfl,Z⟩:=rv.one;obtain⟨a,us,rfl,u,Y⟩:=Z.list sub es;rw[N9 y Y]at u;exact⟨a,ns,rfl,u,q _ G H (Ap.refl sub)<|by rfl⟩
 .contradiction
theorem zv:ET X.K KJ (λxs H Q=>∃(p:Addr)(ns:List Bool),xs=[.ref p]/\Rd H p (.lst<|ns.map V.bl)/\Q (.bl<|ns.any id) H):=by
 intro rs z H0 G H vs Q sub sh e rv q;unfold KJ at e;split at e
 .rename_i r;cases es:r.list with
  |none=>rw[es]at e;contradiction
  |some ps=>
   rw[es]at e;cases y:GI ps with
   |none=>rw[AHF,y]at e;contradiction
   |some ns=>
    rw[AHF,y]at e;cases e;obtain⟨v,rfl,Z⟩:=rv.one;obtain⟨a,us,rfl,u,Y⟩:=Z.list sub es;rw[N9 y Y]at u;exact⟨a,ns,rfl,u,q _ G H (Ap.refl sub)<|by rfl⟩
 .contradiction
end
end L2.PL
namespace L2.PL
open PySem PySem.Spec PyProof.Rows
def Dk(ρ:AS)(σ:St)(ρ':AS)(z:St):Prop:=∀(i:Nat)(s:SV),s.E2=true->ρ'[i]? = some (some s)->ρ[i]? = some (some s)/\z[i]? = σ[i]?
theorem Dk.refl(ρ:AS)(σ:St):Dk ρ σ ρ σ:=λ_ _ _ h=>⟨h,rfl⟩
theorem Dk.trans(a:Dk ρ σ A2 GC)(b:Dk A2 GC BU DS):Dk ρ σ BU DS:=λi ps o h=>by obtain⟨h1,z⟩:=b i ps o h;obtain⟨y,q⟩:=a i ps o h1;exact⟨y,z.trans q⟩
abbrev GF:=PV->AS->Option AS
def Tv(K:W.Frag)(g:GF):TG:=λv σ H Q=>∃G ρ p ρ',B8 K G H ρ σ/\Rep K G p v/\g p ρ=some ρ'/\∀z,B8 K G H ρ' z->Dk ρ σ ρ' z->Q z H
def Gi(X:Cx)(tg:Expr)(g:GF):Prop:=PG X tg<|Tv X.K g
abbrev HZ:=List PV->AS->Option AS
def AEr(K:W.Frag)(g:HZ):Gk:=λvs σ H Q=>∃G ρ ps ρ',B8 K G H ρ σ/\AY K G ps vs/\g ps ρ=some ρ'/\∀z,B8 K G H ρ' z->Dk ρ σ ρ' z->Q z H
def Kv(X:Cx)(ts:List Expr)(g:HZ):Prop:=Gh X ts<|AEr X.K g
theorem PG.imp(h:PG X e t)(i:∀v σ H Q,t' v σ H Q->t v σ H Q):PG X e t':=λAD s σ H v u Q I r q=>h AD s σ H v u Q I r<|i v σ H Q q
theorem Gh.imp(h:Gh X e t)(i:∀v σ H Q,t' v σ H Q->t v σ H Q):Gh X e t':=λAD s σ H v u Q I r q=>h AD s σ H v u Q I r<|i v σ H Q q
theorem get_set{α:Type}{l:List (Option α)}{i j:Nat}{x y:α}(h:(l.set i<|some x)[j]? = some (some y)):(j=i/\x=y)\/(j≠i/\l[j]? = some (some y)):=by
 by_cases e:j=i
 .subst e;by_cases z:j<l.length
  .rw[AIU z]at h;left;exact⟨rfl,by simpa using h⟩
  .rw[List.set_eq_of_length_le<|Le z]at h;rw[List.getElem?_eq_none (Le z)]at h;contradiction
 .right;rw[AHH<|AHh e]at h;exact⟨e,h⟩
theorem set_slot{α:Type}{l:List (Option α)}{i:Nat}{x:α}(h:i<l.length):(l.set i<|some x)[i]? = some (some x):=by rw[AIU h]
theorem Xd{α:Type}{l:List (Option α)}{i:Nat}{x y:α}(h:(l.set i<|some x)[i]? = some (some y)):i<l.length:=by have:=(AGs.mp h).1;simpa using this
theorem B8.F6{K:W.Frag}(R:B8 K G H ρ σ)(h:Rep K G p v):B8 K G H (ρ.set i<|some<|.im p)<|σ.set i<|some v:=by
 refine⟨R.sub,λj sv e=>?_,λj k ps qs a b Y y Q u O e3 Z=>?_,by simpa using R.len⟩
 .rcases get_set e with⟨rfl,rfl⟩|⟨P,D⟩
  .have F:=Xd e;exact⟨v,set_slot (by rw[<-R.len];exact F),h⟩
  .obtain⟨w,y,q⟩:=R.slot j sv D;exact⟨w,by rw[AHH<|AHh P];exact y,q⟩
 .rcases get_set y with⟨_,z⟩|⟨h1,y⟩
  .subst z;contradiction
  .rcases get_set u with⟨_,z⟩|⟨B,u⟩
   .subst z;contradiction
   .rw[AHH<|AHh h1]at e3;rw[AHH<|AHh B]at Z;exact R.apart j k ps qs a b Y y Q u O e3 Z
theorem Dk.F6:Dk ρ σ (ρ.set i<|some<|.im p)<|σ.set i<|some v:=λj ps o h=>by
 rcases get_set h with⟨_,z⟩|⟨y,e⟩
 .subst z;contradiction
 .exact⟨e,by rw[AHH<|AHh y]⟩
noncomputable def Aa(i:Nat):GF:=λp ρ=>some<|ρ.set i<|some<|.im p
section
variable{X:Cx}{a b c e tg iter:Expr}{es:List Expr}{fa fb fc f:EF}{ga:AF}{g:GF}{gs:HZ}{pos:Pos}
theorem ACL(i:Nat)(z:X.N.Nodup)(hi:X.N[i]? = some x)(y:Loc X.env.scope x)(u:X.fn x=true\/X.env.scope.names.lookup x=some .local):Gi X (.Name x pos)<|Aa i:=
 PG.imp (AAr z hi y u) (by rintro v σ H Q ⟨G,ρ,p,ρ',R,Z,e,q⟩;cases e;exact q _ (R.F6 Z) Dk.F6)
noncomputable def LO:HZ:=λps ρ=>match ps with|[]=>some ρ|_=>none
noncomputable def Fo(g:GF)(h:HZ):HZ:=λps ρ=>match ps with|p::r=>(match g p ρ with|some A2=>h r A2|none=>none)|[]=>none
theorem ACQ:Kv X [] LO:=Gh.imp AAv (by
 rintro v σ H Q ⟨G,ρ,ps,ρ',R,z,e,q⟩;unfold LO at e;split at e
 .cases e;exact⟨z,q σ R<|Dk.refl _ _⟩
 .contradiction)
set_option tactic.hygienic true
theorem ACP(h1:Gi X e g)(y:Kv X es gs)(hs:(assignEach (e::es) X.env).map (·.2)=assign e X.env::(assignEach es X.env).map (·.2)):Kv X (e::es)<|Fo g gs:=Gh.imp (AAu h1 y hs) (by
 rintro v σ H Q ⟨G,ρ,ps,ρ',R,Z,e,q⟩;unfold Fo at e;split at e
 .rename_i p r;split at e
  .rename_i z Y;obtain⟨u,us,rfl,O,rs⟩:=Z;exact⟨u,us,rfl,G,ρ,p,z,R,O,Y,λGC P k1=>⟨G,z,r,ρ',P,rs,e,λD R2 k2=>q D R2<|k1.trans k2⟩⟩
  .contradiction
 .contradiction)
noncomputable def Hj(n:Nat)(gs:HZ):GF:=λp ρ=>match p with|.tup ps=>if ps.length=n then gs ps ρ else none|_=>none
theorem ACN(hc:X.calm=true)(h:Kv X es gs)(hn:(assignEach es X.env).length=n)(y:(assignEach es X.env).findIdx? (·.1)=none):Gi X (.Tuple es k pos)<|Hj n gs:=
 PG.imp (AAs hc h hn y) (by
  rintro v σ H Q ⟨G,ρ,p,ρ',R,u,e,q⟩;unfold Hj at e;split at e
  .rename_i ps;split at e
   .rename_i Z;obtain⟨a,vs,rfl,Y,z⟩:=u;exact⟨a,vs,rfl,Ba.same R.sub Y,by rw[<-z.len];exact Z,G,ρ,ps,ρ',R,z,e,q⟩
   .contradiction
  .contradiction)
structure QY(J:It)(K:W.Frag)(G Hx:Hp)(ps:List PV):Prop where
 ex:∃vs,AY K G ps vs/\∀H,Ah Hx H->(∀(i:Nat)(x:V),vs[i]? = some x->J.go i H/\∀y H',J.UA i H y H'->H'=H/\y=x)/\J.stop vs.length H
abbrev IF:=AS->Option (List PV)
def mO(K:W.Frag)(cl:Bool)(f:IF):TI:=λσ H R=>∃G ρ ps,B8 K G H ρ σ/\f ρ=some ps/\∀J G' H',Ap G H G' H'->QY J K G' (if cl=true then G' else H') ps->R J H'
def IX(X:Cx)(cl:Bool)(tg iter:Expr)(f:IF):Prop:=PI X tg iter<|mO X.K cl f
theorem PI.imp(h:PI X tg iter t)(i:∀σ H Q,t' σ H Q->t σ H Q):PI X tg iter t':=λAD s σ H Q I q=>h AD s σ H Q I<|i σ H Q q
theorem iP{K:W.Frag}{ps:List PV}{vs:List V}{a:Addr}(h:AY K G ps vs)(z:Rd Hx a<|.lst vs):QY (Um K a) K G Hx ps:=by refine⟨vs,h,λH s=>⟨λi x e=>⟨⟨vs,x,.inl<|Rd.same s z,e⟩,λy H' ⟨q,v⟩=>⟨q,?_⟩⟩,⟨vs,.inl<|Rd.same s z,AGy _⟩⟩⟩;have:=v vs<|.inl<|Rd.same s z;rw[e]at this;exact(AHP this).symm
theorem xI{K:W.Frag}{ps:List PV}{vs:List V}{a:Addr}(h:AY K G ps vs)(z:Ba K Hx a vs):QY (Uo K a) K G Hx ps:=by refine⟨vs,h,λH s=>⟨λi x e=>⟨⟨vs,x,Ba.same s z,e⟩,λy H' ⟨q,v⟩=>⟨q,?_⟩⟩,⟨vs,Ba.same s z,AGy _⟩⟩⟩;have:=v vs<|Ba.same s z;rw[e]at this;exact(AHP this).symm
def B5(cl:Bool)(f:EF):IF:=λρ=>match f ρ with|some r=>(if cl=true then(match r.clean with|some (.lst ps)=>some ps|_=>none)else r.list)|none=>none
theorem ACR(h:PX X iter f):IX X cl tg iter<|B5 cl f:=PI.imp (AAw h) (by
 rintro σ H Q ⟨G,ρ,ps,R,e,q⟩;unfold B5 at e;split at e
 .rename_i r u;refine⟨G,ρ,r,R,u,λv G' H' s rv=>?_⟩;cases cl with
  |true=>
   rw[AGo rfl]at e;split at e
   .rename_i qs p;cases e;have Z:=rv.clean s.sub p;obtain⟨a,vs,rfl,z,y⟩:=Z;exact⟨a,rfl,⟨vs,.inl<|Rd.same s.all.sub z⟩,q _ _ _ s.all<|iP y z⟩
   .contradiction
  |false=>
   obtain⟨a,vs,rfl,z,y⟩:=rv.list s.sub e;exact⟨a,rfl,⟨vs,.inl z⟩,q _ _ _ s<|iP y z⟩
 .contradiction)
noncomputable def D9(f:EF):IF:=λρ=>match f ρ with|some (.cl<|.tup ps)=>some ps|_=>none
theorem ACU(h:PX X iter f):IX X cl tg iter<|D9 f:=PI.imp (AAz h) (by
 rintro σ H Q ⟨G,ρ,ps,R,e,q⟩;unfold D9 at e;split at e
 .rename_i qs y;cases e;refine⟨G,ρ,_,R,y,λv G' H' s rv=>?_⟩;have u:=rv;obtain⟨a,vs,rfl,z,p⟩:=u;refine⟨a,rfl,⟨vs,Ba.same s.sub z⟩,q _ _ _ s<|xI p ?_⟩;cases cl
  .exact Ba.same s.sub z
  .exact z
 .contradiction)
noncomputable def NO(i j:Int):List PV:=(List.range (j-i).toNat).map λ(k:Nat)=>.int<|i+(k:Int)
theorem iQ{K:W.Frag}{G Hx:Hp}:QY (Nv i n) K G Hx<|(List.range n).map λ(k:Nat)=>.int<|i+(k):=by
 refine⟨(List.range n).map λ(k:Nat)=>.int<|i+(k),?_,λH _=>⟨λk x e=>?_,by show n<=_;simp⟩⟩
 .have q:∀l:List Nat,AY K G (l.map λk=>PV.int<|i+(k:Nat))<|l.map λk=>V.int<|i+(k:Nat):=by
   intro l
   induction l with
   |nil=>rfl
   |cons x r ih=>
    exact⟨_,_,rfl,by rfl,ih⟩
  exact q _
 .rw[AHi]at e;cases z:(List.range n)[k]? with
  |none=>rw[z]at e;contradiction
  |some m=>
   rw[z]at e;obtain⟨h1,v⟩:=AGs.mp z;rw[AJ7]at v;subst v;cases e;exact⟨(show k<n by simpa using h1),(by rintro y H' ⟨u,z⟩;exact⟨u,z⟩)⟩
def Jc(i:Int):Prop:=-(2 ^ 62)<=i/\i<2 ^ 62
instance{i:Int}:Decidable<|Jc i:=by unfold Jc;infer_instance
def CQ(g:AF):IF:=λρ=>match g ρ with|some [.cl<|.int j]=>if Jc j then some (NO 0 j)else none|_=>none
def DL(g:AF):IF:=λρ=>match g ρ with|some [.cl<|.int i,.cl<|.int j]=>if Jc i/\Jc j then some (NO i j)else none|_=>none
theorem ACS(hm:X.mg "range" = none)(ha:Cy X [a] ga)(y:Gl X "range")(hs:starEach [a] X.env=[(false,eval a X.env)]):IX X cl tg (.Call (.Name "range" p) [a] [] pos)<|CQ ga:=PI.imp (AAx y hm ha hs) (by
 rintro σ H Q ⟨G,ρ,ps,R,e,q⟩;unfold CQ at e;split at e
 .rename_i j u;split at e
  .rename_i z;cases e;refine⟨G,ρ,_,R,u,λv G' H' s rv=>?_⟩;obtain⟨w,rfl,Z⟩:=rv.one;refine⟨j,by rw[Z.int],z.1,z.2,q _ _ _ s ?_⟩;have:=iQ (K:=X.K) (G:=G') (Hx:=if cl=true then G' else H') (i:=0) (n:=j.toNat);simpa[NO]using this
  .contradiction
 .contradiction)
theorem ACT(hm:X.mg "range" = none)(ha:Cy X [a,b] ga)(y:Gl X "range")(hs:starEach [a,b] X.env=[(false,eval a X.env),(false,eval b X.env)])(u:starEach [b] X.env=[(false,eval b X.env)]):IX X cl tg (.Call (.Name "range" p) [a,b] [] pos)<|DL ga:=PI.imp (AAy y hm ha hs u) (by
 rintro σ H Q ⟨G,ρ,ps,R,e,q⟩;unfold DL at e;split at e
 .rename_i i j Z;split at e
  .rename_i z;cases e;refine⟨G,ρ,_,R,Z,λv G' H' s rv=>?_⟩;obtain⟨w,w',rfl,Y,O⟩:=rv.two;refine⟨i,j,by rw[Y.int,O.int],⟨z.1.1,z.1.2,z.2.1,z.2.2⟩,q _ _ _ s ?_⟩;exact iQ
  .contradiction
 .contradiction)
noncomputable def Bt(own:Nat)(cap:List Nat)(ρ:AS):AS:=List.replicate own none++cap.map λj=>(ρ[j]?).join
def collect(g:GF)(t:BF)(fe:EF)(z:AS):List PV->Option (List PV)
 |[]=>some []
 |x::xs=>match g x z with
  |none=>none
  |some A2=>match t A2 with
   |none=>none
   |some false=>collect g t fe z xs
   |some true=>match fe A2 with
    |none=>none
    |some r=>match r.clean,collect g t fe z xs with
     |some p,some ps=>some (p::ps)
     |_,_=>none
def A5(its:IF)(own:Nat)(cap:List Nat)(g:GF)(t:BF)(fe:EF):EF:=λρ=>match its ρ with
 |none=>none
 |some xs=>if xs.length<=1000 then(collect g t fe (Bt own cap ρ) xs).map .fr else none
set_option tactic.hygienic false
theorem B8.cap{K:W.Frag}(R:B8 K G H ρ σ)(own:Nat)(cap:List Nat)(S:cap.Nodup):B8 K G H (Bt own cap ρ)<|Gm own cap σ:=by
 have get:∀{i:Nat}{sv:SV},(Bt own cap ρ)[i]? = some (some sv)->∃k j,i=own+k/\cap[k]? = some j/\ρ[j]? = some (some sv):=by
  intro i sv h;unfold Bt at h;by_cases hi:i<own
  .rw[AHR (by simpa using hi),AIH]at h;split at h<;>simp at h
  .rw[AHV (by simpa using hi),AHi]at h;simp only[AIY]at h;cases y:cap[i-own]? with
   |none=>rw[y]at h;simp at h
   |some j=>
    rw[y]at h;simp only[AHr,AHc]at h;refine⟨i-own,j,AGg,y,?_⟩;cases hs:ρ[j]? with
    |none=>rw[hs]at h;simp at h
    |some o=>rw[hs]at h;simp at h;rw[h]
 have put:∀{k j:Nat}{v:V},cap[k]? = some j->σ[j]? = some (some v)->(Gm own cap σ)[own+k]? = some (some v):=by
  intro k j v h1 T;unfold Gm;rw[AHV AGh,AHi];simp only[AIY,Nat.add_sub_cancel_left,h1,AHr,T]
  rfl
 refine⟨R.sub,λi sv e=>?_,λi j ps qs a b u C E I n e3 p=>?_,by simp[Bt,Gm]⟩
 .obtain⟨k,j,rfl,y,t⟩:=get e;obtain⟨v,x,q⟩:=R.slot j sv t;exact⟨v,put y x,q⟩
 .obtain⟨k1,Z,rfl,Y,Q⟩:=get C;obtain⟨k2,O,rfl,P,D⟩:=get I;obtain⟨v1,F,_⟩:=R.slot Z _ Q;obtain⟨v2,B,_⟩:=R.slot O _ D;rw[put Y F]at e3;rw[put P B]at p;cases e3;cases p;refine R.apart Z O ps qs a b (λz=>u ?_) Q E D n F B;subst z;obtain⟨l1,q1⟩:=AGs.mp Y;obtain⟨l2,q2⟩:=AGs.mp P;have:=(AJs S).mp<|q1.trans q2.symm;clear u;lia
theorem B8.Pr{K:W.Frag}(R:B8 K G H ρ σ):∀(j:Nat)(s:SV)(b:Addr),s.E2=true->ρ[j]? = some (some s)->σ[j]? = some (some<|.ref b)->H b≠none:=λj s b o u y z=>by
 obtain⟨v,Z,q⟩:=R.slot j _ u;rw[Z]at y;cases y;cases s with
 |im p=>contradiction
 |exc nm=>contradiction
 |own ps=>
  obtain⟨a,vs,h,_,ha,_⟩:=q;cases h;rw[z]at ha;contradiction
 |Dv t ks xs=>
  obtain⟨a,vs,h,_,ha,_⟩:=q;cases h;rw[z]at ha;contradiction
 |Eh AK=>
  obtain⟨a,h,_,ha⟩:=q;cases h;rw[z]at ha;contradiction
theorem B8.weak{K:W.Frag}(R:B8 K G H ρ' σ)(h:∀(k:Nat)(sv:SV),ρ[k]? = some (some sv)->ρ'[k]? = some (some sv))(z:ρ.length=ρ'.length):B8 K G H ρ σ:=
 ⟨R.sub,λi sv e=>R.slot i sv<|h i sv e,λi j ps qs a b y q v u p e3 Z=>R.apart i j ps qs a b y (h _ _ q) v (h _ _ u) p e3 Z,z.trans R.len⟩
theorem B8.Yz{K:W.Frag}(R:B8 K G H ρ σ)(g:G D=none)(h:∀(k:Nat)(s:SV),s.E2=true->ρ[k]? = some (some s)->σ[k]?≠some (some<|.ref D)):B8 K G (upd H D o) ρ σ:=by
 refine⟨λb u q=>by rw[BM<|Du q g];exact R.sub _ _ q,λi sv e=>?_,R.apart,R.len⟩;obtain⟨v,y,q⟩:=R.slot i sv e;refine⟨v,y,?_⟩;cases sv with
 |exc nm=>exact q
 |im p=>exact q
 |own ps=>
  obtain⟨a,vs,rfl,ga,ha,r⟩:=q;refine⟨a,vs,rfl,ga,?_,r⟩;rw[BM λz=>h i _ rfl e<|by rw[y,z]];exact ha
 |Dv t ks xs=>
  obtain⟨a,vs,rfl,ga,ha,r⟩:=q;refine⟨a,vs,rfl,ga,?_,r⟩;rw[BM λz=>h i _ rfl e<|by rw[y,z]];exact ha
 |Eh AK=>
  obtain⟨a,rfl,ga,ha⟩:=q;refine⟨a,rfl,ga,?_⟩;rw[BM λz=>h i _ rfl e<|by rw[y,z]];exact ha
theorem Ap.Yz(s:Ap G H G' H')(h:H D=none)(g:G' D=none):Ap G H G'<|upd H' D o:=
 ⟨s.gg,λb u q=>by rw[BM<|Du q h];exact s.hh _ _ q,λb u q=>by rw[BM<|Du q g];exact s.sub _ _ q,s.ex⟩
def Ks(own:Nat)(g:GF):Prop:=∀p ρ ρ',g p ρ=some ρ'->ρ'.length=ρ.length/\∀(k:Nat),own<=k->ρ'[k]? = ρ[k]?
def Nt(own:Nat)(g:HZ):Prop:=∀p ρ ρ',g p ρ=some ρ'->ρ'.length=ρ.length/\∀(k:Nat),own<=k->ρ'[k]? = ρ[k]?
theorem uT(h:i<own):Ks own<|Aa i:=λp ρ ρ' e=>by cases e;exact⟨AKc,λk hk=>AHH U⟩
theorem uW:Nt own LO:=λp ρ ρ' e=>by
 unfold LO at e;split at e
 .cases e;exact⟨rfl,λ_ _=>rfl⟩
 .contradiction
set_option tactic.hygienic true
theorem uV(h1:Ks own g)(y:Nt own gs):Nt own<|Fo g gs:=λp ρ ρ' e=>by
 unfold Fo at e;split at e
 .split at e
  .rename_i A2 q;obtain⟨v,u⟩:=h1 _ _ _ q;obtain⟨b1,b2⟩:=y _ _ _ e;exact⟨b1.trans v,λk z=>(b2 k z).trans<|u k z⟩
  .contradiction
 .contradiction
theorem uU(h:Nt own gs):Ks own<|Hj n gs:=λp ρ ρ' e=>by
 unfold Hj at e;split at e
 .split at e
  .exact h _ _ _ e
  .contradiction
 .contradiction
theorem qH(h:(Bt own cap ρ)[k]? = some (some sv)):own<=k:=by
 unfold Bt at h;by_cases hi:k<own
 .rw[AHR (by simpa using hi),AIH]at h;split at h<;>simp at h
 .exact Le hi
theorem mR{K:W.Frag}(HA:cap.Nodup)(hk:Ks own g)(h:tX K (A5 its own cap g t fe) σ H Q):Yo own cap (mO K false its) (Tv K g) (GA K t) (tX K fe) σ H Q:=by
 obtain⟨G,ρ,r,R,e,q⟩:=h;unfold A5 at e;split at e
 .contradiction
 .rename_i xs ex;split at e
  .cases ec:collect g t fe (Bt own cap ρ) xs with
   |none=>rw[ec]at e;contradiction
   |some zs=>
    rw[ec]at e;cases e;refine⟨G,ρ,xs,R,ex,λJ G1 H1 s1 J1=>λD Y=>?_⟩;obtain⟨vs,rl,hJ⟩:=J1.ex;have Bh:=rl.len;have R1:=(R.step s1).cap own cap HA;refine⟨λi m AZ H'=>m=xs.length-i/\i<=xs.length/\∃G' ys ps S,Ap G1 H1 G' H'/\G' D=none/\H' D=some (.lst ys)/\AY K G' ps ys/\ps.length<=i/\collect g t fe (Bt own cap ρ) (xs.drop i)=some S/\ps++S=zs/\
     B8 K G' H' (Bt own cap ρ) AZ/\(∀(k:Nat)(s:SV),s.E2=true->(Bt own cap ρ)[k]? = some (some s)->AZ[k]?≠some (some<|.ref D)),⟨xs.length,AGh,AIO _,G1,[],[],zs,Ap.HI s1.sub _ Y,s1.sub.free Y,Cs,by rfl,AGy _,by exact ec,rfl,?_,?_⟩,?_⟩
    .exact R1.step<|Ap.HI s1.sub _ Y
    .intro k s ho BL z;exact R1.Pr k s D ho BL z Y
    .rintro i m AZ H' ⟨rfl,hi,G',ys,ps,S,st,gD,O,T,A9,Z,C,RO,P⟩;obtain⟨WX,Wz⟩:=hJ H' st.hh;by_cases BA:i<xs.length
     .right;have O3:vs[i]? = some vs[i]:=AG8 AGi;obtain⟨go,yl⟩:=WX i _ O3;have W7:=AG8 BA;have Wx:Rep K G' xs[i] vs[i]:=by obtain⟨u,eu,ru⟩:=NF rl.paired W7;rw[O3]at eu;cases eu;exact Rep.same st.gg ru
      have Ol:=AIb BA;rw[Ol]at Z;unfold collect at Z;split at Z
      .contradiction
      .rename_i F e1;obtain⟨kl,kk⟩:=hk _ _ _ e1;have hw:∀(k:Nat)(sv:SV),(Bt own cap ρ)[k]? = some (some sv)->F[k]? = some (some sv):=λk sv h=>by rw[kk k<|qH h];exact h
       refine⟨go,λD1 E=>∃I nQ DP n,Ap G1 H1 I E/\I D=none/\E D=some (.lst nQ)/\AY K I DP nQ/\DP.length<=i+1/\collect g t fe (Bt own cap ρ) (xs.drop<|i+1)=some n/\DP++n=zs/\
        B8 K I E (Bt own cap ρ) D1/\(∀(k:Nat)(s:SV),s.E2=true->(Bt own cap ρ)[k]? = some (some s)->D1[k]?≠some (some<|.ref D)),λD1 E hN=>⟨xs.length-(i+1),AGg,rfl,AGl,hN⟩,λy H3 hy=>?_⟩
       obtain⟨rfl,rfl⟩:=yl y H3 hy;refine⟨G',Bt own cap ρ,xs[i],F,RO,Wx,e1,λGC B zP=>?_⟩;have Wo:∀(k:Nat)(s:SV),s.E2=true->(Bt own cap ρ)[k]? = some (some s)->GC[k]?≠some (some<|.ref D):=λk qs o h z=>by obtain⟨h1,h2⟩:=zP k qs o<|hw k _ h;rw[h2]at z;exact P k qs o h z
       split at Z
       .contradiction
       .rename_i et;refine⟨G',F,false,B,et,λG2 H2 s2=>?_⟩;exact⟨G2,ys,ps,S,st.trans s2,s2.ex D (.l O) gD,s2.hh _ _ O,AY.same s2.gg T,M5 A9,Z,C,(B.step s2).weak hw kl.symm,Wo⟩
       .rename_i et;refine⟨G',F,true,B,et,λG2 H2 s2=>?_⟩;refine xH ?_;split at Z
        .contradiction
        .rename_i rr er;split at Z
         .rename_i p n ep se;cases Z;refine⟨G2,F,rr,B.step s2,er,λv G3 H3 s3 rv=>?_⟩;have x:=s3.all;have f7:=s2.hh _ _ O;have uL:=s2.ex D (.l O) gD;have WC:=x.ex D (.l f7) uL;have hys:=T.len.symm;refine⟨ys,s3.hh _ _ f7,AJe (U:ys.length<=1000) AGj,EC G3 H2 H3,ys ++ [v],ps ++ [p],n,?_,WC,Cs,?_,?_,se,?_,?_,Wo⟩
          .exact((st.trans s2).trans x).Yz Y WC
          .exact AY.of<|ND (AY.same (s2.gg.trans x.gg) T).paired<|.cons (rv.clean s3.sub ep) .nil
          .simp only[AHC,AIZ];exact Pf A9
          .rw[AKG];exact C
          .exact(((B.step s2).step x).weak hw kl.symm).Yz WC Wo
         .contradiction
     .left;have WZ:i=xs.length:=U
      subst WZ;rw[AKP]at Z;cases Z;rw[AH8]at C;subst C;refine⟨by rw[Bh];exact Wz,q _ G' H' (s1.trans st) ⟨D,ys,rfl,s1.hh.free Y,gD,O,T⟩⟩
  .contradiction
variable{ifs:List Expr}{elt:Expr}{scope:Scope}{Nb:List Str}{own:Nat}{cap:List Nat}{its:IF}{t:BF}{fe:EF}
def L5(X:Cx)(ifs:List Expr)(t:BF):Prop:=Hc X ifs<|GA X.K t
theorem Hc.imp{e:List Expr}{t t':TT}(h:Hc X e t)(i:∀σ H Q,t' σ H Q->t σ H Q):Hc X e t':=λAD s σ H Q I q=>h AD s σ H Q I<|i σ H Q q
noncomputable def BP:BF:=λ_=>some true
theorem ACV:L5 X [] BP:=Hc.imp AA1 (by rintro σ H Q ⟨G,ρ,r,R,e,q⟩;cases e;exact q G H<|Ap.refl R.sub)
theorem ACW(h:DW X c t):L5 X [c] t:=AA2 h
theorem ABm(hc:X.calm=true)(O:GD X scope Nb own cap)(z:cap.Nodup)(y:Ks own g)(hi:IX X false tg iter its)(q:∀C s H fp AD,Gi (CF X Nb scope C s H fp AD) tg g)(v:∀C s H fp AD,L5 (CF X Nb scope C s H fp AD) ifs t)(he:∀C s H fp AD,PX (CF X Nb scope C s H fp AD) elt fe) (hs:∀x,foldedSetIterable iter X.env x=pure x):PX X (.ListComp elt [⟨tg,iter,ifs,0⟩] scope pos)<|A5 its own cap g t fe:=
 PE.imp (AAc (g:=Tv X.K g) (ti:=GA X.K t) (te:=tX X.K fe) hc O hi q v he hs) λ_ _ _ h=>mR z y h
end
inductive Out where
 |nx (ρ:AS)|rt (r:RV)|bk (ρ:AS)|ct (ρ:AS)
abbrev SF:=AS->Option Out
structure SR(K:W.Frag)(AV AR G H:Hp)(ρ:AS)(σ:St):Prop where
 r:B8 K G H ρ σ
 gg:Ah AV G
 hh:Ah AR H
 ex:∀a,Mu AR a->AV a=none->G a=none
 new:∀(i:Nat)(s:SV)(a:Addr),s.E2=true->ρ[i]? = some (some s)->σ[i]? = some (some<|.ref a)->AR a=none
theorem SR.step{K:W.Frag}(s:Ap G H G' H')(h:SR K AV AR G H ρ σ):SR K AV AR G' H' ρ σ:=
 ⟨h.r.step s,h.gg.trans s.gg,h.hh.trans s.hh,λa e n=>s.ex a (e.same h.hh)<|h.ex a e n,h.new⟩
theorem SR.NU{K:W.Frag}(h:SR K AV AR G H ρ σ):Ap AV AR G H:=⟨h.gg,h.hh,h.r.sub,h.ex⟩
theorem SR.turn{K:W.Frag}(h:SR K AV AR G H ρ σ)(r:B8 K G H ρ' AZ)(k:Dk ρ σ ρ' AZ):SR K AV AR G H ρ' AZ:=
 ⟨r,h.gg,h.hh,h.ex,λi ps a o z y=>by obtain⟨h1,q⟩:=k i ps o z;exact h.new i ps a o h1<|q ▸ y⟩
def Ku(K:W.Frag)(AV AR G:Hp)(D:Ends):Out->Prop
 |.nx ρ'=>∀z G' H',Ah G G'->SR K AV AR G' H' ρ' z->D.nx z H'
 |.bk ρ'=>∀z G' H',Ah G G'->SR K AV AR G' H' ρ' z->D.bk z H'
 |.ct ρ'=>∀z G' H',Ah G G'->SR K AV AR G' H' ρ' z->D.ct z H'
 |.rt r=>∀v G' H',Ap AV AR G' H'->Bx K AR G' H' r v->D.rt v H'
theorem Ku.mono{K:W.Frag}(s:Ah G y)(h:Ku K AV AR G D o):Ku K AV AR y D o:=by
 cases o with
 |nx ρ=>exact λz G' H' q=>h z G' H'<|s.trans q
 |bk ρ=>exact λz G' H' q=>h z G' H'<|s.trans q
 |ct ρ=>exact λz G' H' q=>h z G' H'<|s.trans q
 |rt r=>exact h
def Lr(K:W.Frag)(AV AR:Hp)(g:SF):TS:=λD σ H=>∃G ρ o,SR K AV AR G H ρ σ/\g ρ=some o/\Ku K AV AR G D o
def CC(X:Cx)(AV AR:Hp)(st:Stmt)(g:SF):Prop:=PS X st<|Lr X.K AV AR g
def EU(X:Cx)(AV AR:Hp)(st:List Stmt)(g:SF):Prop:=Cw X st<|Lr X.K AV AR g
noncomputable def A8:SF:=λρ=>some<|.nx ρ
noncomputable def AM(g h:SF):SF:=λρ=>match g ρ with|some (.nx ρ')=>h ρ'|o=>o
section
variable{X:Cx}{AV AR:Hp}{a b c e tg iter:Expr}{es:List Expr}{fa fb fc f:EF}{ga:AF}{t:BF}{gt:GF}{pos:Pos}{st:Stmt}{BJ body Vq:List Stmt}{g h:SF}
theorem ACk:EU X AV AR [] A8:=Cw.imp ABP (by rintro D σ H ⟨G,ρ,o,S,e,k⟩;cases e;exact k σ G H (Ah.refl _) S)
theorem ACc(h1:CC X AV AR st g)(y:EU X AV AR BJ h):EU X AV AR (st::BJ)<|AM g h:=Cw.imp (kb h1 y) (by
 rintro D σ H ⟨G,ρ,o,S,e,k⟩;unfold AM at e;cases z:g ρ with
 |none=>rw[z]at e;contradiction
 |some o1=>
  rw[z]at e;cases o1 with
  |nx A2=>exact⟨G,ρ,_,S,z,λAZ G' H' s q=>⟨G',A2,o,q,e,k.mono s⟩⟩
  |rt r=>cases e;exact⟨G,ρ,_,S,z,k⟩
  |bk r=>cases e;exact⟨G,ρ,_,S,z,k⟩
  |ct r=>cases e;exact⟨G,ρ,_,S,z,k⟩)
theorem ACl(h1:CC X AV AR st g):EU X AV AR [st] g:=kc h1
noncomputable def Au(t:BF)(g h:SF):SF:=λρ=>match t ρ with|some true=>g ρ|some false=>h ρ|none=>none
theorem ACh(hc:DW X c t)(ha:EU X AV AR body g)(q:EU X AV AR Vq h):CC X AV AR (.If c body Vq pos)<|Au t g h:=PS.imp (ABH hc ha q) (by
 rintro D σ H ⟨G,ρ,o,S,e,k⟩;unfold Au at e;split at e
 .rename_i z;refine⟨G,ρ,true,S.r,z,λy v s1=>?_⟩;exact⟨y,ρ,o,S.step s1,e,k.mono s1.gg⟩
 .rename_i z;refine⟨G,ρ,false,S.r,z,λy v s1=>?_⟩;exact⟨y,ρ,o,S.step s1,e,k.mono s1.gg⟩
 .contradiction)
noncomputable def Rh:SF:=λ_=>none
theorem ACj:CC X AV AR st Rh:=PS.imp ABI (by rintro D σ H ⟨G,ρ,o,S,e,k⟩;contradiction)
noncomputable def Aw(f:EF):SF:=λρ=>match f ρ with|some (.cl p)=>some (.rt<|.cl p)|some (.fr ps)=>some (.rt<|.fr ps)|_=>none
theorem ACo(he:PX X e f):CC X AV AR (.Return (some e) pos)<|Aw f:=PS.imp (X6 he) (by
 rintro D σ H ⟨G,ρ,o,S,e,k⟩;unfold Aw at e;split at e
 .rename_i p z;cases e;exact⟨G,ρ,_,S.r,z,λv G' H' s rv=>k v G' H' (S.NU.trans s) rv⟩
 .rename_i ps z;cases e;exact⟨G,ρ,_,S.r,z,λv G' H' s rv=>k v G' H' (S.NU.trans s)<|rv.back S.hh⟩
 .contradiction)
set_option tactic.hygienic true
noncomputable def Od(i:Nat):SF:=λρ=>match ρ[i]? with|some (some<|.own ps)=>some (.rt<|.fr ps)|_=>none
theorem ACq(i:Nat)(q:X.N[i]? = some x)(u:DJ X.env.scope x)(hd:(x==("__debug__"))=false) (Z:(x==("__classdict__"))=false):CC X AV AR (.Return (some<|.Name x p) pos)<|Od i:=PS.imp (X6<|Ej q u hd Z) (by
 rintro D σ H ⟨G,ρ,o,S,e,k⟩;unfold Od at e;split at e
 .rename_i ps z;cases e;obtain⟨v,y,a,vs,rfl,ga,ha,Y⟩:=S.r.slot i _ z;exact⟨_,y,k _ G H S.NU ⟨a,vs,rfl,S.new i _ a rfl z y,ga,ha,Y⟩⟩
 .contradiction)
def Ac(i:Nat)(f:EF):SF:=λρ=>match f ρ with|some r=>(match r.clean with|some p=>some (.nx<|ρ.set i<|some<|.im p)|none=>none)|none=>none
theorem mF(h:∀Q,tX X.K f σ H Q->te σ H Q)(q:Lr X.K AV AR (Ac i f) D σ H):P8 te (Oc i) D σ H:=by
 obtain⟨G,ρ,o,S,e,k⟩:=q;unfold Ac at e;split at e
 .rename_i r y;split at e
  .rename_i p u;cases e;refine h _ ⟨G,ρ,r,S.r,y,λv G' H' s rv=>?_⟩;have z:=S.step s.all;exact k _ _ _ s.all.gg<|z.turn (z.r.F6<|rv.clean s.sub u) Dk.F6
  .contradiction
 .contradiction
theorem ACr(i:Nat)(y:X.N.Nodup)(he:PX X e f)(hi:X.N[i]? = some x)(v:Loc X.env.scope x)(hs:swapsWith e (some<|.Name x p) pos.line X.env=pure false)(u:X.fn x=true\/X.env.scope.names.lookup x=some .local) : CC X AV AR (.Assign [.Name x p] e pos)<|Ac i f:=PS.imp (Px y hi v he hs u) λD σ H q=>mF (λ_ z=>z) q
noncomputable def Ed(i:Nat)(f:EF):SF:=λρ=>match f ρ with|some (.fr ps)=>some (.nx<|ρ.set i<|some<|.own ps)|_=>none
theorem SR.YO{K:W.Frag}{ρ:AS}{σ:St}{i:Nat}{s:SV}{a:Addr}{Q:Hp}(S:SR K AV AR G H ρ σ)(s1:Ah AR Q)(ho:∀(j:Nat)(s:SV)(b:Addr),s.E2=true->ρ[j]? = some (some s)->σ[j]? = some (some<|.ref b)->Q b≠none) (n:Q a=none) (ok:MA K G H s<|.ref a):SR K AV AR G H (ρ.set i<|some s)<|σ.set i<|some<|.ref a:=by
 have R:=S.r;refine⟨⟨R.sub,λj sv e=>?_,λj k qs rs b c O Z Y y P e3 v=>?_,by simpa using R.len⟩,S.gg,S.hh,S.ex,λj qs b Y Z y=>?_⟩
 .rcases get_set e with⟨rfl,rfl⟩|⟨D,F⟩
  .have u:=Xd e;exact⟨_,set_slot (by rw[<-R.len];exact u),ok⟩
  .obtain⟨w,Z,q⟩:=R.slot j sv F;exact⟨w,by rw[AHH<|AHh D];exact Z,q⟩
 .rcases get_set Z with⟨h1,_⟩|⟨h1,f1⟩
  .rcases get_set y with⟨p,_⟩|⟨p,f2⟩
   .exact absurd (h1.trans p.symm) O
   .subst h1;rw[AHH<|AHh p]at v;have u:=by have:=(AGs.mp e3).1;simpa using this
    rw[set_slot u]at e3;cases e3;intro z;exact ho k rs c P f2 v<|z ▸ n
  .rcases get_set y with⟨p,_⟩|⟨p,f2⟩
   .subst p;rw[AHH<|AHh h1]at e3;have u:=by have:=(AGs.mp v).1;simpa using this
    rw[set_slot u]at v;cases v;intro z;exact ho j qs b Y f1 e3<|z.symm ▸ n
   .rw[AHH<|AHh h1]at e3;rw[AHH<|AHh p]at v;exact R.apart j k qs rs b c O f1 Y f2 P e3 v
 .rcases get_set Z with⟨h1,_⟩|⟨h1,f1⟩
  .subst h1;have u:=by have:=(AGs.mp y).1;simpa using this
   rw[set_slot u]at y;cases y;exact s1.free n
  .rw[AHH<|AHh h1]at y;exact S.new j qs b Y f1 y
theorem SR.lK{K:W.Frag}{G H:Hp}{ρ:AS}{σ:St}{i:Nat}{ps:List PV}{a:Addr}(S:SR K AV AR G H ρ σ)(s1:Ah AR z)(ho:∀(j:Nat)(s:SV)(b:Addr),s.E2=true->ρ[j]? = some (some s)->σ[j]? = some (some<|.ref b)->z b≠none) (n:z a=none) (ga:G a=none) (ha:H a=some (.lst vs)) (y:AY K G ps vs):SR K AV AR G H (ρ.set i<|some<|.own ps)<|σ.set i<|some<|.ref a:=
 S.YO s1 ho n ⟨a,vs,rfl,ga,ha,y⟩
theorem AEK(h:∀Q,tX X.K f σ H Q->te σ H Q)(q:Lr X.K AV AR (Ed i f) D σ H):P8 te (Oc i) D σ H:=by
 obtain⟨G,ρ,o,S,e,k⟩:=q;unfold Ed at e;split at e
 .rename_i ps z;cases e;refine h _ ⟨G,ρ,_,S.r,z,λv G' H' s rv=>?_⟩;obtain⟨a,vs,rfl,n,ga,ha,y⟩:=rv;exact k _ _ _ s.gg<|(S.step s).lK S.hh S.r.Pr n ga ha y
 .contradiction
theorem ACv(i:Nat)(y:X.N.Nodup)(he:PX X e f)(hi:X.N[i]? = some x)(v:Loc X.env.scope x)(hs:swapsWith e (some<|.Name x p) pos.line X.env=pure false)(u:X.fn x=true\/X.env.scope.names.lookup x=some .local) : CC X AV AR (.Assign [.Name x p] e pos)<|Ed i f:=PS.imp (Px y hi v he hs u) λD σ H q=>AEK (λ_ z=>z) q
section
variable{ifs:List Expr}{elt:Expr}{scope:Scope}{Nb:List Str}{own:Nat}{cap:List Nat}{its:IF}{fe:EF}{Ak:Pos}
theorem ACs(i:Nat)(y:X.N.Nodup)(hc:X.calm=true)(O:GD X scope Nb own cap)(v:cap.Nodup)(u:Ks own gt)(hi:IX X false tg iter its)(Z:∀C s H fp AD,Gi (CF X Nb scope C s H fp AD) tg gt)(Y:∀C s H fp AD,L5 (CF X Nb scope C s H fp AD) ifs t)(he:∀C s H fp AD,PX (CF X Nb scope C s H fp AD) elt fe) (Q:X.N[i]? = some x) (P:Loc X.env.scope x) (F:swapsWith (.ListComp elt [⟨tg,iter,ifs,0⟩] scope Ak) (some<|.Name x p) pos.line X.env=pure true) (hs:∀x,foldedSetIterable iter X.env x=pure x) (R:X.fn x=true\/X.env.scope.names.lookup x=some .local) : CC X AV AR (.Assign [.Name x p] (.ListComp elt [⟨tg,iter,ifs,0⟩] scope Ak) pos)<|Ac i<|A5 its own cap gt t fe:=
 PS.imp (ABL (g:=Tv X.K gt) (ti:=GA X.K t) (te:=tX X.K fe) y Q P hc O hi Z Y he F hs R) λD σ H q=>mF (λ_ z=>mR v u z) q
end
def Oa(f:EF)(gt:GF):SF:=λρ=>match f ρ with|some r=>(match r.clean with|some p=>(match gt p ρ with|some ρ'=>some (.nx ρ')|none=>none)|none=>none)|none=>none
theorem ACa(he:PX X e f)(y:Gi X tg gt)(hs:swapsWithSole [tg] e pos.line X.env=pure false)(q:swappedStores [tg] e X.env=pure none) (h1:(assignEach [tg] X.env).map (·.2)=[assign tg X.env]):CC X AV AR (.Assign [tg] e pos)<|Oa f gt:=PS.imp (kY he y hs q h1) (by
 rintro D σ H ⟨G,ρ,o,S,e,k⟩;unfold Oa at e;split at e
 .rename_i r u;split at e
  .rename_i p Z;split at e
   .rename_i ρ' Y;cases e;refine⟨G,ρ,r,S.r,u,λv G' H' s rv=>?_⟩;have z:=S.step s.all;exact⟨_,ρ,p,ρ',z.r,rv.clean s.sub Z,Y,λAZ Q kk=>k _ _ _ s.all.gg<|z.turn Q kk⟩
   .contradiction
  .contradiction
 .contradiction)
theorem SR.chg{K:W.Frag}{ρ:AS}{σ:St}{i:Nat}{s s':SV}{a:Addr}{o:HO}(S:SR K AV AR G H ρ σ)(hs:s.E2=true)(v:ρ[i]? = some (some s))(es:σ[i]? = some (some<|.ref a))(ga:G a=none)(ok:MA K G (upd H a o) s'<|.ref a) : SR K AV AR G (upd H a o) (ρ.set i<|some s') σ:=by
 have R:=S.r;have hn:=S.new i s a hs v es;refine⟨⟨λb u q=>by rw[BM<|Du q ga];exact R.sub _ _ q,λj sv e=>?_,λj k xs ys b c P y D Z E e3 B=>?_,by simpa using R.len⟩,S.gg,λb u q=>by rw[BM<|Du q hn];exact S.hh _ _ q,S.ex,λj xs b D y Z=>?_⟩
 .rcases get_set e with⟨rfl,rfl⟩|⟨T,F⟩
  .exact⟨_,es,ok⟩
  .obtain⟨w,y,q⟩:=R.slot j sv F;refine⟨w,y,?_⟩;cases sv with
   |exc nm=>exact q
   |im p=>exact q
   |own xs=>
    obtain⟨b,ws,rfl,Y,Q,C⟩:=q;refine⟨b,ws,rfl,Y,?_,C⟩;rw[BM λz=>R.apart j i _ s b a T F rfl v hs y es z];exact Q
   |Dv t ks xs=>
    obtain⟨b,ws,rfl,Y,Q,C⟩:=q;refine⟨b,ws,rfl,Y,?_,C⟩;rw[BM λz=>R.apart j i _ s b a T F rfl v hs y es z];exact Q
   |Eh AK=>
    obtain⟨b,rfl,Y,Q⟩:=q;refine⟨b,rfl,Y,?_⟩;rw[BM λz=>R.apart j i _ s b a T F rfl v hs y es z];exact Q
 .rcases get_set y with⟨h1,_⟩|⟨h1,f1⟩
  .rcases get_set Z with⟨O,_⟩|⟨O,f2⟩
   .exact absurd (h1.trans O.symm) P
   .subst h1;exact R.apart j k s ys b c P v hs f2 E e3 B
  .rcases get_set Z with⟨O,_⟩|⟨O,f2⟩
   .subst O;exact R.apart j k xs s b c P f1 D v hs e3 B
   .exact R.apart j k xs ys b c P f1 D f2 E e3 B
 .rcases get_set y with⟨h1,_⟩|⟨h1,f1⟩
  .subst h1;rw[es]at Z;cases Z;exact hn
  .exact S.new j xs b D f1 Z
theorem SR.change{K:W.Frag}{ρ:AS}{σ:St}{i:Nat}{ps qs:List PV}{a:Addr}{us:List V}(S:SR K AV AR G H ρ σ)(z:ρ[i]? = some (some<|.own ps))(es:σ[i]? = some (some<|.ref a))(ga:G a=none)(y:AY K G qs us) : SR K AV AR G (upd H a<|.lst us) (ρ.set i<|some<|.own qs) σ:=S.chg rfl z es ga ⟨a,us,rfl,ga,Cs,y⟩
def DY(i:Nat)(k:List PV->List PV->Option (List PV))(ga:AF):SF:=λρ=>match ρ[i]?,ga ρ with
 |some (some<|.own ps),some rs=>(match Ci rs with|some qs=>(match k ps qs with|some DP=>some (.nx<|ρ.set i<|some<|.own DP)|none=>none)|none=>none)
 |_,_=>none
def Qb(K:W.Frag)(k:List PV->List PV->Option (List PV))(r:V->List V->Hp->VK->Prop):Prop:=
 ∀(ps qs z:List PV)(G H:Hp)(a:Addr)(vs us:List V)(Q:VK),k ps qs=some z->H a=some (.lst vs)->AY K G ps vs->AY K G qs us->(∀ws v,AY K G z ws->Q v (upd H a<|.lst ws))->r (.ref a) us H Q
theorem AEZ(p:Qb X.K k r)(q:Lr X.K AV AR (DY i k ga) D σ H):Yp (mG X.K "list" r (Ts i)<|Tu X.K ga) D σ H:=by
 obtain⟨G,ρ,o,S,e,ok⟩:=q;unfold DY at e;split at e
 .rename_i ps rs z ea;split at e
  .rename_i qs Z;split at e
   .rename_i Y Q;cases e;obtain⟨v,y,a,vs,rfl,g,ha,O⟩:=S.r.slot i _ z;refine⟨_,y,.inl ⟨rfl,vs,.inl<|.inl ha⟩,G,ρ,rs,S.r,ea,λus P u s1 rv=>?_⟩;have F:=S.step s1.all;refine p ps qs Y (EC P H u) u a vs us _ Q (s1.hh _ _ ha) (AY.same s1.all.gg O) (K1 s1.sub rv Z) λws w R=>?_;exact ok _ _ _ s1.all.gg<|F.change z y (s1.all.ex a (.l ha) g) R
   .contradiction
  .contradiction
 .contradiction
noncomputable def Ef(ps qs:List PV):Option<|List PV:=match qs with|[p]=>if ps.length<1000 then some (ps ++ [p])else none|_=>none
theorem yZ{K:W.Frag}:Qb K Ef kh:=by
 intro ps qs DP G H a vs us Q e ha z rq q;unfold Ef at e;split at e
 .split at e
  .cases e;obtain⟨v,r,rfl,rv,y⟩:=rq;subst y;have hl:=z.len;exact⟨a,vs,v,rfl,rfl,ha,lW U,q _ _<|AY.of<|ND z.paired<|.cons rv .nil⟩
  .contradiction
 .contradiction
theorem ACZ(i:Nat)(ha:Cy X (e::es) ga)(v:X.N[i]? = some x)(u:DJ X.env.scope x)(hd:(x==("__debug__"))=false) (Z:(x==("__classdict__"))=false) (Y:attributeBase (.Name x p) "append" X.env (eval (.Name x p) X.env)=eval (.Name x p) X.env)  (Q:((backTo z<|starEach (e::es) X.env).all (λx=>!x.1)&&(backToKw z<|keywordEach [] X.env).all (λx=>x.1.isSome)
  && decide ((e::es).length+([]:List Keyword).length+(if([]:List Keyword).isEmpty then 0 else 1)<30))=true)
 (O:(y.endLine==z.line)=true) (hs:starEach (e::es) X.env=(false,eval e X.env)::starEach es X.env) (P:(backTo z<|starEach es X.env).any (·.1)=false)
 (D:swapsWith (.Call (.Attribute (.Name x p) "append" y) (e::es) [] z) none pos.line X.env=pure false) :
 CC X AV AR (.Expr (.Call (.Attribute (.Name x p) "append" y) (e::es) [] z) pos) (DY i Ef ga):=
 PS.imp (TQ (NH AH6 PySem.F.slot_list_append PySem.F.type_list_append ja (Ej v u hd Z) ha Y Q O hs P) D) λ_ _ _ q=>AEZ yZ q
noncomputable def C4(gt:GF)(body:SF):List PV->AS->Option Out
 |[],ρ=>some<|.nx ρ
 |x::xs,ρ=>match gt x ρ with
  |none=>none
  |some A2=>match body A2 with
   |some (.nx BU)=>C4 gt body xs BU
   |some (.ct BU)=>C4 gt body xs BU
   |some (.bk BU)=>some<|.nx BU
   |some (.rt r)=>some<|.rt r
   |none=>none
def Bo(its:IF)(gt:GF)(body:SF):SF:=λρ=>match its ρ with|some xs=>C4 gt body xs ρ|none=>none
theorem ACg{its:IF}(hc:X.calm=true)(hp:PassesOwn (model X.prog X.w) X.A X.env X.xe)(hi:IX X true tg iter its)(hg:Gi X tg gt)(hb:EU X AV AR body g)(hs:∀x,foldedSetIterable iter X.env x=pure x) : CC X AV AR (.For tg iter body [] pos)<|Bo its gt g:=PS.imp (ABG hp hc hi hg hb hs) (by
 rintro D σ H ⟨G,ρ,o,S,e,ok⟩;unfold Bo at e;split at e
 .rename_i xs ex;refine⟨G,ρ,xs,S.r,ex,λJ F H1 s1 J1=>?_⟩;obtain⟨vs,C,hJ⟩:=J1.ex;have Bh:=C.len;refine⟨λi m R H'=>m=xs.length-i/\i<=xs.length/\∃G' ρ',SR X.K AV AR G' H' ρ' R/\Ah F G'/\C4 gt g (xs.drop i) ρ'=some o,⟨xs.length,AGh,AIO _,F,ρ,S.step s1,Ah.refl _,by exact e⟩,?_⟩;rintro i m R H' ⟨rfl,C2,G',ρ',q,p,z⟩;obtain⟨WX,Wz⟩:=hJ H'<|p.trans q.r.sub;by_cases E:i<xs.length
  .right;have I:vs[i]? = some vs[i]:=AG8 AGi;obtain⟨go,yl⟩:=WX i _ I;have W7:=AG8 E;have Wx:Rep X.K G' xs[i] vs[i]:=by obtain⟨u,n,ru⟩:=NF C.paired W7;rw[I]at n;cases n;exact Rep.same p ru
   have Ol:=AIb E;rw[Ol]at z;unfold C4 at z;split at z
   .contradiction
   .rename_i Z e1;refine⟨go,λD1 C8=>∃HY QD,SR X.K AV AR HY C8 QD D1/\Ah F HY/\C4 gt g (xs.drop<|i+1) QD=some o,λD1 C8 hN=>⟨xs.length-(i+1),AGi,rfl,AGl,hN⟩,λy H3 hy=>?_⟩;obtain⟨rfl,rfl⟩:=yl y H3 hy;refine⟨G',ρ',xs[i],Z,q.r,Wx,e1,λGC O k1=>?_⟩;split at z
    .rename_i P v;exact⟨G',Z,_,q.turn O k1,v,λB Y T s2 Q=>⟨Y,P,Q,p.trans s2,z⟩⟩
    .rename_i P v;exact⟨G',Z,_,q.turn O k1,v,λB Y T s2 Q=>⟨Y,P,Q,p.trans s2,z⟩⟩
    .rename_i P v;cases z;exact⟨G',Z,_,q.turn O k1,v,λB Y T s2 Q=>ok B Y T ((s1.gg.trans p).trans s2) Q⟩
    .rename_i r v;cases z;exact⟨G',Z,_,q.turn O k1,v,ok⟩
    .contradiction
  .left;have WZ:i=xs.length:=U
   subst WZ;rw[AKP]at z;cases z;exact⟨by rw[Bh];exact Wz,ok R G' H' (s1.gg.trans p) q⟩
 .contradiction)
end
noncomputable def A7(N:Nat)(ps:List PV):AS:=ps.map (λp=>some<|.im p)++List.replicate (N-ps.length) none
noncomputable def Out.val:Out->Option RV
 |.rt r=>some r
 |.nx _=>some<|.cl .As
 |_=>none
def denote(N n:Nat)(g:SF):List PV->Option RV:=λps=>if ps.length=n then(g<|A7 N ps).bind Out.val else none
theorem YH{i:Nat}(h:(A7 N ps)[i]? = some (some sv)):∃p,ps[i]? = some p/\sv=.im p:=by
 unfold A7 at h;by_cases hi:i<ps.length
 .rw[AHR (by simpa using hi),AHi]at h;cases e:ps[i]? with
  |none=>rw[e]at h;contradiction
  |some p=>rw[e]at h;cases h;exact⟨p,rfl,rfl⟩
 .rw[AHV (by simpa using hi),AIH]at h;split at h<;>nomatch h
theorem AEF{i:Nat}(h:vs[i]? = some v):(start N vs)[i]? = some (some v):=by
 unfold start;have hi:=(AGs.mp h).1;rw[AHR (by simpa using hi),AHi,h]
 rfl
theorem YW{K:W.Frag}(s:Ah G H)(h:AY K G ps vs):SR K G H G H (A7 N.length ps)<|start N vs:=by
 refine⟨⟨s,λi sv e=>?_,λi j qs rs a b _ y o _ _ _ _=>?_,?_⟩,Ah.refl _,Ah.refl _,λ_ _ n=>n,λi qs a o y _=>?_⟩
 .obtain⟨p,q,rfl⟩:=YH e;obtain⟨v,u,rv⟩:=NF h.paired q;exact⟨v,AEF u,rv⟩
 .obtain⟨p,_,z⟩:=YH y;subst z;contradiction
 .delta A7 start
  simp only[AHC,AHC,AGm,AGm,AIY,AIY,h.len]
 .obtain⟨p,_,z⟩:=YH y;subst z;contradiction
theorem uC{K:W.Frag}{mg:Str->Option Value}{base:Heap}{x qual:Str}{st:Stmt}{f:Addr}{fd:FuncData}{N ps:List Str}{k:Nat}{g:SF}(F:E9 K x qual st f fd)(S:IU N ps<|BX st) (y:∀(A3:Value)(A:Around)(outer:List Env)(s:Shared)(H:Hp)(E:XK)(AV AR:Hp),B2 k (A.deeper<|envOfC qual (BX st) s.heap.objs.size f A3)->EU (Gn ER P w K mg base N qual (BX st) f A3 A outer s H E).HJ AV AR (EZ st) g) : Cv P w K mg base ER (k+1) f fd ps<|NT K ps.length<|denote N.length ps.length g:=by
 refine F.ok S (λvs H Q E h=>h.1) λA3 A outer s H vs Q E u h=>?_;obtain⟨hl,G,qs,r,sub,p,e,q⟩:=h;refine⟨_,y A3 A outer s H E G H u,?_⟩;unfold denote at e;split at e
 .cases z:g (A7 N.length qs)with
  |none=>rw[z]at e;contradiction
  |some o=>
   rw[z]at e;refine⟨G,A7 N.length qs,o,YW sub p,z,?_⟩;cases o with
   |rt r'=>
    cases e;exact λv G' H' s rv=>q v G' H' s rv
   |nx ρ=>
    cases e;exact λAZ G' H' s Z=>q .As G' H' Z.NU<|by rfl
   |bk ρ=>contradiction
   |ct ρ=>injection e
 .contradiction
set_option tactic.hygienic true
mutual
noncomputable def Ag:PV->PyData
 |.As=>.none
 |.bl b=>.bool b
 |.int i=>.int i
 |.str x=>.str x
 |.tup xs=>.tuple<|E6 xs
 |.lst xs=>.list<|E6 xs
 |.rd xs=>.list<|E6 xs
 |.C0 _ _=>.dict []
noncomputable def E6:List PV->List PyData
 |[]=>[]
 |x::xs=>Ag x::E6 xs
end
section
variable{X:Cx}{AD:List (Addr×Obj)}{σ:St}{H:Hp}{s:Shared}
mutual
theorem Rep.reads(I:Inv X AD σ H s):∀{p:PV}{v:V}{u:Value},(Ag p).canLay0=true->Rep X.K H p v->RelV v u->∃y,Reads s.heap u (Ag p) y
 |.As,v,u,_,h,r=>by unfold Rep at h;subst h;cases r;exact⟨[],.none⟩
 |.bl b,v,u,_,h,r=>by unfold Rep at h;subst h;cases r;exact⟨[],.bool b⟩
 |.int i,v,u,_,h,r=>by unfold Rep at h;subst h;obtain⟨t,rfl⟩:=r;exact⟨[],.int i t⟩
 |.str i,v,u,_,h,r=>by unfold Rep at h;subst h;obtain⟨t,rfl⟩:=r;exact⟨[],.str i t⟩
 |.C0 _ _,v,u,c,h,r=>by unfold Ag PyData.canLay0 at c;cases c
 |.tup xs,v,u,c,h,r=>by unfold Rep at h;unfold Ag PyData.canLay0 at c;obtain⟨a,vs,rfl,q,Z⟩:=h;cases r;obtain⟨its,rv,⟨o,ho,hc,n,hd⟩,_⟩:=I.tuple q;obtain⟨y,Y⟩:=AY.reads I c Z rv;exact⟨y,by unfold Ag;exact .tuple ho hc hd<|by simpa using Y⟩
 |.lst xs,v,u,c,h,r=>by unfold Rep at h;unfold Ag PyData.canLay0 at c;obtain⟨a,vs,rfl,q,Z⟩:=h;cases r;obtain⟨z,its,n,rv,e⟩:=q.ok I.AX;obtain⟨y,Y⟩:=AY.reads I c Z rv;exact⟨a::y,by unfold Ag;exact .list e rfl rfl<|by simpa using Y⟩
 |.rd xs,v,u,c,h,r=>by unfold Rep at h;unfold Ag PyData.canLay0 at c;obtain⟨a,vs,rfl,q,Z⟩:=h;cases r;obtain⟨its,rv,⟨o,n,ho,hc,Rq,hd⟩,_⟩:=I.list q;obtain⟨y,Y⟩:=AY.reads I c Z rv;exact⟨a::y,by unfold Ag;exact .list ho hc hd<|by simpa using Y⟩
theorem AY.reads(I:Inv X AD σ H s):∀{ps:List PV}{vs:List V}{us:List Value},PyData.canLayAll0 (E6 ps)=true->AY X.K H ps vs->Ar vs us->∃z,ReadsAll s.heap us (E6 ps) z
 |[],vs,us,_,h,r=>by unfold AY at h;subst h;cases r;exact⟨[],.nil⟩
 |p::ps,vs,us,c,h,r=>by
  unfold AY at h;unfold E6 PyData.canLayAll0 at c;rw[AGx]at c;obtain⟨v,vr,rfl,y,q⟩:=h;cases r with
  |cons r1 r2=>
   obtain⟨z,u⟩:=Rep.reads I c.1 y r1;obtain⟨bs,Z⟩:=AY.reads I c.2 q r2;exact⟨z++bs,by unfold E6;exact .cons u Z⟩
end
def TU(K:W.Frag)(neg:Bool):R2:=λx y H Q=>∃p q,Rep K H p x/\Rep K H q y/\SeqAt.shaped (Ag p)=true/\SeqAt.shaped (Ag q)=true/\Q (.bl (if neg=true then !PyData.eqv (Ag p) (Ag q)else PyData.eqv (Ag p) (Ag q))) H
theorem zb(z:X.A.units+64<cLine):Be X (compareOp .Eq)<|TU X.K false:=by rintro AD s σ H x y v u Q I Z Y ⟨p,q,hp,O,sp,sq,k⟩;obtain⟨as,P⟩:=Rep.reads I (SeqAt.canLay_of_shaped sp) hp Z;obtain⟨bs,D⟩:=Rep.reads I (SeqAt.canLay_of_shaped sq) O Y;exact SeqAt.compareEq_shaped P D sp sq z ⟨.bl _,H,I,rfl,k⟩
theorem zo(z:X.A.units+64<cLine):Be X (compareOp .NotEq)<|TU X.K true:=by rintro AD s σ H x y v u Q I Z Y ⟨p,q,hp,O,sp,sq,k⟩;obtain⟨as,P⟩:=Rep.reads I (SeqAt.canLay_of_shaped sp) hp Z;obtain⟨bs,D⟩:=Rep.reads I (SeqAt.canLay_of_shaped sq) O Y;exact SeqAt.compareNe_shaped P D sp sq z ⟨.bl _,H,I,rfl,k⟩
end
def Bg(x y:RV):Option RV:=if SeqAt.shaped (Ag x.any)=true/\SeqAt.shaped (Ag y.any)=true then some (.cl<|.bl<|PyData.eqv (Ag x.any)<|Ag y.any)else none
def CN(x y:RV):Option RV:=if SeqAt.shaped (Ag x.any)=true/\SeqAt.shaped (Ag y.any)=true then some (.cl<|.bl (!PyData.eqv (Ag x.any) (Ag y.any)))else none
section
variable{X:Cx}
theorem zV{K:W.Frag}:Dj K Bg<|TU K false:=by
 intro x y z H0 G H vx vy Q sub sh e v u q;unfold Bg at e;split at e
 .rename_i h;cases e;exact⟨x.any,y.any,v.any sub,u.any sub,h.1,h.2,q _ G H (Ap.refl sub)<|by rfl⟩
 .contradiction
theorem zX{K:W.Frag}:Dj K CN<|TU K true:=by
 intro x y z H0 G H vx vy Q sub sh e v u q;unfold CN at e;split at e
 .rename_i h;cases e;exact⟨x.any,y.any,v.any sub,u.any sub,h.1,h.2,q _ G H (Ap.refl sub)<|by rfl⟩
 .contradiction
theorem qR(z:X.A.units+64<cLine):Cg X .Eq Bg:=⟨_,zb z,zV⟩
theorem qZ(z:X.A.units+64<cLine):Cg X .NotEq CN:=⟨_,zo z,zX⟩
def BZ(neg:Bool)(x y:RV):Option RV:=match x,y.seq with
 |.cl (.int i),some ps=>(DA ps).map λns=>.cl (.bl (if neg=true then !ns.any (· == i)else ns.any (· == i)))
 |_,_=>none
theorem jy{K:W.Frag}:Dj K (BZ neg)<|YC K neg:=by
 intro x y z H0 G H vx vy Q sub sh e u p q;unfold BZ at e;split at e
 .rename_i i ps es;cases v:DA ps with
  |none=>rw[v]at e;contradiction
  |some ns=>
   rw[v]at e;cases e;obtain⟨a,vs,rfl,Z,Y⟩:=p.seq sub es;have O:=Hu v Y;subst O;have P:SG (.int i) (ns.map V.int)=ns.any (· == i):=by
    unfold SG;rw[AId]
    rfl
   refine⟨a,ns.map V.int,rfl,Z,by rw[u.int];rfl,by rw[AKQ];exact AH9.mpr λ_ _=>rfl,?_⟩;rw[u.int,P];exact q _ G H (Ap.refl sub) (by cases neg<;>rfl)
 .contradiction
theorem qU:Cg X .In<|BZ false:=⟨_,zg,jy⟩
theorem qa:Cg X .NotIn<|BZ true:=⟨_,zq,jy⟩
theorem ABs(h:∃t,X.mg x=some (.int i t))(z:Gl X x)(hd:(x==("__debug__"))=false):PX X (.Name x pos)<|fC<|.int i:=by obtain⟨t,h⟩:=h;exact NM (X2 z h (v:=.int i) ⟨t,rfl⟩ hd) λ_=>by rfl
theorem ABt(h:∃a,X.mg x=some (.ref a)/\∀G,Rep X.K G p<|.ref a)(z:Gl X x)(hd:(x==("__debug__"))=false):PX X (.Name x pos)<|fC p:=by obtain⟨a,h,y⟩:=h;exact NM (X2 z h (v:=.ref a) rfl hd) y
def BD(P:Program)(w:World)(K:W.Frag)(mg:Str->Option Value)(base:Heap)(x:Str)(k n:Nat)(F:List PV->Option RV):Prop:=
 ∃f fd ps,Cv P w K mg base ER k f fd ps (NT K n F)/\mg x=some (.ref f)/\W.keepIn K (.ref f)=true/\Binds K fd ps []/\ps.length=n
theorem Fn.of(h:BD X.prog X.w X.K X.mg X.base x j n F)(z:B2 k X.A)(y:j<=k:=by decide):Fn X x n F:=by obtain⟨f,fd,ps,h1,q,h3,v,u⟩:=h;exact⟨k,f,fd,ps,h1.mono y,z,q,h3,v,u⟩
noncomputable def OA(outer:List<|Str×NameKind)(N:List Str)(scope:Scope)(Nb:List Str)(own:Nat)(cap:List Nat):Bool:=
 (scope.kind == .function)&&scope.names.all (λy=>y.2 != .cell||scope.names.lookup y.1==some .cell)&&scope.names.all (λx=>x.2 != .local||scope.names.lookup x.1==some .local) &&
 scope.names.all (λy=>y.2 != .free||(outer.lookup y.1==some .cell||outer.lookup y.1==some .free))&&(Nb.length==own+cap.length) &&
 (List.range cap.length).all (λk=>match cap[k]? with|some j=>(match Nb[own+k]?,N[j]? with|some x,some y=>x==y&&scope.names.lookup x==some .free|_,_=>false)|none=>false)
theorem Zv(h:OA X.env.scope.names X.N scope Nb own cap=true):GD X scope Nb own cap:=by
 unfold OA at h;simp only[AGx,AH9,AIA,bne_iff_ne,AHs,AGq]at h;obtain⟨⟨⟨⟨⟨h1,p⟩,h3⟩,Z⟩,Y⟩,Q⟩:=h;refine⟨h1,λx q v=>?_,λx q v=>?_,λy O P=>?_,Y,λk j u=>?_⟩
 .rcases p x q with z|z
  .exact absurd v z
  .exact z
 .rcases h3 x q with z|z
  .exact absurd v z
  .exact z
 .rcases Z y O with z|z
  .exact absurd P z
  .exact z
 .have D:=(AGs.mp u).1;have:=Q k D;rw[u]at this;dsimp only at this;split at this
  .rename_i x y F R;simp only[AGx,AIA]at this;obtain⟨rfl,z⟩:=this;exact⟨x,F,R,z⟩
  .contradiction
noncomputable def lC(sc z:Scope):List<|Str×NameKind:=sc.names.map λ(n,k)=>if(k == .free&&z.kind == .function&&z.names.lookup n==some .cell)then(n,.cell)else(n,k)
theorem qG{y:List Str}(h:OA (lC q v) y scope Nb own cap=true)(ho:z.env.scope=v):GD (CF z y q C s H fp AD) scope Nb own cap:=by subst ho;exact Zv h
end
end L2.PL
namespace L2.PL
open PySem PySem.Spec PyProof.Rows
section
set_option tactic.hygienic true
variable{X:Cx}{AV AR:Hp}{a b c e:Expr}{es:List Expr}{fa fb f:EF}{ga:AF}{pos:Pos}
noncomputable def Ob(i:Nat)(k:List PV->List PV->Option (List PV)):SF:=λρ=>match ρ[i]? with
 |some (some<|.own ps)=>(match k ps []with|some DP=>some (.nx<|ρ.set i<|some<|.own DP)|none=>none)
 |_=>none
theorem AEY(u:Qb X.K k r)(q:Lr X.K AV AR (Ob i k) D σ H):Yp (mH X.K "list" r<|Ts i) D σ H:=by
 obtain⟨G,ρ,o,S,e,ok⟩:=q;unfold Ob at e;split at e
 .rename_i ps z;split at e
  .rename_i p Z;cases e;obtain⟨v,y,a,vs,rfl,g,ha,Y⟩:=S.r.slot i _ z;refine⟨_,y,.inl ⟨rfl,vs,.inl<|.inl ha⟩,?_⟩;refine u ps [] p G H a vs [] _ Z ha Y (by rfl) λws w Q=>?_;exact ok _ _ _ (Ah.refl _)<|S.change z y g Q
  .contradiction
 .contradiction
section
variable{x:Str}{p ap Ak:Pos}
end
noncomputable def DO:Int->List Int->Int
 |m,[]=>m
 |m,x::r=>DO (if x>m then x else m) r
noncomputable def CG:Int->List Int->Int
 |m,[]=>m
 |m,x::r=>CG (if x<m then x else m) r
set_option tactic.hygienic false
theorem jP:∀(l:List Int)(m:Int),(DO m l=m\/DO m l∈l)/\m<=DO m l/\∀x∈l,x<=DO m l
 |[],m=>⟨.inl rfl,AHY _,λx z=>by cases z⟩
 |y::r,m=>by
  obtain⟨h1,q,h3⟩:=jP r (if y>m then y else m);show(DO (if y>m then y else m) r=m\/DO (if y>m then y else m) r∈y::r)/\m<=DO (if y>m then y else m) r/\∀x∈y::r,x<=DO (if y>m then y else m) r;refine⟨?_,?_,λx z=>?_⟩
  .rcases h1 with e|e
   .by_cases v:y>m
    .rw[AGo v]at e ⊢;right;rw[e];exact AGw
    .rw[AGp v]at e ⊢;left;exact e
   .right;exact AGr _ e
  .exact AIK (by split<;>lia) q
  .rcases AGz.mp z with rfl|z
   .exact AIK (by split<;>lia) q
   .exact h3 x z
theorem jV:∀(l:List Int)(m:Int),(CG m l=m\/CG m l∈l)/\CG m l<=m/\∀x∈l,CG m l<=x
 |[],m=>⟨.inl rfl,AHY _,λx z=>by cases z⟩
 |y::r,m=>by
  obtain⟨h1,q,h3⟩:=jV r (if y<m then y else m);show(CG (if y<m then y else m) r=m\/CG (if y<m then y else m) r∈y::r)/\CG (if y<m then y else m) r<=m/\∀x∈y::r,CG (if y<m then y else m) r<=x;refine⟨?_,?_,λx z=>?_⟩
  .rcases h1 with e|e
   .by_cases v:y<m
    .rw[AGo v]at e ⊢;right;rw[e];exact AGw
    .rw[AGp v]at e ⊢;left;exact e
   .right;exact AGr _ e
  .exact AIK q (by split<;>lia)
  .rcases AGz.mp z with rfl|z
   .exact AIK q (by split<;>lia)
   .exact h3 x z
end
theorem VA:bootBuiltins "isinstance" = some (.builtin "isinstance"):=AGk
theorem pH:bootBuiltins "abs" = some (.builtin "abs"):=AGk
theorem Zo:bootBuiltins "max" = some (.builtin "max"):=AGk
theorem Zp:bootBuiltins "min" = some (.builtin "min"):=AGk
theorem Zq:bootBuiltins "sum" = some (.builtin "sum"):=AGk
theorem pI:bootBuiltins "all" = some (.builtin "all"):=AGk
theorem pL:bootBuiltins "any" = some (.builtin "any"):=AGk
theorem pO:bootBuiltins "sorted" = some (.builtin "sorted"):=AGk
theorem pM:bootBuiltins "bool" = some (.type "bool"):=AGk
theorem Zm:bootBuiltins "int" = some (.type "int"):=AGk
theorem Zn:bootBuiltins "list" = some (.type "list"):=AGk
theorem pN:bootBuiltins "set" = some (.type "set"):=AGk
theorem pP:bootBuiltins "tuple" = some (.type "tuple"):=AGk
section
variable{X:Cx}{AV AR:Hp}{a b c e:Expr}{es:List Expr}{fa fb f:EF}{ga:AF}{pos:Pos}
theorem yP(h1:M∈m::l)(z:∀a∈m::l,a<=M):M=DO m l:=by
 obtain⟨s1,s2,y⟩:=jP l m;have h3:DO m l∈m::l:=by
  rcases s1 with e|e
  .rw[e];exact AGw
  .exact AGr _ e
 have h4:=z _ h3;have h5:M<=DO m l:=by
  rcases AGz.mp h1 with e|e
  .rw[e];exact s2
  .exact y _ e
 lia
theorem yf(h1:M∈m::l)(z:∀a∈m::l,M<=a):M=CG m l:=by
 obtain⟨s1,s2,y⟩:=jV l m;have h3:CG m l∈m::l:=by
  rcases s1 with e|e
  .rw[e];exact AGw
  .exact AGr _ e
 have h4:=z _ h3;have h5:CG m l<=M:=by
  rcases AGz.mp h1 with e|e
  .rw[e];exact s2
  .exact y _ e
 lia
theorem p8(hc:X.calm=true):Cu X (.builtin "max") (λxs H Q=>∃(p:Addr)(m:Int)(ns:List Int),xs=[.ref p]/\Rd H p (.lst<|(m::ns).map V.int)/\Q (.int<|DO m ns) H):=by
 intro AD s σ H xs us Q I r h;obtain⟨p,m,ns,rfl,O,q⟩:=h;obtain⟨u,rfl,P⟩:=vals1 r;cases P;obtain⟨z,its,n,rv,e⟩:=O.ok I.AX;have hi:=intsAre_of rv;obtain⟨xs,Z⟩:=hi.allInts.items;have y:(m::ns)=xs.toList.map (·.1):=by rw[<-hi.numsOf,<-nums_intItems,<-Z]
 have hsz:0<xs.size:=by have h3:=AHa List.length y;simp at h3;lia
 have Y:s.heap.IsList p its.toArray:=⟨_,e,rfl,n,rfl⟩;rw[Z]at Y;refine max_intList (I.ok.hd hc) Y hsz λv h' tk D F=>?_;obtain⟨t,rfl⟩:=intItems_at D;obtain⟨h1,R⟩:=argBest_gt (numAt xs)<|xs.size-1;have B:numAt xs (argBest (λi j=>decide (numAt xs i>numAt xs j))<|xs.size-1)=DO m ns:=by
  refine yP ?_ λa ha=>?_
  .rw[y,numAt_eq];exact getD_mem (by simp only[AGm,AHm];omega)
  .rw[y]at ha;obtain⟨j,G,rfl⟩:=mem_getD ha;rw[AGm,AHm]at G;rw[<-numAt_eq];exact R j U
 rw[B];exact⟨.int _,H,I.kept F,⟨_,rfl⟩,q⟩
theorem qA(hc:X.calm=true):Cu X (.builtin "min") (λxs H Q=>∃(p:Addr)(m:Int)(ns:List Int),xs=[.ref p]/\Rd H p (.lst<|(m::ns).map V.int)/\Q (.int<|CG m ns) H):=by
 intro AD s σ H xs us Q I r h;obtain⟨p,m,ns,rfl,O,q⟩:=h;obtain⟨u,rfl,P⟩:=vals1 r;cases P;obtain⟨z,its,n,rv,e⟩:=O.ok I.AX;have hi:=intsAre_of rv;obtain⟨xs,Z⟩:=hi.allInts.items;have y:(m::ns)=xs.toList.map (·.1):=by rw[<-hi.numsOf,<-nums_intItems,<-Z]
 have hsz:0<xs.size:=by have h3:=AHa List.length y;simp at h3;lia
 have Y:s.heap.IsList p its.toArray:=⟨_,e,rfl,n,rfl⟩;rw[Z]at Y;refine min_intList (I.ok.hd hc) Y hsz λv h' tk D F=>?_;obtain⟨t,rfl⟩:=intItems_at D;obtain⟨h1,R⟩:=argBest_lt (numAt xs)<|xs.size-1;have B:numAt xs (argBest (λi j=>decide (numAt xs i<numAt xs j))<|xs.size-1)=CG m ns:=by
  refine yf ?_ λa ha=>?_
  .rw[y,numAt_eq];exact getD_mem (by simp only[AGm,AHm];omega)
  .rw[y]at ha;obtain⟨j,G,rfl⟩:=mem_getD ha;rw[AGm,AHm]at G;rw[<-numAt_eq];exact R j U
 rw[B];exact⟨.int _,H,I.kept F,⟨_,rfl⟩,q⟩
set_option tactic.hygienic true
def Mn:List RV->Option RV
 |[r]=>match r.list.bind DA with|some (m::ns)=>some (.cl<|.int<|DO m ns)|_=>none
 |_=>none
def JM:List RV->Option RV
 |[r]=>match r.list.bind DA with|some (m::ns)=>some (.cl<|.int<|CG m ns)|_=>none
 |_=>none
theorem AAA:ET X.K Mn (λxs H Q=>∃(p:Addr)(m:Int)(ns:List Int),xs=[.ref p]/\Rd H p (.lst<|(m::ns).map V.int)/\Q (.int<|DO m ns) H):=by
 intro rs z H0 G H vs Q sub sh e rv q;unfold Mn at e;split at e
 .rename_i r;split at e
  .rename_i m ns y;cases e;cases es:r.list with
   |none=>rw[es]at y;contradiction
   |some ps=>
    rw[es]at y;obtain⟨v,rfl,Z⟩:=rv.one;obtain⟨a,us,rfl,u,Y⟩:=Z.list sub es;rw[Hu y Y]at u;exact⟨a,m,ns,rfl,u,q _ G H (Ap.refl sub)<|by rfl⟩
  .contradiction
 .contradiction
theorem AAC:ET X.K JM (λxs H Q=>∃(p:Addr)(m:Int)(ns:List Int),xs=[.ref p]/\Rd H p (.lst<|(m::ns).map V.int)/\Q (.int<|CG m ns) H):=by
 intro rs z H0 G H vs Q sub sh e rv q;unfold JM at e;split at e
 .rename_i r;split at e
  .rename_i m ns y;cases e;cases es:r.list with
   |none=>rw[es]at y;contradiction
   |some ps=>
    rw[es]at y;obtain⟨v,rfl,Z⟩:=rv.one;obtain⟨a,us,rfl,u,Y⟩:=Z.list sub es;rw[Hu y Y]at u;exact⟨a,m,ns,rfl,u,q _ G H (Ap.refl sub)<|by rfl⟩
  .contradiction
 .contradiction
def Me(T:String):PV->Option Bool
 |.bl _=>if T = "bool" then some true else if T = "int" then some true else none
 |.int _=>if T = "int" then some true else if T = "bool" then some false else none
 |.str _=>if T = "str" then some true else none
 |.lst _=>if T = "list" then some true else none
 |_=>none
def FF(T:String)(f:EF):EF:=λρ=>match f ρ with|some r=>(Me T r.any).map λb=>.cl (.bl b)|none=>none
set_option tactic.hygienic false
theorem tyK{K:W.Frag}(h:Rep K H p v)(e:Me T p=some k) (h1:T = "bool"->W.kitOne K (.type "bool") (.type T)=some true/\W.kitOne K (.type "int") (.type T)=some false) (y:T = "int"->W.kitOne K (.type "int") (.type T)=some true/\W.kitOne K (.type "bool") (.type T)=some true) (h3:T = "str"->W.kitOne K (.type "str") (.type T)=some true) (q:T = "list"->W.kitOne K (.type "list") (.type T)=some true):∃t,Fd K H v t/\W.kitOne K t (.type T)=some k:=by
 unfold Me at e;split at e
 .subst h;split at e
  .cases e;exact⟨_,.bl _,(h1 ‹_›).1⟩
  .split at e
   .cases e;exact⟨_,.bl _,(y ‹_›).2⟩
   .contradiction
 .subst h;split at e
  .cases e;exact⟨_,.int _,(y ‹_›).1⟩
  .split at e
   .cases e;exact⟨_,.int _,(h1 ‹_›).2⟩
   .contradiction
 .subst h;split at e
  .cases e;exact⟨_,.str _,h3 ‹_›⟩
  .contradiction
 .obtain⟨a,vs,rfl,z,_⟩:=h;split at e
  .cases e;rcases z with z|⟨o,z⟩
   .exact⟨_,.lst z,q ‹_›⟩
   .exact⟨_,.Ec z,q ‹_›⟩
  .contradiction
 .contradiction
theorem pe(h1:T = "bool"->W.kitOne X.K (.type "bool") (.type T)=some true/\W.kitOne X.K (.type "int") (.type T)=some false)(z:T = "int"->W.kitOne X.K (.type "int") (.type T)=some true/\W.kitOne X.K (.type "bool") (.type T)=some true) (h3:T = "str"->W.kitOne X.K (.type "str") (.type T)=some true) (y:T = "list"->W.kitOne X.K (.type "list") (.type T)=some true) : Cu X (.builtin "isinstance") (λxs H Q=>∃x p k,xs=[x,.ty T]/\Rep X.K H p x/\Me T p=some k/\Q (.bl k) H):=by rintro AD s σ H xs us Q I r ⟨x,p,k,v,hp,Z,q⟩;subst v;obtain⟨u,Y,rfl,O,P⟩:=vals2 r;obtain rfl:Y=Value.type T:=P;obtain⟨t,ty,D⟩:=tyK hp Z h1 z h3 y;exact xE I O ty D λtk=>⟨.bl k,H,I.tok _,rfl,q⟩
set_option tactic.hygienic true
theorem X9{p z:Pos}(h1:T = "bool"->W.kitOne X.K (.type "bool") (.type T)=some true/\W.kitOne X.K (.type "int") (.type T)=some false)(Y:T = "int"->W.kitOne X.K (.type "int") (.type T)=some true/\W.kitOne X.K (.type "bool") (.type T)=some true) (h3:T = "str"->W.kitOne X.K (.type "str") (.type T)=some true) (O:T = "list"->W.kitOne X.K (.type "list") (.type T)=some true) (hm:X.mg "isinstance" = none) (P:X.mg x=none) (D:bootBuiltins x=some (.type T)) (ha:PX X a fa) (F:Gl X "isinstance":=by rfl) (B:Gl X x:=by rfl) (S:x≠"__name__":=by decide) (y:(x==("__debug__"))=false:=by decide) (he:starEach [a,.Name x z] X.env=(false,eval a X.env)::starEach [.Name x z] X.env:=by rfl) (C:starEach [.Name x z] X.env=(false,eval (.Name x z) X.env)::starEach [] X.env:=by rfl) (E:(backTo pos<|starEach [.Name x z] X.env).any (·.1)=false:=by rfl) : PX X (.Call (.Name "isinstance" p) [a,.Name x z] [] pos)<|FF T fa:=by
 refine PE.imp (NI (pe h1 Y h3 O) F hm VA (Ei ha (Ei (X1 (v:=.ty T) B P D rfl S y) F4 C) he) AGj AGj he E) ?_;rintro σ H Q ⟨G,ρ,r,R,e,q⟩;unfold FF at e;split at e
 .rename_i u I;cases Z:Me T u.any with
  |none=>rw[Z]at e;contradiction
  |some k=>
   rw[Z]at e;cases e;refine⟨G,ρ,u,R,I,λv G' H' s rv=>?_⟩;exact⟨v,u.any,k,rfl,rv.any s.sub,Z,q _ G' H' s<|by rfl⟩
 .contradiction
theorem ABy(hm:X.mg "isinstance" = none)(q:X.mg "bool" = none)(ha:PX X a fa)(v:Gl X "isinstance")(u:Gl X "bool") (he:starEach [a,.Name "bool" y] X.env=(false,eval a X.env)::starEach [.Name "bool" y] X.env) (Z:starEach [.Name "bool" y] X.env=(false,eval (.Name "bool" y) X.env)::starEach [] X.env) (Y:(backTo pos<|starEach [.Name "bool" y] X.env).any (·.1)=false) : PX X (.Call (.Name "isinstance" p) [a,.Name "bool" y] [] pos)<|FF "bool" fa:=
 X9 (λ_=>⟨rfl,rfl⟩) (λz=>absurd z AGj) (λz=>absurd z AGj) (λz=>absurd z AGj) hm q pM ha v u AGj AGj he Z Y
theorem ABz(hm:X.mg "isinstance" = none)(q:X.mg "int" = none)(ha:PX X a fa)(v:Gl X "isinstance")(u:Gl X "int") (he:starEach [a,.Name "int" y] X.env=(false,eval a X.env)::starEach [.Name "int" y] X.env) (Z:starEach [.Name "int" y] X.env=(false,eval (.Name "int" y) X.env)::starEach [] X.env) (Y:(backTo pos<|starEach [.Name "int" y] X.env).any (·.1)=false) : PX X (.Call (.Name "isinstance" p) [a,.Name "int" y] [] pos)<|FF "int" fa:=
 X9 (λz=>absurd z AGj) (λ_=>⟨rfl,rfl⟩) (λz=>absurd z AGj) (λz=>absurd z AGj) hm q Zm ha v u AGj AGj he Z Y
end
section
variable{X:Cx}{AV AR:Hp}{a b c e:Expr}{es:List Expr}{fa fb f:EF}{ga:AF}{pos:Pos}
noncomputable def Ut(a:Addr)(n:Nat):HO:=.ext λh=>∃o es z t,h.get? a=some o/\o.ExactSet/\o.data=.set es z t/\t.fits es.size=true/\es.size=n/\n<=1000
theorem ADw{a:Addr}(x:Internal.ST.IZ P w h a ks)(q:ks.length<=1000):Bw P w H h a<|Ut a ks.length:=by
 obtain⟨o,es,z,t,kk,ho,y,hd,T,hp⟩:=x;refine⟨⟨o,es,z,t,ho,y,hd,T.fits,?_,q⟩,⟨o,ho⟩,?_⟩
 .rw[<-T.len,hp.length_eq]
 .rintro h1 h2 ⟨o,es,z,t,v,u⟩ k;exact⟨o,es,z,t,k o v,u⟩
def TupAt(K:W.Frag)(H:Hp)(v:V)(ks:List Int):Prop:=∃a,v=.ref a/\Ba K H a (ks.map V.int)
theorem iN:∀{ks:List Int}{us:List Value},Ar (ks.map V.int) us->ItemsAre (intKind P w) ks us
 |[],us,r=>by cases r;exact .nil
 |k::ks,us,r=>by
  cases r with
  |cons r1 r2=>
   obtain⟨t,rfl⟩:=r1;exact .cons (by show Value.isInt k (.int k t)=true;simp[Value.isInt])<|iN r2
theorem qB(hc:X.calm=true)(hu:X.A.units+64<cLine):Cu X (.type "set") (λxs H Q=>∃(p:Addr)(vs:List V)(kks:List<|List Int),xs=[.ref p]/\Rd H p (.lst vs)/\Paired (λk v=>TupAt X.K H v k) kks vs/\kks.length<=17/\∀d,H d=none->Q (.ref d) (upd H d<|Ut d (Internal.ST.Em [] kks).length)):=by
 intro AD s σ H xs us Q I r h;obtain⟨p,vs,kks,rfl,O,hp,hz,q⟩:=h;obtain⟨u,rfl,y⟩:=vals1 r;cases y;obtain⟨z,its,n,rv,e⟩:=O.ok I.AX;have P:s.heap.IsList p its.toArray:=⟨_,e,rfl,n,rfl⟩;have JK:=Paired.length hp;have LS:=rv.length;refine Internal.ST.qC (kks:=kks) (I.ok.hd hc) U P (by rw[AG2];lia) (by rw[AG2];lia) (λj v D=>?_) λh' tk F R=>?_
 .have B:=by simpa using D
  obtain⟨x,ex,y⟩:=j4 rv B;obtain⟨k,G,a,rfl,ha⟩:=j4 hp ex;cases y;obtain⟨S,Z,⟨o,ho,T,C,hd⟩,_⟩:=I.tuple ha;exact⟨k,a,G,rfl,o,S.toArray,C,ho,T,hd,by simpa using iN Z⟩
 .have hn:=I.AX.fresh<|AGy _;have Y:=Internal.ST.ml kks [];refine⟨.ref s.heap.objs.size,_,I.laid R (AGy _)<|ADw F ?_,rfl,q _ hn⟩;simp at Y;lia
theorem ph:Cu X (.builtin "len") (λxs H Q=>∃(p:Addr)(n:Nat),xs=[.ref p]/\H p=some (Ut p n)/\Q (.int n) H):=by intro AD s σ H xs us Q I r h;obtain⟨p,n,rfl,y,q⟩:=h;obtain⟨u,rfl,v⟩:=vals1 r;cases v;obtain⟨⟨o,es,ep,t,ho,z,hd,Z,hn,hz⟩,_⟩:=I.AX p _ y;exact call_len_set ho z hd Z (by rw[hn];lia) ⟨.int n,H,I.tok _,⟨s.toks+1,by rw[hn]⟩,q⟩
set_option tactic.hygienic true
def Kk:List PV->Option (List<|List Int)
 |[]=>some []
 |.tup xs::r=>match DA xs,Kk r with|some k,some ks=>some (k::ks)|_,_=>none
 |_=>none
theorem mZ{K:W.Frag}(s:Ah G H):∀{ps:List PV}{vs:List V}{ks:List (List Int)},Kk ps=some ks->AY K G ps vs->Paired (λk v=>TupAt K H v k) ks vs
 |[],vs,ks,e,h=>by cases e;subst h;exact .nil
 |.tup xs::r,vs,ks,e,h=>by
  unfold Kk at e;split at e
  .rename_i k Sb y q;cases e;obtain⟨v,us,rfl,u,t⟩:=h;obtain⟨a,ws,rfl,z,p⟩:=u;rw[Hu y p]at z;exact .cons ⟨a,rfl,Ba.same s z⟩<|mZ s q t
  .contradiction
 |.As::_,_,_,e,_=>by contradiction
 |.bl _::_,_,_,e,_=>by contradiction
 |.int _::_,_,_,e,_=>by contradiction
 |.str _::_,_,_,e,_=>by contradiction
 |.lst _::_,_,_,e,_=>by contradiction
 |.rd _::_,_,_,e,_=>by contradiction
 |.C0 _ _::_,_,_,e,_=>by contradiction
def LH(f:EF):EF:=λρ=>match f ρ with
 |some r=>(match r.list.bind Kk with|some ks=>if ks.length<=17 then some (.cl<|.int (Internal.ST.Em [] ks).length)else none|none=>none)
 |none=>none
theorem AB6(hc:X.calm=true)(hm:X.mg "len" = none)(P:X.mg "set" = none)(D:X.A.units+64<cLine)(ha:PX X a fa)(F:Gl X "len")(B:Gl X "set") (Y:starEach [a] X.env=(false,eval a X.env)::starEach [] X.env) (S:(backTo z<|starEach [] X.env).any (·.1)=false) (he:starEach [.Call (.Name "set" y) [a] [] z] X.env=(false,eval (.Call (.Name "set" y) [a] [] z) X.env)::starEach [] X.env) (T:(backTo pos<|starEach [] X.env).any (·.1)=false) : PX X (.Call (.Name "len" p) [.Call (.Name "set" y) [a] [] z] [] pos)<|LH fa:=by
 refine PE.imp (NI ph F hm AKp (Ei (kJ (qB hc D) B P pN (Ei ha F4 Y) AGj AGj Y S) F4 he) AGj AGj he T) ?_;rintro σ H Q ⟨G,ρ,r,R,e,q⟩;unfold LH at e;split at e
 .rename_i O C;split at e
  .rename_i ks u;split at e
   .rename_i E;cases e;cases Z:O.list with
    |none=>rw[Z]at u;contradiction
    |some ps=>
     rw[Z]at u;refine⟨G,ρ,O,R,C,λv G' H' s rv=>?_⟩;obtain⟨d,vs,rfl,I,n⟩:=rv.list s.sub Z;refine⟨d,vs,ks,rfl,I,mZ s.sub u n,E,λx t=>?_⟩;refine⟨x,_,rfl,Cs,q _ G' _ (s.trans<|Ap.HI s.sub _ t) ?_⟩
     rfl
   .contradiction
  .contradiction
 .contradiction
end
section
set_option tactic.hygienic true
variable{X:Cx}{AV AR:Hp}{a b c e:Expr}{es:List Expr}{fa fb f:EF}{ga:AF}{pos:Pos}
def JE(i j:Nat)(ga:AF):SF:=λρ=>match ga ρ with
 |some rs=>(match Ci rs with|some [p,q]=>some (.nx<|(ρ.set i<|some<|.im p).set j<|some<|.im q)|_=>none)
 |none=>none
theorem ACm(i j:Nat)(hc:X.calm=true)(O:X.N.Nodup)(ha:Cy X [a,b] ga)(hi:X.N[i]? = some x)(P:X.N[j]? = some y)(F:i≠j) (R:X.env.scope.names.lookup x=some .local) (B:X.env.scope.names.lookup y=some .local) (T:swappedStores [.Tuple [.Name x u,.Name y Z] kt pt] (.Tuple [a,b] k2 Lk) X.env=pure (some [x,y])) (hs:swapsWithSole [.Tuple [.Name x u,.Name y Z] kt pt] (.Tuple [a,b] k2 Lk) pos.line X.env=pure false) : CC X AV AR (.Assign [.Tuple [.Name x u,.Name y Z] kt pt] (.Tuple [a,b] k2 Lk) pos)<|JE i j ga:=PS.imp (ABJ hc O hi P F R B ha T hs) (by
 rintro D σ H ⟨G,ρ,o,S,e,k⟩;unfold JE at e;split at e
 .rename_i rs C;split at e
  .rename_i p q E;cases e;refine⟨G,ρ,rs,S.r,C,λvs G' H' s rv=>?_⟩;have z:=K1 s.sub rv E;obtain⟨v,r,rfl,I,z⟩:=z;obtain⟨w,r,rfl,rq,z⟩:=z;subst z;have Y:=S.step s.all;have Q:=Y.turn (Y.r.F6 (i:=i) I) Dk.F6;have n:=Q.turn (Q.r.F6 (i:=j) rq) Dk.F6;exact⟨v,w,rfl,k _ _ _ s.all.gg n⟩
  .contradiction
 .contradiction)
noncomputable def J3(f:EF):SF:=λρ=>match f ρ with|some _=>some (.nx ρ)|none=>none
theorem ACe(he:PX X e f)(y:swapsWith e none pos.line X.env=pure false):CC X AV AR (.Expr e pos)<|J3 f:=PS.imp (TQ he y) (by
 rintro D σ H ⟨G,ρ,o,S,z,k⟩;unfold J3 at z;split at z
 .rename_i r q;cases z;exact⟨G,ρ,r,S.r,q,λv G' H' s rv=>k _ _ _ s.gg<|S.step s⟩
 .contradiction)
end
section
variable{X:Cx}{AV AR:Hp}{a b c d e:Expr}{es:List Expr}{fa fb fc fd f:EF}{ga:AF}{pos:Pos}
def Yn(r p Z:R2)(Y O P D:TE):TE:=λσ H Q=>Y σ H λx F=>O σ F λy R=>r x y R λz q=>∃k,z=.bl k/\
 (if k=true then P σ q λw B=>p y w B λG v=>∃u,G=.bl u/\(if u=true then D σ v λS T=>Z w S T Q else Q (.bl false) v)else Q (.bl false) q)
theorem AAa(ho:Be X (compareOp op) r)(B6:Be X (compareOp q) D)(LV:Be X (compareOp p) F)(ha:PE X a Z)(hb:PE X b Y)(hc:PE X c O)(hd:PE X d P) (hm:lastMarks [op,q,p] [b,c,d]=false:=by with_unfolding_all rfl):PE X (.Compare a [op,q,p] [b,c,d] pos)<|Yn r D F Z Y O P:=by
 intro AD s σ H Q I h;refine Compare_chain (Ae (ha AD s σ H _ I h) ?_) hm;rintro v s1 ⟨x,H1,I1,r1,q1⟩;refine chain_link<|Ae (hb AD s1 σ H1 _ I1 q1) ?_;rintro u s2 ⟨y,H2,I2,R,q2⟩;refine Ae (ho AD s2 σ H2 x y v u _ I2 r1 R q2) ?_;rintro d s3 ⟨z,B,G,r3,k,e,q3⟩;subst e;cases r3;refine wpAny_truthy_bool ?_;cases k with
 |false=>exact ite_ff ⟨.bl false,B,G,rfl,q3⟩
 |true=>
  refine ite_tt<|chain_link<|Ae (hc AD s3 σ B _ G q3) ?_;rintro S s4 ⟨T,H4,I4,C,q4⟩;refine Ae (B6 AD s4 σ H4 y T u S _ I4 R C q4) ?_;rintro d' s5 ⟨z2,E,n,r5,k2,e2,t⟩;subst e2;cases r5;refine wpAny_truthy_bool ?_;cases k2 with
  |false=>exact ite_ff ⟨.bl false,E,n,rfl,t⟩
  |true=>exact ite_tt<|chain_last<|Ae (hd AD s5 σ E _ n t) (by rintro w2 s6 ⟨z3,H6,I6,r6,q6⟩;exact LV AD s6 σ H6 T z3 S w2 Q I6 C r6 q6)
theorem ABR(ho:Be X (compareOp op) r)(B6:Be X (compareOp q) R)(LV:Be X (compareOp p) B)(ha:PE X a O)(hb:PE X b P)(hc:PE X c D)(hd:PE X d F) (hm:lastMarks [op,q,p] [b,c,d]=false:=by with_unfolding_all rfl):PT X (.Compare a [op,q,p] [b,c,d] pos)<|Yr<|Yn r R B O P D F:=by
 intro AD s σ H Q I h;refine isTrue_chain (Ae (ha AD s σ H _ I h) ?_) hm;rintro v s1 ⟨x,H1,I1,r1,q1⟩;refine test_link<|Ae (hb AD s1 σ H1 _ I1 q1) ?_;rintro u s2 ⟨y,H2,I2,G,q2⟩;refine Ae (ho AD s2 σ H2 x y v u _ I2 r1 G q2) ?_;rintro d s3 ⟨z,S,T,r3,k,e,q3⟩;subst e;cases r3;refine wpAny_truthy_bool ?_;cases k with
 |false=>
  obtain⟨k',Z,Y⟩:=q3;cases Z;exact ite_ff ⟨S,T,Y⟩
 |true=>
  refine ite_tt<|test_link<|Ae (hc AD s3 σ S _ T q3) ?_;rintro C s4 ⟨E,H4,I4,n,q4⟩;refine Ae (B6 AD s4 σ H4 y E u C _ I4 G n q4) ?_;rintro d' s5 ⟨z2,t,I5,r5,k2,e2,q5⟩;subst e2;cases r5;refine wpAny_truthy_bool ?_;cases k2 with
  |false=>
   obtain⟨k',Z,Y⟩:=q5;cases Z;exact ite_ff ⟨t,I5,Y⟩
  |true=>
   refine ite_tt<|test_last<|Ae (hd AD s5 σ t _ I5 q5) ?_;rintro w2 s6 ⟨z3,H6,I6,r6,q6⟩;refine Ae (LV AD s6 σ H6 E z3 C w2 _ I6 n r6 q6) ?_;rintro d2 s7 ⟨z4,H7,I7,r7,k3,e3,q7⟩;subst e3;cases r7;exact wpAny_truthy_bool ⟨H7,I7,q7⟩
set_option tactic.hygienic true
noncomputable def Fm(k q v:RV->RV->Option RV)(fa fb fc fd:EF):EF:=λρ=>match fa ρ,fb ρ with
 |some x,some y=>match k x y with
  |some (.cl<|.bl true)=>(match fc ρ with
   |some z=>(match q y z with
    |some (.cl<|.bl true)=>(match fd ρ with|some w=>v z w|none=>none)
    |some (.cl<|.bl false)=>some<|.cl<|.bl false
    |_=>none)
   |none=>none)
  |some (.cl<|.bl false)=>some<|.cl<|.bl false
  |_=>none
 |_,_=>none
theorem mQ{K:W.Frag}(hk:Dj K k r)(BL:Dj K k' r')(Ou:Dj K Hw GX)(h:tX K (Fm k k' Hw fa fb fc fd) σ H Q):Yn r r' GX (tX K fa) (tX K fb) (tX K fc) (tX K fd) σ H Q:=by
 obtain⟨G,ρ,z,R,e,q⟩:=h;unfold Fm at e;split at e
 .rename_i x y ea eb;refine⟨G,ρ,x,R,ea,λvx G1 H1 s1 rx=>⟨G1,ρ,y,R.step s1,eb,λY G2 H2 s2 O=>?_⟩⟩;split at e
  .rename_i B;cases S:fc ρ with
   |none=>rw[S]at e;contradiction
   |some w=>
    rw[S]at e;dsimp only at e;refine hk x y _ H G2 H2 vx Y _ s2.sub (s1.hh.trans s2.hh) B (rx.step s2) (O.back s1.hh) λv T H3 Z rv=>⟨true,rv.bl,?_⟩;have u:=(s1.trans s2).trans Z;refine⟨T,ρ,w,R.step u,S,λC G4 H4 p E=>?_⟩;split at e
    .rename_i I;cases n:fd ρ with
     |none=>rw[n]at e;contradiction
     |some w2=>
      rw[n]at e;refine BL y w _ H G4 H4 Y C _ p.sub (u.trans p).hh I ((O.back s1.hh).step<|Z.trans p) (E.back u.hh) λv5 t H5 P YK=>⟨true,YK.bl,?_⟩;have D:=(u.trans p).trans P;refine⟨t,ρ,w2,R.step D,n,λvw2 G6 H6 F rw2=>?_⟩;exact Ou w w2 z H G6 H6 C vw2 Q F.sub (D.trans F).hh e ((E.back u.hh).step<|P.trans F) (rw2.back D.hh) λv7 G7 H7 s7 rv7=>q v7 G7 H7 ((D.trans F).trans s7) rv7
    .rename_i I;cases e;refine BL y w _ H G4 H4 Y C _ p.sub (u.trans p).hh I ((O.back s1.hh).step<|Z.trans p) (E.back u.hh) λv5 t H5 P YK=>⟨false,YK.bl,?_⟩;exact q _ t H5 ((u.trans p).trans P)<|by rfl
    .contradiction
  .rename_i B;cases e;refine hk x y _ H G2 H2 vx Y _ s2.sub (s1.hh.trans s2.hh) B (rx.step s2) (O.back s1.hh) λv T H3 Z rv=>⟨false,rv.bl,?_⟩;exact q _ T H3 ((s1.trans s2).trans Z)<|by rfl
  .contradiction
 .contradiction
set_option tactic.hygienic false
theorem ABk(h1:Cg X op k)(u:Cg X z q)(h3:Cg X y v)(ha:PX X a fa)(p:PX X b fb)(Z:PX X c fc)(hd:PX X d fd)(hm:lastMarks [op,z,y] [b,c,d]=false) : PX X (.Compare a [op,z,y] [b,c,d] pos)<|Fm k q v fa fb fc fd:=by obtain⟨r,ho,Y⟩:=h1.ex;obtain⟨r',Q,O⟩:=u.ex;obtain⟨GX,P,D⟩:=h3.ex;exact PE.imp (AAa ho Q P ha p Z hd hm) λ_ _ _ h=>mQ Y O D h
theorem AC0(h1:Cg X op k)(u:Cg X z q)(h3:Cg X y v)(ha:PX X a fa)(p:PX X b fb)(Z:PX X c fc)(hd:PX X d fd)(hm:lastMarks [op,z,y] [b,c,d]=false) : DW X (.Compare a [op,z,y] [b,c,d] pos)<|AU<|Fm k q v fa fb fc fd:=by obtain⟨r,ho,Y⟩:=h1.ex;obtain⟨r',Q,O⟩:=u.ex;obtain⟨GX,P,D⟩:=h3.ex;exact PT.imp (ABR ho Q P ha p Z hd hm) λ_ _ _ h=>mQ Y O D<|Tw h
noncomputable def Et(h:Heap)(dx:PyData)(u:Value):Bool:=@decide (∃(dd:PyData)(z:List Addr),Reads h u dd z/\dd.canLay0=true/\PyData.eqv dd dx=true)<|Classical.propDecidable _
theorem eC(r:Reads h u dd z)(hc:dd.canLay0=true):Et h dx u=PyData.eqv dd dx:=by
 cases he:PyData.eqv dd dx with
 |true=>exact @decide_eq_true _ (Classical.propDecidable _) ⟨dd,z,r,hc,he⟩
 |false=>
  refine @decide_eq_false _ (Classical.propDecidable _) ?_;rintro⟨y,q,v,_,p⟩;have:=SeqAt.Reads.unique dd y u z q hc r v;subst this;rw[he]at p;contradiction
def inD(ps:List PV)(x:PV):Bool:=ps.any λp=>PyData.eqv (Ag p)<|Ag x
def YD(K:W.Frag)(neg:Bool):R2:=λx y H Q=>∃(z:PV)(ps:List PV)(vs:List V)(p:Addr),y=.ref p/\(CO K H p vs\/Ba K H p vs)/\AY K H ps vs/\Rep K H z x/\SeqAt.shaped (Ag z)=true/\(∀p∈ps,SeqAt.shaped (Ag p)=true)/\Q (.bl (if neg=true then !inD ps z else inD ps z)) H
theorem N4{σ:St}(I:Inv X AD σ H s):∀{ps:List PV}{vs:List V}{us:List Value},AY X.K H ps vs->Ar vs us->(∀p∈ps,SeqAt.shaped (Ag p)=true)->us.any (Et s.heap dx)=ps.any λp=>PyData.eqv (Ag p) dx
 |[],vs,us,h,r,_=>by subst h;cases r;rfl
 |p::ps,vs,us,h,r,hs=>by
  obtain⟨v,vr,rfl,z,y⟩:=h;cases r with
  |cons r1 r2=>
   obtain⟨as,u⟩:=Rep.reads I (SeqAt.canLay_of_shaped<|hs p AGw) z r1;simp only[AHj,AHj,eC u<|SeqAt.canLay_of_shaped<|hs p AGw,N4 I y r2 λq Z=>hs q<|AGr _ Z]
theorem Pk{σ:St}(I:Inv X AD σ H s)(Z:X.A.units+66<cLine)(O:Rep X.K H z Y)(P:RelV Y Q)(y:SeqAt.shaped (Ag z)=true):∀{ps:List PV}{vs:List V}{us:List Value},AY X.K H ps vs->Ar vs us->(∀p∈ps,SeqAt.shaped (Ag p)=true)->∀u∈us,SeqAt.EqAt X.A.in1 s u Q (Et s.heap (Ag z) u)
 |[],vs,us,h,r,_=>by subst h;cases r;intro u Z;contradiction
 |p::ps,vs,us,h,r,hs=>by
  obtain⟨v,vr,rfl,F,R⟩:=h;cases r with
  |cons r1 r2=>
   intro u hm;rcases AGz.mp hm with rfl|hm
   .have sp:=hs p AGw;obtain⟨B,D⟩:=Rep.reads I (SeqAt.canLay_of_shaped sp) F r1;obtain⟨bs,G⟩:=Rep.reads I (SeqAt.canLay_of_shaped y) O P;rw[eC D<|SeqAt.canLay_of_shaped sp];exact SeqAt.eqAt_reads _ _ _ _ _ _ B bs D G (SeqAt.canLay_of_shaped sp) (SeqAt.canLay_of_shaped y) (SeqAt.room_of_shaped sp (by show X.A.units+1+64<cLine;lia))
   .exact Pk I Z O P y R r2 (λq S=>hs q<|AGr _ S) u hm
theorem zf(F:X.A.units+66<cLine):Be X (compareOp .In)<|YD X.K false:=by
 intro AD s σ H x y v u Q I R S h;obtain⟨z,ps,vs,p,rfl,Z,Y,B,G,O,q⟩:=h;cases S;rcases Z with Z|Z
 .obtain⟨its,r,P,T⟩:=I.list Z;refine SeqAt.in_listAt (Et s.heap<|Ag z) P.isList (λw D=>Pk I F B R G Y r O w<|by simpa using D) ⟨.bl _,H,I,rfl,?_⟩;rw[show its.toArray.any (Et s.heap<|Ag z)=its.any (Et s.heap<|Ag z)by simp,N4 I Y r O];exact q
 .obtain⟨its,r,P,T⟩:=I.tuple Z;refine SeqAt.in_tupleAt (Et s.heap<|Ag z) P (λw D=>Pk I F B R G Y r O w<|by simpa using D) ⟨.bl _,H,I,rfl,?_⟩;rw[show its.toArray.any (Et s.heap<|Ag z)=its.any (Et s.heap<|Ag z)by simp,N4 I Y r O];exact q
theorem zp(F:X.A.units+66<cLine):Be X (compareOp .NotIn)<|YD X.K true:=by
 intro AD s σ H x y v u Q I R S h;obtain⟨z,ps,vs,p,rfl,Z,Y,B,G,O,q⟩:=h;cases S;rcases Z with Z|Z
 .obtain⟨its,r,P,T⟩:=I.list Z;refine SeqAt.notIn_listAt (Et s.heap<|Ag z) P.isList (λw D=>Pk I F B R G Y r O w<|by simpa using D) ⟨.bl _,H,I,rfl,?_⟩;rw[show its.toArray.any (Et s.heap<|Ag z)=its.any (Et s.heap<|Ag z)by simp,N4 I Y r O];exact q
 .obtain⟨its,r,P,T⟩:=I.tuple Z;refine SeqAt.notIn_tupleAt (Et s.heap<|Ag z) P (λw D=>Pk I F B R G Y r O w<|by simpa using D) ⟨.bl _,H,I,rfl,?_⟩;rw[show its.toArray.any (Et s.heap<|Ag z)=its.any (Et s.heap<|Ag z)by simp,N4 I Y r O];exact q
set_option tactic.hygienic true
def GY(ps:List PV):Bool:=ps.all λp=>SeqAt.shaped<|Ag p
def DM(neg:Bool)(x y:RV):Option RV:=match y.seq with
 |some ps=>if SeqAt.shaped (Ag x.any)=true/\GY ps=true then some (.cl (.bl (if neg=true then !inD ps x.any else inD ps x.any)))else none
 |none=>none
theorem jz{K:W.Frag}:Dj K (DM neg)<|YD K neg:=by
 intro x y z H0 G H vx vy Q sub sh e v u q;unfold DM at e;split at e
 .rename_i ps es;split at e
  .rename_i hs;cases e;obtain⟨a,vs,rfl,Z,Y⟩:=u.seq sub es;refine⟨x.any,ps,vs,a,rfl,Z,AY.same sub Y,v.any sub,hs.1,λp hp=>AH9.mp hs.2 p hp,q _ G H (Ap.refl sub) ?_⟩
   rfl
  .contradiction
 .contradiction
theorem qV(z:X.A.units+66<cLine):Cg X .In<|DM false:=⟨_,zf z,jz⟩
theorem qb(z:X.A.units+66<cLine):Cg X .NotIn<|DM true:=⟨_,zp z,jz⟩
noncomputable def SO:List RV->Option RV
 |[.cl<|.int i]=>some<|.cl<|.int i
 |[.cl<|.bl k]=>some (.cl (.int (if k then 1 else 0)))
 |_=>none
theorem zw:ET X.K SO (λxs H Q=>(∃i,xs=[.int i]/\Q (.int i) H)\/∃k,xs=[.bl k]/\Q (.int (if k then 1 else 0)) H):=by
 intro rs z H0 G H vs Q sub sh e rv q;unfold SO at e;split at e
 .rename_i i;cases e;obtain⟨v,rfl,y⟩:=rv.one;exact .inl ⟨i,by rw[y.int],q _ G H (Ap.refl sub)<|by rfl⟩
 .rename_i k;cases e;obtain⟨v,rfl,y⟩:=rv.one;exact .inr ⟨k,by rw[y.bl],q _ G H (Ap.refl sub)<|by rfl⟩
 .contradiction
end
theorem mh(r:B2 k A):A.units+66<cLine:=by have:=r.un;lia
inductive IW where
 |o (x:Out)|ex (nm:Str)
abbrev YF:=AS->Option IW
def Qd(K:W.Frag)(E:XK)(AV AR G:Hp)(D:Ends):IW->Prop
 |.o x=>Ku K AV AR G D x
 |.ex nm=>∀C H',DU K nm C->Ah AR H'->Ah G H'->E (.ref C) none H'
theorem Qd.mono{K:W.Frag}(s:Ah G z)(h:Qd K E AV AR G D o):Qd K E AV AR z D o:=by
 cases o with
 |o x=>exact Ku.mono s h
 |ex nm=>exact λC H' e a b=>h C H' e a<|s.trans b
def mS(K:W.Frag)(E:XK)(AV AR:Hp)(g:YF):TS:=λD σ H=>∃G ρ o,SR K AV AR G H ρ σ/\g ρ=some o/\Qd K E AV AR G D o
def Kw(X:Cx)(E:XK)(AV AR:Hp)(st:Stmt)(g:YF):Prop:=PS X st<|mS X.K E AV AR g
def L7(X:Cx)(E:XK)(AV AR:Hp)(st:List Stmt)(g:YF):Prop:=Cw X st<|mS X.K E AV AR g
noncomputable def yL(g:SF):YF:=λρ=>(g ρ).map .o
noncomputable def En(g h:YF):YF:=λρ=>match g ρ with|some (.o<|.nx ρ')=>h ρ'|o=>o
noncomputable def Y7(nm:Str):YF:=λ_=>some<|.ex nm
def lY(K:W.Frag)(n:Nat)(F:List PV->Option RV)(z:List PV->Option Str):Sp:=λvs H Q E=>vs.length=n/\∃G ps,Ah G H/\AY K G ps vs/\
 ((∃r,F ps=some r/\∀v G' H',Ap G H G' H'->Bx K H G' H' r v->Q v H')\/(∃nm,z ps=some nm/\∀C H',DU K nm C->Ah H H'->E (.ref C) none H'))
section
variable{X:Cx}{E:XK}{AV AR:Hp}{a b c e tg iter:Expr}{es:List Expr}{fa fb fc f:EF}{ga:AF}{t:BF}{pos:Pos}{st:Stmt}{BJ body Vq:List Stmt}{g h:YF}
theorem kg{g:SF}(h:CC X AV AR st g):Kw X E AV AR st<|yL g:=PS.imp h (by
 rintro D σ H ⟨G,ρ,o,S,e,k⟩;unfold yL at e;cases z:g ρ with
 |none=>rw[z]at e;contradiction
 |some x=>rw[z]at e;cases e;exact⟨G,ρ,x,S,z,k⟩)
theorem ADD(h1:Kw X E AV AR st g):L7 X E AV AR [st] g:=kc h1
theorem ADB(h1:Kw X E AV AR st g)(y:L7 X E AV AR BJ h):L7 X E AV AR (st::BJ)<|En g h:=Cw.imp (kb h1 y) (by
 rintro D σ H ⟨G,ρ,o,S,e,k⟩;unfold En at e;cases z:g ρ with
 |none=>rw[z]at e;contradiction
 |some o1=>
  rw[z]at e;cases o1 with
  |ex nm=>cases e;exact⟨G,ρ,_,S,z,k⟩
  |o x=>
   cases x with
   |nx A2=>exact⟨G,ρ,_,S,z,λAZ G' H' s q=>⟨G',A2,o,q,e,k.mono s⟩⟩
   |rt r=>cases e;exact⟨G,ρ,_,S,z,k⟩
   |bk r=>cases e;exact⟨G,ρ,_,S,z,k⟩
   |ct r=>cases e;exact⟨G,ρ,_,S,z,k⟩)
theorem ADE(O:∃C,DU X.K x C/\OwnCls x C y q X.mg X.base)(p:ExcBaseFacts B q u y)(hc:X.calm=true)(Z:Raises X E)(Y:Gl X x)(hd:(x==("__debug__"))=false) (he:starEach [.Constant (.str m) j mp] X.env=(false,eval (.Constant (.str m) j mp) X.env)::starEach [] X.env) (Q:(backTo z<|starEach [] X.env).any (·.1)=false) : Kw X E AV AR (.Raise (some<|.Call (.Name x v) [.Constant (.str m) j mp] [] z) none pos)<|Y7 x:=by obtain⟨C,P,O⟩:=O;refine PS.imp (ABK O p hc Y (Ei kL F4) Z hd he Q) ?_;rintro D σ H ⟨G,ρ,o,S,e,k⟩;cases e;exact⟨by show 1<=sizeLine;decide,k C H P S.hh S.r.sub⟩
end
def IW.val:IW->Option RV
 |.o x=>x.val
 |.ex _=>none
noncomputable def IW.exc:IW->Option Str
 |.ex nm=>some nm
 |.o _=>none
def Io(N n:Nat)(g:YF):List PV->Option RV:=λps=>if ps.length=n then(g<|A7 N ps).bind IW.val else none
def K4(N n:Nat)(g:YF):List PV->Option Str:=λps=>if ps.length=n then(g<|A7 N ps).bind IW.exc else none
theorem t8{K:W.Frag}{mg:Str->Option Value}{base:Heap}{x qual:Str}{st:Stmt}{f:Addr}{fd:FuncData}{N ps:List Str}{k:Nat}{g:YF}(F:E9 K x qual st f fd)(S:IU N ps<|BX st) (u:∀(A3:Value)(A:Around)(outer:List Env)(s:Shared)(H:Hp)(E:XK)(AV AR:Hp),B2 k (A.deeper<|envOfC qual (BX st) s.heap.objs.size f A3)->L7 (Qw P w K mg base N qual (BX st) f A3 A outer s H E) E AV AR (EZ st) g) : Cv P w K mg base (Km P w) (k+1) f fd ps<|lY K ps.length (Io N.length ps.length g)<|K4 N.length ps.length g:=by
 obtain⟨oc,od,kV,doc,pm,an,A3,ct,HL,rfl,p,Z⟩:=F.ex;refine fX p Z S (λvs H Q E h=>h.1) λA outer s H vs Q E Y h=>?_;obtain⟨hl,G,qs,sub,y,h⟩:=h;refine⟨_,u A3 A outer s H E G H Y,?_⟩;rcases h with⟨r,e,q⟩|⟨nm,e,q⟩
 .unfold Io at e;split at e
  .cases z:g (A7 N.length qs)with
   |none=>rw[z]at e;contradiction
   |some o=>
    rw[z]at e;refine⟨G,A7 N.length qs,o,YW sub y,z,?_⟩;cases o with
    |ex nm=>contradiction
    |o x=>
     cases x with
     |rt r'=>cases e;exact λv G' H' s rv=>q v G' H' s rv
     |nx ρ=>cases e;exact λAZ G' H' s O=>q .As G' H' O.NU<|by rfl
     |bk ρ=>contradiction
     |ct ρ=>contradiction
  .contradiction
 .unfold K4 at e;split at e
  .cases z:g (A7 N.length qs)with
   |none=>rw[z]at e;contradiction
   |some o=>
    rw[z]at e;refine⟨G,A7 N.length qs,o,YW sub y,z,?_⟩;cases o with
    |ex nm'=>cases e;exact λC H' D sm _=>q C H' D sm
    |o x=>contradiction
  .contradiction
def IV(P:Program)(w:World)(K:W.Frag)(mg:Str->Option Value)(base:Heap)(x:Str)(k n:Nat)(F:List PV->Option RV)(z:List PV->Option Str):Prop:=
 ∃f fd ps,Cv P w K mg base (Km P w) k f fd ps (lY K n F z)/\mg x=some (.ref f)/\W.keepIn K (.ref f)=true/\Binds K fd ps []/\ps.length=n
theorem IV.toG{K:W.Frag}(h:IV P w K mg base x k n F u):BD P w K mg base x k n F:=by
 obtain⟨f,fd,ps,h1,p,h3,Z,y⟩:=h;refine⟨f,fd,ps,⟨λvs H Q E z=>by rw[y];exact z.1,λA outer s H args us vs Q E Y O D r z=>?_⟩,p,h3,Z,y⟩;obtain⟨R,G,qs,rr,sub,B,e,q⟩:=z;refine codeAny_mono (h1.run A outer s H args us vs Q E0 Y O D r ⟨R,G,qs,sub,B,.inl ⟨rr,e,q⟩⟩) λres s' v=>?_;cases res with
 |error e=>
  obtain⟨_,_,_,_,_,_,z⟩:=v;exact z.elim
 |ok fl=>cases fl<;>exact v
noncomputable def XH(nm c:Str):Bool:=c==("ValueError" : Str)||c==("WardError" : Str)||nm==c
def JB(L:List Str)(i:Nat)(c:Str):EF:=λρ=>match ρ[i]? with|some (some<|.exc nm)=>if L.contains nm=true then some (.cl<|.bl<|XH nm c)else none|_=>none
def ADP(K:W.Frag)(c:Value):List V->Hp->VK->Prop:=λvs H Q=>∃a D y b,vs=[.ref a,y]/\(∀u,RelV y u->u=c)/\H a=some (.ext<|FA a D)/\Nh K D/\W.kitOne K (.ref D) c=some b/\Q (.bl b) H
section
variable{X:Cx}{AV AR:Hp}{a b e:Expr}{es:List Expr}{fa fb f:EF}{ga:AF}{pos:Pos}
theorem pZ:Cu X (.builtin "isinstance")<|ADP X.K c:=by intro AD s σ H xs us Q I r h;obtain⟨x,D,y,k,rfl,v,ha,Z,p,q⟩:=h;obtain⟨u,Y,rfl,O,P⟩:=vals2 r;cases (show u=Value.ref x from O);rw[v Y P];have F:=(show Bw X.prog X.w H s.heap x (.ext<|FA x D)from I.AX x _ ha).1;exact W.kia_one (xq Z) I.BZ F p (λz=>nomatch z) λtk=>⟨.bl k,H,I.tok _,rfl,q⟩
set_option tactic.hygienic true
def Je(K:W.Frag)(L:List Str)(x:Str)(c:Value):Prop:=∀nm D,L.contains nm=true->DU K nm D->Nh K D/\W.kitOne K (.ref D) c=some (XH nm x)
theorem ke(i:Nat){O p Y:Pos}(T:Je X.K L x u)(P:∀z,RelV y z->z=u)(hc:PE X (.Name x Y)<|tC y)(hm:X.mg "isinstance" = none)(F:X.N[i]? = some n:=by rfl)(B:DJ X.env.scope n:=by first|exact Or.inl rfl|exact Or.inr (Or.inl rfl)|exact Or.inr<|Or.inr rfl) (hd:(n==("__debug__"))=false:=by decide) (S:(n==("__classdict__"))=false:=by decide) (C:Gl X "isinstance":=by rfl) (he:starEach [.Name n O,.Name x Y] X.env=(false,eval (.Name n O) X.env)::starEach [.Name x Y] X.env:=by rfl) (E:starEach [.Name x Y] X.env=(false,eval (.Name x Y) X.env)::starEach [] X.env:=by rfl) (I:(backTo pos<|starEach [.Name x Y] X.env).any (·.1)=false:=by rfl) : PX X (.Call (.Name "isinstance" p) [.Name n O,.Name x Y] [] pos)<|JB L i x:=by
 refine PE.imp (NI (pZ (c:=u)) C hm VA (Ei (Ej F B hd S) (Ei hc F4 E) he) AGj AGj he I) ?_;rintro σ H Q ⟨G,ρ,r,R,e,q⟩;unfold JB at e;split at e
 .rename_i nm hn;split at e
  .rename_i t;cases e;obtain⟨v,h,x,D,rfl,hD,hG⟩:=R.slot i _ hn;obtain⟨Z,hk⟩:=T nm D t hD;exact⟨_,h,x,D,y,_,rfl,P,R.sub _ _ hG,Z,hk,q _ G H (Ap.refl R.sub)<|by rfl⟩
  .contradiction
 .contradiction
theorem AAV{p:Pos}(hm:X.mg x=some (.ref C))(z:Gl X x:=by rfl)(hd:(x==("__debug__"))=false:=by decide):PE X (.Name x p)<|tC<|.ref C:=X2 z hm rfl hd
theorem AAS{p:Pos}(hm:X.mg x=none)(z:bootBuiltins x=some (.type T))(y:Gl X x:=by rfl)(hn:x≠"__name__":=by decide)(hd:(x==("__debug__"))=false:=by decide):PE X (.Name x p)<|tC<|.ty T:=X1 y hm z rfl hn hd
def ADM:V->List V->Hp->VK->Prop:=λx vs H Q=>∃(l:Addr)(bs:List Bool)(b:Bool),x=.ref l/\vs=[.bl b]/\Rd H l (.lst<|bs.map V.bl)/\Q (.int (bs.countP (· == b))) H
set_option tactic.hygienic false
theorem Zk{bs:List Bool}(r:Ar (bs.map V.bl) us):us=bs.map Value.bool:=by
 induction bs generalizing us with
 |nil=>cases r;rfl
 |cons b bs ih=>
  cases r with
  |cons r1 r2=>rw[show _=Value.bool b from r1,ih r2];rfl
theorem yk:Jg X "list.count" ADM:=by
 intro AD s σ H x vs v us Q I Z rv h;obtain⟨l,bs,b,rfl,rfl,Y,q⟩:=h;cases Z;obtain⟨u,rfl,O⟩:=rv.one;obtain rfl:u=Value.bool b:=O;obtain⟨z,its,n,r,e⟩:=Y.ok I.AX;have hi:=Zk r;subst hi;refine call_meets F.slot_list_count ⟨_,e,rfl⟩ F.entry_list_count (F.args_list_count_2 _ _) (SeqAt.list_countAt l _ n none _ (.bool b) (λy=>match y with|.bool k=>k==b|_=>false)) ⟨e,λy p=>?_,?_⟩
 .rw[AJu]at p;obtain⟨k,_,rfl⟩:=AHb.mp p;exact SeqAt.EqAt.bool_bool k b
 .refine⟨.int _,H,I.tok _,⟨_,rfl⟩,?_⟩;have:((bs.map Value.bool).toArray.toList.countP λy=>match y with|.bool k=>k==b|_=>false)=bs.countP (· == b):=by rw[AJz];rfl
  rw[this];exact q
def ADO:V->List V->Hp->VK->Prop:=λx vs H Q=>∃(l:Addr)(bs:List Bool)(b:Bool),x=.ref l/\vs=[.bl b]/\Rd H l (.lst<|bs.map V.bl)/\bs.idxOf b<bs.length/\Q (.int<|bs.idxOf b) H
theorem yS{bs:List Bool}(h:y∈(bs.map Value.bool).toArray):∃k,y=.bool k:=by rw[AJu]at h;obtain⟨k,_,e⟩:=AHb.mp h;exact⟨k,e.symm⟩
theorem yq:Jg X "list.index" ADO:=by
 intro AD s σ H x vs v us Q I Z rv h;obtain⟨l,bs,b,rfl,rfl,Y,O,q⟩:=h;cases Z;obtain⟨u,rfl,P⟩:=rv.one;obtain rfl:u=Value.bool b:=P;obtain⟨z,its,n,r,e⟩:=Y.ok I.AX;have hi:=Zk r;subst hi;have hz:=by simpa using z
 have ua:sizeLine<2 ^ 62:=AGj
 have p:bs.idxOf b<(bs.map Value.bool).toArray.size:=by simpa using O
 have D:((bs.idxOf b):Int)<2 ^ 63-1:=U
 refine call_meets F.slot_list_index ⟨_,e,rfl⟩ F.entry_list_index (F.args_list_index_2 _ _) (SeqAt.list_indexAt l _ n none _ (.bool b) (λy=>match y with|.bool k=>k==b|_=>false) (bs.idxOf b) p D ?_ (λm hm p=>?_)) ⟨e,λy R=>?_,?_⟩
 .simp
 .simpa using AKj p
 .obtain⟨k,rfl⟩:=yS R;exact SeqAt.EqAt.bool_bool k b
 .exact⟨.int _,H,I.tok _,⟨_,rfl⟩,q⟩
end
section
set_option tactic.hygienic true
variable{X:Cx}{E:XK}{AV AR:Hp}{a b e:Expr}{es:List Expr}{fa fb f:EF}{ga:AF}{pos:Pos}
def SK(x y:RV):Option RV:=match x.list,y with
 |some ps,.cl (.bl b)=>(match GI ps with|some bs=>some (.cl (.int (bs.countP (· == b))))|none=>none)
 |_,_=>none
def SN(x y:RV):Option RV:=match x.list,y with
 |some ps,.cl (.bl b)=>(match GI ps with|some bs=>if bs.idxOf b<bs.length then some (.cl<|.int<|bs.idxOf b)else none|none=>none)
 |_,_=>none
theorem ABn(ha:PX X a fa)(Z:PX X b fb)(Y:attributeBase a "count" X.env (eval a X.env)=eval a X.env) (O:((backTo z<|starEach [b] X.env).all (λx=>!x.1)&&(backToKw z<|keywordEach [] X.env).all (λx=>x.1.isSome)&&decide ([b].length+([]:List Keyword).length+(if([]:List Keyword).isEmpty then 0 else 1)<30))=true)
 (P:(p.endLine==z.line)=true) (hs:starEach [b] X.env=(false,eval b X.env)::starEach [] X.env) (D:(backTo z<|starEach [] X.env).any (·.1)=false) :
 PX X (.Call (.Attribute a "count" p) [b] [] z) (f2 SK fa fb):=
 PE.imp (NH AH6 AKU AKV yk ha (Ei Z F4 hs) Y O P hs D) (by
  rintro σ H Q ⟨G,ρ,r,R,e,q⟩;unfold f2 at e;cases ea:fa ρ with
  |none=>rw[ea]at e;contradiction
  |some x=>
   rw[ea]at e;cases v:fb ρ with
   |none=>rw[v]at e;contradiction
   |some y=>
    rw[v]at e;dsimp only at e;unfold SK at e;split at e
    .rename_i ps k F;split at e
     .rename_i bs B;cases e;refine⟨G,ρ,x,R,ea,λvx S H1 s1 T=>?_⟩;obtain⟨l,vs,rfl,u,C⟩:=T.list s1.sub F;refine⟨.inl ⟨rfl,vs,.inl u⟩,S,ρ,_,R.step s1,v,λvy I n s2 t=>?_⟩;rw[N9 B C]at u;exact⟨l,bs,k,rfl,by rw[t.bl],Rd.same s2.hh u,q _ I n (s1.trans s2)<|by rfl⟩
     .contradiction
    .contradiction)
theorem ABv(ha:PX X a fa)(Z:PX X b fb)(Y:attributeBase a "index" X.env (eval a X.env)=eval a X.env) (O:((backTo z<|starEach [b] X.env).all (λx=>!x.1)&&(backToKw z<|keywordEach [] X.env).all (λx=>x.1.isSome)&&decide ([b].length+([]:List Keyword).length+(if([]:List Keyword).isEmpty then 0 else 1)<30))=true)
 (P:(p.endLine==z.line)=true) (hs:starEach [b] X.env=(false,eval b X.env)::starEach [] X.env) (D:(backTo z<|starEach [] X.env).any (·.1)=false) :
 PX X (.Call (.Attribute a "index" p) [b] [] z) (f2 SN fa fb):=
 PE.imp (NH AH6 AKW AKX yq ha (Ei Z F4 hs) Y O P hs D) (by
  rintro σ H Q ⟨G,ρ,r,R,e,q⟩;unfold f2 at e;cases ea:fa ρ with
  |none=>rw[ea]at e;contradiction
  |some x=>
   rw[ea]at e;cases v:fb ρ with
   |none=>rw[v]at e;contradiction
   |some y=>
    rw[v]at e;dsimp only at e;unfold SN at e;split at e
    .rename_i ps k F;split at e
     .rename_i bs B;split at e
      .rename_i S;cases e;refine⟨G,ρ,x,R,ea,λvx T H1 s1 C=>?_⟩;obtain⟨l,vs,rfl,u,I⟩:=C.list s1.sub F;refine⟨.inl ⟨rfl,vs,.inl u⟩,T,ρ,_,R.step s1,v,λvy n t s2 h=>?_⟩;rw[N9 B I]at u;exact⟨l,bs,k,rfl,by rw[h.bl],Rd.same s2.hh u,S,q _ n t (s1.trans s2)<|by rfl⟩
      .contradiction
     .contradiction
    .contradiction)
def Q1(N:Nat)(g:SF):Str->Option RV:=λnm=>(g (some (.exc nm)::List.replicate (N-1) none)).bind Out.val
def YV(K:W.Frag)(y:Str->Option RV):List V->Hp->VK->Prop:=λvs H Q=>∃a C nm z,vs=[.ref a]/\DU K nm C/\H a=some (.ext<|FA a C)/\y nm=some (.cl<|.int z)/\∀H',Ah H H'->Q (.int z) H'
theorem t7{K:W.Frag}{mg:Str->Option Value}{base:Heap}{x qual y:Str}{st:Stmt}{f:Addr}{fd:FuncData}{N:List Str}{k:Nat}{g:SF}(F:E9 K x qual st f fd)(S:IU N [y]<|BX st) (O:∀(A3:Value)(A:Around)(outer:List Env)(s:Shared)(H:Hp)(AV AR:Hp),EW k (A.deeper<|envOfC qual (BX st) s.heap.objs.size f A3)->EU (Qv P w K mg base N qual (BX st) f A3 A outer s H) AV AR (EZ st) g) : Nr P w K mg base (k+1) f fd [y]<|YV K<|Q1 N.length g:=by
 refine t9 F S (λvs H Q h=>by obtain⟨_,_,_,_,rfl,_⟩:=h;rfl) λA3 A outer s H vs Q D h=>?_;obtain⟨a,C,nm,z,rfl,R,B,e,q⟩:=h
 let G:Hp:=λb=>if b=a then some (.ext<|FA a C)else none
 have T:Ah G H:=λb o u=>by
  by_cases Z:b=a
  .subst Z;have:G b=some (.ext<|FA b C):=AGo rfl;rw[this]at u;rw[B];exact u
  .have:G b=none:=AGp Z;rw[this]at u;contradiction
 refine⟨_,O A3 A outer s H G H D,?_⟩;unfold Q1 at e;cases p:g (some (.exc nm)::List.replicate (N.length-1) none)with
 |none=>rw[p]at e;contradiction
 |some o=>
  rw[p]at e;have Y:∀(i:Nat)(s:SV),(some (SV.exc nm)::List.replicate (N.length-1) none)[i]? = some (some s)->s.E2=true->False:=λi s h o=>by
   cases i with
   |zero=>simp at h;subst h;contradiction
   |succ i=>simp[AIH]at h
  refine⟨G,_,o,⟨⟨T,λi sv h=>?_,λi j ps qs _ _ _ h o=>(Y i ps h o).elim,?_⟩,Ah.refl _,Ah.refl _,λ_ _ n=>n,λi ps _ o h=>(Y i ps h o).elim⟩,p,?_⟩
  .cases i with
   |zero=>
    simp at h;subst h;exact⟨.ref a,by rfl,a,C,rfl,R,AGo rfl⟩
   |succ i=>simp[AIH]at h
  .unfold start;simp
  .cases o with
   |rt r=>
    cases e;exact λv G' H' s rv=>by rw[rv.int];exact q H' s.hh
   |nx ρ=>cases e
   |bk ρ=>contradiction
   |ct ρ=>contradiction
def MV(i j:Nat)(y:Str->Option RV):SF:=λρ=>match ρ[j]? with
 |some (some<|.exc nm)=>(match y nm with|some (.cl<|.int z)=>some (.nx<|ρ.set i<|some<|.im<|.int z)|_=>none)
 |_=>none
theorem ACw(i j:Nat){x n y:Str}{p fp q u:Pos}(FM:Nr X.prog X.w X.K X.mg X.base k fw fd ps<|YV X.K Z)(Q:EW k X.A)(hm:X.mg y=some (.ref fw))(O:W.keepIn X.K (.ref fw)=true)(P:Binds X.K fd ps [])(F:X.N.Nodup) (hi:X.N[i]? = some x:=by rfl) (R:X.N[j]? = some n:=by rfl) (B:Loc X.env.scope x:=by first|exact Or.inl rfl|exact Or.inr rfl) (T:DJ X.env.scope n:=by first|exact Or.inl rfl|exact Or.inr (Or.inl rfl)|exact Or.inr<|Or.inr rfl) (I:Gl X y:=by rfl) (hd:(n==("__debug__"))=false:=by decide) (t:(n==("__classdict__"))=false:=by decide) (h:(y==("__debug__"))=false:=by decide) (he:starEach [.Name n q] X.env=(false,eval (.Name n q) X.env)::starEach [] X.env:=by rfl) (A9:(backTo u<|starEach [] X.env).any (·.1)=false:=by rfl) (hs:swapsWith (.Call (.Name y fp) [.Name n q] [] u) (some<|.Name x p) pos.line X.env=pure false:=by rfl) (hf:X.fn x=true\/X.env.scope.names.lookup x=some .local:=by first|exact .inl rfl|exact .inr rfl) : CC X AV AR (.Assign [.Name x p] (.Call (.Name y fp) [.Name n q] [] u) pos)<|MV i j Z:=
 PS.imp (Px F hi B (AAY FM Q I hm O P (Ei (Ej R T hd t) F4 he) h he A9) hs hf) (by
  rintro D σ H ⟨G,ρ,o,S,e,ok⟩;unfold MV at e;split at e
  .rename_i nm hn;split at e
   .rename_i z ez;cases e;obtain⟨v,ev,a,C,rfl,hC,hG⟩:=S.r.slot j _ hn;refine⟨_,ev,a,C,nm,z,rfl,hC,S.r.sub _ _ hG,ez,λH' sm=>?_⟩;have Y:=S.step (show Ap G H G H' from⟨Ah.refl _,sm,S.r.sub.trans sm,λ_ _ n=>n⟩);exact ok _ _ _ (Ah.refl _)<|Y.turn (Y.r.F6<|by rfl) Dk.F6
   .contradiction
  .contradiction)
theorem SR.ADx{K:W.Frag}(S:SR K AV AR G H ρ σ):SR K AV AR G H (ρ.set i none)<|σ.set i none:=by
 have back:∀(j:Nat)(sv:SV),(ρ.set i none)[j]? = some (some sv)->j≠i/\ρ[j]? = some (some sv):=λj sv h=>by
  by_cases z:j=i
  .subst z;rw[List.getElem?_set]at h;simp at h
  .rw[AHH<|AHh z]at h;exact⟨z,h⟩
 have y:∀(j:Nat),j≠i->(σ.set i none)[j]? = σ[j]?:=λj z=>AHH<|AHh z;refine⟨⟨S.r.sub,λj sv h=>?_,λj k ps qs b c Z h1 v q Y h3 p=>?_,by simpa using S.r.len⟩,S.gg,S.hh,S.ex,λj ps b v h1 q=>?_⟩
 .obtain⟨z,h'⟩:=back j sv h;rw[y j z];exact S.r.slot j sv h'
 .obtain⟨z,u⟩:=back j _ h1;obtain⟨Q,O⟩:=back k _ q;rw[y j z]at h3;rw[y k Q]at p;exact S.r.apart j k ps qs b c Z u v O Y h3 p
 .obtain⟨z,u⟩:=back j _ h1;rw[y j z]at q;exact S.new j ps b v u q
end
theorem _root_.Internal.L2.EW.units(r:EW k A):A.units+64<cLine:=by have:=r.un;lia
theorem _root_.Internal.L2.EW.mono(r:EW k A)(h:j<=k):EW j A:=⟨by have:=r.dp;lia,by have:=r.un;lia⟩
theorem ADh{X:Cx}(r:B2 k X.A):EW k (X.Fs ea).A:=⟨r.dp,r.un⟩
def QW(P:Program)(w:World)(K:W.Frag)(mg:Str->Option Value)(base:Heap)(x:Str)(k:Nat)(z:Str->Option RV):Prop:=
 ∃f fd ps,Nr P w K mg base k f fd ps (YV K z)/\mg x=some (.ref f)/\W.keepIn K (.ref f)=true/\Binds K fd ps []
section
variable{X:Cx}{E:XK}{AV AR:Hp}{a b e:Expr}{es:List Expr}{fa fb f:EF}{ga:AF}{pos:Pos}
theorem ACx(i j:Nat)(c:QW X.prog X.w X.K X.mg X.base y l v)(u:EW k X.A)(Z:X.N.Nodup)(Y:l<=k) (hi:X.N[i]? = some x) (Q:X.N[j]? = some n) (O:Loc X.env.scope x) (P:DJ X.env.scope n) (D:Gl X y) (hd:(n==("__debug__"))=false) (F:(n==("__classdict__"))=false) (R:(y==("__debug__"))=false) (he:starEach [.Name n z] X.env=(false,eval (.Name n z) X.env)::starEach [] X.env) (B:(backTo q<|starEach [] X.env).any (·.1)=false) (hs:swapsWith (.Call (.Name y fp) [.Name n z] [] q) (some<|.Name x p) pos.line X.env=pure false) (G:X.fn x=true\/X.env.scope.names.lookup x=some .local) : CC X AV AR (.Assign [.Name x p] (.Call (.Name y fp) [.Name n z] [] q) pos)<|MV i j v:=by obtain⟨f,fd,ps,h1,S,h3,T⟩:=c;exact ACw i j h1 (u.mono Y) S h3 T Z hi Q O P D hd F R he B hs G
end
theorem AAK{K:W.Frag}(q:W.excIn K C z n=true):(W.clsIn K C).isSome=true/\W.typeIn K (.ref C)=some (.type "type"):=by
 unfold W.excIn at q;split at q
 .rename_i ho;refine⟨by unfold W.clsIn;rw[ho];rfl,by unfold W.typeIn;dsimp only;rw[ho];rfl⟩
 .contradiction
theorem xp{K:W.Frag}:W.kitOne K t t=some true:=by unfold W.kitOne;rw[AGo AGh]
theorem kit_cls{K:W.Frag}(q:W.excIn K C z n=true)(h:W.subIn K t (.ref C)=some b):W.kitCls K t (.ref C)=some b:=by obtain⟨h1,y⟩:=AAK q;unfold W.kitCls;dsimp only;rw[AGo (by rw[h1,y];rfl)];exact h
theorem SY{K:W.Frag}(y:(t==Value.ref C)=false)(q:W.excIn K C z n=true)(h:W.subIn K t (.ref C)=some b):W.kitOne K t (.ref C)=some b:=by unfold W.kitOne;rw[AGp (by rw[y];simp)];exact kit_cls q h
theorem xo{K:W.Frag}(hm:W.kitMeta T=true)(h:W.subIn K (.ref D) (.type T)=some b):W.kitOne K (.ref D) (.type T)=some b:=by unfold W.kitOne;unfold W.kitCls;dsimp only;rw[AGo hm];exact h
theorem tO{K:W.Frag}(q:W.excIn K C z n=true)(y:W.subIn K (.ref C) (.type "BaseException")=some true)(h:W.subIn K (.ref D) (.ref C)=some true):W.exmOne K (.ref D) (.ref C)=some true:=by unfold W.exmOne;rw[AGo (by rw[y];rfl)];exact kit_cls q h
theorem VM{n nm:Str}(h:List.contains [n] nm=true):nm=n:=by simpa using h
theorem Mf{K:W.Frag}(hn:DU K n D)(Z:Nh K D)(h:W.kitOne K (.ref D) c=some b)(z:XH n x=b):Je K [n] x c:=λnm D' y q=>by obtain rfl:=VM y;obtain rfl:=DU.inj q hn;exact⟨Z,by rw[z];exact h⟩
noncomputable def DK:List (List Int)->List PV->List Int->Option PV
 |k'::ks,x::xs,k=>if k'=k then some x else DK ks xs k
 |_,_,_=>none
noncomputable def Hg:List (List Int)->List PV->List Int->PV->List PV
 |k'::ks,x::xs,k,v=>(if k'=k then v else x)::Hg ks xs k v
 |_,_,_,_=>[]
noncomputable def Gp(ks:List<|List Int)(k:List Int):List<|List Int:=if k∈ks then ks else ks ++ [k]
def Iv(ks:List<|List Int)(xs:List PV)(k:List Int)(v:PV):List PV:=if k∈ks then Hg ks xs k v else xs ++ [v]
theorem XN(h:Co a=Co b):a=b:=by exact(List.map_inj_right λx y e=>AKf e).mp h
theorem ip(k:List Int):(Co k).map kV=k.map V.int:=by
 unfold Co;rw[AHT]
 rfl
section
variable{K:W.Frag}{G:Hp}
theorem bI:∀{ks:List (List Int)}{xs:List PV}{AK:List (List Key×V)}{k:List Int}{p:PV},AK.map (·.1)=ks.map Co->AY K G xs (AK.map (·.2))->DK ks xs k=some p->∃v,FZ AK (Co k)=some v/\Rep K G p v
 |[],_,_,_,_,_,_,e=>by contradiction
 |_::_,[],_,_,_,_,_,e=>by contradiction
 |k'::ks,x::xs,[],k,p,h,_,_=>by simp at h
 |k'::ks,x::xs,(q,v)::AK,k,p,h,r,e=>by
  simp only[AGv,AKd]at h;obtain⟨u,us,Z,Y,Q⟩:=r;cases Z;unfold DK at e;by_cases y:k'=k
  .rw[AGo y]at e;cases e;exact⟨v,QB (by rw[h.1,y]),Y⟩
  .rw[AGp y]at e;obtain⟨w,h1,O⟩:=bI h.2 Q e;exact⟨w,by rw[NX λz=>y<|XN<|h.1.symm.trans z];exact h1,O⟩
theorem dt(hp:Rep K G p v):∀{ks:List (List Int)}{xs:List PV}{AK:List (List Key×V)},AK.map (·.1)=ks.map Co->AY K G xs (AK.map (·.2))->(AK.map λy=>if y.1=Co k then(y.1,v)else y).map (·.1)=ks.map Co/\AY K G (Hg ks xs k p) ((AK.map λy=>if y.1=Co k then(y.1,v)else y).map (·.2))
 |[],xs,[],_,r=>by exact⟨rfl,by rfl⟩
 |[],_,_::_,h,_=>by simp at h
 |_::_,_,[],h,_=>by simp at h
 |k'::ks,[],_::_,_,r=>by unfold AY at r;simp at r
 |k'::ks,x::xs,(q,u)::AK,h,r=>by
  simp only[AGv,AKd]at h;obtain⟨u',us,Q,O,P⟩:=r;cases Q;obtain⟨h1,Y⟩:=dt (k:=k) hp h.2 P;obtain⟨rfl,_⟩:=h;unfold Hg;by_cases Z:k'=k
  .subst Z;rw[AGv,AGo rfl,AGo rfl,AGv,h1];refine⟨rfl,?_⟩;exact⟨_,_,rfl,hp,Y⟩
  .rw[AGv,AGp Z,AGp λz=>Z<|XN z,AGv,h1];refine⟨rfl,?_⟩;exact⟨_,_,rfl,O,Y⟩
theorem sC{xs:List PV}(h:AK.map (·.1)=ks.map Co)(r:AY K G xs (AK.map (·.2)))(hp:Rep K G p v) : (Dg AK (Co k) v).map (·.1)=(Gp ks k).map Co/\AY K G (Iv ks xs k p) ((Dg AK (Co k) v).map (·.2)):=by
 have e:(AK.any λy=>decide (y.1=Co k))=decide (k∈ks):=by
  have:(AK.any λy=>decide (y.1=Co k))=(AK.map (·.1)).any λq=>decide (q=Co k):=by rw[AId];rfl
  rw[this,h,AId,AHo];simp only[AJv,Function.comp,AG0];exact⟨(by rintro⟨x,u,e⟩;exact XN e ▸ u),λu=>⟨k,u,rfl⟩⟩
 delta Dg Gp Iv
 rw[e];by_cases z:k∈ks
 .rw[AGo (by simpa using z),AGo z,AGo z];exact dt hp h r
 .rw[AGp (by simpa using z),AGp z,AGp z,AHS,AHS,AHS,h];exact⟨rfl,AY.of<|ND r.paired<|.cons hp .nil⟩
end
theorem ro(ks:List<|List Int)(k:List Int):(Gp ks k).length<=ks.length+1:=by
 unfold Gp;split
 .lia
 .rw[AHC];exact AGy _
theorem dr:∀(ks:List<|List Int)(xs:List PV)(k:List Int)(v:PV),ks.length=xs.length->(Hg ks xs k v).length=xs.length
 |[],[],_,_,_=>rfl
 |[],_::_,_,_,h=>by simp at h
 |_::_,[],_,_,h=>by simp at h
 |_::ks,_::xs,k,v,h=>by unfold Hg;simp only[AG6,AG6,dr ks xs k v<|by simpa using h]
theorem r9(h:ks.length=xs.length)(k:List Int)(v:PV):(Gp ks k).length=(Iv ks xs k v).length:=by
 delta Gp Iv
 split
 .rw[dr ks xs k v h,h]
 .simp only[AHC,AHC,h];rfl
theorem bK(k j:List Int)(v:PV):∀(ks:List<|List Int)(xs:List PV),ks.length=xs.length->k∉ks->DK (ks ++ [k]) (xs ++ [v]) j=if j=k then some v else DK ks xs j
 |[],[],_,_=>by
  show(if k=j then some v else DK [] [] j)=_;by_cases e:j=k
  .rw[AGo e,AGo e.symm]
  .rw[AGp e,AGp<|AHh e]
 |[],_::_,h,_=>by simp at h
 |_::_,[],h,_=>by simp at h
 |k'::ks,x::xs,h,n=>by
  simp only[AGz,not_or]at n;show(if k'=j then some x else DK (ks ++ [k]) (xs ++ [v]) j)=if j=k then some v else if k'=j then some x else DK ks xs j
  rw[bK k j v ks xs (by simpa using h) n.2];by_cases e:k'=j
  .subst e;rw[AGo rfl,AGo rfl,AGp λz=>n.1 z.symm]
  .rw[AGp e,AGp e]
theorem bJ(k j:List Int)(v:PV):∀(ks:List<|List Int)(xs:List PV),ks.length=xs.length->k∈ks->DK ks (Hg ks xs k v) j=if j=k then some v else DK ks xs j
 |[],_,_,n=>by cases n
 |_::_,[],h,_=>by simp at h
 |k'::ks,x::xs,h,n=>by
  show(if k'=j then some (if k'=k then v else x)else DK ks (Hg ks xs k v) j)=if j=k then some v else if k'=j then some x else DK ks xs j
  by_cases e:k'=j
  .subst e;rw[AGo rfl,AGo rfl];split<;>rfl
  .rw[AGp e,AGp e];by_cases z:k∈ks
   .exact bJ k j v ks xs (by simpa using h) z
   .have:=by simpa[z]using n
    subst this;rw[AGp<|AHh e];have:∀(ks:List<|List Int)(xs:List PV),ks.length=xs.length->k∉ks->Hg ks xs k v=xs:=by
     intro ks
     induction ks with
     |nil=>intro xs h _;cases xs with
      |nil=>rfl
      |cons _ _=>simp at h
     |cons q qs ih=>intro xs h n;cases xs with
      |nil=>simp at h
      |cons y ys=>
       simp only[AGz,not_or]at n;unfold Hg;rw[AGp<|AHh n.1,ih ys (by simpa using h) n.2]
    rw[this ks xs (by simpa using h) z]
theorem rY(h:ks.length=xs.length)(k j:List Int)(v:PV):DK (Gp ks k) (Iv ks xs k v) j=if j=k then some v else DK ks xs j:=by
 delta Gp Iv
 by_cases z:k∈ks
 .rw[AGo z,AGo z];exact bJ k j v ks xs h z
 .rw[AGp z,AGp z];exact bK k j v ks xs h z
section
variable{X:Cx}{a b c e tg iter:Expr}{es:List Expr}{fa fb fc f:EF}{g ga:AF}{pos:Pos}{AV AR:Hp}
noncomputable def Kc:List RV->Option (List Int)
 |[]=>some []
 |.cl (.int i)::r=>(Kc r).map (i :: ·)
 |_::_=>none
theorem YI{K:W.Frag}:∀{rs:List RV}{vs:List V}{k:List Int},Kc rs=some k->D2 K H G' H' rs vs->vs=k.map V.int
 |[],_,_,e,r=>by cases e;cases r;rfl
 |.cl (.int i)::rs,_,k,e,r=>by
  unfold Kc at e;cases z:Kc rs with
  |none=>rw[z]at e;contradiction
  |some q=>
   rw[z]at e;cases e;cases r with
   |cons r1 r2=>rw[r1.int,YI z r2];rfl
 |.cl .As::_,_,_,e,_=>by contradiction
 |.cl (.bl _)::_,_,_,e,_=>by contradiction
 |.cl (.str _)::_,_,_,e,_=>by contradiction
 |.cl (.tup _)::_,_,_,e,_=>by contradiction
 |.cl (.lst _)::_,_,_,e,_=>by contradiction
 |.cl (.rd _)::_,_,_,e,_=>by contradiction
 |.cl (.C0 _ _)::_,_,_,e,_=>by contradiction
 |.bo _::_,_,_,e,_=>by contradiction
 |.fr _::_,_,_,e,_=>by contradiction
 |.bd _ _::_,_,_,e,_=>by contradiction
 |.fd _ _::_,_,_,e,_=>by contradiction
 |.tf _ _::_,_,_,e,_=>by contradiction
noncomputable def RV.C0:RV->Option (List (List Int)×List PV)
 |.cl (.C0 ks xs)=>some (ks,xs)
 |.bd ks xs=>some (ks,xs)
 |.fd ks xs=>some (ks,xs)
 |_=>none
theorem Bx.C0{K:W.Frag}(sub:Ah G' H')(h:Bx K H G' H' r v)(e:r.C0=some (ks,xs)):∃a AK,v=.ref a/\Rd H' a (.dT AK)/\AK.map (·.1)=ks.map Co/\AY K G' xs (AK.map (·.2)):=by
 cases r with
 |cl p=>
  cases p with
  |C0 Sb Y6=>
   cases e;have h':=h;obtain⟨a,AK,e,q,k,r⟩:=h';exact⟨a,AK,e,Rd.same sub q,k,r⟩
  |_=>contradiction
 |bd Sb Y6=>
  cases e;obtain⟨a,AK,e,g,q,k,r⟩:=h;exact⟨a,AK,e,.inl q,k,r⟩
 |fd Sb Y6=>
  cases e;obtain⟨a,AK,e,n,g,q,k,r⟩:=h;exact⟨a,AK,e,.inl q,k,r⟩
 |_=>contradiction
set_option tactic.hygienic true
def LF(f:EF)(g:AF):EF:=λρ=>match f ρ,g ρ with
 |some r,some rs=>(match r.C0,Kc rs with|some d,some k=>if k.length<=1000 then(DK d.1 d.2 k).map .cl else none|_,_=>none)
 |_,_=>none
theorem ABp(O:X.A.units+1<cLine)(ho:PX X a f)(h:Cy X es g)(hs:Qc<|.Tuple es x1 Z):PX X (.Subscript a (.Tuple es x1 Z) pos)<|LF f g:=PE.imp (kK O ho (X4 h) hs) (by
 rintro σ H Q ⟨G,ρ,z,R,e,q⟩;unfold LF at e;split at e
 .rename_i r rs P D;split at e
  .rename_i d k F B;split at e
   .rename_i S;cases y:DK d.1 d.2 k with
    |none=>rw[y]at e;contradiction
    |some p=>
     rw[y]at e;cases e;refine⟨G,ρ,r,R,P,λv T H1 s1 rv=>⟨T,ρ,rs,R.step s1,D,λvs G2 H2 s2 C=>?_⟩⟩;have Y:=YI B C;refine⟨small (by rw[Y,AGm];exact S),λb E=>?_⟩;have u:=Ap.new s2.sub (.tup vs) E;obtain⟨a,AK,rfl,I,n,t⟩:=(rv.step<|s2.trans u).C0 u.sub F;obtain⟨w,h1,x⟩:=bI n t y;exact⟨a,w,rfl,.inr ⟨AK,Co k,b,I,rfl,by rw[Cs,ip,Y],h1.symm⟩,q w _ _ ((s1.trans s2).trans u) x⟩
   .contradiction
  .contradiction
 .contradiction)
noncomputable def V0:EF:=λ_=>some<|.fd [] []
theorem ABr:PX X (.Dict [] [] pos) V0:=PE.imp AAe (by rintro σ H Q ⟨G,ρ,z,R,e,q⟩;cases e;intro p hp;exact q _ _ _ (Ap.HI R.sub _ hp) ⟨p,[],rfl,hp,R.sub.free hp,Cs,rfl,by rfl⟩)
noncomputable def Rj(i:Nat)(f:EF):SF:=λρ=>match f ρ with|some (.fd ks xs)=>some (.nx<|ρ.set i<|some<|.Dv none ks xs)|_=>none
theorem ACt(i:Nat)(y:X.N.Nodup)(he:PX X e f)(hi:X.N[i]? = some x)(q:Loc X.env.scope x)(hs:swapsWith e (some<|.Name x p) pos.line X.env=pure false)(u:X.fn x=true\/X.env.scope.names.lookup x=some .local) : CC X AV AR (.Assign [.Name x p] e pos)<|Rj i f:=PS.imp (Px y hi q he hs u) (by
 rintro D σ H ⟨G,ρ,o,S,e,k⟩;unfold Rj at e;split at e
 .rename_i ks xs Z;cases e;refine⟨G,ρ,_,S.r,Z,λv G' H' s rv=>?_⟩;obtain⟨a,AK,rfl,n,ga,ha,Y,Q⟩:=rv;exact k _ _ _ s.gg<|(S.step s).YO S.hh S.r.Pr n ⟨a,AK,rfl,ga,ha,Y,Q,λ_ z=>nomatch z⟩
 .contradiction)
noncomputable def Ri(i:Nat):SF:=λρ=>match ρ[i]? with|some (some<|.Dv _ ks xs)=>some (.rt<|.fd ks xs)|_=>none
theorem ACp(i:Nat)(q:X.N[i]? = some x)(u:DJ X.env.scope x)(hd:(x==("__debug__"))=false) (Z:(x==("__classdict__"))=false):CC X AV AR (.Return (some<|.Name x p) pos)<|Ri i:=PS.imp (X6<|Ej q u hd Z) (by
 rintro D σ H ⟨G,ρ,o,S,e,k⟩;unfold Ri at e;split at e
 .rename_i ks xs z;cases e;obtain⟨v,y,a,AK,rfl,ga,ha,Y,Q,_⟩:=S.r.slot i _ z;exact⟨_,y,k _ G H S.NU ⟨a,AK,rfl,S.new i _ a rfl z y,ga,ha,Y,Q⟩⟩
 .contradiction)
def MT(i:Nat)(g:AF)(f:EF):SF:=λρ=>match f ρ,ρ[i]?,g ρ with
 |some r,some<|some<|.Dv t ks xs,some rs=>(match r.clean,Kc rs with|some p,some k=>if ks.length<1000000/\k.length<=1000 then some (.nx<|ρ.set i<|some<|.Dv t (Gp ks k)<|Iv ks xs k p)else none|_,_=>none)
 |_,_,_=>none
theorem ACd(i:Nat)(R:X.A.units+1<cLine)(B:Cy X es g)(he:PX X e f)(T:X.N[i]? = some x)(C:DJ X.env.scope x)(hd:(x==("__debug__"))=false) (E:(x==("__classdict__"))=false) (hs:swapsWith e (some<|.Subscript (.Name x p) (.Tuple es x1 q) sp) pos.line X.env=pure false) : CC X AV AR (.Assign [.Subscript (.Name x p) (.Tuple es x1 q) sp] e pos)<|MT i g f:=PS.imp (kZ R (Ej T C hd E) (X4 B) he hs) (by
 rintro D σ H ⟨G,ρ,o,S,e,ok⟩;unfold MT at e;split at e
 .rename_i r t0 ks xs rs I u n;split at e
  .rename_i p k h ek;split at e
   .rename_i Z;cases e;refine⟨G,ρ,r,S.r,I,λv G1 H1 s1 rv=>?_⟩;have y:=S.step s1.all;obtain⟨w,Y,b,AK,rfl,g,Q,O,rl,Mb⟩:=y.r.slot i _ u;refine⟨_,Y,EC G1 H H1,ρ,_,y.r,n,λvs G2 H2 s2 YL=>?_⟩;have P:=YI ek YL;refine⟨small (by rw[P,AGm];exact Z.2),λt ht=>?_⟩;have s3:=Ap.new s2.sub (.tup vs) ht;have z:=s2.trans s3;have hl:=by have:=AHa List.length O;simpa using this
    have rp:=Rep.same z.gg<|rv.clean s1.sub h;obtain⟨h1,h2⟩:=sC O (AY.same z.gg rl) rp;refine⟨b,_,rfl,.inr ⟨AK,Co k,t,z.hh _ _ Q,rfl,by rw[Cs,ip,P],AJe (AK0 hl)<|AKM Z.1 AGj,rfl⟩,?_⟩;have F:=z.ex b (.d Q) g;exact ok _ _ _ (s1.all.gg.trans z.gg)<|(y.step z).chg rfl u Y F ⟨b,_,rfl,F,Cs,h1,h2,Mb⟩
   .contradiction
  .contradiction
 .contradiction)
def ADN:V->List V->Hp->VK->Prop:=λx vs H Q=>∃l b xs zs,x=.ref l/\vs=[.ref b]/\H l=some (.lst xs)/\Rd H b (.lst zs)/\xs.length+zs.length<=sizeLine/\Q .As (upd H l<|.lst<|xs++zs)
theorem yo:Jg X "list.extend" ADN:=by
 intro AD s σ H x vs v us Q I Y rv h;obtain⟨l,b,xs,zs,rfl,rfl,p,O,P,q⟩:=h;cases Y;obtain⟨u,rfl,D⟩:=rv.one;cases D;obtain⟨z,its,n,r,hl,e⟩:=I.Sr p;obtain⟨z2,y,R,Z,B⟩:=O.ok I.AX;have LS:=Z.length;have hsz:its.toArray.size+y.toArray.size<=sizeLine:=by rw[AG2,AG2];lia
 have G:¬ (!its.toArray.isEmpty&&Builtin.List.listTooLong (its.toArray.size+y.toArray.size))=true:=by rw[zC hsz,Bool.and_false];exact AIF
 refine call_meets F.slot_list_extend ⟨_,e,rfl⟩ F.entry_list_extend (F.args_list_extend_2 _ _) (AutoSeq1.list_extend_list_list_0 l its.toArray n b y.toArray R G (by rw[AG2];clear P;lia) U) ⟨e,B,?_⟩
 refine⟨.As,_,I.So p e AGh (r.append Z) ?_,rfl,q⟩;rw[AHC];omega
noncomputable def Mi(ps qs:List PV):Option<|List PV:=match qs with|[.lst zs]=>if ps.length+zs.length<=1000 then some (ps++zs)else none|_=>none
theorem ACf(i:Nat)(ha:Cy X (e::es) ga)(P:X.N[i]? = some x)(R:DJ X.env.scope x)(hd:(x==("__debug__"))=false) (B:(x==("__classdict__"))=false) (T:attributeBase (.Name x p) "extend" X.env (eval (.Name x p) X.env)=eval (.Name x p) X.env) (C:((backTo z<|starEach (e::es) X.env).all (λx=>!x.1)&&(backToKw z<|keywordEach [] X.env).all (λx=>x.1.isSome)
  && decide ((e::es).length+([]:List Keyword).length+(if([]:List Keyword).isEmpty then 0 else 1)<30))=true)
 (E:(q.endLine==z.line)=true) (hs:starEach (e::es) X.env=(false,eval e X.env)::starEach es X.env) (I:(backTo z<|starEach es X.env).any (·.1)=false)
 (n:swapsWith (.Call (.Attribute (.Name x p) "extend" q) (e::es) [] z) none pos.line X.env=pure false) :
 CC X AV AR (.Expr (.Call (.Attribute (.Name x p) "extend" q) (e::es) [] z) pos) (DY i Mi ga):=
 PS.imp (TQ (NH AH6 PySem.F.slot_list_extend PySem.F.type_list_extend yo (Ej P R hd B) ha T C E hs I) n) (by
 rintro D σ H ⟨G,ρ,o,S,e,ok⟩;unfold DY at e;split at e
 .rename_i ps rs Z ea;split at e
  .rename_i qs t;split at e
   .rename_i DP y;cases e;obtain⟨v,Y,a,vs,rfl,g,ha,h⟩:=S.r.slot i _ Z;refine⟨_,Y,.inl ⟨rfl,vs,.inl<|.inl ha⟩,G,ρ,rs,S.r,ea,λus G1 H1 s1 rv=>?_⟩;have S1:=S.step s1.all;have rq:=K1 s1.sub rv t;have Q:=AY.same s1.all.gg h;unfold Mi at y;split at y
    .split at y
     .cases y;obtain⟨w,r,rfl,u,rn⟩:=rq;subst rn;obtain⟨b,ws,rfl,hq,O⟩:=u;have l1:=Q.len;have l2:=O.len;refine⟨a,b,vs,ws,rfl,rfl,s1.hh _ _ ha,Rd.same s1.all.sub hq,small U,?_⟩;exact ok _ _ _ s1.all.gg<|S1.change Z Y (s1.all.ex a (.l ha) g)<|AY.of<|ND Q.paired O.paired
     .contradiction
    .contradiction
   .contradiction
  .contradiction
 .contradiction)
end
section
variable{AV AR:Hp}
end
section
variable{X:Cx}{pos:Pos}{AV AR:Hp}{f:Addr}{fd:FuncData}{ps:List Str}{k:Nat}{rec:Rec}
end
section
variable{X:Cx}{a:Expr}{es:List Expr}{f:EF}{g:AF}{pos:Pos}
end
theorem mf(r:B2 k A):A.units+1<cLine:=by have:=r.un;lia
open Classical in
section
variable{X:Cx}{e:Expr}{es:List Expr}{g:AF}{pos:Pos}
end
def ZP(f:EF):Prop:=∀ρ r,f ρ=some r->r.flat=true
def GG(g:SF):Prop:=∀ρ r,g ρ=some (.rt r)->r.flat=true
theorem V1(h:p.flat=true):ZP<|fC p:=λ_ _ e=>by cases e;exact h
set_option tactic.hygienic true
theorem V3(h:ZP f):GG<|Aw f:=λρ r e=>by
 unfold Aw at e;split at e
 .rename_i p z;cases e;exact h ρ _ z
 .rename_i p z;cases e;exact h ρ _ z
 .contradiction
set_option tactic.hygienic false
theorem fQ:GG A8:=λρ r e=>by cases e
theorem fS(a:GG g)(b:GG h):GG<|AM g h:=λρ r e=>by
 unfold AM at e;split at e
 .exact b _ _ e
 .exact a _ _ e
theorem fN(a:GG g)(b:GG h):GG<|Au t g h:=λρ r e=>by
 unfold Au at e;split at e
 .exact a _ _ e
 .exact b _ _ e
 .contradiction
theorem tZ(h:GG g)(ps:List PV)(r:RV)(e:denote N n g ps=some r):r.flat=true:=by
 unfold denote at e;split at e
 .cases z:g (A7 N ps)with
  |none=>rw[z]at e;contradiction
  |some o=>
   rw[z]at e;cases o with
   |rt r'=>cases e;exact h _ _ z
   |nx ρ=>cases e;rfl
   |bk ρ=>contradiction
   |ct ρ=>contradiction
 .contradiction
section
set_option tactic.hygienic true
variable{X:Cx}{AV AR:Hp}
theorem PS.HJ{st:Stmt}(h:PS X.HJ st t):PS X st t:=λAD s σ H D I y=>
 wpAny_mono (h AD s σ H D (I.HU _) y) (λ_ _ q=>q.Ja) λ_ _ z=>False.elim z
theorem ADC{st:Stmt}(h:CC X.HJ AV AR st g):Kw X E AV AR st<|yL g:=kg<|PS.HJ h
end
noncomputable def Mw(ps:List Str)(q:List Pos):Arguments:=⟨[],(ps.zip q).map λx=>⟨x.1,none,x.2⟩,none,[],[],none,[]⟩
theorem nR{α β:Type}:∀(a:List α)(b:List β),b.length=a.length->(a.zip b).map (·.1)=a
 |[],_,_=>rfl
 |x::a,y::b,h=>by simp only[AJ9,AGv];rw[nR a b<|by simpa using h]
theorem fW{α β:Type}{f g:α->Option β}:∀l:List α,(∀x∈l,f x=g x)->l.filterMap f=l.filterMap g
 |[],_=>rfl
 |x::l,h=>by simp only[AI5,AI5,h x<|.head _,fW l λy z=>h y<|.tail _ z]
theorem jD{α:Type}:∀(ps:List Str)(us:List α),us.length=ps.length->ps.Nodup->ps.filterMap (λn=>((ps.zip us).lookup n).map λx=>(n,x))=ps.zip us
 |[],_,_,_=>rfl
 |p::ps,u::us,h,nd=>by
  rw[AIQ]at nd;have z:=jD ps us (by simpa using h) nd.2;rw[AJ9,AKO (b:=(p,u))<|by simp[AII]]
  congr 1
  refine(fW _ λn hn=>?_).trans z;simp only[AII];split
  .rename_i e;exact absurd (eq_of_beq e ▸ hn) nd.1
  .rfl
theorem jC{α:Type}:∀(ps:List Str)(us:List α),us.length=ps.length->∀n∈ps,((ps.zip us).lookup n).isNone=false
 |p::ps,u::us,h,n,hn=>by
  simp only[AJ9,AII];split
  .rfl
  .rename_i e;refine jC ps us (by simpa using h) n ?_;rcases AGz.1 hn with rfl|hn
   .simp at e
   .exact hn
theorem pE(nm:Str)(ps:List Str)(q:List Pos)(b:List Stmt)(sc:Scope)(kV doc pm:Value)(an:Option Addr)(A3 ct:Value)(us:List Value)(y:q.length=ps.length)(z:us.length=ps.length)(nd:ps.Nodup):bindArgs (W.fnOf nm nm (Mw ps q) b sc .none kV doc pm an A3 ct) ⟨us,[]⟩=pure (ps.zip us):=by
 have h1:((Mw ps q).args.map λx=>x.arg)=ps:=by unfold Mw;simp only[AHT];exact(AJX λ_ _=>rfl).trans (nR ps q y)
 have hs:seqItems? Value.none=pure none:=rfl;have v:ps.filter (λn=>((ps.zip us).lookup n).isNone)=[]:=AJq.2 λn hn=>by rw[jC ps us z n hn];simp
 delta bindArgs W.fnOf
 dsimp only;rw[h1];unfold Mw;simp[hs,v,z,jD ps us z nd]
structure FS(N P:List Str)(st:Stmt):Prop where
 sc:IU N P<|BX st
 qs:∃q:List Pos,q.length=P.length/\Im st=Mw P q
section
variable{N ps:List Str}{st:Stmt}{f:Addr}{fd:FuncData}{x:Str}{k:Nat}{g:SF}{y:YF}{P:Program}{w:World}{K:W.Frag}{mg:Str->Option Value}{base h:Heap}
theorem FS.nd(S:FS N ps st):N.Nodup:=S.sc.nd
theorem NR(h:(BX st).kind=.function/\(BX st).isCoroutine=false/\(BX st).isGenerator=false/\N.Nodup/\N.take ps.length=ps/\(∀x∈ps,(BX st).names.lookup x=some .local\/(BX st).names.lookup x=some .cell)/\∀y∈(BX st).names,y.2≠.free)(q:∃q:List Pos,q.length=ps.length/\Im st=Mw ps q):FS N ps st:=
 ⟨⟨h.1,h.2.1,h.2.2.1,h.2.2.2.1,h.2.2.2.2.1,h.2.2.2.2.2.1,h.2.2.2.2.2.2⟩,q⟩
theorem FS.bs(S:FS N ps st)(kV doc pm:Value)(an:Option Addr)(A3 ct:Value)(us:List Value)(z:us.length=ps.length) : bindArgs (W.fnOf x x (Im st) (EZ st) (BX st) .none kV doc pm an A3 ct) ⟨us,[]⟩=pure (ps.zip us):=by obtain⟨q,h1,v⟩:=S.qs;rw[v];exact pE x ps q _ _ kV doc pm an A3 ct us h1 z<|S.sc.pre ▸ S.nd.sublist (AKD _ _)
def FM(K:W.Frag)(mg:Str->Option Value)(x:Str)(st:Stmt):Prop:=∃f fd,E9 K x x st f fd/\mg x=some (.ref f)
def dR(K:W.Frag)(x:Str)(st:Stmt):Prop:=∃(f:Addr)(oc:Value)(od:Option Addr)(kV doc pm:Value)(an:Option Addr)(A3 ct:Value)(sl:Array<|Option Value),W.nsIn K mainGlobals x=some (some<|.ref f)/\K.lookup f=some ⟨oc,od,.func<|W.fnOf x x (Im st) (EZ st) (BX st) .none kV doc pm an A3 ct,sl⟩/\W.codeIn K A3 x=true/\W.keepIn K (.ref f)=true
theorem dmk{kV doc pm:Value}(a:W.nsIn K mainGlobals x=some (some<|.ref f))(l:K.lookup f=some ⟨oc,od,.func<|W.fnOf x x (Im st) (EZ st) (BX st) .none kV doc pm an A3 ct,sl⟩)(c:W.codeIn K A3 x=true)(k:W.keepIn K (.ref f)=true):dR K x st:=⟨_,_,_,_,_,_,_,_,_,_,a,l,c,k⟩
theorem Rb(X:K.In h)(G:h.Ns mainGlobals mg)(d:dR K x st):FM K mg x st:=by obtain⟨f,oc,od,kV,doc,pm,an,A3,ct,sl,a,l,c,k⟩:=d;exact⟨f,_,uI l c k,W.mg_of X G a⟩
def bR(K:W.Frag):List Str->Prop
 |[]=>True
 |x::l=>W.nsIn K mainGlobals x=some none/\bR K l
def bM(mg:Str->Option Value):List Str->Prop
 |[]=>True
 |x::l=>mg x=none/\bM mg l
theorem Zj(X:K.In h)(G:h.Ns mainGlobals mg):∀{l:List Str},bR K l->bM mg l
 |[],_=>trivial
 |_::_,z=>⟨W.mg_none_of X G z.1,Zj X G z.2⟩
theorem E9.bt(F:E9 K x x st f fd)(S:FS N ps st)(s:Shared)(us:List Value)(z:us.length=ps.length):BindsTo s fd ⟨us,[]⟩<|ps.zip us:=by obtain⟨oc,od,kV,doc,pm,an,A3,ct,HL,rfl,lk,BG⟩:=F.ex;exact .of_eq<|S.bs _ _ _ _ _ _ us z
theorem gL(F:E9 K x x st f fd)(S:FS N ps st) (q:∀{A3:Value}{A:Around}{outer:List Env}{s:Shared}{H:Hp}{E:XK}{AV AR:Hp},let B:=A.deeper<|envOfC x (BX st) s.heap.objs.size f A3;B2 k B->B.units+64<cLine->B.units+1<cLine->B.units+66<cLine->true=true->EU (Gn ER P w K mg base N x (BX st) f A3 A outer s H E).HJ AV AR (EZ st) g) : Cv P w K mg base ER (k+1) f fd ps<|NT K ps.length<|denote N.length ps.length g:=uC F S.sc λ_ _ _ _ _ _ _ _ z=>q z z.units (mf z) (mh z) rfl
theorem gG(F:FM K mg x st)(S:FS N ps st) (z:∀{f:Addr}{A3:Value}{A:Around}{outer:List Env}{s:Shared}{H:Hp}{E:XK}{AV AR:Hp},let B:=A.deeper<|envOfC x (BX st) s.heap.objs.size f A3;B2 k B->B.units+64<cLine->B.units+1<cLine->B.units+66<cLine->true=true->EU (Gn ER P w K mg base N x (BX st) f A3 A outer s H E).HJ AV AR (EZ st) g) : BD P w K mg base x (k+1) ps.length<|denote N.length ps.length g:=by obtain⟨f,fd,F,hm⟩:=F;exact⟨f,fd,ps,gL F S z,hm,F.kp,F.binds S.bs,rfl⟩
theorem gY(F:FM K mg x st)(S:FS N ps st) (q:∀{f:Addr}{A3:Value}{A:Around}{outer:List Env}{s:Shared}{H:Hp}{E:XK}{AV AR:Hp},let B:=A.deeper<|envOfC x (BX st) s.heap.objs.size f A3;B2 k B->B.units+64<cLine->B.units+1<cLine->B.units+66<cLine->true=true->L7 (Qw P w K mg base N x (BX st) f A3 A outer s H E) E AV AR (EZ st) y) : IV P w K mg base x (k+1) ps.length (Io N.length ps.length y)<|K4 N.length ps.length y:=by obtain⟨f,fd,F,hm⟩:=F;exact⟨f,fd,ps,t8 F S.sc λ_ _ _ _ _ _ _ _ z=>q z z.units (mf z) (mh z) rfl,hm,F.kp,F.binds S.bs,rfl⟩
theorem gW(F:FM K mg x st)(S:FS N [z] st) (v:∀{f:Addr}{A3:Value}{A:Around}{outer:List Env}{s:Shared}{H AV AR:Hp},let B:=A.deeper<|envOfC x (BX st) s.heap.objs.size f A3;EW k B->B.units+64<cLine->true=true->EU (Qv P w K mg base N x (BX st) f A3 A outer s H) AV AR (EZ st) g) : QW P w K mg base x (k+1)<|Q1 N.length g:=by obtain⟨f,fd,F,hm⟩:=F;exact⟨f,fd,[z],t7 F S.sc λ_ _ _ _ _ _ _ q=>v q q.units rfl,hm,F.kp,F.binds S.bs⟩
end
section
variable{X:Cx}{a b c d:Expr}{p q r s:EF}
theorem pa1(ha:PX X a p)(h1:starEach [a] X.env=(false,eval a X.env)::starEach [] X.env):Cy X [a]<|AH p AO:=Pz ha YA h1
theorem j8(ha:PX X a p)(z:PX X b q)(h1:starEach [a,b] X.env=(false,eval a X.env)::starEach [b] X.env:=by rfl)(y:starEach [b] X.env=(false,eval b X.env)::starEach [] X.env:=by rfl):Cy X [a,b]<|AH p<|AH q AO:=Pz ha (Pz z YA y) h1
theorem pa3(ha:PX X a p)(z:PX X b q)(hc:PX X c r)(h1:starEach [a,b,c] X.env=(false,eval a X.env)::starEach [b,c] X.env)(y:starEach [b,c] X.env=(false,eval b X.env)::starEach [c] X.env)(h3:starEach [c] X.env=(false,eval c X.env)::starEach [] X.env):Cy X [a,b,c]<|AH p<|AH q<|AH r AO:=Pz ha (j8 z hc y h3) h1
theorem XU:∀ρ rs,AH p AO ρ=some rs->rs.length=1:=ML tT
theorem ln2:∀ρ rs,AH p (AH q AO) ρ=some rs->rs.length=2:=ML XU
theorem XW:∀ρ rs,AH p (AH q<|AH r AO) ρ=some rs->rs.length=3:=ML ln2
theorem Sf:∀ρ rs,AH p (AH q<|AH r<|AH s AO) ρ=some rs->rs.length=4:=ML XW
end
end L2.PL
namespace TL
open PySem PySem.Spec PyProof.Rows PySem.SeqAt
open PySem.AutoSeq1 (wpAny_loadPart')
section
variable{prog:Program}{w:World}{A:Around}{s:Shared}{Q E:Value->Shared->Prop}{a b:Int}{t u:Tok}
theorem kz(h:Q (.bool<|decide (a<b)) s):wpAny (model prog w) A (richCompare .Lt (.int a t)<|.int b u) Q E s:=lt_int h
end
theorem AFC(l b:Addr)(p q u v:Int)(Z Y Q O:Tok)(n P:Nat)(dd D:Option Addr)(sl y:Array<|Option Value) : Meets (Builtin.«tuple.__lt__» ⟨[.ref l,.ref b],[]⟩)
  (λ_ R s=>s.heap.get? l=some {cls:=.type "tuple",dict:=dd,data:=.seq #[.int p Z,.int q Y] n,slots:=sl}/\s.heap.get? b=some {cls:=.type "tuple",dict:=D,data:=.seq #[.int u Q,.int v O] P,slots:=y}/\
   R (.ok<|.ret<|.bool<|decide (p<u\/(p=u/\q<v))) s):=
 .of_wp λprog w A R s h=>by
  obtain⟨F,B,h⟩:=h;have f2:=AutoSeq1.sub_tuple_tuple
  wp_walk using wpAny_loadPart' F,wpAny_loadPart' B
  refine EqAt.int_int p Z u Q prog w _ _ ?_;cases c:(p==u)with
  |false=>
   have z:=by simpa using c
   wp_walk using kz
   exact⟨_,rfl,by rw[show decide (p<u)=decide (p<u\/p=u/\q<v)by simp[z]];exact h⟩
  |true=>
   have z:=by simpa using c
   wp_walk
   refine EqAt.int_int q Y v O prog w _ _ ?_;cases e:(q==v)with
   |false=>
    wp_walk using kz
    exact⟨_,rfl,by rw[show decide (q<v)=decide (p<u\/p=u/\q<v)by simp[z]];exact h⟩
   |true=>
    have G:=by simpa using e
    wp_walk
    exact⟨_,rfl,by simpa[Builtin.Tuple.tupleCompareSizes,z,G]using h⟩
end TL
namespace L2.PL
open PySem PySem.Spec PyProof.Rows
section
variable{X:Cx}{a:Expr}{fa:EF}{pos:Pos}
theorem AB0(hm:X.mg "isinstance" = none)(q:X.mg "list" = none)(ha:PX X a fa)(v:Gl X "isinstance")(u:Gl X "list") (he:starEach [a,.Name "list" y] X.env=(false,eval a X.env)::starEach [.Name "list" y] X.env) (Z:starEach [.Name "list" y] X.env=(false,eval (.Name "list" y) X.env)::starEach [] X.env) (Y:(backTo pos<|starEach [.Name "list" y] X.env).any (·.1)=false) : PX X (.Call (.Name "isinstance" p) [a,.Name "list" y] [] pos)<|FF "list" fa:=
 X9 (λz=>absurd z AGj) (λz=>absurd z AGj) (λz=>absurd z AGj) (λ_=>rfl) hm q Zn ha v u AGj AGj he Z Y
noncomputable def isTup:PV->Option Bool
 |.tup _=>some true
 |_=>none
def LG(f:EF):EF:=λρ=>match f ρ with|some r=>(isTup r.any).map λb=>.cl (.bl b)|none=>none
theorem pd:Cu X (.builtin "isinstance") (λxs H Q=>∃x p k,xs=[x,.ty "tuple"]/\Rep X.K H p x/\isTup p=some k/\Q (.bl k) H):=by
 rintro AD s σ H xs us Q I r ⟨x,p,k,v,hp,y,q⟩;subst v;obtain⟨u,Z,rfl,Y,O⟩:=vals2 r;obtain rfl:Z=Value.type "tuple":=O;unfold isTup at y;split at y
 .cases y;obtain⟨a,vs,rfl,P,_⟩:=hp;cases (show u=Value.ref a from Y);obtain⟨its,_,⟨o,h1,D,_⟩,_⟩:=I.tuple P;exact W.kia_one W.kitx_tuple I.BZ ⟨o,h1,D⟩ (show W.kitOne X.K (.type "tuple") (.type "tuple")=some true from rfl) (λz=>nomatch z) λtk=>⟨.bl true,H,I.tok _,rfl,q⟩
 .contradiction
set_option tactic.hygienic true
theorem AB1(hm:X.mg "isinstance" = none)(Z:X.mg "tuple" = none)(ha:PX X a fa)(Y:Gl X "isinstance")(O:Gl X "tuple") (he:starEach [a,.Name "tuple" z] X.env=(false,eval a X.env)::starEach [.Name "tuple" z] X.env) (P:starEach [.Name "tuple" z] X.env=(false,eval (.Name "tuple" z) X.env)::starEach [] X.env) (D:(backTo pos<|starEach [.Name "tuple" z] X.env).any (·.1)=false) : PX X (.Call (.Name "isinstance" p) [a,.Name "tuple" z] [] pos)<|LG fa:=by
 refine PE.imp (NI pd Y hm VA (Ei ha (Ei (X1 (v:=.ty "tuple") O Z pP rfl AGj AGj) F4 P) he) AGj AGj he D) ?_;rintro σ H Q ⟨G,ρ,r,R,e,q⟩;unfold LG at e;split at e
 .rename_i y F;cases u:isTup y.any with
  |none=>rw[u]at e;contradiction
  |some k=>
   rw[u]at e;cases e;refine⟨G,ρ,y,R,F,λv G' H' s rv=>?_⟩;exact⟨v,y.any,k,rfl,rv.any s.sub,u,q _ G' H' s<|by rfl⟩
 .contradiction
end
def ku(c:Int->Int->Int->Int->Bool)(K:W.Frag):R2:=λx y H Q=>∃p q u v a b,x=.ref a/\y=.ref b/\Ba K H a [.int p,.int q]/\Ba K H b [.int u,.int v]/\Q (.bl<|c p q u v) H
noncomputable def K0(p q u v:Int):Bool:=decide (p<u\/(p=u/\q<v))
noncomputable def Mo(c:Int->Int->Int->Int->Bool):RV->RV->Option RV
 |.cl (.tup [.int p,.int q]),.cl (.tup [.int u,.int v])=>some<|.cl<|.bl<|c p q u v
 |_,_=>none
section
variable{X:Cx}
theorem Xx{p q:Int}(h:Ar [.int p,.int q] us):∃t t',us=[.int p t,.int q t']:=by
 cases h with
 |cons a h=>cases h with
  |cons b h=>cases h;obtain⟨t,rfl⟩:=a;obtain⟨t',rfl⟩:=b;exact⟨t,t',rfl⟩
theorem zj(O:X.A.units+1<cLine):Be X (compareOp .Lt)<|ku K0 X.K:=by rintro AD s σ H x y v u Q I P D ⟨p,q,u',v',a,b,R,B,ha,G,k⟩;subst R;subst B;cases (show v=Value.ref a from P);cases (show u=Value.ref b from D);obtain⟨i1,S,⟨⟨c1,d1,t1,s1⟩,h1,k1,n1,z⟩,_⟩:=I.tuple ha;obtain⟨i2,T,⟨⟨c2,d2,t2,s2⟩,Z,k2,n2,Y⟩,_⟩:=I.tuple G;obtain⟨_,_,rfl⟩:=Xx S;obtain⟨_,_,rfl⟩:=Xx T;simp only at k1 z k2 Y;subst k1 z k2 Y;exact richCompare_meets_room (op:=.Lt) ⟨_,h1,rfl⟩ ⟨_,Z,rfl⟩ F.slot_tuple_lt F.entry_tuple_lt (F.args_tuple_lt_2 _ _) (TL.AFC _ _ _ _ _ _ _ _ _ _ _ _ _ _ _ _) ⟨h1,Z,show Value.bool _≠Value.notImplemented/\_ from⟨(λx=>nomatch x),⟨.bl _,H,I,rfl,k⟩⟩⟩<|Lg O
theorem Xy{K:W.Frag}(h:Rep K G (.tup [.int p,.int q]) v):∃a,v=.ref a/\Ba K G a [.int p,.int q]:=by obtain⟨a,vs,rfl,z,y⟩:=h;refine⟨a,rfl,?_⟩;have:=Hu (ns:=[p,q]) rfl y;rw[this]at z;exact z
set_option tactic.hygienic true
theorem zY{K:W.Frag}:Dj K (Mo c)<|ku c K:=by
 intro x y z H0 G H vx vy Q sub sh e Z Y q;unfold Mo at e;split at e
 .rename_i p O u v;cases e;obtain⟨a,rfl,ha⟩:=Xy<|Z.any sub;obtain⟨b,rfl,P⟩:=Xy<|Y.any sub;exact⟨p,O,u,v,a,b,rfl,rfl,ha,P,q _ G H (Ap.refl sub)<|by rfl⟩
 .contradiction
theorem qY(z:X.A.units+1<cLine):Cg X .Lt<|Mo K0:=⟨_,zj z,zY⟩
end
theorem V2(h:GG g):∀(xs:List PV)(ρ:AS)(r:RV),C4 gt g xs ρ=some (.rt r)->r.flat=true
 |[],_,_,e=>by cases e
 |x::xs,ρ,r,e=>by
  unfold C4 at e;split at e
  .contradiction
  .split at e
   .exact V2 h xs _ r e
   .exact V2 h xs _ r e
   .cases e
   .rename_i r' z;cases e;exact h _ _ z
   .contradiction
theorem tw(h:GG g):GG<|Bo its gt g:=λρ r e=>by
 unfold Bo at e;split at e
 .exact V2 h _ _ _ e
 .contradiction
set_option tactic.hygienic true
noncomputable def IM(t:BF)(g:SF):Nat->AS->Option Out
 |0,_=>none
 |n+1,ρ=>match t ρ with
  |some true=>(match g ρ with
   |some (.nx BU)=>IM t g n BU
   |some (.ct BU)=>IM t g n BU
   |some (.bk BU)=>some<|.nx BU
   |some (.rt r)=>some<|.rt r
   |none=>none)
  |some false=>some<|.nx ρ
  |none=>none
def Oe(t:BF)(g:SF):SF:=λρ=>IM t g 1000 ρ
section
variable{X:Cx}{AV AR:Hp}{c:Expr}{body:List Stmt}{t:BF}{g:SF}{pos:Pos}
theorem ACy(hp:PassesOwn (model X.prog X.w) X.A X.env X.xe)(hc:DW X c t)(I:EU X AV AR body g):CC X AV AR (.While c body [] pos)<|Oe t g:=PS.imp (ABN hp hc I) (by
 rintro D σ H ⟨G,ρ,o,S,e,ok⟩;refine⟨λm Q H'=>∃G' ρ',SR X.K AV AR G' H' ρ' Q/\Ah G G'/\IM t g m ρ'=some o,⟨1000,G,ρ,S,Ah.refl _,e⟩,?_⟩;rintro m Q H' ⟨G',ρ',y,u,z⟩;cases m with
 |zero=>contradiction
 |succ m=>
  unfold IM at z;split at z
  .rename_i O;refine⟨G',ρ',true,y.r,O,λv R s1=>?_⟩;refine⟨λB T=>∃C E,SR X.K AV AR C T E B/\Ah G C/\IM t g m E=some o,λB T n=>⟨m,FP,n⟩,?_⟩;split at z
   .rename_i Y q;exact⟨v,ρ',_,y.step s1,q,λP p F s2 Z=>⟨p,Y,Z,(u.trans s1.gg).trans s2,z⟩⟩
   .rename_i Y q;exact⟨v,ρ',_,y.step s1,q,λP p F s2 Z=>⟨p,Y,Z,(u.trans s1.gg).trans s2,z⟩⟩
   .rename_i Y q;cases z;exact⟨v,ρ',_,y.step s1,q,λP p F s2 Z=>ok P p F ((u.trans s1.gg).trans s2) Z⟩
   .rename_i r q;cases z;exact⟨v,ρ',_,y.step s1,q,Ku.mono (u.trans s1.gg) ok⟩
   .contradiction
  .rename_i O;refine⟨G',ρ',false,y.r,O,λv R s1=>?_⟩;refine xG ?_;cases z;exact ok Q v R (u.trans s1.gg)<|y.step s1
  .contradiction)
noncomputable def LL(i:Nat)(gt:GF):SF:=λρ=>match ρ[i]? with
 |some (some<|.own ps)=>(match ps[ps.length-1]? with
  |some p=>(match gt p (ρ.set i<|some<|.own ps.dropLast)with|some ρ'=>some (.nx ρ')|none=>none)
  |none=>none)
 |_=>none
theorem ACn(i:Nat)(R:Gi X tg gt)(B:X.N[i]? = some x)(T:DJ X.env.scope x)(hd:(x==("__debug__"))=false) (C:(x==("__classdict__"))=false) (E:attributeBase (.Name x p) "pop" X.env (eval (.Name x p) X.env)=eval (.Name x p) X.env) (I:(z.endLine==u.line)=true) (hs:swapsWithSole [tg] (.Call (.Attribute (.Name x p) "pop" z) [] [] u) pos.line X.env=pure false) (n:swappedStores [tg] (.Call (.Attribute (.Name x p) "pop" z) [] [] u) X.env=pure none) (h1:(assignEach [tg] X.env).map (·.2)=[assign tg X.env]) : CC X AV AR (.Assign [tg] (.Call (.Attribute (.Name x p) "pop" z) [] [] u) pos)<|LL i gt:=
 PS.imp (kY (kG AH6 PySem.F.slot_list_pop PySem.F.type_list_pop yu (Ej B T hd C) E I) R hs n h1) (by
  rintro D σ H ⟨G,ρ,o,S,e,k⟩;unfold LL at e;split at e
  .rename_i ps Y;split at e
   .rename_i q b;split at e
    .rename_i ρ' f;cases e;obtain⟨v,Q,a,vs,rfl,g,ha,Z⟩:=S.r.slot i _ Y;obtain⟨y,O,h⟩:=NF Z.paired b;rw[Z.len]at O;have C6:AY X.K G ps.dropLast vs.dropLast:=by rw[AKq,AKq,Z.len];exact AY.of<|j5 _ Z.paired
     have P:=S.change Y Q g C6;exact⟨_,Q,.inl ⟨rfl,vs,.inl<|.inl ha⟩,a,vs,y,rfl,rfl,ha,O,G,_,q,ρ',P.r,h,f,λAZ R' kk=>k _ _ _ (Ah.refl _)<|P.turn R' kk⟩
    .contradiction
   .contradiction
  .contradiction)
end
end L2.PL
set_option maxRecDepth 100000
namespace DE
open PySem PySem.W PyProof.Rows
noncomputable def run(lt:Nat->Nat->Bool):KasT α->α
 |.ret a=>a
 |.ask i j k=>run lt<|k<|lt i j
def Ok(lt:Nat->Nat->Bool)(n:Nat)(P:α->Prop):KasT α->Prop
 |.ret a=>P a
 |.ask i j k=>i<n/\j<n/\Ok lt n P (k<|lt i j)
section
variable{lt:Nat->Nat->Bool}{n:Nat}
theorem Ok.bind{f:α->KasT β}(z:∀a,P a->Ok lt n R (f a)):∀t:KasT α,Ok lt n P t->Ok lt n R (t.bind f)
 |.ret a,h=>z a h
 |.ask i j k,h=>⟨h.1,h.2.1,Ok.bind z (k<|lt i j) h.2.2⟩
theorem Ok.run:∀t:KasT α,Ok lt n P t->P (DE.run lt t)
 |.ret _,h=>h
 |.ask i j k,h=>Ok.run (k<|lt i j) h.2.2
theorem Ok.mono{P R:α->Prop}(f:∀a,P a->R a):∀t:KasT α,Ok lt n P t->Ok lt n R t
 |.ret _,h=>f _ h
 |.ask i j k,h=>⟨h.1,h.2.1,Ok.mono f (k<|lt i j) h.2.2⟩
theorem Ok.wp(hc:∀i j C,i<n->j<n->C (lt i j) s->z i j C s):∀t:KasT α,Ok lt n P t->Q (DE.run lt t) s->t.kasWp z Q s
 |.ret _,_,q=>q
 |.ask i j k,h,q=>hc i j _ h.1 h.2.1<|Ok.wp hc (k<|lt i j) h.2.2 q
noncomputable abbrev Bf(p:Array Nat)(i:Nat):Nat:=p.getD i 0
def Pm(n:Nat)(p:Array Nat):Prop:=p.Perm (List.range n).toArray
theorem Zc(h:p[i]? = q[j]?):Bf p i=Bf q j:=by unfold Bf;rw[AKA,AKA,h]
theorem Pm.size(h:Pm n p):p.size=n:=by rw[Array.Perm.size_eq h];simp
theorem Pm.bd(h:Pm n p)(hi:i<n):Bf p i<n:=by
 have hs:=h.size;have:Bf p i=p[i]:=by simp[Bf,Array.getD,hs,hi]
 rw[this];have m:p[i]∈p.toList:=AGh
 exact AGq.mp<|(AJQ.mp h).mem_iff.mp m
theorem Pm.ne(h:Pm n p)(hi:i<n)(z:j<n)(e:i≠j):Bf p i≠Bf p j:=by
 have hs:=h.size;have nd:=(AJQ.mp h).nodup_iff.mpr AJt;have a:Bf p i=p.toList[i]'(by simpa[hs]using hi):=by simp[Bf,Array.getD,hs,hi]
 have b:Bf p j=p.toList[j]'(by simpa[hs]using z):=by simp[Bf,Array.getD,hs,z]
 simp only[a,b];exact λk=>e<|(AJs nd).mp k
theorem Pm.rev(h:Pm n p)(i j:Nat):Pm n<|kas_rev p i j:=Array.Perm.trans (mirror_perm ..) h
def Up(lt:Nat->Nat->Bool)(p:Array Nat)(k:Nat):Prop:=∀i j,i<j->j<k->lt (Bf p i) (Bf p j)=true
def Dn(lt:Nat->Nat->Bool)(p:Array Nat)(k:Nat):Prop:=∀i j,i<j->j<k->lt (Bf p j) (Bf p i)=true
structure Uv(lt:Nat->Nat->Bool)(n:Nat):Prop where
 tr:∀i j k,lt i j=true->lt j k=true->lt i k=true
 to:∀i j,i<n->j<n->i≠j->lt i j=false->lt j i=true
variable(T:Uv lt n)
include T
theorem Uv.at(hp:Pm n p)(hi:i<n)(z:j<n)(e:i≠j)(h:lt (Bf p i) (Bf p j)=false):lt (Bf p j) (Bf p i)=true:=T.to _ _ (hp.bd hi) (hp.bd z) (hp.ne hi z e) h
theorem Up.step(h:Up lt p k)(h0:lt (Bf p<|k-1) (Bf p k)=true):Up lt p<|k+1:=λi j z hj=>by
 by_cases c:j<k
 .exact h i j z c
 .have e:j=k:=U
  subst e;by_cases d:i=j-1
  .rw[d];exact h0
  .exact T.tr _ _ _ (h i (j-1) U U) h0
theorem Dn.step(h:Dn lt p k)(h0:lt (Bf p k) (Bf p<|k-1)=true):Dn lt p<|k+1:=λi j z hj=>by
 by_cases c:j<k
 .exact h i j z c
 .have e:j=k:=U
  subst e;by_cases d:i=j-1
  .rw[d];exact h0
  .exact T.tr _ _ _ h0<|h i (j-1) U U
theorem Xo(hp:Pm n p):∀f k,0<k->k+f<=n->Up lt p k->Ok lt n (λm=>k<=m/\m<=k+f/\Up lt p m/\(m<k+f->lt (Bf p m) (Bf p<|m-1)=true)) (kas_asc p f k)
 |0,k,_,_,h=>⟨AGy _,AGy _,h,λc=>absurd c (AIs _)⟩
 |f+1,k,h0,hk,h=>by
  refine⟨hp.bd U,hp.bd U,?_⟩;cases c:lt (p.getD k 0)<|p.getD (k-1) 0
  .refine Ok.mono ((by rintro m ⟨a,b,u,d⟩;exact⟨M1 a,jK b,u,λe=>d U⟩)) _<|Xo hp f (k+1) jI U<|h.step T<|T.at hp U U U c
  .exact⟨AGy _,U,h,λ_=>c⟩
theorem jw(hp:Pm n p):∀f k,0<k->k+f<=n->Dn lt p k->Ok lt n (λr=>r.1=p/\r.2.2=0/\k<=r.2.1/\r.2.1<=k+f/\Dn lt p r.2.1) (kas_desc f p k 0)
 |0,k,_,_,h=>⟨rfl,rfl,AGy _,AGy _,h⟩
 |f+1,k,h0,hk,h=>by
  refine⟨hp.bd U,hp.bd U,?_⟩;cases c:lt (p.getD k 0)<|p.getD (k-1) 0
  .refine⟨hp.bd U,hp.bd U,?_⟩;rw[show lt (p.getD (k-1) 0) (p.getD k 0)=true from T.at hp U U U c];exact⟨rfl,rfl,AGy _,Nat.le_add_right _ _,h⟩
  .exact Ok.mono ((by rintro m ⟨a,b,u,d,e⟩;exact⟨a,b,M1 u,jK d,e⟩)) _<|jw hp f (k+1) jI U<|h.step T c
theorem zR(hp:Pm n p)(h0:0<k)(v:k<=n)(h:Dn lt p k):Ok lt n (λr=>Pm n r.2/\1<=r.1/\r.1<=n/\Up lt r.2 r.1)<|kas_tail3 k n p:=by
 have y:=hp.rev 0 k;refine Ok.bind (λm (⟨a,b,u,_⟩)=>⟨y,AGi,AGi,u⟩) _<|Xo T y (n-k) k h0 U λi j q z=>?_;have e:∀i,i<k->Bf (kas_rev p 0 k) i=Bf p (k-1-i):=λi hi=>Zc (by unfold kas_rev;rw[getElem?_mirror_all (by rw[hp.size];exact v),AGo ⟨AIO _,hi⟩,AI0])
 simp only[e i<|Br q z,e j z];exact h _ _ AGi (by clear q z;omega)
theorem zQ(z:2<=n)(hp:Pm n p):Ok lt n (λr=>Pm n r.2/\1<=r.1/\r.1<=n/\Up lt r.2 r.1)<|kas_count n p:=by
 refine Ok.bind (λk (⟨a,b,u,d⟩)=>?_) _<|Xo T hp (n-1) 1 Nat.zero_lt_one U λi j _ _=>AGi;split
 .exact⟨hp,a,U,u⟩
 .split
  .refine⟨hp.bd U,hp.bd (by clear z d;omega),?_⟩;rw[show lt (p.getD 0 0) (p.getD (k-1) 0)=true from u 0 (k-1) AGi AGi];exact⟨hp,a,by clear d;omega,u⟩
  .have e:k=1:=AGi
   subst e;refine Ok.bind (λr y=>?_) _<|jw T hp (n-2) 2 U AGi λi j Bm hj=>?_
   .obtain⟨p',m,q⟩:=r;obtain⟨rfl,rfl,a,b,c⟩:=y;dsimp only at a b c ⊢;exact zR T hp U AGi c
   .have:=d U;simp only[show i=0 by lia,show j=1 by lia];exact this
theorem Xp(hp:Pm n p)(z:k<n):∀f l r,l<=r->r<=k->r-l<=f->(∀i,i<l->lt (Bf p i) (Bf p k)=true)->(∀i,r<=i->i<k->lt (Bf p k) (Bf p i)=true)->Up lt p k->Ok lt n (λl=>l<=k/\(∀i,i<l->lt (Bf p i) (Bf p k)=true)/\∀i,l<=i->i<k->lt (Bf p k) (Bf p i)=true) (kas_place p k f l r)
 |0,l,r,h1,h2,h3,a,b,_=>⟨U,a,λi hi=>b i U⟩
 |f+1,l,r,h1,h2,h3,a,b,u=>by
  unfold kas_place;split
  .exact⟨AGg,a,λi hi=>b i U⟩
  .refine⟨hp.bd z,hp.bd U,?_⟩;cases c:lt (p.getD k 0) (p.getD ((l+r) / 2) 0)
   .refine Xp hp z f _ r U h2 AGi (λi hi=>?_) b u;have m:=T.at hp z U U c;by_cases e:i=(l+r) / 2
    .rw[e];exact m
    .exact T.tr _ _ _ (u i _ U U) m
   .refine Xp hp z f l _ U U (by clear z h2;omega) a (λi hi y=>?_) u;by_cases e:i=(l+r) / 2
    .rw[e];exact c
    .exact T.tr _ _ _ c<|u _ i U y
theorem jv:∀f (p:Array Nat) k,Pm n p->k+f=n->Up lt p k->Ok lt n (λp=>Pm n p/\Up lt p n) (kas_bin f p k)
 |0,_,_,h,e,u=>⟨h,by rw[<-e];exact u⟩
 |f+1,p,k,h,e,u=>by
  refine Ok.bind (λl (⟨hl,a,b⟩)=>jv f _ _ (Array.Perm.trans (bubble_perm ..) h) (by subst e;lia) λi j q hj=>?_) _ (Xp T h (by subst e;lia) k 0 k M3 U U (λi hi=>U) (λi _ _=>AGg) u);have g:∀i,Bf (bubble p k<|k-l) i=Bf p (if i=l then k else if l<i/\i<=k then i-1 else i):=λi=>Zc (by
   rw[getElem?_bubble (by rw[h.size];lia) _ (by clear q;lia),show k-(k-l)=l by clear e;omega];split
   .rfl
   .split<;>rfl)
  simp only[g,g];by_cases z:i=l
  .rw[AGo z,AGp U];exact b _ (by split<;>lia) U
  .rw[AGp z];by_cases y:j=l
   .rw[AGo y,AGp U];exact a _ U
   .rw[AGp y];refine u _ _ ?_ ?_<;>(repeat' split)<;>lia
theorem Xq(z:2<=n):Ok lt n (λp=>Pm n p/\Up lt p n)<|kas_sort n:=
 Ok.bind (λr (⟨hp,a,b,u⟩)=>by
  split
  .rw[show max r.1 1=r.1 by lia];exact jv T _ _ _ hp U u
  .exact⟨hp,by exact(U:r.1=n) ▸ u⟩) _ (zQ T z<|Array.Perm.refl _)
end
open PySem PySem.W PyProof.Rows PySem.SeqAt
inductive PA(h:Heap):List Value->List (Int×Int)->Prop
 |nil:PA h [] []
 |cons {a:Addr} {o:Obj} {t t':Tok} {n:Nat} {p:Int×Int} {vs:List Value} {ps:List (Int×Int)} (ho:h.get? a=some o) (hc:o.cls=.type "tuple") (hd:o.data=.seq #[.int p.1 t,.int p.2 t'] n) (r:PA h vs ps):PA h (.ref a::vs) (p::ps)
theorem PA.len:∀{vs:List Value}{ps:List (Int×Int)},PA h vs ps->vs.length=ps.length:=by
 intro vs ps h
 induction h with
 |nil=>rfl
 |cons _ _ _ r ih=>rw[AG6,AG6,ih]
theorem PA.at:∀{vs:List Value}{ps:List (Int×Int)}{i:Nat},PA h vs ps->i<ps.length->∃a o t t' n,vs.getD i Value.none=.ref a/\h.get? a=some o/\o.data=.seq #[.int (ps.getD i (0,0)).1 t,.int (ps.getD i (0,0)).2 t'] n:=by
 intro vs ps i h
 induction h generalizing i with
 |nil=>intro hi;contradiction
 |cons ho hc hd r ih=>
  intro hi;cases i with
  |zero=>exact⟨_,_,_,_,_,rfl,ho,hd⟩
  |succ i=>exact ih<|Nat.lt_of_succ_lt_succ hi
theorem PA.kept(k:∀b o,b≠a->h.get? b=some o->h'.get? b=some o):∀{vs:List Value}{ps:List (Int×Int)},(∀v∈vs,v≠.ref a)->PA h vs ps->PA h' vs ps:=by
 intro vs ps hn h
 induction h with
 |nil=>exact .nil
 |cons ho hc hd r ih=>exact .cons (k _ _ (λe=>hn _ (.head _)<|by rw[e]) ho) hc hd<|ih λv z=>hn v<|.tail _ z
theorem PA.El:∀{vs:List Value}{ps:List (Int×Int)},PA h vs ps->∃fs,KatTups h vs fs/\fs.length=ps.length/\∀v∈fs,∃i t,v=Value.int i t
 |_,_,.nil=>⟨[],.nil,rfl,λ_ h=>by cases h⟩
 |_,_,.cons (t:=t) (p:=p) ho hc hd r=>by
  obtain⟨fs,a,b,c⟩:=r.El;refine⟨.int p.1 t::fs,.cons ho hc hd rfl a,by simp only[AG6,AG6,b],λv z=>?_⟩;rcases AGz.mp z with rfl|z
  .exact⟨_,_,rfl⟩
  .exact c v z
noncomputable def JV(ps:List<|Int×Int)(i j:Nat):Bool:=decide ((ps.getD i (0,0)).1<(ps.getD j (0,0)).1\/((ps.getD i (0,0)).1=(ps.getD j (0,0)).1/\(ps.getD i (0,0)).2<(ps.getD j (0,0)).2))
section
variable{prog:Program}{w:World}{A:Around}{E:Value->Shared->Prop}{s:Shared}{vs:List Value}{ps:List (Int×Int)}
theorem o4(v:PA s.heap vs ps)(hi:i<ps.length)(p:j<ps.length)(h:C (JV ps i j) s):kas_ask prog w A (tuples' true) vs i j C s:=by
 obtain⟨a,o,t,t',n,Z,ho,hd⟩:=v.at hi;obtain⟨b,o2,u,Y,n2,Q,O,z⟩:=v.at p;unfold kas_ask;rw[Z,Q];unfold JV at h;generalize ps.getD i (0,0)=x at h hd;generalize ps.getD j (0,0)=y at h z;refine kat_lt ho hd O z ?_;refine kat_cons<|EqAt.int_int x.1 t y.1 u prog w _ _ ?_;cases e:(x.1==y.1)with
 |false=>
  have q:=by simpa using e
  refine kat_no<|oneLt_int ?_;rw[show decide (x.1<y.1)=decide (x.1<y.1\/(x.1=y.1/\x.2<y.2))by simp[q]];exact h
 |true=>
  have q:x.1=y.1:=by simpa using e
  refine kat_yes<|kat_cons<|EqAt.int_int x.2 t' y.2 Y prog w _ _ ?_;cases k:(x.2==y.2)with
  |false=>
   refine kat_no<|kat_one _ _<|lt_int ?_;rw[show decide (x.2<y.2)=decide (x.1<y.1\/(x.1=y.1/\x.2<y.2))by simp[q]];exact h
  |true=>
   have P:=by simpa using k
   show C false s;rw[show false=decide (x.1<y.1\/(x.1=y.1/\x.2<y.2))by simp[q,P]];exact h
def ord(ps:List<|Int×Int):List Nat:=if ps.length<2 then List.range ps.length else(run (JV ps)<|kas_sort ps.length).toList
theorem NW{ps:List (Int×Int)}(nd:ps.Nodup):Uv (JV ps) ps.length:=by
 refine⟨λi j k=>?_,λi j hi z e=>?_⟩
 .unfold JV;lia
 .unfold JV;simp only[AG0,AIj];have ne:ps.getD i (0,0)≠ps.getD j (0,0):=by simp only[AHk,AHk,AG8 hi,AG8 z];exact λk=>e<|(AJs nd).mp k
  have:¬ ((ps.getD i (0,0)).1=(ps.getD j (0,0)).1/\(ps.getD i (0,0)).2=(ps.getD j (0,0)).2):=λk=>ne<|AID k.1 k.2;lia
theorem Xw(nd:ps.Nodup):(ord ps).Perm<|List.range ps.length:=by
 unfold ord;split
 .exact List.Perm.refl _
 .exact AJQ.mp (Ok.run _<|Xq (NW nd) U).1
theorem Xv(nd:ps.Nodup):∀i∈ord ps,i<ps.length:=λi h=>AGq.mp<|(Xw nd).mem_iff.mp h
theorem AAG(nd:ps.Nodup):(ord ps).length=ps.length:=by rw[(Xw nd).length_eq,AHD]
theorem AAH(nd:ps.Nodup):(ord ps).Pairwise λi j=>JV ps i j=true:=by
 unfold ord;split
 .rw[AHy];intro i j hi z y;rw[AHD]at z;lia
 .rw[AHy];intro i j hi z y;have h:=Ok.run _<|Xq (NW nd) U;have hs:=h.1.size;simp only[AHm,hs]at z;have:=h.2 i j y z;simpa[Bf,Array.getD,hs,z,show i<ps.length from Br y z]using this
theorem AD8(ho:s.heap.get? a=some (seqObj "list" vs.toArray n))(D:PA s.heap vs ps)(nd:ps.Nodup)(B:∀v∈vs,v≠.ref a)(G:vs.length<64) (h:P (.done<|.ret .none) {s with heap:=sortedHeap s.heap a vs ((ord ps).map λi=>vs.getD i Value.none).toArray}) :
 wpAny (model prog w) A (Builtin.«list.sort» ⟨[.ref a],[]⟩) P E s:=by
 have y:=D.len;rw[list_sort_plain];have ha:=Heap.lt_size ho;refine wpAny_bind<|listItems_at ho rfl ?_;refine wpAny_bind (listUpdate_at ho rfl ?_ (by rw[AG2,sizeLine_eq];lia) (AIO _));obtain⟨Y,F⟩:∃Y,(s.heap.update a<|Obj.mapSeq λ_=>#[]).get? a=some (seqObj "list" #[] Y):=⟨_,get?_update_seq ho (λ_=>#[])⟩;refine wpAny_bind<|seqEpoch_at F rfl ?_;refine wpAny_bind (wpAny_newTuple ?_ (by show vs.length<=_;rw[sizeLine_eq];lia));refine wpAny_bind<|wpAny_newList ?_ (AIO _);refine wpAny_holding ?_;have u:(((s.heap.update a<|Obj.mapSeq λ_=>#[]).push<|seqObj "tuple" vs.toArray 0).push<|seqObj "list" #[] 0).get? a=some (seqObj "list" #[] Y):=by rw[Heap.get?_push_ne _ _ _ (by rw[size_push',Heap.size_update];exact AG7<|AJF ha),Heap.get?_push_ne _ _ _ (by rw[Heap.size_update];exact AG7 ha)];exact F
 have kp:∀b o,b≠a->s.heap.get? b=some o->(((s.heap.update a<|Obj.mapSeq λ_=>#[]).push<|seqObj "tuple" vs.toArray 0).push<|seqObj "list" #[] 0).get? b=some o:=λb o S q=>
  Heap.get?_push_of_some _ (Heap.get?_push_of_some _ (by rw[Heap.get?_update_ne _ _ _ _ S];exact q))
 have R:=D.kept kp B;dsimp only;have hsz:vs.toArray.size=vs.length:=AGh
 by_cases z:vs.toArray.size<2
 .rw[AGo z,AGo z];refine wpAny_bind<|wpAny_pure ?_;refine wpAny_bind<|wpAny_pure ?_;dsimp only;refine wpAny_bind<|seqEpoch_at u rfl ?_;refine wpAny_bind (listUpdate_at u rfl ?_ (hsz2:=by rw[Array.size_map];show(pairsOf vs).size<=_;rw[pairsOf_size,sizeLine_eq];clear hsz;lia));simp only[bne_self_eq_false];have O:((ord ps).map λi=>vs.getD i Value.none).toArray=(vs.toArray.zip vs.toArray).map (·.2):=by
   unfold ord
   match vs,y,z with
   |[],y,_=>rw[<-y];simp
   |[v],y,_=>rw[<-y];simp[AIT]
   |_::_::_,_,z=>exact absurd z AGh
  rw[O]at h;exact wpAny_pure h
 .rw[AGp z,AGp z];obtain⟨fs,T,kl,H⟩:=R.El;refine wpAny_bind (kat_kind T U (λv I=>by obtain⟨i,t,rfl⟩:=H v I;exact .now) AGj ?_);have f:(kas_sort vs.length).kasWp (kas_ask prog w A (tuples'<|Value.type "int" != Value.type "tuple") vs) (λp s'=>p=run (JV ps) (kas_sort ps.length)/\s'={s with heap:=((s.heap.update a<|Obj.mapSeq λ_=>#[]).push<|seqObj "tuple" vs.toArray 0).push (seqObj "list" #[] 0)}) {s with heap:=((s.heap.update a<|Obj.mapSeq λ_=>#[]).push<|seqObj "tuple" vs.toArray 0).push (seqObj "list" #[] 0)}:=by rw[y];exact Ok.wp (λi j C hi x hC=>o4 R hi x hC) _ (Xq (NW nd) U) ⟨rfl,rfl⟩
  refine wpAny_bind<|wpAny_mono (kat_run (Q:=λZ s'=>∃p:Array Nat,p.size=vs.length/\arrOf Z=p.map (kas_item<|vs.toArray.zip vs.toArray)/\failedOf Z=none/\p=run (JV ps) (kas_sort ps.length)/\s'={s with heap:=((s.heap.update a<|Obj.mapSeq λ_=>#[]).push<|seqObj "tuple" vs.toArray 0).push (seqObj "list" #[] 0)}) rfl U G (λp' Z s' a1 a2 a3 a4=>⟨p',a1,a2,a3,a4⟩) f) ?_ λ_ _ e=>e;rintro⟨⟨⟩,Z⟩ s' ⟨p,hp,uy,hf,Wt,rfl⟩;have wC:=kat_snds rfl uy;rw[wC];refine wpAny_bind<|seqEpoch_at u rfl ?_;refine wpAny_bind (listUpdate_at u rfl ?_ (hsz2:=by simp only[AG2,AGm,AHm,hp,sizeLine_eq];lia));rw[hf];simp only[bne_self_eq_false];have O:ord ps=p.toList:=by unfold ord;rw[AGp U,Wt]
  rw[O]at h;exact wpAny_pure h
theorem AEA(Y:s.heap.IsList l vs.toArray)(u:PA s.heap vs ps)(nd:ps.Nodup)(O:vs.length<64) (h:Q (.ref<|s.heap.objs.size+1) {s with heap:=sortedAll s.heap vs ((ord ps).map λi=>vs.getD i Value.none).toArray}) :
 wpAny (model prog w) A (call (.builtin "sorted") [.ref l]) Q E s:=by
 refine Calls.call_function_entry kind_sorted plain_sorted entry_sorted (args_sorted1 _) ?_;refine wpAny_bind <|wpAny_pure ?_;refine wpAny_bind (collect_list Y ?_ (by rw[sizeLine_eq];lia));refine wpAny_bind (wpAny_newList ?_ (by rw[sizeLine_eq];lia));have hsz:((s.heap.push<|seqObj "list" #[] 0).update s.heap.objs.size (Obj.mapSeq (· ++ vs.toArray))).objs.size=s.heap.objs.size+1:=by rw[Heap.size_update,size_push']
 have p:(((s.heap.push<|seqObj "list" #[] 0).update s.heap.objs.size (Obj.mapSeq (· ++ vs.toArray))).push<|seqObj "list" vs.toArray 0).get? (s.heap.objs.size+1)=some (seqObj "list" vs.toArray 0):=by rw[<-hsz];exact Heap.get?_push_size _ rfl
 have keep:∀b o,s.heap.get? b=some o->(((s.heap.push<|seqObj "list" #[] 0).update s.heap.objs.size (Obj.mapSeq (· ++ vs.toArray))).push<|seqObj "list" vs.toArray 0).get? b=some o:=λb o q=>by have y:=Heap.lt_size q;rw[Heap.get?_push_ne _ _ _ (by rw[hsz];exact AG7<|AJF y),Heap.get?_update_ne _ _ _ _ (AG7 y),Heap.get?_push_ne _ _ _ (AG7 y)];exact q
 rw[hsz];have Z:∀v∈vs,v≠Value.ref (s.heap.objs.size+1):=λv z e=>by
  have:∀{vs:List Value}{ps:List (Int×Int)},PA s.heap vs ps->∀v∈vs,∃b,v=.ref b/\b<s.heap.objs.size:=λ{vs ps} h=>by
   induction h with
   |nil=>intro v z;contradiction
   |cons ho hc hd r ih=>
    intro v z;rcases AGz.mp z with rfl|z
    .exact⟨_,rfl,Heap.lt_size ho⟩
    .exact ih v z
  obtain⟨b,P,D⟩:=this u v z;rw[P]at e;cases e;exact absurd D (Nat.not_lt.mpr<|AKi _)
 refine wpAny_bind<|wpAny_holding<|wpAny_call_entry slot_list_sort ⟨_,p,rfl⟩ entry_list_sort (AD8 p (u.kept (λb o _ q=>keep b o q) Z) nd Z O ⟨_,rfl,?_⟩)<|args_list_sort _;exact wpAny_pure ⟨_,rfl,h⟩
end
end DE
namespace L2.PL
set_option tactic.hygienic true
open PySem PySem.Spec PyProof.Rows
noncomputable def NG:List PV->Option (List<|Int×Int)
 |[]=>some []
 |.tup [.int p,.int q]::r=>(NG r).map ((p,q) :: ·)
 |_=>none
def Mp:List RV->Option RV
 |[r]=>match r.list with
  |some ps=>(match NG ps with
   |some zs=>if ps.length<64/\zs.Nodup then some (.fr<|(DE.ord zs).map λi=>ps.getD i .As)else none
   |none=>none)
  |none=>none
 |_=>none
def Qf(K:W.Frag)(H:Hp)(z:Int×Int)(v:V):Prop:=∃a,v=.ref a/\Ba K H a [.int z.1,.int z.2]
theorem kA{K:W.Frag}:∀{ps:List PV}{zs:List (Int×Int)}{vs:List V},NG ps=some zs->AY K G ps vs->Paired (Qf K G) zs vs
 |[],_,_,e,h=>by cases e;subst h;exact .nil
 |p::r,zs,vs,e,h=>by
  unfold NG at e;split at e
  .rename_i z;contradiction
  .rename_i p' q' r' z;cases z;obtain⟨zs',y,rfl⟩:=AKg.mp e;obtain⟨v,us,rfl,q,t⟩:=h;obtain⟨a,rfl,ha⟩:=Xy q;exact .cons ⟨a,rfl,ha⟩<|kA y t
  .contradiction
set_option tactic.hygienic false
theorem nA(h:Ar ys its):∀l:List Nat,(∀i∈l,i<ys.length)->Ar (l.map λi=>ys.getD i .As) (l.map λi=>its.getD i Value.none)
 |[],_=>.nil
 |i::l,hl=>by have hi:=hl i<|.head _;obtain⟨u,z,y⟩:=h.get<|AG8 hi;refine .cons ?_ (nA h l λj q=>hl j<|.tail _ q);show RelV (ys.getD i .As) (its.getD i Value.none);simp only[AHk,AHk,AG8 hi,z];exact y
theorem k7{K:W.Frag}{ps:List PV}{ys:List V}(h:Paired (Rep K G) ps ys):∀l:List Nat,(∀i∈l,i<ps.length)->Paired (Rep K G) (l.map λi=>ps.getD i .As) (l.map λi=>ys.getD i .As)
 |[],_=>.nil
 |i::l,hl=>by have hi:=hl i<|.head _;obtain⟨u,z,y⟩:=NF h<|AG8 hi;refine .cons ?_ (k7 h l λj q=>hl j<|.tail _ q);show Rep K G (ps.getD i .As) (ys.getD i .As);simp only[AHk,AHk,AG8 hi,z];exact y
section
variable{X:Cx}
theorem AAR{σ:St}(I:Inv X AD σ H s):∀{zs:List (Int×Int)}{ys:List V}{its:List Value},Paired (Qf X.K H) zs ys->Ar ys its->DE.PA s.heap its zs:=by
 intro zs ys its g h
 induction g generalizing its with
 |nil=>cases h;exact .nil
 |cons q r ih=>
  obtain⟨a,e,ha⟩:=q;cases h with
  |cons ru t=>
   subst e;cases ru;obtain⟨i1,z,⟨o,h1,k1,n1,y⟩,_⟩:=I.tuple ha;obtain⟨t1,t2,rfl⟩:=Xx z;exact .cons h1 k1 y<|ih t
theorem qD:Cu X (.builtin "sorted") (λxs H Q=>∃(p:Addr)(ys:List V)(zs:List<|Int×Int),xs=[.ref p]/\CO X.K H p ys/\Paired (Qf X.K H) zs ys/\ys.length<64/\zs.Nodup/\∀l,H l=none->Q (.ref l) (upd H l<|.lst<|(DE.ord zs).map λi=>ys.getD i .As)):=by
 intro AD s σ H xs us Q I r h;obtain⟨p,ys,zs,rfl,y,hp,JF,nd,q⟩:=h;obtain⟨u,rfl,v⟩:=vals1 r;cases v;obtain⟨its,z,Z,hz⟩:=I.list y;have Bh:=z.length;have LS:=Paired.length hp;have Y:=DE.Xv nd;refine DE.AEA Z.isList (AAR I hp z) nd U ?_;obtain⟨e,he⟩:=sortedAll_at s.heap its ((DE.ord zs).map λi=>its.getD i Value.none).toArray;have O:(DE.ord zs).length<=sizeLine:=by rw[DE.AAG nd];lia
 exact⟨.ref<|s.heap.objs.size+1,_,I.laid (λb o k=>sortedAll_old k) (AKi _) (show Bw X.prog X.w _ _ _ (.lst _)from⟨by rw[AGm];exact O,_,e,nA z _ (λi hi=>by have:=Y i hi;lia),he⟩),rfl,q _<|I.AX.fresh<|AKi _⟩
set_option tactic.hygienic true
theorem AAD:ET X.K Mp (λxs H Q=>∃(p:Addr)(ys:List V)(zs:List<|Int×Int),xs=[.ref p]/\CO X.K H p ys/\Paired (Qf X.K H) zs ys/\ys.length<64/\zs.Nodup/\∀l,H l=none->Q (.ref l) (upd H l<|.lst<|(DE.ord zs).map λi=>ys.getD i .As)):=by
 intro rs z H0 G H vs Q sub Y e rv q;unfold Mp at e;split at e
 .split at e
  .rename_i ps es;split at e
   .rename_i zs O;split at e
    .rename_i Z;cases e;obtain⟨v,rfl,P⟩:=rv.one;obtain⟨a,us,rfl,D,u⟩:=P.list sub es;have hp:=kA O u;have y:=u.paired.length;have hz:=Paired.length hp;refine⟨a,us,zs,rfl,.inl D,Paired.Xe hp (by rintro _ _ ⟨b,e,h⟩;exact⟨b,e,Ba.same sub h⟩),U,Z.2,λl y=>q _ _ _ (Ap.HI sub _ y) ⟨l,_,rfl,Y.free y,sub.free y,Cs,AY.of<|k7 u.paired _ λi hi=>?_⟩⟩;have:=DE.Xv Z.2 i hi;lia
    .contradiction
   .contradiction
  .contradiction
 .contradiction
end
section
variable{X:Cx}{AV AR:Hp}{e:Expr}{f:EF}{pos:Pos}
end
end L2.PL
namespace L2
open PySem PySem.Spec PyProof.Rows
section
variable{X:Cx}{k j i:Nat}{f Wc:Addr}{fd:FuncData}{ps:List Str}{sp:Sp}{E:XK}{x y n fx:Str}{p yp fp np R4 Ak apos pos:Pos}{e:Expr}{es:List Expr}{t:TA}{Ga:List Stmt}{MD:Stmt}{ts:TS}
theorem ADy{σ:St}{H:Hp}{s:Shared}{D:Ends}{R:List V->Hp->Prop}(I:Inv (X.re z pn') AD σ H s)(G:X.N.Nodup)(S:X.N[j]? = some y)(T:Loc X.env.scope y)(C:X.fn y=true\/X.env.scope.names.lookup y=some .local)(F:Cv X.prog X.w X.K X.mg X.base (Km X.prog X.w) k f fd ps sp)(b:B2 k X.A)(a:Gl X fx)(hm:X.mg fx=some (.ref f))(hk:W.keepIn X.K (.ref f)=true)(hb:Binds X.K fd ps []) (ha:PA (X.re z pn') (e::es) t) (h:t σ H R) (hQ:∀vs Z,R vs Z->∃E:XK,sp vs Z (λv P=>D.nx (σ.set j<|some v) P) E/\∀s1 e s',Inv (X.re z pn') AD σ Z s1->Km X.prog X.w X.stack Z s1 E e s'->z e s')
 (Cc:(fx==("__debug__"))=false) (he:starEach (e::es) X.env=(false,eval e X.env)::starEach es X.env) (A9:(backTo Ak<|starEach es X.env).any (·.1)=false) (hs:swapsWith (.Call (.Name fx fp) (e::es) [] Ak) (some<|.Name y yp) apos.line X.env=pure false) :
 wpAny (model X.prog X.w) X.A (execs [.Assign [.Name y yp] (.Call (.Name fx fp) (e::es) [] Ak) apos] X.env) (SP (X.re z pn') AD D) z s:=by
 refine wpAny_execs_cons<|Ae (Q:=SP (X.re z pn') AD D) (wpAny_Assign_Name (Ae (Q:=EP (X.re z pn') AD σ λv P=>D.nx (σ.set j<|some v) P) ?_ λv s1 ⟨y',Z,Y,r1,q1⟩=>?_) hs) λfl s1 q=>?_
 .refine wpAny_Call_Name_kw<|Mt (X:=X.re z pn') I a hm ?_ Cc;refine W.callWith_K I.ok.mod.Ms hk (Ae (ha Ak AD s σ H _ I h) ?_) he A9;rintro us s1 ⟨vs,Z,Y,r,q⟩;refine⟨Y.BZ,?_⟩;obtain⟨E,B,hx⟩:=hQ vs Z q;have hl:us.length=ps.length:=by rw[<-r.length];exact F.len _ _ _ _ B
  refine wpAny_call (codeAny_mono (F.run X.A X.stack s1 Z ⟨us,[]⟩ us vs _ E b Y.Vr (by have:=hb s1 us Y.BZ (by rw[AH8];exact hl);rwa [AH8]at this) r B) λr s' O=>?_);cases r with
  |error e=>exact hx s1 e s' Y O
  |ok fl=>
   cases fl with
   |ret u=>exact Y.after O
   |next=>exact False.elim O
   |brk=>exact False.elim O
   |cont=>exact False.elim O
 .exact Lo (X:=X.re z pn') Y G S T r1 (λs2 I2=>⟨_,Z,I2,q1⟩) C
 .cases fl with
  |next=>exact wpAny_execs_nil q
  |ret v=>exact q
  |brk=>exact q
  |cont=>exact q
def AEo(X:Cx)(Wc:Addr)(i j:Nat)(sp:Sp)(t:TA)(ts:TS):TS:=λD σ H=>t σ H λvs u=>∃E:XK,sp vs u (λv Z=>D.nx (σ.set j<|some v) Z) E/\
 ∀cls H',E cls none H'->∃C,cls=.ref C/\W.exmOne X.K cls (.ref Wc)=some true/\∀ea,H' ea=none->ts {nx:=λz q=>D.nx (z.set i none) q,rt:=D.rt,bk:=λz q=>D.bk (z.set i none) q,ct:=λz q=>D.ct (z.set i none) q} (σ.set i<|some<|.ref ea) (upd H' ea<|.ext<|FA ea C)
theorem ABM(d:QX X)(P:X.N.Nodup)(hi:X.N[i]? = some n)(R:X.env.scope.names.lookup n=some .local)(hg:Gl X x)(hm:X.mg x=some (.ref Wc))(hj:X.N[j]? = some y)(hy:Loc X.env.scope y)(WV:X.fn y=true\/X.env.scope.names.lookup y=some .local)(F:Cv X.prog X.w X.K X.mg X.base (Km X.prog X.w) k f fd ps sp)(hr:B2 k X.A)(WW:Gl X fx)(vh:X.mg fx=some (.ref f))(hk:W.keepIn X.K (.ref f)=true)(hb:Binds X.K fd ps []) (ha:∀DD pn',PA (X.re DD pn') (e::es) t) (hs:∀ea,Cw (X.Fs ea) (MD::Ga) ts) (Cc:(x==("__debug__"))=false) (JH:(fx==("__debug__"))=false) (he:starEach (e::es) X.env=(false,eval e X.env)::starEach es X.env) (A9:(backTo Ak<|starEach es X.env).any (·.1)=false) (E1:swapsWith (.Call (.Name fx fp) (e::es) [] Ak) (some<|.Name y yp) apos.line X.env=pure false) : PS X (.Try [.Assign [.Name y yp] (.Call (.Name fx fp) (e::es) [] Ak) apos] [.ExceptHandler (some<|.Name x np) (some n) (MD::Ga) R4] [] [] pos)<|AEo X Wc i j sp t ts:=by
 intro AD s σ H D I h;have WU:X.A.frames=some (X.env::X.outer):=by rw[<-d.F8];exact I.ok.frames
 refine wpAny_Try_except<|wpAny_mono (ADy (D:=D) (pn':=X.pn++AD) I.re P hj hy WV F hr WW vh hk hb (ha _ _) h ?_ JH he A9 E1) (λf s1 q=>?_) λe s1 q=>q
 .-- Ys exception is met
  rintro vs H1 ⟨E,hq,hh⟩;refine⟨E,hq,λs1 e s' I1 hc=>?_⟩;obtain⟨ea,cls,B,H',rfl,F,hE⟩:=hc;obtain⟨C,rfl,vk,wX⟩:=hh _ _ hE;obtain⟨a0,fl⟩:=F.V5;have fl:Heap.FlyingW B (X.env::X.outer) ea (.ref C) a0 s'.heap:=by rw[<-d.F8];exact fl
  have G:=I1.QA;have after:∀S,B.StaysIn S->s'.heap.UpToSlots S->Inv X AD σ H' {s' with heap:=S}:=λS st us=>by
   obtain⟨u,ok⟩:=F.then st us
   exact G.Zu F.os u ok F.bare λb z=>nomatch z
  refine wpAny_looks_onW WU d.fr fl λiB vL g6=>?_;refine wpAny_landsW vL λa V6 g7=>?_;have I5:=after a V6.1<|g6.trans g7;obtain⟨ob,vp,vq⟩:=V6.there;refine wpAny_handleBy_cons (codeAny_handlers_test<|Mt I5.Fs hg hm ?_ Cc) (by intro q;contradiction);have LT:W.Looks (model X.prog X.w) a (typeOf<|.ref ea)<|.ref C:=vq ▸ (W.Looks.ld vp).andThen .now;refine W.Looks.here (s:={s' with heap:=a}) (W.exm_one I5.BZ LT vk) ?_;refine codeAny_handlers_suite_as ?_;refine lands_againW V6 λiC fV wL=>?_;have I6:=after iC fV.1<|(g6.trans g7).trans wL;have Ax:∀b o,s1.heap.get? b=some o->b≠ea:=λb o e z=>by rw[z,F.nw]at e;contradiction
  have I7:Inv X AD σ (upd H' ea<|.ext<|FA ea C) {s' with heap:=iC}:=by
   refine I6.AE3 F.he (G.old d.ex F.nw) ?_ (λz=>?_) (λy c e=>?_) λp hp=>?_
   .obtain⟨_,_,_,oe,vs,T,oT,ts,he,hc,hd,_⟩:=fV;exact⟨oe,he,hc.1⟩
   .obtain⟨m,⟨o,_,_,ho,_⟩,_⟩:=G.loc;exact Ax _ _ ho z.symm
   .obtain⟨v,o,ho,_⟩:=G.cell y c e;exact Ax _ _ ho
   .exact Ax _ _ (G.pin p hp).1
  refine Lo (X:=X.Fs ea) I7.Fs P hi (.inl R) (v:=.ref ea) rfl (λs8 I8=>?_)<|.inr R;refine wpAny_mono (hs ea AD s8 _ _ _ I8<|wX ea F.he) (λf s9 q=>?_) λ_ _ z=>z.elim;cases f with
  |next=>
   obtain⟨Y,Q,Z,q⟩:=q;exact name_goes (Z.T1 I.ok) P hi R λYM O=>⟨_,Q,O,q⟩
  |brk=>
   obtain⟨Y,Q,Z,q⟩:=q;exact name_goes (Z.T1 I.ok) P hi R λYM O=>⟨_,Q,O,q⟩
  |cont=>
   obtain⟨Y,Q,Z,q⟩:=q;exact name_goes (Z.T1 I.ok) P hi R λYM O=>⟨_,Q,O,q⟩
  |ret u=>
   obtain⟨v,Y,Q,Z,r,q⟩:=q;exact name_goes (Z.T1 I.ok) P hi R λYM O=>⟨v,_,Q,O,r,q⟩
 .cases f with
  |next=>
   obtain⟨Y,H',Z,q⟩:=q;exact wpAny_execs_nil ⟨Y,H',Z.QA,q⟩
  |brk=>
   obtain⟨Y,H',Z,q⟩:=q;exact⟨Y,H',Z.QA,q⟩
  |cont=>
   obtain⟨Y,H',Z,q⟩:=q;exact⟨Y,H',Z.QA,q⟩
  |ret u=>
   obtain⟨v,Y,H',Z,r,q⟩:=q;exact⟨v,Y,H',Z.QA,r,q⟩
end
end L2
namespace L2.PL
open PySem PySem.Spec PyProof.Rows
section
variable{X:Cx}{E:XK}{AV AR:Hp}{e:Expr}{es:List Expr}{ga:AF}{pos:Pos}
noncomputable def KP(ρ:AS):AS:=ρ.map λo=>match o with|some (.im p)=>some (.im p)|_=>none
theorem il{j:Nat}(h:(KP ρ)[j]? = some (some sv)):sv.E2=false/\ρ[j]? = some (some sv):=by
 unfold KP at h;rw[AHi]at h
 match e:ρ[j]?,h with
 |some (some<|.im p),h=>cases h;exact⟨rfl,rfl⟩
set_option tactic.hygienic true
def Kl(i j:Nat)(L:List Str)(F:List PV->Option RV)(z:List PV->Option Str)(ga:AF)(y:SF):YF:=λρ=>match ga ρ with
 |some rs=>(match Ci rs with
  |some ps=>(match F ps with
   |some (.fr qs)=>some<|.o<|.nx<|ρ.set j<|some<|.own qs
   |some r=>(match r.clean with|some p=>some (.o<|.nx<|ρ.set j<|some<|.im p)|none=>none)
   |none=>(match z ps with
    |some nm=>if L.contains nm=true then(match y ((KP ρ).set i<|some<|.exc nm)with|some (.nx ρ')=>some (.o<|.nx<|ρ'.set i none)|_=>none)else none
    |none=>none))
  |none=>none)
 |none=>none
theorem ADF(c:IV X.prog X.w X.K X.mg X.base fx l m F XF)(hr:B2 k X.A)(d:QX X)(hN:X.N.Nodup)(hi:X.N[i]? = some n)(Z:X.env.scope.names.lookup n=some .local)(hg:Gl X x)(hm:X.mg x=some (.ref Wc)) (T:∀nm C,L.contains nm=true->DU X.K nm C->W.exmOne X.K (.ref C) (.ref Wc)=some true) (I:∀nm,L.contains nm=true->∃C,DU X.K nm C) (ha:∀DD pn',Cy (X.re DD pn') (e::es) ga) (Ot:∀ρ rs,ga ρ=some rs->rs.length=m) (hs:∀ea,EU (X.Fs ea) AV AR (MD::Ga) B) (hj:X.N[j]? = some y) (hy:Loc X.env.scope y) (hf:X.fn y=true\/X.env.scope.names.lookup y=some .local) (hk:l<=k) (WW:Gl X fx) (Cc:(x==("__debug__"))=false) (JH:(fx==("__debug__"))=false) (he:starEach (e::es) X.env=(false,eval e X.env)::starEach es X.env) (A9:(backTo R<|starEach es X.env).any (·.1)=false) (E1:swapsWith (.Call (.Name fx fp) (e::es) [] R) (some<|.Name y yp) u.line X.env=pure false) : Kw X E AV AR (.Try [.Assign [.Name y yp] (.Call (.Name fx fp) (e::es) [] R) u] [.ExceptHandler (some<|.Name x np) (some n) (MD::Ga) R4] [] [] pos)<|Kl i j L F XF ga B:=by
 obtain⟨f,fd,ps,h1,h2,h3,h4,h5⟩:=c;refine PS.imp (ABM (t:=Tu X.K ga) (ts:=Lr X.K AV AR B) d hN hi Z hg hm hj hy hf (h1.mono hk) hr WW h2 h3 h4 (λDD pn'=>ha DD pn') hs Cc JH he A9 E1) ?_;rintro D σ H ⟨G,ρ,o,S,e,k⟩;unfold Kl at e;split at e
 .rename_i rs eg;split at e
  .rename_i qs eq;refine⟨G,ρ,rs,S.r,eg,λvs G1 Y s1 rv=>?_⟩;have Q:=S.step s1.all;have Bh:vs.length=m:=by rw[<-Ot ρ rs eg];exact(Paired.length rv).symm
   have rc:=K1 s1.sub rv eq;split at e
   .rename_i qs' er;cases e;refine⟨λ_ _ _=>False,⟨Bh,EC G1 H Y,qs,s1.all.sub,rc,.inl ⟨_,er,λv G' H' s HR=>?_⟩⟩,λ_ _ z=>z.elim⟩;obtain⟨a,us,rfl,n,g,hq,rl⟩:=HR;exact k _ _ _ (s1.all.gg.trans s.gg)<|(Q.step s).lK Q.hh Q.r.Pr n g hq rl
   .rename_i r Ax er;split at e
    .rename_i p ep;cases e;refine⟨λ_ _ _=>False,⟨Bh,EC G1 H Y,qs,s1.all.sub,rc,.inl ⟨_,er,λv G' H' s HR=>?_⟩⟩,λ_ _ z=>z.elim⟩;have O:=Q.step s.all;exact k _ _ _ (s1.all.gg.trans s.all.gg)<|O.turn (O.r.F6<|HR.clean s.sub ep) Dk.F6
    .contradiction
   .split at e
    .rename_i nm ex;split at e
     .rename_i hL;split at e
      .rename_i ρ' es;cases e;obtain⟨C,hC⟩:=I nm hL;refine⟨λcls _ H'=>cls=.ref C/\Ah Y H',⟨Bh,EC G1 H Y,qs,s1.all.sub,rc,.inr ⟨nm,ex,λC' H' uc sm=>⟨by rw[DU.inj uc hC],sm⟩⟩⟩,?_⟩;rintro cls H' ⟨rfl,sm⟩;refine⟨C,rfl,T nm C hL hC,λea he=>?_⟩;have s2:=S.r.sub.trans<|s1.hh.trans sm;have s3:=S.hh.trans<|s1.hh.trans sm;have hG:=s2.free he;have h0:=s3.free he;have gg:Ah G<|upd G ea<|.ext<|FA ea C:=λb o h=>by rw[BM<|Du h hG];exact h
       have Kb:∀(j:Nat)(s:SV),((KP ρ).set i<|some<|SV.exc nm)[j]? = some (some s)->s.E2=true->False:=λj s h o=>by
        rcases get_set h with⟨_,z⟩|⟨_,z⟩
        .subst z;contradiction
        .rw[(il z).1]at o;contradiction
       refine⟨upd G ea<|.ext<|FA ea C,_,_,⟨⟨λb o h=>?_,λj sv h=>?_,λj _ ps _ _ _ _ h o=>(Kb j ps h o).elim,?_⟩,S.gg.trans gg,λb o h=>?_,λb h g0=>?_,λj ps _ o h=>(Kb j ps h o).elim⟩,es,λDS G2 H2 sg O=>k _ G2 H2 (gg.trans sg) O.ADx⟩
       .by_cases P:b=ea
        .subst P;rw[Cs]at h ⊢;exact h
        .rw[BM P]at h ⊢;exact s2 _ _ h
       .rcases get_set h with⟨rfl,z⟩|⟨hj,z⟩
        .cases z;have Z:=Xd h;refine⟨.ref ea,set_slot (by rw[<-S.r.len];unfold KP at Z;rwa [AGm]at Z),ea,C,rfl,hC,Cs⟩
        .obtain⟨o1,z⟩:=il z;obtain⟨w,e1,q⟩:=S.r.slot j sv z;refine⟨w,by rw[AHH<|AHh hj];exact e1,?_⟩;cases sv with
         |exc nm=>obtain⟨a,C,e,n,q⟩:=q;exact⟨a,C,e,n,gg _ _ q⟩
         |im p=>exact Rep.same gg q
         |own ps=>contradiction
         |Dv t ks xs=>contradiction
         |Eh AK=>contradiction
       .rw[AKc,AKc];unfold KP;rw[AGm];exact S.r.len
       .rw[BM<|Du h h0];exact s3 _ _ h
       .obtain⟨o,P⟩:=h.get;rw[BM<|Du P h0];exact S.ex b h g0
      .contradiction
     .contradiction
    .contradiction
  .contradiction
 .contradiction
end
set_option tactic.hygienic true
section
variable{X:Cx}
theorem qF(hc:X.calm=true):Cu X (.builtin "sum") (λxs H Q=>∃(p:Addr)(ns:List Int),xs=[.ref p]/\Ba X.K H p (ns.map V.int)/\Q (.int ns.sum) H):=by
 intro AD s σ H xs us Q I r h;obtain⟨p,ns,rfl,y,q⟩:=h;obtain⟨u,rfl,v⟩:=vals1 r;cases v;obtain⟨its,rv,hp,_⟩:=I.tuple y;have Z:=hp;have hi:=intsAre_of rv;obtain⟨xs,z⟩:=hi.allInts.items;have Y:=z ▸ Z;refine W.ktm_sumG (I.ok.hd hc) Y λh' tk t' O=>?_;have P:ns=xs.toList.map (·.1):=by rw[<-nums_intItems,<-z];exact(show numsOf its.toArray.toList=ns from hi.numsOf).symm
 have D:preSum (numAt xs) xs.size=ns.sum:=by rw[preSum_eq,AJB AGh,P]
 rw[D];exact⟨.int ns.sum,H,I.kept O,⟨_,rfl⟩,q⟩
def SW:List RV->Option RV
 |[.cl<|.tup ps]=>(DA ps).map λns=>.cl<|.int ns.sum
 |_=>none
theorem AAF:ET X.K SW (λxs H Q=>∃(p:Addr)(ns:List Int),xs=[.ref p]/\Ba X.K H p (ns.map V.int)/\Q (.int ns.sum) H):=by
 intro rs z H0 G H vs Q sub sh e rv q;unfold SW at e;split at e
 .rename_i ps;cases y:DA ps with
  |none=>rw[y]at e;contradiction
  |some ns=>
   rw[y]at e;cases e;obtain⟨v,rfl,Z⟩:=rv.one;obtain⟨a,us,rfl,u,Y⟩:=Z;rw[Hu y Y]at u;exact⟨a,ns,rfl,Ba.same sub u,q _ G H (Ap.refl sub)<|by rfl⟩
 .contradiction
end
section
variable{X:Cx}
end
noncomputable def FN(AK:List<|Int×Int)(k:Int):Option Int:=(AK.find? λp=>decide (p.1=k)).map (·.2)
theorem PK(k:Int):∀AK:List<|Int×Int,FZ (AK.map KR) (Sum.inl k:Key)=(FN AK k).map V.int
 |[]=>rfl
 |(a,b)::AK=>by
  have y:=PK k AK;unfold FN;rw[AGv];by_cases e:a=k
  .subst e;rw[QB (p:=KR (a,b)) (k:=.inl a) rfl,AKk AGh]
   rfl
  .rw[NX (p:=KR (a,b)) λz=>e<|AKf z,AKl (by simpa using e),y]
   rfl
section
variable{X:Cx}{a b c e tg iter:Expr}{es:List Expr}{fa fb fc f:EF}{g ga:AF}{pos:Pos}{AV AR:Hp}
def OT(i:Nat)(f:EF):EF:=λρ=>match ρ[i]?,f ρ with
 |some (some<|.Eh AK),some (.cl<|.int k)=>(FN AK k).map λv=>.cl<|.int v
 |_,_=>none
theorem AB3(i:Nat)(Z:X.A.units+1<cLine)(h:PX X e f)(Y:X.N[i]? = some x)(O:DJ X.env.scope x)(hd:(x==("__debug__"))=false) (P:(x==("__classdict__"))=false) (hs:Qc e):PX X (.Subscript (.Name x p) e pos)<|OT i f:=PE.imp (kK Z (Ej Y O hd P) h hs) (by
 rintro σ H Q ⟨G,ρ,z,R,e,q⟩;unfold OT at e;split at e
 .rename_i AK k D F;obtain⟨v,B,a,rfl,ga,ha⟩:=R.slot i _ D;cases y:FN AK k with
  |none=>rw[y]at e;contradiction
  |some w=>
   rw[y]at e;cases e;refine⟨_,B,G,ρ,_,R,F,λu G' H' s rv=>?_⟩;obtain rfl:=rv.int;exact⟨a,.int w,rfl,.inl ⟨_,.inl k,.inl<|s.hh _ _ ha,rfl,by rw[PK,y];rfl⟩,q _ G' H' s (by show Rep _ _ _ _;delta Rep;rfl)⟩
 .contradiction)
def JC(neg:Bool)(i:Nat)(f:EF):BF:=λρ=>match f ρ,ρ[i]? with
 |some (.cl<|.int k),some (some<|.Eh AK)=>some (if neg=true then !(FN AK k).isSome else(FN AK k).isSome)
 |_,_=>none
theorem AC2(i:Nat)(y:X.A.units+1<cLine)(h:PX X e f)(h1:behindInMarks .In (.Name x p)=false)(Z:X.N[i]? = some x)(Y:DJ X.env.scope x)(hd:(x==("__debug__"))=false) (O:(x==("__classdict__"))=false):DW X (.Compare e [.In] [.Name x p] pos)<|JC false i f:=PT.imp (kd (AAT y h<|Ej Z Y hd O) h1) (by
 rintro σ H Q ⟨G,ρ,z,R,e,q⟩;unfold JC at e;split at e
 .rename_i k AK P D;cases e;refine⟨G,ρ,_,R,P,λu G' H' s rv=>?_⟩;obtain rfl:=rv.int;obtain⟨v,F,a,rfl,ga,ha⟩:=(R.step s).slot i _ D;refine⟨_,F,a,_,rfl,.inl ⟨_,.inl k,.inl ha,rfl,rfl⟩,_,rfl,?_⟩;rw[PK,AJE];exact q G' H' s
 .contradiction)
theorem AC3(i:Nat)(y:X.A.units+1<cLine)(h:PX X e f)(h1:behindInMarks .NotIn (.Name x p)=false)(Z:X.N[i]? = some x)(Y:DJ X.env.scope x)(hd:(x==("__debug__"))=false) (O:(x==("__classdict__"))=false):DW X (.Compare e [.NotIn] [.Name x p] pos)<|JC true i f:=PT.imp (kd (AAU y h<|Ej Z Y hd O) h1) (by
 rintro σ H Q ⟨G,ρ,z,R,e,q⟩;unfold JC at e;split at e
 .rename_i k AK P D;cases e;refine⟨G,ρ,_,R,P,λu G' H' s rv=>?_⟩;obtain rfl:=rv.int;obtain⟨v,F,a,rfl,ga,ha⟩:=(R.step s).slot i _ D;refine⟨_,F,a,_,rfl,.inl ⟨_,.inl k,.inl ha,rfl,rfl⟩,_,rfl,?_⟩;rw[PK,AJE];exact q G' H' s
 .contradiction)
theorem pf:Cu X (.builtin "len") (λxs H Q=>∃(a:Addr)(AK:List<|Key×V),xs=[.ref a]/\Rd H a (.dK AK)/\Q (.int AK.length) H):=by intro AD s σ H xs us Q I r h;obtain⟨a,AK,rfl,z,q⟩:=h;obtain⟨u,rfl,y⟩:=vals1 r;cases y;exact rA I z λt s' v=>⟨.int AK.length,H,v,⟨_,rfl⟩,q⟩
noncomputable def OU(i:Nat):EF:=λρ=>match ρ[i]? with
 |some (some<|.Eh AK)=>some<|.cl<|.int (AK.length:Int)
 |_=>none
theorem AB4(i:Nat)(hm:X.mg "len" = none)(y:X.N[i]? = some x)(u:DJ X.env.scope x)(hd:(x==("__debug__"))=false) (Z:(x==("__classdict__"))=false) (Y:Gl X "len") (he:starEach [.Name x q] X.env=(false,eval (.Name x q) X.env)::starEach [] X.env) (O:(backTo pos<|starEach [] X.env).any (·.1)=false):PX X (.Call (.Name "len" p) [.Name x q] [] pos)<|OU i:=
 PE.imp (NI pf Y hm AKp (Ei (Ej (i:=i) y u hd Z) F4) AGj AGj he O) (by
 rintro σ H Q ⟨G,ρ,z,R,e,k⟩;unfold OU at e;split at e
 .rename_i AK P;cases e;obtain⟨v,D,a,rfl,ga,ha⟩:=R.slot i _ P;refine⟨_,D,a,_,rfl,.inl ha,?_⟩;rw[AGm];exact k _ G H (Ap.refl R.sub) (by show Rep _ _ _ _;delta Rep;rfl)
 .contradiction)
noncomputable def WD(i:Nat)(AK:List<|Int×Int):SF:=λρ=>some<|.nx<|ρ.set i<|some<|.Eh AK
theorem ACu(i:Nat)(Y:X.N.Nodup)(h1:PE X k1<|tC<|.int y)(Q:PE X v<|tC<|.int b1)(h3:PE X k2<|tC<|.int q)(O:PE X u<|tC<|.int b2)(P:y≠q)(hi:X.N[i]? = some x)(F:Loc X.env.scope x) (hs:swapsWith (.Dict [some k1,some k2] [v,u] Z) (some<|.Name x p) pos.line X.env=pure false) (R:X.fn x=true\/X.env.scope.names.lookup x=some .local) : CC X AV AR (.Assign [.Name x p] (.Dict [some k1,some k2] [v,u] Z) pos)<|WD i [(y,b1),(q,b2)]:=
 PS.imp (Px Y hi F (AAd (kU h1 Q<|kU h3 O ABD) rfl rfl AGh AGh) hs R) (by
 rintro D σ H ⟨G,ρ,o,S,e,k⟩;cases e;intro p hp;refine⟨Cs,[(.inl y,.int b1),(.inl q,.int b2)],rfl,AGh,?_⟩;have B:Li [] [((.inl y:Key),V.int b1),(.inl q,.int b2)]=[(y,b1),(q,b2)].map KR:=by
  unfold Li;rw[AIq,AIq,List.foldl_nil,X8 _ m9,X8 _<|by rw[AH1,NX λz=>P<|AKf z,m9]]
  rfl
 rw[B];have s:=Ap.HI S.r.sub (.dK ([(y,b1),(q,b2)].map KR)) hp;rw[show upd (upd H p<|.dK []) p (.dK ([(y,b1),(q,b2)].map KR))=upd H p (.dK ([(y,b1),(q,b2)].map KR))from funext λb=>by unfold upd;split<;>rfl];exact k _ _ _ s.gg<|(S.step s).YO S.hh S.r.Pr hp ⟨p,rfl,S.r.sub.free hp,Cs⟩)
def MU(i:Nat)(z f:EF):SF:=λρ=>match f ρ,ρ[i]?,z ρ with
 |some (.cl<|.int v),some<|some<|.Eh AK,some (.cl<|.int k)=>if AK.length<1000000/\FN AK k=none then some (.nx<|ρ.set i<|some<|.Eh<|AK ++ [(k,v)])else none
 |_,_,_=>none
theorem ACi(i:Nat)(F:X.A.units+1<cLine)(R:PX X z q)(he:PX X e f)(B:X.N[i]? = some x)(T:DJ X.env.scope x)(hd:(x==("__debug__"))=false) (C:(x==("__classdict__"))=false) (hs:swapsWith e (some<|.Subscript (.Name x p) z sp) pos.line X.env=pure false) : CC X AV AR (.Assign [.Subscript (.Name x p) z sp] e pos)<|MU i q f:=PS.imp (kZ F (Ej B T hd C) R he hs) (by
 rintro D σ H ⟨G,ρ,o,S,e,ok⟩;unfold MU at e;split at e
 .rename_i v AK k E Z I;split at e
  .rename_i Y;cases e;refine⟨G,ρ,_,S.r,E,λu n H1 s1 rv=>?_⟩;obtain rfl:=rv.int;have y:=S.step s1;obtain⟨w,Q,b,rfl,g,O⟩:=y.r.slot i _ Z;refine⟨_,Q,n,ρ,_,y.r,I,λu G2 H2 s2 rv=>?_⟩;obtain rfl:=rv.int;refine⟨b,_,rfl,.inl ⟨_,.inl k,s2.hh _ _ O,rfl,AKM (by rw[AGm];exact Y.1) AGj,rfl⟩,?_⟩;have P:=s2.ex b (.k O) g;refine ok _ _ _ (s1.gg.trans s2.gg)<|(y.step s2).chg rfl Z Q P ⟨b,rfl,P,?_⟩;rw[Cs,X8 _ (by rw[PK,Y.2];rfl),AHS]
   rfl
  .contradiction
 .contradiction)
theorem P0{K:W.Frag}:∀ns:List Int,AY K G (ns.map PV.int) (ns.map V.int)
 |[]=>by show AY _ _ [] _;delta AY;rfl
 |n::ns=>by rw[AGv,AGv];unfold AY;exact⟨_,_,rfl,by delta Rep;rfl,P0 ns⟩
end
end L2.PL
namespace L2
open PySem PySem.Spec PyProof.Rows
section
variable{prog:Program}{w:World}{A:Around}{E:Value->Shared->Prop}{s:Shared}
theorem dq(z:l≠it):∀(n i:Nat)(s:Shared)(Q:List Value->Shared->Prop),s.heap.IsListIter it l i->s.heap.IsList l items->i+n<=items.size->(∀h',h'.IsListIter it l (i+n)->Heap.SameBut it s.heap h'->Q ((items.toList.drop i).take n) {s with heap:=h'})->wpAny (model prog w) A (draw (.ref it) n) Q E s
 |0,i,s,Q,hit,_,_,hQ=>by show wpAny _ _ (pure []) Q E s;exact wpAny_pure<|by simpa using hQ s.heap hit (Heap.SameBut.refl ..)
 |n+1,i,s,Q,hit,ht,hle,hQ=>by
  have y:i<items.size:=AGi
  show wpAny _ _ (pyNext (.ref it) >>= _) Q E s;refine wpAny_bind (wpAny_pyNext_list_item hit ht (x:=items[i]) (by simp[y]) λHD v q=>?_);refine wpAny_bind<|wpAny_holding<|dq z n (i+1) _ _ v (ht.extBut q.extBut z) AGi λu p Z=>wpAny_pure ?_;have hd:items.toList.drop i=items[i]::items.toList.drop (i+1):=by simp[AIb,y]
  have:=hQ u (by rw[show i+(n+1)=i+1+n by lia];exact p)<|q.trans Z;simp only[hd,List.take_succ_cons]at this;exact this
theorem AFI(hh:A.handled=none)(y:s.heap.IsList t items) (hn:z.length=items.size) (p:z.findIdx? (·.1)=none) (h:∀h',Heap.ExtBut s.heap.objs.size s.heap h'->wpAny (model prog w) A (assignInOrder (z.map (·.2)) items.toList) Q E {s with heap:=h'}) : wpAny (model prog w) A (unpack (.ref t) z) Q E s:=by
 have q:t≠s.heap.objs.size:=by obtain⟨o,ho,_⟩:=y;exact AG7<|Heap.lt_size ho
 unfold unpack;rw[hn,p];refine wpAny_bind<|wpAny_holding ?_;unfold unpackItems;refine wpAny_bind ?_;unfold notIterableAtAll;refine wpAny_bind<|wpAny_specialOf y.typeIs slot_list_iter.lookup ?_;refine wpAny_pure ?_;dsimp only[Bool.false_eq_true,if_false];refine wpAny_bind<|wpAny_holding<|wpAny_pyIter_list y ?_;refine wpAny_bind<|wpAny_holding<|dq q items.size 0 _ _ ⟨_,Heap.get?_push_size _ rfl,rfl,rfl⟩ (y.push _) U λZ Y v=>?_;have O:List.take items.size (List.drop 0 items.toList)=items.toList:=by rw[AKo];exact AJB AGh
 rw[O];rw[AGp AGh];have P:Z.IsList t items:=(y.push _).extBut v.extBut q;refine wpAny_bind<|wpAny_holding<|wpAny_pyNext_list_end hh Y P AGh λD F=>?_;dsimp only[Option.isSome_none,Bool.false_eq_true,if_false];refine wpAny_pure<|h D λb o u e=>F b o u<|v.extBut b o u<|Heap.get?_push_of_some _ e
end
section
variable{X:Cx}{pos:Pos}
def uO(K:W.Frag)(n:Nat)(t:Gk):TG:=λv σ H Q=>∃a xs,v=.ref a/\CO K H a xs/\xs.length=n/\t xs σ H Q
theorem AAt{k:Nat}(hc:X.calm=true)(h:Gh X es t) (hn:(assignEach es X.env).length=n:=by rfl) (y:(assignEach es X.env).findIdx? (·.1)=none:=by rfl):PG X (.Tuple es k pos)<|uO X.K n t:=by intro AD s σ H v u Q I r z;obtain⟨a,xs,q,p,Z,z⟩:=z;subst q;cases r;obtain⟨its,rv,Y,hz⟩:=I.list p;rw[assign_Tuple];refine wpAny_bind (wpAny_standAt<|AFI (I.ok.hd hc) Y.isList (by simp[hn,<-Z,rv.length]) y λh' O=>?_);have P:Inv X AD σ H {s with heap:=h'}:=I.kept (t':=s.toks) λb o e=>O b o (AG7<|Heap.lt_size e) e;exact h AD _ σ H xs _ Q P (by simpa using rv) z
end
end L2
namespace L2.PL
set_option tactic.hygienic true
open PySem PySem.Spec PyProof.Rows
section
variable{X:Cx}{es:List Expr}{gs:HZ}{pos:Pos}
noncomputable def Rk(n:Nat)(gs:HZ):GF:=λp ρ=>match p with|.lst ps=>if ps.length=n then gs ps ρ else none|_=>none
theorem ACO(hc:X.calm=true)(h:Kv X es gs)(hn:(assignEach es X.env).length=n)(u:(assignEach es X.env).findIdx? (·.1)=none):Gi X (.Tuple es k pos)<|Rk n gs:=
 PG.imp (AAt hc h hn u) (by
  rintro v σ H Q ⟨G,ρ,p,ρ',R,z,e,q⟩;unfold Rk at e;split at e
  .rename_i ps;split at e
   .rename_i Z;unfold Rep at z;obtain⟨a,vs,rfl,Y,y⟩:=z;exact⟨a,vs,rfl,.inl<|Rd.same R.sub Y,by rw[<-y.len];exact Z,G,ρ,ps,ρ',R,y,e,q⟩
   .contradiction
  .contradiction)
end
section
variable{X:Cx}{a b:Expr}{fa fb:EF}{pos:Pos}
noncomputable def O6(b:Int)(y:Value):Bool:=match y with|.int k _=>k==b|_=>false
theorem iG{ns:List Int}:∀{us:List Value},Ar (ns.map V.int) us->y∈us->∃k t,y=.int k t:=by
 induction ns with
 |nil=>intro us r h;cases r;cases h
 |cons n ns ih=>
  intro us r h;cases r with
  |cons r1 r2=>
   rcases AGz.mp h with rfl|h
   .obtain⟨t,e⟩:=r1;exact⟨n,t,e⟩
   .exact ih r2 h
theorem ints_map{b:Int}{ns:List Int}:∀{us:List Value},Ar (ns.map V.int) us->us.map (O6 b)=ns.map (· == b):=by
 induction ns with
 |nil=>intro us r;cases r;rfl
 |cons n ns ih=>
  intro us r;cases r with
  |cons r1 r2=>
   obtain⟨t,e⟩:=r1;subst e;simp only[AGv,ih r2]
   rfl
theorem yn:Jg X "list.count" (λx vs H Q=>∃(l:Addr)(ns:List Int)(b:Int),x=.ref l/\vs=[.int b]/\Rd H l (.lst<|ns.map V.int)/\Q (.int (ns.countP (· == b))) H):=by
 intro AD s σ H x vs v us Q I Z rv h;obtain⟨l,ns,b,rfl,rfl,Y,q⟩:=h;cases Z;obtain⟨u,rfl,O⟩:=rv.one;obtain⟨t,rfl⟩:=O;obtain⟨z,its,n,r,e⟩:=Y.ok I.AX;refine call_meets F.slot_list_count ⟨_,e,rfl⟩ F.entry_list_count (F.args_list_count_2 _ _) (SeqAt.list_countAt l _ n none _ (.int b t)<|O6 b) ⟨e,λy p=>?_,?_⟩
 .rw[AJu]at p;obtain⟨k,t',rfl⟩:=iG r p;exact SeqAt.EqAt.int_int k t' b t
 .refine⟨.int _,H,I.tok _,⟨_,rfl⟩,?_⟩;have:its.toArray.toList.countP (O6 b)=ns.countP (· == b):=by have:=AHa (List.countP id)<|ints_map (b:=b) r;rw[AJz,AJz]at this;exact this
  rw[this];exact q
theorem yr:Jg X "list.index" (λx vs H Q=>∃(l:Addr)(ns:List Int)(b:Int),x=.ref l/\vs=[.int b]/\Rd H l (.lst<|ns.map V.int)/\ns.idxOf b<ns.length/\Q (.int<|ns.idxOf b) H):=by
 intro AD s σ H x vs v us Q I P rv h;obtain⟨l,ns,b,rfl,rfl,D,Z,q⟩:=h;cases P;obtain⟨u,rfl,R⟩:=rv.one;obtain⟨t,rfl⟩:=R;obtain⟨z,its,n,r,e⟩:=D.ok I.AX;have B:=r.length;rw[AGm]at B;have hz:=by simpa using z
 have ua:sizeLine<2 ^ 62:=AGj
 have p:ns.idxOf b<its.toArray.size:=by rw[AG2];lia
 have G:((ns.idxOf b):Int)<2 ^ 63-1:=U
 have im:=ints_map (b:=b) r;have at_:∀m (hm:m<its.length) (Y:m<ns.length),O6 b its[m]=(ns[m]==b):=λm hm Y=>by have:=AHa (λl:List Bool=>l[m]?) im;simpa[hm,Y]using this
 refine call_meets F.slot_list_index ⟨_,e,rfl⟩ F.entry_list_index (F.args_list_index_2 _ _) (SeqAt.list_indexAt l _ n none _ (.int b t) (O6 b) (ns.idxOf b) p G ?_ (λm hm p=>?_)) ⟨e,λy O=>?_,?_⟩
 .simp only[AKs,at_ _ AGi Z];simp
 .simp only[AKs,at_ _ AGi<|Br p Z];simpa using AKj p
 .rw[AJu]at O;obtain⟨k,t',rfl⟩:=iG r O;exact SeqAt.EqAt.int_int k t' b t
 .exact⟨.int _,H,I.tok _,⟨_,rfl⟩,q⟩
def KL(x y:RV):Option RV:=match x.list.bind DA,y with
 |some ns,.cl (.int b)=>some (.cl (.int (ns.countP (· == b):Nat)))
 |_,_=>none
def Mj(x y:RV):Option RV:=match x.list.bind DA,y with
 |some ns,.cl (.int b)=>if ns.idxOf b<ns.length then some (.cl<|.int (ns.idxOf b:Nat))else none
 |_,_=>none
theorem ABo(ha:PX X a fa)(O:PX X b fb)(P:attributeBase a "count" X.env (eval a X.env)=eval a X.env) (D:((backTo z<|starEach [b] X.env).all (λx=>!x.1)&&(backToKw z<|keywordEach [] X.env).all (λx=>x.1.isSome)&&decide ([b].length+([]:List Keyword).length+(if([]:List Keyword).isEmpty then 0 else 1)<30))=true)
 (F:(Y.endLine==z.line)=true) (hs:starEach [b] X.env=(false,eval b X.env)::starEach [] X.env) (B:(backTo z<|starEach [] X.env).any (·.1)=false) :
 PX X (.Call (.Attribute a "count" Y) [b] [] z) (f2 KL fa fb):=
 PE.imp (NH AH6 AKU AKV yn ha (Ei O F4 hs) P D F hs B) (by
  rintro σ H Q ⟨G,ρ,r,R,e,q⟩;unfold f2 at e;cases ea:fa ρ with
  |none=>rw[ea]at e;contradiction
  |some x=>
   rw[ea]at e;cases v:fb ρ with
   |none=>rw[v]at e;contradiction
   |some y=>
    rw[v]at e;dsimp only at e;unfold KL at e;split at e
    .rename_i ns k u;cases e;cases p:x.list with
     |none=>rw[p]at u;contradiction
     |some ps=>
      rw[p]at u;refine⟨G,ρ,x,R,ea,λvx S H1 s1 T=>?_⟩;obtain⟨l,vs,rfl,Z,C⟩:=T.list s1.sub p;refine⟨.inl ⟨rfl,vs,.inl Z⟩,S,ρ,_,R.step s1,v,λvy E I s2 n=>?_⟩;rw[Hu u C]at Z;exact⟨l,ns,k,rfl,by rw[n.int],Rd.same s2.hh Z,q _ E I (s1.trans s2)<|by rfl⟩
    .contradiction)
theorem ABw(ha:PX X a fa)(O:PX X b fb)(P:attributeBase a "index" X.env (eval a X.env)=eval a X.env) (D:((backTo z<|starEach [b] X.env).all (λx=>!x.1)&&(backToKw z<|keywordEach [] X.env).all (λx=>x.1.isSome)&&decide ([b].length+([]:List Keyword).length+(if([]:List Keyword).isEmpty then 0 else 1)<30))=true)
 (F:(Y.endLine==z.line)=true) (hs:starEach [b] X.env=(false,eval b X.env)::starEach [] X.env) (B:(backTo z<|starEach [] X.env).any (·.1)=false) :
 PX X (.Call (.Attribute a "index" Y) [b] [] z) (f2 Mj fa fb):=
 PE.imp (NH AH6 AKW AKX yr ha (Ei O F4 hs) P D F hs B) (by
  rintro σ H Q ⟨G,ρ,r,R,e,q⟩;unfold f2 at e;cases ea:fa ρ with
  |none=>rw[ea]at e;contradiction
  |some x=>
   rw[ea]at e;cases v:fb ρ with
   |none=>rw[v]at e;contradiction
   |some y=>
    rw[v]at e;dsimp only at e;unfold Mj at e;split at e
    .rename_i ns k u;split at e
     .rename_i S;cases e;cases p:x.list with
      |none=>rw[p]at u;contradiction
      |some ps=>
       rw[p]at u;refine⟨G,ρ,x,R,ea,λvx T H1 s1 C=>?_⟩;obtain⟨l,vs,rfl,Z,E⟩:=C.list s1.sub p;refine⟨.inl ⟨rfl,vs,.inl Z⟩,T,ρ,_,R.step s1,v,λvy I n s2 t=>?_⟩;rw[Hu u E]at Z;exact⟨l,ns,k,rfl,by rw[t.int],Rd.same s2.hh Z,S,q _ I n (s1.trans s2)<|by rfl⟩
     .contradiction
    .contradiction)
end
section
variable{X:Cx}{pos:Pos}{AV AR:Hp}
noncomputable def PD(_ qs:List PV):Option<|List PV:=match qs with|[]=>some []|_=>none
theorem ya{K:W.Frag}:Qb K PD kj:=by
 intro ps qs DP G H a vs us Q e ha rl rq q;unfold PD at e;split at e
 .cases e;subst rq;exact⟨a,vs,rfl,rfl,ha,q _ _<|by rfl⟩
 .contradiction
theorem ACb(i:Nat)(v:X.N[i]? = some x)(u:DJ X.env.scope x)(hd:(x==("__debug__"))=false) (Z:(x==("__classdict__"))=false) (Y:attributeBase (.Name x p) "clear" X.env (eval (.Name x p) X.env)=eval (.Name x p) X.env) (Q:(z.endLine==y.line)=true) (O:swapsWith (.Call (.Attribute (.Name x p) "clear" z) [] [] y) none pos.line X.env=pure false) : CC X AV AR (.Expr (.Call (.Attribute (.Name x p) "clear" z) [] [] y) pos)<|Ob i PD:=
 PS.imp (TQ (kG AH6 PySem.F.slot_list_clear PySem.F.type_list_clear yj (Ej v u hd Z) Y Q) O) λ_ _ _ q=>AEY ya q
end
end L2.PL
namespace L2.K
open L2.PL
noncomputable abbrev Ca:=(AH (AG 0) AO)
noncomputable abbrev CM:=(fB Ds Ca)
noncomputable abbrev D4:=(f2 Am (AG 0)<|fC<|.int 0)
noncomputable abbrev cK:=(f2 BV (f2 Ay (f2 DN (f2 BV (AG 2)<|fC<|.int 65521)<|fC<|.int 48271)<|f2 DN (AG 1)<|fC<|.int 30103)<|fC<|.int 65521)
def aV:SF:=(AM (Au (AU<|f2 CA (AG 1) CM) (Aw<|f2 Am (AG 0)<|AG 1) A8)<|AM (Ac 2<|fC<|.int 0)<|AM (Au (AU<|f2 CS CM<|fC<|.int 0) (Ac 2 D4) A8)<|Aw cK)
def E8:List PV->Option RV:=denote 3 2 aV
noncomputable abbrev He:=(f2 Am (AG 1)<|fC<|.int 0)
noncomputable abbrev dU:=(f2 BI He D4)
noncomputable abbrev Fh:=(f2 Am (AG 1)<|fC<|.int 1)
noncomputable abbrev FE:=(f2 Am (AG 0)<|fC<|.int 1)
noncomputable abbrev dX:=(f2 BI Fh FE)
noncomputable abbrev dY:=(f2 BI (f2 Am (AG 2)<|fC<|.int 1) FE)
noncomputable abbrev dZ:=(f2 BI (f2 Am (AG 2)<|fC<|.int 0) D4)
def rP:SF:=(AM (JE 3 4<|AH dU<|AH dX AO)<|Aw<|f2 BI (f2 DN (AG 3) dY)<|f2 DN (AG 4) dZ)
def DV:List PV->Option RV:=denote 5 3 rP
noncomputable abbrev OG:=(AH CM AO)
noncomputable abbrev Ip:=(CQ OG)
noncomputable abbrev OE:=(f2 Am (AG 0)<|f2 BI (AG 1)<|fC<|.int 1)
noncomputable abbrev bu:=(f2 Bg (AW DV<|AH (f2 Am (AG 0)<|f2 BI (AG 1)<|fC<|.int 2)<|AH OE<|AH (f2 Am (AG 0)<|AG 1) AO)<|fC<|.int 0)
noncomputable abbrev K8:=(Aw<|fC<|.bl true)
noncomputable abbrev ba:=(Au (AU bu) K8 A8)
noncomputable abbrev CU:=(Aw<|fC<|.bl false)
def aY:SF:=(AM (Bo Ip (Aa 1) ba) CU)
def QR:List PV->Option RV:=denote 2 1 aY
noncomputable abbrev Vk:=(AW E8<|AH (AG 0)<|AH (f2 Ay (AG 1)<|fC<|.int 1) AO)
noncomputable abbrev dA:=(f2 BV Vk<|fC<|.int 4)
noncomputable abbrev OH:=(f2 BI (AG 2)<|fC<|.int 1)
noncomputable abbrev Q2:=(AH (fC<|.int 1)<|AH OH AO)
noncomputable abbrev Q8:=(f2 Ay (AG 4)<|fC<|.int 1)
noncomputable abbrev RI:=(Au (AU<|f2 Bg (f2 BV (AG 8)<|fC<|.int 2)<|fC<|.int 0) (DY 5 Ef<|AH (A6<|AH (AG 4)<|AH (f2 BI (fC<|.int 0)<|AG 9) AO) AO)<|DY 6 Ef<|AH (A6<|AH (AG 4)<|AH (AG 9) AO) AO)
noncomputable abbrev Vb:=(AM (Ac 8<|AW E8<|AH (AG 0)<|AH (f2 Ay (f2 Ay (AG 1)<|fC<|.int 4)<|AG 7) AO)<|AM (Ac 4<|f2 Ay Q8<|f2 BV (f2 Cd (AG 8)<|fC<|.int 2)<|fC<|.int 4)<|AM (Ac 9<|f2 Ay (fC<|.int 1)<|f2 BV (f2 Cd (AG 8)<|fC<|.int 8)<|fC<|.int 9)<|AM (Au (AU<|f2 Bg (AG 3)<|fC<|.int 3) (AM (Ac 4<|AG 7)<|Ac 9<|f2 DN (AG 7)<|f2 BI OH<|AG 7) A8) RI)
noncomputable abbrev MI:=(AH (fC<|.int 0) AO)
noncomputable abbrev b7:=(f2 Ay (f2 Ay (B9<|AH (A6<|AH (fC<|.int 0) MI) AO)<|AG 5)<|B9<|AH (A6<|AH Q8 MI) AO)
noncomputable abbrev Es:=(AH (AG 2) AO)
noncomputable abbrev OL:=(CQ Es)
noncomputable abbrev cW:=(A6<|AH (AG 0)<|AH (f2 BI (fC<|.int 0)<|f2 DN (AG 0)<|f2 BI (f2 BI (AG 1)<|fC<|.int 1)<|AG 0) AO)
def ao:SF:=(AM (Ac 3 dA)<|AM (Ac 4<|fC<|.int 0)<|AM (Ed 5<|B9 AO)<|AM (Ed 6<|B9 AO)<|AM (Bo (DL Q2) (Aa 7) Vb)<|AM (Ac 10<|f2 Ay b7<|Gs<|AG 6)<|AM (Au (AU<|AW QR<|AH (AG 10) AO) (Ac 10<|A5 OL 1 [2] (Aa 0) BP cW) A8)<|Aw<|AG 10)
def UX:List PV->Option RV:=denote 11 3 ao
noncomputable abbrev OK:=(AH (fC<|.int 5) AO)
noncomputable abbrev OM:=(RY<|fC<|.int 1)
noncomputable abbrev Ve:=(AM (Ac 5<|AW E8<|AH (AG 0)<|AH (f2 Ay (f2 Ay (AG 1)<|fC<|.int 5)<|AG 4) AO)<|AM (DY 2 Ef<|AH (f2 Ay (f2 Ay (f2 Am (AG 2) OM)<|fC<|.int 1)<|f2 BV (AG 5)<|fC<|.int 4) AO)<|DY 3 Ef<|AH (f2 Ay (f2 Ay (f2 Am (AG 3) OM)<|fC<|.int 1)<|f2 BV (f2 Cd (AG 5)<|fC<|.int 4)<|fC<|.int 4) AO)
noncomputable abbrev Gq:=(Hj 2<|Fo (Aa 0)<|Fo (Aa 1) LO)
def rS:SF:=(AM (Ed 2<|B9 MI)<|AM (Ed 3<|B9 MI)<|AM (Bo (CQ OK) (Aa 4) Ve)<|AM (Ac 6<|B9<|AH (A6<|AH (fC<|.int 0) MI)<|AH (A6<|AH (fC<|.int 5) MI)<|AH (A6<|AH (fC<|.int 5) OK)<|AH (A6<|AH (fC<|.int 1) OK)<|AH (A6<|AH (fC<|.int 1)<|AH (fC<|.int 2) AO)<|AH (A6<|AH (fC<|.int 3)<|AH (fC<|.int 2) AO)<|AH (A6<|AH (fC<|.int 3)<|AH (fC<|.int 3) AO)<|AH (A6<|AH (fC<|.int 2)<|AH (fC<|.int 3) AO)<|AH (A6<|AH (fC<|.int 2)<|AH (fC<|.int 4) AO)<|AH (A6<|AH (fC<|.int 4)<|AH (fC<|.int 4) AO)<|AH (A6<|AH (fC<|.int 4)<|AH (fC<|.int 1) AO)<|AH (A6<|AH (fC<|.int 0)<|AH (fC<|.int 1) AO) AO)<|Aw<|A5 (B5 false<|AG 6) 2 [2,3] Gq BP<|A6<|AH (f2 Am (AG 2)<|AG 0)<|AH (f2 Am (AG 3)<|AG 1) AO)
def Uc:List PV->Option RV:=denote 7 2 rS
noncomputable abbrev Js:=(f2 Am (AG 0)<|AG 2)
noncomputable abbrev cz:=(JE 3 4<|AH (f2 Am (AG 0) OH)<|AH Js AO)
noncomputable abbrev Q9:=(f2 Am (AG 3)<|fC<|.int 0)
noncomputable abbrev K5:=(f2 Am (AG 4)<|fC<|.int 1)
noncomputable abbrev RA:=(f2 Am (AG 3)<|fC<|.int 1)
noncomputable abbrev K6:=(f2 Am (AG 4)<|fC<|.int 0)
noncomputable abbrev bW:=(AM cz<|Ac 1<|f2 BI (f2 Ay (AG 1)<|f2 DN Q9 K5)<|f2 DN RA K6)
def aU:SF:=(AM (Ac 1<|fC<|.int 0)<|AM (Bo Ip (Aa 2) bW)<|Aw<|AG 1)
def UO:List PV->Option RV:=denote 5 1 aU
noncomputable abbrev MH:=(AH (AG 1) Es)
noncomputable abbrev Q4:=(AH (AG 0) MH)
noncomputable abbrev dN:=(AH D4<|AH He AO)
noncomputable abbrev Vg:=(AH FE<|AH Fh AO)
def ai:SF:=(AM (Au (AU<|f2 CN (AW DV Q4)<|fC<|.int 0) CU A8)<|AM (Ac 3<|A6<|AH (fB IA dN)<|AH (fB IA Vg) AO)<|AM (Ac 4<|A6<|AH (fB GP dN)<|AH (fB GP Vg) AO)<|Aw<|DX (Dl CY CY Q9 (f2 Am (AG 2)<|fC<|.int 0) K6)<|Dl CY CY RA (f2 Am (AG 2)<|fC<|.int 1) K5)
def Kq:List PV->Option RV:=denote 5 3 ai
noncomputable abbrev Ea:=(AH (AG 3) AO)
noncomputable abbrev cS:=(Ac 4<|B9<|AH (A6 Q4)<|AH (A6<|AH (AG 0)<|AH (AG 1) Ea) AO)
noncomputable abbrev VX:=(AH (AG 2)<|AH (AG 3) Ca)
noncomputable abbrev Cj:=(AH (AG 1) AO)
noncomputable abbrev cH:=(Ac 4<|f2 Ay (AG 4)<|B9<|AH (A6 VX)<|AH (A6<|AH (AG 2)<|AH (AG 3) Cj) AO)
noncomputable abbrev RC:=(Fo (Aa 6)<|Fo (Aa 7) LO)
noncomputable abbrev RD:=(AH (AG 6)<|AH (AG 7) AO)
noncomputable abbrev dC:=(Au (AU<|AW Kq<|AH (AG 5) RD) K8 A8)
def ah:SF:=(AM cS<|AM cH<|AM (Bo (B5 true<|AG 4) (Hj 3<|Fo (Aa 5) RC) dC)<|AM (Ac 8<|f2 CN (f2 CS (AW DV Q4)<|fC<|.int 0)<|f2 CS (AW DV<|AH (AG 0)<|AH (AG 1) Ea)<|fC<|.int 0)<|Aw<|DX (AG 8)<|f2 CN (f2 CS (AW DV VX)<|fC<|.int 0)<|f2 CS (AW DV<|AH (AG 2)<|AH (AG 3) Cj)<|fC<|.int 0)
def QS:List PV->Option RV:=denote 9 4 ah
noncomputable abbrev Ju:=(B5 false<|AG 0)
noncomputable abbrev cf:=(f2 CS (fB GP<|AH (fB Hy Ca)<|AH (fB Hy Cj) AO)<|fC<|.int 100)
noncomputable abbrev di:=(Cb (CV<|AU<|Dl CY CY (fC<|.int 3) (AG 1)<|fC<|.int 12)<|AU<|f2 CS (fB Ds<|AH (A5 Ju 2 [] Gq (AU cf)<|fC<|.int 1) AO)<|fC<|.int 0)
noncomputable abbrev cN:=(Cb (AU<|f2 CN (LH<|AG 0)<|AG 1)<|Cb (AU<|AW QR Ca)<|AU<|f2 CY (AW UO Ca)<|fC<|.int 0)
noncomputable abbrev dh:=(B9<|AH (fC<|.int 1)<|AH (f2 BI (AG 1)<|fC<|.int 1) AO)
noncomputable abbrev cU:=(f2 (BZ true) (f2 BV (f2 BI (AG 2)<|AG 3)<|AG 1) dh)
noncomputable abbrev dD:=(AH (f2 Am (AG 0)<|f2 BI (AG 3)<|fC<|.int 1)<|AH (f2 Am (AG 0)<|AG 3) AO)
noncomputable abbrev br:=(AW QS<|AH (f2 Am (AG 0) OH)<|AH Js dD)
noncomputable abbrev dI:=(Au (AU cU) (Au (AU br) CU A8) A8)
def aZ:SF:=(AM (Ac 1 CM)<|AM (Au di CU A8)<|AM (Au cN CU A8)<|AM (Bo (CQ Cj) (Aa 2)<|Bo OL (Aa 3) dI) K8)
def UR:List PV->Option RV:=denote 4 1 aZ
noncomputable abbrev cV:=(AH (f2 BV (f2 Cd Vk<|fC<|.int 4)<|fC<|.int 5) AO)
noncomputable abbrev c9:=(Ac 4<|AW E8<|AH (AG 0)<|AH (f2 Ay (f2 Ay (AG 1)<|fC<|.int 15)<|AG 3) AO)
noncomputable abbrev Iq:=(fB Ds Es)
noncomputable abbrev cF:=(Ac 6<|f2 BI (f2 Ay (f2 Am (f2 Am (AG 2)<|AG 5)<|fC<|.int 0)<|f2 BV (f2 Cd (AG 4)<|fC<|.int 16)<|fC<|.int 33)<|fC<|.int 16)
noncomputable abbrev cE:=(Ac 7<|f2 BI (f2 Ay (f2 Am (f2 Am (AG 2)<|AG 5)<|fC<|.int 1)<|f2 BV (f2 Cd (AG 4)<|fC<|.int 1024)<|fC<|.int 33)<|fC<|.int 16)
noncomputable abbrev cA:=(Ac 8<|f2 Ay (f2 Ay (GK (AG 2) Gr<|GJ<|AG 5)<|B9<|AH (A6 RD) AO)<|GK (AG 2) (GJ<|f2 Ay (AG 5)<|fC<|.int 1) Gr)
noncomputable abbrev cJ:=(D8 (AU<|f2 CA (fB GP<|AH (fB Hy<|AH (AG 6) AO)<|AH (fB Hy<|AH (AG 7) AO) AO)<|fC<|.int 80)<|AU<|AW UR<|AH (AG 8) AO)
noncomputable abbrev bU:=(AM c9<|AM (Ac 5<|f2 BV (AG 4) Iq)<|AM cF<|AM cE<|AM cA<|Au cJ (Ac 2<|AG 8) A8)
def rO:SF:=(AM (Bo (CQ cV) (Aa 3) bU)<|Aw<|AG 2)
def UZ:List PV->Option RV:=denote 9 3 rO
noncomputable abbrev Jr:=(AH (AG 0) Cj)
noncomputable abbrev bY:=(Au (D8 (AU<|f2 Bg (AG 2)<|fC<|.int 12)<|AU<|f2 Bg (f2 BV (f2 Cd Vk<|fC<|.int 20)<|fC<|.int 6)<|fC<|.int 5) (Ac 4<|AW Uc Jr) A8)
noncomputable abbrev RL:=(AW E8<|AH (AG 0)<|AH (f2 Ay (AG 1)<|fC<|.int 2) AO)
noncomputable abbrev Jv:=(B5 false<|AG 4)
noncomputable abbrev de:=(A6<|AH (f2 Ay (AG 0)<|f2 DN (AG 2)<|AG 1) Cj)
noncomputable abbrev Hf:=(AH (AG 1) Ca)
noncomputable abbrev RM:=(AW E8<|AH (AG 0)<|AH (f2 Ay (AG 1)<|fC<|.int 3) AO)
noncomputable abbrev Iu:=(AH (AG 4) AO)
noncomputable abbrev OJ:=(fB Ds Iu)
noncomputable abbrev df:=(f2 Ay (GK (AG 4) (GJ<|AG 7) Gr)<|GK (AG 4) Gr<|GJ<|AG 7)
noncomputable abbrev dg:=(A6<|AH (f2 Ay (AG 0)<|AG 2)<|AH (f2 Ay (AG 1)<|AG 3) AO)
def au:SF:=(AM (Ac 3<|AW E8 Jr)<|AM (Ac 4<|AW UX<|AH (AG 0)<|AH (AG 1)<|AH (f2 Ay (fC<|.int 3)<|f2 BV (AG 3)<|f2 BI (AG 2)<|fC<|.int 2) AO)<|AM bY<|AM (Ac 5<|f2 BI (f2 BV (f2 Cd RL<|fC<|.int 8)<|fC<|.int 3)<|fC<|.int 1)<|AM (Ac 4<|AW UZ<|AH (AG 0)<|AH (AG 1)<|AH (A5 Jv 2 [5] Gq BP de) AO)<|AM (Ac 6<|f2 BV RL<|fC<|.int 8)<|AM (Au (AU<|f2 Bg (f2 BV (AG 6)<|fC<|.int 2)<|fC<|.int 1) (Ac 4<|Gs<|A5 Jv 2 [] Gq BP<|A6<|AH (f2 BI (fC<|.int 0)<|AG 0) Cj) A8)<|AM (Au (AU<|f2 Bg (f2 BV (f2 Cd (AG 6)<|fC<|.int 2)<|fC<|.int 2)<|fC<|.int 1) (Ac 4<|Gs<|A5 Jv 2 [] Gq BP<|A6<|AH (AG 0)<|AH (f2 BI (fC<|.int 0)<|AG 1) AO) A8)<|AM (Au (AU<|f2 Bg (f2 Cd (AG 6)<|fC<|.int 4)<|fC<|.int 1) (Ac 4<|Gs<|A5 Jv 2 [] Gq BP<|A6 Hf) A8)<|AM (Ac 7<|f2 BV RM OJ)<|AM (Ac 8<|f2 BI (f2 BV (f2 Cd RM<|fC<|.int 16)<|fC<|.int 41)<|fC<|.int 20)<|AM (Ac 9<|f2 BI (f2 BV (AW E8<|AH (AG 0)<|AH (f2 Ay (AG 1)<|fC<|.int 4) AO)<|fC<|.int 41)<|fC<|.int 20)<|Aw<|A5 (B5 false df) 2 [8,9] Gq BP dg)
def Ua:List PV->Option RV:=denote 10 3 au
noncomputable abbrev bq:=(Cb (CV<|AU<|Fm CY CA CA (fC<|.int 0) (AG 1) (AG 2)<|AG 3)<|AU<|f2 (BZ false) (f2 BI (AG 2)<|AG 1)<|B9<|AH (fC<|.int 1)<|AH (f2 BI (AG 3)<|fC<|.int 1) AO)
noncomputable abbrev Vl:=(AH (f2 Am (AG 0)<|AG 1)<|AH Js AO)
noncomputable abbrev VY:=(B9 MH)
noncomputable abbrev cG:=(D8 (AU<|f2 (BZ true) (AG 6) VY)<|AU<|AW Kq<|AH (AG 4)<|AH (AG 5)<|AH (f2 Am (AG 0)<|AG 6) AO)
noncomputable abbrev RB:=(f2 Ay (AG 6)<|fC<|.int 1)
noncomputable abbrev cP:=(D8 (AU<|f2 (BZ true) (AG 6) VY)<|AU<|f2 (BZ true) (AG 7) VY)
noncomputable abbrev cv:=(AW QS<|AH (AG 4)<|AH (AG 5)<|AH (f2 Am (AG 0)<|AG 6)<|AH (f2 Am (AG 0)<|AG 7) AO)
noncomputable abbrev cM:=(AM (Au cG CU A8)<|AM (Ac 7<|f2 BV RB<|AG 3)<|Au cP (Au (AU cv) CU A8) A8)
noncomputable abbrev RK:=(f2 Am (AG 0)<|f2 BV (f2 Ay (AG 1)<|fC<|.int 1)<|AG 3)
def af:SF:=(AM (Ac 3 CM)<|AM (Au bq CU A8)<|AM (JE 4 5 Vl)<|AM (Bo (CQ Ea) (Aa 6) cM)<|AM (Ac 8<|f2 CS (AW DV<|AH (AG 4)<|AH RK<|AH (AG 5) AO)<|fC<|.int 0)<|AM (Ac 9<|f2 CS (AW DV<|AH OE<|AH (AG 4)<|AH (AG 5) AO)<|fC<|.int 0)<|AM (Au (AU<|f2 CS (AW DV<|AH OE<|AH (AG 4)<|AH RK AO)<|fC<|.int 0) (Aw<|DX (AG 8)<|AG 9) A8)<|Aw<|Ex (AG 8)<|AG 9)
def UT:List PV->Option RV:=denote 10 3 af
noncomputable abbrev b8:=(Ex (f2 (BZ false) (f2 BI (AG 3)<|AG 4) dh)<|AW UT<|AH (AG 0)<|AH (AG 4) Ea)
noncomputable abbrev bb:=(MT 2 (AH (AG 4) Ea) b8)
noncomputable abbrev bZ:=(Bo (CQ Ea) (Aa 4) bb)
def ae:SF:=(AM (Ac 1 CM)<|AM (Rj 2 V0)<|AM (Bo (CQ Cj) (Aa 3) bZ)<|Ri 2)
def US:List PV->Option RV:=denote 5 1 ae
noncomputable abbrev dJ:=(AH (fC<|.int 0)<|AH (f2 BI Iq<|fC<|.int 1) AO)
noncomputable abbrev RH:=(fB Ds<|AH (AG 5) AO)
noncomputable abbrev VU:=(f2 CS (f2 BI (AG 7)<|AG 6)<|fC<|.int 1)
noncomputable abbrev cZ:=(D8 (AU<|LF (AG 1)<|AH (AG 2) Ca)<|AU<|LF (AG 1)<|AH (AG 0) Ea)
noncomputable abbrev cQ:=(f2 BV (f2 Cd (AW E8<|AH (AG 0)<|AH (f2 Ay (AG 1)<|AG 6) AO)<|f2 Ay (fC<|.int 1)<|AG 7)<|fB Ds<|AH (AG 8) AO)
noncomputable abbrev dF:=(f2 CA (f2 BI (AG 7)<|AG 6)<|f2 BI Iq<|fC<|.int 1)
noncomputable abbrev Va:=(AM (Ed 5<|f2 Ay (AG 5)<|B9<|AH (A6<|AH (AG 6)<|AH (AG 9) AO)<|AH (A6<|AH (AG 9)<|AH (AG 7) AO) AO)<|Au (AU dF) (DY 4 Ef<|AH (A6 RD) AO) A8)
def aW:SF:=(AM (Ac 3<|AW US Es)<|AM (Ed 4<|B9 AO)<|AM (Ed 5<|B9<|AH (A6 dJ) AO)<|AM (Oe (AU<|f2 CS RH<|fC<|.int 0)<|AM (LL 5<|Hj 2 RC)<|Au (AU VU) (AM (Ac 8<|A5 (DL<|AH RB<|AH (AG 7) AO) 1 [3,6,7] (Aa 0) cZ<|AG 0)<|AM (Ac 9<|f2 Am (AG 8) cQ) Va) A8)<|Aw<|fB Mp Iu)
def UP:List PV->Option RV:=denote 10 3 aW
noncomputable abbrev RE:=(f2 (DM false) (AG 0)<|AG 1)
noncomputable abbrev bX:=(A5 (B5 false<|AG 7) 1 [1,2] (Aa 0) (Cb (AU<|f2 (BZ false) (f2 BI FE D4)<|B9 Q2)<|AU RE)<|AG 0)
noncomputable abbrev Vc:=(AM (Ac 7<|B9<|AH (A6<|AH (AG 4)<|AH (AG 5) AO)<|AH (A6<|AH (AG 5)<|AH (AG 6) AO)<|AH (A6<|AH (AG 4)<|AH (AG 6) AO) AO)<|Au (AU<|f2 Bg (fB Ds<|AH bX AO)<|fC<|.int 3) (DY 3 Ef<|AH (A6<|AH (AG 4)<|AH (AG 5)<|AH (AG 6) AO) AO) A8)
def aj:SF:=(AM (Ac 2 CM)<|AM (Ed 3<|B9 AO)<|AM (Bo OL (Aa 4)<|Bo (DL<|AH Q8 Es) (Aa 5)<|Bo (DL<|AH (f2 Ay (AG 5)<|fC<|.int 1) Es) (Aa 6) Vc)<|Od 3)
def UU:List PV->Option RV:=denote 8 2 aj
noncomputable abbrev cC:=(DX (f2 CY (fB Hy<|AH D4 AO)<|fC<|.int 100)<|f2 CY (fB Hy<|AH FE AO)<|fC<|.int 100)
def aH:SF:=(Aw<|fB Fx<|AH (A5 Ju 1 [] (Aa 0) BP cC) AO)
def QK:List PV->Option RV:=denote 1 1 aH
def bF:SF:=(Aw<|f2 BI (f2 DN dU dY)<|f2 DN dX dZ)
def IT:List PV->Option RV:=denote 3 3 bF
noncomputable abbrev Jt:=(f2 Am (AG 1)<|AG 0)
noncomputable abbrev bw:=(f2 CN (AW IT<|AH (f2 Am (AG 1)<|f2 BI (AG 0)<|fC<|.int 2)<|AH (f2 Am (AG 1)<|f2 BI (AG 0)<|fC<|.int 1)<|AH Jt AO)<|fC<|.int 0)
def rF:SF:=(Aw<|fB Fx<|AH (A5 Ip 1 [0] (Aa 0) BP bw) AO)
def UG:List PV->Option RV:=denote 1 1 rF
noncomputable abbrev Ir:=(fB Ds Cj)
noncomputable abbrev cR:=(A6<|AH Jt<|AH (f2 Am (AG 1)<|f2 BV (f2 Ay (AG 0)<|fC<|.int 1) Ir) AO)
def rX:SF:=(Aw<|A5 Ip 1 [0] (Aa 0) BP cR)
def L4:List PV->Option RV:=denote 1 1 rX
def aI:SF:=(Aw<|f2 (BZ false) (f2 BV (f2 BI (AG 2)<|AG 1)<|AG 0)<|A6<|AH (fC<|.int 1)<|AH (f2 BI (AG 0)<|fC<|.int 1) AO)
def Lx:List PV->Option RV:=denote 3 3 aI
def ay:SF:=(AM (Ac 2<|AW IT<|AH D4<|AH FE<|AH He AO)<|AM (Ac 3<|AW IT<|AH D4 Vg)<|Aw<|Ex (DX (f2 CA (AG 2)<|fC<|.int 0)<|f2 CS (AG 3)<|fC<|.int 0)<|DX (f2 CS (AG 2)<|fC<|.int 0)<|f2 CA (AG 3)<|fC<|.int 0)
def Nn:List PV->Option RV:=denote 4 2 ay
noncomputable abbrev dO:=(AH (f2 Am (AG 2)<|fC<|.int 0)<|AH Q9 AO)
noncomputable abbrev dP:=(AH (f2 Am (AG 2)<|fC<|.int 1)<|AH RA AO)
def VS:SF:=(AM (Ac 2 He)<|AM (Ac 3 Fh)<|AM (Au (AU<|f2 CN (AW IT VX)<|fC<|.int 0) CU A8)<|AM (Ac 4<|Dl CY CY (fB IA dO) D4<|fB GP dO)<|AM (Ac 5<|Dl CY CY (fB IA dP) FE<|fB GP dP)<|Aw<|DX (AG 4)<|AG 5)
def HX:List PV->Option RV:=denote 6 2 VS
def av:SF:=(AM (Au (D8 (AU<|AW Nn Jr)<|AU<|AW Nn Hf) K8 A8)<|AM (Ac 2<|Ex (AW HX<|AH He Ca)<|AW HX<|AH Fh Ca)<|AM (Ac 3<|Ex (AW HX<|AH D4 Cj)<|AW HX<|AH FE Cj)<|Aw<|Ex (AG 2)<|AG 3)
def Lz:List PV->Option RV:=denote 4 2 av
noncomputable abbrev VZ:=(AH Ir AO)
noncomputable abbrev Q6:=(CQ VZ)
noncomputable abbrev Vh:=(AH (f2 Ay (AG 2)<|fC<|.int 1) VZ)
noncomputable abbrev RF:=(AH (AG 2) Ea)
noncomputable abbrev b9:=(D8 (CV<|AU<|AW Lx<|AH Ir RF)<|AU<|AW Lz<|AH (f2 Am (AG 1)<|AG 2)<|AH (f2 Am (AG 1)<|AG 3) AO)
noncomputable abbrev bp:=(Au b9 CU A8)
def bG:SF:=(AM (Ac 1<|AW L4 Ca)<|AM (Bo Q6 (Aa 2)<|Bo (DL Vh) (Aa 3) bp) K8)
def Uj:List PV->Option RV:=denote 4 1 bG
noncomputable abbrev Q7:=(B5 false<|AW L4 Ca)
noncomputable abbrev dQ:=(AH D4<|AH FE AO)
noncomputable abbrev Vd:=(AW IT<|AH (fC<|.tup [(.int 0),(.int 0)]) dQ)
def rM:SF:=(Aw<|fB Lb<|AH (A5 Q7 1 [] (Aa 0) BP Vd) AO)
def UK:List PV->Option RV:=denote 1 1 rM
def aN:SF:=(AM (Au (CV<|AU<|Dl CY CY (fC<|.int 3) CM<|fC<|.int 12) CU A8)<|AM (Au (AU<|f2 CN (LH<|AG 0) CM) CU A8)<|Aw<|DX (AW QK Ca)<|DX (AW UG Ca)<|DX (AW Uj Ca)<|f2 CS (AW UK Ca)<|fC<|.int 0)
def UM:List PV->Option RV:=denote 1 1 aN
def aJ:SF:=(Au (CV<|AU<|AW UM Ca) Rh A8)
def UI:List PV->Option RV:=denote 1 1 aJ
def rW:SF:=(Aw<|fB Fx<|AH (A5 (DL<|AH (fC<|.int 1) OG) 1 [0] (Aa 0) BP<|f2 (Mo K0) (f2 Am (AG 1)<|f2 BI (AG 0)<|fC<|.int 1) Jt) AO)
def Uh:List PV->Option RV:=denote 1 1 rW
noncomputable abbrev ck:=(AW IT<|AH D4<|AH FE Cj)
def rT:SF:=(AM (Ac 2<|f2 CS (f2 Am D4<|fC<|.int 1) Fh)<|AM (Ac 3<|f2 CS (f2 Am FE<|fC<|.int 1) Fh)<|AM (Au (AU<|f2 Bg (AG 2)<|AG 3) CU A8)<|AM (Ac 4 ck)<|Aw<|JA (AU<|AG 3) (f2 CS (AG 4)<|fC<|.int 0)<|f2 CA (AG 4)<|fC<|.int 0)
def QT:List PV->Option RV:=denote 5 2 rT
def bC:SF:=(AM (Au (AU<|fB KJ<|AH (A5 Ju 1 [1] (Aa 0) BP<|AW HX Hf) AO) (Aw<|fC<|.str "on") A8)<|AM (Ac 2<|A5 Ju 1 [1] (Aa 0) (AU<|AW QT Jr)<|AG 0)<|Aw<|JA (AU<|f2 Bg (f2 BV Iq<|fC<|.int 2)<|fC<|.int 1) (fC<|.str "in")<|fC<|.str "out")
def QU:List PV->Option RV:=denote 3 2 bC
noncomputable abbrev cO:=(A6<|AH (f2 DN (fC<|.int 2) D4)<|AH (f2 DN (fC<|.int 2) FE) AO)
def aw:SF:=(AM (Ac 2<|A5 Ju 1 [] (Aa 0) BP cO)<|AM (Ac 3<|A6<|AH (f2 Ay (f2 Am He<|fC<|.int 0)<|f2 Am Fh<|fC<|.int 0)<|AH (f2 Ay (f2 Am He<|fC<|.int 1)<|f2 Am Fh<|fC<|.int 1) AO)<|Aw<|f2 Bg (AW QU<|AH (AW L4 Es) Ea)<|fC<|.str "in")
def Ud:List PV->Option RV:=denote 4 2 aw
noncomputable abbrev cT:=(D8 (AU<|f2 (DM true) He<|AG 0)<|AU<|f2 (DM true) Fh<|AG 0)
def aM:SF:=(AM (Au (Cb (CV<|AU<|Fm CY CA CA (fC<|.int 0) (AG 1) (AG 2) CM)<|AU<|AW Lx<|AH CM MH) CU A8)<|AM (Ac 3<|A6 Vl)<|AM (Ac 4<|A5 Q7 1 [3] (Aa 0) cT<|AG 0)<|AM (Au (AU<|fB KJ<|AH (A5 Jv 1 [3] (Aa 0) BP<|AW Lz Hf) AO) CU A8)<|Aw<|AW Ud<|AH (AG 0) Ea)
def QM:List PV->Option RV:=denote 5 3 aM
def rJ:SF:=(Aw<|Ex (Fm CA CA CA D4 He FE Fh)<|Fm CA CA CA He D4 Fh FE)
def QL:List PV->Option RV:=denote 2 2 rJ
def rK:SF:=(Aw<|LI<|fB KJ<|AH (A5 (B5 false<|AG 1) 1 [0] (Aa 0) BP<|AW QL Hf) AO)
def UJ:List PV->Option RV:=denote 2 2 rK
noncomputable abbrev cq:=(AW QM<|AH (AG 1) dQ)
def rL:SF:=(AM (Au (AU<|f2 CN Ir<|f2 BI CM<|fC<|.int 3) CU A8)<|AM (Au (Cb (CV<|AU<|AW Uh Cj)<|CV<|AU<|fB Fx<|AH (A5 (B5 false<|AG 1) 1 [0] (Aa 0) BP cq) AO) CU A8)<|Aw<|fB Fx<|AH (A5 Q6 1 [1] (Aa 0) BP<|AW UJ<|AH Jt<|AH (GK (AG 1) Gr<|GJ<|AG 0) AO) AO)
def Kp:List PV->Option RV:=denote 2 2 rL
def rH:SF:=(Au (CV<|AU<|AW Kp Jr) Rh A8)
def UH:List PV->Option RV:=denote 2 2 rH
def rG:SF:=(Aw<|Ex (AW Lx<|AH (AG 0) RF)<|f2 (DM false) (A6<|AH (fB IA RF)<|AH (fB GP RF) AO)<|AG 1)
def Ni:List PV->Option RV:=denote 4 4 rG
noncomputable abbrev c8:=(AW Ni<|AH (AG 1)<|AH (AG 2)<|AH (AG 0)<|AH Q9 AO)
def bD:SF:=(AM (Ac 3<|A5 (CQ Ca) 1 [0,1,2] (Aa 0) (AU c8)<|AG 0)<|Aw<|A5 (B5 false<|AG 3) 1 [0,1,2] (Aa 0) (AU<|AW Ni<|AH (AG 1)<|AH (AG 2)<|AH (AG 0)<|AH RA AO)<|AG 0)
def Ui:List PV->Option RV:=denote 4 3 bD
noncomputable abbrev dk:=(AW Ni<|AH (AG 0)<|AH (AG 1)<|AH (AG 3) Iu)
noncomputable abbrev dM:=(AW Ui<|AH (AG 0)<|AH (AG 1)<|AH (A6<|AH (AG 3) Iu) AO)
noncomputable abbrev cX:=(A5 (B5 false<|AG 5) 1 [4,3] (Aa 0) (AU<|f2 CS (AG 0)<|AG 1)<|A6<|AH (AG 2) Hf)
noncomputable abbrev dW:=(Au (AU dk) (AM (Ac 5 dM)<|DY 2 Mi<|AH cX AO) A8)
def bE:SF:=(AM (Ed 2<|B9 AO)<|AM (Bo (CQ Ca) (Aa 3)<|Bo (DL<|AH (f2 Ay (AG 3)<|fC<|.int 1) Ca) (Aa 4) dW)<|Od 2)
def Np:List PV->Option RV:=denote 6 2 bE
noncomputable abbrev dj:=(A5 (D9<|AG 3) 1 [2] (Aa 0) (JC false 1<|AG 0)<|OT 1<|AG 0)
noncomputable abbrev VW:=(fC<|.tup [(.int 0),(.int 1),(.int 2)])
noncomputable abbrev c6:=(f2 BI (fB SW<|AH VW AO)<|fB Lb<|AH (AG 5) AO)
noncomputable abbrev RJ:=(AM (Ac 4<|A5 (D9<|AG 3) 1 [2] (Aa 0) (JC true 1<|AG 0)<|AG 0)<|Au (AU<|f2 Bg OJ<|fC<|.int 1) (AM (Ac 5 dj)<|MU 2 K6 c6) A8)
def aL:SF:=(AM (WD 2 [(0,0),(1,1)])<|AM (Oe (AU<|f2 CA (OU 2)<|AG 0)<|Bo (B5 true<|AG 1) (Aa 3) RJ)<|Aw<|A5 (CQ Ca) 1 [2] (Aa 0) BP<|OT 1<|AG 0)
def Nj:List PV->Option RV:=denote 6 2 aL
noncomputable abbrev OI:=(J3<|AW UI Ca)
noncomputable abbrev Q3:=(J3<|AW UH Jr)
noncomputable abbrev cY:=(AW Nj<|AH CM<|AH (AW Np<|AH CM Cj) AO)
def aK:SF:=(AM OI<|AM Q3<|Aw cY)
def UL:List PV->Option RV:=denote 2 2 aK
def aX:SF:=(AM (Ac 2<|A5 (CQ<|AH (fC<|.int 3) AO) 1 [0] (Aa 0) BP<|f2 KL (AG 1)<|AG 0)<|AM (Ac 3<|f2 Mj (AG 2)<|fB JM Es)<|Aw<|A5 (CQ Cj) 1 [3,0] (Aa 0) (AU<|f2 Bg (f2 Am (AG 2)<|AG 0)<|AG 1)<|AG 0)
def UQ:List PV->Option RV:=denote 4 2 aX
def aQ:SF:=(AM (Ac 1<|A5 (D9 VW) 1 [0] (Aa 0) BP<|f2 KL (AG 1)<|AG 0)<|AM (Ac 2<|f2 Mj (AG 1)<|fB JM Cj)<|Aw<|A5 Ip 1 [2,0] (Aa 0) (AU<|f2 Bg (f2 Am (AG 2)<|AG 0)<|AG 1)<|AG 0)
def QP:List PV->Option RV:=denote 3 1 aQ
def aO:SF:=(AM OI<|AM Q3<|Aw<|AW QP<|AH cY AO)
def QO:List PV->Option RV:=denote 2 2 aO
noncomputable abbrev bj:=(Au (Cb (CV<|AU<|FF "int" Js)<|Cb (AU<|FF "bool" Js)<|AU<|f2 CN Js<|f2 Am (AG 1)<|AG 2) CU A8)
def aa:SF:=(AM (Au (Cb (CV<|AU<|FF "list"<|AG 0)<|AU<|f2 CN CM Ir) CU A8)<|AM (Bo Q6 (Aa 2) bj) K8)
def Ly:List PV->Option RV:=denote 3 2 aa
noncomputable abbrev Jq:=(f2 Am (AG 5)<|fC<|.int 0)
noncomputable abbrev K7:=(f2 Am (AG 5)<|fC<|.int 1)
noncomputable abbrev RG:=(CQ<|AH (fC<|.int 2) AO)
noncomputable abbrev dm:=(A5 (B5 false<|AG 1) 1 [0] (Aa 0) BP<|f2 Am (AG 0)<|AG 1)
noncomputable abbrev da:=(AH dm AO)
noncomputable abbrev dG:=(fB JM da)
noncomputable abbrev dH:=(fB Mn da)
def VR:SF:=(AM (Ac 3<|AW E8 Jr)<|AM (Ac 4<|f2 Am (AG 2)<|f2 BV (AG 3) Iq)<|AM (Ac 5<|f2 Am (AG 2)<|f2 BV (f2 Cd (AG 3)<|fC<|.int 16) Iq)<|AM (Ac 6 dA)<|AM (Au (AU<|f2 Bg (AG 6)<|fC<|.int 0) (Aw<|AG 4) A8)<|AM (Au (AU<|f2 Bg (AG 6)<|fC<|.int 1) (Aw<|A6<|AH (f2 Cd (f2 Ay K6 Jq)<|fC<|.int 2)<|AH (f2 Cd (f2 Ay K5 K7)<|fC<|.int 2) AO) A8)<|AM (Au (AU<|f2 Bg (AG 6)<|fC<|.int 2) (Aw<|A6<|AH (f2 BI (f2 Ay K6<|f2 BV (f2 Cd (AG 3)<|fC<|.int 256)<|fC<|.int 9)<|fC<|.int 4)<|AH (f2 BI (f2 Ay K5<|f2 BV (f2 Cd (AG 3)<|fC<|.int 4096)<|fC<|.int 9)<|fC<|.int 4) AO) A8)<|AM (Ac 7<|A5 RG 1 [2] (Aa 0) BP dG)<|AM (Ac 8<|A5 RG 1 [2] (Aa 0) BP dH)<|AM (Ac 9<|f2 Ay (f2 BI (f2 Am (AG 7)<|fC<|.int 0)<|fC<|.int 1)<|f2 BV (f2 Cd (AG 3)<|fC<|.int 256)<|f2 Ay (f2 BI (f2 Am (AG 8)<|fC<|.int 0)<|f2 Am (AG 7)<|fC<|.int 0)<|fC<|.int 3)<|Aw<|A6<|AH (AG 9)<|AH (f2 Ay (f2 BI (f2 Am (AG 7)<|fC<|.int 1)<|fC<|.int 1)<|f2 BV RL<|f2 Ay (f2 BI (f2 Am (AG 8)<|fC<|.int 1)<|f2 Am (AG 7)<|fC<|.int 1)<|fC<|.int 3) AO)
def UY:List PV->Option RV:=denote 10 3 VR
def rV:SF:=(Aw<|f2 CN (AW QU<|AH (AW L4<|AH (A5 (D9<|AG 1) 1 [0] (Aa 0) BP Jt) AO) Es)<|fC<|.str "out")
def QV:List PV->Option RV:=denote 3 3 rV
def rN:SF:=(Aw<|f2 Am (A5 (D9<|AG 0) 1 [1] (Aa 0) (AU RE)<|AG 0)<|fC<|.int 0)
def QN:List PV->Option RV:=denote 2 2 rN
noncomputable abbrev Vj:=(Ac 3<|AW Np<|AH CM Cj)
noncomputable abbrev Vf:=(Ac 4<|AW QP<|AH (AW Nj<|AH CM Ea) AO)
noncomputable abbrev cL:=(Au (AU<|AW QV<|AH (AG 0)<|AH (AG 5) Es) (Aw<|A6<|AH (AG 5)<|AH (AW QN<|AH (AG 5) Iu) AO) A8)
def Q0:YF:=(En (yL OI)<|En (yL Q3)<|En (yL Vj)<|En (yL Vf)<|En (yL<|Bo (B5 true<|AG 3) (Aa 5) cL)<|Y7 "NoPoint")
def L1:List PV->Option RV:=Io 6 3 Q0
def Qg:List PV->Option PySem.Str:=K4 6 3 Q0
def rQ:SF:=(AM (Ac 1<|B9<|AH (JB ["NoPoint"] 0 "NoRoom")<|AH (JB ["NoPoint"] 0 "NoCut")<|AH (JB ["NoPoint"] 0 "NoPoint") AO)<|AM (Ac 1<|f2 Ay (AG 1)<|B9<|AH (JB ["NoPoint"] 0 "NoTurn")<|AH (JB ["NoPoint"] 0 "TooMany") AO)<|AM (Au (Cb (CV<|AU<|JB ["NoPoint"] 0 "ValueError")<|AU<|f2 CN (f2 SK (AG 1)<|fC<|.bl true)<|fC<|.int 1) (Aw<|fC<|.int 9) A8)<|Aw<|f2 SN (AG 1)<|fC<|.bl true)
def UE:PySem.Str->Option RV:=Q1 2 rQ
def Qz:YF:=(En (yL<|Ac 3 OM)<|En (yL<|Ac 4<|fC .As)<|En (Kl 5 4 ["NoPoint"] L1 Qg Q4<|MV 3 5 UE)<|yL<|Aw<|A6<|AH (AG 3) Iu)
def Nk:List PV->Option RV:=Io 6 3 Qz
def oi:List PV->Option PySem.Str:=K4 6 3 Qz
noncomputable abbrev c7:=(JE 4 5 dD)
noncomputable abbrev Q5:=(AH (AG 4)<|AH (AG 5) Cj)
noncomputable abbrev bf:=(D8 (AU<|Dl CY CA K5 Fh K7)<|AU<|f2 CS (AW DV Q5)<|fC<|.int 0)
noncomputable abbrev bg:=(D8 (AU<|Dl CY CA K7 Fh K5)<|AU<|f2 CA (AW DV Q5)<|fC<|.int 0)
noncomputable abbrev bV:=(AM c7<|AM (Au (AU<|AW Kq Q5) (Aw<|fC<|.str "on") A8)<|AM (Au bf (Ac 2<|f2 Ay (AG 2)<|fC<|.int 1) A8)<|Au bg (Ac 2 OH) A8)
def ak:SF:=(AM (Ac 2<|fC<|.int 0)<|AM (Bo Ip (Aa 3) bV)<|Aw<|f2 Am (B9<|AH (fC<|.str "out")<|AH (fC<|.str "in") AO)<|fB SO<|AH (f2 CN (AG 2)<|fC<|.int 0) AO)
def UW:List PV->Option RV:=denote 6 2 ak
def rR:SF:=(Aw<|DX (FF "int"<|AG 0)<|LI<|FF "bool"<|AG 0)
def Ub:List PV->Option RV:=denote 1 1 rR
noncomputable abbrev Vi:=(f2 Bg (AW UW<|AH (AG 0) Ea)<|fC<|.str "out")
def aq:SF:=(AM (Au (AU Vi) (Aw<|f2 Bg (AG 4)<|A6<|AH (fC<|.int 2)<|AH (fC .As) AO) A8)<|AM (Ac 5 K5)<|AM (Au (Cb (AU<|f2 CN K6 OM)<|Cb (CV<|AU<|LG<|AG 5)<|Cb (AU<|f2 CN RH<|fC<|.int 2)<|AU<|f2 (DM true) Jq<|AG 1) CU A8)<|AM (Au (Cb (CV<|AU<|LG Jq)<|CV<|AU<|AW Ub<|AH K7 AO) CU A8)<|AM (Au (Cb (AU<|f2 (DM true) K7 Jq)<|AU<|f2 (DM true) K7<|AG 2) CU A8)<|AM (Oa (A5 (D9 Jq) 1 [0] (Aa 0) BP Jt)<|Rk 3<|Fo (Aa 6)<|Fo (Aa 7)<|Fo (Aa 8) LO)<|AM (Ac 9<|B9<|AH (AW DV<|AH (AG 6)<|AH (AG 7) Ea)<|AH (AW DV<|AH (AG 7)<|AH (AG 8) Ea)<|AH (AW DV<|AH (AG 8)<|AH (AG 6) Ea) AO)<|Aw<|f2 SM (fB JM<|AH (AG 9) AO)<|fC<|.int 0)
def Nl:List PV->Option RV:=denote 10 5 aq
noncomputable abbrev dE:=(f2 CS (f2 DN (fC<|.int 3) OJ) Ir)
noncomputable abbrev dS:=(A5 (D9<|AG 6) 1 [4] (Aa 0) (AU RE)<|AG 0)
noncomputable abbrev cD:=(Au (AU<|f2 CN (fB Ds<|AH dS AO)<|fC<|.int 1) CU A8)
noncomputable abbrev dc:=(AW Ly<|AH (AW QO MH) Iu)
noncomputable abbrev VT:=(AM (Ac 8<|AW UY<|AH (AG 0)<|AH (f2 Ay (fC<|.int 40)<|f2 DN (fC<|.int 3)<|AG 7) Cj)<|Au (CV<|AU<|AW Nl<|AH (AG 1)<|AH (AG 3)<|AH (AG 4)<|AH (AG 8)<|AH (AW Nk<|AH (AG 1)<|AH (fB Ml Es)<|AH (AG 8) AO) AO) CU A8)
def aS:SF:=(AM (Ac 1<|AW Ua<|AH (AG 0)<|AH (fC<|.int 0)<|AH (fC<|.int 12) AO)<|AM (Ac 2<|AW UP<|AH (AG 0)<|AH (fC<|.int 20) Cj)<|AM (Ac 3<|AW UU MH)<|AM (Ac 4<|AW UQ<|AH (AW UL MH) VZ)<|AM (Ed 5<|AW QO<|AH (fB Ml Cj)<|AH (fB Ml Es) AO)<|AM (Au (Cb (CV<|AU<|LD Ly<|AH (AG 5) Iu)<|AU dE) CU A8)<|AM (Bo (B5 true<|AG 3) (Aa 6) cD)<|AM (Ob 5 PD)<|AM (Au (CV<|AU dc) CU A8)<|AM (Bo (CQ OK) (Aa 7) VT) K8)
def QQ:List PV->Option RV:=denote 9 1 aS
end L2.K
set_option linter.all false
namespace AI
abbrev Pt:=Int×Int
noncomputable def AE(a b p:Pt):Int:=(b.1-a.1)*(p.2-a.2)-(b.2-a.2)*(p.1-a.1)
def Ab(a b p:Pt):Bool:=decide (AE a b p=0)&&(decide (min a.1 b.1<=p.1/\p.1<=max a.1 b.1)&&decide (min a.2 b.2<=p.2/\p.2<=max a.2 b.2))
def On(a b p:Pt):Prop:=AE a b p=0/\(min a.1 b.1<=p.1/\p.1<=max a.1 b.1)/\(min a.2 b.2<=p.2/\p.2<=max a.2 b.2)
theorem EL:Ab a b p=true↔On a b p:=by simp[Ab,On]
theorem Qm{p q u d:Int}(z:0<q)(h0:0<=p)(h1:p<=q)(e:q*u=p*d):(0<=u/\u<=d)\/(d<=u/\u<=0):=by
 rcases AIn 0 d with hd|hd
 .left;have y:0<=q*u:=by rw[e];exact AGu h0 hd
  have h3:q*u<=q*d:=by rw[e];exact AHL h1 hd
  exact⟨AHz (by simpa using y) z,AHz h3 z⟩
 .right;have y:q*u<=0:=by rw[e];exact AHQ h0 hd
  have h3:q*d<=q*u:=by rw[e];exact Int.mul_le_mul_of_nonpos_right h1 hd
  exact⟨AHz h3 z,AHz (by simpa using y) z⟩
theorem zS(h:AE a b c=0)(hs:(AE c d a>0/\AE c d b<=0)\/(AE c d a<=0/\AE c d b>0)\/(AE c d a<0/\AE c d b>=0)\/(AE c d a>=0/\AE c d b<0)):On a b c:=by
 refine⟨h,?_⟩;obtain⟨v,u⟩:=a;obtain⟨b1,b2⟩:=b;obtain⟨z,y⟩:=c;obtain⟨O,P⟩:=d;simp only[AE]at *
 have Z:∀p q:Int,0<q->0<=p->p<=q->q*(z-v)=p*(b1-v)->q*(y-u)=p*(b2-u)->(min v b1<=z/\z<=max v b1)/\(min u b2<=y/\y<=max u b2):=by intro p q h1 Y h3 R B;have r1:=Qm h1 Y h3 R;have r2:=Qm h1 Y h3 B;simp only[ALH,ALI];lia
 generalize Q:(O-z)*(y-u)-(P-y)*(z-v)=eu;generalize hd:(O-z)*(b2-u)-(P-y)*(b1-v)=ed;have G:(O-z)*(u-y)-(P-y)*(v-z) = -eu:=by rw[<-Q];grind
 have S:(O-z)*(b2-y)-(P-y)*(b1-z)=ed-eu:=by rw[<-Q,<-hd];grind
 have D:ed*(z-v)=eu*(b1-v):=by rw[<-Q,<-hd];grind
 have F:ed*(y-u)=eu*(b2-u):=by rw[<-Q,<-hd];grind
 rw[G,S]at hs;have T:(0<=eu/\eu<=ed/\0<ed)\/(eu<=0/\ed<=eu/\ed<0):=by clear h Q;lia
 rcases T with⟨h1,Y,h3⟩|⟨h1,Y,h3⟩
 .exact Z eu ed h3 h1 Y D F
 .exact Z (-eu) (-ed) (Pa h3) U U (by rw[AIz,AIz,D])<|by rw[AIz,AIz,F]
theorem S8(n:¬ On a b c):¬ (AE a b c=0/\((AE c d a>0/\AE c d b<=0)\/(AE c d a<=0/\AE c d b>0)\/(AE c d a<0/\AE c d b>=0)\/(AE c d a>=0/\AE c d b<0))):=λz=>n<|zS z.1 z.2
theorem DR(a b p:Pt):AE b a p = - AE a b p:=by simp only[AE];grind
theorem Dh(a b:Pt):AE a b a=0/\AE a b b=0:=by unfold AE;exact⟨AGg,AGg⟩
theorem Bs(a b c:Pt):AE b c a=AE a b c:=by unfold AE;grind
theorem jx(h:On a b p):On b a p:=by obtain⟨h1,h2,h3⟩:=h;refine⟨by rw[DR,h1];rfl,?_,?_⟩<;>grind
def parts(a b c d:Pt):Bool:=(decide (AE a b c<0)&&decide (AE a b d>0))||(decide (AE a b c>0)&&decide (AE a b d<0))
def Az(a b c d:Pt):Bool:=(parts a b c d&&parts c d a b)||((Ab a b c||Ab a b d)||(Ab c d a||Ab c d b))
def BH(a b c d:Pt):Bool:=(Ab a b c||Ab a b d||Ab c d a||Ab c d b)||((decide (AE a b c>0) != decide (AE a b d>0))&&(decide (AE c d a>0) != decide (AE c d b>0)))
theorem Su(a b c d:Pt):BH a b c d=Az a b c d:=by
 by_cases h1:Ab a b c=true
 .simp[BH,Az,h1]
 by_cases y:Ab a b d=true
 .simp[BH,Az,y]
 by_cases h3:Ab c d a=true
 .simp[BH,Az,h3]
 by_cases q:Ab c d b=true
 .simp[BH,Az,q]
 have k1:=S8 (d:=d) λz=>h1<|EL.mpr z;have k2:=S8 (d:=c) λz=>y<|EL.mpr z;have k3:=S8 (d:=b) λz=>h3<|EL.mpr z;have v:=S8 (d:=a) λz=>q<|EL.mpr z;rw[DR c d a,DR c d b]at k2;rw[DR a b c,DR a b d]at v;simp[BH,Az,parts,h1,y,h3,q];lia
theorem TB(a b p:Pt):Ab a b p=Ab b a p:=by rw[AHo,EL,EL];exact⟨jx,jx⟩
theorem meet_comm(a b c d:Pt):Az a b c d=Az c d a b:=by simp only[Az];rw[Bool.and_comm<|parts a b c d,AK5 (Ab a b c||Ab a b d)]
noncomputable def AA(r:List Pt)(i:Int):Pt:=r.getD (i%(r.length:Int)).toNat (0,0)
theorem EY(r:List Pt)(i:Int):AA r (i+r.length)=AA r i:=by unfold AA;rw[AKB]
def M(r:List Pt)(i j:Int):Bool:=Az (AA r i) (AA r<|i+1) (AA r j)<|AA r<|j+1
theorem Ha(r:List Pt)(i j:Int):M r i j=M r j i:=meet_comm ..
theorem ZQ(r:List Pt)(i j:Int):M r (i+r.length) j=M r i j:=by unfold M;simp only[EY,show i+(r.length)+1=i+1+r.length by lia,EY]
noncomputable def nb(n d:Int):Bool:=(d%n==1)||(d%n==n-1)
theorem Pn(h0:0<d)(h1:d<n):nb n d=(d==1||d==n-1):=by unfold nb;rw[AGn U h1]
def N5(r:List Pt):Prop:=∀k m:Int,0<=k->k<m->m<r.length->nb r.length (m-k)=false->M r k m=false
def U0(r:List Pt):Prop:=∀k j:Int,0<=j->j<k->k<r.length->nb r.length (k-j)=false->M r (k-1) (j-1)=false
theorem ow(r:List Pt):U0 r↔N5 r:=by
 constructor
 .intro h k m h0 h1 z hn;by_cases hm:m+1<r.length
  .have:=h (m+1) (k+1) (EK h0) U hm (by rw[show m+1-(k+1)=m-k by lia];exact hn);rw[show m+1-1=m from JP,show k+1-1=k from JP]at this;rw[Ha];exact this
  .have y:m=r.length-1:=U
   subst y;have:=h (k+1) 0 Bi AGi AGi (by rw[Pn AGi AGi]at hn ⊢;simp only[AHe,AHG]at hn ⊢;lia)
   rw[show k+1-1=k from JP,Ha,<-ZQ,Ha]at this;exact this
 .intro h k j h0 h1 z hn;by_cases hj:0<j
  .have:=h (j-1) (k-1) U U U (by rw[show k-1-(j-1)=k-j by lia];exact hn);rw[Ha];exact this
  .have q:j=0:=U
   subst q;have:=h (k-1) (r.length-1) U (by
    rw[Pn U U]at hn;simp only[AHe,AHG]at hn;lia) U (by
    rw[Pn U U]at hn;simp only[AHe,AHG]at hn;rw[Pn U U];lia)
   rw[Ha,<-ZQ,Ha];exact this
noncomputable def Af(f:Int->Int):Nat->Int
 |0=>0
 |n+1=>Af f n+f n
theorem l4(f:Int->Int):∀n:Nat,Af (λk=>f<|k-1) (n+1)=f (-1)+Af f n
 |0=>by simp[Af]
 |n+1=>by
  rw[Af,l4 f n,Af];simp only[Int.natCast_add,Int.natCast_one]at *
  lia
theorem Tj(f:Int->Int)(n:Nat)(h:∀i,f (i+n)=f i):Af (λk=>f<|k-1) n=Af f n:=by
 cases n with
 |zero=>rfl
 |succ n=>
  rw[l4,Af,<-h (-1)];have:(-1:Int)+((n+1:Nat))=n:=U
  rw[this];lia
noncomputable def B3(a b:Pt):Int:=a.1*b.2-a.2*b.1
def MC(r:List Pt):Int:=Af (λk=>B3 (AA r<|k-1)<|AA r k) r.length
def CP(r:List Pt):Int:=Af (λk=>B3 (AA r k)<|AA r<|k+1) r.length
theorem oz(r:List Pt):MC r=CP r:=by
 have:=Tj (λk=>B3 (AA r k)<|AA r<|k+1) r.length (λi=>by simp only[EY,show i+(r.length)+1=i+1+r.length by lia,EY])
 simp only[CP,<-this,MC]
 congr 1
 funext k
 rw[show k-1+1=k from Dt]
def At(a b p:Pt):Prop:=∃q s:Int,0<q/\0<=s/\s<=q/\q*(p.1-a.1)=s*(b.1-a.1)/\q*(p.2-a.2)=s*(b.2-a.2)
theorem HK(h:At a b p):On a b p:=by
 obtain⟨q,s,y,h0,h1,v,z⟩:=h;have u:=Qm y h0 h1 v;have Z:=Qm y h0 h1 z;refine⟨?_,by clear Z;simp only[ALH,ALI];lia,by clear z u;simp only[ALH,ALI];lia⟩;have Y:q*AE a b p=0:=by
  have:q*AE a b p=(b.1-a.1)*(q*(p.2-a.2))-(b.2-a.2)*(q*(p.1-a.1)):=by unfold AE;grind
  simp only[this,v,z];grind
 rcases AHA.mp Y with h|h
 .lia
 .exact h
theorem N6(h:On a b p):At a b p:=by
 obtain⟨hs,h1,h2⟩:=h;unfold AE at hs;by_cases z:b.1-a.1=0
 .by_cases y:b.2-a.2=0
  .exact⟨1,0,HF,Bi,DH,U,U⟩
  .have hp:p.1-a.1=0:=U
   rcases AHU y with BA|J6
   .exact⟨-(b.2-a.2),-(p.2-a.2),AGg,AGg,AGg,by rw[z,hp];lia,AGg⟩
   .exact⟨b.2-a.2,p.2-a.2,AGl,AGg,AGg,by rw[z,hp];lia,AGg⟩
 .rcases AHU z with BA|J6
  .exact⟨-(b.1-a.1),-(p.1-a.1),AGg,AGg,AGg,AGg,AGg⟩
  .exact⟨b.1-a.1,p.1-a.1,AGl,AGg,AGg,AGg,AGg⟩
theorem JX:On a b p↔At a b p:=⟨N6,HK⟩
def Bq(a b c d:Pt):Prop:=∃q s t:Int,0<q/\0<=s/\s<=q/\0<=t/\t<=q/\q*a.1+s*(b.1-a.1)=q*c.1+t*(d.1-c.1)/\q*a.2+s*(b.2-a.2)=q*c.2+t*(d.2-c.2)
theorem Bq.symm(h:Bq a b c d):Bq c d a b:=by obtain⟨q,s,t,h1,z,h3,y,v,u,p⟩:=h;exact⟨q,t,s,h1,y,v,z,h3,u.symm,p.symm⟩
theorem Th(h:At a b c):Bq a b c d:=by obtain⟨q,s,z,h0,h1,e1,e2⟩:=h;exact⟨q,s,0,z,h0,h1,Bi,U,AGg,AGg⟩
theorem YR(h:At a b d):Bq a b c d:=by obtain⟨q,s,z,h0,h1,e1,e2⟩:=h;exact⟨q,s,q,z,h0,h1,U,EJ,AGg,AGg⟩
theorem ADz(h1:parts a b c d=true)(q:parts c d a b=true):Bq a b c d:=by
 have i1:AE a b c-AE a b d=AE c d b-AE c d a:=by unfold AE;grind
 have z:(AE c d a-AE c d b)*a.1+AE c d a*(b.1-a.1)=(AE c d a-AE c d b)*c.1 + -(AE a b c)*(d.1-c.1):=by unfold AE;grind
 have y:(AE c d a-AE c d b)*a.2+AE c d a*(b.2-a.2)=(AE c d a-AE c d b)*c.2 + -(AE a b c)*(d.2-c.2):=by unfold AE;grind
 simp only[parts,AHs,AGx,AG0]at h1 q;generalize AE a b c=x1 at *
 generalize AE c d a=y1 at *
 generalize AE c d b=y2 at *
 by_cases v:y1-y2>0
 .exact⟨y1-y2,y1,-x1,v,U,U,U,U,z,y⟩
 .refine⟨-(y1-y2),-y1,x1,U,U,U,U,U,?_,?_⟩
  .have : -(y1-y2)*a.1 + -y1*(b.1-a.1) = -((y1-y2)*a.1+y1*(b.1-a.1)):=AGg
   rw[this,z];grind
  .have : -(y1-y2)*a.2 + -y1*(b.2-a.2) = -((y1-y2)*a.2+y1*(b.2-a.2)):=AGg
   rw[this,y];grind
theorem YS(h:Az a b c d=true):Bq a b c d:=by
 simp only[Az,AHs,AGx,EL]at h;rcases h with⟨h1,z⟩|(h|h)|(h|h)
 .exact ADz h1 z
 .exact Th<|N6 h
 .exact YR<|N6 h
 .exact(Th<|N6 h).symm
 .exact(YR<|N6 h).symm
theorem jR(h:¬ Bq a b c d):Az a b c d=false:=by
 cases e:Az a b c d with
 |false=>rfl
 |true=>exact absurd (YS e) h
theorem Er(r:List Pt)(i:Int):AA r (i%r.length)=AA r i:=by unfold AA;rw[AHO _<|AH2 _]
theorem ZR(r:List Pt)(i j:Int):M r (i%r.length) j=M r i j:=by
 unfold M;have h:AA r (i%r.length+1)=AA r (i+1):=by unfold AA;rw[Int.emod_add_emod]
 simp only[h,Er]
theorem oV(r:List Pt)(i j:Int):M r i (j%r.length)=M r i j:=by rw[Ha,ZR,Ha]
def CK(n d:Int):Prop:=d%n≠0/\d%n≠1/\d%n≠n-1
theorem CK.neg(hn:2<=n)(h:CK n d):CK n (-d):=by
 obtain⟨h0,h1,h2⟩:=h;have a:=AHE d (b:=n) U;have b:=AG4 d (b:=n) U;have e:(-d)%n=n-d%n:=by
  have : -d=(n-d%n)+n*(-(d / n)-1):=by
   have:=AIR d n
   grind
  rw[this,AH7,AGn AGg U]
 exact⟨AGi,by clear b;lia,by clear h0;lia⟩
theorem fL(h0:0<d)(h1:d<n)(h:nb n d=false):CK n d:=by rw[Pn h0 h1]at h;simp only[AHe,AHG]at h;unfold CK;rw[AGn AGg h1];lia
theorem Xg(h:CK n d):nb n d=false:=by unfold nb;simp only[AHe,AHG];exact⟨h.2.1,h.2.2⟩
def U1(r:List Pt):Prop:=∀i j:Int,CK r.length (i-j)->M r i j=false
theorem U2(hn:2<=r.length)(h:N5 r):U1 r:=by
 intro i j q;rw[<-ZR,<-oV];have v:=AHE i (b:=(r.length)) U;have u:=AG4 i (b:=(r.length)) U;have b1:=AHE j (b:=(r.length)) U;have b2:=AG4 j (b:=(r.length)) U;have z:CK r.length<|i%r.length-j%r.length:=by
  unfold CK at *
  rw[<-AH3];exact q
 generalize i%(r.length)=x at *
 generalize j%(r.length)=y at *
 rcases AIh x y with BA|heq|J6
 .exact h x y v BA b2 (Xg (by rw[show y-x = -(x-y)by lia];exact(z.neg U)))
 .exfalso;apply z.1;rw[heq,AHu];rfl
 .rw[Ha];exact h y x b1 J6 u<|Xg z
theorem ot(h:U1 r):N5 r:=λk m h0 h1 h2 hn=>by rw[Ha];exact h m k<|fL (F0 h1) U hn
structure Rm(r:List Pt):Prop where
 l3:3<=r.length
 PM:r.length<=12
 nd:r.Nodup
 N8:∀k:Int,AE (AA r<|k-2) (AA r<|k-1) (AA r k)≠0
 apart:U1 r
 Ie:0<CP r
structure Keeps(T:Pt->Pt)(d:Int):Prop where
 one:d=1\/d = -1
 sd:∀a b c,AE (T a) (T b) (T c)=d*AE a b c
 at_:∀a b p,At (T a) (T b) (T p)↔At a b p
 inj:∀a b,T a=T b->a=b
theorem Keeps.on(k:Keeps T d)(a b p:Pt):Ab (T a) (T b) (T p)=Ab a b p:=by rw[AHo,EL,EL,JX,JX];exact k.at_ a b p
theorem Keeps.parts(k:Keeps T d)(a b c e:Pt):AI.parts (T a) (T b) (T c) (T e)=AI.parts a b c e:=by
 unfold AI.parts;rw[k.sd,k.sd];rcases k.one with rfl|rfl
 .rw[AIl,AIl]
 .lia
theorem Keeps.meet(k:Keeps T d)(a b c e:Pt):Az (T a) (T b) (T c) (T e)=Az a b c e:=by unfold Az;simp only[k.parts,k.parts,k.on,k.on,k.on,k.on]
theorem Hd{r:List Pt}(h:0<r.length)(i:Int):AA (r.map T) i=T (AA r i):=by
 unfold AA;have b:=AG4 i (b:=(r.length))<|E3 h;have hi:(i%(r.length)).toNat<r.length:=U
 simp[List.getD,hi]
theorem Qy(h:0<r.length)(i:Int):AA r.reverse i=AA r (-1-i):=by
 unfold AA;rw[AJW];have a:=AHE i (b:=(r.length))<|IC h;have b:=AG4 i (b:=(r.length))<|E3 h;have e:(-1-i)%(r.length)=r.length-1-i%r.length:=by
  have : -1-i=(r.length-1-i%r.length)+r.length*(-(i / r.length)-1):=by
   have:=AIR i r.length
   grind
  rw[this,AH7,AGn U U]
 rw[e];have hi:(i%(r.length)).toNat<r.length:=U
 have z:(r.length-1-i%(r.length)).toNat=r.length-1-(i%(r.length)).toNat:=AGg
 simp only[z,List.getD,List.getD,List.getElem?_reverse hi]
theorem qu{r:List Pt}(hn:n<=r.length)(h:0<r.length)(i:Int):AA (r.drop n++r.take n) i=AA r (i+n):=by
 have q:(r.drop n++r.take n).length=r.length:=by simp;grind
 unfold AA;rw[q,AIL i];have a:=AHE i (b:=(r.length))<|IC h;have b:=AG4 i (b:=(r.length))<|E3 h;generalize z:i%(r.length)=x at *
 simp only[List.getD,List.getD];by_cases y:n=r.length
 .subst y;simp only[AIM,AG9,AKP,List.take_length,AH1];rw[AGn a b]
 rw[AGn (a:=(n)) Bj U];by_cases hc:x+n<r.length
 .rw[AGn (by clear z;lia) hc,AHR (by simp;lia),List.getElem?_drop]
  congr 2;subst z;lia
 .have e:(x+n)%(r.length)=x+n-r.length:=by rw[<-Int.sub_emod_right,AGn AGg (by clear z y;lia)]
  rw[AHV (by simp;subst z;lia),List.getElem?_take,AGo (by simp;clear z a;lia)]
  congr 2;simp;clear z a;lia
theorem DC:∀{n:Nat},(∀i:Nat,i<n->f i=g i)->Af f n=Af g n
 |0,_=>rfl
 |n+1,h=>by rw[Af,Af,DC λi hi=>h i<|HG hi,h n FP]
theorem P7(f g:Int->Int):∀n:Nat,Af (λk=>f k+g k) n=Af f n+Af g n
 |0=>rfl
 |n+1=>by simp only[Af,Af,Af,P7 f g n];lia
theorem Ye(c:Int)(f:Int->Int):∀n:Nat,Af (λk=>c*f k) n=c*Af f n
 |0=>by simp[Af]
 |n+1=>by simp only[Af,Af,Ye c f n,Int.mul_add]
theorem Yh(f:Int->Int):∀n:Nat,Af (λk=>f (k+1)-f k) n=f n-f 0
 |0=>by simp[Af]
 |n+1=>by
  rw[Af,Yh f n];have:((n+1:Nat):Int)=n+1:=U
  rw[this];lia
theorem Yf(f:Int->Int)(n:Nat)(h:∀i,f (i+n)=f i):∀m:Nat,Af (λk=>f<|k+m) n=Af f n
 |0=>DC λi _=>AGh
 |m+1=>by
  have:=Tj (λk=>f<|k+((m+1:Nat))) n (λi=>by rw[show i+(n)+((m+1:Nat))=(i+((m+1:Nat)))+n by lia,h])
  simp only[<-this,<-(Yf f n h m)];exact DC λi _=>by congr 1;lia
theorem ly(f:Int->Int):∀n:Nat,Af (λk=>f<|(n)-1-k) n=Af f n
 |0=>rfl
 |n+1=>by
  have z:Af (λk=>f<|((n+1:Nat))-1-k) (n+1)=f n+Af (λk=>f<|(n)-1-k) n:=by
   have hs:∀(g:Int->Int)(m:Nat),Af g (m+1)=g 0+Af (λk=>g<|k+1) m:=by
    intro g m
    induction m with
    |zero=>simp[Af]
    |succ m ih=>
     rw[Af,ih,Af];lia
   rw[hs]
   congr 1
   .lia
   .exact DC λi _=>by congr 1;lia
  rw[z,ly f n,Af];lia
set_option tactic.hygienic true
def ES(t:Pt->Pt->Int)(r:List Pt):Int:=Af (λk=>t (AA r k)<|AA r<|k+1) r.length
theorem UD(z:∀a b,t b a = - t a b)(h:0<r.length):ES t r.reverse = - ES t r:=by
 unfold ES;have e:Af (λk=>t (AA r.reverse k)<|AA r.reverse<|k+1) r.length=Af (λk=>-1*t (AA r<|r.length-1-k-1) (AA r<|r.length-1-k)) r.length:=DC λi _=>by rw[Qy h,Qy h,z,<-EY r (-1-i),<-EY r (-1-(i+1)),show -1-(i:Int)+r.length=r.length-1-i by lia,show -1-((i:Int)+1)+r.length=r.length-1-i-1 by lia,AIz,AIl]
 rw[AJW,e,Ye,ly λk=>t (AA r<|k-1)<|AA r k,<-Tj (λk=>t (AA r k)<|AA r<|k+1) r.length λi=>by rw[EY,show i+(r.length)+1=i+1+r.length by lia,EY],AIz,AIl]
 congr 1
 exact DC λi _=>by rw[show(i:Int)-1+1=i from Ph]
theorem VO(a b:Pt):B3 b a = - B3 a b:=by unfold B3;grind
def Jl(r:List Pt)(k:Int):Int:=B3 (AA r k)<|AA r<|k+1
theorem qj(r:List Pt)(k:Int):Jl r (k+r.length)=Jl r k:=by unfold Jl;simp only[EY,show k+(r.length)+1=k+1+r.length by lia,EY]
theorem Qi(r:List Pt):CP r=Af (Jl r) r.length:=rfl
theorem Rm.FW(R:Rm r)(hn:n<=r.length):Rm (r.drop n++r.take n)/\CP (r.drop n++r.take n)=CP r:=by
 have h3:=R.l3;have z:(r.drop n++r.take n).length=r.length:=by simp;lia
 have hc:=λi=>qu hn (Bn h3) i;have ha:CP (r.drop n++r.take n)=CP r:=by simp only[Qi,Qi,z,<-Yf (Jl r) r.length (qj r) n];refine DC λi _=>?_;unfold Jl;simp only[hc,hc];lia
 refine⟨⟨U,by have:=R.PM;lia,?_,λk=>?_,λi j y=>?_,by rw[ha];exact R.Ie⟩,ha⟩
 .have hp:(r.drop n++r.take n).Perm r:=List.perm_append_comm.trans (by rw[AKn]);exact hp.nodup_iff.mpr R.nd
 .simp only[hc,hc,hc,show k-2+n=k+n-2 by lia,show k-1+n=k+n-1 by lia];exact R.N8 _
 .rw[z]at y;have:=R.apart (i+n) (j+n) (by rw[show i+n-(j+n)=i-j by lia];exact y);unfold M at this ⊢;simp only[hc,hc,hc,hc,show i+1+n=i+n+1 by lia,show j+1+n=j+n+1 by lia];exact this
theorem jl{T:Pt->Pt}(hi:∀a b,T a=T b->a=b){r:List Pt}(h:r.Nodup):(r.map T).Nodup:=by unfold List.Nodup at h ⊢;rw[AIf];exact h.imp λz e=>z<|hi _ _ e
theorem qk(o a b:Pt):B3 a b=AE o a b+(B3 o b-B3 o a):=by delta B3 AE;grind
theorem U4(r:List Pt)(o:Pt):CP r=Af (λk=>AE o (AA r k)<|AA r<|k+1) r.length:=by
 rw[Qi];have h1:Af (Jl r) r.length=Af (λk=>AE o (AA r k) (AA r<|k+1)+(B3 o (AA r<|k+1)-B3 o (AA r k))) r.length:=DC λi _=>by exact qk o _ _
 rw[h1,P7 (λk=>AE o (AA r k)<|AA r<|k+1) λk=>B3 o (AA r<|k+1)-B3 o (AA r k)];have h3:=by have:=EY r 0;rw[AHW]at this;exact this
 rw[(Yh (λk=>B3 o<|AA r k) r.length),h3];lia
theorem U3(h:0<r.length)(sd:∀a b c,AE (T a) (T b) (T c)=d*AE a b c):CP (r.map T)=d*CP r:=by rw[U4 _<|T (0,0),AGm,U4 r (0,0),<-Ye];exact DC λi _=>by rw[Hd h,Hd h,sd]
set_option tactic.hygienic false
theorem Rm.map(R:Rm r)(k:Keeps T 1):Rm<|r.map T:=by
 have h3:=R.l3;have hc:=λi=>Hd (T:=T) (r:=r) (Bn h3) i;refine⟨by simpa using R.l3,by simpa using R.PM,jl k.inj R.nd,λi=>?_,λi j z=>?_,by rw[U3 (Bn h3) k.sd,AIl];exact R.Ie⟩
 .simp only[hc,hc,hc,k.sd,AIl];exact R.N8 i
 .rw[AGm]at z;unfold M;simp only[hc,hc,hc,hc,k.meet];exact R.apart i j z
theorem lU(a b c:Pt):AE c b a = - AE a b c:=by unfold AE;grind
theorem kC(a b c d:Pt):AI.parts b a d c=AI.parts a b c d:=by unfold AI.parts;rw[DR a b,DR a b,AHo];simp only[AHs,AGx,AG0];constructor<;>lia
theorem yR(a b c d:Pt):Az b a d c=Az a b c d:=by unfold Az;simp only[kC a b c d,kC c d a b,TB b a d,TB b a c,TB d c b,TB d c a,AK5<|Ab a b d,AK5<|Ab c d b]
theorem Rm.mapRev(R:Rm r)(k:Keeps T (-1)):Rm (r.map T).reverse:=by
 have h3:=R.l3;have y:(r.map T).reverse.length=r.length:=AGh
 have hc:∀i,AA (r.map T).reverse i=T (AA r (-1-i)):=λi=>by rw[Qy (by simpa using(Bn h3)),Hd<|Bn h3]
 refine⟨U,by have:=R.PM;lia,?_,λi=>?_,λi j z=>?_,?_⟩
 .exact(List.reverse_perm _).nodup_iff.mpr (jl k.inj R.nd)
 .rw[hc,hc,hc,k.sd,lU];have:=R.N8 (-1-i+2);lia
 .rw[y]at z;unfold M;rw[hc,hc,hc,hc,k.meet,<-yR];have:=R.apart (-1-(i+1)) (-1-(j+1)) (by rw[show -1-(i+1)-(-1-(j+1)) = -(i-j)by lia];exact z.neg<|KS h3)
  unfold M at this;rw[show -1-(i+1)+1 = -1-i by lia,show -1-(j+1)+1 = -1-j by lia]at this;exact this
 .rw[show CP (r.map T).reverse = - CP (r.map T)from UD VO (by simpa using Bn h3),U3 (Bn h3) k.sd,AIz,AIl,AJC];exact R.Ie
theorem wsum{q s a b m:Int}(h0:0<=s)(h1:s<=q)(ha:a<=m)(z:b<=m):q*a+s*(b-a)<=q*m:=by have:=AG5 ha (by exact Cp h1:0<=q-s);have:=AG5 z h0;lia
theorem T8{q s a b m:Int}(h0:0<=s)(h1:s<=q)(ha:m<=a)(z:m<=b):q*m<=q*a+s*(b-a):=by have:=AG5 ha (by exact Cp h1:0<=q-s);have:=AG5 z h0;lia
theorem YN(m n:Int)(h1:a.1<=m)(z:b.1<=m)(y:m<n)(h3:n<=c.1)(p:n<=d.1):¬ Bq a b c d:=by rintro⟨q,s,t,Z,Y,s1,Q,t1,e1,_⟩;have u:=wsum Y s1 h1 z;have v:=T8 Q t1 h3 p;have:=AJR y Z;lia
theorem ADv(m n:Int)(h1:a.2<=m)(z:b.2<=m)(y:m<n)(h3:n<=c.2)(p:n<=d.2):¬ Bq a b c d:=by rintro⟨q,s,t,Z,Y,s1,Q,t1,_,e2⟩;have u:=wsum Y s1 h1 z;have v:=T8 Q t1 h3 p;have:=AJR y Z;lia
structure Rows(n m:Nat)(P:Nat->Pt):Prop where
 hm:m+1<n
 h3:3<=n
 cl:P n=P 0
 xb:∀i,i<=m->(P i).1<(P<|i+1).1
 xt:∀i,m+1<=i->i<n->(P<|i+1).1<(P i).1
 y0:(P 0).2=0
 ym:(P<|m+1).2=0
 yb:∀i,1<=i->i<=m->(P i).2<0
 yt:∀i,m+2<=i->i<n->0<(P i).2
section
variable{n m:Nat}{P:Nat->Pt}(R:Rows n m P)
include R
theorem Rows.T9:∀{i j:Nat},i<=j->j<=m+1->(P i).1<=(P j).1:=by
 intro i j h hj
 induction j with
 |zero=>
  have:i=0:=U
  subst this;exact AHY _
 |succ j ih=>
  by_cases he:i=j+1
  .subst he;exact AHY _
  .have:=R.xb j U;lia
theorem Rows.Nc:∀{i j:Nat},m+1<=i->i<=j->j<=n->(P j).1<=(P i).1:=by
 intro i j h1 h hj
 induction j with
 |zero=>lia
 |succ j ih=>
  by_cases he:i=j+1
  .subst he;exact AHY _
  .have:=R.xt j U AGl;lia
theorem Rows.QC:∀{i:Nat},i<=m+1->(P i).2<=0:=by
 intro i hi;by_cases h0:i=0
 .subst h0;exact AJG R.y0
 by_cases h1:i=m+1
 .subst h1;exact AJG R.ym
 exact AGt<|R.yb i U U
theorem Rows.UB:∀{i:Nat},m+1<=i->i<=n->0<=(P i).2:=by
 intro i hi hn;by_cases h0:i=n
 .subst h0;rw[R.cl,R.y0];exact AHY _
 by_cases h1:i=m+1
 .subst h1;exact AJG R.ym.symm
 exact AGt<|R.yt i U U
theorem Rows.apart(Bm:i<j)(hj:j<n)(Ax:j≠i+1)(hw:¬(i=0/\j=n-1)):¬ Bq (P i) (P<|i+1) (P j) (P<|j+1):=by
 by_cases y:j<=m
 .-- both below
  exact YN (P<|i+1).1 (P j).1 (R.T9 U U) (AHY _) (by have:=R.xb (i+1) U;have:=R.T9 (i:=i+1+1) (j:=j) U<|M5 y;lia) (AHY _)<|R.T9 U<|Pf y
 by_cases gR:m+1<=i
 .-- both above
  intro h;exact YN (P j).1 (P<|i+1).1 (AHY _) (R.Nc U U U) (by have:=R.xt (i+1) U U;have:=R.Nc (i:=i+1+1) (j:=j) U U U;lia) (R.Nc AGl U U) (AHY _) h.symm
 rintro⟨q,s,t,hq,u,s1,p,t1,z,e2⟩;have ez:q*(P i).2+s*((P<|i+1).2-(P i).2)=(q-s)*(P i).2+s*(P<|i+1).2:=AGg
 have ez':q*(P j).2+t*((P<|j+1).2-(P j).2)=(q-t)*(P j).2+t*(P<|j+1).2:=AGg
 have p1:(q-s)*(P i).2<=0:=AHQ (Cp s1)<|R.QC (i:=i) U;have p2:=AHQ u<|R.QC (i:=i+1) U;have p3:0<=(q-t)*(P j).2:=AGu (Cp t1)<|R.UB (i:=j) U U;have p4:=AGu p<|R.UB (i:=j+1) U U;have Z:(q-s)*(P i).2=0:=AGi
 have Y:s*(P<|i+1).2=0:=AGi
 have Q:(q-t)*(P j).2=0:=AGi
 have O:t*(P<|j+1).2=0:=AGi
 have D:1<=i->q=s:=λh=>by
  rcases AHA.mp Z with h'|h'
  .lia
  .have:=R.yb i h U;lia
 have F:i+1<=m->s=0:=λh=>by
  rcases AHA.mp Y with h'|h'
  .exact h'
  .have:=R.yb (i+1) U h;lia
 have w3:m+2<=j->q=t:=λh=>by
  rcases AHA.mp Q with h'|h'
  .lia
  .have:=R.yt j h AGl;lia
 have B:j+1<n->t=0:=λh=>by
  rcases AHA.mp O with h'|h'
  .exact h'
  .have:=R.yt (j+1) U h;lia
 by_cases G:i=0
 .-- at Ys first AGD,or Ys whole AGC
  subst G;have S:j+1<n:=U
  by_cases Wh:m=0
  .lia
  .have hs:=F U;rw[hs,(B S)]at z;simp only[AHf,AG9]at z;have v:=AH0 U z;have a:=R.xt j U AGl;have b:=R.Nc (i:=j+1) (j:=n) U AGl U;rw[R.cl]at b;lia
 .have hs:=D U;by_cases T:i=m
  .subst T;have C:i+2<=j:=U
   rw[<-hs,<-(w3 C)]at z;have v:q*(P<|i+1).1=q*(P<|j+1).1:=AGg
   have AGE:=AH0 U v;have a:=R.xt (i+1) U U;have b:=R.Nc (i:=i+1+1) (j:=j+1) U U U;lia
  .lia
theorem Rows.Ie:0<Af (λk=>B3 (P k.toNat)<|P (k+1).toNat) n:=by
 have hm:=R.hm;have e:∀N:Nat,Af (λk=>B3 (P k.toNat)<|P (k+1).toNat) N=Af (λk=>((P k.toNat).1-(P (k+1).toNat).1)*((P k.toNat).2+(P (k+1).toNat).2)) N+((P N).1*(P N).2-(P 0).1*(P 0).2):=by
  intro N
  induction N with
  |zero=>simp[Af]
  |succ N ih=>
   simp only[Af,Af,ih];have h1:((N:Int)).toNat=N:=U
   have z:((N:Int)+1).toNat=N+1:=U
   rw[h1,z];unfold B3
   grind
 rw[e n,R.cl];have u:∀i:Nat,i<n->0<=((P i).1-(P<|i+1).1)*((P i).2+(P<|i+1).2):=λi hi=>by
  by_cases y:i<=m
  .have a:=R.xb i y;have b:=R.QC (i:=i)<|M5 y;have c:=R.QC (i:=i+1)<|Pf y;exact AIu U U
  .have a:=R.xt i U hi;have b:=R.UB (i:=i) U U;have c:=R.UB (i:=i+1) U AGl;exact AGu (F1 a) U
 have pos:∃i:Nat,i<n/\0<((P i).1-(P<|i+1).1)*((P i).2+(P<|i+1).2):=by
  by_cases v:m=0
  .refine⟨m+1,AGi,?_⟩;have a:=R.xt (m+1) U U;have b:=R.yt (m+1+1) U (by have:=R.h3;clear hm a;subst v;lia);have c:=R.ym;exact AG1 (F0 a) U
  .refine⟨0,by clear v;lia,?_⟩;have a:=R.xb 0 M3;have b:=R.yb (0+1) U U;have c:=R.y0;exact AKH U U
 have q:∀N:Nat,N<=n->0<=Af (λk=>((P k.toNat).1-(P (k+1).toNat).1)*((P k.toNat).2+(P (k+1).toNat).2)) N/\(∀i,i<N->0<((P i).1-(P<|i+1).1)*((P i).2+(P<|i+1).2)->0<Af (λk=>((P k.toNat).1-(P (k+1).toNat).1)*((P k.toNat).2+(P (k+1).toNat).2)) N):=by
  intro N
  induction N with
  |zero=>intro _;exact⟨by simp[Af],λi hi=>U⟩
  |succ N ih=>
   intro p;obtain⟨Z,Y⟩:=ih<|M1 p;have h1:((N:Int)).toNat=N:=by clear pos;lia
   have z:((N:Int)+1).toNat=N+1:=by clear pos;lia
   have:=u N AGl;rw[Af,h1,z];refine⟨U,λi hi hp=>?_⟩;by_cases he:i=N
   .subst he;clear pos;omega
   .have:=Y i (GS hi he) hp;clear Z;lia
 obtain⟨i,hi,hp⟩:=pos;have:=(q n U).2 i hi hp;lia
theorem Rows.inj(y:i<j)(z:j<n):P i≠P j:=by
 intro e;by_cases q:j<=m+1
 .have a:=R.xb i U;have b:=R.T9 (i:=i+1) U q;rw[e]at a;lia
 by_cases v:m+1<=i
 .have a:=R.xt i v<|Br y z;have b:=R.Nc (i:=i+1) (j:=j) U U U;rw[e]at a;lia
 .have a:=R.QC (i:=i) U;have b:=R.yt j U z;rw[e]at a;lia
end
def Lt(a b c d:Pt):Prop:=∃q s t:Int,0<q/\0<=s/\s<=q/\0<=t/\t<=q/\q*a.2+s*(b.2-a.2)=q*c.2+t*(d.2-c.2)/\q*a.1+s*(b.1-a.1)<q*c.1+t*(d.1-c.1)
theorem NB{x a b:Int}(z:0<=x)(y:a<=b):a*x<=b*x:=AHL y z
theorem Xb(h1:Lt a b c d)(v:Lt c d a b):∃z s1 t1 q s2 t2 x y:Int,0<x/\0<y/\0<z/\0<q/\0<=s1/\s1<=z/\0<=s2/\s2<=q/\0<=t1/\t1<=z/\0<=t2/\t2<=q/\z*a.1+s1*(b.1-a.1)+x=z*c.1+t1*(d.1-c.1)/\(z*y+q*x)*a.1+(s1*y+s2*x)*(b.1-a.1)=(z*y+q*x)*c.1+(t1*y+t2*x)*(d.1-c.1)/\(z*y+q*x)*a.2+(s1*y+s2*x)*(b.2-a.2)=(z*y+q*x)*c.2+(t1*y+t2*x)*(d.2-c.2):=by
 obtain⟨z,s1,t1,u,p,Z,Y,Q,O,l1⟩:=h1;obtain⟨q,t2,s2,P,b1,b2,D,F,R,l2⟩:=v;refine⟨z,s1,t1,q,s2,t2,z*c.1+t1*(d.1-c.1)-(z*a.1+s1*(b.1-a.1)),q*a.1+s2*(b.1-a.1)-(q*c.1+t2*(d.1-c.1)),U,U,u,P,p,Z,D,F,Y,Q,b1,b2,U,AGg,?_⟩;generalize z*c.1+t1*(d.1-c.1)-(z*a.1+s1*(b.1-a.1))=x;generalize q*a.1+s2*(b.1-a.1)-(q*c.1+t2*(d.1-c.1))=y;have f1:(z*y+q*x)*a.2+(s1*y+s2*x)*(b.2-a.2)=y*(z*a.2+s1*(b.2-a.2))+x*(q*a.2+s2*(b.2-a.2)):=AGg
 have f2:(z*y+q*x)*c.2+(t1*y+t2*x)*(d.2-c.2)=y*(z*c.2+t1*(d.2-c.2))+x*(q*c.2+t2*(d.2-c.2)):=AGg
 simp only[f1,f2,O,<-R]
theorem Xh(h:¬ Bq a b c d)(h1:Lt a b c d):¬ Lt c d a b:=λv=>by
 obtain⟨q1,s1,t1,q2,s2,t2,x,y,z,q,u,p,Z,Y,b1,b2,Q,O,P,D,_,F,R⟩:=Xb h1 v;have p1:=AG1 u q;have p2:=AG1 p z;refine h ⟨_,_,_,U,?_,?_,?_,?_,F,R⟩
 .have:=AGu Z<|AGt q;have:=AGu b1<|AGt z;lia
 .have:=NB (AGt q) Y;have:=NB (AGt z) b2;lia
 .have:=AGu Q<|AGt q;have:=AGu P<|AGt z;lia
 .have:=NB (AGt q) O;have:=NB (AGt z) D;lia
def CL(A X B:Pt):Prop:=∀s t:Int,0<=s->0<=t->s*(X.1-A.1)=t*(B.1-A.1)->s*(X.2-A.2)=t*(B.2-A.2)->s=0/\t=0
theorem MS(z:AE u v w≠0):CL v u w:=λs t _ _ y q=>by
 have f1:s*AE u v w=0:=by
  have:s*AE u v w=(w.1-v.1)*(s*(u.2-v.2))-(w.2-v.2)*(s*(u.1-v.1)):=by unfold AE;grind
  simp only[this,y,q];grind
 have f2:t*AE u v w=0:=by
  have:t*AE u v w=(v.1-u.1)*(t*(w.2-v.2))-(v.2-u.2)*(t*(w.1-v.1)):=by unfold AE;grind
  simp only[this,<-y,<-q];grind
 exact⟨(AHA.mp f1).resolve_right z,(AHA.mp f2).resolve_right z⟩
theorem Ux(f:CL v u w)(sq:s<=q)(z:0<=t)(e1:q*u.1+s*(v.1-u.1)=q*v.1+t*(w.1-v.1))(e2:q*u.2+s*(v.2-u.2)=q*v.2+t*(w.2-v.2)):s=q/\t=0:=by obtain⟨a,b⟩:=f (q-s) t (Cp sq) z AGg AGg;exact⟨U,b⟩
theorem jd(Y:CL v u w)(h1:Lt u v v w):¬ Lt v w u v:=λQ=>by
 obtain⟨q,s1,t1,q2,s2,t2,x,y,z,p,Oy,Oz,a1,O,b1,b2,P,c2,D,d2,Z,F,R⟩:=Xb h1 Q;have m1:=NB (AGt p) O;have m2:=NB (AGt z) b2;have n1:=AGu P<|AGt p;have n2:=AGu D<|AGt z;obtain⟨hs,ht⟩:=Ux Y (by clear Z;lia) U F R;have k1:(q-s1)*y=0:=by rw[AJr];lia
 have B:s1=q:=by rcases AHA.mp k1 with h|h<;>lia
 have k2:t1*y=0:=U
 have G:t1=0:=by rcases AHA.mp k2 with h|h<;>lia
 subst B;subst G;have f:s1*u.1+s1*(v.1-u.1)=s1*v.1:=by clear z;grind
 rw[f,AHf]at Z;lia
def L(r:List Pt)(i j:Int):Prop:=Lt (AA r i) (AA r<|i+1) (AA r j)<|AA r<|j+1
theorem Ao{i j:Int}(h:(i-j)%(r.length)=0):AA r i=AA r j:=by unfold AA;have:=AIk.mpr h;rw[this]
structure A4(r:List Pt):Prop where
 l3:3<=r.length
 fork:∀k:Int,CL (AA r<|k+1) (AA r k)<|AA r<|k+1+1
 apart:∀i j:Int,CK r.length (i-j)->¬ Bq (AA r i) (AA r<|i+1) (AA r j) (AA r<|j+1)
section
variable{r:List Pt}(S:A4 r)
include S
theorem A4.cases(i j:Int):(i-j)%(r.length)=0\/(i-j)%(r.length)=1\/(j-i)%(r.length)=1\/CK r.length (i-j):=by
 have h3:=S.l3;have a:=AHE (i-j) (b:=(r.length))<|Lh h3;by_cases h0:(i-j)%(r.length)=0
 .exact .inl h0
 by_cases h1:(i-j)%(r.length)=1
 .exact .inr<|.inl h1
 by_cases z:(i-j)%(r.length)=r.length-1
 .right;right;left;have:j-i=1+r.length*(-((i-j) / r.length)-1):=by
   have:=AIR (i-j) r.length
   grind
  rw[this,AH7,AGn DH<|Df h3]
 .exact .inr<|.inr<|.inr ⟨h0,h1,z⟩
theorem A4.next{i j:Int}(h:(i-j)%(r.length)=1):AA r i=AA r (j+1)/\AA r (i+1)=AA r (j+1+1):=by
 have h3:=S.l3;have e:(i-(j+1))%(r.length)=0:=by rw[show i-(j+1)=(i-j)-1 by lia,AH3,h,AGn (a:=1) DH<|Df h3];rfl
 exact⟨Ao e,Ao (by rw[show i+1-(j+1+1)=i-(j+1)by lia];exact e)⟩
theorem A4.nc{i j:Int}(v:(i-j)%(r.length)≠0)(h1:L r i j):¬ L r j i:=by
 intro z;rcases S.cases i j with h|h|h|h
 .exact v h
 .obtain⟨y,q⟩:=S.next h
  unfold L at h1 z;rw[y,q]at h1 z;exact jd (S.fork j) z h1
 .obtain⟨y,q⟩:=S.next h
  unfold L at h1 z;rw[y,q]at h1 z;exact jd (S.fork i) h1 z
 .exact Xh (S.apart i j h) h1 z
theorem A4.share{i j:Int}(Z:(i-j)%(r.length)≠0)(Y:0<q)(u:0<=s)(s1:s<=q)(p:0<=t)(t1:t<=q) (z:q*(AA r i).1+s*((AA r<|i+1).1-(AA r i).1)=q*(AA r j).1+t*((AA r<|j+1).1-(AA r j).1)) (y:q*(AA r i).2+s*((AA r<|i+1).2-(AA r i).2)=q*(AA r j).2+t*((AA r<|j+1).2-(AA r j).2)) : ((i-j)%(r.length)=1/\s=0/\t=q)\/((j-i)%(r.length)=1/\s=q/\t=0):=by
 rcases S.cases i j with h|h|h|h
 .exact absurd h Z
 .obtain⟨f1,f2⟩:=S.next h
  rw[f1,f2]at z y;obtain⟨g1,v⟩:=Ux (S.fork j) t1 u z.symm y.symm;exact .inl ⟨h,v,g1⟩
 .obtain⟨f1,f2⟩:=S.next h
  rw[f1,f2]at z y;obtain⟨g1,v⟩:=Ux (S.fork i) s1 p z y;exact .inr ⟨h,g1,v⟩
 .exact absurd ⟨q,s,t,Y,u,s1,p,t1,z,y⟩ (S.apart i j h)
end
theorem Ny(r:List Pt)(i:Int)(Ax:(AA r i).2≠(AA r<|i+1).2):¬ L r i i:=by
 rintro⟨q,s,t,hq,s0,s1,t0,t1,e1,l⟩;have:(s-t)*((AA r<|i+1).2-(AA r i).2)=0:=AGg
 rcases AHA.mp this with h|h
 .have:s=t:=by clear l;lia
  subst this;lia
 .lia
theorem lN(h:(0<=z/\z<=D)\/(D<=z/\z<=0))(y:D≠0):∃g:Int,(g=1\/g = -1)/\0<g*D/\0<=g*z/\g*z<=g*D:=by
 rcases AHU y with h0|h0
 .exact⟨-1,.inr rfl,U,U,U⟩
 .exact⟨1,.inl rfl,U,U,U⟩
theorem Z5(y:b.1-a.1≠0)(hs:AE a b z=0)(q:(0<=z.1-a.1/\z.1-a.1<=b.1-a.1)\/(b.1-a.1<=z.1-a.1/\z.1-a.1<=0)):On a b z:=by
 obtain⟨g,hg,v,u,p3⟩:=lN q y;refine HK ⟨g*(b.1-a.1),g*(z.1-a.1),v,u,p3,AGg,?_⟩;unfold AE at hs
 grind
theorem Z6(y:b.1-a.1≠0)(h1:AE a b c=0)(q:AE a b d=0)(hz:(c.1<=a.1/\a.1<=d.1)\/(d.1<=a.1/\a.1<=c.1)):On c d a:=by
 unfold AE at h1 q;have k1:(b.1-a.1)*(c.2-a.2)=(b.2-a.2)*(c.1-a.1):=U
 by_cases v:d.1-c.1=0
 .have e:c.1-a.1=0:=AGi
  rw[e,AHv]at k1;have e2:c.2-a.2=0:=by
   rcases AHA.mp k1 with h|h
   .exact absurd h y
   .exact h
  exact HK ⟨1,0,HF,Bi,DH,U,U⟩
 .obtain⟨g,hg,u,p,p3⟩:=lN (z:=a.1-c.1) U v;refine HK ⟨g*(d.1-c.1),g*(a.1-c.1),u,p,p3,AGg,?_⟩;have k3:(b.1-a.1)*(g*(d.1-c.1)*(a.2-c.2)-g*(a.1-c.1)*(d.2-c.2))=0:=by
   have Z:(b.1-a.1)*(a.2-c.2)=(b.2-a.2)*(a.1-c.1):=by clear h1;grind
   have Y:(b.1-a.1)*(d.2-c.2)=(b.2-a.2)*(d.1-c.1):=by clear h1;grind
   have:(b.1-a.1)*(g*(d.1-c.1)*(a.2-c.2)-g*(a.1-c.1)*(d.2-c.2))=g*(d.1-c.1)*((b.1-a.1)*(a.2-c.2))-g*(a.1-c.1)*((b.1-a.1)*(d.2-c.2)):=AGg
   simp only[this,Z,Y];grind
  rcases AHA.mp k3 with h|h
  .exact absurd h y
  .omega
theorem qc(hD:b.1-a.1≠0)(h1:AE a b c=0)(z:AE a b d=0):AE b a c=0/\AE b a d=0:=by simp only[DR a b,DR a b,h1,z];exact⟨rfl,rfl⟩
theorem Z7(z:b.1-a.1≠0)(h1:AE a b c=0)(y:AE a b d=0)(hs:Bq a b c d):On a b c\/On a b d\/On c d a\/On c d b:=by
 obtain⟨q,s,t,v,u,s1,p,t1,e1,_⟩:=hs;have u1:=wsum (a:=a.1) (b:=b.1) (m:=max a.1 b.1) u s1 AGi U;have u2:=T8 (a:=a.1) (b:=b.1) (m:=min a.1 b.1) u s1 U AGi;have v1:=wsum (a:=c.1) (b:=d.1) (m:=max c.1 d.1) p t1 U U;have v2:=T8 (a:=c.1) (b:=d.1) (m:=min c.1 d.1) p t1 U U;have w1:min a.1 b.1<=max c.1 d.1:=AHz U v;have w2:min c.1 d.1<=max a.1 b.1:=AHz U v;by_cases hc:min a.1 b.1<=min c.1 d.1
 .by_cases BG:c.1<=d.1
  .exact .inl<|Z5 z h1 (by clear z;lia)
  .exact .inr<|.inl<|Z5 z y AGg
 .by_cases DG:a.1<=b.1
  .exact .inr<|.inr<|.inl<|Z6 z h1 y U
  .obtain⟨g1,Z⟩:=qc z h1 y;exact .inr<|.inr<|.inr<|Z6 U g1 Z (by clear z;lia)
noncomputable def sw(p:Pt):Pt:=(p.2,p.1)
theorem YU(a b c:Pt):AE (sw a) (sw b) (sw c) = - AE a b c:=by delta AE sw;grind
theorem TC{a b p:Pt}(h:On (sw a) (sw b)<|sw p):On a b p:=by obtain⟨h1,z,h3⟩:=h;rw[YU]at h1;exact⟨U,h3,z⟩
theorem AD0(h:Bq a b c d):Bq (sw a) (sw b) (sw c)<|sw d:=by obtain⟨q,s,t,h1,z,h3,y,v,u,p⟩:=h;exact⟨q,s,t,h1,z,h3,y,v,p,u⟩
theorem jS(h:Bq a b c d):Az a b c d=true:=by
 cases hm:Az a b c d with
 |true=>rfl
 |false=>
  exfalso;have O:¬ Az a b c d=true:=by rw[hm];simp
  simp only[Az,AHs,AGx,EL,not_or,not_and]at O;obtain⟨hp,⟨P,D⟩,Z,F⟩:=O;obtain⟨q,s,t,p,R,s1,Y,t1,B,G⟩:=id h;have n:AE a b c-AE a b d=AE c d b-AE c d a:=by unfold AE;grind
  have f1:(q-t)*AE a b c+t*AE a b d=0:=by
   have:(q-t)*AE a b c+t*AE a b d=(b.1-a.1)*(q*c.2+t*(d.2-c.2)-q*a.2)-(b.2-a.2)*(q*c.1+t*(d.1-c.1)-q*a.1):=by unfold AE;grind
   simp only[this,<-B,<-G];grind
  have f2:(q-s)*AE c d a+s*AE c d b=0:=by
   have:(q-s)*AE c d a+s*AE c d b=(d.1-c.1)*(q*a.2+s*(b.2-a.2)-q*c.2)-(d.2-c.2)*(q*a.1+s*(b.1-a.1)-q*c.1):=by unfold AE;grind
   simp only[this,B,G];grind
  have hc:t=0->On a b c:=λz=>by subst z;refine HK ⟨q,s,p,R,s1,?_,?_⟩<;>grind
  have hd:t=q->On a b d:=λz=>by subst z;refine HK ⟨t,s,p,R,s1,?_,?_⟩<;>grind
  have ha:s=0->On c d a:=λz=>by refine HK ⟨q,t,p,Y,t1,?_,?_⟩<;>grind
  have hb:s=q->On c d b:=λz=>by subst z;refine HK ⟨s,t,p,Y,t1,?_,?_⟩<;>grind
  have f:0<t:=U
  have wW:0<q-t:=U
  have S:0<s:=U
  have T:0<q-s:=U
  have Q:∀{x y u v:Int},0<u->0<v->u*x+v*y=0->(x=0/\y=0)\/(x<0/\0<y)\/(0<x/\y<0):=λ{x y u v} C E e=>by
   rcases AIh x 0 with hx|hx|hx
   .right;left;refine⟨hx,?_⟩;have:=AIw C hx;by_cases h:0<y
    .exact h
    .have h:y<=0:=U
     have:=AHQ (AGt E) h;lia
   .left;subst hx;refine⟨rfl,?_⟩;have:v*y=0:=U
    rcases AHA.mp this with h|h
    .lia
    .exact h
   .right;right;refine⟨hx,?_⟩;have:=AG1 C hx;by_cases h:y<0
    .exact h
    .have h:0<=y:=Pc h;have:=AGu (AGt E) h;lia
  rcases Q wW f f1 with⟨H,I⟩|z|z
  .-- on one line
   by_cases hD:b.1-a.1=0
   .by_cases hE:b.2-a.2=0
    .-- a way of one point
     refine Z<|HK ⟨q,t,p,Y,t1,?_,?_⟩
     .grind
     .grind
    .have k1:AE (sw a) (sw b) (sw c)=0:=by rw[YU,H];rfl
     have k2:AE (sw a) (sw b) (sw d)=0:=by rw[YU,I];rfl
     rcases Z7 hE k1 k2 (AD0 h)with k|k|k|k
     .exact P<|TC k
     .exact D<|TC k
     .exact Z<|TC k
     .exact F<|TC k
   .rcases Z7 hD H I h with k|k|k|k
    .exact P k
    .exact D k
    .exact Z k
    .exact F k
  .rcases Q T S f2 with⟨y1,y2⟩|y|y
   .lia
   .exact hp U U
   .exact hp (by simp[parts];grind) (by simp[parts];right;lia)
  .rcases Q T S f2 with⟨y1,y2⟩|y|y
   .lia
   .exact hp (by simp[parts];clear n;omega) (by simp[parts];left;lia)
   .exact hp U U
theorem Rm.FC(R:Rm r)(k:Int):AE (AA r k) (AA r<|k+1) (AA r<|k+1+1)≠0:=by have:=R.N8<|k+1+1;rw[show k+1+1-2=k by lia,show k+1+1-1=k+1 by lia]at this;exact this
theorem Rm.simple(R:Rm r):A4 r:=
 ⟨R.l3,λk=>MS<|R.FC k,λi j z hs=>by have:=R.apart i j z;unfold M at this;rw[jS hs]at this;cases this⟩
open Classical
def yy(r:List Pt)(i:Int):Int:=(AA r i).2
def Aj(r:List Pt)(h i:Int):Int:=if yy r i<=h/\h<yy r (i+1)then 1 else if yy r (i+1)<=h/\h<yy r i then -1 else 0
noncomputable def ind(p:Prop):Int:=if p then 1 else 0
theorem BS(h:p):ind p=1:=AGo h
theorem BB(h:¬ p):ind p=0:=AGp h
def Rr(r:List Pt)(h i:Int):Int:=Af (λj=>ind (L r i j)*Aj r h j) r.length
theorem HV{i j:Int}(h:(i-j)%(r.length)=0):yy r i=yy r j:=by unfold yy;rw[Ao h]
theorem CH{n i j:Int}(h:(i-j)%n=0):(i+1-(j+1))%n=0:=by rw[show i+1-(j+1)=i-j by lia];exact h
theorem Td{h i j:Int}(e:(i-j)%(r.length)=0):Aj r h i=Aj r h j:=by unfold Aj;rw[HV e,HV<|CH e]
theorem QZ{i i' j z:Int}(e:(i-i')%(r.length)=0)(f:(j-z)%(r.length)=0):L r i j=L r i' z:=by unfold L;simp only[Ao e,Ao<|CH e,Ao f,Ao<|CH f]
theorem lO(r:List Pt)(h j:Int):Aj r h j-Aj r (h-1) j=ind (yy r j=h)-ind (yy r (j+1)=h):=by
 delta Aj ind
 generalize yy r j=a;generalize yy r (j+1)=b;by_cases h1:a=h<;>by_cases z:b=h<;>simp only[h1,z,AIN,if_false]<;>(repeat' split)<;>lia
theorem comb{u a b g1 z x y:Int}(hs:a=b+(x-y))(q:(x=1/\g1=u)\/(x=0/\g1=0))(v:(y=1/\z=u)\/(y=0/\z=0)):u*a=u*b+(g1-z):=by rcases q with⟨rfl,rfl⟩|⟨rfl,rfl⟩<;>rcases v with⟨rfl,h⟩|⟨rfl,rfl⟩<;>(try subst h)<;>subst hs<;>grind
theorem Xc(h:Lt a b c c):Lt a b c d:=by obtain⟨q,s,t,h1,z,h3,h4,h5,e,l⟩:=h;exact⟨q,s,0,h1,z,h3,Bi,U,AGg,AGg⟩
theorem jM(h:Lt a b d d):Lt a b c d:=by obtain⟨q,s,t,h1,z,h3,h4,h5,e,l⟩:=h;exact⟨q,s,q,h1,z,h3,U,EJ,AGg,AGg⟩
theorem jL(h:Lt a a c d):Lt a b c d:=by obtain⟨q,s,t,h1,h2,h3,z,y,e,l⟩:=h;exact⟨q,0,t,h1,Bi,U,z,y,AGg,AGg⟩
theorem yN(h:Lt b b c d):Lt a b c d:=by obtain⟨q,s,t,h1,h2,h3,z,y,e,l⟩:=h;exact⟨q,q,t,h1,U,EJ,z,y,AGg,AGg⟩
set_option tactic.hygienic true
theorem TR{a b:Pt}(z:a.2≠b.2)(hr:(a.2<=h/\h<=b.2)\/(b.2<=h/\h<=a.2)):∃q s:Int,0<q/\0<=s/\s<=q/\q*a.2+s*(b.2-a.2)=q*h/\(s=0->h=a.2)/\(s=q->h=b.2):=by
 rcases AHU z with hl|hl
 .exact⟨b.2-a.2,h-a.2,U,U,U,AGg,U,U⟩
 .exact⟨a.2-b.2,a.2-h,U,U,U,AGg,U,U⟩
theorem X7{a b:Pt}(z:(a.2<=h/\h<b.2)\/(b.2<=h/\h<a.2)):∃q s:Int,0<q/\0<s/\s<q/\2*(q*a.2+s*(b.2-a.2))=q*(2*h+1):=by
 rcases z with hl|hl
 .exact⟨2*(b.2-a.2),2*h+1-2*a.2,jJ hl,by cases hl;lia,U,AGg⟩
 .exact⟨2*(a.2-b.2),2*a.2-(2*h+1),jJ hl,U,U,AGg⟩
theorem FX(hs:Aj r h i≠0):(yy r i<=h/\h<yy r (i+1))\/(yy r (i+1)<=h/\h<yy r i):=by
 unfold Aj at hs;by_cases h1:yy r i<=h/\h<yy r (i+1)
 .exact .inl h1
 .by_cases z:yy r (i+1)<=h/\h<yy r i
  .exact .inr z
  .rw[AGp h1,AGp z]at hs;exact absurd rfl hs
def RQ(r:List Pt)(h:Int)(A B:Pt):Int:=Af (λk=>ind (Lt A B (AA r k)<|AA r<|k+1)*Aj r h k) r.length
theorem l9{f g G:Int->Int}{n:Nat}(z:∀k,f k=g k+(G k-G (k+1)))(p:G n=G 0):Af f n=Af g n:=by have y:=Yh (λk=>-G k) n;rw[DC (g:=λk=>g k+(-G (k+1) - -G k)) λk _=>by rw[z];lia,P7 g λk=>-G (k+1) - -G k,y];lia
theorem aG(r:List Pt):AA r (r.length)=AA r 0:=Ao AGh
theorem lh(nc:∀k:Int,Lt A B (AA r k) (AA r<|k+1)->¬ Lt (AA r k) (AA r<|k+1) A B)(v:∀m:Int,yy r m=h->Lt A B (AA r m) (AA r m)\/Lt (AA r m) (AA r m) A B):RQ r h A B=RQ r (h-1) A B:=by
 refine l9 (G:=λk=>ind<|yy r k=h/\Lt A B (AA r k) (AA r k)) (λk=>comb (x:=ind<|yy r k=h) (y:=ind<|yy r (k+1)=h) (yM<|lO r h k) ?_ ?_) (by unfold yy;rw[aG])
 .by_cases a:yy r k=h
  .refine .inl ⟨BS a,?_⟩;rcases v k a with z|z
   .rw[BS ⟨a,z⟩,BS<|Xc z]
   .have q:=λc=>nc k c<|jL z;rw[BB q,BB λc=>q<|Xc c.2]
  .exact .inr ⟨BB a,BB λc=>a c.1⟩
 .by_cases a:yy r (k+1)=h
  .refine .inl ⟨BS a,?_⟩;rcases v (k+1) a with z|z
   .rw[BS ⟨a,z⟩,BS<|jM z]
   .have q:=λc=>nc k c<|yN z;rw[BB q,BB λc=>q<|jM c.2]
  .exact .inr ⟨BB a,BB λc=>a c.1⟩
theorem ZX(st:∀h,(A.2<h/\h<B.2)\/(B.2<h/\h<A.2)->RQ r h A B=RQ r (h-1) A B)(h1:(A.2<=h/\h<B.2)\/(B.2<=h/\h<A.2))(y:(A.2<=h'/\h'<B.2)\/(B.2<=h'/\h'<A.2)):RQ r h A B=RQ r h' A B:=by
 have z:∀(m:Nat)(h:Int),((A.2<=h/\h<B.2)\/(B.2<=h/\h<A.2))->((A.2<=h+m/\h+m<B.2)\/(B.2<=h+m/\h+m<A.2))->RQ r (h+m) A B=RQ r h A B:=by
  intro m
  induction m with
  |zero=>simp
  |succ m ih=>
   intro h a b;rw[<-ih h a U,st (h+((m+1:Nat))) U,show h+((m+1:Nat))-1=h+m by lia]
 rcases AIn h h' with hl|hl
 .have:=z (h'-h).toNat h h1 (by rw[AHB<|Cp hl,Sl];exact y);rw[AHB<|Cp hl,Sl]at this;exact this.symm
 .have:=z (h-h').toNat h' y (by rw[AHB<|Cp hl,Sl];exact h1);rw[AHB<|Cp hl,Sl]at this;exact this
set_option tactic.hygienic false
section
variable{r:List Pt}(S:A4 r)
include S
theorem A4.NW{h i j:Int}(Y:(i-j)%(r.length)≠0)(hi:Aj r h i≠0)(Q:Aj r h j≠0):L r i j\/L r j i:=by
 obtain⟨y,s1,v,O,p3,P⟩:=X7 <|FX hi;obtain⟨q,s2,u,D,F,R⟩:=X7 <|FX Q;have p:=AG1 v u;have m2:=AG1 O u;have m3:=AG1 D v;have m4:=AIo p3 u;have m5:s2*y<y*q:=by rw[AI1 y];exact AIo F v
 have Z:y*q*(AA r i).2+s1*q*((AA r<|i+1).2-(AA r i).2)=y*q*(AA r j).2+s2*y*((AA r<|j+1).2-(AA r j).2):=by
  have f1:2*(y*q*(AA r i).2+s1*q*((AA r<|i+1).2-(AA r i).2))=q*(2*(y*(AA r i).2+s1*((AA r<|i+1).2-(AA r i).2))):=AGg
  have f2:2*(y*q*(AA r j).2+s2*y*((AA r<|j+1).2-(AA r j).2))=y*(2*(q*(AA r j).2+s2*((AA r<|j+1).2-(AA r j).2))):=AGg
  rw[P]at f1;rw[R]at f2;lia
 rcases AIh (y*q*(AA r i).1+s1*q*((AA r<|i+1).1-(AA r i).1)) (y*q*(AA r j).1+s2*y*((AA r<|j+1).1-(AA r j).1))with hl|he|hg
 .exact .inl ⟨_,_,_,p,U,U,U,U,Z,hl⟩
 .rcases S.share Y p U U U U he Z with⟨_,z,_⟩|⟨_,z,_⟩<;>lia
 .exact .inr ⟨_,_,_,p,U,U,U,U,Z.symm,hg⟩
theorem A4.off{m j:Int}(h0:(m-j)%(r.length)≠0)(h1:(m-j)%(r.length)≠1)(y:0<q)(v:0<=s)(s1:s<=q)(u:q*(AA r j).2+s*((AA r<|j+1).2-(AA r j).2)=q*(AA r m).2):q*(AA r j).1+s*((AA r<|j+1).1-(AA r j).1)≠q*(AA r m).1:=by
 intro p;rcases S.share h0 (s:=0) y Bi U v s1 (by rw[p];lia) (by rw[u];lia)with⟨z,_⟩|⟨_,z,_⟩
 .exact h1 z
 .lia
theorem A4.Y1{m i:Int}(h0:(m-i)%(r.length)≠0)(h1:(m-i)%(r.length)≠1)(v:yy r i≠yy r (i+1))(u:(yy r i<=yy r m/\yy r m<=yy r (i+1))\/(yy r (i+1)<=yy r m/\yy r m<=yy r i)) : Lt (AA r i) (AA r<|i+1) (AA r m) (AA r m)\/Lt (AA r m) (AA r m) (AA r i) (AA r<|i+1):=by
 obtain⟨q,s,z,y,s1,e,_,_⟩:=TR v u;rcases AHU (S.off h0 h1 z y s1 e)with hl|hl
 .exact .inl ⟨q,s,0,z,y,s1,Bi,U,by unfold yy at e;rw[e];exact XZ,XY hl⟩
 .exact .inr ⟨q,0,s,z,Bi,U,y,s1,by unfold yy at e;rw[e];exact Sj,Sn hl⟩
set_option tactic.hygienic true
theorem A4.LB(h1:Aj r h i≠0)(y:Aj r h' i≠0):Rr r h i=Rr r h' i:=by
 have ne:yy r i≠yy r (i+1):=Pj<|FX h1;refine ZX (λh hh=>lh (λk c d=>?_) λm e=>?_) (FX h1)<|FX y
 .by_cases z:(i-k)%(r.length)=0
  .rw[<-Ao z,<-Ao<|CH z]at c;exact Ny r i ne c
  .exact S.nc z c d
 .unfold yy at e;refine S.Y1 (λz=>?_) (λz=>?_) ne (by unfold yy;lia)
  .rw[Ao z]at e;lia
  .rw[(S.next z).1]at e;lia
end
theorem Yg{n:Nat}(hn:0<n)(hp:∀a b:Int,(a-b)%(n)=0->f a=f b)(i:Int):Af (λm=>f<|i+m) n=Af f n:=by
 have h1:Af (λm=>f<|i+m) n=Af (λm=>f<|m+((i%(n)).toNat)) n:=DC λm _=>hp _ _ (by
  rw[AHB<|AHE i (b:=(n))<|IC hn,show i+(m)-(m+i%(n))=i-i%n by lia];have:=AIR i n;have e:i-i%(n)=n*(i / n):=U
  rw[e];exact AIp _ _)
 rw[h1];exact Yf f n (λx=>hp _ _ (by rw[show x+(n)-x=n by lia];exact AIM)) _
theorem To:∀{n:Nat},(∀m:Nat,m<n->f m=0)->Af f n=0
 |0,_=>rfl
 |n+1,h=>by rw[Af,To λm hm=>h m<|HG hm,h n FP];rfl
theorem Tn:∀{n:Nat},d<n->(∀m:Nat,m<n->m≠d->f m=0)->Af f n=f d
 |0,h,_=>U
 |n+1,h,hz=>by
  simp only[Af];by_cases hd:d=n
  .subst hd;rw[To λm hm=>hz m (HG hm) U];lia
  .rw[Tn (GS h hd) λm hm z=>hz m (HG hm) z,hz n FP (by rintro rfl;lia)];lia
theorem AEI(hc:c<d)(hd:d<n)(z:∀m:Nat,m<n->m≠c->m≠d->f m=0):Af f n=f c+f d:=by
 induction n with
 |zero=>lia
 |succ n ih=>
  simp only[Af];by_cases h:d=n
  .subst h;rw[Tn hc λm hm y=>z m (HG hm) y U]
  .rw[ih (GS hd h) λm hm=>z m<|HG hm,z n FP U U];lia
theorem F2{n a b:Int}(h:(a-b)%n=0):(b-a)%n=0:=by rw[show b-a = -(a-b)by lia];exact AKY<|Int.dvd_neg.mpr<|Int.dvd_of_emod_eq_zero h
theorem F3{n a b:Int}(hn:1<n)(h:(a-b)%n=1):(a-1-b)%n=0:=by rw[show a-1-b=(a-b)-1 by lia,AH3,h,AGn DH hn];rfl
def cc(r:List Pt)(h i:Int):Int:=Rr r h i+ind (yy r i<yy r (i+1))
theorem qL{h i j:Int}(e:(i-j)%(r.length)=0):cc r h i=cc r h j:=by
 delta cc Rr
 simp only[HV e,HV<|CH e]
 congr 1
 exact DC λm _=>by rw[QZ e (AGh:((m:Int)-m)%(r.length)=0)]
theorem Tf(h1:yy r i<=h)(z:h<yy r (i+1)):Aj r h i=1:=AGo ⟨h1,z⟩
theorem Te(h1:yy r (i+1)<=h)(z:h<yy r i):Aj r h i = -1:=by unfold Aj;rw[AGp U,AGo ⟨h1,z⟩]
theorem Dx(y:(yy r i<=h/\h<yy r (i+1))\/(yy r (i+1)<=h/\h<yy r i)):Aj r h i≠0:=by
 rcases y with z|z
 .rw[Tf z.1 z.2];lia
 .rw[Te z.1 z.2];lia
theorem WA{C:Nat->Prop}{N D:Nat->Int}(v:∀j,C j->0<D j):∀n:Nat,(∃j,j<n/\C j)->∃e,e<n/\C e/\∀j,j<n->C j->N j*D e<=N e*D j
 |0,⟨j,h,_⟩=>U
 |n+1,⟨j,z,hc⟩=>by
  by_cases y:∃j,j<n/\C j
  .obtain⟨e,he,u,hm⟩:=WA v n y;by_cases hn:C n
   .by_cases p:N n*D e<=N e*D n
    .exact⟨e,HG he,u,λj z q=>by
      by_cases h:j=n
      .subst h;exact p
      .exact hm j (GS z h) q⟩
    .refine⟨n,FP,hn,λj z q=>?_⟩;by_cases h:j=n
     .subst h;exact AHY _
     .have m1:=AHL (hm j (GS z h) q)<|AGt<|v n hn;have m2:=AHL (U:N e*D n<=N n*D e)<|AGt<|v j q;exact AHz U<|v e u
   .exact⟨e,HG he,u,λj z q=>by
     by_cases h:j=n
     .subst h;exact absurd q hn
     .exact hm j (GS z h) q⟩
  .have Z:j=n:=by
    by_cases h:j=n
    .exact h
    .exact absurd ⟨j,GS z h,hc⟩ y
   subst Z;exact⟨j,FP,hc,λm hm Y=>by
    by_cases h:m=j
    .subst h;exact AHY _
    .exact absurd ⟨m,GS hm h,Y⟩ y⟩
theorem lQ(r:List Pt)(h j:Int):Aj r h j=ind (yy r j<=h)-ind (yy r (j+1)<=h):=by
 delta Aj ind
 generalize yy r (j+1)=b
 (repeat' split)<;>lia
theorem GV(h:Lt a b c d):Lt b a c d:=by obtain⟨q,s,t,h1,z,h3,y,v,e,l⟩:=h;exact⟨q,q-s,t,h1,Cp h3,Lf z,y,v,AGg,AGg⟩
theorem HH(h:Lt a b c d):Lt a b d c:=by obtain⟨q,s,t,h1,z,h3,y,v,e,l⟩:=h;exact⟨q,s,q-t,h1,z,h3,Cp v,Lf y,AGg,AGg⟩
theorem NS(h:Bq a b c d):Bq b a c d:=by obtain⟨q,s,t,h1,z,h3,y,v,e1,e2⟩:=h;exact⟨q,q-s,t,h1,Cp h3,Lf z,y,v,AGg,AGg⟩
theorem Kz(h:At a b p):At b a p:=by obtain⟨q,s,h1,z,h3,e1,e2⟩:=h;exact⟨q,q-s,h1,Cp h3,Lf z,AGg,AGg⟩
theorem S5(f:CL A X B)(h1:Lt A B A X):¬ Lt A X A B:=λu=>by
 obtain⟨q1,s1,t1,q2,s2,t2,x,y,z,q,Oy,Oz,p,a2,b1,b2,Z,c2,Y,d2,v,e1,e2⟩:=Xb h1 u;have n1:=AGu p<|AGt q;have n2:=AGu b1<|AGt z;have n3:=AGu Z<|AGt q;have n4:=AGu Y<|AGt z;obtain⟨z1,z2⟩:=f (t1*y+t2*x) (s1*y+s2*x) U U U U;have k1:s1*y=0:=by clear v;lia
 have k2:t1*y=0:=U
 have Q:s1=0:=by rcases AHA.mp k1 with h|h<;>omega
 have O:t1=0:=by rcases AHA.mp k2 with h|h<;>omega
 rw[Q,O]at v;lia
theorem CL.symm(f:CL A X B):CL A B X:=λs t hs z y q=>(f t s z hs y.symm q.symm).symm
theorem J2(p:X≠A)(Z:B≠A)(h1:¬ At A B X)(Y:¬ At A X B):CL A X B:=λa b ha u z y=>by
 by_cases a0:a=0
 .refine⟨a0,?_⟩;by_cases q:b=0
  .exact q
  .exfalso;apply Z;rw[a0,AHf]at z y;have g1:=AHA.mp z.symm;have v:=AHA.mp y.symm;exact AID (KU g1 q)<|KU v q
 by_cases q:b=0
 .exfalso;apply p;rw[q,AHf]at z y;have g1:=AHA.mp z;have v:=AHA.mp y;exact AID (KU g1 a0)<|KU v a0
 exfalso;rcases AIn b a with h|h
 .exact h1 ⟨a,b,Cf ha a0,u,h,z,y⟩
 .exact Y ⟨b,a,Cf u q,ha,h,z.symm,y.symm⟩
structure Probe(r:List Pt)(i j:Int):Prop where
 Bl:CK r.length<|i-j
 f1:CL (AA r i) (AA r<|i+1)<|AA r j
 f2:CL (AA r i) (AA r<|i-1)<|AA r j
 f3:CL (AA r j) (AA r<|j+1)<|AA r i
 f4:CL (AA r j) (AA r<|j-1)<|AA r i
 nt:∀k:Int,(i-k)%(r.length:Int)≠0->(i-k)%(r.length:Int)≠1->(j-k)%(r.length:Int)≠0->(j-k)%(r.length:Int)≠1->¬ Bq (AA r i) (AA r j) (AA r k) (AA r<|k+1)
theorem mod_succ{n a b:Int}(hn:1<n)(h:(a-b)%n=0):(a+1-b)%n=1:=by simp only[show a+1-b=(a-b)+1 by lia,AIL,h,AGn DH hn,AHW,AGn DH hn]
theorem fJ(hn:2<=n)(h:CK n d):d%n≠0/\d%n≠1/\(-d)%n≠0/\(-d)%n≠1:=⟨h.1,h.2.1,(h.neg hn).1,(h.neg hn).2.1⟩
section
variable{r:List Pt}(S:A4 r)
include S
theorem Probe.symm(p:Probe r i j):Probe r j i:=
 ⟨by have:=p.Bl.neg (by have:=S.l3;exact KS this);rw[show -(i-j)=j-i by lia]at this;exact this,p.f3,p.f4,p.f1,p.f2,λk a b c d h=>p.nt k c d a b<|NS h⟩
theorem A4.distinct{m j:Int}(h0:(m-j)%(r.length)≠0)(h1:(m-j)%(r.length)≠1):AA r m≠AA r j:=λe=>by
 refine S.off h0 h1 (q:=1) (s:=0) HF Bi DH ?_ ?_
 .rw[e];lia
 .rw[e];lia
theorem Probe.Rc(p:Probe r i j):CL (AA r i) (AA r<|i+1)<|AA r j:=p.f1
theorem Probe.MR(p:Probe r i j):CL (AA r i) (AA r<|i-1)<|AA r j:=p.f2
theorem A4.FT{m j:Int}(h0:(m-j)%(r.length)≠0)(h1:(m-j)%(r.length)≠1):¬ At (AA r j) (AA r<|j+1) (AA r m):=by rintro⟨q,s,z,y,s1,e1,e2⟩;exact S.off h0 h1 z y s1 AGg AGg
theorem fZ(FC:∀k:Int,AE (AA r k) (AA r<|k+1) (AA r<|k+1+1)≠0){i j:Int}(Bl:CK r.length<|i-j)(nt:∀k:Int,(i-k)%(r.length)≠0->(i-k)%(r.length)≠1->(j-k)%(r.length)≠0->(j-k)%(r.length)≠1->¬ Bq (AA r i) (AA r j) (AA r k) (AA r<|k+1)):CL (AA r i) (AA r<|i+1)<|AA r j:=by
 have h3:=S.l3;obtain⟨f0,f1,f2,f3⟩:=fJ (KS h3) Bl;rw[show -(i-j)=j-i by lia]at f2 f3;have z:=FC i;refine J2 (λc=>z (by rw[c];unfold AE;grind)) (S.distinct f2 f3) (λy=>?_)<|S.FT f2 f3;by_cases q:(j-(i+1))%(r.length)=1
 .apply z;rw[<-(S.next q).1,Bs,DR,(HK y).1];rfl
 .have:(-1:Int)%(r.length)=r.length-1:=by rw[show(-1:Int)=(r.length-1)+r.length*(-1)by lia,AH7,AGn U U]
  refine nt (i+1) (λc=>U) (λc=>U) (λc=>f3 ?_) q<|Th y;have:=mod_succ (Df h3) c;rw[show j+1-(i+1)=j-i by clear f3;lia]at this;exact this
theorem fg(FC:∀k:Int,AE (AA r k) (AA r<|k+1) (AA r<|k+1+1)≠0){i j:Int}(Bl:CK r.length<|i-j)(nt:∀k:Int,(i-k)%(r.length)≠0->(i-k)%(r.length)≠1->(j-k)%(r.length)≠0->(j-k)%(r.length)≠1->¬ Bq (AA r i) (AA r j) (AA r k) (AA r<|k+1)):CL (AA r i) (AA r<|i-1)<|AA r j:=by
 have h3:=S.l3;obtain⟨f0,f1,f2,f3⟩:=fJ (KS h3) Bl;rw[show -(i-j)=j-i by lia]at f2 f3;have v:i-2+1=i-1:=U
 have y:i-1+1=i:=Dt;have q:=FC<|i-2;rw[v,y]at q;have u:(j-(i-1))%(r.length)≠0:=λc=>f1 (by have:=mod_succ (Df h3)<|F2 c;rw[y]at this;exact this)
 refine J2 (λc=>q (by rw[c];unfold AE;grind)) (S.distinct f2 f3) (λp=>?_) λz=>S.FT (m:=j) (j:=i-1) u (λc=>?_) (by rw[y];exact Kz z)
 .by_cases Z:(j-(i-2))%(r.length)=0
  .apply q;rw[<-Ao Z,<-Bs,<-Bs,(HK p).1]
  .refine nt (i-2) (λc=>?_) (λc=>?_) Z (λc=>u ?_) (by rw[v];exact YR p)
   .rw[show i-(i-2)=2 by lia,AGn U U]at c;lia
   .rw[show i-(i-2)=2 by lia,AGn U U]at c;lia
   .have:=F3 (Df h3) c;rw[show j-1-(i-2)=j-(i-1)by lia]at this;exact this
 .have:=F3 (Df h3) c;rw[show j-1-(i-1)=j-i by lia]at this;exact f2 this
theorem ABF(FC:∀k:Int,AE (AA r k) (AA r<|k+1) (AA r<|k+1+1)≠0){i j:Int}(Bl:CK r.length<|i-j)(nt:∀k:Int,(i-k)%(r.length)≠0->(i-k)%(r.length)≠1->(j-k)%(r.length)≠0->(j-k)%(r.length)≠1->¬ Bq (AA r i) (AA r j) (AA r k) (AA r<|k+1)):Probe r i j:=by
 have z:=by have:=Bl.neg (by have:=S.l3;exact KS this);rw[show -(i-j)=j-i by lia]at this;exact this
 have y:=λk a b c d h=>nt k c d a b<|NS h;exact⟨Bl,fZ S FC Bl nt,fg S FC Bl nt,fZ S FC z y,fg S FC z y,nt⟩
theorem Probe.nc(p:Probe r i j)(k:Int)(h1:Lt (AA r i) (AA r j) (AA r k)<|AA r<|k+1):¬ Lt (AA r k) (AA r<|k+1) (AA r i) (AA r j):=by
 have h3:=S.l3;have u:=p.symm S;by_cases a:(i-k)%(r.length)=0
 .have y:=Ao a;have q:=Ao<|CH a;simp only[<-y,<-q]at h1 ⊢;exact S5 (p.Rc S) h1
 by_cases b:(i-k)%(r.length)=1
 .have v:=(Ao (by have:=F3 (Df h3) b;exact this)).symm;simp only[<-(S.next b).1,v]at h1 ⊢;exact λc=>S5 (p.MR S) (HH h1)<|GV c
 by_cases c:(j-k)%(r.length)=0
 .have y:=Ao c;have q:=Ao<|CH c;rw[<-y,<-q]at h1 ⊢;exact λz=>S5 (u.Rc S) (GV h1)<|HH z
 by_cases d:(j-k)%(r.length)=1
 .have v:=(Ao (by have:=F3 (Df h3) d;exact this)).symm;rw[<-(S.next d).1,v]at h1 ⊢;exact λz=>S5 (u.MR S) (GV<|HH h1)<|GV<|HH z
 .exact Xh (p.nt k a b c d) h1
theorem Probe.NY(p:Probe r i j)(a:(i-m)%(r.length)≠0)(c:(j-m)%(r.length)≠0):¬ At (AA r i) (AA r j) (AA r m):=by
 have h3:=S.l3;intro z;by_cases b:(i-m)%(r.length)=1
 .have y:=(Ao (by have:=F3 (Df h3) b;exact this)).symm;rw[y]at z;obtain⟨q,s,Y,v,s1,u,Z⟩:=z;have:=(p.MR S q s U v u Z).1;lia
 by_cases d:(j-m)%(r.length)=1
 .have y:=(Ao (by have:=F3 (Df h3) d;exact this)).symm;rw[y]at z;obtain⟨q,s,Y,v,s1,u,Z⟩:=Kz z;have:=((p.symm S).MR S q s U v u Z).1;lia
 .exact p.nt m a b c d<|Th z
end
section
variable{r:List Pt}(S:A4 r)
include S
theorem A4.lj(k:Int):AA r (k+1)≠AA r k:=λc=>by have:=(S.fork k 1 0 DH Bi U U).1;lia
theorem A4.inj(e:AA r m=AA r j):(m-j)%(r.length)=0:=by
 rcases S.cases m j with a|a|a|a
 .exact a
 .exact absurd ((S.next a).1.symm.trans e) (S.lj j)
 .exact absurd ((S.next a).1.symm.trans e.symm) (S.lj m)
 .exact absurd e (S.distinct a.1 a.2.1)
end
section
variable{r:List Pt}(S:A4 r){i j:Int}(p:Probe r i j)
include S p
theorem Probe.Y1(a:(i-m)%(r.length)≠0)(c:(j-m)%(r.length)≠0)(v:yy r i≠yy r j)(u:(yy r i<=yy r m/\yy r m<=yy r j)\/(yy r j<=yy r m/\yy r m<=yy r i)) : Lt (AA r i) (AA r j) (AA r m) (AA r m)\/Lt (AA r m) (AA r m) (AA r i) (AA r j):=by
 obtain⟨q,s,z,y,s1,e,_,_⟩:=TR v u;unfold yy at e;rcases AIh (q*(AA r i).1+s*((AA r j).1-(AA r i).1)) (q*(AA r m).1)with hl|he|hg
 .exact .inl ⟨q,s,0,z,y,s1,Bi,U,by rw[e];exact XZ,XY hl⟩
 .exact absurd ⟨q,s,z,y,s1,AGg,AGg⟩ (p.NY S a c)
 .exact .inr ⟨q,0,s,z,Bi,U,y,s1,by rw[e];exact Sj,Sn hg⟩
theorem Probe.along(h1:(yy r i<=h/\h<yy r j)\/(yy r j<=h/\h<yy r i))(z:(yy r i<=h'/\h'<yy r j)\/(yy r j<=h'/\h'<yy r i)):RQ r h (AA r i) (AA r j)=RQ r h' (AA r i) (AA r j):=
 ZX (λh hh=>lh (p.nc S) λm e=>p.Y1 S (λc=>by have:=HV c;unfold yy at *;lia) (λc=>by have:=HV c;unfold yy at *;lia) (Pj h1) (by unfold yy at *;lia)) h1 z
end
noncomputable def dbl(p:Pt):Pt:=(2*p.1,2*p.2)
section
variable{r:List Pt}(S:A4 r){i j:Int}(p:Probe r i j)
include S p
theorem Probe.ye(k:Int):¬ At (dbl<|AA r k) (dbl<|AA r<|k+1) ((AA r i).1+(AA r j).1,(AA r i).2+(AA r j).2):=by
 have h3:=S.l3;have Z:=p.symm S;rintro⟨q,s,hq,s0,s1,z,y⟩;unfold dbl at z y;dsimp only at z y;by_cases a:(i-k)%(r.length)=0
 .have Y:=Ao a;have v:=Ao<|CH a;rw[<-Y,<-v]at z y;have:=(p.Rc S (2*s) q U U AGg AGg).2;lia
 by_cases b:(i-k)%(r.length)=1
 .have e:=S.next b;have u:=(Ao (by have:=F3 (Df h3) b;exact this)).symm;rw[<-e.1,u]at z y;have:=(p.MR S (2*(q-s)) q U U AGg AGg).2;lia
 by_cases c:(j-k)%(r.length)=0
 .have v:=Ao<|CH c;rw[<-(Ao c),<-v]at z y;have:=(Z.Rc S (2*s) q U U AGg AGg).2;lia
 by_cases d:(j-k)%(r.length)=1
 .have u:=(Ao (by have:=F3 (Df h3) d;exact this)).symm;rw[<-(S.next d).1,u]at z y;have:=(Z.MR S (2*(q-s)) q U U AGg AGg).2;lia
 .exact p.nt k a b c d ⟨2*q,q,2*s,U,U,U,U,U,AGg,AGg⟩
end
def NN(r:List Pt)(h i:Int):Int:=Af (λk=>ind (Lt (AA r i) (AA r i) (AA r k)<|AA r<|k+1)*Aj r h k) r.length
theorem VH(z:A.2<X.2)(y:A.2<Y.2):Lt A X A Y↔AE A Y X>0:=by
 constructor
 .rintro⟨q,s,t,hq,s0,s1,p,t1,e,l⟩;have v:s*(X.2-A.2)=t*(Y.2-A.2):=U
  have u:s*(X.1-A.1)<t*(Y.1-A.1):=U
  have Z:0<t:=by
   by_cases c:t=0
   .rw[c,AHf]at v u;have:s=0:=by rcases AHA.mp v with h|h<;>lia
    rw[this]at u;lia
   .exact Cf p c
  have k:t*AE A Y X=(X.2-A.2)*(t*(Y.1-A.1)-s*(X.1-A.1)):=by
   have:t*AE A Y X=(t*(Y.1-A.1))*(X.2-A.2)-(t*(Y.2-A.2))*(X.1-A.1):=by unfold AE;grind
   simp only[this,<-v];grind
  have:=AG1 (show 0<X.2-A.2 from F0 z) (U:0<t*(Y.1-A.1)-s*(X.1-A.1));by_cases c:AE A Y X>0
  .exact c
  .have:=AHQ (AGt Z) (U:AE A Y X<=0);omega
 .intro h;have m1:(Y.2-A.2)*1<=(Y.2-A.2)*(X.2-A.2):=AG5 U<|F1 y;have m2:(X.2-A.2)*1<=(X.2-A.2)*(Y.2-A.2):=AG5 U<|F1 z;exact⟨(X.2-A.2)*(Y.2-A.2),Y.2-A.2,X.2-A.2,AG1 (F0 z)<|F0 y,F1 y,AGg,F1 z,AGg,AGg,by unfold AE at h;grind⟩
set_option tactic.hygienic true
noncomputable def FG(p:Pt):Pt:=(p.1,-p.2)
theorem jN(h:Lt a b c d):Lt (FG a) (FG b) (FG c)<|FG d:=by obtain⟨q,s,t,h1,z,h3,y,v,e,l⟩:=h;exact⟨q,s,t,h1,z,h3,y,v,by unfold FG;dsimp only;grind,l⟩
theorem V4(a:Pt):FG (FG a)=a:=AID rfl<|AJC _
theorem qO(z:X.2<A.2)(y:Y.2<A.2):Lt A X A Y↔AE A X Y>0:=by have:=VH (A:=FG A) (X:=FG X) (Y:=FG Y) (Int.neg_lt_neg z)<|Int.neg_lt_neg y;rw[show AE (FG A) (FG Y) (FG X)=AE A X Y by unfold AE FG;grind]at this;exact⟨λh=>this.mp<|jN h,λh=>by have:=jN<|this.mpr h;rw[V4,V4,V4]at this;exact this⟩
theorem Rf(f:CL A X B)(h:(A.2<X.2/\A.2<B.2)\/(X.2<A.2/\B.2<A.2)):AE A X B≠0:=λc=>by
 unfold AE at c;rcases h with⟨h1,z⟩|⟨h1,z⟩
 .have:=(f (B.2-A.2) (X.2-A.2) (F1 z) (F1 h1) AGg AGg).1;lia
 .have:=(f (A.2-B.2) (A.2-X.2) (F1 z) (F1 h1) AGg AGg).1;lia
section
variable{r:List Pt}(S:A4 r){i:Int}(gU:yy r (i-1)≠yy r i)(gV:yy r (i+1)≠yy r i)
include S gU gV
set_option tactic.hygienic false
theorem A4.A7(h:(i-k)%(r.length)=0\/(i-k)%(r.length)=1):¬ Lt (AA r i) (AA r i) (AA r k) (AA r<|k+1):=by
 have h3:=S.l3;rcases h with a|b
 .simp only[<-Ao a,<-Ao<|CH a];rintro⟨q,s,t,y,v,s1,u,t1,e,l⟩;unfold yy at gV;have:t*((AA r<|i+1).2-(AA r i).2)=0:=AGg
  rcases AHA.mp this with z|z
  .rw[z]at l;grind
  .lia
 .have e:=S.next b;have p:=(Ao (by have:=F3 (Df h3) b;exact this)).symm;rw[<-e.1];rintro⟨q,s,t,y,v,s1,u,t1,e,l⟩;unfold yy at gU;have:(q-t)*((AA r<|i-1).2-(AA r i).2)=0:=AGg
  rcases AHA.mp this with z|z
  .have:t=q:=AGi
   rw[this]at l;grind
  .clear p;lia
theorem A4.YT(a:(i-k)%(r.length)≠0)(b:(i-k)%(r.length)≠1)(y:0<q)(v:0<=s)(s1:s<=q)(e:q*(AA r k).2+s*((AA r<|k+1).2-(AA r k).2)=q*yy r i) : (q*(AA r i).1<q*(AA r k).1+s*((AA r<|k+1).1-(AA r k).1)/\Lt (AA r i) (AA r i) (AA r k) (AA r<|k+1))\/(q*(AA r k).1+s*((AA r<|k+1).1-(AA r k).1)<q*(AA r i).1/\Lt (AA r k) (AA r<|k+1) (AA r i) (AA r i)/\¬ Lt (AA r i) (AA r i) (AA r k) (AA r<|k+1)):=by
 unfold yy at e;have ns:¬ Bq (AA r i) (AA r i) (AA r k) (AA r<|k+1):=by rintro⟨q',s',t',h1,h2,h3,u,p,e1,e2⟩;exact S.off a b h1 u p AGg AGg
 rcases AHU (S.off a b y v s1 e)with z|z
 .have l:Lt (AA r k) (AA r<|k+1) (AA r i)<|AA r i:=⟨q,s,0,y,v,s1,Bi,U,by rw[e];exact XZ,XY z⟩;exact .inr ⟨z,l,λc=>Xh ns c l⟩
 .exact .inl ⟨z,⟨q,0,s,y,Bi,U,v,s1,by rw[e];exact Sj,Sn z⟩⟩
theorem A4.oX:NN r (yy r i) i=NN r (yy r i-1) i:=by
 have Z:∀k:Int,ind (Lt (AA r i) (AA r i) (AA r k)<|AA r<|k+1)*Aj r (yy r i) k=ind (Lt (AA r i) (AA r i) (AA r k)<|AA r<|k+1)*Aj r (yy r i-1) k+(ind (yy r k=yy r i/\(AA r i).1<(AA r k).1)-ind (yy r (k+1)=yy r i/\(AA r i).1<(AA r<|k+1).1)):=by
  intro k;have hd:=lO r (yy r i) k;by_cases p:(i-k)%(r.length)=0\/(i-k)%(r.length)=1
  .rw[BB<|S.A7 gU gV p];have g:ind (yy r k=yy r i/\(AA r i).1<(AA r k).1)=0/\ind (yy r (k+1)=yy r i/\(AA r i).1<(AA r<|k+1).1)=0:=by
    have h3:=S.l3;rcases p with a|b
    .rw[<-Ao a,<-HV<|CH a];exact⟨BB λc=>U,BB λc=>gV c.1⟩
    .have Y:=by have:=F3 (Df h3) b;exact this
     refine⟨BB λc=>?_,BB λc=>?_⟩
     .rw[<-HV Y]at c;exact gU c.1
     .rw[<-(S.next b).1]at c;lia
   simp only[g.1,g.2];lia
  .have a:=λc=>p<|.inl c;have b:=λc=>p<|.inr c;refine comb (x:=ind<|yy r k=yy r i) (y:=ind<|yy r (k+1)=yy r i) U ?_ ?_
   .by_cases v:yy r k=yy r i
    .refine .inl ⟨BS v,?_⟩;rcases S.YT gU gV a b (q:=1) (s:=0) HF Bi DH (by rw[show(AA r k).2=yy r i from v];lia)with⟨z,l⟩|⟨z,_,l⟩
     .rw[BS l,BS ⟨v,U⟩]
     .rw[BB l,BB λc=>U]
    .exact .inr ⟨BB v,BB λc=>v c.1⟩
   .by_cases u:yy r (k+1)=yy r i
    .refine .inl ⟨BS u,?_⟩;rcases S.YT gU gV a b (q:=1) (s:=1) HF DH U (by rw[show(AA r<|k+1).2=yy r i from u];lia)with⟨z,l⟩|⟨z,_,l⟩
     .rw[BS l,BS ⟨u,U⟩]
     .rw[BB l,BB λc=>U]
    .exact .inr ⟨BB u,BB λc=>u c.1⟩
 exact l9 (G:=λk=>ind<|yy r k=yy r i/\(AA r i).1<(AA r k).1) Z (by unfold yy;rw[aG])
theorem A4.star{Z:Pt}(u:∀k:Int,(i-k)%(r.length)≠0->(i-k)%(r.length)≠1->Lt (AA r i) Z (AA r k) (AA r<|k+1)->¬ Lt (AA r k) (AA r<|k+1) (AA r i) Z){H:Int}(y:H=yy r i\/H=yy r i-1) : RQ r H (AA r i) Z=NN r (yy r i) i+(ind (Lt (AA r i) Z (AA r i)<|AA r<|i-1)*Aj r H (i-1)+ind (Lt (AA r i) Z (AA r i)<|AA r<|i+1)*Aj r H i):=by
 have h3:=S.l3;have p:NN r (yy r i) i=NN r H i:=by
  rcases y with rfl|rfl
  .rfl
  .exact S.oX gU gV
 have hp:∀a b:Int,(a-b)%(r.length)=0->ind (Lt (AA r i) Z (AA r a)<|AA r<|a+1)*Aj r H a-ind (Lt (AA r i) (AA r i) (AA r a)<|AA r<|a+1)*Aj r H a=ind (Lt (AA r i) Z (AA r b)<|AA r<|b+1)*Aj r H b-ind (Lt (AA r i) (AA r i) (AA r b)<|AA r<|b+1)*Aj r H b:=λa b z=>by simp only[Ao z,Ao<|CH z,Td z]
 have hd:RQ r H (AA r i) Z=NN r H i+Af (λk=>ind (Lt (AA r i) Z (AA r k)<|AA r<|k+1)*Aj r H k-ind (Lt (AA r i) (AA r i) (AA r k)<|AA r<|k+1)*Aj r H k) r.length:=by
  delta RQ NN
  rw[<-P7];exact DC λk _=>U
 simp only[hd,p,<-Yg (Bn h3) hp<|i-1]
 congr 1
 rw[AEI (c:=0) (d:=1) U U λm hm m0 m1=>?_]
 .show ind (Lt (AA r i) Z (AA r<|i-1+0)<|AA r<|i-1+0+1)*Aj r H (i-1+0)-ind (Lt (AA r i) (AA r i) (AA r<|i-1+0)<|AA r<|i-1+0+1)*Aj r H (i-1+0)+(ind (Lt (AA r i) Z (AA r<|i-1+1)<|AA r<|i-1+1+1)*Aj r H (i-1+1)-ind (Lt (AA r i) (AA r i) (AA r<|i-1+1)<|AA r<|i-1+1+1)*Aj r H (i-1+1))=_;rw[show i-1+0=i-1 by lia,show i-1+1=i from Dt];have v:=S.A7 gU gV (.inr (by rw[show i-(i-1)=1 from Si,AGn DH<|Df h3]));rw[show i-1+1=i from Dt]at v;rw[BB v,BB<|S.A7 gU gV (k:=i)<|.inl AGh];have e:ind (Lt (AA r i) Z (AA r<|i-1)<|AA r i)=ind (Lt (AA r i) Z (AA r i)<|AA r<|i-1):=by
   by_cases c:Lt (AA r i) Z (AA r<|i-1)<|AA r i
   .rw[BS c,BS<|HH c]
   .rw[BB c,BB λz=>c<|HH z]
  rw[e];lia
 .have a:(i-(i-1+(m)))%(r.length)≠0:=λc=>by have:=F2 c;rw[show i-1+(m)-i=m-1 by lia,AGn U<|Mz hm]at this;lia
  have b:(i-(i-1+(m)))%(r.length)≠1:=λc=>by have:=F2<|F3 (Df h3) c;rw[show i-1+(m)-(i-1)=m by lia,AGn U<|Ce hm]at this;lia
  generalize i-1+(m)=k at a b ⊢;by_cases Y:Aj r H k=0
  .lia
  .have rs:=FX Y;obtain⟨q,s,Q,O,s1,P,_,_⟩:=TR (h:=yy r i) (by show yy r k≠yy r (k+1);omega) (by unfold yy at rs y ⊢;lia);rcases S.YT gU gV a b Q O s1 P with⟨_,l⟩|⟨_,l,l'⟩
   .rw[BS l,BS (show Lt (AA r i) Z (AA r k) (AA r<|k+1)from jL l)];lia
   .have n1:=λc=>u k a b c<|Xc l;lia
end
theorem KH(p:Prop):(p/\ind p=1)\/(¬ p/\ind p=0):=(em p).imp (λh=>⟨h,BS h⟩) λh=>⟨h,BB h⟩
theorem Ht{x y:Int}(h:x<y):ind (x<y)=1/\ind (y<x)=0:=⟨BS h,BB U⟩
theorem Md{x:Int}(h:x≠0):1 + -ind (x<0)=ind (0<x):=by rcases AHU h with z|z<;>rw[(Ht z).1,(Ht z).2]<;>rfl
theorem w5{x y:Int}(z:x≠0)(q:y≠0):ind (0<x) + -ind (y<0) = -ind (x<0)+ind (0<y):=by rw[<-Md z,<-Md q];lia
def IS(a b c:Int):Prop:=(a>0/\b>0/\c>0)\/(¬ a>0/\(b>0\/c>0))
def Cq(Q a b c:Int):Prop:=(Q=1/\IS a b c)\/(Q=0/\¬ IS a b c)
theorem aD{a b c:Int}(T:(0<a\/c<0\/b<0)/\(a<0\/0<c\/0<b))(ha:a≠0)(hb:b≠0)(hc:c≠0):Cq (ind (a<0)+(-ind (c<0)+ind (0<b))) a b c:=by unfold Cq IS;rcases KH (a<0)with⟨x,i⟩|⟨x,i⟩<;>rw[i]<;>rcases KH (0<b)with⟨y,i⟩|⟨y,i⟩<;>rw[i]<;>rcases KH (c<0)with⟨z,i⟩|⟨z,i⟩<;>rw[i]<;>first|(refine .inl ⟨rfl,?_⟩;lia)|(refine .inr ⟨rfl,?_⟩;lia)|(exfalso;lia)
theorem aE{a b c:Int}(T:(0<a\/0<c\/0<b)/\(a<0\/c<0\/b<0))(ha:a≠0):Cq (ind<|a<0) a b c:=by
 unfold Cq IS;rcases KH (a<0)with⟨x,i⟩|⟨x,i⟩<;>rw[i]
 .refine .inl ⟨rfl,?_⟩;lia
 .refine .inr ⟨rfl,?_⟩;lia
theorem Qt{a b c:Int}(T:(0<a\/c<0\/0<b)/\(a<0\/0<c\/b<0))(hb:b≠0):Cq (ind<|0<b) a b c:=by
 unfold Cq IS;rcases KH (0<b)with⟨x,i⟩|⟨x,i⟩<;>rw[i]
 .refine .inl ⟨rfl,?_⟩;lia
 .refine .inr ⟨rfl,?_⟩;lia
theorem Cq.sw(h:Cq Q a c b):Cq Q a b c:=by
 unfold Cq IS at *
 rw[and_comm (a:=b>0),or_comm (a:=b>0)];exact h
theorem tr0{X Y Z:Int}(e:X=Y+Z)(h:X≠0\/Y≠0\/Z≠0):(0<X\/Y<0\/Z<0)/\(X<0\/0<Y\/0<Z):=U
theorem mp(h:y<x)(c:Int):(0<(x-y)*c↔0<c)/\((x-y)*c<0↔c<0):=by have h:0<x-y:=F0 h;exact⟨⟨λz=>AIe z h,AG1 h⟩,λz=>AI8.mp λw=>AKI.mpr (AGu (AGt h) w) z,AIw h⟩
theorem mn(h:x<y)(c:Int):(0<(x-y)*c↔c<0)/\((x-y)*c<0↔0<c):=by have:=mp h (-c);rw[show(y-x) * -c=(x-y)*c by grind]at this;exact⟨this.1.trans U,this.2.trans U⟩
theorem qf(p:AGf≠A)(Z:V≠A)(y:B≠A)(id:(B-A)*a=(V-A)*c+(AGf-A)*b)(fa:(A<AGf/\A<V)\/(AGf<A/\V<A)->a≠0)(fb:(A<V/\A<B)\/(V<A/\B<A)->b≠0)(fc:(A<AGf/\A<B)\/(AGf<A/\B<A)->c≠0)(q:A<V->N=ind (A<AGf)*ind (a<0)) (Y:A<AGf->N+ind (A<V)*ind (0<a)=1) (O:AGf<A->N=ind (V<A)*ind (a<0)) (v:A<B->Q=N+(-(ind (A<AGf)*ind (c<0))+ind (A<V)*ind (0<b))) (u:B<A->Q=N+(ind (AGf<A)*ind (0<c) + -(ind (V<A)*ind (b<0)))):Cq Q a b c:=by
 have m:∀{X x:Int},X≠A->x≠0->(X-A)*x≠0:=λh=>AJZ U;have T:=λh=>tr0 id h;rcases AHU p with h1|h1<;>rcases AHU Z with h2|h2<;>simp only[Ht h1,Ht h2,AIl,AHf,Int.neg_zero,AG9,AHW]at * <;> rcases AHU y with h3|h3
 .have ha:=fa<|.inr ⟨h1,h2⟩;have z:=fb<|.inr ⟨h2,h3⟩;have hc:=fc<|.inr ⟨h1,h3⟩;have T:=T<|.inl<|m y ha;simp only[mn h1,mn h2,mn h3]at T;rw[u h3,O h1,w5 hc z];exact aD T.symm ha z hc
 .have ha:=fa<|.inr ⟨h1,h2⟩;have T:=T<|.inl<|m y ha;simp only[mn h1,mn h2,mp h3]at T;rw[v h3,O h1];exact aE T ha
 .have hc:=fc<|.inr ⟨h1,h3⟩;have T:=T<|.inr<|.inl<|m Z hc;simp only[mn h1,mp h2,mn h3]at T;rw[u h3,q h2,AHW];exact(Qt ⟨T.2.imp_right Or.symm,T.1.imp_right Or.symm⟩ hc).sw
 .have z:=fb<|.inl ⟨h2,h3⟩;have T:=T<|.inr<|.inr<|m p z;simp only[mn h1,mp h2,mp h3]at T;rw[v h3,q h2,AHW];exact Qt T z
 .have z:=fb<|.inr ⟨h2,h3⟩;have T:=T<|.inr<|.inr<|m p z;simp only[mp h1,mn h2,mn h3]at T;rw[u h3,Y h1,Md z];exact Qt T.symm z
 .have hc:=fc<|.inl ⟨h1,h3⟩;have T:=T<|.inr<|.inl<|m Z hc;simp only[mp h1,mn h2,mp h3]at T;rw[v h3,Y h1,Md hc];exact(Qt ⟨T.1.imp_right Or.symm,T.2.imp_right Or.symm⟩ hc).sw
 .have ha:=fa<|.inl ⟨h1,h2⟩;have T:=T<|.inl<|m y ha;simp only[mp h1,mp h2,mn h3]at T;rw[u h3,q h2];exact aE T.symm ha
 .have ha:=fa<|.inl ⟨h1,h2⟩;have T:=T<|.inl<|m y ha;simp only[mp h1,mp h2,mp h3]at T;rw[v h3,q h2];exact aD T ha (fb<|.inl ⟨h2,h3⟩)<|fc<|.inl ⟨h1,h3⟩
def Ge(AGf A V B:Pt):Prop:=IS (AE AGf A V) (AE A V B)<|AE AGf A B
theorem Ss{A Y Z:Pt}:(A.2<Z.2->ind (Lt A Z A Y)*ind (A.2<Y.2)=ind (A.2<Y.2)*ind (0<AE A Y Z))/\(Z.2<A.2->ind (Lt A Z A Y)*ind (Y.2<A.2)=ind (Y.2<A.2)*ind (0<AE A Z Y)):=by
 constructor<;>intro h
 .rcases KH (A.2<Y.2)with⟨x,i⟩|⟨x,i⟩
  .rw[propext<|VH h x,AI1]
  .rw[i,AHv,AHf]
 .rcases KH (Y.2<A.2)with⟨x,i⟩|⟨x,i⟩
  .rw[propext<|qO h x,AI1]
  .rw[i,AHv,AHf]
theorem iE{x y:Int}:ind (x<=y)=1 + -ind (y<x):=by
 rcases KH (y<x)with⟨h,i⟩|⟨h,i⟩
 .rw[i,BB U];rfl
 .rw[i,BS U];rfl
theorem lL(r:List Pt)(h j:Int):Aj r h j=ind (h<yy r (j+1))-ind (h<yy r j):=by rw[lQ,iE,iE];lia
theorem lM(r:List Pt)(h j:Int):Aj r (h-1) j=ind (yy r j<h)-ind (yy r (j+1)<h):=by rw[lQ,Int.le_sub_one_iff,Int.le_sub_one_iff]
section
variable{r:List Pt}(S:A4 r){i:Int}(gU:yy r (i-1)≠yy r i)(gV:yy r (i+1)≠yy r i)
include S gU gV
theorem A4.YY{Z:Pt}(y:∀k:Int,(i-k)%(r.length)≠0->(i-k)%(r.length)≠1->Lt (AA r i) Z (AA r k) (AA r<|k+1)->¬ Lt (AA r k) (AA r<|k+1) (AA r i) Z) : (yy r i<Z.2->RQ r (yy r i) (AA r i) Z=NN r (yy r i) i+(-(ind (yy r i<yy r (i-1))*ind (0<AE (AA r i) (AA r<|i-1) Z))+ind (yy r i<yy r (i+1))*ind (0<AE (AA r i) (AA r<|i+1) Z)))/\(Z.2<yy r i->RQ r (yy r i-1) (AA r i) Z=NN r (yy r i) i+(ind (yy r (i-1)<yy r i)*ind (0<AE (AA r i) Z (AA r<|i-1)) + -(ind (yy r (i+1)<yy r i)*ind (0<AE (AA r i) Z (AA r<|i+1))))):=by
 constructor<;>intro z
 .rw[S.star gU gV y<|.inl rfl,lL,lL,show i-1+1=i from Dt,BB<|AJS _,Int.zero_sub,AJh,AJD]
  delta yy at *
  rw[Ss.1 z,Ss.1 z]
 .rw[S.star gU gV y<|.inr rfl,lM,lM,show i-1+1=i from Dt,BB<|AJS _,Int.zero_sub,AJh,AJD]
  delta yy at *
  rw[Ss.2 z,Ss.2 z]
theorem A4.lb:(yy r i<yy r (i+1)->cc r (yy r i) i=NN r (yy r i) i+1-ind (yy r i<yy r (i-1))*ind (AE (AA r<|i-1) (AA r i) (AA r<|i+1)<0))/\(yy r (i+1)<yy r i->cc r (yy r i-1) i=NN r (yy r i) i+ind (yy r (i-1)<yy r i)*ind (0<AE (AA r<|i-1) (AA r i) (AA r<|i+1)))/\(yy r i<yy r (i-1)->cc r (yy r i) (i-1)=NN r (yy r i) i+ind (yy r i<yy r (i+1))*ind (0<AE (AA r<|i-1) (AA r i) (AA r<|i+1)))/\(yy r (i-1)<yy r i->cc r (yy r i-1) (i-1)=NN r (yy r i) i+1-ind (yy r (i+1)<yy r i)*ind (AE (AA r<|i-1) (AA r i) (AA r<|i+1)<0)):=by
 have y:i-1+1=i:=Dt;have v:=S.YY gU gV (Z:=AA r<|i+1) λk a _=>S.nc a;have u:=S.YY gU gV (Z:=AA r<|i-1) λk _ b c z=>by
  have h3:=S.l3;refine S.nc (i:=i-1) (j:=k) (λw=>b ?_) ?_ ?_
  .have:=mod_succ (Df h3) w;rw[y]at this;exact this
  .unfold L;rw[y];exact GV c
  .unfold L;rw[y];exact HH z
 have p:∀H,cc r H (i-1)=RQ r H (AA r i) (AA r<|i-1)+ind (yy r (i-1)<yy r i):=λH=>by
  unfold cc;rw[y]
  congr 1
  refine DC λk _=>?_;unfold L;rw[y,propext ⟨GV (a:=AA r i) (b:=AA r<|i-1),GV⟩]
 have Y:∀H,cc r H i=RQ r H (AA r i) (AA r<|i+1)+ind (yy r i<yy r (i+1)):=λH=>rfl;have q:=λx:Pt=>(Dh (AA r i) x).2;refine⟨λh=>?_,λh=>?_,λh=>?_,λh=>?_⟩
 .rw[Y,v.1 h,BS h,q,BB<|AJS _,DR,propext AJ6];lia
 .rw[Y,v.2 h,(Ht h).2,q,BB<|AJS _,Bs];lia
 .rw[p,u.1 h,(Ht h).2,q,BB<|AJS _,Bs];lia
 .rw[p,u.2 h,BS h,q,BB<|AJS _,DR,propext AJ6];lia
end
section
variable{r:List Pt}(S:A4 r)(nl:∀k:Int,yy r (k+1)≠yy r k)
include S nl
theorem A4.qM(i:Int)(h1:Aj r H (i-1)≠0)(q:Aj r H' i≠0):cc r H (i-1)=cc r H' i:=by
 have z:i-1+1=i:=Dt;have Y:=nl<|i-1;rw[z]at Y;obtain⟨Q,O,c3,P⟩:=S.lb Y.symm<|nl i;have fA:=S.fork<|i-1;rw[z]at fA;have fa:((AA r i).2<(AA r<|i-1).2/\(AA r i).2<(AA r<|i+1).2)\/((AA r<|i-1).2<(AA r i).2/\(AA r<|i+1).2<(AA r i).2)->AE (AA r<|i-1) (AA r i) (AA r<|i+1)≠0:=λh c=>Rf fA h (by rw[DR,c];rfl);have p:=λ{h h':Int}(x:Aj r h (i-1)≠0)(y:Aj r h' (i-1)≠0)=>show cc r h (i-1)=cc r h' (i-1)by unfold cc;rw[S.LB x y]
 have Z:=λ{h h':Int}(x:Aj r h i≠0)(y:Aj r h' i≠0)=>show cc r h i=cc r h' i by unfold cc;rw[S.LB x y]
 rcases AHU Y with u|u<;>rcases AHU (nl i)with v|v
 .rw[p h1 (Dx<|.inr (by rw[z];exact⟨EJ,u⟩)),Z q (h':=yy r i-1)<|Dx<|.inr ⟨AIx v,AIy<|AHY _⟩,c3 u,O v,(Ht v).2,(Ht u).2,AHf]
 .rw[p h1 (Dx<|.inr (by rw[z];exact⟨EJ,u⟩)),Z q<|Dx<|.inl ⟨EJ,v⟩,c3 u,Q v,BS u,BS v,<-Md<|fa<|.inl ⟨u,v⟩];lia
 .rw[p h1 (h':=yy r i-1) (Dx<|.inl (by rw[z];exact⟨AIx u,AIy<|AHY _⟩)),Z q (h':=yy r i-1)<|Dx<|.inr ⟨AIx v,AIy<|AHY _⟩,P u,O v,BS u,BS v,<-Md<|fa<|.inr ⟨u,v⟩];lia
 .rw[p h1 (h':=yy r i-1) (Dx<|.inl (by rw[z];exact⟨AIx u,AIy<|AHY _⟩)),Z q<|Dx<|.inl ⟨EJ,v⟩,P u,Q v,(Ht v).2,(Ht u).2,AHf]
theorem A4.Zx(h0:Aj r q y≠0):∀(m:Nat)(H:Int),Aj r H (y+m)≠0->cc r H (y+m)=cc r q y
 |0,H,hs=>by rw[Int.natCast_zero,AG9]at hs ⊢;unfold cc;rw[S.LB hs h0]
 |m+1,H,hs=>by
  have u:y+((m+1:Nat))=y+m+1:=U
  rw[u]at hs ⊢;obtain⟨v,s1⟩:∃H,Aj r H (y+m)≠0:=by
   rcases AHU (nl<|y+m)with z|z
   .exact⟨_,Dx<|.inr ⟨EJ,z⟩⟩
   .exact⟨_,Dx<|.inl ⟨EJ,z⟩⟩
  rw[<-A4.Zx h0 m v s1];have:=S.qM nl (y+m+1) (H:=v) (by rw[JP];exact s1) hs;rw[JP]at this;exact this.symm
theorem A4.Qn(h1:Aj r H i≠0)(z:Aj r H' j≠0):cc r H i=cc r H' j:=by
 have h3:=S.l3;have e:(i-(j+((i-j)%(r.length)).toNat))%(r.length)=0:=by
  rw[AHB<|AHE (i-j) (b:=(r.length))<|Lh h3,show i-(j+(i-j)%(r.length))=(i-j)-(i-j)%r.length by lia];have:=AIR (i-j) r.length;have y:(i-j)-(i-j)%(r.length)=r.length*((i-j) / r.length):=AGi
  rw[y];exact AIp _ _
 rw[qL e];exact S.Zx nl z _ H (by rw[<-Td e];exact h1)
end
set_option tactic.hygienic false
theorem Vw(r:List Pt)(h j:Int):∃z:Int×Int,Aj r h j≠0->0<z.1/\0<z.2/\z.2<z.1/\2*(z.1*(AA r j).2+z.2*((AA r<|j+1).2-(AA r j).2))=z.1*(2*h+1):=by
 by_cases hs:Aj r h j=0
 .exact⟨(0,0),λc=>absurd hs c⟩
 .obtain⟨q,s,a,b,c,d⟩:=X7 <|FX hs;exact⟨(q,s),λ_=>⟨a,b,c,d⟩⟩
noncomputable def kD(r:List Pt)(h j:Int):Int:=(choose<|Vw r h j).1
noncomputable def kS(r:List Pt)(h j:Int):Int:=(choose<|Vw r h j).2
def kN(r:List Pt)(h j:Int):Int:=kD r h j*(AA r j).1+kS r h j*((AA r<|j+1).1-(AA r j).1)
theorem SX(hs:Aj r h j≠0):0<kD r h j/\0<kS r h j/\kS r h j<kD r h j/\2*(kD r h j*(AA r j).2+kS r h j*((AA r<|j+1).2-(AA r j).2))=kD r h j*(2*h+1):=choose_spec (Vw r h j) hs
section
variable{r:List Pt}(S:A4 r)
include S
theorem A4.ir{h i j:Int}(v:(i-j)%(r.length)≠0)(hi:Aj r h i≠0)(Y:Aj r h j≠0)(Q:L r i j):kN r h i*kD r h j<kN r h j*kD r h i:=by
 obtain⟨y,O,p3,u⟩:=SX hi;obtain⟨q,P,D,F⟩:=SX Y;have p:=AG1 y q;have m2:=AG1 O q;have m3:=AG1 P y;have m4:=AIo p3 q;have m5:kS r h j*kD r h i<kD r h i*kD r h j:=by rw[AI1<|kD r h i];exact AIo D y
 have Z:kD r h i*kD r h j*(AA r i).2+kS r h i*kD r h j*((AA r<|i+1).2-(AA r i).2)=kD r h i*kD r h j*(AA r j).2+kS r h j*kD r h i*((AA r<|j+1).2-(AA r j).2):=by
  have f1:2*(kD r h i*kD r h j*(AA r i).2+kS r h i*kD r h j*((AA r<|i+1).2-(AA r i).2))=kD r h j*(2*(kD r h i*(AA r i).2+kS r h i*((AA r<|i+1).2-(AA r i).2))):=AGg
  have f2:2*(kD r h i*kD r h j*(AA r j).2+kS r h j*kD r h i*((AA r<|j+1).2-(AA r j).2))=kD r h i*(2*(kD r h j*(AA r j).2+kS r h j*((AA r<|j+1).2-(AA r j).2))):=AGg
  rw[u]at f1;rw[F]at f2;lia
 have R:kN r h i*kD r h j=kD r h i*kD r h j*(AA r i).1+kS r h i*kD r h j*((AA r<|i+1).1-(AA r i).1):=by unfold kN;grind
 have B:kN r h j*kD r h i=kD r h i*kD r h j*(AA r j).1+kS r h j*kD r h i*((AA r<|j+1).1-(AA r j).1):=by unfold kN;grind
 simp only[R,B];rcases AIh (kD r h i*kD r h j*(AA r i).1+kS r h i*kD r h j*((AA r<|i+1).1-(AA r i).1)) (kD r h i*kD r h j*(AA r j).1+kS r h j*kD r h i*((AA r<|j+1).1-(AA r j).1))with hl|he|hg
 .exact hl
 .rcases S.share v p U U (by clear u;lia) AGg he Z with⟨_,z,_⟩|⟨_,z,_⟩<;>lia
 .exact absurd (show L r j i from⟨_,_,_,p,U,U,U,U,Z.symm,hg⟩) (S.nc v Q)
theorem A4.ADf(q:Aj r h j≠0):∃e:Int,Aj r h e≠0/\Rr r h e=0:=by
 have h3:=S.l3;have b:=AG4 j (b:=(r.length))<|JQ h3;have v:Aj r h (((j%(r.length)).toNat))≠0:=by
  rw[AHB<|AHE j (b:=(r.length))<|Lh h3,Td (by
   have:=AIR j r.length;have u:j%(r.length)-j=r.length*(-(j / r.length)):=AGg
   rw[u];exact AIp _ _)]
  exact q
 obtain⟨e,he,z,hm⟩:=WA (N:=λm=>kN r h<|m) (λm hm=>(SX hm).1) r.length ⟨_,U,v⟩;refine⟨e,z,To λm p=>?_⟩;by_cases hs:Aj r h (m)=0
 .rw[hs,AHv]
 .have:¬ L r (e) (m):=λc=>by
   by_cases y:((e:Int)-m)%(r.length)=0
   .rw[QZ (i':=(e)) AGh<|F2 y]at c;exact Ny r e (by have:=FX z;show yy r e≠yy r (e+1);exact Pj this) c
   .have k1:=S.ir y z hs c;have k2:=hm m p hs;lia
  rw[BB this];lia
theorem A4.OB(q:∀k:Int,yy r (k+1)≠yy r k)(z:Aj r h j≠0):cc r h j=0\/cc r h j=1:=by
 obtain⟨e,he,v⟩:=S.ADf z;rw[S.Qn q z he];unfold cc;rw[v];by_cases y:yy r e<yy r (e+1)
 .rw[BS y];lia
 .rw[BB y];lia
end
def fw(a b p:Pt):Int:=(if a.2<=p.2/\p.2<b.2/\AE a b p>0 then 1 else 0)-(if b.2<=p.2/\p.2<a.2/\AE a b p<0 then 1 else 0)
def W(r:List Pt)(p:Pt):Int:=Af (λj=>fw (AA r j) (AA r<|j+1) p) r.length
theorem jO(h:Lt p p a b):∃q x:Int,0<q/\0<x/\q*AE a b p=(b.2-a.2)*x:=by
 obtain⟨q,s,t,z,_,_,_,_,e,l⟩:=h;refine⟨q,q*a.1+t*(b.1-a.1)-(q*p.1+s*(p.1-p.1)),z,U,?_⟩;have y:q*(p.2-a.2)=t*(b.2-a.2):=AGg
 have:q*AE a b p=(b.1-a.1)*(q*(p.2-a.2))-(b.2-a.2)*(q*(p.1-a.1)):=by unfold AE;grind
 simp only[this,y];grind
theorem WB{r:List Pt}:fw (AA r j) (AA r<|j+1) p=Aj r p.2 j*ind (Lt p p (AA r j)<|AA r<|j+1):=by
 have u:yy r j<yy r (j+1)->yy r j<=p.2->p.2<=yy r (j+1)->(Lt p p (AA r j) (AA r<|j+1)↔AE (AA r j) (AA r<|j+1) p>0):=λh1 z h3=>by
  constructor
  .intro h;obtain⟨q,x,y,v,e⟩:=jO h;have:=AG1 (show 0<(AA r<|j+1).2-(AA r j).2 by unfold yy at h1;exact F0 h1) v;by_cases hc:AE (AA r j) (AA r<|j+1) p>0
   .exact hc
   .have:=AHQ (AGt y) (U:AE (AA r j) (AA r<|j+1) p<=0);omega
  .intro h;unfold yy at h1 z h3;exact⟨(AA r<|j+1).2-(AA r j).2,0,p.2-(AA r j).2,F0 h1,Bi,F1 h1,Cp z,U,AGg,by unfold AE at h;grind⟩
 have dn:yy r (j+1)<yy r j->yy r (j+1)<=p.2->p.2<=yy r j->(Lt p p (AA r j) (AA r<|j+1)↔AE (AA r j) (AA r<|j+1) p<0):=λh1 z h3=>by
  constructor
  .intro h;obtain⟨q,x,y,v,e⟩:=jO h;have:=AKJ (show(AA r<|j+1).2-(AA r j).2<0 by unfold yy at h1;lia) v;by_cases hc:AE (AA r j) (AA r<|j+1) p<0
   .exact hc
   .have:=AGu (AGt y) (show 0<=AE (AA r j) (AA r<|j+1) p from Pc hc);omega
  .intro h;unfold yy at h1 z h3;exact⟨(AA r j).2-(AA r<|j+1).2,0,(AA r j).2-p.2,F0 h1,Bi,F1 h1,Cp h3,U,AGg,by unfold AE at h;grind⟩
 unfold fw;by_cases h1:yy r j<=p.2/\p.2<yy r (j+1)
 .rw[Tf h1.1 h1.2,AGp (show ¬ ((AA r<|j+1).2<=p.2/\p.2<(AA r j).2/\AE (AA r j) (AA r<|j+1) p<0)by unfold yy at h1;lia)];by_cases hs:AE (AA r j) (AA r<|j+1) p>0
  .rw[AGo ⟨h1.1,h1.2,hs⟩,BS<|(u (Ld h1) U U).mpr hs];rfl
  .rw[AGp λc=>hs c.2.2,BB λc=>hs<|(u (Ld h1) U U).mp c];rfl
 .by_cases z:yy r (j+1)<=p.2/\p.2<yy r j
  .rw[Te z.1 z.2,AGp (show ¬ ((AA r j).2<=p.2/\p.2<(AA r<|j+1).2/\AE (AA r j) (AA r<|j+1) p>0)by unfold yy at z;omega)];by_cases hs:AE (AA r j) (AA r<|j+1) p<0
   .rw[AGo ⟨z.1,z.2,hs⟩,BS<|(dn (Ld z) U U).mpr hs];rfl
   .rw[AGp λc=>hs c.2.2,BB λc=>hs<|(dn (Ld z) U U).mp c];rfl
  .have:Aj r p.2 j=0:=by unfold Aj;rw[AGp h1,AGp z]
   rw[this,AGp λc=>h1 ⟨c.1,c.2.1⟩,AGp λc=>z ⟨c.1,c.2.1⟩];lia
section
variable{r:List Pt}(S:A4 r){p:Pt}
include S
theorem A4.AFL(he:Aj r p.2 e≠0)(O:Aj r p.2 j≠0)(h1:Lt p p (AA r e)<|AA r<|e+1)(u:L r e j):Lt p p (AA r j)<|AA r<|j+1:=by
 have P:=λc=>by rw[QZ (i':=e) AGh<|F2 c]at u;exact Ny r e (by have:=FX he;show yy r e≠yy r (e+1);exact Pj this) u
 have Z:=FX O;obtain⟨q,s,y,Y,s1,Q,_,_⟩:=TR (h:=p.2) (by show yy r j≠yy r (j+1);exact Pj Z) (by unfold yy at Z;lia);rcases Int.lt_or_le (q*p.1) (q*(AA r j).1+s*((AA r<|j+1).1-(AA r j).1))with hl|hg
 .exact⟨q,0,s,y,Bi,U,Y,s1,by rw[Q];exact Sj,Sn hl⟩
 .exfalso;obtain⟨z,s',t',v,_,_,D,t1,ey',l'⟩:=h1;have F:z*(AA r e).2+t'*((AA r<|e+1).2-(AA r e).2)=z*p.2:=AGg
  have R:z*p.1<z*(AA r e).1+t'*((AA r<|e+1).1-(AA r e).1):=AGg
  have m1:=AG5 hg<|AGt v;have m2:=AJR R y;refine S.nc P u ⟨q*z,s*z,t'*q,AG1 y v,AGu Y<|AGt v,AHL s1<|AGt v,AGu D<|AGt y,by rw[AI1 q];exact AHL t1<|AGt y,?_,?_⟩
  .have B:q*z*(AA r j).2+s*z*((AA r<|j+1).2-(AA r j).2)=z*(q*(AA r j).2+s*((AA r<|j+1).2-(AA r j).2)):=AGg
   have G:q*z*(AA r e).2+t'*q*((AA r<|e+1).2-(AA r e).2)=q*(z*(AA r e).2+t'*((AA r<|e+1).2-(AA r e).2)):=AGg
   simp only[B,G,Q,F];grind
  .lia
theorem A4.once:W r p=0\/∃e:Int,Aj r p.2 e≠0/\((yy r e<yy r (e+1)/\W r p=cc r p.2 e)\/(yy r (e+1)<yy r e/\W r p=cc r p.2 e-1)):=by
 have Y:W r p=Af (λj=>Aj r p.2 j*ind (Lt p p (AA r j)<|AA r<|j+1)) r.length:=DC λj _=>WB;by_cases y:∃j:Nat,j<r.length/\(Aj r p.2 (j)≠0/\Lt p p (AA r<|j) (AA r<|(j)+1))
 .right;obtain⟨e,he,⟨q,le⟩,hm⟩:=WA (N:=λm=>- kN r p.2 (m)) (λm hm=>(SX hm.1).1) r.length y;have re:=FX q;have D:=Ny r (e) (by show yy r e≠yy r (e+1);rcases re with re|re<;>lia);have u:∀m:Nat,m<r.length->Aj r p.2 (m)*ind (Lt p p (AA r<|m)<|AA r<|(m)+1)=ind (L r (e)<|m)*Aj r p.2 (m)+Aj r p.2 (m)*ind (m=e):=λm Z=>by
   by_cases hs:Aj r p.2 (m)=0
   .rw[hs];lia
   .by_cases Q:m=e
    .subst Q;rw[BS le,BB D,BS rfl];lia
    .rw[BB Q];have O:((e:Int)-m)%(r.length)≠0:=λc=>by
      rcases AIn (e) m with z|z
      .have F:=F2 c;rw[AGn U U]at F;clear z;lia
      .rw[AGn U U]at c;lia
     by_cases v:L r (e)<|m
     .rw[BS v,BS<|S.AFL q hs le v];lia
     .have R:L r (m)<|e:=by
       rcases S.NW O q hs with z|z
       .exact absurd z v
       .exact z
      have hn:¬ Lt p p (AA r<|m) (AA r<|(m)+1):=λc=>by have k1:=S.ir (λz=>O<|F2 z) hs q R;have k2:=hm m Z ⟨hs,c⟩;simp only[AIz,AIz]at k2;lia
      rw[BB v,BB hn];lia
  have P:W r p=Rr r p.2 e+Aj r p.2 e:=by
   rw[Y,DC (g:=λj=>ind (L r (e) j)*Aj r p.2 j+Aj r p.2 j*ind (j=(e))) λm Z=>by
    rw[u m Z]
    congr 2
    by_cases h:m=e
    .rw[BS h,BS U]
    .rw[BB h,BB U]]
   rw[P7 (λj=>ind (L r (e) j)*Aj r p.2 j) λj=>Aj r p.2 j*ind (j=(e))];rw[Tn (f:=λj=>Aj r p.2 j*ind (j=(e))) he λm _ Ax=>by rw[BB U];lia];rw[BS rfl,Int.mul_one]
   rfl
  refine⟨e,q,?_⟩;unfold cc;rcases re with z|z
  .rw[Tf z.1 z.2]at P;exact .inl ⟨Ld z,by rw[BS<|Ld z];omega⟩
  .rw[Te z.1 z.2]at P;exact .inr ⟨Ld z,by rw[BB U];lia⟩
 .left;rw[Y];refine To λm hm=>?_;by_cases hs:Aj r p.2 (m)=0
  .lia
  .rw[BB λc=>y ⟨m,hm,hs,c⟩];lia
set_option tactic.hygienic true
theorem A4.og(z:∀k:Int,yy r (k+1)≠yy r k) : -1<=W r p/\W r p<=1:=by
 rcases S.once (p:=p)with h|⟨e,he,h|h⟩
 .lia
 .have:=S.OB z he;lia
 .have:=S.OB z he;lia
end
theorem Probe.qe(S:A4 r)(C:∀{h j:Int},Aj r h j≠0->cc r h j=1)(p:Probe r i j)(y:yy r (i-1)≠yy r i)(gV:yy r (i+1)≠yy r i)(v:yy r j≠yy r i) : ∃H,((yy r i<=H/\H<yy r j)\/(yy r j<=H/\H<yy r i))/\((RQ r H (AA r i) (AA r j)=1/\Ge (AA r<|i-1) (AA r i) (AA r<|i+1) (AA r j))\/(RQ r H (AA r i) (AA r j)=0/\¬ Ge (AA r<|i-1) (AA r i) (AA r<|i+1) (AA r j))):=by
 have q:i-1+1=i:=Dt;have u:=S.YY y gV (Z:=AA r j) λk _ _=>p.nc S k;obtain⟨Y,_,c3,O⟩:=S.lb y gV;have fA:=S.fork<|i-1;rw[q]at fA;have P:=DR (AA r<|i-1) (AA r i)<|AA r<|i+1;have D:yy r i<yy r (i+1)->NN r (yy r i) i=ind (yy r i<yy r (i-1))*ind (AE (AA r<|i-1) (AA r i) (AA r<|i+1)<0):=λh=>by have c:=Y h;rw[C<|Dx<|.inl ⟨EJ,h⟩]at c;lia
 have F:yy r i<yy r (i-1)->NN r (yy r i) i+ind (yy r i<yy r (i+1))*ind (0<AE (AA r<|i-1) (AA r i) (AA r<|i+1))=1:=λh=>by rw[<-c3 h];exact C<|Dx<|.inr (by rw[q];exact⟨EJ,h⟩)
 have R:yy r (i-1)<yy r i->NN r (yy r i) i=ind (yy r (i+1)<yy r i)*ind (AE (AA r<|i-1) (AA r i) (AA r<|i+1)<0):=λh=>by have c:=O h;rw[C<|Dx<|.inl (by rw[q];exact⟨AIx h,AIy<|AHY _⟩)]at c;lia
 have z:∀Q,(yy r i<yy r j->Q=_)->(yy r j<yy r i->Q=_)->Cq Q _ _ _:=λQ=>qf y gV v (Q:=Q) (a:=AE (AA r<|i-1) (AA r i)<|AA r<|i+1) (b:=AE (AA r i) (AA r<|i+1)<|AA r j) (c:=AE (AA r<|i-1) (AA r i)<|AA r j) (by unfold yy AE;grind) (λh c=>Rf fA h (by rw[P,c];rfl)) (Rf p.f1) (λh c=>Rf p.f2 h (by rw[DR,c];rfl)) D F R;rcases AHU v with h|h
 .refine⟨yy r i-1,.inr ⟨U,U⟩,z _ (λc=>U) λ_=>?_⟩;rw[u.2 h,Bs<|AA r<|i-1,Bs<|AA r<|i+1,DR (AA r i)<|AA r<|i+1,propext AJ6]
 .refine⟨yy r i,.inl ⟨EJ,h⟩,z _ (λ_=>?_) λc=>U⟩;rw[u.1 h,DR,propext AJ6]
set_option tactic.hygienic true
theorem S7(S:A4 r)(g:∀i j:Int,yy r i=yy r j->(i-j)%(r.length)=0)(k:Int):yy r (k+1)≠yy r k:=λc=>by have:=g _ _ c;rw[show k+1-k=1 by lia,AGn DH<|Df S.l3]at this;lia
theorem A4.map(S:A4 r)(y:∀{A X B},CL A X B->CL (T A) (T X) (T B))(hs:∀{a b c d},Bq (T a) (T b) (T c) (T d)->Bq a b c d):A4<|r.map T:=by
 have hc:=λi=>Hd (T:=T) (Bn S.l3) i;refine⟨by rw[AGm];exact S.l3,λk=>?_,λi j h z=>?_⟩
 .rw[hc,hc,hc];exact y<|S.fork k
 .rw[AGm]at h;rw[hc,hc,hc,hc]at z;exact S.apart i j h<|hs z
noncomputable def lean(k:Int)(p:Pt):Pt:=(p.2,k*p.2-p.1)
theorem Ll(k:Int)(a b c:Pt):AE (lean k a) (lean k b) (lean k c)=AE a b c:=by delta AE lean;grind
theorem Jo(h:0<r.length)(k i:Int):AA (r.map<|lean k) i=lean k (AA r i):=Hd h i
theorem YQ{a b c d:Pt}:Bq (lean k a) (lean k b) (lean k c) (lean k d)↔Bq a b c d:=by
 unfold lean;constructor<;>rintro⟨q,s,t,h1,z,h3,y,v,u,p⟩
 .exact⟨q,s,t,h1,z,h3,y,v,AGg,u⟩
 .exact⟨q,s,t,h1,z,h3,y,v,p,by dsimp only;grind⟩
theorem V8{A X B:Pt}:CL (lean k A) (lean k X) (lean k B)↔CL A X B:=by
 unfold lean;constructor<;>intro h s t hs z y q
 .exact h s t hs z q (by dsimp only;grind)
 .exact h s t hs z AGg y
theorem ZC{AGf A V B:Pt}:Ge (lean k AGf) (lean k A) (lean k V) (lean k B)↔Ge AGf A V B:=by unfold Ge;rw[Ll,Ll,Ll]
theorem A4.lean(S:A4 r)(k:Int):A4<|r.map<|lean k:=S.map V8.mpr YQ.mp
theorem lex(h: -k<u/\u<k):0<=k*d+u↔0<d\/(d=0/\0<=u):=by
 rcases AIh d 0 with z|z|z
 .have:=AG5 (U:d<=-1) (U:0<=k);lia
 .rw[z,AHv];lia
 .have:=AG5 (U:1<=d) (U:0<=k);lia
theorem AFJ(ha: -k<a.1-p.1/\a.1-p.1<k)(q : -k<b.1-p.1/\b.1-p.1<k):((lean k a).2<=(lean k p).2/\(lean k p).2<(lean k b).2/\0<AE a b p)↔(a.2<=p.2/\p.2<b.2/\0<AE a b p):=by
 have e:AE a b p=(b.1-p.1)*(p.2-a.2)-(p.2-b.2)*(a.1-p.1):=by unfold AE;grind
 have c:∀{x:Pt},(lean k x).2<=(lean k p).2↔0<=k*(p.2-x.2)+(x.1-p.1):=λ{x}=>by unfold lean;rw[AIV];lia
 rw[<-AI8 (a:=(lean k b).2),c,c,lex ha,lex q,e];refine⟨λ⟨x,y,z⟩=>⟨U,AI8.mp λw=>?_,z⟩,λ⟨x,y,z⟩=>⟨?_,U,z⟩⟩
 .rw[show p.2-b.2=0 by lia,AHf]at z;have:=AJm (U:b.1-p.1<=0) (U:0<=p.2-a.2);lia
 .rcases Int.lt_or_eq_of_le (U:0<=p.2-a.2)with w|w
  .exact .inl w
  .refine .inr ⟨w.symm,AKI.mp λv=>?_⟩;rw[<-w,AHv]at z;have:=AKH (U:p.2-b.2<0) v;lia
theorem fo(a b p:Pt):fw a b p=(if a.2<=p.2/\p.2<b.2/\0<AE a b p then 1 else 0)-(if b.2<=p.2/\p.2<a.2/\0<AE b a p then 1 else 0):=by unfold fw;rw[DR a b];simp only[AJ6,GT.gt]
theorem oh(h:0<r.length)(hp:∀j:Int,-k<(AA r j).1-p.1/\(AA r j).1-p.1<k):W (r.map<|lean k) (lean k p)=W r p:=by unfold W;rw[AGm];refine DC λj _=>?_;rw[Jo h,Jo h,fo,fo,Ll,Ll];simp only[AFJ (hp _)<|hp _]
theorem Zl(f:Nat->Int):∀n:Nat,∃M:Int,0<M/\∀k,k<n->-M<f k/\f k<M
 |0=>⟨1,HF,λk h=>U⟩
 |n+1=>by
  obtain⟨M,h0,h⟩:=Zl f n;refine⟨M+(f n).natAbs+1,U,λk z=>?_⟩;by_cases e:k=n
  .rw[e];lia
  .have:=h k<|GS z e;lia
theorem i5(S:A4 r)(p:Pt):∃k:Int,(∀j:Int,-k<(AA r j).1-p.1/\(AA r j).1-p.1<k)/\∀i j:Int,yy (r.map<|lean k) i=yy (r.map<|lean k) j->(i-j)%((r.map<|lean k).length)=0:=by
 have h3:=S.l3;obtain⟨M,M0,y⟩:=Zl (λk=>(AA r k).1-p.1) r.length;have z:∀k:Int,-M<(AA r k).1-p.1/\(AA r k).1-p.1<M:=λk=>by have k1:=AG4 k (show(0:Int)<r.length from JQ h3);have:=y (k%(r.length:Int)).toNat U;rw[AHB<|AHE k (b:=(r.length:Int))<|Lh h3,Er]at this;exact this
 refine⟨2*M,λj=>by have:=z j;lia,λi j e=>?_⟩;unfold yy at e;rw[Jo<|Bn h3,Jo<|Bn h3]at e;unfold lean at e;dsimp only at e;have b1:=z i;have b2:=z j;have q:=lex (k:=2*M) (d:=(AA r i).2-(AA r j).2) (u:=(AA r j).1-(AA r i).1) U;have v:=lex (k:=2*M) (d:=(AA r j).2-(AA r i).2) (u:=(AA r i).1-(AA r j).1) U;rw[AIV]at q v;rw[AGm];exact S.inj<|AID U U
theorem A4.oa(S:A4 r)(p:Pt) : -1<=W r p/\W r p<=1:=by obtain⟨k,hp,g⟩:=i5 S p;rw[<-oh (Bn S.l3) hp];exact(S.lean k).og (S7 (S.lean k) g)
def sub(r:List Pt)(s:Int)(l:Nat):List Pt:=(List.range<|l+1).map λk:Nat=>AA r<|s+(k:Int)
theorem sub_len(r:List Pt)(s:Int)(l:Nat):(sub r s l).length=l+1:=by unfold sub;rw[AGm,AHD]
theorem Ek(r:List Pt)(s:Int)(l:Nat):((sub r s l).length:Int)=l+1:=by rw[sub_len];lia
theorem A1(r:List Pt)(s:Int)(l:Nat){k:Int}(h0:0<=k)(h1:k<=l):AA (sub r s l) k=AA r (s+k):=by have z:=AHB h0;unfold AA;rw[Ek,AGn h0 U];rw[AHk];unfold sub;rw[AHi,AJ2 U];simp only[AHr,Option.getD_some];unfold AA;rw[z]
theorem HS(r:List Pt)(s:Int)(l:Nat):AA (sub r s l) (l+1)=AA r s:=by have:=Ao (r:=sub r s l) (by rw[Ek,AJh,AIM]);rw[this,A1 r s l Bi Bj,AG9]
theorem Kf(r:List Pt)(s:Int)(l:Nat)(k:Int):∃m:Int,0<=m/\m<=l/\(k-m)%((sub r s l).length)=0:=by
 refine⟨k%((l)+1),AHE _ U,by have:=AG4 k (U:(0:Int)<(l)+1);lia,?_⟩;rw[Ek,AH3,AHO _<|AH2 _,AHu]
 rfl
theorem K2(i:Int):AA r (i+r.length)=AA r i:=EY r i
def tm(H:Int)(A B a b:Pt):Int:=ind (Lt A B a b)*(if a.2<=H/\H<b.2 then 1 else if b.2<=H/\H<a.2 then -1 else 0)
theorem mU(H:Int)(A B a b:Pt):tm H A B b a = - tm H A B a b:=by
 unfold tm;have e:ind (Lt A B b a)=ind (Lt A B a b):=by
  by_cases c:Lt A B a b
  .rw[BS c,BS<|HH c]
  .rw[BB c,BB λz=>c<|HH z]
 rw[<-AJD]
 congr 1
 (repeat' split)<;>lia
theorem Us(r:List Pt)(H:Int)(A B:Pt):RQ r H B A=RQ r H A B:=by
 refine DC λk _=>?_;by_cases c:Lt A B (AA r<|k)<|AA r<|(k)+1
 .rw[BS c,BS<|GV c]
 .rw[BB c,BB λz=>c<|GV z]
theorem lu(f:Int->Int)(m:Nat):∀k:Nat,Af f (m+k)=Af f m+Af (λj=>f<|m+j) k
 |0=>by simp[Af]
 |k+1=>by show Af f (m+k)+f ((m+k))=Af f m+(Af (λj=>f<|m+j) k+f (m+(k)));rw[lu f m k];lia
theorem ZF(t:Pt->Pt->Int)(r:List Pt)(s:Int)(l:Nat):ES t (sub r s l)=Af (λk=>t (AA r<|s+k)<|AA r<|s+k+1) l+t (AA r<|s+l) (AA r s):=by
 unfold ES;rw[sub_len];show Af _ l+t (AA (sub r s l) l) (AA (sub r s l)<|(l)+1)=_;rw[HS,A1 r s l Bj Dd]
 congr 1
 refine DC λk z=>?_;rw[A1 r s l Bj<|Pd z,A1 r s l U U,AIi]
theorem ZE(z:∀a b,t b a = - t a b)(hl:l<=r.length)(h0:0<r.length):ES t r=ES t (sub r s l)+ES t (sub r (s+l)<|r.length-l):=by
 rw[ZF,ZF];have y:s+(l)+((r.length-l:Nat))=s+r.length:=AGg
 rw[y,K2,z (AA r<|s+(l))<|AA r s];have q:ES t r=Af (λk=>t (AA r<|s+k)<|AA r<|s+k+1) r.length:=by exact(Yg (f:=λk=>t (AA r k)<|AA r<|k+1) h0 (λa b h=>by rw[Ao h,Ao<|CH h]) s).symm
 rw[q];have e3:=lu (λk=>t (AA r<|s+k)<|AA r<|s+k+1) l<|r.length-l;rw[show l+(r.length-l)=r.length by lia]at e3;simp only[<-AIi]at e3;rw[e3];lia
theorem ZV(z:l<=r.length)(h0:0<r.length)(H:Int)(A B:Pt):RQ r H A B=RQ (sub r s l) H A B+RQ (sub r (s+l)<|r.length-l) H A B:=ZE (mU H A B) z h0
def Line(r:List Pt)(i j:Int):Prop:=Probe r i j/\Ge (AA r<|i-1) (AA r i) (AA r<|i+1) (AA r j)
structure Sm(r:List Pt):Prop where
 s:A4 r
 c:∀{h j:Int},Aj r h j≠0->cc r h j=1
 g:∀i j:Int,yy r i=yy r j->(i-j)%(r.length:Int)=0
theorem KY{n d:Int}(h0:0<d)(h1:d<n):d%n≠0:=by rw[AGn U h1];exact FO h0
set_option tactic.hygienic false
section
variable{r:List Pt}(S:Sm r)
include S
theorem Sm.gn{i j:Int}(h:(i-j)%(r.length)≠0):yy r i≠yy r j:=λc=>h<|S.g i j c
theorem Sm.g1(i:Int):yy r (i+1)≠yy r i:=by have:=S.s.l3;exact S.gn<|by exact KY U U
theorem Sm.g0(i:Int):yy r (i-1)≠yy r i:=λc=>S.g1 (i-1) (by rw[show i-1+1=i from Dt];exact c.symm)
theorem Sm.rq(p:Probe r i j)(h:(yy r i<=H/\H<yy r j)\/(yy r j<=H/\H<yy r i)) : (RQ r H (AA r i) (AA r j)=1/\Ge (AA r<|i-1) (AA r i) (AA r<|i+1) (AA r j))\/(RQ r H (AA r i) (AA r j)=0/\¬ Ge (AA r<|i-1) (AA r i) (AA r<|i+1) (AA r j)):=by obtain⟨H',h',z⟩:=Probe.qe S.s (λh=>S.c h) p (S.g0 i) (S.g1 i) λc=>p.Bl.1<|S.g i j c.symm;rw[p.along S.s h h'];exact z
theorem Sm.lvl(h:yy r i≠yy r j):∃H,(yy r i<=H/\H<yy r j)\/(yy r j<=H/\H<yy r i):=by
 rcases AHU h with h|h
 .exact⟨yy r i,.inl ⟨EJ,h⟩⟩
 .exact⟨yy r j,.inr ⟨EJ,h⟩⟩
theorem Line.rq(l:Line r i j)(h:(yy r i<=H/\H<yy r j)\/(yy r j<=H/\H<yy r i)):RQ r H (AA r i) (AA r j)=1:=by
 rcases S.rq l.1 h with⟨a,_⟩|⟨_,b⟩
 .exact a
 .exact absurd l.2 b
theorem Line.symm(l:Line r i j):Line r j i:=by
 have z:=l.1.symm S.s;refine⟨z,?_⟩;obtain⟨H,y⟩:=S.lvl <|S.gn l.1.Bl.1;rcases S.rq z (H:=H) AGg with⟨_,b⟩|⟨a,_⟩
 .exact b
 .rw[Us,(Line.rq S l y)]at a;cases a
end
theorem Probe.congr{i j i' z:Int}(hi:(i-i')%(r.length)=0)(y:(j-z)%(r.length)=0)(p:Probe r i j):Probe r i' z:=by
 have u:∀k:Int,(i'-k)%(r.length)=(i-k)%(r.length):=λk=>by rw[show i-k=(i-i')+(i'-k)from Pe,AIL,hi,AHW,AHO _<|AH2 _]
 have Z:∀k:Int,(z-k)%(r.length)=(j-k)%(r.length):=λk=>by rw[show j-k=(j-z)+(z-k)from Pe,AIL,y,AHW,AHO _<|AH2 _]
 have Y:(i'-z)%(r.length)=(i-j)%(r.length):=by rw[u,show i-z=(i-j)+(j-z)from Pe,AIL<|i-j,y,AG9,AHO _<|AH2 _]
 have q:=Ao hi;have c3:=Ao (by rw[show i-1-(i'-1)=i-i' by lia];exact hi);have v:=Ao y;have Q:=Ao (by rw[show j-1-(z-1)=j-z by lia];exact y);refine⟨?_,q ▸ (Ao<|CH hi) ▸ v ▸ p.f1,q ▸ c3 ▸ v ▸ p.f2,v ▸ (Ao<|CH y) ▸ q ▸ p.f3,v ▸ Q ▸ q ▸ p.f4,λk a b c d=>?_⟩
 .have:=p.Bl;unfold CK at this ⊢;rw[Y];exact this
 .rw[u]at a b;rw[Z]at c d;rw[<-q,<-v];exact p.nt k a b c d
theorem Line.congr{i j i' z:Int}(hi:(i-i')%(r.length)=0)(y:(j-z)%(r.length)=0)(l:Line r i j):Line r i' z:=by have c3:=Ao (by rw[show i-1-(i'-1)=i-i' by lia];exact hi);refine⟨l.1.congr hi y,?_⟩;rw[<-(Ao hi),<-(Ao<|CH hi),<-c3,<-(Ao y)];exact l.2
theorem C5(h0:0<d)(h1:d<n):(-d)%n=n-d:=by rw[show -d=(n-d)+n*(-1)by lia,AH7,AGn (F1 h1) U]
theorem MM(h:(2<=d/\d<=n-2)\/(2<=-d/\-d<=n-2)):CK n d:=by
 unfold CK;rcases h with h|h
 .rw[AGn U AGi];and_intros<;>lia
 .have:=C5 (n:=n) (d:=-d) AGi AGi;rw[AJC]at this;rw[this];and_intros<;>lia
theorem MN(hn:2<=n)(h:CK n d)(h1 : -n<d)(z:d<n):(2<=d/\d<=n-2)\/(2<=-d/\-d<=n-2):=by
 unfold CK at h;by_cases c:0<=d
 .rw[AGn c z]at h;clear hn;left;lia
 .have:=C5 (n:=n) (d:=-d) U U;rw[AJC]at this;rw[this]at h;clear hn;right;lia
theorem Xf(h:d%n=0)(h1: -n<d)(z:d<n):d=0:=by
 by_cases c:0<=d
 .rw[AGn c z]at h;exact h
 .have:=C5 (n:=n) (d:=-d) U U;rw[AJC]at this;lia
theorem Pl{n a b c:Int}(h1:(a-b)%n=0)(z:(b-c)%n=0):(a-c)%n=0:=by rw[show a-c=(a-b)+(b-c)from Pe,AIL,h1,z];rfl
theorem tU(h1:(a-b)%n=0)(z:(c-d)%n=0)(h:CK n<|a-c):CK n<|b-d:=by
 have e:=by
  have h3:(a-c-(b-d))%n=0:=by rw[show a-c-(b-d)=(a-b)-(c-d)by lia,AH3,h1,z];rfl
  exact(AIk.mpr h3).symm
 unfold CK at h ⊢;rw[e];exact h
section
variable{r:List Pt}(S:Sm r){s:Int}{l:Nat}(l2:2<=l)(ln:l+2<=r.length)
include S l2 ln
theorem Yc(i j:Int)(h:yy (sub r s l) i=yy (sub r s l) j):(i-j)%((sub r s l).length)=0:=by
 obtain⟨a,a0,y,ea⟩:=Kf r s l i;obtain⟨b,q,b1,z⟩:=Kf r s l j;rw[HV ea,HV z]at h;unfold yy at h;rw[A1 r s l a0 y,A1 r s l q b1]at h;have:=S.g (s+a) (s+b) h;have DG:=Xf this U U;have:a=b:=by clear this;lia
 subst this;exact Pl ea<|F2 z
theorem Yd(L:Probe r s<|s+l):A4<|sub r s l:=by
 have p:=Ek r s l;have z:∀a:Int,s+(a+1)=s+a+1:=λa=>GU;refine⟨U,λk=>?_,λi j v hs=>?_⟩
 .obtain⟨a,a0,y,ea⟩:=Kf r s l k;rw[Ao ea,Ao<|CH ea,Ao<|CH<|CH ea];by_cases c1:a+2<=l
  .rw[A1 r s l a0 y,A1 r s l (EK a0) U,A1 r s l U U,z,z,z];exact S.s.fork<|s+a
  by_cases Z:a+1=l
  .rw[A1 r s l a0 y,Z,HS,A1 r s l U Dd];have:=L.f4;rw[show s+(l)-1=s+a by lia]at this;exact this
  .have c3:a=l:=U
   subst c3;rw[HS,A1 r s l a0 y];have e:AA (sub r s l) ((l)+1+1)=AA r (s+1):=by rw[Ao (by rw[p,show(l:Int)+1+1-1=(l)+1 by lia,AIM]),A1 r s l DH U]
   rw[e];exact L.f1.symm
 .obtain⟨a,a0,y,ea⟩:=Kf r s l i;obtain⟨b,q,b1,u⟩:=Kf r s l j;have v:=tU ea u v;rw[p]at v;have hd:=MN U v U U;rw[Ao ea,Ao<|CH ea,Ao u,Ao<|CH u]at hs;by_cases Y:a=l
  .rw[Y,HS,A1 r s l U Dd,A1 r s l q b1,A1 r s l (EK q) U,z]at hs;refine L.nt (s+b) ?_ ?_ ?_ ?_ (NS hs)
   .rw[show s-(s+b) = -b from JT,C5 U U];lia
   .rw[show s-(s+b) = -b from JT,C5 U U];lia
   .rw[show s+(l)-(s+b)=l-b by lia,AGn U<|Lc q ln];lia
   .rw[show s+(l)-(s+b)=l-b by lia,AGn U<|Lc q ln];lia
  by_cases Q:b=l
  .rw[Q,HS,A1 r s l a0 y,A1 r s l (EK a0) U,A1 r s l U Dd,z]at hs;refine L.nt (s+a) ?_ ?_ ?_ ?_ (NS hs.symm)
   .rw[show s-(s+a) = -a from JT,C5 U U];lia
   .rw[show s-(s+a) = -a from JT,C5 U U];lia
   .rw[show s+(l)-(s+a)=l-a by lia,AGn U<|Lc a0 ln];lia
   .rw[show s+(l)-(s+a)=l-a by lia,AGn U<|Lc a0 ln];lia
  .rw[A1 r s l a0 y,A1 r s l (EK a0) U,A1 r s l q b1,A1 r s l (EK q) U,z,z]at hs;exact S.s.apart (s+a) (s+b) (MM U) hs
theorem TH(L:Line r s<|s+l):Line r (s+l)<|s+l+(r.length-l:Nat):=by refine(Line.symm S L).congr (by rw[AHu];rfl) ?_;rw[show s-(s+(l)+((r.length-l:Nat)))=r.length*(-1)by lia,AIp]
theorem lr(L:Line r s<|s+l):(∀{h j:Int},Aj (sub r s l) h j≠0->cc (sub r s l) h j=1)/\(∀{h j:Int},Aj (sub r (s+l)<|r.length-l) h j≠0->cc (sub r (s+l)<|r.length-l) h j=1):=by
 have z:=Yd S l2 ln L.1;have y:=Yd S U U (TH S l2 ln L).1;have v:s+(l)+((r.length-l:Nat))=s+r.length:=U
 obtain⟨H,D⟩:=S.lvl <|S.gn L.1.Bl.1;have u:yy (sub r s l) l=yy r (s+l):=by unfold yy;rw[A1 r s l U Dd]
 have p:yy (sub r s l) ((l)+1)=yy r s:=by unfold yy;rw[HS]
 have Z:yy (sub r (s+l)<|r.length-l) (r.length-l:Nat)=yy r s:=by unfold yy;rw[A1 r (s+l) (r.length-l) U U,v,K2]
 have Y:yy (sub r (s+l)<|r.length-l) ((r.length-l:Nat)+1)=yy r (s+l):=by unfold yy;rw[HS]
 have g1:Aj (sub r s l) H l≠0:=Dx (by rw[u,p];lia);have Q:=Dx (by rw[Z,Y];omega);have O:=S7 z<|Yc S l2 ln;have P:=S7 y<|Yc S U U;have c1:=z.OB O g1;have c2:=y.OB P Q;have F:Rr (sub r s l) H l=RQ (sub r s l) H (AA r s) (AA r<|s+l):=by rw[<-Us];show RQ (sub r s l) H (AA (sub r s l) l) (AA (sub r s l)<|(l)+1)=_;rw[HS,A1 r s l Bj Dd]
 have R:Rr (sub r (s+l)<|r.length-l) H (r.length-l:Nat)=RQ (sub r (s+l)<|r.length-l) H (AA r s) (AA r<|s+l):=by show RQ (sub r (s+l)<|r.length-l) H (AA (sub r (s+l)<|r.length-l) (r.length-l:Nat)) (AA (sub r (s+l)<|r.length-l)<|(r.length-l:Nat)+1)=_;rw[HS,A1 r (s+l) (r.length-l) U U,v,K2]
 have e:=ZV (r:=r) (s:=s) (l:=l) U U H (AA r s)<|AA r<|s+l;rw[Line.rq S L D]at e;have d1:cc (sub r s l) H l=RQ (sub r s l) H (AA r s) (AA r<|s+l)+ind (yy r (s+l)<yy r s):=by unfold cc;rw[F,u,p]
 have d2:cc (sub r (s+l)<|r.length-l) H (r.length-l:Nat)=RQ (sub r (s+l)<|r.length-l) H (AA r s) (AA r<|s+l)+ind (yy r s<yy r (s+l)):=by unfold cc;rw[R,Z,Y]
 have d3:ind (yy r (s+l)<yy r s)+ind (yy r s<yy r (s+l))=1:=by
  by_cases x:yy r s<yy r (s+l)
  .rw[BS x,BB U];rfl
  .rw[BB x,BS U];rfl
 have k1:cc (sub r s l) H l=1:=U
 have k2:cc (sub r (s+l)<|r.length-l) H (r.length-l:Nat)=1:=U
 exact⟨λ{h j} q=>by rw[z.Qn O q g1];exact k1,λ{h j} q=>by rw[y.Qn P q Q];exact k2⟩
theorem IJ(L:Line r s<|s+l):Sm<|sub r s l:=⟨Yd S l2 ln L.1,(lr S l2 ln L).1,Yc S l2 ln⟩
end
theorem AA0{Q Y a b c d:Int}(q:0<Q)(p:(Q*a<Y/\Y<Q*b)\/(Q*b<Y/\Y<Q*a))(Z:c≠d)(O:(Q*c<=Y/\Y<=Q*d)\/(Q*d<=Y/\Y<=Q*c)) : ∃H,((a<=H/\H<b)\/(b<=H/\H<a))/\((c<=H/\H<d)\/(d<=H/\H<c))/\Q*H<=Y/\Y<=Q*(H+1):=by
 have f1:Q*(Y / Q)<=Y:=Int.mul_ediv_self_le U;have f2:Y<Q*(Y / Q+1):=by have:=Int.lt_mul_ediv_self_add (x:=Y) q;grind
 generalize Y / Q=f at f1 f2;have z:∀{u v:Int},Q*u<Q*v->u<v:=λh=>AJa h U;have y:∀{u v:Int},Q*u<=Q*v->u<=v:=λh=>AHz h q;by_cases hc:(c<=f/\f<d)\/(d<=f/\f<c)
 .refine⟨f,?_,hc,f1,U⟩;rcases p with⟨u,v⟩|⟨u,v⟩
  .have:=z<|AK7 u f2;have:=z<|AJi f1 v;left;lia
  .have:=z<|AK7 u f2;have:=z<|AJi f1 v;right;lia
 .have P:Y=Q*f/\((c<d/\d=f)\/(d<c/\c=f)):=by
   rcases O with⟨u,v⟩|⟨u,v⟩
   .have h1:=z<|AJi u f2;have D:=y<|AIK u v;have h3:=y<|AIK f1 v;have:d=f:=U
    subst this;exact⟨U,by left;lia⟩
   .have h1:=z<|AJi u f2;have D:=y<|AIK u v;have h3:=y<|AIK f1 v;have:c=f:=U
    subst this;exact⟨U,by right;lia⟩
  obtain⟨e,g⟩:=P;subst e;refine⟨f-1,?_,by clear Z;rcases g with g|g<;>lia,U,U⟩;rcases p with⟨u,v⟩|⟨u,v⟩
  .have:=z u;have:=z v;left;lia
  .have:=z u;have:=z v;right;lia
def L9(Q X Y:Int)(A B:Pt):Prop:=∃s:Int,0<=s/\s<=Q/\Q*A.1+s*(B.1-A.1)=X/\Q*A.2+s*(B.2-A.2)=Y
theorem Z2(z:0<Q)(hs:E.2<=H/\H<F.2)(h1:Q*H<=Y)(h2:Y<=Q*(H+1)): (∀A B,L9 Q X Y A B->Lt A B E F)\/(∀A B,L9 Q X Y A B->Lt E F A B)\/∃d k:Int,0<d/\0<=k/\k<=Q*d/\Q*d*E.1+k*(F.1-E.1)=d*X/\Q*d*E.2+k*(F.2-E.2)=d*Y:=by
 have a1:=AG5 hs.1<|AGt z;have a2:=AG5 (U:H+1<=F.2)<|AGt z;have hd:0<F.2-E.2:=U
 have p:=AG1 z hd;have k1:Y-Q*E.2<=Q*(F.2-E.2):=U
 rcases AIh (Q*(F.2-E.2)*E.1+(Y-Q*E.2)*(F.1-E.1)) ((F.2-E.2)*X)with c|c|c
 .refine .inr<|.inl λA B h=>?_;obtain⟨s,y,s1,q,v⟩:=h;have u:=AGu y<|AGt hd;have Z:=AHL s1<|AGt hd;refine⟨Q*(F.2-E.2),Y-Q*E.2,s*(F.2-E.2),p,U,k1,u,Z,?_,?_⟩
  .rw[<-v];grind
  .have:Q*(F.2-E.2)*A.1+s*(F.2-E.2)*(B.1-A.1)=(F.2-E.2)*X:=by rw[<-q];grind
   rw[this];exact c
 .exact .inr<|.inr ⟨F.2-E.2,Y-Q*E.2,hd,U,k1,c,AGg⟩
 .refine .inl λA B h=>?_;obtain⟨s,y,s1,q,v⟩:=h;have u:=AGu y<|AGt hd;refine⟨Q*(F.2-E.2),s*(F.2-E.2),Y-Q*E.2,p,u,(AHL s1<|AGt hd),U,k1,?_,?_⟩
  .rw[<-v];grind
  .have:Q*(F.2-E.2)*A.1+s*(F.2-E.2)*(B.1-A.1)=(F.2-E.2)*X:=by rw[<-q];grind
   rw[this];exact c
theorem qP(y:0<Q)(hs:(E.2<=H/\H<F.2)\/(F.2<=H/\H<E.2))(h1:Q*H<=Y)(q:Y<=Q*(H+1)): (∀A B,L9 Q X Y A B->Lt A B E F)\/(∀A B,L9 Q X Y A B->Lt E F A B)\/∃d k:Int,0<d/\0<=k/\k<=Q*d/\Q*d*E.1+k*(F.1-E.1)=d*X/\Q*d*E.2+k*(F.2-E.2)=d*Y:=by
 rcases hs with hs|hs
 .exact Z2 y hs h1 q
 .rcases Z2 y hs h1 q with h|h|⟨d,k,a,b,c,e1,e2⟩
  .exact .inl λA B z=>HH<|h A B z
  .exact .inr<|.inl λA B z=>GV<|h A B z
  .exact .inr<|.inr ⟨d,Q*d-k,a,U,U,AGg,AGg⟩
section
variable{r:List Pt}(S:Sm r){s:Int}{l:Nat}(l2:2<=l)(ln:l+2<=r.length)(L:Line r s (s+l))
include S l2 ln L
theorem AAJ{k:Int}(k0:0<=k)(k1:k<r.length-l)(q:(yy r (s+l+k)<=H/\H<yy r (s+l+k+1))\/(yy r (s+l+k+1)<=H/\H<yy r (s+l+k))) : RQ (sub r s l) H (AA r<|s+l+k) (AA r<|s+l+k+1)=0:=by
 have e:=ZV (r:=r) (s:=s) (l:=l) U U H (AA r<|s+l+k)<|AA r<|s+l+k+1;have x1:RQ r H (AA r<|s+l+k) (AA r<|s+l+k+1)+ind (yy r (s+l+k)<yy r (s+l+k+1))=1:=S.c <|Dx q;have z:=A1 r (s+l) (r.length-l) k0 U;have y:AA (sub r (s+l)<|r.length-l) (k+1)=AA r (s+l+k+1):=by rw[A1 r (s+l) (r.length-l) (EK k0) U];lia
 have x2:RQ (sub r (s+l)<|r.length-l) H (AA r<|s+l+k) (AA r<|s+l+k+1)+ind (yy r (s+l+k)<yy r (s+l+k+1))=1:=by
  have:=(lr S l2 ln L).2 (Dx (by unfold yy;rw[z,y];exact q));unfold cc at this;unfold yy at this ⊢;rw[z,y]at this;have v:Rr (sub r (s+l)<|r.length-l) H k=RQ (sub r (s+l)<|r.length-l) H (AA r<|s+l+k) (AA r<|s+l+k+1):=by show RQ _ _ _ _=_;rw[z,y]
  rw[v]at this;exact this
 omega
theorem ji{a b:Int}(p:Line (sub r s l) a b){k:Int}(k0:0<=k)(k1:k<r.length-l)(P:0<Q)(D:0<t)(t1:t<Q) (n:Q*(AA (sub r s l) a).1+t*((AA (sub r s l) b).1-(AA (sub r s l) a).1)=X) (f:Q*(AA (sub r s l) a).2+t*((AA (sub r s l) b).2-(AA (sub r s l) a).2)=Y) (F:L9 Q X Y (AA r<|s+l+k)<|AA r<|s+l+k+1):False:=by
 have v:=IJ S l2 ln L;have x:=v.gn p.1.Bl.1;have BG:yy r (s+l+k)≠yy r (s+l+k+1):=(S.g1 _).symm;have e:L9 Q X Y (AA (sub r s l) a)<|AA (sub r s l) b:=⟨t,U,U,n,f⟩;have ra:(Q*yy (sub r s l) a<Y/\Y<Q*yy (sub r s l) b)\/(Q*yy (sub r s l) b<Y/\Y<Q*yy (sub r s l) a):=by
  unfold yy at x ⊢;rcases AHU x with h|h
  .left;have R:=AG1 D<|AJU.mpr h;have B:=AG1 (AJU.mpr t1)<|AJU.mpr h;exact⟨U,U⟩
  .right;have R:=AG1 D<|AJU.mpr h;have B:=AG1 (AJU.mpr t1)<|AJU.mpr h;exact⟨U,U⟩
 have rc:(Q*yy r (s+l+k)<=Y/\Y<=Q*yy r (s+l+k+1))\/(Q*yy r (s+l+k+1)<=Y/\Y<=Q*yy r (s+l+k)):=by
  obtain⟨u,q,Z,_,f2⟩:=F;unfold yy;rcases AIn (AA r<|s+l+k).2 (AA r<|s+l+k+1).2 with h|h
  .left;have R:=AGu q<|AJH.mpr h;have B:=AGu (AJH.mpr Z)<|AJH.mpr h;exact⟨U,U⟩
  .right;have R:=AGu q<|AJH.mpr h;have B:=AGu (AJH.mpr Z)<|AJH.mpr h;exact⟨U,U⟩
 obtain⟨H,ha,hc,h1,h2⟩:=AA0 P ra BG rc;have z0:=AAJ S l2 ln L k0 k1 hc;have:RQ (sub r s l) H (AA (sub r s l) a) (AA (sub r s l) b)=RQ (sub r s l) H (AA r<|s+l+k) (AA r<|s+l+k+1):=by
  refine DC λm hm=>?_;by_cases hs:Aj (sub r s l) H m=0
  .rw[hs,AHv,AHv]
  rw[sub_len]at hm;rcases qP P (FX hs) h1 h2 with c|c|⟨d,u,G,q,Z,f1,f2⟩
  .rw[BS<|c _ _ e,BS<|c _ _ F]
  .rw[BB λz=>p.1.nc v.s m z<|c _ _ e,BB λz=>?_];have O:=c _ _ F;by_cases hl:(m)=l
   .rw[hl,HS,A1 r s l U U]at O z;exact L.1.nc S.s (s+l+k) (GV O)<|HH z
   .rw[A1 r s l U U,A1 r s l U U,show s+((m)+1)=s+m+1 by lia]at O z;exact S.s.nc (by exact KY U U) z O
  .exfalso;have td:=AG1 G D;have td':=AG1 G<|AJU.mpr t1;by_cases T:(a-(m))%((sub r s l).length)=0
   .rw[<-Ao T,<-Ao<|CH T]at f1 f2;have:=(p.1.f1 u (d*t) q U AGg AGg).2;lia
   by_cases C:(a-(m))%((sub r s l).length)=1
   .have hn:(1:Int)<((sub r s l).length):=by rw[Ek];lia
    have y:=F3 hn C;rw[<-Ao y,<-(v.s.next C).1]at f1 f2;have:=(p.1.f2 (Q*d-u) (d*t) U U AGg AGg).2;lia
   by_cases E:(b-(m))%((sub r s l).length)=0
   .rw[<-Ao E,<-Ao<|CH E]at f1 f2;have:=(p.1.f3 u (d*(Q-t)) q U AGg AGg).2;lia
   by_cases I:(b-(m))%((sub r s l).length)=1
   .have hn:(1:Int)<((sub r s l).length):=by rw[Ek];lia
    rw[<-Ao<|F3 hn I,<-(v.s.next I).1]at f1 f2;have:=(p.1.f4 (Q*d-u) (d*(Q-t)) U U AGg AGg).2;lia
   .refine p.1.nt m T C E I ⟨Q*d,d*t,u,(AG1 P G),U,U,q,Z,?_,?_⟩
    .rw[f1,<-n];grind
    .rw[f2,<-f];grind
 rw[z0,(Line.rq v p ha)]at this;cases this
end
theorem Sm.ne(S:Sm r){i j:Int}(h:(i-j)%(r.length)≠0):AA r i≠AA r j:=λc=>S.gn h (by unfold yy;rw[c])
theorem Sm.st(S:Sm r)(k:Int):AA r (k+1)≠AA r k:=λc=>S.g1 k (by unfold yy;rw[c])
section
variable{r:List Pt}(S:Sm r){s:Int}{l:Nat}(l2:2<=l)(ln:l+2<=r.length)(L:Line r s (s+l))
include S l2 ln L
theorem m8{a b:Int}(a0:0<=a)(F:a<=l)(R:0<=b)(b1:b<=l)(p:Line (sub r s l) a b){k:Int}(k0:0<=k)(k1:k<r.length-l) (Q:(AA r (s+l+k)=AA r (s+a)/\T=AA r (s+l+k+1))\/(AA r (s+l+k+1)=AA r (s+a)/\T=AA r (s+l+k))) (O:T≠AA r (s+a)) (B:T≠AA r (s+b)) (G:AA r (s+b)≠AA r (s+a)) (C:¬ At (AA r<|s+l+k) (AA r<|s+l+k+1) (AA r<|s+b)):CL (AA r<|s+a) T<|AA r<|s+b:=by
 have ea:=A1 r s l a0 F;have P:=A1 r s l R b1;refine J2 O G ?_ λz=>C ?_
 .rintro⟨u,v,y,E,h,q,Z⟩;by_cases c:u=v
  .apply B;subst c;exact AID (Sh<|AH0 (FO y) q)<|Sh<|AH0 (FO y) Z
  by_cases D:v=0
  .apply O;rw[D,AHf]at q Z;exact AID (KU (AHA.mp q)<|FO y)<|KU (AHA.mp Z)<|FO y
  refine ji S l2 ln L p k0 k1 (X:=u*T.1) (Y:=u*T.2) y (Cf E D) U ?_ ?_ ?_
  .rw[ea,P];grind
  .rw[ea,P];grind
  .rcases Q with⟨_,rfl⟩|⟨_,rfl⟩
   .exact⟨u,U,EJ,AGg,AGg⟩
   .exact⟨0,Bi,U,AGg,AGg⟩
 .rcases Q with⟨h1,rfl⟩|⟨h1,rfl⟩
  .rw[h1];exact z
  .rw[h1];exact Kz z
theorem T5{a b:Int}(a0:0<=a)(a1:a<=l)(b0:0<=b)(b1:b<=l)(p:Line (sub r s l) a b):(2<=a-b/\a-b<=l-1)\/(2<=b-a/\b-a<=l-1):=by
 have:=p.1.Bl;rw[Ek]at this;have:=MN U this U U
 grind
theorem mz{a b:Int}(a0:0<=a)(y:a<=l)(z:0<=b)(b1:b<=l)(p:Line (sub r s l) a b):CL (AA r<|s+a) (AA r<|s+a+1)<|AA r<|s+b:=by
 have hf:=T5 S l2 ln L a0 y z b1 p;by_cases ha:a<l
 .have:=p.1.f1;rw[A1 r s l a0 y,A1 r s l z b1,A1 r s l (EK a0) (by clear y;lia),show s+(a+1)=s+a+1 from GU]at this;exact this
 .have ha:a=l:=U
  subst ha;have q:s+(l)+0=s+l:=AG9 _;refine m8 S l2 ln L a0 y z b1 p (k:=0) Bi U (.inl ⟨by rw[q],by rw[q]⟩) (S.st _) (S.ne ?_) (S.ne ?_) ?_
  .exact KY U U
  .rw[show s+b-(s+(l)) = -(l-b)by lia,C5 AGi<|Lc z ln];lia
  .rw[q];refine S.s.FT ?_ ?_
   .rw[show s+b-(s+(l)) = -(l-b)by lia,C5 U<|Lc z ln];lia
   .rw[show s+b-(s+(l)) = -(l-b)by lia,C5 U<|Lc z ln];lia
theorem m7{a b:Int}(a0:0<=a)(y:a<=l)(z:0<=b)(b1:b<=l)(p:Line (sub r s l) a b):CL (AA r<|s+a) (AA r<|s+a-1)<|AA r<|s+b:=by
 have hf:=T5 S l2 ln L a0 y z b1 p;by_cases ha:0<a
 .have:=p.1.f2;rw[A1 r s l a0 y,A1 r s l z b1,A1 r s l U U,show s+(a-1)=s+a-1 from PU]at this;exact this
 .have ha:a=0:=U
  subst ha;have v:s+(l)+(r.length-l-1)=s-1+r.length:=U
  have q:AA r (s+(l)+(r.length-l-1))=AA r (s-1):=by rw[v,K2]
  have u:AA r (s+(l)+(r.length-l-1)+1)=AA r (s-1+1):=by rw[v,show s-1+(r.length)+1=s-1+1+r.length by clear q;lia,K2]
  have e3:s-1+1=s+0:=U
  have st:AA r (s+0-1)≠AA r (s+0):=λc=>S.st (s-1) (by rw[e3,<-c];congr 1;lia);refine m8 S l2 ln L a0 y z b1 p (k:=r.length-l-1) U U (.inr ⟨by rw[u,e3],by rw[q];congr 1;lia⟩) st (S.ne ?_) (S.ne ?_) ?_
  .rw[show s+0-1-(s+b) = -(b+1)by lia,C5 U U];lia
  .rw[show s+b-(s+0)=b by lia,AGn (M4 z) U];rintro rfl;lia
  .rw[q,u];refine S.s.FT ?_ ?_
   .rw[show s+b-(s-1)=b+1 from Sg,AGn (EK z) U];lia
   .rw[show s+b-(s-1)=b+1 from Sg,AGn (EK z) U];lia
theorem AFK{a b:Int}(a0:0<=a)(y:a<=l)(q:0<=b)(b1:b<=l)(p:Line (sub r s l) a b):Probe r (s+a)<|s+b:=by
 have hf:=T5 S l2 ln L a0 y q b1 p;have C:=Line.symm (IJ S l2 ln L) p;refine⟨MM AGg,mz S l2 ln L a0 y q b1 p,m7 S l2 ln L a0 y q b1 p,mz S l2 ln L q b1 a0 y C,m7 S l2 ln L q b1 a0 y C,λk Z Y O P h=>?_⟩;have hn:(0:Int)<r.length:=U
 have F:=AHE (k-s) (b:=(r.length)) U;have m1:=AG4 (k-s) hn;have D:(k-(s+(k-s)%(r.length)))%(r.length)=0:=by rw[show k-(s+(k-s)%(r.length))=(k-s)-(k-s)%(r.length)by lia,AH3,AHO _<|AH2 _,AHu];rfl
 generalize (k-s)%(r.length)=m at F m1 D;have ek:∀x:Int,(x-k)%(r.length)=(x-(s+m))%(r.length):=λx=>by rw[show x-(s+m)=(x-k)+(k-(s+m))by lia,AIL,D,AG9,AHO _<|AH2 _]
 rw[ek]at Z Y O P;rw[Ao D,Ao<|CH D]at h;rw[show s+a-(s+m)=a-m by lia]at Z Y;rw[show s+b-(s+m)=b-m by lia]at O P;have ne:∀{d:Int},d%(r.length)≠0->d%(r.length)≠1->d≠0/\d≠1:=λ{d} u v=>⟨λc=>u (by rw[c];rfl),λc=>v (by rw[c];exact AGn DH (by clear hn;lia))⟩;obtain⟨n1,n2⟩:=ne Z Y;obtain⟨n3,n4⟩:=ne O P;by_cases hm:m<l
 .have E:∀{d:Int},d≠0->d≠1->-(l)<d->d<=l->d%((l)+1)≠0/\d%((l)+1)≠1:=λ{d} u v w z=>by
   by_cases c:0<=d
   .rw[AGn c U];exact⟨u,v⟩
   .have:=C5 (n:=(l)+1) (d:=-d) U U;rw[AJC]at this;rw[this];lia
  have H:=E n1 n2 U U;have I:=E n3 n4 U U;refine p.1.nt m (by rw[Ek];exact H.1) (by rw[Ek];exact H.2) (by rw[Ek];exact I.1) (by rw[Ek];exact I.2) ?_;rw[A1 r s l a0 y,A1 r s l q b1,A1 r s l (M4 F) U,A1 r s l (EK F) U,show s+(m+1)=s+m+1 from GU];exact h
 .obtain⟨Q,t,u,R,t0,t1,B,G,f,e⟩:=h;have es:s+m=s+l+(m-l):=U
  have nL:=Z;have nM:=Y;have nN:=O;have nO:=P
  rw[show a-m=s+a-(s+m)by lia]at nL nM;rw[show b-m=s+b-(s+m)by lia]at nN nO;by_cases T:t=0
  .refine S.s.FT nL nM ⟨Q,u,R,B,G,?_,?_⟩
   .rw[T]at f;grind
   .rw[T]at e;grind
  by_cases c1:t=Q
  .refine S.s.FT nN nO ⟨Q,u,R,B,G,?_,?_⟩
   .grind
   .grind
  .refine ji S l2 ln L p (k:=m-l) U U R (t:=t) (Cf t0 T) U rfl rfl ?_;rw[<-es,A1 r s l a0 y,A1 r s l q b1];exact⟨u,B,G,f.symm,e.symm⟩
theorem jA{a b:Int}(a0:0<a)(a1:a<l)(z:0<=b)(b1:b<=l)(p:Line (sub r s l) a b):Line r (s+a)<|s+b:=by refine⟨AFK S l2 ln L U U z b1 p,?_⟩;have:=p.2;rw[A1 r s l U U,A1 r s l z b1,A1 r s l U U,A1 r s l U U,show s+(a+1)=s+a+1 from GU,show s+(a-1)=s+a-1 from PU]at this;exact this
theorem yC{a b:Int}(a0:0<=a)(z:a<=l)(y:0<=b)(b1:b<=l)(p:Line (sub r s l) a b):Line r (s+a)<|s+b:=by
 have hf:=T5 S l2 ln L a0 z y b1 p;by_cases c:0<a/\a<l
 .exact jA S l2 ln L c.1 c.2 y b1 p
 .exact Line.symm S<|jA S l2 ln L (by clear z;omega) (by clear a0;omega) a0 z<|Line.symm (IJ S l2 ln L) p
end
theorem Ih(AGf V W P:Pt):AE AGf V P+AE V W P+AE W AGf P=AE AGf V W/\AE AGf V W*P.1=AE V W P*AGf.1+AE W AGf P*V.1+AE AGf V P*W.1/\AE AGf V W*P.2=AE V W P*AGf.2+AE W AGf P*V.2+AE AGf V P*W.2:=by unfold AE;exact⟨AGg,AGg,AGg⟩
theorem e9(P:y+Y+Z=D)(O:z+bR+q=D)(F:D*p=Y*u+Z*v+y*w)(eR:D*r=bR*u+q*v+z*w): (D*(-z*Q+((Q-T)*y+T*z)))*p+(D*(-z*T+((Q-T)*y+T*z)))*(r-p)=(D*(-z*Q+((Q-T)*y+T*z)))*u+(-z*((Q-T)*Z+T*q)+((Q-T)*y+T*z)*q)*(v-u):=by
 have h1:(D*(-z*Q+((Q-T)*y+T*z)))*p+(D*(-z*T+((Q-T)*y+T*z)))*(r-p)=(-z*(Q-T))*(D*p)+(-z*T+((Q-T)*y+T*z))*(D*r):=AGg
 rw[h1,F,eR];have R:D*(-z*Q+((Q-T)*y+T*z))=(-z*((Q-T)*Y+T*bR)+((Q-T)*y+T*z)*bR)+(-z*((Q-T)*Z+T*q)+((Q-T)*y+T*z)*q):=by
  have B:D*(-z*Q) = -z*((Q-T)*D+T*D):=AGg
  have G:D*((Q-T)*y+T*z)=((Q-T)*y+T*z)*D:=AI1 ..;rw[Int.mul_add,B,G];rw[show(Q-T)*D=(Q-T)*(y+Y+Z)by rw[P],show T*D=T*(z+bR+q)by rw[O],show((Q-T)*y+T*z)*D=((Q-T)*y+T*z)*(z+bR+q)by rw[O]]
  grind
 rw[R]
 grind
theorem Vx{AGf V W P R:Pt}(p:0<Q)(Z:0<=T)(t1:T<=Q)(Y:0<AE AGf V W) (v:ax=(Q-T)*AE AGf V P+T*AE AGf V R) (O:bx=(Q-T)*AE V W P+T*AE V W R) (u:fx=(Q-T)*AE W AGf P+T*AE W AGf R) (a0:0<=ax) (D:AE AGf V R<0) (hb:0<=-AE AGf V R*bx+ax*AE V W R) (F:0<=-AE AGf V R*fx+ax*AE W AGf R) : ∃q s t:Int,0<q/\0<=s/\s<=q/\0<=t/\t<=q/\q*P.1+s*(R.1-P.1)=q*AGf.1+t*(V.1-AGf.1)/\q*P.2+s*(R.2-P.2)=q*AGf.2+t*(V.2-AGf.2)/\t = -AE AGf V R*fx+ax*AE W AGf R/\q-t = -AE AGf V R*bx+ax*AE V W R:=by
 obtain⟨z,B,G⟩:=Ih AGf V W P;obtain⟨y,S,C⟩:=Ih AGf V W R;have m1:=AG1 (show 0 < -AE AGf V R from Pa D) p;have m2:=AGu (U:0<=-AE AGf V R) Z;have m3:=AGu (U:0<=-AE AGf V R) (show 0<=Q-T from Cp t1);have E:0 < -AE AGf V R*Q+ax:=U
 have H:0<=-AE AGf V R*T+ax:=U
 have I : -AE AGf V R*T+ax<=-AE AGf V R*Q+ax:=U
 have n:AE AGf V W*(-AE AGf V R*Q+ax)-(-AE AGf V R*fx+ax*AE W AGf R) = -AE AGf V R*bx+ax*AE V W R:=by
  have b:ax+bx+fx=Q*AE AGf V W:=by
   rw[v,O,u,show Q*AE AGf V W=(Q-T)*AE AGf V W+T*AE AGf V W by grind,<-z];have:T*(AE AGf V P+AE V W P+AE W AGf P)=T*(AE AGf V R+AE V W R+AE W AGf R):=by rw[z,y]
   rw[this];grind
  have f:AE AGf V W*(-AE AGf V R*Q+ax) = -AE AGf V R*(Q*AE AGf V W)+ax*AE AGf V W:=AGg
  rw[f,<-b,<-y];grind
 refine⟨AE AGf V W*(-AE AGf V R*Q+ax),AE AGf V W*(-AE AGf V R*T+ax),-AE AGf V R*fx+ax*AE W AGf R,(AG1 Y E),AGu U H,AG5 I U,F,U,?_,?_,rfl,n⟩
 .rw[v,u];exact e9 z y B S
 .rw[v,u];exact e9 z y G C
theorem tN{AGf V W P R:Pt}(G:0<Q)(S:0<=T)(t1:T<=Q)(C:0<AE AGf V W) (E:ax=(Q-T)*AE AGf V P+T*AE AGf V R) (H:bx=(Q-T)*AE V W P+T*AE V W R) (I:fx=(Q-T)*AE W AGf P+T*AE W AGf R) (a0:0<=ax) (v:0<=bx) (n:0<=fx) (b:0<=AE W AGf R) (out:AE AGf V R<0\/AE V W R<0) : (∃q s t:Int,0<q/\0<=s/\s<=q/\0<=t/\t<=q/\q*P.1+s*(R.1-P.1)=q*AGf.1+t*(V.1-AGf.1)/\q*P.2+s*(R.2-P.2)=q*AGf.2+t*(V.2-AGf.2)/\(0<fx->0<t))\/(∃q s t:Int,0<q/\0<=s/\s<=q/\0<=t/\t<=q/\q*P.1+s*(R.1-P.1)=q*V.1+t*(W.1-V.1)/\q*P.2+s*(R.2-P.2)=q*V.2+t*(W.2-V.2)/\(0<fx->t<q)):=by
 have x:AE V W AGf=AE AGf V W:=by unfold AE;grind
 have a:AE AGf V R<0->0<=-AE AGf V R*bx+ax*AE V W R->(∃q s t:Int,0<q/\0<=s/\s<=q/\0<=t/\t<=q/\q*P.1+s*(R.1-P.1)=q*AGf.1+t*(V.1-AGf.1)/\q*P.2+s*(R.2-P.2)=q*AGf.2+t*(V.2-AGf.2)/\(0<fx->0<t)):=λy u=>by have p:=AGu (U:0<=-AE AGf V R) n;have Z:=AGu a0 b;obtain⟨q,s,t,h1,Y,h3,O,D,F,B,et,_⟩:=Vx G S t1 C E H I a0 y u U;refine⟨q,s,t,h1,Y,h3,O,D,F,B,λh=>?_⟩;have:=AG1 (show 0 < -AE AGf V R from Pa y) h;lia
 have f:AE V W R<0->0<=-AE V W R*ax+bx*AE AGf V R->(∃q s t:Int,0<q/\0<=s/\s<=q/\0<=t/\t<=q/\q*P.1+s*(R.1-P.1)=q*V.1+t*(W.1-V.1)/\q*P.2+s*(R.2-P.2)=q*V.2+t*(W.2-V.2)/\(0<fx->t<q)):=λz ha=>by have p:=AGu (U:0<=-AE V W R) n;have Z:=AGu v b;obtain⟨q,s,t,h1,Y,h3,O,D,F,B,_,eq⟩:=Vx G S t1 (by rw[x];exact C) H I E v z U ha;refine⟨q,s,t,h1,Y,h3,O,D,F,B,λh=>?_⟩;have:=AG1 (show 0 < -AE V W R from Pa z) h;lia
 by_cases y:AE AGf V R<0
 .by_cases u:0<=-AE AGf V R*bx+ax*AE V W R
  .exact .inl<|a y u
  .by_cases z:AE V W R<0
   .refine .inr<|f z ?_;lia
   .exfalso;have p:=AGu (U:0<=-AE AGf V R) v;have Z:=AGu a0 (show 0<=AE V W R from Pc z);lia
 .have z:AE V W R<0:=U
  refine .inr<|f z ?_;have p:=AGu (U:0<=-AE V W R) a0;have Z:=AGu v (show 0<=AE AGf V R from Pc y);lia
theorem jW(f:Nat->Int):∀n:Nat,0<n->∃m,m<n/\∀k,k<n->f m<=f k
 |0,h=>U
 |1,_=>⟨0,U,λk z=>by rw[show k=0 by lia];exact AHY _⟩
 |n+2,_=>by
  obtain⟨m,hm,h⟩:=jW f (n+1) U;by_cases c:f m<=f (n+1)
  .refine⟨m,U,λk z=>?_⟩;by_cases e:k=n+1
   .rw[e];exact c
   .exact h k U
  .refine⟨n+1,U,λk z=>?_⟩;by_cases e:k=n+1
   .rw[e];exact AHY _
   .have:=h k U;lia
theorem jQ(P:Nat->Prop)(f:Nat->Int):∀n:Nat,(∃k,k<n/\P k)->∃m,m<n/\P m/\∀k,k<n->P k->f k<=f m
 |0,h=>by obtain⟨k,q,_⟩:=h;lia
 |n+1,h=>by
  by_cases c:∃k,k<n/\P k
  .obtain⟨m,hm,pm,v⟩:=jQ P f n c;by_cases d:P n/\f m<f n
   .refine⟨n,FP,d.1,λk q y=>?_⟩;by_cases e:k=n
    .rw[e];exact AHY _
    .have:=v k (GS q e) y;lia
   .refine⟨m,HG hm,pm,λk q y=>?_⟩;by_cases e:k=n
    .rw[e]at y ⊢;exact AKI.mp λz=>d ⟨y,z⟩
    .exact v k (GS q e) y
  .obtain⟨k,q,y⟩:=h;have:k=n:=by
    rcases AKR k n with z|z
    .exact absurd ⟨k,z,y⟩ c
    .lia
   subst this;refine⟨k,FP,y,λj u p=>?_⟩;by_cases e:j=k
   .rw[e];exact AHY _
   .exact absurd ⟨j,GS u e,p⟩ c
set_option tactic.hygienic true
theorem Lm(z:Q*A.1+s*(B.1-A.1)=Q*C.1+t*(D.1-C.1))(y:Q*A.2+s*(B.2-A.2)=Q*C.2+t*(D.2-C.2)):(Q-s)*AE a b A+s*AE a b B=(Q-t)*AE a b C+t*AE a b D:=by
 have f:∀(X Y:Pt)(u:Int),(Q-u)*AE a b X+u*AE a b Y=(b.1-a.1)*((Q*X.2+u*(Y.2-X.2))-Q*a.2)-(b.2-a.2)*((Q*X.1+u*(Y.1-X.1))-Q*a.1):=λX Y u=>by unfold AE;grind
 rw[f,f,z,y]
theorem Qj(e1:q*(X.1-A.1)=s*(B.1-A.1))(e2:q*(X.2-A.2)=s*(B.2-A.2)):(q-s)*AE a b A+s*AE a b B=q*AE a b X:=by have:=Lm (a:=a) (b:=b) (A:=A) (B:=B) (C:=X) (D:=X) (Q:=q) (s:=s) (t:=0) AGg AGg;rw[AHf,AG9,AJh]at this;exact this
theorem Ig(h:At A B X)(z:0<=AE a b A)(y:0<=AE a b B):0<=AE a b X:=by obtain⟨q,s,v,u,s1,p,Z⟩:=h;have m1:=AGu (show 0<=q-s from Cp s1) z;have m2:=AGu u y;exact AKI.mp λc=>by have:=AIw v c;rw[<-Qj p Z]at this;lia
theorem Zd{AGf V W P:Pt}(q:0<AE AGf V W)(h:AE AGf V P=0)(b:0<=AE V W P)(f:0<=AE W AGf P):At AGf V P:=by obtain⟨sz,z,y⟩:=Ih AGf V W P;rw[h,AHf,AG9]at z y;rw[h,AHW]at sz;exact⟨AE AGf V W,AE W AGf P,q,f,U,by rw[AIV,z,<-sz];grind,by rw[AIV,y,<-sz];grind⟩
def fA(r:List Pt)(v k:Int):Int:=AE (AA r<|v-1) (AA r v)<|AA r k
def fB(r:List Pt)(v k:Int):Int:=AE (AA r v) (AA r<|v+1)<|AA r k
def fF(r:List Pt)(v k:Int):Int:=AE (AA r<|v+1) (AA r<|v-1)<|AA r k
theorem fG(r:List Pt)(v:Int):fA r v v=0/\fA r v (v-1)=0/\fB r v v=0/\fB r v (v+1)=0/\fF r v (v+1)=0/\fF r v (v-1)=0/\fF r v v=fA r v (v+1)/\fB r v (v-1)=fA r v (v+1):=
 ⟨(Dh _ _).2,(Dh _ _).1,(Dh _ _).1,(Dh _ _).2,(Dh _ _).1,(Dh _ _).2,by unfold fF fA;rw[Bs,Bs],Bs ..⟩
section
variable{r:List Pt}(S:Sm r)
include S
theorem Sm.norm(v k:Int):∃e:Int,0<=e/\e<r.length/\(k-(v+e))%(r.length)=0:=by have h3:=S.s.l3;refine⟨(k-v)%(r.length),AHE _<|Lh h3,AG4 _<|JQ h3,?_⟩;rw[show k-(v+(k-v)%(r.length))=(k-v)-(k-v)%(r.length)by lia,AH3,AHO _<|AH2 _,AHu];rfl
theorem Sm.low:∃v:Int,∀k:Int,yy r v<=yy r k:=by have h3:=S.s.l3;obtain⟨m,hm,h⟩:=jW (λk=>yy r<|k) r.length<|Bn h3;refine⟨m,λk=>?_⟩;obtain⟨e,z,e1,he⟩:=S.norm 0 k;rw[AHW]at he;have:=h e.toNat U;rw[AHB z,<-HV he]at this;exact this
theorem Sm.conv(z:∀k,yy r v<=yy r k):0<AE (AA r<|v-1) (AA r v) (AA r<|v+1):=by
 have h3:=S.s.l3;have u:v-1+1=v:=Dt;have p:yy r v<yy r (v-1):=by have:=S.g0 v;have:=z<|v-1;omega
 have y:yy r v<yy r (v+1):=by have:=S.g1 v;have:=z<|v+1;lia
 have Z:=Te (by rw[u];exact EJ) p;have sw:=Tf EJ y;have hc:=S.c (by rw[sw];lia);unfold cc at hc;rw[BS y]at hc;have hR:Rr r (yy r v) v=ind (L r v<|v-1)*(-1):=by
  unfold Rr;have Y:=Yg (f:=λj=>ind (L r v j)*Aj r (yy r v) j) (n:=r.length) (Bn h3) (λa b h=>by rw[Td h,QZ (by rw[AHu];rfl) h]) (v-1)
  rw[<-Y];rw[Tn (d:=0) (Bn h3) λm hm Ax=>?_]
  .rw[Int.natCast_zero,AG9,Z]
  .by_cases Q:m=1
   .rw[Q,show v-1+((1:Nat))=v by lia,BB<|Ny r v λc=>S.g1 v c.symm,AHf]
   .have:Aj r (yy r v) (v-1+(m))=0:=by
     apply AHn;intro c;have hr:=FX c;have h1:=z<|v-1+m;have h2:=z<|v-1+m+1;by_cases x:yy r (v-1+m)<=yy r v
     .have:=S.g (v-1+m) v U;rw[show v-1+(m)-v=m-1 by lia]at this;exact KY U (Mz hm) this
     .have:=S.g (v-1+m+1) v (by clear Y;omega);rw[show v-1+(m)+1-v=m by lia]at this;exact KY (by clear Q;lia) (Ce hm) this
    rw[this,AHv]
 rw[hR]at hc;have hn:¬ L r v (v-1):=λc=>by rw[BS c]at hc;lia
 have q:=(S.s.NW (by rw[show v-(v-1)=1 from Si];exact KY HF<|Df h3) (by rw[sw];lia) (by rw[Z];lia)).resolve_left hn;unfold L at q;rw[u]at q;have:=(VH p y).mp<|GV q;rw[Bs]at this;exact this
theorem Sm.nC{v:Int}(C:0<AE (AA r<|v-1) (AA r v) (AA r<|v+1)){e:Int}(h1:1<=e)(E:e<=r.length-2){P R:Pt} (H:(P=AA r (v+e)/\R=AA r (v+e+1))\/(P=AA r (v+e+1)/\R=AA r (v+e))) {Q T ax bx fx:Int} (I:0<Q) (n:0<=T) (t1:T<=Q) (f:ax=(Q-T)*AE (AA r<|v-1) (AA r v) P+T*AE (AA r<|v-1) (AA r v) R) (h:bx=(Q-T)*AE (AA r v) (AA r<|v+1) P+T*AE (AA r v) (AA r<|v+1) R) (Gz:fx=(Q-T)*AE (AA r<|v+1) (AA r<|v-1) P+T*AE (AA r<|v+1) (AA r<|v-1) R) (a0:0<=ax) (b0:0<=bx) (f0:0<=fx) (hF:0<=AE (AA r<|v+1) (AA r<|v-1) R) (ok:0<fx\/(e≠r.length-2/\e≠1)) : 0<=AE (AA r<|v-1) (AA r v) R/\0<=AE (AA r v) (AA r<|v+1) R:=by
 apply AHn;intro c;have B:v-1+1=v:=Dt;have G:(v+e-(v-1))%(r.length)=e+1:=by rw[show v+e-(v-1)=e+1 from Sg,AGn U U]
 have m2:(v-1-(v+e))%(r.length)=r.length-(e+1):=by rw[show v-1-(v+e) = -(e+1)by lia,C5 U U]
 have m3:(v+e-v)%(r.length)=e:=by rw[show v+e-v=e from Xa,AGn U U]
 have m4:(v-(v+e))%(r.length)=r.length-e:=by rw[show v-(v+e) = -e from JT,C5 (PZ h1) U]
 have rev:∀{q s:Int}{a b:Pt}{x y:Int},0<q->0<=s->s<=q->q*P.1+s*(R.1-P.1)=x->q*P.2+s*(R.2-P.2)=y->∃s':Int,0<=s'/\s'<=q/\q*(AA r<|v+e).1+s'*((AA r<|v+e+1).1-(AA r<|v+e).1)=x/\q*(AA r<|v+e).2+s'*((AA r<|v+e+1).2-(AA r<|v+e).2)=y:=λ{q s a b x y} z u s1 p Z=>by
  rcases H with⟨rfl,rfl⟩|⟨rfl,rfl⟩
  .exact⟨s,u,s1,p,Z⟩
  .exact⟨q-s,Cp s1,Lf u,by rw[<-p];grind,by rw[<-Z];grind⟩
 rcases tN I n t1 C f h Gz a0 b0 f0 hF AGi with⟨q,s,t,z,u,s1,Y,O,p,Z,st⟩|⟨q,s,t,z,u,s1,Y,O,p,Z,st⟩
 .obtain⟨s',D,F,f1,f2⟩:=rev (a:=P) (b:=P) z u s1 p Z;have:=S.s.share (by rw[G];lia) z D F Y O (by rw[B];exact f1) (by rw[B];exact f2);rw[G,m2]at this;rcases ok with k|k
  .rcases this with this|this<;>lia
  .clear E;rcases this with this|this<;>lia
 .obtain⟨s',D,F,f1,f2⟩:=rev (a:=P) (b:=P) z u s1 p Z;have:=S.s.share (by rw[m3];lia) z D F Y O f1 f2;rw[m3,m4]at this;rcases ok with k|k
  .rcases this with this|this<;>lia
  .lia
theorem Sm.nB(z:0<fA r v (v+1)){e:Int}(h1:1<=e)(q:e<=r.length-2)(u:0<Q)(p:0<=T)(t1:T<=Q) (Z:ax=(Q-T)*fA r v (v+e)+T*fA r v (v+e+1)) (Y:bx=(Q-T)*fB r v (v+e)+T*fB r v (v+e+1)) (O:fx=(Q-T)*fF r v (v+e)+T*fF r v (v+e+1)) (a0:0<=ax) (P:0<=bx) (D:0<=fx) (ok:0<fx\/(e≠r.length-2/\e≠1)) : (0<=fF r v (v+e+1)->0<=fA r v (v+e+1)/\0<=fB r v (v+e+1))/\(0<=fF r v (v+e)->0<=fA r v (v+e)/\0<=fB r v (v+e)):=by
 have sw:∀x y:Int,(Q-T)*x+T*y=(Q-(Q-T))*y+(Q-T)*x:=λx y=>by rw[Int.sub_sub_self];lia
 exact⟨λh=>S.nC z h1 q (.inl ⟨rfl,rfl⟩) u p t1 Z Y O a0 P D h ok,λh=>S.nC z h1 q (.inr ⟨rfl,rfl⟩) u (Cp t1) (Lf p) (Z.trans<|sw _ _) (Y.trans<|sw _ _) (O.trans<|sw _ _) a0 P D h ok⟩
end
section
variable{r:List Pt}(S:Sm r)
include S
theorem Sm.jo(v k:Int):∃e:Int,0<=e/\e<r.length/\AA r k=AA r (v+e)/\AA r (k+1)=AA r (v+e+1)/\∀x:Int,(x-k)%(r.length:Int)=(x-(v+e))%(r.length:Int):=by obtain⟨e,y,q,z⟩:=S.norm v k;exact⟨e,y,q,Ao z,Ao<|CH z,λx=>by rw[show x-(v+e)=(x-k)+(k-(v+e))by lia,AIL,z,AG9,AHO _<|AH2 _]⟩
set_option maxHeartbeats 1000000 in
theorem Sm.rZ(T:0<fA r v (v+1)){d:Int}(d2:2<=d)(dn:d<=r.length-2)(az:0<=fA r v (v+d))(bz:0<=fB r v (v+d))(F:0<=fF r v (v+d)) (mx:∀e:Int,2<=e->e<=r.length-2->0<=fA r v (v+e)->0<=fB r v (v+e)->0<=fF r v (v+e)->fF r v (v+e)<=fF r v (v+d)):Line r v<|v+d:=by
 have em:v-1+1=v:=Dt;have en:fF r v (v+(r.length-1))=fF r v (v-1):=by unfold fF;rw[show v+((r.length:Int)-1)=v-1+r.length by lia,K2]
 obtain⟨vA,_,vB,_,wF,uF,vF,_⟩:=fG r v;have sz:fA r v (v+d)+fB r v (v+d)+fF r v (v+d)=fA r v (v+1):=(Ih ..).1;have n1:(v+d-(v-1))%(r.length)=d+1:=by rw[Sg,AGn U U]
 have n2:(v+d-v)%(r.length)=d:=by rw[Xa,AGn U U]
 have C:0<fA r v (v+d):=AJM.mpr ⟨az,λc=>S.s.FT (m:=v+d) (j:=v-1) (by intro h;lia) (by intro h;lia) (by rw[em];exact Zd T c.symm bz F)⟩;have E:0<fB r v (v+d):=AJM.mpr ⟨bz,λc=>S.s.FT (m:=v+d) (j:=v) U U<|Zd (by rw[Bs];exact T) c.symm F az⟩;have mi:∀e:Int,0<e->e<r.length->0<=fA r v (v+e)->0<=fB r v (v+e)->fF r v (v+d)<fF r v (v+e)->False:=λe e0 P ha hb hf=>by
  by_cases R:e=1
  .rw[R,wF]at hf;grind
  by_cases c2:e=r.length-1
  .rw[c2,en,uF]at hf;omega
  .have:=mx e U U ha hb AGg;grind
 have fk:∀e:Int,1<=e->e<=r.length-1->AA r (v+e)≠AA r (v+d)->¬ At (AA r<|v+d) (AA r<|v+e) (AA r v)->CL (AA r<|v+d) (AA r<|v+e) (AA r v):=λe P e2 gF Fq=>by
  refine J2 gF (S.ne (by rw[JT,C5 U U];lia)) (λ⟨q,s,D,s0,s1,p,Z⟩=>?_) Fq;have B:_=q*fA r v (v+e):=Qj p Z;have G:_=q*fB r v (v+e):=Qj p Z;have Y:_=q*fF r v (v+e):=Qj p Z;rw[show AE (AA r<|v-1) (AA r v) (AA r v)=0 from vA,AHv,AG9]at B;rw[show AE (AA r v) (AA r<|v+1) (AA r v)=0 from vB,AHv,AG9]at G;rw[show AE (AA r<|v+1) (AA r<|v-1) (AA r v)=_ from vF]at Y;have h:s<q:=AJM.mpr ⟨s1,λc=>by subst c;exact S.ne (by rw[Xa];exact KY (PZ P) U)<|AID (Sh<|AH0 (FO D) p)<|Sh<|AH0 (FO D) Z⟩
  have k:0<s:=Cf s0 λc=>gF (by rw[c,AHf]at p Z;exact AID (KU (AHA.mp p)<|FO D)<|KU (AHA.mp Z)<|FO D)
  have pA:0<q*_:=B ▸ AG1 (F0 h) C;have pB:0<q*_:=G ▸ AG1 (F0 h) E;have pF:=AG1 k (U:0<fA r v (v+1)-fF r v (v+d));have tF:0<q*(fF r v (v+e)-fF r v (v+d)):=by rw[AIV]at pF ⊢;rw[<-Y,AJr];unfold fF at *;omega
  exact mi e U U (AGt<|AIe pA D) (AGt<|AIe pB D)<|Int.lt_of_sub_pos<|AIe tF D
 refine⟨⟨MM (by right;constructor<;>lia),MS (u:=(AA r<|v+1)) (by rw[DR];exact Int.neg_ne_zero.mpr<|FO E),MS<|FO C,?_,?_,λk H I x3 x4 h=>?_⟩,.inl ⟨T,E,C⟩⟩
 .have c:(v-(v+d))%(r.length)=r.length-d:=by rw[JT,C5 U U]
  rw[<-GU];refine fk (d+1) U U ?_ ?_
  .rw[GU];exact S.st _
  .rw[GU];exact S.s.FT (m:=v) (j:=v+d) U U
 .have P:v+(d-1)+1=v+d:=U
  have c:(v-(v+(d-1)))%(r.length)=r.length-(d-1):=by rw[JT,C5 U U]
  rw[<-PU];exact fk (d-1) U U (λc=>S.st (v+(d-1))<|by rw[P,c]) λz=>S.s.FT (m:=v) (j:=v+(d-1)) U U (by rw[P];exact Kz z)
 .obtain⟨e,e0,P,n,R,ex⟩:=S.jo v k;rw[ex]at H I x3 x4;rw[n,R]at h;have n1:e≠0:=λc=>H (by rw[c,AG9,AHu];rfl);have n2:e≠r.length-1:=λc=>I (by rw[JT,C5 (by clear d2 c;lia) AGi];grind);obtain⟨Q,s,u,O,s0,s1,t,b,p,Z⟩:=h;have n:0<s:=Cf s0 λc=>S.s.FT H I ⟨Q,u,O,t,b,by rw[c]at p;grind,by rw[c]at Z;grind⟩;have R:s<Q:=AJM.mpr ⟨s1,λc=>S.s.FT x3 x4 ⟨Q,u,O,t,b,by rw[c]at p;clear O;grind,by rw[c]at Z;clear O;grind⟩⟩;clear H I x3 x4 ex;have B:_=(Q-u)*fA r v (v+e)+u*fA r v (v+e+1):=Lm p Z;have G:_=(Q-u)*fB r v (v+e)+u*fB r v (v+e+1):=Lm p Z;have Y:_=(Q-u)*fF r v (v+e)+u*fF r v (v+e+1):=Lm p Z;rw[show AE (AA r<|v-1) (AA r v) (AA r v)=0 from vA,AHv,AHW]at B;rw[show AE (AA r v) (AA r<|v+1) (AA r v)=0 from vB,AHv,AHW]at G;rw[show AE (AA r<|v+1) (AA r<|v-1) (AA r v)=_ from vF]at Y;have pA:=AG1 n C;have pB:=AG1 n E;have p1:=AG1 (F0 R) (U:0<fA r v (v+1)-fF r v (v+d));have p2:=AGu (AGt O) F;have f:Q*fF r v (v+d)<(Q-s)*fA r v (v+1)+s*fF r v (v+d):=by rw[AIV,AJr Q s<|fF r v<|v+d]at p1;clear Y;grind
  obtain⟨w1,w2⟩:=S.nB T (PZ U) U O t b B G Y (AGt pA) (AGt pB) (by unfold fF at *;clear Y;omega) (.inl (by unfold fF at *;clear Y;omega));have up:∀{x y:Int},x<=y->(Q-u)*x+u*y<=Q*y:=λh=>by have:=AG5 h<|Cp b;rw[AJr Q u]at this;rw[AJr]at *;lia
  have dn:∀{x y:Int},x<=y->(Q-u)*y+u*x<=Q*y:=λh=>by have:=AG5 h t;rw[AJr];lia
  have f:Q*fF r v (v+d)<(Q-u)*fF r v (v+e)+u*fF r v (v+e+1):=Y ▸ f;rcases AIn (fF r v<|v+e) (fF r v<|v+e+1)with hle|hle
  .have hR:=AJa (Int.lt_of_lt_of_le f<|up hle)<|AGt O;obtain⟨a,ib⟩:=w1<|AIK F<|AGt hR;rw[<-GU]at a ib hR;exact mi (e+1) U U a ib hR
  .have hR:=AJa (Int.lt_of_lt_of_le f<|dn hle)<|AGt O;obtain⟨a,ib⟩:=w2<|AIK F<|AGt hR;exact mi e (Cf e0 n1) P a ib hR
end
section
variable{r:List Pt}(S:Sm r)
include S
set_option maxHeartbeats 1000000 in
theorem Sm.rf(h4:4<=r.length)(y:0<fA r v (v+1))(Y:∀e:Int,2<=e->e<=r.length-2->¬ (0<=fA r v (v+e)/\0<=fB r v (v+e)/\0<=fF r v (v+e))):Line r (v-1)<|v+1:=by
 have em:v-1+1=v:=Dt;have ew:v+1-1=v:=JP;have e2:AA r (v+(r.length-2))=AA r (v-1-1):=by rw[show v+((r.length:Int)-2)=v-1-1+r.length by lia,K2]
 obtain⟨vA,O,_,wB,wF,D,_,p⟩:=fG r v;have seg:∀e:Int,2<=e->e<=r.length-2->¬ At (AA r<|v-1) (AA r<|v+1) (AA r<|v+e):=λe a b c=>Y e a b ⟨Ig c (Sk O)<|AGt y,Ig c (AGt (show 0<fB r v (v-1)by rw[p];exact y))<|Sk wB,Ig c (Sk D)<|Sk wF⟩;have gI:(AA r<|v+1)≠(AA r<|v-1):=S.ne (by rw[show v+1-(v-1)=2 by lia];exact KY PY U);have t1:v-1-1+1=v-1:=Dt;have uu:AA r (v-1-1)≠(AA r<|v-1):=λc=>S.st (v-1-1) (by rw[t1,c]);have c3:(v+1-(v-1-1))%(r.length)=3:=by rw[show v+1-(v-1-1)=3 by lia,AGn U U]
 have c2:(v-1-(v+1))%(r.length)=r.length-2:=by rw[show v-1-(v+1) = -2 by lia,C5 PY U]
 refine⟨⟨MM (by right;lia),?_,J2 uu gI (by rw[<-e2];exact seg _ U U) λc=>S.s.FT (m:=v+1) (j:=v-1-1) (by intro h;lia) (by intro h;lia) (by rw[t1];exact Kz c),J2 (S.st _) gI.symm (λc=>seg 2 U U (by rw[show v+2=v+1+1 by lia];exact Kz c))<|S.s.FT (m:=v-1) (j:=v+1) AGi AGi,?_,λk B G C E h=>?_⟩,?_⟩
 .rw[em];exact MS (u:=(AA r v)) (by rw[DR];exact Int.neg_ne_zero.mpr<|FO y)
 .rw[ew];exact MS (u:=(AA r v)) (v:=(AA r<|v+1)) (w:=(AA r<|v-1)) (by rw[Bs];exact FO y)
 .obtain⟨e,e0,e1,c0,c1,ex⟩:=S.jo v k;rw[ex]at B G C E;rw[c0,c1]at h;have n1:e≠r.length-1:=λc=>B (by rw[show v-1-(v+e)=r.length*(-1)by lia,AIp]);have n2:e≠r.length-2:=λc=>G (by rw[show v-1-(v+e)=1+r.length*(-1)by lia,AH7,AGn DH U]);have n3:e≠1:=λc=>C (by rw[c,AHu];rfl);have n4:e≠0:=λc=>E (by rw[c,show v+1-(v+0)=1 by lia,AGn DH U]);clear B G C E ex;obtain⟨Q,s,u,hQ,H,s1,Z,F,I,n⟩:=h;have sA:_=(Q-u)*fA r v (v+e)+u*fA r v (v+e+1):=Lm I n;have sB:_=(Q-u)*fB r v (v+e)+u*fB r v (v+e+1):=Lm I n;have f:_=(Q-u)*fF r v (v+e)+u*fF r v (v+e+1):=Lm I n;rw[show AE (AA r<|v-1) (AA r v) (AA r<|v-1)=0 from O,AHv,AHW]at sA;rw[show AE (AA r v) (AA r<|v+1) (AA r<|v+1)=0 from wB,show AE (AA r v) (AA r<|v+1) (AA r<|v-1)=_ from p,AHv,AG9]at sB;rw[show AE (AA r<|v+1) (AA r<|v-1) (AA r<|v-1)=0 from D,show AE (AA r<|v+1) (AA r<|v-1) (AA r<|v+1)=0 from wF,AHv,AHv,AG9]at f;obtain⟨w1,w2⟩:=S.nB y U (by clear n2;lia) hQ Z F sA sB f (AGu H<|AGt y) (AGu (Cp s1)<|AGt y) (AHY 0)<|.inr ⟨n2,n3⟩;by_cases c:0<=fF r v (v+e+1)
  .have:=w1 c;rw[<-GU]at this c;exact Y (e+1) U U ⟨this.1,this.2,c⟩
  .have z:0<=fF r v (v+e):=AKI.mp λz=>by
    have m1:=AGu (Cp F) (U:0<=-fF r v (v+e));have x:=AGu Z (U:0<=-fF r v (v+e+1));rw[AJD]at m1 x;by_cases cu:u=0
    .have:=AG1 hQ<|Pa z;rw[cu,AJh,AHf,AG9]at f;rw[AJD]at this;lia
    .have:=AG1 (Cf Z cu)<|yJ c;rw[AJD]at this;clear x;lia
   have:=w2 z;exact Y e U U ⟨this.1,this.2,z⟩
 .unfold Ge IS;rw[em];by_cases c:AE (AA r<|v-1-1) (AA r<|v-1) (AA r v)>0
  .refine .inl ⟨c,y,AI8.mp λcn=>?_⟩;have aT:0<fA r v (v-1-1):=by unfold fA;rw[Bs<|AA r<|v-1-1];exact c
   have fT:0<=fF r v (v-1-1):=by unfold fF;rw[lU];omega
   have bT:¬ 0<=fB r v (v-1-1):=λb=>Y (r.length-2) U U (by delta fA fB fF at *;rw[e2];exact⟨AGt aT,b,fT⟩);unfold fA at aT y O p;unfold fB at bT p;unfold fF at fT D;have m1:=AGu (AGt y) fT;have x:=AGu (AGt y)<|AGt aT;obtain⟨q,s,t,hq,H,s1,Z,F,f1,f2,_,_⟩:=Vx (AGf:=(AA r v)) (V:=(AA r<|v+1)) (W:=(AA r<|v-1)) (P:=(AA r<|v-1)) (R:=AA r<|v-1-1) (Q:=1) (T:=0) (ax:=AE (AA r<|v-1) (AA r v)<|AA r<|v+1) (bx:=0) (fx:=0) HF Bi DH (by rw[Bs];exact y) (by rw[p];lia) (by rw[D];lia) (by rw[O];lia) (AGt y) AGi AGi AGi;have:=S.s.share (i:=v-1-1) (j:=v) (s:=q-s) (by rw[show v-1-1-v = -2 by clear y;lia,C5 PY U];lia) hq AGg (Lf H) Z F (by rw[t1,<-f1];grind) (by rw[t1,<-f2];grind);rw[show v-1-1-v = -2 by lia,C5 PY U,show v-(v-1-1)=2 by lia,AGn U U]at this;lia
  .exact .inr ⟨c,.inl y⟩
theorem Sm.diag(y:4<=r.length):∃(s:Int)(l:Nat),2<=l/\l+2<=r.length/\Line r s (s+l):=by
 obtain⟨v,u⟩:=S.low;have q:0<fA r v (v+1):=S.conv u;by_cases c:∃k:Nat,k<r.length/\(2<=k/\k+2<=r.length/\0<=fA r v (v+k)/\0<=fB r v (v+k)/\0<=fF r v (v+k))
 .obtain⟨m,hm,⟨p,hn,a,b,f⟩,mx⟩:=jQ _ (λk:Nat=>fF r v<|v+k) r.length c;refine⟨v,m,p,hn,S.rZ q U (by clear hm;lia) a b f λe Z Y ea Q O=>?_⟩;have:=mx e.toNat AGg;rw[AHB U]at this;exact this ⟨AGg,AGg,ea,Q,O⟩
 .refine⟨v-1,2,U,y,?_⟩;rw[show v-1+((2:Nat):Int)=v+1 by lia];refine S.rf y q λe Z Y z=>c ⟨e.toNat,AGg,U,U,?_⟩;rw[AHB U];exact z
end
theorem Yt(S:Sm t)(h:t.length=3)(v:Int):0<AE (AA t v) (AA t<|v+1) (AA t<|v+2):=by
 obtain⟨m,hm⟩:=S.low;have c:=S.conv hm;have z:∀{a b:Int},(a-b)%3=0->AA t a=AA t b:=λe=>Ao (by rw[h];exact e);have d:(v-(m-1))%3=0\/(v-m)%3=0\/(v-(m+1))%3=0:=U
 rcases d with d|d|d
 .rw[z d,z (a:=v+1) (b:=m) U,z (a:=v+2) (b:=m+1) U];exact c
 .rw[z d,z (a:=v+1) (b:=m+1) U,z (a:=v+2) (b:=m-1) U,Bs];exact c
 .rw[z d,z (a:=v+1) (b:=m-1) U,z (a:=v+2) (b:=m) U,<-Bs];exact c
theorem Sm.Ie:∀(n:Nat){r:List Pt},r.length=n->Sm r->0<CP r:=by
 intro n
 induction n using Nat.strongRecOn with
 |ind n ih=>
  intro r hn S;have h3:=S.s.l3;by_cases c3:r.length=3
  .have t:=Yt S c3 0;rw[U4 r<|AA r 0,c3];show 0<0+AE _ (AA r 0) (AA r 1)+AE _ (AA r 1) (AA r 2)+AE _ (AA r 2) (AA r 3);rw[Bs (AA r 1) (AA r 0)<|AA r 0,(Dh _ _).2,Ao (i:=3) (j:=0) (by rw[c3];rfl),(Dh _ _).1,AG9,AHW,AHW];exact t
  .obtain⟨s,l,z,ln,L⟩:=S.diag U;have a:=ih (l+1) U (sub_len r s l)<|IJ S z ln L;have b:=ih (r.length-l+1) U (sub_len r (s+l)<|r.length-l)<|IJ S U U<|TH S z ln L;have:CP r=CP (sub r s l)+CP (sub r (s+l)<|r.length-l):=ZE VO U U;lia
theorem A4.qK(S:A4 r)(ar:0<CP r)(g:∀i j:Int,yy r i=yy r j->(i-j)%(r.length)=0)(Z:Aj r h j≠0):cc r h j=1:=by
 have h3:=S.l3;have p:r.reverse.length=r.length:=AJW;have hc:=λi=>Qy (r:=r) (Bn h3) i;have y:∀k:Int,-1-(k+1) = -2-k:=λk=>U
 have v:∀k:Int,-2-k+1 = -1-k:=λk=>U
 have Y:=S7 S g;rcases S.OB Y Z with c|c
 .have g':∀i j:Int,yy r.reverse i=yy r.reverse j->(i-j)%(r.reverse.length)=0:=λi j e=>by unfold yy at e;rw[hc,hc]at e;have:=F2<|g _ _ e;rw[show -1-j-(-1-i)=i-j by lia]at this;rw[p];exact this
  have Q:A4 r.reverse:=by
   refine⟨by rw[p];exact h3,λk=>?_,λi j f z=>?_⟩
   .have:=S.fork (-2-(k+1));rw[v,y,v]at this;rw[hc,hc,hc,y,y];exact this.symm
   .rw[p]at f;rw[hc,hc,hc,hc,y,y]at z;refine S.apart (-2-i) (-2-j) ?_ ?_
    .rw[show -2-i-(-2-j) = -(i-j)by lia];exact f.neg<|KS h3
    .rw[v,v];exact NS (NS z.symm).symm
  have C:∀{h j:Int},Aj r.reverse h j≠0->cc r.reverse h j=1:=λ{H i} hi=>by
   have u:=FX hi;unfold yy at u;rw[hc,hc,y]at u;have O:Aj r H (-2-i)≠0:=Dx (by rw[v];exact u.symm);have k:=S.Qn Y O Z;rw[c]at k;have q:RQ r.reverse H (AA r (-2-i)) (AA r (-1-i)) = - RQ r H (AA r (-2-i)) (AA r (-1-i)):=UD (mU H _ _)<|Bn h3;unfold cc at k ⊢;rw[show Rr r.reverse H i=RQ r.reverse H (AA r.reverse i) (AA r.reverse<|i+1)from rfl,hc,hc,y,Us,q];rw[show Rr r H (-2-i)=RQ r H (AA r (-2-i)) (AA r (-2-i+1))from rfl]at k;unfold yy at *
   rw[v]at k;rw[hc,hc,y];rcases u with z|z
   .rw[BB U]at k;rw[BS U];lia
   .rw[BS U]at k;rw[BB U];lia
  have a:=Sm.Ie _ rfl ⟨Q,C,g'⟩;have b:CP r.reverse = - CP r:=UD VO<|Bn h3;lia
 .exact c
theorem Rm.sm(R:Rm r):∃k:Int,Sm<|r.map<|lean k:=by have S:=R.simple;have h0:=Bn S.l3;obtain⟨k,_,g⟩:=i5 S (0,0);exact⟨k,S.lean k,(S.lean k).qK (by rw[U3 (d:=1) h0 λa b c=>by rw[Ll,AIl],AIl];exact R.Ie) g,g⟩
def pr(a b p:Pt):Bool:=((decide (a.2>p.2)) != (decide (b.2>p.2)))&&(if decide (b.2>p.2)=true then decide (AE a b p>0)else decide (AE a b p<0))
theorem ABE(a b p:Pt):(pr a b p=true/\(fw a b p=1\/fw a b p = -1))\/(pr a b p=false/\fw a b p=0):=by unfold pr fw;by_cases h1:a.2>p.2<;>by_cases z:b.2>p.2<;>by_cases h3:AE a b p>0<;>by_cases y:AE a b p<0<;>simp[h1,z,h3,y]<;>grind
theorem jt(r:List Pt)(p:Pt):∀n:Nat,(((List.range n).filter λk:Nat=>pr (AA r k) (AA r<|(k:Int)+1) p).length:Int)%2=Af (λj=>fw (AA r j) (AA r<|j+1) p) n%2
 |0=>rfl
 |n+1=>by
  have ih:=jt r p n;rw[AIT,List.filter_append,AHC,Af];rcases ABE (AA r (n:Int)) (AA r<|(n:Int)+1) p with⟨a,b⟩|⟨a,b⟩
  .have:([n].filter λk:Nat=>pr (AA r k) (AA r<|(k:Int)+1) p).length=1:=by simp[a]
   rw[this];lia
  .have:([n].filter λk:Nat=>pr (AA r k) (AA r<|(k:Int)+1) p).length=0:=by simp[a]
   rw[this,b];lia
theorem A4.jr(S:A4 r)(hp:∀j:Int,¬ At (AA r j) (AA r<|j+1) p):(((List.range r.length).filter λk:Nat=>pr (AA r k) (AA r<|(k:Int)+1) p).length:Int)%2=1↔W r p≠0:=by
 rw[jt];have:=S.oa p;unfold W at *
 constructor<;>lia
def Sd(r:List Pt)(i j:Int):Bool:=(List.range r.length).any λk=>((!((k:Int)==i||(k:Int)==j))&&Ab (AA r i) (AA r j) (AA r k))||(((!((k:Int)==i||(k:Int)==j))&&(!(((k:Int)+1)%(r.length:Int)==i||((k:Int)+1)%(r.length:Int)==j)))&&BH (AA r i) (AA r j) (AA r k) (AA r<|((k:Int)+1)%(r.length:Int)))
theorem M8{n i k:Int}(hi:0<=i)(C2:i<n)(hk:0<=k)(BL:k<n):(i-k)%n=0↔k=i:=by
 constructor
 .intro h;have e:(i-k)=n*((i-k) / n):=by have:=AIR (i-k) n;lia
  have h1:(i-k) / n=0:=by
   have a:(i-k) / n<1:=by apply Int.ediv_lt_of_lt_mul U;lia
   have b : -1<(i-k) / n:=by
    by_cases c : -1<(i-k) / n
    .exact c
    .exfalso;have z:((i-k) / n+1)<=0:=U
     have h3:((i-k) / n+1)*n<=0:=AJm z U;lia
   lia
  rw[h1]at e;lia
 .rintro rfl;simp
theorem S3{n i k:Int}(hn:2<=n)(hi:0<=i)(z:i<n):(i-k)%n=1↔(k+1)%n=i:=by
 constructor
 .intro h;have:(i-(k+1))%n=0:=by rw[show i-(k+1)=(i-k)-1 by lia,AH3,h];simp
  have e:(k+1)%n=i%n:=by rw[show k+1=i-(i-(k+1))by lia,AH3,‹(i-(k+1))%n=0›];simp
  rw[e,AGn hi z]
 .intro h;have:(i-k)%n=((k+1)%n-k)%n:=by rw[h]
  rw[this,AH3,AHO _<|AH2 n,<-AH3,show k+1-k=1 by lia,AGn DH U]
section
variable{r:List Pt}(S:A4 r)
include S
theorem Probe.clear(p:Probe r i j)(a:AA r i≠AA r k)(b:AA r i≠AA r (k+1))(c:AA r j≠AA r k)(d:AA r j≠AA r (k+1)):Az (AA r i) (AA r j) (AA r k) (AA r<|k+1)=false:=
 AIg.mpr λm=>p.nt k (λz=>a<|Ao z) (λz=>b (S.next z).1) (λz=>c<|Ao z) (λz=>d (S.next z).1)<|YS m
theorem iy(FC:∀k:Int,AE (AA r k) (AA r<|k+1) (AA r<|k+1+1)≠0){i j:Int}(hi:0<=i)(y:i<r.length)(q:0<=j)(v:j<r.length)(Y:CK r.length<|i-j):Sd r i j=false↔Probe r i j:=by
 have h3:=S.l3;have hn:(0:Int)<r.length:=JQ h3;unfold Sd;rw[AIP];constructor
 .intro h;refine ABF S FC Y λk a b c d hs=>?_;have k0:=AHE k (b:=(r.length))<|Lh h3;have k1:=AG4 k hn;have hc:=AHB k0;have u:=h (k%(r.length)).toNat<|AGq.mpr U;rw[hc]at u;apply u;have Q:∀x:Int,(x-k%(r.length))%(r.length)=(x-k)%(r.length):=λx=>by rw[AH3,AHO _<|AH2 _,<-AH3]
  have O:=Er r k;have P:AA r ((k%(r.length)+1)%(r.length))=AA r (k+1):=by rw[Er,<-Er r<|k%(r.length)+1,<-Er r<|k+1,AIL,AHO _<|AH2 _,<-AIL]
  rw[<-Q]at a b c d;have D:=λz=>a<|(M8 hi y k0 k1).mpr z;have F:=λz=>c<|(M8 q v k0 k1).mpr z;have R:=λz=>b<|(S3 U hi y).mpr z;have B:=λz=>d<|(S3 U q v).mpr z;rw[AHs];right;rw[O,P,Su,jS hs,AHG.mpr D,AHG.mpr R,AHG.mpr F,AHG.mpr B]
  rfl
 .intro p k u;have Z:=AGq.mp u;intro h;rw[AHs]at h;rcases h with h|h
  .simp only[AGx,AHZ,AHe,AHG]at h;obtain⟨⟨a,b⟩,c⟩:=h;exact p.NY S (λz=>a<|(M8 hi y Bj<|Ce Z).mp z) (λz=>b<|(M8 q v Bj<|Ce Z).mp z)<|JX.mp<|EL.mp c
  .simp only[AGx,AHZ,AHe,AHG]at h;obtain⟨⟨⟨a,b⟩,c,d⟩,e⟩:=h;rw[Su,Er]at e;exact p.nt k (λz=>a<|(M8 hi y Bj<|Ce Z).mp z) (λz=>c<|(S3 U hi y).mp z) (λz=>b<|(M8 q v Bj<|Ce Z).mp z) (λz=>d<|(S3 U q v).mp z)<|YS e
theorem A4.dbl:A4<|r.map dbl:=S.map (λh s t hs v z y=>by unfold AI.dbl at z y;exact h s t hs v AGg AGg) λ⟨q,s,t,u,p,Z,Y,Q,z,y⟩=>by unfold AI.dbl at z y;exact⟨q,s,t,u,p,Z,Y,Q,AGg,AGg⟩
end
def Ee(w:List Pt)(p:Pt):Bool:=!((List.range w.length).any λk=>Ab (AA w k) (AA w<|(k:Int)+1) p)&&((((List.range w.length).filter λk:Nat=>pr (AA w k) (AA w<|(k:Int)+1) p).length:Int)%2==1)
def Qr(AGf A V B:Pt):Bool:=if AE AGf A V>0 then decide (AE A V B>0)&&decide (AE AGf A B>0)else decide (AE A V B>0)||decide (AE AGf A B>0)
theorem aA:Qr AGf A V B=true↔Ge AGf A V B:=by
 unfold Qr Ge IS;by_cases h:AE AGf A V>0
 .simp[h]
 .simp[h]
theorem Probe.yd(S:A4 r)(p:Probe r i j)(h:W (r.map dbl) ((AA r i).1+(AA r j).1,(AA r i).2+(AA r j).2)≠0):Ee (r.map dbl) ((AA r i).1+(AA r j).1,(AA r i).2+(AA r j).2)=true:=by
 have hn:=Bn S.l3;have off:∀k:Int,¬ At (AA (r.map dbl) k) (AA (r.map dbl)<|k+1) ((AA r i).1+(AA r j).1,(AA r i).2+(AA r j).2):=λk=>by rw[Hd hn,Hd hn];exact p.ye S k
 unfold Ee;rw[AGx,AIA,(S.dbl.jr off),AHZ,AIP];exact⟨λk _ z=>off k<|JX.mp<|EL.mp z,h⟩
theorem qv(r:List Pt)(k:Int):AA r (k%(r.length:Int)+1)=AA r (k+1):=by rw[<-Er r<|k%(r.length:Int)+1,<-Er r<|k+1,AIL,AHO _<|AH2 _,<-AIL]
set_option tactic.hygienic false
theorem ZY(hn:0<r.length)(g:Pt->Pt->Bool):((List.range r.length).any λk:Nat=>g (AA r k)<|AA r<|(k:Int)+1)=false↔∀j:Int,g (AA r j) (AA r<|j+1)=false:=by
 rw[AIP];constructor
 .intro h j;have k0:=AHE j (b:=(r.length:Int))<|IC hn;have k1:=AG4 j (b:=(r.length:Int))<|E3 hn;have hc:((j%(r.length:Int)).toNat:Int)=j%(r.length:Int):=AHB k0;have:=h (j%(r.length:Int)).toNat<|AGq.mpr U;rw[hc,Er,qv]at this;simpa using this
 .intro h k _;simp[h (k:Int)]
theorem Uz(hn:0<r.length)(g:Pt->Pt->Bool):((List.range r.length).any λk:Nat=>g (AA r<|(k:Int)-1)<|AA r k)=false↔∀j:Int,g (AA r j) (AA r<|j+1)=false:=by
 rw[AIP];constructor
 .intro h j;have k0:=AHE (j+1) (b:=(r.length:Int))<|IC hn;have k1:=AG4 (j+1) (b:=(r.length:Int))<|E3 hn;have hc:(((j+1)%(r.length:Int)).toNat:Int)=(j+1)%(r.length:Int):=AHB k0;have:=h ((j+1)%(r.length:Int)).toNat<|AGq.mpr U;have e:AA r ((j+1)%(r.length:Int)-1)=AA r j:=by rw[<-Er r<|(j+1)%(r.length:Int)-1,<-Er r j,AH3,AHO _<|AH2 _,<-AH3,show j+1-1=j from JP]
  rw[hc,e,Er]at this;simpa using this
 .intro h k _;have:=h<|(k:Int)-1;rw[show(k:Int)-1+1=k from Ph]at this;simp[this]
theorem oq(hn:0<r.length)(g:Pt->Pt->Bool):((List.range r.length).any λk:Nat=>g (AA r<|(k:Int)-1)<|AA r k)=((List.range r.length).any λk:Nat=>g (AA r k)<|AA r<|(k:Int)+1):=by
 have a:=ZY hn g;have b:=Uz hn g;cases h:((List.range r.length).any λk:Nat=>g (AA r k)<|AA r<|(k:Int)+1)with
 |false=>exact b.mpr<|a.mp h
 |true=>
  cases z:((List.range r.length).any λk:Nat=>g (AA r<|(k:Int)-1)<|AA r k)with
  |true=>rfl
  |false=>rw[a.mpr<|b.mp z]at h;cases h
theorem Yw{r:List Pt}(p:Pt):Af (λk=>fw (AA r<|k-1) (AA r k) p) r.length=W r p:=by
 unfold W;rw[<-Tj (λj=>fw (AA r j) (AA r<|j+1) p) r.length λi=>by show fw (AA r<|i+r.length) (AA r<|i+r.length+1) p=_;rw[EY,show i+(r.length:Int)+1=(i+1)+r.length by lia,EY]]
 exact DC λi _=>by show _=fw (AA r<|(i:Int)-1) (AA r<|(i:Int)-1+1) p;rw[show(i:Int)-1+1=i from Ph]
theorem jc(hx: -200<=x/\x<=200)(hy : -200<=y/\y<=200) : -40000<=x*y/\x*y<=40000:=by have h1:(x*y).natAbs=x.natAbs*y.natAbs:=Int.natAbs_mul x y;have h2:x.natAbs*y.natAbs<=200*200:=Nat.mul_le_mul U U;lia
def Jn(r:List Pt)(i j:Int):Prop:=(i-j)%(r.length:Int)=1\/(j-i)%(r.length:Int)=1\/Line r i j
theorem Jn.congr(hi:(i-i')%(r.length:Int)=0)(z:(j-y)%(r.length:Int)=0)(h:Jn r i j):Jn r i' y:=by
 have e:∀{a b c d:Int},(a-b)%(r.length:Int)=0->(c-d)%(r.length:Int)=0->(b-d)%(r.length:Int)=(a-c)%(r.length:Int):=λ{a b c d} h1 q=>by
  have h3:(a-c-(b-d))%(r.length:Int)=0:=by rw[show a-c-(b-d)=(a-b)-(c-d)by lia,AH3,h1,q];rfl
  exact(AIk.mpr h3).symm
 unfold Jn;rw[e hi z,e z hi];rcases h with h|h|h
 .exact .inl h
 .exact .inr<|.inl h
 .exact .inr<|.inr<|h.congr hi z
theorem Jn.symm(S:Sm r)(h:Jn r i j):Jn r j i:=by
 rcases h with h|h|h
 .exact .inr<|.inl h
 .exact .inl h
 .exact .inr<|.inr<|Line.symm S h
theorem M9(h:d%n=1)(h1: -n<d)(z:d<n):d=1\/d=1-n:=by
 by_cases c:0<=d
 .rw[AGn c z]at h;exact .inl h
 .have:=C5 (n:=n) (d:=-d) U U;rw[AJC]at this;right;lia
theorem jZ(hn:1<n):(1:Int)%n=1:=AGn DH hn
section
variable{r:List Pt}(S:Sm r){s:Int}{l:Nat}(l2:2<=l)(ln:l+2<=r.length)(L:Line r s (s+l))
include S l2 ln L
theorem SJ{a b:Int}(a0:0<=a)(z:a<=l)(y:0<=b)(b1:b<=l)(h:Jn (sub r s l) a b):Jn r (s+a)<|s+b:=by
 have h1:=jZ (n:=(r.length:Int)) U;rcases h with h|h|h
 .rw[Ek]at h;rcases M9 h U U with c|c
  .exact .inl (by rw[show s+a-(s+b)=1 by lia];exact h1)
  .refine .inr<|.inr ?_;rw[show a=0 by lia,show b=l by lia,AG9];exact L
 .rw[Ek]at h;rcases M9 h U U with c|c
  .exact .inr (.inl (by rw[show s+b-(s+a)=1 by lia];exact h1))
  .refine .inr<|.inr ?_;rw[show b=0 by lia,show a=l by lia,AG9];exact Line.symm S L
 .exact .inr<|.inr<|yC S l2 ln L a0 z y b1 h
theorem oy{e k:Int}(y:0<=e)(e1:e<l)(k1:(k-e)%((sub r s l).length:Int)≠0)(k2:(k-(e+1))%((sub r s l).length:Int)≠0)(p:Jn (sub r s l) e k)(Z:Jn (sub r s l) k<|e+1) : ∃k:Int,(k-(s+e))%(r.length:Int)≠0/\(k-(s+e+1))%(r.length:Int)≠0/\Jn r (s+e) k/\Jn r k (s+e+1):=by
 obtain⟨a,a0,q,ea⟩:=Kf r s l k;have z:∀x:Int,(x-x)%((sub r s l).length:Int)=0:=λx=>by rw[AHu];rfl
 have n1:a≠e:=λc=>k1 (by rw[<-c];exact ea);have n2:a≠e+1:=λc=>k2 (by rw[<-c];exact ea);have ne:∀{d:Int},d≠0->-(r.length:Int)<d->d<r.length->d%(r.length:Int)≠0:=λ{d} u v w c=>u<|Xf c v w;refine⟨s+a,ne U U U,ne U U U,SJ S l2 ln L y U a0 q<|p.congr (z e) ea,?_⟩;rw[show s+e+1=s+(e+1)by lia];exact SJ S l2 ln L a0 q (EK y) U<|Z.congr ea<|z _
end
theorem Sm.GH:∀(n:Nat){r:List Pt},r.length=n->Sm r->∀m:Int,∃k:Int,(k-m)%(r.length:Int)≠0/\(k-(m+1))%(r.length:Int)≠0/\Jn r m k/\Jn r k (m+1):=by
 intro n
 induction n using Nat.strongRecOn with
 |ind n ih=>
  intro r hn S m;have h3:=S.s.l3;by_cases c3:r.length=3
  .refine⟨m+2,?_,?_,.inl ?_,.inl ?_⟩
   .rw[show m+2-m=2 by lia,c3];decide
   .rw[show m+2-(m+1)=1 by lia,c3];decide
   .rw[show m-(m+2) = -2 by lia,c3];decide
   .rw[show m+2-(m+1)=1 by lia,c3];decide
  .obtain⟨s,l,y,ln,L⟩:=S.diag U;have q:∀(s:Int)(l:Nat),2<=l->l+2<=r.length->Line r s (s+l)->∀e:Int,0<=e->e<l->∃k:Int,(k-(s+e))%(r.length:Int)≠0/\(k-(s+e+1))%(r.length:Int)≠0/\Jn r (s+e) k/\Jn r k (s+e+1):=λs l y ln L e v Y=>by obtain⟨k,k1,k2,u,p⟩:=ih (l+1) U (r:=sub r s l) (sub_len r s l) (IJ S y ln L) e;exact oy S y ln L v Y k1 k2 u p
   obtain⟨e,v,Y,Z⟩:=S.norm s m;have z:∀x:Int,(x-x)%(r.length:Int)=0:=λx=>by rw[AHu];rfl
   have fin:(∃k:Int,(k-(s+e))%(r.length:Int)≠0/\(k-(s+e+1))%(r.length:Int)≠0/\Jn r (s+e) k/\Jn r k (s+e+1)):=by
    by_cases c:e<l
    .exact q s l y ln L e v c
    .have:=q (s+l) (r.length-l) U AGg (TH S y ln L) (e-l) U U;rw[show s+(l:Int)+(e-l)=s+e by lia]at this;exact this
   obtain⟨k,k1,k2,u,p⟩:=fin;have Q:=F2 Z;refine⟨k,λc=>k1<|Pl c Z,λc=>k2<|Pl c<|CH Z,u.congr Q<|z k,p.congr (z k)<|CH Q⟩
theorem Sm.ox(S:Sm r){i j:Int}(i0:0<=i)(ij:i+2<=j)(jn:j<r.length)(h:Line r i j\/(i=0/\j=r.length-1)):∃k:Int,i<k/\k<j/\Jn r i k/\Jn r k j:=by
 have h3:=S.s.l3;rcases h with L|⟨rfl,rfl⟩
 .have hf:=MN U L.1.Bl U U;have Z:i+(((j-i).toNat:Nat):Int)=j:=U
  have q:2<=(j-i).toNat:=U
  have ln:(j-i).toNat+2<=r.length:=U
  rw[<-Z]at L;obtain⟨k,k1,k2,v,u⟩:=Sm.GH _ rfl (IJ S q ln L) ((j-i).toNat:Int);obtain⟨a,a0,p,ea⟩:=Kf r i (j-i).toNat k;have z:∀x:Int,(x-x)%((sub r i (j-i).toNat).length:Int)=0:=λx=>by rw[AHu];rfl
  have y:(((j-i).toNat:Int)+1-0)%((sub r i (j-i).toNat).length:Int)=0:=by rw[(Ek r i (j-i).toNat),AJh,AIM]
  have P:a≠((j-i).toNat:Int):=λc=>k1 (by rw[<-c];exact ea);have Y:a≠0:=λc=>k2 (by subst c;exact Pl ea<|F2 y);have Q:=SJ S q ln L U Dd a0 p<|v.congr (z _) ea;have O:=SJ S q ln L a0 p Bi U<|u.congr ea y;rw[Z]at Q;rw[AG9]at O;exact⟨i+a,U,U,O.symm S,Q.symm S⟩
 .obtain⟨k,k1,k2,v,u⟩:=Sm.GH _ rfl S<|(r.length:Int)-1;obtain⟨a,a0,p,ea⟩:=S.norm 0 k;rw[AHW]at ea;have z:∀x:Int,(x-x)%(r.length:Int)=0:=λx=>by rw[AHu];rfl
  have y:((r.length:Int)-1+1-0)%(r.length:Int)=0:=by rw[show(r.length:Int)-1+1-0=r.length by lia,AIM]
  have P:a≠(r.length:Int)-1:=λc=>k1 (by rw[<-c];exact ea);have Y:a≠0:=λc=>k2 (by subst c;exact Pl ea<|F2 y);exact⟨a,Cf a0 Y,U,(u.congr ea y).symm S,(v.congr (z _) ea).symm S⟩
theorem PR(h0:0<r.length)(k i j:Int):Line (r.map<|lean k) i j↔Line r i j:=by
 have hc:∀m,AA (r.map<|lean k) m=lean k (AA r m):=λm=>Jo h0 k m;constructor<;>rintro⟨⟨z,y,p3,q,v,u⟩,c⟩
 .simp only[AGm,hc,V8,YQ,ZC]at *
  exact⟨⟨z,y,p3,q,v,u⟩,c⟩
 .refine⟨⟨?_,?_,?_,?_,?_,?_⟩,?_⟩<;>simp only[AGm,hc,V8,YQ,ZC]<;>assumption
theorem Rm.GH(R:Rm r){i j:Int}(z:0<=i)(u:i+2<=j)(jn:j<r.length)(h:Line r i j\/(i=0/\j=r.length-1)):∃k:Int,i<k/\k<j/\(k=i+1\/Line r i k)/\(j=k+1\/Line r k j):=by
 have h3:=R.l3;obtain⟨K,S⟩:=R.sm;have y:((r.map<|lean K).length:Int)=r.length:=by rw[AGm]
 obtain⟨k,k1,k2,q,v⟩:=S.ox z u (by rw[y];exact jn) (by rw[y,PR<|Bn h3];exact h);unfold Jn at q v;rw[y,PR U]at q v;refine⟨k,k1,k2,?_,?_⟩
 .rcases q with c|c|c
  .have:=M9 c U (by clear z h3 c;lia);right;lia
  .have:=M9 c (by clear z h3 c;lia) U;clear z u h3 c;left;lia
  .exact .inr c
 .rcases v with c|c|c
  .have:=M9 c U (by clear z h3 c;lia);right;lia
  .have:=M9 c (by clear z h3 c;lia) U;clear z h3 c;left;lia
  .exact .inr c
section
variable{r:List Pt}(S:Sm r){s:Int}{l:Nat}(l2:2<=l)(ln:l+2<=r.length)(L:Line r s (s+l))
include S l2 ln L
theorem XT{a b:Int}(R:b=0\/b=l)(hd:(2<=a-b/\a<l)\/(2<=b-a/\0<a))(p:Line r (s+a)<|s+b):Line (sub r s l) a b:=by
 have O:=Ek r s l;have a0:0<a:=by clear l2;lia
 have u:a<l:=U
 have b0:0<=b:=by clear hd;clear O;lia
 have b1:b<=l:=by clear hd;clear O;lia
 have fr:CK ((l:Int)+1)<|a-b:=MM AGg;clear hd;have v:∀{x y:Int},x≠y->0<=x->x<=l->0<=y->y<=l->(s+x-(s+y))%(r.length)≠0:=λh a b c d z=>h (by clear R a0 u;have:=Xf z U U;clear z;lia);have Y:=A1 r s l (JR a0)<|JU u;have H:AA (sub r s l) (a+1)=AA r (s+a+1):=by rw[A1 r s l U U,GU]
 have I:AA (sub r s l) (a-1)=AA r (s+a-1):=by rw[A1 r s l U U,PU]
 have q:=Line.symm S p;have B:CL (AA (sub r s l) b) (AA (sub r s l)<|b+1) (AA r<|s+a)/\CL (AA (sub r s l) b) (AA (sub r s l)<|b-1) (AA r<|s+a):=by
  rcases R with rfl|rfl
  .have e:AA (sub r s l) (0-1)=AA r (s+l):=by rw[Ao (j:=l) (by rw[O,show(0:Int)-1-l=((l)+1)*(-1)by lia,AIp]),A1 r s l Bj Dd]
   rw[e,A1 r s l Bi Bj,A1 r s l U U,GU];refine⟨q.1.f1,J2 (S.ne<|v U Bj Dd Bi Bj) (S.ne<|v U (JR a0) (JU u) Bi Bj) (q.1.NY S.s (v U Bi Bj Bj Dd)<|v U (JR a0) (JU u) Bj Dd) ?_⟩;rw[AG9];have h:=v (x:=0) (y:=a) U Bi Bj (JR a0)<|JU u;rw[AG9]at h;exact L.1.NY S.s h<|v U Bj Dd (JR a0)<|JU u
  .rw[HS,A1 r s l Bj Dd,A1 r s l U U,PU];have h:=v (x:=0) (y:=a) U Bi Bj (JR a0)<|JU u;have h':=v (x:=0) (y:=l) U Bi Bj Bj Dd;have t:=v (x:=l) (y:=0) U Bj Dd Bi Bj;have h3:=v (x:=a) (y:=0) U (JR a0) (JU u) Bi Bj;rw[AG9]at h h' t h3;exact⟨J2 (S.ne h') (S.ne<|v U (JR a0) (JU u) Bj Dd) (q.1.NY S.s t h3) λz=>L.1.NY S.s h (v U Bj Dd (JR a0)<|JU u)<|Kz z,q.1.f2⟩
 have Z:=A1 r s l b0 b1;rw[Z]at B;refine⟨⟨by rw[O];exact fr,?_,?_,?_,?_,λk P D F Q h=>?_⟩,?_⟩
 .rw[Y,H,Z];exact p.1.f1
 .rw[Y,I,Z];exact p.1.f2
 .rw[Y,Z];exact B.1
 .rw[Y,Z];exact B.2
 .obtain⟨m,f,m1,G⟩:=Kf r s l k;have ek:∀z:Int,(z-k)%((sub r s l).length)=(z-m)%((sub r s l).length):=λz=>by rw[show z-m=(z-k)+(k-m)from Pe,AIL,G,AG9,AHO _<|AH2 _]
  rw[ek]at P D F Q;clear q B;have T:=jZ (n:=(sub r s l).length) (by rw[O];lia);have n1:m≠a:=λc=>P (by rw[c,AHu];rfl);have n2:m≠a-1:=λc=>D (by rw[c,Si];exact T);have n3:m≠b:=λc=>F (by rw[c,AHu];rfl);have n4:m≠b-1:=λc=>Q (by rw[c,Si];exact T);have n5:m<l:=by
   by_cases c:b=0
   .have:m≠l:=λd=>Q (by rw[c,d,show(0:Int)-l=1+((sub r s l).length)*(-1)by lia,AH7];exact T);clear R P D F Q;lia
   .clear P D F Q;clear n4;lia
  clear R P D F Q;rw[Ao G,Ao<|CH G,Y,Z,A1 r s l f m1,A1 r s l (EK f) (by clear m1;lia),GU]at h;have md:∀{d:Int},d≠0->d≠1->-(l)<d->d<=l->d%(r.length)≠0/\d%(r.length)≠1:=λ{d} k1 k2 k3 k4=>by
   by_cases c:0<=d
   .rw[AGn c U];exact⟨k1,k2⟩
   .have:=C5 (n:=(r.length)) (d:=-d) U U;rw[AJC]at this;rw[this];constructor<;>lia
  have C:=md (d:=a-m) (Pb n1) U U U;have E:=md (d:=b-m) (Pb n3) U U U;rw[show a-m=s+a-(s+m)by lia]at C;rw[show b-m=s+b-(s+m)by lia]at E;exact p.1.nt (s+m) C.1 C.2 E.1 E.2 h
 .rw[Y,H,I,Z];exact p.2
end
theorem lT(a b p:Pt):AE b a p = - AE a b p:=by unfold AE;grind
theorem uJ(a b p:Pt):fw b a p = - fw a b p:=by
 unfold fw;rw[lT a b p];by_cases c:a.2<=p.2/\p.2<b.2
 .by_cases s:AE a b p>0
  .rw[AGp U,AGo U,AGo U,AGp U];rfl
  .rw[AGp U,AGp U,AGp U,AGp U];rfl
 .by_cases d:b.2<=p.2/\p.2<a.2
  .by_cases s:AE a b p<0
   .rw[AGo U,AGp U,AGp U,AGo U];rfl
   .rw[AGp U,AGp U,AGp U,AGp U];rfl
  .rw[AGp U,AGp U,AGp U,AGp U];rfl
theorem pn{s x:Int}(h:x<=0):(0<=s->s*x<=0)/\(s<=0->0<=s*x)/\(0<s->x<0->s*x<0):=⟨λa=>AHQ a h,λa=>AIu a h,λa b=>AIw a b⟩
theorem pp{s x:Int}(h:0<x):(0<s->0<s*x)/\(s<0->s*x<0)/\(s=0->s*x=0):=⟨λa=>AG1 a h,λa=>AKJ a h,λa=>by rw[a,AHf]⟩
noncomputable def f3(x y s:Int):Int:=(if x<=0/\0<y/\s>0 then 1 else 0)-(if y<=0/\0<x/\s<0 then 1 else 0)
theorem Ey(a b p:Pt):fw a b p=f3 (a.2-p.2) (b.2-p.2) (AE a b p):=by
 unfold fw f3
 congr 1<;>congr 1<;>exact propext ⟨λh=>by and_intros<;>lia,λh=>by and_intros<;>lia⟩
theorem Hi(h:(x<=0/\y<=0)\/(0<x/\0<y)):f3 x y s=0:=by unfold f3;rw[AGp U,AGp U];rfl
theorem Vz(h:x<=0/\0<y):(0<s/\f3 x y s=1)\/(s<=0/\f3 x y s=0):=by
 unfold f3;rw[AGp (c:=y<=0/\0<x/\s<0) AGi];by_cases c:0<s
 .rw[AGo (by and_intros<;>lia)];exact .inl ⟨c,rfl⟩
 .rw[AGp AGi];exact .inr ⟨yK c,rfl⟩
theorem Vy(h:y<=0/\0<x):(s<0/\f3 x y s = -1)\/(0<=s/\f3 x y s=0):=by
 unfold f3;rw[AGp U];by_cases c:s<0
 .rw[AGo U];exact .inl ⟨c,rfl⟩
 .rw[AGp U];exact .inr ⟨Pc c,rfl⟩
def Cn(w s1 s2 z:Int):Prop:=0<=w/\(0<s1->0<s2->0<z->w=1)/\(0<w->0<=s1/\0<=s2/\0<=z)
theorem VI{x y z s1 s2 q:Int}(hs:0<s1+s2+q)(e:s2*x+q*y+s1*z=0)(v:x<=0)(u:0<y)(p:z<=0):Cn (f3 x y s1+f3 y z s2+f3 z x q) s1 s2 q:=by
 rw[Hi <|.inl ⟨p,v⟩];have a:=pn (s:=s2) v;have b:=pp (s:=q) u;have c:=pn (s:=s1) p;generalize s2*x=P at *
 generalize q*y=Q at *
 generalize s1*z=R at *
 unfold Cn;rcases Vz ⟨v,u⟩with⟨h1,f1⟩|⟨h1,f1⟩<;>rcases Vy ⟨p,u⟩with⟨Z,f2⟩|⟨Z,f2⟩<;>rw[f1,f2]<;>lia
theorem VJ{x y z s1 s2 q:Int}(hs:0<s1+s2+q)(e:s2*x+q*y+s1*z=0)(v:x<=0)(u:0<y)(p:0<z):Cn (f3 x y s1+f3 y z s2+f3 z x q) s1 s2 q:=by
 rw[Hi <|.inr ⟨u,p⟩];have a:=pn (s:=s2) v;have b:=pp (s:=q) u;have c:=pp (s:=s1) p;generalize s2*x=P at *
 generalize q*y=Q at *
 generalize s1*z=R at *
 unfold Cn;rcases Vz ⟨v,u⟩with⟨h1,f1⟩|⟨h1,f1⟩<;>rcases Vy ⟨v,p⟩with⟨Z,f2⟩|⟨Z,f2⟩<;>rw[f1,f2]<;>lia
theorem Cn.FW(h:Cn w s2 y s1)(e:z=w):Cn z s1 s2 y:=by
 unfold Cn at *
 exact⟨by cases h;lia,λa b c=>e.trans<|h.2.1 b c a,λa=>have:=h.2.2 AGi;⟨this.2.2,this.1,this.2.1⟩⟩
theorem Qq(hs:0<s1+s2+q)(e:s2*x+q*y+s1*z=0)(Ax:¬(x=0/\y=0/\z=0)):Cn (f3 x y s1+f3 y z s2+f3 z x q) s1 s2 q:=by
 by_cases v:x<=0<;>by_cases u:y<=0<;>by_cases p:z<=0
 .rw[Hi<|.inl ⟨v,u⟩,Hi<|.inl ⟨u,p⟩,Hi<|.inl ⟨p,v⟩];have a:=pn (s:=s2) v;have b:=pn (s:=q) u;have c:=pn (s:=s1) p;generalize s2*x=P at *
  generalize q*y=Q at *
  generalize s1*z=R at *
  unfold Cn;lia
 .exact((VI (y:=z) U U u U v).FW U)
 .exact VI hs e v U p
 .exact VJ hs e v U U
 .exact(Cn.FW (Cn.FW (VI (y:=x) U U p U u) rfl) U)
 .exact((VJ (y:=z) (z:=x) U U u U U).FW U)
 .exact(Cn.FW (Cn.FW (VJ (y:=x) (z:=y) U U p U U) rfl) U)
 .rw[Hi<|.inr ⟨U,U⟩,Hi<|.inr ⟨U,U⟩,Hi<|.inr ⟨U,U⟩];have a:=pp (s:=s2)<|AI8.mp v;have b:=pp (s:=q)<|AI8.mp u;have c:=pp (s:=s1)<|AI8.mp p;generalize s2*x=P at *
  generalize q*y=Q at *
  generalize s1*z=R at *
  unfold Cn;lia
def w3(a b c p:Pt):Int:=fw a b p+fw b c p+fw c a p
theorem T6(h:0<AE a b c)(p:Pt):Cn (w3 a b c p) (AE a b p) (AE b c p)<|AE c a p:=by
 obtain⟨y,_,e3⟩:=Ih a b c p;unfold w3;rw[Ey,Ey,Ey];refine Qq U ?_ λz=>?_
 .have:AE b c p*(a.2-p.2)+AE c a p*(b.2-p.2)+AE a b p*(c.2-p.2)=(AE b c p*a.2+AE c a p*b.2+AE a b p*c.2)-(AE a b p+AE b c p+AE c a p)*p.2:=AGg
  rw[this,y,<-e3,AHu]
 .have:AE a b c=0:=by unfold AE;grind
  lia
theorem RX:f3 x y 0=0:=by unfold f3;rw[AGp U,AGp U];rfl
theorem RW(h:x<=0/\0<y)(hs:0<s):f3 x y s=1:=by
 rcases Vz h with z|z
 .exact z.2
 .lia
theorem fD(h:y<=0/\0<x)(hs:0<s):f3 x y s=0:=by
 rcases Vy (s:=s) h with z|z
 .lia
 .exact z.2
theorem fE(hy:y<0)(q:0<x)(hs:0<s)(u:0<t):f3 y z s+f3 z x t=1:=by
 by_cases v:z<=0
 .rw[Hi<|.inl ⟨U,v⟩,RW ⟨v,q⟩ u];rfl
 .rw[RW ⟨U,U⟩ hs,Hi<|.inr ⟨U,q⟩];rfl
def IQ(a b p:Pt):Prop:=∃A B:Int,0<A/\0<B/\(A+B)*p.1=A*a.1+B*b.1/\(A+B)*p.2=A*a.2+B*b.2
theorem IQ.symm(h:IQ a b p):IQ b a p:=by obtain⟨A,B,z,y,q,v⟩:=h;exact⟨B,A,y,z,by rw[AKS,q,AKS],by rw[AKS,v,AKS]⟩
theorem AD1(z:(A+B)*p.1=A*a.1+B*b.1)(y:(A+B)*p.2=A*a.2+B*b.2)(u v:Pt):(A+B)*AE u v p=A*AE u v a+B*AE u v b:=by
 have:(A+B)*AE u v p=(v.1-u.1)*((A+B)*p.2)-(v.2-u.2)*((A+B)*p.1)-(A+B)*((v.1-u.1)*u.2-(v.2-u.2)*u.1):=by unfold AE;grind
 rw[this,z,y];unfold AE;grind
theorem VB(h0:AE a b p=0)(q:0<AE b c p)(v:0<AE c a p):IQ a b p:=by obtain⟨z,ex,y⟩:=Ih a b c p;rw[h0,AHf,AG9]at ex y;rw[h0,AHW]at z;exact⟨_,_,q,v,by rw[z,ex],by rw[z,y]⟩
theorem AFQ(h1:0<AE a b c)(Z:0<AE b a d)(E:IQ a b p):1<=w3 a b c p+w3 b a d p:=by
 obtain⟨A,B,D,F,b1,b2⟩:=E;have H:0<A+B:=U
 have R:=AD1 b1 b2;have h0:AE a b p=0:=by
  have:=R a b;rw[(Dh a b).1,(Dh a b).2]at this;rcases AHA.mp (U:(A+B)*AE a b p=0)with z|z
  .lia
  .exact z
 have pos:∀{u v:Pt},0<A*AE u v a+B*AE u v b->0<AE u v p:=λ{u v} q=>AIe (by rw[R];exact q) H;have Y:=pos (by rw[(Dh b c).1,Bs];have:=AG1 D h1;lia);have O:=pos (by rw[(Dh c a).2,Bs,Bs];have:=AG1 F h1;lia);have G:=pos (by rw[(Dh a d).1,Bs];have:=AG1 F Z;lia);have S:=pos (by rw[(Dh d b).2,Bs,Bs];have:=AG1 D Z;lia);have k1:=(T6 h1 p).1;have k2:=(T6 Z p).1;obtain⟨I,ex,T⟩:=Ih a b c p;rw[h0,AHf,AG9]at ex T;have e:AE b c p*(a.2-p.2)+AE c a p*(b.2-p.2)=0:=by
  have:AE b c p*(a.2-p.2)+AE c a p*(b.2-p.2)=(AE b c p*a.2+AE c a p*b.2)-(AE b c p+AE c a p)*p.2:=AGg
  rw[this,<-T,<-I,h0,AHW,AHu]
 have C:AE b a p=0:=by rw[lT,h0];rfl
 unfold w3 at *
 rw[Ey a b,Ey b c,Ey c a,h0,RX]at k1;rw[Ey b a,Ey a d,Ey d b,C,RX]at k2;rw[Ey a b,Ey b c,Ey c a,h0,RX,Ey b a,Ey a d,Ey d b,C,RX];have v1:=pp (s:=a.2-p.2) Y;have v2:=pp (s:=b.2-p.2) O;rw[AI1<|a.2-p.2,AI1<|b.2-p.2]at *
 have n:(a.2-p.2<0/\0<b.2-p.2)\/(b.2-p.2<0/\0<a.2-p.2)\/(a.2-p.2=0/\b.2-p.2=0):=by
  generalize AE b c p*(a.2-p.2)=P at *
  generalize AE c a p*(b.2-p.2)=Q at *
  lia
 rcases n with⟨x,y⟩|⟨y,x⟩|⟨x,y⟩
 .have:=fE (z:=d.2-p.2) x y G S;lia
 .have:=fE (z:=c.2-p.2) y x Y O;lia
 .have c1:AE a b c=(b.1-a.1)*(c.2-p.2):=by unfold AE;rw[show b.2-a.2=0 by lia,show c.2-a.2=c.2-p.2 by lia];grind
  have c2:AE b a d=(a.1-b.1)*(d.2-p.2):=by unfold AE;rw[show a.2-b.2=0 by lia,show d.2-b.2=d.2-p.2 by lia];grind
  rcases Int.lt_or_le 0 (c.2-p.2)with z|z
  .have:=RW (x:=b.2-p.2) ⟨U,z⟩ Y;have:=fD (y:=a.2-p.2) ⟨U,z⟩ O;lia
  .have DG:b.1-a.1<0:=AI8.mp λw=>by have:=AHQ w z;lia
   have hd:0<d.2-p.2:=AI8.mp λw=>by have:=AHQ (a:=a.1-b.1) U w;lia
   have:=RW (x:=a.2-p.2) ⟨U,hd⟩ G;have:=fD (y:=b.2-p.2) ⟨U,hd⟩ S;lia
set_option tactic.hygienic true
theorem Sm.dw(S:Sm Q)(h:Q.length=3\/Line Q (v-1) (v+1)):0<AE (AA Q<|v-1) (AA Q v) (AA Q<|v+1):=by
 have h3:=S.s.l3;rcases h with h|L
 .have:=Yt S h<|v-1;rw[show v-1+1=v from Dt,show v-1+2=v+1 by lia]at this;exact this
 .have n4:Q.length≠3:=λc=>by have:=L.1.Bl.2.1;rw[show v-1-(v+1) = -2 by clear L c;lia,c]at this;exact this rfl
  have e:v-1+((2:Nat):Int)=v+1:=U
  have t:=Yt (IJ S (s:=v-1) (l:=2) (AGy _) U (by rw[e];exact L)) (sub_len ..) 0;rw[A1 Q _ _ Bi U,A1 Q _ _ U U,A1 Q _ _ U U,AG9,show v-1+(0+1)=v by lia,show v-1+(0+2)=v+1 by lia]at t;exact t
theorem Zy(S:Sm P)(Z:P.length=m+d+1)(d0:0<d)(h1:m=1\/Line P m 0)(z:d=1\/Line P m (m+d)):0<AE (AA P 0) (AA P m) (AA P<|m+d):=by
 have q:(m+d - -1:Int)%P.length=0:=by rw[show(m+d - -1:Int)=P.length by lia];exact AIM
 have Bl:∀{a b:Int},Line P a b->-P.length<a-b->a-b<P.length->2<=a-b\/2<=b-a:=λL x y=>by have:=MN (by clear x y;clear z;lia) L.1.Bl x y;lia
 rw[Ao q,Bs];rcases h1 with rfl|h1
 .exact S.dw (v:=0)<|z.imp U λL=>(Line.symm S L).congr q rfl
 .have f:=Bl h1 U U;have o:=TH S (s:=0) (l:=m) U U (by rw[AHW];exact Line.symm S h1);rw[AHW,show P.length-m=d+1 by lia]at o;have Y:=IJ S U U o;have u:=Ek P m<|d+1;have p:((d:Int)+1+1-0)%((sub P m<|d+1).length)=0:=by rw[u];exact AIM
  have t:=Y.dw (v:=d+1) (z.imp (by rw[sub_len];lia) λL=>by have f:=Bl L U (by clear Z;lia);rw[JP];exact(XT S U U o (a:=d) (b:=0) (.inl rfl) (.inl U) (by rw[AG9];exact Line.symm S L)).congr (by rw[AHu];rfl) (F2 p))
  rw[JP,Ao p,A1 P m _ Bi (by clear u;lia),A1 P m _ U U,A1 P m _ (by clear u;lia) U,AG9,Ao q,Ao (i:=m+(d+1)) (j:=0) (by rw[show(m:Int)+(d+1)-0=P.length by lia];exact AIM)]at t;exact t
theorem Sm.VD(S:Sm r){i c j:Nat}(q:i<c)(z:c<j)(jn:j<r.length)(h:Line r i j\/(i=0/\j=r.length-1))(h1:c=i+1\/Line r i c)(v:j=c+1\/Line r c j):0<AE (AA r i) (AA r c) (AA r j):=by
 obtain⟨m,rfl⟩:=AKZ<|AIc q;obtain⟨d,rfl⟩:=AKZ<|AIc z;have Bl:∀{a b:Nat},Line r a b->a<b->b<r.length->a+2<=b/\b+2<=a+r.length:=λL x y=>by
  have:=MN (by clear jn;lia) L.1.Bl U (by clear jn;omega)
  grind
 rcases h with h|⟨rfl,e⟩
 .have f:=Bl h U jn;have SP:=IJ S (s:=i) (l:=m+d) U U (by rw[Int.natCast_add,<-AIi];exact h);have t:=Zy SP (m:=m) (d:=d) (sub_len ..) U (h1.imp U λL=>?_) (v.imp U λL=>?_)
  .rw[A1 r i _ Bi Bj,A1 r i _ Bj (by clear z;lia),A1 r i _ U U,AG9,<-AIi]at t;rw[Int.natCast_add,Int.natCast_add];exact t
  .have:=Bl L q (by clear z;lia);exact XT S U U (by rw[Int.natCast_add,<-AIi];exact h) (.inl rfl) (.inl (by clear q;lia)) (by rw[AG9];exact Line.symm S L)
  .have:=Bl L z jn;exact XT S AGg U (by rw[Int.natCast_add,<-AIi];exact h) (.inr U) (.inr (by clear z;lia)) (by rw[<-AIi];exact L)
 .rw[AI0]at *
  exact Zy S (by clear jn;lia) U (h1.imp_right<|Line.symm S)<|v.imp U id
theorem Rm.VD(R:Rm r)(z:i<c)(y:c<j)(jn:j<r.length)(h:Line r i j\/(i=0/\j=r.length-1))(h1:c=i+1\/Line r i c)(q:j=c+1\/Line r c j):0<AE (AA r i) (AA r c) (AA r j):=by have l3:=R.l3;obtain⟨k,S⟩:=R.sm;have t:=S.VD z y (by rw[AGm];exact jn) (by rw[PR<|Bn l3,AGm];exact h) (by rw[PR<|Bn l3];exact h1) (by rw[PR<|Bn l3];exact q);rw[Jo<|Bn l3,Jo<|Bn l3,Jo<|Bn l3,Ll]at t;exact t
end AI
namespace L2.EV
open L2.PL
abbrev Pt:=AI.Pt
noncomputable def pv(p:Pt):PV:=.tup [.int p.1,.int p.2]
def AN(r:List Pt):List PV:=r.map pv
noncomputable abbrev cB(b:Bool):Option RV:=some<|.cl<|.bl b
noncomputable abbrev cI(x:Int):Option RV:=some<|.cl<|.int x
noncomputable abbrev iM(a:PV):Option SV:=some<|.im a
noncomputable abbrev iI(x:Int):Option SV:=some<|.im<|.int x
abbrev iL(r:List Pt):Option SV:=some<|.im<|.lst<|AN r
theorem Bv(r:List Pt):(AN r).length=r.length:=AGm ..
def Bd(n:Int)(p:Pt):Prop:=-n<=p.1/\p.1<=n/\-n<=p.2/\p.2<=n
theorem Ff(h: -1000000<=i/\i<=1000000):Fb i j:=.inl ⟨AGi,AGi⟩
theorem EE(p:Pt):Am (.cl<|pv p) (.cl<|.int 0)=cI p.1:=rfl
theorem DB(p:Pt):Am (.cl<|pv p) (.cl<|.int 1)=cI p.2:=rfl
theorem KN(i j:Int):Bg (.cl<|.int i) (.cl<|.int j)=cB (i==j):=by simp[Bg,RV.any,Ag,PySem.SeqAt.shaped,PySem.PyData.canLay0,PySem.PyData.depth,PySem.PyData.eqv]
theorem GQ(i j:Int):CN (.cl<|.int i) (.cl<|.int j)=cB (!(i==j)):=by simp[CN,RV.any,Ag,PySem.SeqAt.shaped,PySem.PyData.canLay0,PySem.PyData.depth,PySem.PyData.eqv]
theorem xP(i j:Bool):Bg (.cl<|.bl i) (.cl<|.bl j)=cB (i==j):=by simp[Bg,RV.any,Ag,PySem.SeqAt.shaped,PySem.PyData.canLay0,PySem.PyData.depth,PySem.PyData.eqv]
theorem ik(i j:Bool):CN (.cl<|.bl i) (.cl<|.bl j)=cB (!(i==j)):=by simp[CN,RV.any,Ag,PySem.SeqAt.shaped,PySem.PyData.canLay0,PySem.PyData.depth,PySem.PyData.eqv]
theorem GO(i j:Int):CA (.cl<|.int i) (.cl<|.int j)=cB (decide (i<j)):=rfl
theorem Hz(i j:Int):CY (.cl<|.int i) (.cl<|.int j)=cB (decide (i<=j)):=rfl
theorem Fy(i j:Int):CS (.cl<|.int i) (.cl<|.int j)=cB (decide (j<i)):=rfl
theorem xR(i j:Int):SM (.cl<|.int i) (.cl<|.int j)=cB (decide (j<=i)):=rfl
theorem C3(i j:Int):BI (.cl<|.int i) (.cl<|.int j)=cI (i-j):=rfl
theorem Fv(i j:Int):Ay (.cl<|.int i) (.cl<|.int j)=cI (i+j):=rfl
theorem Fz(h:Fb i j):DN (.cl<|.int i) (.cl<|.int j)=cI (i*j):=by simp[DN,kI,h]
theorem EH{i j:Int}(h:0<j):BV (.cl<|.int i) (.cl<|.int j)=cI (i%j):=by simp[BV,kI,h]
theorem iU{i j:Int}(h:0<j)(z:j<1073741824):Cd (.cl<|.int i) (.cl<|.int j)=cI (i / j):=by simp[Cd,kI,Ng,h,z]
theorem EG(ps:List PV):Ds [.cl<|.lst ps]=cI ps.length:=rfl
theorem xU(ps:List PV):Ds [.bo ps]=cI ps.length:=rfl
theorem ig(ps:List PV):Ds [.fr ps]=cI ps.length:=rfl
theorem wq(i j:Int):(if j<i then j else i)=min i j:=AGg
theorem wo(i j:Int):(if j>i then j else i)=max i j:=U
theorem SS(i j:Int):IA [.cl<|.int i,.cl<|.int j]=cI (min i j):=by simp only[IA,wq]
theorem Mm(i j:Int):GP [.cl<|.int i,.cl<|.int j]=cI (max i j):=by simp only[GP,wo]
noncomputable def Dp(i:Int):Int:=if i<0 then -i else i
theorem O9(i:Int):Hy [.cl<|.int i]=cI (Dp i):=rfl
theorem ADa(n:Nat):NO 0 (n)=(List.range n).map λk:Nat=>PV.int<|k:=by apply AJX;intro k _;rw[show(0:Int)+(k)=k by lia]
theorem kx(i j:Int):NO i j=(List.range (j-i).toNat).map λk:Nat=>PV.int<|i+(k):=rfl
section
variable{α β:Type}{enc:α->PV}
theorem DF:∀{xs:List α},(∀x∈xs,∃z,g (enc x) q=some z/\t z=some (c x)/\(c x=true->∃r,fe z=some r/\r.clean=some (h x)))->collect g t fe q (xs.map enc)=some ((xs.filter c).map h)
 |[],_=>rfl
 |x::xs,H=>by
  have v:=DF λy u=>H y<|AGr _ u;obtain⟨z,p,Z,e3⟩:=H x AGw;rw[AGv];unfold collect;rw[p];dsimp only;rw[Z];cases hc:c x with
  |false=>
   dsimp only;rw[v,List.filter_cons_of_neg<|by simp[hc]]
  |true=>
   obtain⟨r,Y,Q⟩:=e3 hc;dsimp only;rw[Y];dsimp only;simp only[Q,v,List.filter_cons_of_pos hc,AGv]
theorem Fg{xs:List α}(H:∀x∈xs,∃z r,g (enc x) y=some z/\fe z=some r/\r.clean=some (h x)):collect g BP fe y (xs.map enc)=some (xs.map h):=by
 have:=DF (t:=BP) λx q=>by obtain⟨z,r,v,u,e3⟩:=H x q;exact⟨z,v,rfl,λ_=>⟨r,u,e3⟩⟩
 rw[this,AJY.mpr λ_ _=>rfl]
theorem HE(I:AS->Prop):∀{xs:List α}{ρ:AS},I ρ->(∀x∈xs,∀ρ,I ρ->∃z,gt (enc x) ρ=some z/\(c x=true->body z=some (.rt r))/\(c x=false->∃q,body z=some (.nx q)/\I q))->(xs.any c=true->C4 gt body (xs.map enc) ρ=some (.rt r))/\(xs.any c=false->∃ρ',C4 gt body (xs.map enc) ρ=some (.nx ρ')/\I ρ')
 |[],ρ,hI,_=>⟨λh=>by simp at h,λ_=>⟨ρ,rfl,hI⟩⟩
 |x::xs,ρ,hI,H=>by
  obtain⟨z,v,h1,u⟩:=H x AGw ρ hI;rw[AGv,AHj];unfold C4;rw[v];dsimp only;cases hc:c x with
  |true=>
   rw[h1 hc];exact⟨λ_=>rfl,λh=>by simp at h⟩
  |false=>
   obtain⟨q,p,Z⟩:=u hc;rw[p];exact HE I Z λy Y=>H y<|AGr _ Y
theorem XX(f:β->α->β)(R:β->AS->Prop):∀{xs:List α}{b:β}{ρ:AS},R b ρ->(∀x∈xs,∀b ρ,R b ρ->∃z q,gt (enc x) ρ=some z/\body z=some (.nx q)/\R (f b x) q)->∃ρ',C4 gt body (xs.map enc) ρ=some (.nx ρ')/\R (xs.foldl f b) ρ'
 |[],b,ρ,hR,_=>⟨ρ,rfl,hR⟩
 |x::xs,b,ρ,hR,H=>by obtain⟨z,q,v,u,p⟩:=H x AGw b ρ hR;rw[AGv];unfold C4;rw[v];dsimp only;rw[u];exact XX f R p λy Z=>H y<|AGr _ Z
end
theorem o5(r:List Pt)(i:Int)(h1 : -(r.length)<=i)(z:i<r.length):CD (AN r) i=some (pv<|AI.AA r i):=by
 delta CD GN
 rw[Bv];by_cases h0:0<=i
 .rw[AGo h0,AGo z];have hi:i.toNat<r.length:=U
  simp only[AHF,AN];unfold AI.AA;rw[AGn h0 z];simp[List.getD,AG8 hi]
 .rw[AGp h0,AGo h1];have hi:(i+r.length).toNat<r.length:=U
  simp only[AHF,AN];unfold AI.AA;rw[<-AKB i r.length,AGn U U];simp[List.getD,AG8 hi]
theorem Bz(r:List Pt)(i:Int)(h1 : -(r.length)<=i)(z:i<r.length):Am (.cl<|.lst<|AN r) (.cl<|.int i)=some (.cl<|pv<|AI.AA r i):=by show(CD (AN r) i).map _=_;rw[o5 r i h1 z];rfl
theorem Ql(bs:List Bool):GI (bs.map PV.bl)=some bs:=by
 induction bs with
 |nil=>rfl
 |cons b bs ih=>rw[AGv,GI,ih];rfl
theorem O5(bs:List Int):DA (bs.map PV.int)=some bs:=by
 induction bs with
 |nil=>rfl
 |cons b bs ih=>rw[AGv,DA,ih];rfl
open L2.PL L2.K
open AI (AE Ab Az AA M nb)
theorem Cz{r:List Pt}(hn:0<=n)(h:∀p∈r,Bd n p)(i:Int):Bd n<|AA r i:=by
 unfold AI.AA;simp only[List.getD];cases e:r[(i%(r.length)).toNat]? with
 |none=>exact⟨by simp;exact M4 hn,by simp;exact M4 hn,by simp;exact M4 hn,by simp;exact M4 hn⟩
 |some p=>exact h p<|AHx e
theorem BY{N n:Nat}(h:ps.length=n)(e:g (A7 N ps)=some (.rt r)):denote N n g ps=some r:=by unfold denote;rw[AGo h,e];rfl
theorem CI(e:f ρ=some (.cl p)):Aw f ρ=some (.rt<|.cl p):=by unfold Aw;rw[e]
theorem IH(e:f ρ=some (.fr p)):Aw f ρ=some (.rt<|.fr p):=by unfold Aw;rw[e]
theorem BO(e:g ρ=some rs)(h:k rs=some z):fB k g ρ=some z:=by unfold fB;rw[e];exact h
theorem AJ(e:f ρ=some x)(h:g ρ=some xs):AH f g ρ=some (x::xs):=by unfold AH;rw[e,h]
theorem AQ:AO ρ=some []:=rfl
theorem AL(ha:fa ρ=some x)(q:fb ρ=some y)(h:k x y=some z):f2 k fa fb ρ=some z:=by unfold f2;rw[ha];rw[q];exact h
theorem An(e:g ρ=some rs)(c:Ci rs=some ps)(h:F ps=some z):AW F g ρ=some z:=by unfold AW;rw[e];dsimp only;rw[c];exact h
theorem MJ(ha:f ρ=cB a)(z:a=true->g ρ=cB b):DX f g ρ=cB (a&&b):=by
 unfold DX;rw[ha];cases a
 .rfl
 .exact z rfl
theorem RT(ha:f ρ=cB a)(z:a=false->g ρ=cB b):Ex f g ρ=cB (a||b):=by
 unfold Ex;rw[ha];cases a
 .exact z rfl
 .rfl
theorem Al(ha:f ρ=cB a):AU f ρ=some a:=by unfold AU;rw[ha]
theorem D6(ha:f ρ=some a):CV f ρ=some (!a):=by unfold CV;rw[ha];rfl
theorem Iy(ha:f ρ=some a)(z:a=true->g ρ=some b):D8 f g ρ=some (a&&b):=by
 unfold D8;rw[ha];cases a
 .rfl
 .exact z rfl
theorem Eb(ha:f ρ=some a)(z:a=false->g ρ=some b):Cb f g ρ=some (a||b):=by
 unfold Cb;rw[ha];cases a
 .exact z rfl
 .rfl
theorem sq(e:g ρ=some (.nx ρ')):AM g h ρ=h ρ':=by unfold AM;rw[e]
theorem C7(e:g ρ=some (.rt r)):AM g h ρ=some (.rt r):=by unfold AM;rw[e]
theorem Aq(e:f ρ=some r)(c:r.clean=some p):Ac i f ρ=some (.nx<|ρ.set i<|iM p):=by unfold Ac;rw[e];dsimp only;rw[c]
theorem set_own(e:f ρ=some (.fr ps)):Ed i f ρ=some (.nx<|ρ.set i<|some<|.own ps):=by unfold Ed;rw[e]
theorem Bc(e:t ρ=some true):Au t g h ρ=g ρ:=by unfold Au;rw[e]
theorem BC(e:t ρ=some false):Au t g h ρ=h ρ:=by unfold Au;rw[e]
theorem Bu(e:its ρ=some xs):Bo its gt body ρ=C4 gt body xs ρ:=by unfold Bo;rw[e]
theorem L3(ha:Bd 1000 a)(hb:Bd 1000 b):IT [pv a,pv b,pv c]=cI (AE a b c):=by have h1:Fb (b.1-a.1)<|c.2-a.2:=Ff (by unfold Bd at *;omega);have z:Fb (b.2-a.2)<|c.1-a.1:=Ff (by unfold Bd at *;omega);simp[IT,denote,bF,A7,Aw,f2,AG,fC,EE,DB,BI,kI,DN,h1,z,Out.val,AE]
def pw(a b:Pt):PV:=.tup [pv a,pv b]
theorem LZ(a b:Pt):Am (.cl<|pw a b) (.cl<|.int 0)=some (.cl<|pv a):=rfl
theorem La(a b:Pt):Am (.cl<|pw a b) (.cl<|.int 1)=some (.cl<|pv b):=rfl
theorem Nm(ha:Bd 1000 a)(q:Bd 1000 b):HX [pv c,pw a b]=cB (Ab a b c):=by
 have y:=L3 (c:=c) ha q;have v:Ab a b c=(decide (AE a b c=0)&&((decide (min a.1 b.1<=c.1)&&decide (c.1<=max a.1 b.1))&&(decide (min a.2 b.2<=c.2)&&decide (c.2<=max a.2 b.2)))):=by simp only[Ab,AJb,AJb]
 rw[v];have e3:(!(AE a b c==0)) = !(decide (AE a b c=0)):=rfl;have u:=Hz (min a.1 b.1) c.1;have p:=Hz c.1<|max a.1 b.1;have Z:=Hz (min a.2 b.2) c.2;have Y:=Hz c.2<|max a.2 b.2;have z:=GQ (AE a b c) 0;rw[e3]at z;generalize decide (min a.1 b.1<=c.1)=b1 at *
 generalize decide (c.1<=max a.1 b.1)=b2 at *
 generalize decide (min a.2 b.2<=c.2)=b3 at *
 generalize decide (c.2<=max a.2 b.2)=b4 at *
 generalize decide (AE a b c=0)=b5 at *
 cases b5
 .simp only[HX,denote,VS,A7,AM,Ac,Au,Aw,f2,AG,fC,AU,AW,AH,AO,Ci,Out.val,RV.clean,
  AG6,AHq,AGv,AIm,AIJ,AH1,List.replicate,List.getElem?_cons_zero,AH5,AIa,AJj,AHF,
  LZ,La,AIN,Nat.reduceAdd,y,z,AJ3,AJ4]
 .cases b1<;>cases b2<;>cases b3<;>cases b4<;>simp only[HX,denote,VS,A7,AM,Ac,Au,Aw,f2,AG,fC,AU,AW,AH,AO,Ci,Dl,fB,DX,Out.val,RV.clean,
  AG6,AHq,AGv,AIm,AIJ,AH1,List.replicate,List.getElem?_cons_zero,AH5,AIa,AJj,AHF,
  EE,DB,LZ,La,A8,SS,Mm,AIN,Nat.reduceAdd,y,z,u,p,Z,Y,AKu,AIS,AJ4]
theorem ZN(ha:Bd 1000 a)(z:Bd 1000 b):Nn [pw a b,pw c d]=cB (AI.parts a b c d):=by
 have q:=L3 (c:=c) ha z;have v:=L3 (c:=d) ha z;have e3:=GO (AE a b c) 0;have u:=Fy (AE a b c) 0;have p:=GO (AE a b d) 0;have Z:=Fy (AE a b d) 0;unfold AI.parts;generalize AE a b c=x at *
 generalize AE a b d=y at *
 generalize decide (x<0)=b1 at *
 generalize decide (0<x)=b2 at *
 generalize decide (y<0)=b3 at *
 generalize decide (0<y)=b4 at *
 cases b1<;>cases b2<;>cases b3<;>cases b4<;>simp only[Nn,denote,ay,A7,AM,Ac,Aw,f2,AG,fC,AW,AH,AO,Ci,DX,Ex,Out.val,RV.clean,AG6,AHq,AGv,AIm,AIJ,AH1,List.replicate,List.getElem?_cons_zero,AH5,AIa,AJj,AHF,LZ,La,AIN,Nat.reduceAdd,q,v,e3,u,p,Z,AIS,AJ4,AIt,Bool.or_true]
theorem ZM(ha:Bd 1000 a)(z:Bd 1000 b)(hc:Bd 1000 c)(hd:Bd 1000 d):Lz [pw a b,pw c d]=cB (Az a b c d):=by
 have y:=ZN (c:=c) (d:=d) ha z;have q:=ZN (c:=a) (d:=b) hc hd;have e3:=Nm (c:=c) ha z;have v:=Nm (c:=d) ha z;have u:=Nm (c:=a) hc hd;have p:=Nm (c:=b) hc hd;unfold Az;generalize AI.parts a b c d=b1 at *
 generalize AI.parts c d a b=b2 at *
 generalize Ab a b c=b3 at *
 generalize Ab a b d=b4 at *
 generalize Ab c d a=b5 at *
 generalize Ab c d b=b6 at *
 cases b1<;>cases b2<;>cases b3<;>cases b4<;>cases b5<;>cases b6<;>simp only[Lz,denote,av,A7,AM,Ac,Au,Aw,f2,AG,fC,AU,AW,AH,AO,Ci,Ex,D8,Out.val,RV.clean,AG6,AHq,AGv,AIm,AIJ,AH1,List.replicate,List.getElem?_cons_zero,AH5,AIa,AJj,AHF,LZ,La,A8,AIN,Nat.reduceAdd,y,q,e3,v,u,p,AIS,AJ4,AIt,Bool.or_true]
def FR(p:Pt):Bool:=decide (Dp p.1<=100)&&decide (Dp p.2<=100)
theorem Xi:FR p=true↔Bd 100 p:=by
 have z:∀i:Int,Dp i<=100↔(-100<=i/\i<=100):=λi=>by unfold Dp;split<;>omega
 simp only[FR,AGx,AG0,z];exact⟨λh=>⟨h.1.1,h.1.2,h.2.1,h.2.2⟩,λh=>⟨⟨h.1,h.2.1⟩,h.2.2.1,h.2.2.2⟩⟩
theorem nU{r:List Pt}(z:r.length<=1000):QK [.lst<|AN r]=cB (r.all FR):=by
 have hc:collect (Aa 0) BP cC (Bt 1 [] [iL r]) (AN r)=some ((r.map FR).map PV.bl):=by rw[AHT];refine Fg λp _=>⟨_,.cl<|.bl<|FR p,rfl,?_,rfl⟩;simp only[Bt,DX,f2,fB,AH,AO,AG,fC,List.replicate,AIJ,AH1,AIa,List.getElem?_cons_zero,EE,O9,Hz];unfold FR;cases decide (Dp p.1<=100)<;>rfl
 simp only[QK,denote,aH,A7,Aw,fB,AH,AO,A5,B5,AG,AG6,AHq,AGv,AIm,AIJ,AH1,List.replicate,List.getElem?_cons_zero,RV.list,AIN,Nat.reduceAdd,Nat.reduceSub,Bool.false_eq_true,if_false];rw[AGo (by rw[Bv];exact z),hc];simp only[AHr,Fx,RV.list,AHF,Ql,Out.val];rw[AKQ];rfl
def Jh(r:List Pt):Bool:=(List.range r.length).all λk=>!(AE (AA r<|(k:Int)-2) (AA r<|(k:Int)-1) (AA r k)==0)
theorem Zt{n:Nat}(h:n<=1000):Jc<|n:=⟨U,U⟩
theorem CW(e:g ρ=some [.cl<|.int<|n])(h:n<=1000):CQ g ρ=some ((List.range n).map λk:Nat=>PV.int<|k):=by unfold CQ;rw[e];dsimp only;rw[AGo<|Zt h,ADa]
theorem B4(e:its ρ=some xs)(h:xs.length<=1000)(z:collect g t fe (Bt own cap ρ) xs=some ys):A5 its own cap g t fe ρ=some (.fr ys):=by
 unfold A5;rw[e];dsimp only;rw[AGo h,z]
 rfl
theorem nT(z:r.length<=1000)(h2:2<=r.length)(y:∀p∈r,Bd 1000 p):UG [.lst<|AN r]=cB (Jh r):=by
 have hc:collect (Aa 0) BP bw (Bt 1 [0] [iL r]) ((List.range r.length).map λk:Nat=>PV.int<|k) =
  some (((List.range r.length).map λk:Nat=>!(AE (AA r<|(k)-2) (AA r<|(k)-1) (AA r k)==0)).map PV.bl):=by
  rw[AHT];refine Fg λk v=>⟨_,.cl<|.bl (!(AE (AA r<|(k)-2) (AA r<|(k)-1) (AA r k)==0)),rfl,?_,rfl⟩;have q:=AGq.mp v;simp only[Bt,f2,AW,AH,AO,AG,fC,Ci,RV.clean,List.replicate,AGv,AIJ,AH1,AIa,List.getElem?_cons_zero,AH5,Option.join_some,C3,Bz r ((k)-2) U U,Bz r ((k)-1) U<|Mz q,Bz r (k) U<|Ce q,L3 (Cz De y _)<|Cz De y _,GQ]
 refine BY rfl (CI<|BO (AJ (B4 (CW (g:=OG) (by rw[<-Bv];rfl) z) (by simpa using z) hc) AQ) ?_);simp only[Fx,RV.list,AHF,Ql,AHr,AKQ]
 rfl
def BN(r:List Pt):List<|Pt×Pt:=(List.range r.length).map λk:Nat=>(AA r k,AA r<|(k:Int)+1)
def Bb(ws:List<|Pt×Pt):List PV:=ws.map λw=>pw w.1 w.2
theorem Nq{r:List Pt}(z:r.length<=1000)(h1:0<r.length):L4 [.lst<|AN r]=some (.fr<|Bb<|BN r):=by
 have hc:collect (Aa 0) BP cR (Bt 1 [0] [iL r]) ((List.range r.length).map λk:Nat=>PV.int<|k)=some (Bb<|BN r):=by
  delta Bb BN
  rw[AHT];refine Fg λk y=>⟨_,.cl<|pw (AA r k)<|AA r<|(k)+1,rfl,?_,rfl⟩;have q:=AGq.mp y;have hm:AA r (((k)+1)%(r.length))=AA r ((k)+1):=by unfold AI.AA;rw[AHO _<|AH2 _]
  simp only[Bt,f2,A6,AH,AO,AG,fC,fB,RV.clean,List.replicate,AGv,AIJ,AH1,AIa,List.getElem?_cons_zero,AH5,Option.join_some,Fv,EG,Bv,EH (i:=(k)+1) (j:=(r.length))<|E3 h1,Bz r (k) U<|Ce q,Bz r (((k)+1)%(r.length)) U<|AG4 _<|E3 h1,hm]
  rfl
 exact BY rfl<|IH<|B4 (CW (g:=OG) (by rw[<-Bv];rfl) z) (by simpa using z) hc
theorem xS(i a b:Int):BZ false (.cl<|.int i) (.cl<|.tup [.int a,.int b])=cB (i==a||i==b):=by simp only[BZ,RV.seq,DA,AHr,AHj,AJk,AIt,Bool.false_eq_true,if_false];rw[AJT,AJT (a:=b)]
theorem Ue{n i j:Int}(hn:0<n):Lx [.int n,.int i,.int j]=cB (nb n<|j-i):=by simp only[Lx,denote,aI,A7,Aw,f2,AG,fC,A6,AH,AO,Ci,RV.clean,Out.val,AG6,AHq,AGv,AIJ,AH1,List.replicate,List.getElem?_cons_zero,AH5,AHF,C3,EH hn,xS,AIN,Nat.reduceAdd,Nat.reduceSub,Nat.reduceLeDiff,nb]
def Y2(r:List Pt)(k:Int):PV:=pw (AA r k)<|AA r<|k+1
theorem nD(r:List Pt)(k:Nat)(h:k<r.length):Am (.cl<|.lst<|Bb<|BN r) (.cl<|.int<|k)=some (.cl<|Y2 r k):=by
 show(CD _ _).map _=_;have:CD (Bb<|BN r) (k)=some (Y2 r k):=by
  delta CD GN Bb BN
  simp[h,Y2]
 rw[this];rfl
def Ky(r:List Pt):Bool:=!((List.range r.length).any λk=>(List.range<|r.length-(k+1)).any λd=>!(nb r.length<|((k:Int)+1+d)-k)&&M r k ((k:Int)+1+d))
theorem nV(v:r.length<=1000)(h1:0<r.length)(z:∀p∈r,Bd 1000 p):Uj [.lst<|AN r]=cB (Ky r):=by
 have y:(Bb<|BN r).length=r.length:=by simp[Bb,BN]
 refine BY rfl ?_;unfold bG;rw[sq<|Aq (An (AJ rfl AQ) rfl<|Nq v h1) rfl];show AM _ _ [iL r,iM<|.lst<|Bb<|BN r,none,none]=_;have u:∀a b:Option SV,Q6 [iL r,iM<|.lst<|Bb<|BN r,a,b]=some ((List.range r.length).map λk:Nat=>PV.int<|k):=λa b=>CW (by rw[<-y];rfl) v;have H:=HE (gt:=Aa 2) (λρ=>∃a b,ρ=[iL r,iM<|.lst<|Bb<|BN r,a,b]) (xs:=List.range r.length) ⟨none,none,rfl⟩ (by
  rintro k O ρ ⟨a,b,rfl⟩;have Z:=AGq.mp O;refine⟨_,rfl,?_⟩;have Y:DL Vh [iL r,iM<|.lst<|Bb<|BN r,iI k,b]=some ((List.range<|r.length-(k+1)).map λd:Nat=>PV.int<|(k)+1+d):=by
   have P:Vh [iL r,iM<|.lst<|Bb<|BN r,iI k,b]=some [.cl<|.int<|(k)+1,.cl<|.int<|r.length]:=by rw[<-y];rfl
   unfold DL;rw[P];dsimp only;have D:Jc<|(k)+1:=⟨U,U⟩;rw[AGo ⟨D,Zt v⟩,kx]
   congr 3
   lia
  have Q:=HE (enc:=λd:Nat=>PV.int<|(k)+1+d) (gt:=Aa 3) (body:=bp)
   (c:=λd=>!(nb r.length<|((k)+1+d)-k)&&M r k ((k)+1+d))
   (λρ=>∃b,ρ=[iL r,iM<|.lst<|Bb<|BN r,iI k,b]) (xs:=List.range<|r.length-(k+1)) ⟨b,rfl⟩ (by
   rintro d hd ρ ⟨b,rfl⟩;have J4:=AGq.mp hd;refine⟨_,rfl,?_⟩;have q:b9 [iL r,iM<|.lst<|Bb<|BN r,iI k,iI<|(k)+1+d]=some (!(nb r.length<|((k)+1+d)-k)&&M r k ((k)+1+d)):=by refine Iy (D6<|Al<|An (rs:=[.cl<|.int<|r.length,.cl<|.int k,.cl<|.int<|(k)+1+d]) (by rw[<-y];rfl) rfl<|Ue<|E3 h1) λ_=>?_;refine Al (An (AJ (AL rfl rfl<|nD r k Z)<|AJ (AL rfl rfl<|nD r (k+1+d) (by clear y Z;omega)) AQ) rfl ?_);exact ZM (Cz De z _) (Cz De z _) (Cz De z _)<|Cz De z _
   refine⟨λh=>?_,λh=>⟨_,?_,iI<|(k)+1+d,rfl⟩⟩
   .show Au _ _ _ [iL r,iM<|.lst<|Bb<|BN r,iI k,iI<|(k)+1+d]=_;rw[h]at q;rw[Bc q];rfl
   .show Au _ _ _ [iL r,iM<|.lst<|Bb<|BN r,iI k,iI<|(k)+1+d]=_;rw[h]at q;rw[BC q];rfl)
  refine⟨λh=>?_,λh=>?_⟩
  .exact(Bu Y).trans (Q.1 h)
  .obtain⟨ρ',e,b',rfl⟩:=Q.2 h;exact⟨_,(Bu Y).trans e,_,_,rfl⟩)
 unfold Ky;cases ha:(List.range r.length).any λk=>(List.range<|r.length-(k+1)).any λd=>!(nb r.length<|((k)+1+d)-k)&&M r k ((k)+1+d)with
 |true=>exact C7<|(Bu<|u none none).trans<|H.1 ha
 |false=>
  obtain⟨ρ',e,a,b,rfl⟩:=H.2 ha;rw[sq<|(Bu<|u none none).trans e];rfl
theorem l7(f:Int->Int):∀n:Nat,((List.range n).map λk:Nat=>f k).sum=AI.Af f n
 |0=>rfl
 |n+1=>by simp only[AIT,AHS,AKe,l7 f n];simp[AI.Af]
theorem Fj(e:f ρ=some r)(h:r.list=some ps):B5 false f ρ=some ps:=by unfold B5;rw[e];exact h
theorem pD:Bd 1000 (0,0):=by unfold Bd;lia
theorem t1{r:List Pt}(z:∀p∈r,Bd 1000 p)(k:Nat):Vd [iM<|pw (AA r k)<|AA r<|(k)+1]=cI (AI.B3 (AA r k)<|AA r<|(k)+1):=by
 refine An (ps:=[pv (0,0),pv<|AA r k,pv<|AA r<|(k)+1]) (AJ rfl<|AJ (AL rfl rfl<|LZ _ _)<|AJ (AL rfl rfl<|La _ _) AQ) rfl ?_;rw[L3 pD<|Cz De z _];have:AE (0,0) (AA r k) (AA r<|(k)+1)=AI.B3 (AA r k) (AA r<|(k)+1):=by simp[AE,AI.B3]
 rw[this]
theorem t2(z:∀p∈r,Bd 1000 p):collect (Aa 0) BP Vd (Bt 1 [] [iL r]) (Bb<|BN r) = some (((List.range r.length).map λk:Nat=>AI.B3 (AA r k)<|AA r<|(k)+1).map PV.int):=by
 delta Bb BN
 simp only[AHT,AHT];exact Fg λk hk=>⟨_,.cl<|.int<|AI.B3 (AA r k)<|AA r<|(k)+1,rfl,t1 z k,rfl⟩
theorem t3{r:List Pt}(z:r.length<=1000)(h1:0<r.length):Q7 [iL r]=some (Bb<|BN r):=by exact Fj (An (AJ rfl AQ) rfl<|Nq z h1) rfl
theorem nW(z:r.length<=1000)(h1:0<r.length)(y:∀p∈r,Bd 1000 p):UK [.lst<|AN r]=cI (AI.CP r):=by
 have FL:(Bb<|BN r).length=r.length:=by simp[Bb,BN]
 refine BY rfl<|CI<|BO (AJ (B4 (t3 z h1) U<|t2 y) AQ) ?_;simp only[Lb,RV.list,AHF,O5,AHr];rw[l7 λk=>AI.B3 (AA r k)<|AA r<|k+1,AI.CP]
noncomputable def kl(r:List Pt):List<|List Int:=r.map λp=>[p.1,p.2]
theorem Yu:∀r:List Pt,Kk (AN r)=some (kl r)
 |[]=>rfl
 |p::r=>by
  show Kk (pv p::AN r)=_;unfold pv Kk;rw[(Yu r)]
  rfl
def dist(r:List Pt):Nat:=(Internal.ST.Em []<|kl r).length
theorem eZ(e:f ρ=some r)(h:r.list=some ps)(z:Kk ps=some ks)(h3:ks.length<=17):LH f ρ=cI ((Internal.ST.Em [] ks).length):=by unfold LH;rw[e];dsimp only;rw[h,AHF,z];dsimp only;rw[AGo h3]
theorem RP(ha:fa ρ=cI i)(z:fb ρ=cI j)(hc:fc ρ=cI k):Dl CY CY fa fb fc ρ=cB (decide (i<=j)&&decide (j<=k)):=by
 unfold Dl;rw[ha,z];dsimp only;rw[Hz];cases h:decide (i<=j)
 .rfl
 .dsimp only;rw[hc];dsimp only;rw[Hz,AIS]
def DI(r:List Pt):Bool:=(decide ((3:Int)<=r.length)&&decide ((r.length:Int)<=12))&&(((dist r:Int)==(r.length:Int))&&(r.all FR&&(Jh r&&(Ky r&&decide (0<AI.CP r)))))
theorem nu{r:List Pt}:UM [.lst<|AN r]=cB (DI r):=by
 refine BY rfl ?_;unfold aN;have u:CM (A7 1 [.lst<|AN r])=cI r.length:=by rw[<-Bv];rfl
 have z:=D6<|Al<|RP (fa:=fC<|.int 3) (fc:=fC<|.int 12) rfl u rfl;unfold DI;cases h1:(decide ((3:Int)<=r.length)&&decide ((r.length:Int)<=12))with
 |false=>
  rw[h1]at z;exact C7<|(Bc z).trans rfl
 |true=>
  rw[h1]at z;rw[sq<|(BC z).trans rfl,AIS];have y:=Al (AL (eZ (f:=AG 0) rfl rfl (Yu r) (by unfold kl;rw[AGm];lia)) u<|GQ _ _);have q:Ca (A7 1 [.lst<|AN r])=some [.cl<|.lst<|AN r]:=rfl;cases Z:((dist r:Int)==(r.length))with
  |false=>
   rw[show(((Internal.ST.Em []<|kl r).length:Int)==(r.length))=false from Z]at y;exact C7<|(Bc y).trans rfl
  |true=>
   rw[show(((Internal.ST.Em []<|kl r).length:Int)==(r.length))=true from Z]at y;rw[sq<|(BC y).trans rfl,AIS];refine CI<|MJ (An q rfl<|nU U) λh3=>?_;have v:∀p∈r,Bd 1000 p:=λp hp=>by have:=Xi.mp<|AH9.mp h3 p hp;unfold Bd at *;and_intros<;>lia
   refine MJ (An q rfl<|nT U U v) λ_=>?_;refine MJ (An q rfl<|nV U U v) λ_=>?_;exact AL (An q rfl<|nW U U v) rfl<|Fy _ _
open AI (AE Ab Az BH AA M nb)
theorem D7(e:g ρ=some rs)(c:Ci rs=some ps)(h:Nat.ble ps.length 1000=true:=by rfl):A6 g ρ=some (.cl<|.tup ps):=by unfold A6;rw[e];dsimp only;rw[c];dsimp only;rw[AGo<|AJI h]
theorem Fl(e:g ρ=some rs)(c:Ci rs=some ps)(h:Nat.ble ps.length 1000=true:=by rfl):B9 g ρ=some (.fr ps):=by unfold B9;rw[e];dsimp only;rw[c];dsimp only;rw[AGo<|AJI h]
theorem Xz(e:ga ρ=some rs)(c:Ci rs=some [p,q]):JE i j ga ρ=some (.nx<|(ρ.set i<|iM p).set j<|iM q):=by unfold JE;rw[e];dsimp only;rw[c]
noncomputable def Av(s:List Int):List PV:=s.map PV.int
theorem XG(s:List Int):(Av s).length=s.length:=AGm ..
noncomputable def Ad(s:List Int)(k:Int):Int:=if k<s.length then s.getD k.toNat 0 else(s.getD 0 0%65521*48271+k*30103)%65521
theorem Zb(s:List Int)(k:Int)(h0:0<=k)(h:k<s.length):Am (.cl<|.rd<|Av s) (.cl<|.int k)=cI (s.getD k.toNat 0):=by
 show(CD (Av s) k).map _=_;have z:k.toNat<s.length:=U
 have:CD (Av s) k=some (.int<|s.getD k.toNat 0):=by
  delta CD GN
  rw[XG,AGo h0,AGo h];simp[Av,z]
 rw[this];rfl
theorem Z3(h: -1000000<=j/\j<=1000000):Fb i j:=.inr ⟨U,U⟩
theorem ZG(s:List Int)(k:Int)(h0:0<=k):E8 [.rd<|Av s,.int k]=cI (Ad s k):=by
 refine BY rfl ?_;unfold aV;have v:CM (A7 3 [.rd<|Av s,.int k])=cI s.length:=by rw[<-XG];rfl
 have z:=Al<|AL (fa:=AG 1) rfl v<|GO k _;unfold Ad;by_cases h:k<s.length
 .rw[AHM h]at z;rw[AGo h];exact C7<|(Bc z).trans<|CI<|AL rfl rfl<|Zb s k h0 h
 .rw[AHK h]at z;rw[AGp h,sq<|(BC z).trans rfl,sq<|Aq rfl rfl];have u:CM [iM<|.rd<|Av s,iI k,iI 0]=cI s.length:=by rw[<-XG];rfl
  have y:=Al<|AL (fb:=fC<|.int 0) u rfl<|Fy _ _;have fin:∀b:Int,Aw cK [iM<|.rd<|Av s,iI k,iI b]=some (.rt<|.cl<|.int<|(b%65521*48271+k*30103)%65521):=λb=>
   CI (AL (AL (AL (AL rfl rfl<|EH U) rfl<|Fz<|Z3 U) (AL rfl rfl<|Fz<|Z3 U)<|Fv _ _) rfl<|EH U)
  by_cases q:(0:Int)<s.length
  .rw[AHM q]at y;have e3:Ac 2 D4 [iM<|.rd<|Av s,iI k,iI 0]=some (.nx [iM<|.rd<|Av s,iI k,iI<|s.getD 0 0]):=Aq (AL rfl rfl<|Zb s 0 Bi q) rfl;refine(sq<|(Bc y).trans e3).trans (fin _)
  .have:s=[]:=List.length_eq_zero_iff.mp U;subst this;exact(sq<|(BC y).trans rfl).trans (fin 0)
theorem Kr(ha:Bd 1000 a)(hb:Bd 1000 b):DV [pv a,pv b,pv c]=cI (AE a b c):=by have h1:Fb (b.1-a.1)<|c.2-a.2:=Ff (by unfold Bd at *;lia);have z:Fb (b.2-a.2)<|c.1-a.1:=Ff (by unfold Bd at *;lia);refine BY rfl ?_;exact CI<|AL (AL rfl rfl<|Fz h1) (AL rfl rfl<|Fz z)<|C3 _ _
def Gu(r:List Pt):Bool:=(List.range r.length).any λk=>AE (AA r<|(k:Int)-2) (AA r<|(k:Int)-1) (AA r k)==0
theorem Mv(r:List Pt)(ρ:AS)(h:ρ[0]? = some (iL r)):CM ρ=cI r.length:=by rw[<-Bv];exact BO (AJ (by unfold AG;rw[h]) AQ) rfl
theorem ZH(u:r.length<=1000)(h2:2<=r.length)(y:∀p∈r,Bd 1000 p):QR [.lst<|AN r]=cB (Gu r):=by
 refine BY rfl ?_;unfold aY;have q:Ip (A7 2 [.lst<|AN r])=some ((List.range r.length).map λk:Nat=>PV.int<|k):=CW (AJ (Mv r _ rfl) AQ) u;have H:=HE (enc:=λk:Nat=>PV.int<|k) (gt:=Aa 1) (body:=ba)
  (c:=λk=>AE (AA r<|(k)-2) (AA r<|(k)-1) (AA r k)==0)
  (λρ=>∃a,ρ=[iL r,a]) (xs:=List.range r.length) ⟨none,rfl⟩ (by
  rintro k Z ρ ⟨a,rfl⟩;have v:=AGq.mp Z;refine⟨_,rfl,?_⟩;have z:AU bu [iL r,iI k]=some (AE (AA r<|(k)-2) (AA r<|(k)-1) (AA r k)==0):=by refine Al<|AL (An (AJ (AL rfl rfl<|Bz r ((k)-2) U U)<|AJ (AL rfl rfl<|Bz r ((k)-1) U<|Mz v)<|AJ (AL rfl rfl<|Bz r (k) U<|Ce v) AQ) rfl<|Kr (Cz De y _)<|Cz De y _) rfl<|KN _ _
  refine⟨λh=>?_,λh=>⟨_,?_,iI k,rfl⟩⟩
  .rw[h]at z;exact(Bc z).trans rfl
  .rw[h]at z;exact(BC z).trans rfl)
 unfold Gu;cases ha:(List.range r.length).any λk=>AE (AA r<|(k)-2) (AA r<|(k)-1) (AA r k)==0 with
 |true=>exact C7<|(Bu q).trans<|H.1 ha
 |false=>
  obtain⟨ρ',e,a,rfl⟩:=H.2 ha;rw[sq<|(Bu q).trans e];rfl
theorem fU(r:List Pt):Jh r = !Gu r:=by
 delta Jh Gu
 simp only[List.not_any_eq_all_not]
theorem Ug(ha:Bd 1000 a)(y:Bd 1000 b):Kq [pv a,pv b,pv c]=cB (Ab a b c):=by
 refine BY rfl ?_;unfold ai;have z:=Al<|AL (ρ:=A7 5 [pv a,pv b,pv c]) (fb:=fC<|.int 0) (An (AJ (f:=AG 0) rfl<|AJ (f:=AG 1) rfl<|AJ (f:=AG 2) rfl AQ) rfl<|Kr ha y) rfl<|GQ _ _;by_cases h:AE a b c=0
 .rw[show(!(AE a b c==0))=false by simp[h]]at z;rw[sq<|(BC z).trans rfl,sq<|Aq (D7 (AJ (BO (AJ (AL rfl rfl<|EE a)<|AJ (AL rfl rfl<|EE b) AQ)<|SS _ _)<|AJ (BO (AJ (AL rfl rfl<|DB a)<|AJ (AL rfl rfl<|DB b) AQ)<|SS _ _) AQ) rfl) rfl,sq<|Aq (D7 (AJ (BO (AJ (AL rfl rfl<|EE a)<|AJ (AL rfl rfl<|EE b) AQ)<|Mm _ _)<|AJ (BO (AJ (AL rfl rfl<|DB a)<|AJ (AL rfl rfl<|DB b) AQ)<|Mm _ _) AQ) rfl) rfl]
  have q:Ab a b c=((decide (min a.1 b.1<=c.1)&&decide (c.1<=max a.1 b.1))&&(decide (min a.2 b.2<=c.2)&&decide (c.2<=max a.2 b.2))):=by simp only[Ab,AJb,AJb,AHM h,AIS]
  rw[q];exact CI<|MJ (RP rfl rfl rfl) λ_=>RP rfl rfl rfl
 .rw[show(!(AE a b c==0))=true by simp[h]]at z;rw[show Ab a b c=false by simp[Ab,h]];exact C7<|(Bc z).trans rfl
theorem ZK(ha:Bd 1000 a)(Q:Bd 1000 b)(hc:Bd 1000 c)(hd:Bd 1000 d):QS [pv a,pv b,pv c,pv d]=cB (BH a b c d):=by
 refine BY rfl ?_;unfold ah;have F:∀h:SF,AM cS (AM cH h) (A7 9 [pv a,pv b,pv c,pv d]) = h [iM<|pv a,iM<|pv b,iM<|pv c,iM<|pv d,iM<|.lst [.tup [pv a,pv b,pv c],.tup [pv a,pv b,pv d],.tup [pv c,pv d,pv a],.tup [pv c,pv d,pv b]],none,none,none,none]:=λh=>by rw[sq rfl];rw[sq (ρ':=[iM<|pv a,iM<|pv b,iM<|pv c,iM<|pv d,iM<|.lst [.tup [pv a,pv b,pv c],.tup [pv a,pv b,pv d],.tup [pv c,pv d,pv a],.tup [pv c,pv d,pv b]],none,none,none,none]) rfl]
 rw[F];have H:=HE (enc:=λt:Pt×Pt×Pt=>PV.tup [pv t.1,pv t.2.1,pv t.2.2]) (gt:=Hj 3<|Fo (Aa 5) RC) (body:=dC)
  (c:=λt=>Ab t.1 t.2.1 t.2.2)
  (λρ=>∃x y z,ρ=[iM<|pv a,iM<|pv b,iM<|pv c,iM<|pv d,iM<|.lst [.tup [pv a,pv b,pv c],.tup [pv a,pv b,pv d],.tup [pv c,pv d,pv a],.tup [pv c,pv d,pv b]],x,y,z,none]) (xs:=[(a,b,c),(a,b,d),(c,d,a),(c,d,b)]) ⟨none,none,none,rfl⟩ (by
  rintro⟨q,p,Z⟩ O ρ ⟨x,y,z,rfl⟩;refine⟨_,rfl,?_⟩;have P:Bd 1000 q/\Bd 1000 p:=by simp only[AGz,AJO,AH4,AI2]at O;rcases O with⟨rfl,rfl,_⟩|⟨rfl,rfl,_⟩|⟨rfl,rfl,_⟩|⟨rfl,rfl,_⟩<;>constructor<;>assumption
  have Y:AU (AW Kq<|AH (AG 5) RD) [iM<|pv a,iM<|pv b,iM<|pv c,iM<|pv d,iM<|.lst [.tup [pv a,pv b,pv c],.tup [pv a,pv b,pv d],.tup [pv c,pv d,pv a],.tup [pv c,pv d,pv b]],iM<|pv q,iM<|pv p,iM<|pv Z,none]=some (Ab q p Z):=
   Al (An (AJ rfl<|AJ rfl<|AJ rfl AQ) rfl<|Ug P.1 P.2)
  refine⟨λh=>?_,λh=>⟨_,?_,iM<|pv q,iM<|pv p,iM<|pv Z,rfl⟩⟩
  .rw[show Ab q p Z=true from h]at Y;exact(Bc Y).trans rfl
  .rw[show Ab q p Z=false from h]at Y;exact(BC Y).trans rfl)
 have ea:([(a,b,c),(a,b,d),(c,d,a),(c,d,b)]).any (λt=>Ab t.1 t.2.1 t.2.2)=(Ab a b c||Ab a b d||Ab c d a||Ab c d b):=by simp only[AHj,AJk,AIt,Bool.or_assoc]
 rw[ea]at H;unfold BH;have D:∀x y z w:Option SV,B5 true (AG 4) [iM<|pv a,iM<|pv b,iM<|pv c,iM<|pv d,iM<|.lst [.tup [pv a,pv b,pv c],.tup [pv a,pv b,pv d],.tup [pv c,pv d,pv a],.tup [pv c,pv d,pv b]],x,y,z,w]=some (([(a,b,c),(a,b,d),(c,d,a),(c,d,b)]).map λt=>PV.tup [pv t.1,pv t.2.1,pv t.2.2]):=λ_ _ _ _=>rfl;cases ho:(Ab a b c||Ab a b d||Ab c d a||Ab c d b)with
 |true=>
  exact C7<|(Bu<|D _ _ _ _).trans<|H.1 ho
 |false=>
  obtain⟨ρ',e,x,y,z,rfl⟩:=H.2 ho;rw[sq<|(Bu<|D _ _ _ _).trans e];have sd:∀(f g h:EF)(u v w:Pt)(ρ:AS),Bd 1000 u->Bd 1000 v->f ρ=some (.cl<|pv u)->g ρ=some (.cl<|pv v)->h ρ=some (.cl<|pv w)->f2 CS (AW DV<|AH f<|AH g<|AH h AO) (fC<|.int 0) ρ=cB (decide (AE u v w>0)):=λf g h u v w ρ b1 b2 R B e3=>
   AL (An (AJ R<|AJ B<|AJ e3 AQ) rfl<|Kr b1 b2) rfl (Fy _ _)
  rw[sq<|Aq (AL (sd _ _ _ a b c _ ha Q rfl rfl rfl) (sd _ _ _ a b d _ ha Q rfl rfl rfl)<|ik _ _) rfl];exact CI<|MJ rfl λ_=>AL (sd _ _ _ c d a _ hc hd rfl rfl rfl) (sd _ _ _ c d b _ hc hd rfl rfl rfl)<|ik _ _
section
variable{α β:Type}{enc:α->PV}
theorem IB(f:β->α->β)(R:Nat->β->AS->Prop):∀{xs:List α}{n:Nat}{b:β}{ρ:AS},R n b ρ->(∀i x,xs[i]? = some x->∀b ρ,R (n+i) b ρ->∃z q,gt (enc x) ρ=some z/\body z=some (.nx q)/\R (n+i+1) (f b x) q)->∃ρ',C4 gt body (xs.map enc) ρ=some (.nx ρ')/\R (n+xs.length) (xs.foldl f b) ρ'
 |[],n,b,ρ,hR,_=>⟨ρ,rfl,hR⟩
 |x::xs,n,b,ρ,hR,H=>by
  obtain⟨z,q,v,u,p⟩:=H 0 x rfl b ρ hR;rw[AGv];unfold C4;rw[v];dsimp only;simp only[u];obtain⟨ρ',e,h⟩:=IB f R p λi y Z b ρ Y=>by have:=H (i+1) y (by simpa using Z) b ρ (by rw[show n+(i+1)=n+1+i by lia];exact Y);rw[show n+1+i+1=n+(i+1)+1 by lia];exact this
  exact⟨ρ',e,by rw[AG6,show n+(xs.length+1)=n+1+xs.length by lia];exact h⟩
end
theorem V7(f:Int->Int):∀(n:Nat)(z:Int),((List.range n).foldl (λt (k:Nat)=>t+f k) z)=z+AI.Af f n
 |0,z=>by simp[AI.Af]
 |n+1,z=>by rw[AIT,AJn,V7 f n z];simp[AI.Af];lia
theorem nz(y:r.length<=1000)(h1:0<r.length)(q:∀p∈r,Bd 1000 p):UO [.lst<|AN r]=cI (AI.MC r):=by
 refine BY rfl ?_;unfold aU;rw[sq (ρ':=[iL r,iI 0,none,none,none]) rfl];have v:Ip [iL r,iI 0,none,none,none]=some ((List.range r.length).map λk:Nat=>PV.int<|k):=CW (AJ (Mv r _ rfl) AQ) y;obtain⟨ρ',e,a,b,c,rfl⟩:=XX (enc:=λk:Nat=>PV.int<|k) (gt:=Aa 2) (body:=bW)
  (λ(t)(k)=>t+AI.B3 (AA r<|(k)-1) (AA r k)) (λt ρ=>∃a b c,ρ=[iL r,iI t,a,b,c]) (xs:=List.range r.length) ⟨none,none,none,rfl⟩ (by
  rintro k u t ρ ⟨a,b,c,rfl⟩;have z:=AGq.mp u;refine⟨_,[iL r,iI<|t+AI.B3 (AA r<|(k)-1) (AA r k),iI k,iM<|pv<|AA r<|(k)-1,iM<|pv<|AA r k],rfl,?_,_,_,_,rfl⟩;have h3:=Cz De q<|(k)-1;have Z:cz [iL r,iI t,iI k,b,c] = some (.nx [iL r,iI t,iI k,iM<|pv<|AA r<|(k)-1,iM<|pv<|AA r k]):=by exact Xz (AJ (AL rfl rfl<|Bz r ((k)-1) U<|Mz z)<|AJ (AL rfl rfl<|Bz r (k) U<|Ce z) AQ) rfl
  refine(sq Z).trans ?_;have Y:t+(AA r<|(k)-1).1*(AA r k).2-(AA r<|(k)-1).2*(AA r k).1=t+AI.B3 (AA r<|(k)-1) (AA r k):=by unfold AI.B3;lia
  rw[<-Y];refine(Aq (AL (AL rfl (AL (AL rfl rfl<|EE _) (AL rfl rfl<|DB _)<|Fz<|Ff (by unfold Bd at h3;omega))<|Fv _ _) (AL (AL rfl rfl<|DB _) (AL rfl rfl<|EE _)<|Fz<|Ff (by unfold Bd at h3;omega))<|C3 _ _) rfl).trans ?_
  rfl)
 rw[sq<|(Bu v).trans e,V7 λk=>AI.B3 (AA r<|k-1)<|AA r k,AHW]
 rfl
theorem Z9(e:f ρ=some rv)(hp:rv.list=some (AN r))(z:r.length<=1000) (H:∀p∈r,t (iI p.1::iI p.2::cap.map λj=>(ρ[j]?).join)=some (c p)/\(c p=true->∃x,fe (iI p.1::iI p.2::cap.map λj=>(ρ[j]?).join)=some x/\x.clean=some (h p))) :
 A5 (B5 false f) 2 cap Gq t fe ρ=some (.fr<|(r.filter c).map h):=by
 refine B4 (Fj e hp) (by rw[Bv];exact z) ?_;refine DF λp hp=>⟨_,rfl,?_⟩;exact H p hp
theorem VL(e:f ρ=some rv)(hp:rv.list=some (AN r))(z:r.length<=1000) (H:∀p∈r,∃x,fe (iI p.1::iI p.2::cap.map λj=>(ρ[j]?).join)=some x/\x.clean=some (h p)) :
 A5 (B5 false f) 2 cap Gq BP fe ρ=some (.fr<|r.map h):=by
 have:=Z9 (t:=BP) e hp z λp hp=>⟨rfl,λ_=>H p hp⟩;rw[this,AJY.mpr λ_ _=>rfl]
theorem SU(i a b:Int):BZ true (.cl<|.int i) (.fr [.int a,.int b])=cB (!(i==a||i==b)):=by simp only[BZ,RV.seq,RV.list,DA,AHr,AHj,AJk,AIt,AIN];rw[AJT,AJT (a:=b)]
def OW(r:List Pt):Bool:=decide ((0:Int)<((r.filter λp=>decide (max (Dp p.1) (Dp p.2)>100)).length:Int))
def OC(r:List Pt):Bool:=(List.range r.length).any λk=>(List.range k).any λj=>!(nb r.length<|(k:Int)-j)&&BH (AA r<|(k:Int)-1) (AA r k) (AA r<|(j:Int)-1) (AA r j)
def LN(r:List Pt):Bool:=!(!(decide ((3:Int)<=r.length)&&decide ((r.length:Int)<=12))||OW r)&&(!(!((dist r:Int)==(r.length:Int))||(Gu r||decide (AI.MC r<=0)))&&!OC r)
theorem fK(r:List Pt):OW r = !(r.all FR):=by
 have h:∀p:Pt,decide (max (Dp p.1) (Dp p.2)>100) = !FR p:=λp=>by unfold FR;rw[<-AJb,<-decide_not];apply decide_eq_decide.mpr;omega
 unfold OW;rw[List.filter_congr λp _=>h p];cases ha:r.all FR with
 |true=>
  have:r.filter (λp=>!FR p)=[]:=AJq.mpr λp hp=>by have:=AH9.mp ha p hp;simp[this]
  rw[this];rfl
 |false=>
  obtain⟨p,hp,hn⟩:=List.all_eq_false.mp ha;have hm:p∈r.filter (λp=>!FR p):=AHN.mpr ⟨hp,by simpa using hn⟩;have:=AJp hm;rw[AHM<|E3 this];rfl
theorem nk{r:List Pt}(Q:r.length<=1000):UR [.lst<|AN r]=cB (LN r):=by
 refine BY rfl ?_;unfold aZ;rw[sq<|Aq (Mv r _ rfl) rfl];show AM _ _ [iL r,iI r.length,none,none]=_;have q:di [iL r,iI r.length,none,none] = some (!(decide ((3:Int)<=r.length)&&decide ((r.length:Int)<=12))||OW r):=by
  refine Eb (D6<|Al<|RP rfl rfl rfl) λ_=>?_;have v:=Z9 (f:=AG 0) (t:=AU cf) (fe:=fC<|.int 1) (ρ:=[iL r,iI r.length,none,none]) (cap:=[]) rfl rfl Q λp _=>⟨Al<|AL (BO (AJ (BO (AJ rfl AQ)<|O9 p.1)<|AJ (BO (AJ rfl AQ)<|O9 p.2) AQ)<|Mm _ _) rfl<|Fy _ _,λ_=>⟨_,rfl,rfl⟩⟩
  refine Al<|AL (BO (AJ v AQ)<|ig _) rfl ?_;rw[AGm]
  rfl
 unfold LN;cases h1:(!(decide ((3:Int)<=r.length)&&decide ((r.length:Int)<=12))||OW r)with
 |true=>
  rw[h1]at q;exact C7<|(Bc q).trans rfl
 |false=>
  rw[h1]at q;rw[sq<|(BC q).trans rfl];simp only[AHe,Bool.not_eq_false',AGx,AG0]at h1;obtain⟨⟨gj,Rw⟩,O⟩:=h1;rw[fK,Bool.not_eq_false']at O;have z:∀p∈r,Bd 1000 p:=λp hp=>by have:=Xi.mp<|AH9.mp O p hp;unfold Bd at *;and_intros<;>lia
  have v:Ca [iL r,iI r.length,none,none]=some [.cl<|.lst<|AN r]:=rfl;have u:cN [iL r,iI r.length,none,none] = some (!((dist r:Int)==(r.length))||(Gu r||decide (AI.MC r<=0))):=by refine Eb (Al<|AL (eZ rfl rfl (Yu r) (by unfold kl;rw[AGm];lia)) rfl<|GQ _ _) λ_=>?_;exact Eb (Al<|An v rfl<|ZH U U z) λ_=>Al<|AL (An v rfl<|nz U U z) rfl<|Hz _ _
  cases P:(!((dist r:Int)==(r.length))||(Gu r||decide (AI.MC r<=0)))with
  |true=>
   rw[P]at u;exact C7<|(Bc u).trans rfl
  |false=>
   rw[P]at u;rw[sq<|(BC u).trans rfl];have D:CQ Cj [iL r,iI r.length,none,none]=some ((List.range r.length).map λk:Nat=>PV.int<|k):=CW rfl Q;have H:=HE (gt:=Aa 2) (λρ=>∃a b,ρ=[iL r,iI r.length,a,b]) (xs:=List.range r.length) ⟨none,none,rfl⟩ (by
    rintro k G ρ ⟨a,b,rfl⟩;have F:=AGq.mp G;refine⟨_,rfl,?_⟩;have R:OL [iL r,iI r.length,iI k,b]=some ((List.range k).map λd:Nat=>PV.int<|d):=CW rfl U;have B:=HE (enc:=λk:Nat=>PV.int<|k) (gt:=Aa 3) (body:=dI)
     (c:=λj=>!(nb r.length<|(k)-j)&&BH (AA r<|(k)-1) (AA r k) (AA r<|(j)-1) (AA r j))
     (λρ=>∃b,ρ=[iL r,iI r.length,iI k,b]) (xs:=List.range k) ⟨b,rfl⟩ (by
     rintro j S ρ ⟨b,rfl⟩;have C9:=AGq.mp S;refine⟨_,rfl,?_⟩;have y:AU cU [iL r,iI r.length,iI k,iI j]=some (!(nb r.length<|(k)-j)):=
      Al (AL (AL (AL rfl rfl<|C3 _ _) rfl<|EH U) (Fl rfl rfl)<|SU _ _ _)
     have Z:AU br [iL r,iI r.length,iI k,iI j]=some (BH (AA r<|(k)-1) (AA r k) (AA r<|(j)-1)<|AA r j):=
      Al (An (AJ (AL rfl rfl<|Bz r ((k)-1) U<|Mz F)<|AJ (AL rfl rfl<|Bz r (k) U<|Ce F)<|AJ (AL rfl rfl<|Bz r ((j)-1) U U)<|AJ (AL rfl rfl<|Bz r (j) U U) AQ) rfl<|ZK (Cz De z _) (Cz De z _) (Cz De z _)<|Cz De z _)
     refine⟨λh=>?_,λh=>⟨_,?_,iI j,rfl⟩⟩
     .simp only[AGx]at h;rw[h.1]at y;rw[h.2]at Z;exact(Bc y).trans ((Bc Z).trans rfl)
     .cases Y:(!(nb r.length<|(k)-j))with
      |false=>rw[Y]at y;exact(BC y).trans rfl
      |true=>
       rw[Y,AIS]at h;rw[Y]at y;rw[h]at Z;exact(Bc y).trans ((BC Z).trans rfl))
    refine⟨λh=>?_,λh=>?_⟩
    .exact(Bu R).trans (B.1 h)
    .obtain⟨ρ',e,b',rfl⟩:=B.2 h;exact⟨_,(Bu R).trans e,_,_,rfl⟩)
   unfold OC;cases ha:(List.range r.length).any λk=>(List.range k).any λj=>!(nb r.length<|(k)-j)&&BH (AA r<|(k)-1) (AA r k) (AA r<|(j)-1) (AA r j)with
   |true=>exact C7<|(Bu D).trans<|H.1 ha
   |false=>
    obtain⟨ρ',e,a,b,rfl⟩:=H.2 ha;rw[sq<|(Bu D).trans e];rfl
theorem ZZ(r:List Pt):Ky r=true↔AI.N5 r:=by
 delta Ky AI.N5
 simp only[AHZ,AIP,AGq,AGx,not_and,Bool.not_eq_true];constructor
 .intro h k m h0 h1 h2 hn;have:=h k.toNat AGg (m-k-1).toNat;rw[AHB h0,AHB U,show k+1+(m-k-1)=m by lia]at this;exact this AGi hn
 .intro h k z d hd h1;exact h k (k+1+d) Bj (by clear h1;lia) (by clear z;omega) h1
theorem qi(r:List Pt):OC r=false↔AI.U0 r:=by
 delta OC AI.U0
 simp only[AIP,AGq,AGx,not_and,Bool.not_eq_true,AHZ];constructor
 .intro h k j h0 h1 h2 hn;have:=h k.toNat AGg j.toNat U;rw[AHB h0,AHB U]at this;unfold M;rw[<-AI.Su,show k-1+1=k from Dt,show j-1+1=j from Dt];exact this hn
 .intro h k z j y h1;have:=h k j Bj (Ce y) (Ce z) h1;unfold M at this;rw[<-AI.Su,show(k:Int)-1+1=k from Ph,show(j:Int)-1+1=j from Ph]at this;exact this
theorem uY(r:List Pt):LN r=DI r:=by
 have h1:(!OC r)=Ky r:=by rw[AHo,AHZ,qi,ZZ];exact AI.ow r
 delta LN DI
 simp only[h1,fK,fU,AI.oz];have z:decide (0<AI.CP r) = !decide (AI.CP r<=0):=by rw[<-decide_not];apply decide_eq_decide.mpr;lia
 simp only[z];generalize (decide ((3:Int)<=r.length)&&decide ((r.length:Int)<=12))=b1;generalize r.all FR=b2;generalize ((dist r:Int)==(r.length))=b3;generalize Gu r=b4;generalize decide (AI.CP r<=0)=b5;generalize Ky r=b6;cases b1<;>cases b2<;>cases b3<;>cases b4<;>cases b5<;>cases b6<;>rfl
theorem Fi(z:f ρ=some (.cl<|.rd<|Av s))(y:g ρ=cI k)(h:0<=k):AW E8 (AH f<|AH g AO) ρ=cI (Ad s k):=
 An (AJ z<|AJ y AQ) rfl (ZG s k h)
theorem Ew{f:EF}(n:Int)(e:f ρ=cI i)(h:0<n:=by lia)(z:n<1073741824:=by lia):f2 Cd f (fC<|.int n) ρ=cI (i / n):=AL e rfl<|iU h z
theorem D5(n:Int)(e:f ρ=cI i)(h:0<n:=by lia):f2 BV f (fC<|.int n) ρ=cI (i%n):=AL e rfl<|EH h
theorem Jy(e:f ρ=cI i)(z:g ρ=cI j):f2 Ay f g ρ=cI (i+j):=AL e z<|Fv _ _
theorem MK(e:f ρ=cI i)(z:g ρ=cI j):f2 BI f g ρ=cI (i-j):=AL e z<|C3 _ _
theorem LC(n:Int)(e:f ρ=cI i):AU (f2 Bg f<|fC<|.int n) ρ=some (i==n):=Al<|AL e rfl<|KN _ _
def F5(s:List Int)(k count mode:Int)(b:Int×List Pt×List Pt)(d:Nat):Int×List Pt×List Pt:=
 let x:=if mode=3 then 1+(d:Int)else b.1+1+Ad s (k+4+(1+(d:Int))) / 2%4
 let y:=if mode=3 then(1+(d:Int))*(count-1-(1+(d:Int)))else 1+Ad s (k+4+(1+(d:Int))) / 8%9
 if Ad s (k+4+(1+(d:Int)))%2=0 then(x,b.2.1 ++ [(x,0-y)],b.2.2)else(x,b.2.1,b.2.2 ++ [(x,y)])
def Cr(s:List Int)(k count:Int):Int×List Pt×List Pt:=(List.range (count-2).toNat).foldl (F5 s k count<|Ad s (k+1)%4) (0,[],[])
noncomputable def FD(count:Int):List Pt:=(List.range count.toNat).map λj:Nat=>((j:Int),0-(j:Int)*(count-1-j))
noncomputable def CZ(b:Int×List Pt×List Pt):List Pt:=[(0,0)]++b.2.1 ++ [(b.1+1,0)]++b.2.2.reverse
def HM(s:List Int)(k count:Int):List Pt:=if Gu (CZ<|Cr s k count)=true then FD count else CZ (Cr s k count)
structure L8(i:Nat)(b:Int×List Pt×List Pt):Prop where
 lo:0<=b.1
 hi:b.1<=4*i
 len:b.2.1.length+b.2.2.length=i
 bl:∀p∈b.2.1,Bd 500 p
 bh:∀p∈b.2.2,Bd 500 p
theorem jc(h1: -n<=a)(q:a<=n)(h3 : -m<=b)(v:b<=m) : -(n*m)<=a*b/\a*b<=n*m:=by
 have hm:0<=m:=U
 constructor
 .rcases AIn 0 a with ha|ha
  .have z:=AG5 h3 ha;have y:=AHL q hm;rw[AJD]at z;lia
  .have z:=AJ1 ha v;have y:=AHL h1 hm;lia
 .rcases AIn 0 a with ha|ha
  .have z:=AG5 v ha;have y:=AHL q hm;lia
  .have z:=AJ1 ha h3;have y:=AHL h1 hm;rw[AJD]at z;lia
theorem kQ{k count mode:Int}{i:Nat}{b:Int×List Pt×List Pt}(h1:3<=count)(h2:count<=12)(hi:(i)<count-2)(h:L8 i b):L8 (i+1)<|F5 s k count mode b i:=by
 obtain⟨v,low,By⟩:=b;obtain⟨lo,hh,len,bl,bh⟩:=h;dsimp only at lo hh len bl bh;have u:∀x,x=(if mode=3 then 1+(i:Int)else v+1+Ad s (k+4+(1+(i))) / 2%4)->0<=x/\x<=4*((i)+1):=λx e=>by subst e;split<;>lia
 have Z:∀y,y=(if mode=3 then(1+(i))*(count-1-(1+(i)))else 1+Ad s (k+4+(1+(i))) / 8%9)->-121<=y/\y<=121:=λy e=>by
  subst e;split
  .have:=jc (n:=11) (m:=11) (a:=1+(i)) (b:=count-1-(1+(i))) U U U U
   assumption
  .lia
 unfold F5;dsimp only;generalize ex:(if mode=3 then 1+(i:Int)else v+1+Ad s (k+4+(1+(i))) / 2%4)=x;generalize Y:(if mode=3 then(1+(i))*(count-1-(1+(i)))else 1+Ad s (k+4+(1+(i))) / 8%9)=y;have q:=u x ex.symm;have W8:=Z y Y.symm;split
 .refine⟨q.1,by exact q.2,by simp;lia,λp hp=>?_,bh⟩;rcases AHJ.mp hp with z|z
  .exact bl p z
  .rw[AG3.mp z];unfold Bd;dsimp only;and_intros<;>lia
 .refine⟨q.1,by exact q.2,by simp;lia,bl,λp hp=>?_⟩;rcases AHJ.mp hp with z|z
  .exact bh p z
  .rw[AG3.mp z];unfold Bd;dsimp only;and_intros<;>lia
theorem fY{k count mode:Int}(h1:3<=count)(z:count<=12):∀n:Nat,(n)<=count-2->L8 n ((List.range n).foldl (F5 s k count mode) (0,[],[]))
 |0,_=>⟨AGh,AGh,rfl,(λp hp=>by cases hp),(λp hp=>by cases hp)⟩
 |n+1,hn=>by rw[AIT,AJn];exact kQ h1 z AGl<|fY h1 z n U
theorem kP(s:List Int)(k:Int)(h1:3<=count)(z:count<=12):L8 (count-2).toNat<|Cr s k count:=fY h1 z _ (by clear z;omega)
theorem Tb(b:Int×List Pt×List Pt):(CZ b).length=b.2.1.length+b.2.2.length+2:=by simp[CZ];lia
theorem ADi(h:L8 i b)(hi:i<=100):∀p∈CZ b,Bd 1000 p:=λp hp=>by
 unfold CZ at hp;simp only[AHJ,AG3,AI3]at hp;have:=h.lo;have:=h.hi;rcases hp with((rfl|hp)|rfl)|hp
 .unfold Bd;lia
 .have:=h.bl p hp;unfold Bd at *;lia
 .unfold Bd;lia
 .have:=h.bh p hp;unfold Bd at *;lia
theorem NL(a b:List Pt):AN (a++b)=AN a++AN b:=AHS ..
theorem iS(l:List Pt)(p:Pt)(h:l.length<1000):Ef (AN l) [pv p]=some (AN<|l ++ [p]):=by
 unfold Ef;dsimp only;rw[AGo (by rw[Bv];exact h),NL]
 rfl
theorem S0(h:ρ[i]? = some (some<|.own ps))(e:ga ρ=some rs)(c:Ci rs=some qs)(y:k ps qs=some z):DY i k ga ρ=some (.nx<|ρ.set i<|some<|.own z):=by unfold DY;rw[h,e];dsimp only;rw[c];dsimp only;rw[y]
theorem LY(z:x.list=some xs)(q:y.list=some ys)(h:xs.length+ys.length<=1000):Ay x y=some (.fr<|xs++ys):=by
 have hc:PB x y=some (.fr<|xs++ys):=by unfold PB;rw[z,q];dsimp only;rw[AGo h]
 unfold Ay;split
 .contradiction
 .exact hc
theorem ee(e:f ρ=some r)(h:r.list=some ps):Gs f ρ=some (.fr ps.reverse):=by unfold Gs;rw[e];dsimp only;rw[h]
theorem oG(s:List Int)(k count:Int)(h0:0<=k)(h1:3<=count)(D:count<=12):UX [.rd<|Av s,.int k,.int count]=some (.cl<|.lst<|AN<|HM s k count):=by
 refine BY rfl ?_;unfold ao;rw[sq<|Aq (D5 4<|Fi rfl rfl<|EK h0) rfl];generalize B:Ad s (k+1)%4=mode;have G:Cr s k count=(List.range (count-2).toNat).foldl (F5 s k count mode) (0,[],[]):=by unfold Cr;rw[B]
 show AM _ _ [iM<|.rd<|Av s,iI k,iI count,iI mode,iI 0,some<|.own [],some<|.own [],none,none,none,none]=_;have S:DL Q2 [iM<|.rd<|Av s,iI k,iI count,iI mode,iI 0,some<|.own [],some<|.own [],none,none,none,none]=some ((List.range (count-2).toNat).map λd:Nat=>PV.int<|1+(d)):=by unfold DL;rw[show Q2 [iM<|.rd<|Av s,iI k,iI count,iI mode,iI 0,some<|.own [],some<|.own [],none,none,none,none]=some [.cl<|.int 1,.cl<|.int<|count-1]from rfl];dsimp only;rw[AGo ⟨⟨U,U⟩,⟨U,U⟩⟩,kx,show(count-1-1).toNat=(count-2).toNat by lia]
 obtain⟨ρ',e,⟨q,v,u,rfl⟩,AX⟩:=IB (enc:=λd:Nat=>PV.int<|1+(d)) (gt:=Aa 7) (body:=Vb)
  (F5 s k count mode) (λi b ρ=>(∃q v u,ρ=[iM<|.rd<|Av s,iI k,iI count,iI mode,iI b.1,some<|.own<|AN b.2.1,some<|.own<|AN b.2.2,q,v,u,none])/\L8 i b)
  (xs:=List.range (count-2).toNat) (n:=0) (b:=(0,[],[])) ⟨⟨none,none,none,rfl⟩,AGh,AGh,rfl,(λp hp=>by cases hp),(λp hp=>by cases hp)⟩ (by
  rintro i d hd b ρ ⟨⟨q,v,u,rfl⟩,AX⟩;have vP:=by have:=(AGs.mp hd).1;simpa using this
  have T:=by have:=(AGs.mp hd).2;simpa using this.symm
  subst T;rw[AI0]at AX;have C:=kQ (s:=s) (k:=k) (mode:=mode) h1 D AGl AX;have P:=AX.len;obtain⟨Z,low,z⟩:=b;refine⟨_,[iM<|.rd<|Av s,iI k,iI count,iI mode,iI<|(F5 s k count mode (Z,low,z) d).1,some<|.own<|AN (F5 s k count mode (Z,low,z) d).2.1,some<|.own<|AN (F5 s k count mode (Z,low,z) d).2.2,iI<|1+(d),iI<|Ad s<|k+4+(1+(d)),iI (if mode=3 then(1+(d))*(count-1-(1+(d)))else 1+Ad s (k+4+(1+(d))) / 8%9),none],rfl,?_,⟨_,_,_,rfl⟩,by rw[AI0];exact C⟩;dsimp only at P;unfold F5
  delta Vb
  rw[sq<|Aq (Fi rfl rfl U) rfl];generalize Ad s (k+4+(1+(d)))=c;show AM _ _ [iM<|.rd<|Av s,iI k,iI count,iI mode,iI<|Z+1+c / 2%4,some<|.own<|AN low,some<|.own<|AN z,iI<|1+(d),iI c,iI<|1+c / 8%9,none]=_;have Y:=LC (f:=AG 3) (ρ:=[iM<|.rd<|Av s,iI k,iI count,iI mode,iI<|Z+1+c / 2%4,some<|.own<|AN low,some<|.own<|AN z,iI<|1+(d),iI c,iI<|1+c / 8%9,none]) 3 rfl;have fin:∀x y:Int,RI [iM<|.rd<|Av s,iI k,iI count,iI mode,iI x,some<|.own<|AN low,some<|.own<|AN z,iI<|1+(d),iI c,iI y,none] = some (.nx [iM<|.rd<|Av s,iI k,iI count,iI mode,iI ((if c%2=0 then(x,low ++ [(x,0-y)],z)else(x,low,z ++ [(x,y)])).1),some (.own (AN (if c%2=0 then(x,low ++ [(x,0-y)],z)else(x,low,z ++ [(x,y)])).2.1)),some (.own (AN (if c%2=0 then(x,low ++ [(x,0-y)],z)else(x,low,z ++ [(x,y)])).2.2)),iI<|1+(d),iI c,iI y,none]):=λx y=>by
   have Q:=LC (f:=f2 BV (AG 8)<|fC<|.int 2) (ρ:=[iM<|.rd<|Av s,iI k,iI count,iI mode,iI x,some<|.own<|AN low,some<|.own<|AN z,iI<|1+(d),iI c,iI y,none]) 0<|D5 2 rfl;by_cases hc:c%2=0
   .rw[show(c%2==0)=true by simp[hc]]at Q
    delta RI
    rw[Bc Q,AGo hc];exact S0 rfl (AJ (x:=.cl<|pv (x,0-y)) rfl AQ) rfl<|iS low _ U
   .rw[show(c%2==0)=false by simp[hc]]at Q
    delta RI
    rw[BC Q,AGp hc];exact S0 rfl (AJ (x:=.cl<|pv (x,y)) rfl AQ) rfl<|iS z _ U
  by_cases hm:mode=3
  .rw[show(mode==3)=true by simp[hm]]at Y;simp only[AGo hm];refine Eq.trans (sq<|(Bc Y).trans ?_)<|fin _ _;refine(sq<|Aq rfl rfl).trans ?_;refine(Aq (AL rfl rfl<|Fz<|Ff U) rfl)
  .rw[show(mode==3)=false by simp[hm]]at Y;simp only[AGp hm];exact(sq<|(BC Y).trans rfl).trans (fin _ _))
 rw[sq<|(Bu S).trans e,<-G];have F:=kP s k h1 D;have P:=F.len;have hrl:=Tb<|Cr s k count;have E:f2 Ay b7 (Gs<|AG 6) [iM<|.rd<|Av s,iI k,iI count,iI mode,iI<|(Cr s k count).1,some<|.own<|AN (Cr s k count).2.1,some<|.own<|AN (Cr s k count).2.2,q,v,u,none]=some (.fr<|AN<|CZ<|Cr s k count):=by
  have l1:=Bv (Cr s k count).2.1;have l2:=Bv (Cr s k count).2.2;refine(AL (AL (AL rfl rfl<|LY rfl rfl (by simp;grind)) rfl<|LY rfl rfl (by simp;grind)) (ee rfl rfl)<|LY rfl rfl (by simp;grind)).trans ?_;unfold CZ;rw[NL,NL];unfold AN;rw[List.map_reverse]
  rfl
 rw[sq<|Aq E rfl];have O:=Al (An (ρ:=[iM<|.rd<|Av s,iI k,iI count,iI mode,iI<|(Cr s k count).1,some<|.own<|AN (Cr s k count).2.1,some<|.own<|AN (Cr s k count).2.2,q,v,u,iL<|CZ<|Cr s k count]) (AJ (f:=AG 10) rfl AQ) rfl<|ZH AGg (by clear P;lia)<|ADi F AGg);unfold HM;cases R:Gu (CZ<|Cr s k count)with
 |false=>
  rw[R]at O;exact(sq<|(BC O).trans rfl).trans rfl
 |true=>
  simp only[R]at O;have H:count=(count.toNat):=AGg
  have I:A5 OL 1 [2] (Aa 0) BP cW [iM<|.rd<|Av s,iI k,iI count,iI mode,iI<|(Cr s k count).1,some<|.own<|AN (Cr s k count).2.1,some<|.own<|AN (Cr s k count).2.2,q,v,u,iL<|CZ<|Cr s k count]=some (.fr<|AN<|FD count):=by
   refine B4 (CW (by rw[<-H];rfl) U) (by simp;lia) ?_
   delta FD AN
   simp only[AHT];refine Fg λj t=>⟨_,.cl<|pv ((j),0-(j)*(count-1-j)),rfl,?_,rfl⟩;have C9:=AGq.mp t;exact D7 (AJ rfl<|AJ (MK rfl<|AL rfl rfl<|Fz<|Ff U) AQ) rfl
  exact(sq<|(Bc O).trans<|Aq I rfl).trans rfl
def wx(s:List Int)(k:Int):Nat->Int
 |0=>0
 |i+1=>wx s k i+1+Ad s (k+5+(i:Int))%4
def wy(s:List Int)(k:Int):Nat->Int
 |0=>0
 |i+1=>wy s k i+1+Ad s (k+5+(i:Int)) / 4%4
def NZ(s:List Int)(k:Int):List Pt:=
 [(wx s k 0,wy s k 0),(wx s k 5,wy s k 0),(wx s k 5,wy s k 5),(wx s k 1,wy s k 5),(wx s k 1,wy s k 2),(wx s k 3,wy s k 2),(wx s k 3,wy s k 3),(wx s k 2,wy s k 3),(wx s k 2,wy s k 4),(wx s k 4,wy s k 4),(wx s k 4,wy s k 1),(wx s k 0,wy s k 1)]
noncomputable def upTo(f:Nat->Int)(n:Nat):List PV:=(List.range<|n+1).map λi=>PV.int<|f i
theorem mw(f:Nat->Int)(n:Nat):upTo f (n+1)=upTo f n ++ [.int<|f<|n+1]:=by unfold upTo;rw[AIT,AHS];rfl
theorem mm(f:Nat->Int)(n:Nat):Am (.bo<|upTo f n) (.cl<|.int (-1))=cI (f n):=by
 show(CD (upTo f n) (-1)).map _=_;have:CD (upTo f n) (-1)=some (.int<|f n):=by
  have z:(upTo f n).length=n+1:=by simp[upTo]
  delta CD GN
  rw[z,AGp U,AGo (by clear z;lia),show(-1+((n+1:Nat):Int)).toNat=n by lia];simp[upTo]
 rw[this];rfl
theorem iR(l:List PV)(p:PV)(h:l.length<1000):Ef l [p]=some (l ++ [p]):=by unfold Ef;dsimp only;rw[AGo h]
theorem oR(s:List Int)(k:Int)(h0:0<=k):Uc [.rd<|Av s,.int k]=some (.fr<|AN<|NZ s k):=by
 refine BY rfl ?_;show AM _ _ [iM<|.rd<|Av s,iI k,some<|.own [.int 0],some<|.own [.int 0],none,none,none]=_;have q:CQ OK [iM<|.rd<|Av s,iI k,some<|.own [.int 0],some<|.own [.int 0],none,none,none]=some ((List.range 5).map λd:Nat=>PV.int<|d):=CW rfl U;obtain⟨ρ',e,z,y,rfl⟩:=IB (enc:=λd:Nat=>PV.int<|d) (gt:=Aa 4) (body:=Ve)
  (λ(u)(_)=>u) (λi _ ρ=>∃z y,ρ=[iM<|.rd<|Av s,iI k,some<|.own<|upTo (wx s k) i,some<|.own<|upTo (wy s k) i,z,y,none]) (xs:=List.range 5) (b:=()) ⟨none,none,rfl⟩ (by
  rintro i d hd _ ρ ⟨z,y,rfl⟩;have v:=by have:=(AGs.mp hd).2;simpa using this.symm
  have vP:=by have:=(AGs.mp hd).1;simpa using this
  subst v;rw[AI0];have JK:(upTo (wx s k) d).length=d+1:=by simp[upTo]
  have LS:(upTo (wy s k) d).length=d+1:=by simp[upTo]
  refine⟨_,[iM<|.rd<|Av s,iI k,some<|.own<|upTo (wx s k)<|d+1,some<|.own<|upTo (wy s k)<|d+1,iI d,iI<|Ad s<|k+5+(d),none],rfl,?_,_,_,rfl⟩
  delta Ve
  rw[sq<|Aq (Fi rfl rfl U) rfl];simp only[mw,mw,wx,wy];refine(sq<|S0 rfl (AJ (Jy (Jy (AL rfl rfl<|mm _ _) rfl)<|D5 4 rfl) AQ) rfl<|iR _ _ U).trans ?_;exact(S0 rfl (AJ (Jy (Jy (AL rfl rfl<|mm _ _) rfl)<|D5 4<|Ew 4 rfl) AQ) rfl<|iR _ _ U))
 rw[sq<|(Bu q).trans e];refine(sq<|Aq rfl rfl).trans ?_;exact IH rfl
theorem aF(r:List Pt)(n:Nat)(h:n<=r.length):MF (AN r) none (some<|n)=AN (r.take n):=by unfold MF;rw[HT.lJ,HT.lI,Bv,AKo,Nat.sub_zero,Nat.min_eq_left h,AN,AN,List.map_take]
theorem qm(r:List Pt)(n:Nat)(h:n<=r.length):MF (AN r) (some<|n) none=AN (r.drop n):=by unfold MF;rw[HT.lJ,HT.lI,Bv,Nat.min_eq_left h,AJB (by simp[AN]),AN,AN,List.map_drop]
theorem eh{n:Nat}(e:f ρ=some rv)(z:rv.list=some (AN r))(y:g ρ=cI n)(h:n<=r.length):GK f Gr (GJ g) ρ=some (.fr<|AN<|r.take n):=by
 delta GK Gr GJ
 rw[e,y];dsimp only;rw[z];dsimp only;rw[aF r n h]
theorem eW{n:Nat}(e:f ρ=some rv)(z:rv.list=some (AN r))(y:g ρ=cI n)(h:n<=r.length):GK f (GJ g) Gr ρ=some (.fr<|AN<|r.drop n):=by
 delta GK Gr GJ
 rw[e,y];dsimp only;rw[z];dsimp only;rw[qm r n h]
noncomputable def Dw(r:List Pt)(c:Int):Nat:=(c%(r.length:Int)).toNat
theorem TM(h:0<r.length)(c:Int):Dw r c<r.length:=by have h2:=AG4 c (b:=(r.length))<|E3 h;unfold Dw;lia
theorem kT(h:0<r.length)(c:Int):c%(r.length)=(Dw r c):=by have h1:=AHE c (b:=(r.length))<|IC h;unfold Dw;lia
def FU(r:List Pt)(c:Int):Pt:=((AA r<|Dw r c).1+c / 16%33-16,(AA r<|Dw r c).2+c / 1024%33-16)
def IE(r:List Pt)(c:Int):List Pt:=r.take (Dw r c) ++ [FU r c]++r.drop (Dw r c+1)
def NK(s:List Int)(k:Int)(r:List Pt)(d:Nat):List Pt:=
 let c:=Ad s<|k+15+(d:Int)
 if(decide (max (Dp (FU r c).1) (Dp (FU r c).2)<80)&&LN (IE r c))=true then IE r c else r
def NJ(s:List Int)(k:Int)(r:List Pt):List Pt:=(List.range (Ad s (k+1) / 4%5).toNat).foldl (NK s k) r
theorem ABX(h:0<r.length)(c:Int):(IE r c).length=r.length:=by
 have:=TM h c;unfold IE;simp only[AHC,AIX,AG6,AHq,AJK]
 grind
theorem oJ(s:List Int)(k:Int)(h0:0<=k)(h1:0<r.length)(h2:r.length<=100):UZ [.rd<|Av s,.int k,.lst<|AN r]=some (.cl<|.lst<|AN<|NJ s k r)/\(NJ s k r).length=r.length:=by
 have hn:Ad s (k+1) / 4%5=((Ad s (k+1) / 4%5).toNat):=U
 have B:CQ cV (A7 9 [.rd<|Av s,.int k,.lst<|AN r])=some ((List.range (Ad s (k+1) / 4%5).toNat).map λd:Nat=>PV.int<|d):=
  CW (AJ (by rw[<-hn];exact D5 5<|Ew 4<|Fi rfl rfl<|EK h0) AQ) U
 obtain⟨ρ',e,⟨Q,z,v,u,p,Z,rfl⟩,G⟩:=XX (gt:=Aa 3) (body:=bU) (NK s k) (λ(q) ρ=>(∃Q z v u p Z,ρ=[iM<|.rd<|Av s,iI k,iL q,Q,z,v,u,p,Z])/\q.length=r.length) (ρ:=A7 9 [.rd<|Av s,.int k,.lst<|AN r]) ⟨⟨none,none,none,none,none,none,rfl⟩,rfl⟩ (by
  rintro d hd q ρ ⟨⟨Q,z,v,u,p,Z,rfl⟩,O⟩;have P:0<q.length:=U
  unfold NK;dsimp only;have D:=Fi (f:=AG 0) (g:=f2 Ay (f2 Ay (AG 1)<|fC<|.int 15)<|AG 3) (ρ:=[iM<|.rd<|Av s,iI k,iL q,iI d,z,v,u,p,Z]) rfl rfl U;generalize Ad s (k+15+(d))=c at D ⊢;have hp:=TM P c;have F:Am (.cl<|.lst<|AN q) (.cl<|.int<|Dw q c)=some (.cl<|pv<|AA q<|Dw q c):=Bz q _ (by clear O;lia) (by clear O;lia);have S:=Bv q;have wU:=ABX P c;have pre:∀h:SF,AM c9 (AM (Ac 5<|f2 BV (AG 4) Iq)<|AM cF<|AM cE<|AM cA h)
    [iM<|.rd<|Av s,iI k,iL q,iI d,z,v,u,p,Z] =
    h [some<|.im<|.rd<|Av s,some<|.im<|.int k,some<|.im<|.lst<|AN q,some<|.im<|.int d,some<|.im<|.int c,some<|.im<|.int<|Dw q c,some<|.im<|.int (FU q c).1,some<|.im<|.int (FU q c).2,some<|.im<|.lst<|AN<|IE q c]:=λh=>by
   rw[sq<|Aq D rfl];refine(sq (Aq (r:=.cl<|.int<|Dw q c) (by rw[<-(kT P c),<-S];exact AL rfl rfl<|EH U) rfl)).trans ?_
   refine(sq<|Aq (MK (Jy (AL (AL rfl rfl F) rfl<|EE _)<|D5 33<|Ew 16 rfl) rfl) rfl).trans ?_;refine(sq<|Aq (MK (Jy (AL (AL rfl rfl F) rfl<|DB _)<|D5 33<|Ew 1024 rfl) rfl) rfl).trans ?_;refine(sq<|Aq (AL (AL (eh rfl rfl rfl AGg) (y:=.fr [pv<|FU q c]) rfl<|LY rfl rfl (by simp[AN];grind)) (eW rfl rfl rfl AGl)<|LY rfl rfl (by simp[AN];grind)) rfl).trans ?_;unfold IE;simp only[NL,NL]
   rfl
  have Y:cJ [iM<|.rd<|Av s,iI k,iL q,iI d,iI c,iI<|Dw q c,iI<|(FU q c).1,iI<|(FU q c).2,iL<|IE q c] = some (decide (max (Dp (FU q c).1) (Dp (FU q c).2)<80)&&LN (IE q c)):=
   Iy (Al<|AL (BO (AJ (BO (AJ rfl AQ)<|O9 _)<|AJ (BO (AJ rfl AQ)<|O9 _) AQ)<|Mm _ _) rfl<|GO _ _) λ_=>Al<|An (AJ rfl AQ) rfl<|nk U
  cases R:(decide (max (Dp (FU q c).1) (Dp (FU q c).2)<80)&&LN (IE q c))with
  |true=>
   rw[R]at Y;rw[AGo rfl];exact⟨_,_,rfl,(pre _).trans<|(Bc Y).trans<|Aq rfl rfl,⟨_,_,_,_,_,_,rfl⟩,U⟩
  |false=>
   rw[R]at Y;exact⟨_,_,rfl,(pre _).trans<|(BC Y).trans rfl,⟨_,_,_,_,_,_,rfl⟩,O⟩)
 refine⟨BY rfl ?_,G⟩;exact(sq<|(Bu B).trans e).trans rfl
noncomputable def II(z:Int)(p:Pt):Pt:=(p.1+z*p.2,p.2)
noncomputable def LJ(p:Pt):Pt:=(0-p.1,p.2)
noncomputable def LK(p:Pt):Pt:=(p.1,0-p.2)
noncomputable def Lp(p:Pt):Pt:=(p.2,p.1)
noncomputable def KZ(x y:Int)(p:Pt):Pt:=(p.1+x,p.2+y)
def EX(s:List Int)(k most:Int):List Pt:=if most=12/\Ad s (k+1) / 20%6=5 then NZ s k else HM s k (3+Ad s k%(most-2))
def Dy(s:List Int)(k:Int):Int:=Ad s (k+2) / 8%3-1
def FV(s:List Int)(k most:Int):List Pt:=NJ s k<|(EX s k most).map<|II<|Dy s k
def IK(s:List Int)(k:Int)(r:List Pt):List Pt:=if Ad s (k+2)%8%2=1 then(r.map LJ).reverse else r
def Lw(s:List Int)(k:Int)(r:List Pt):List Pt:=if Ad s (k+2)%8 / 2%2=1 then(r.map LK).reverse else r
def Tz(s:List Int)(k:Int)(r:List Pt):List Pt:=if Ad s (k+2)%8 / 4=1 then(r.map Lp).reverse else r
def Di(s:List Int)(k most:Int):List Pt:=Tz s k<|Lw s k<|IK s k<|FV s k most
noncomputable def FW(r:List Pt)(n:Nat):List Pt:=r.drop n++r.take n
def drawn(s:List Int)(k most:Int):List Pt:=(FW (Di s k most)<|Dw (Di s k most)<|Ad s<|k+3).map<|KZ (Ad s (k+3) / 16%41-20)<|Ad s (k+4)%41-20
theorem AA6(s:List Int)(k:Int)(h1:3<=count)(z:count<=12):((HM s k count).length)=count:=by
 have h:=(kP s k h1 z).len;unfold HM;split
 .simp[FD];grind
 .rw[Tb];grind
theorem o9(s:List Int)(k:Int)(h1:3<=most)(h2:most<=12):3<=(EX s k most).length/\((EX s k most).length)<=most:=by
 unfold EX;split
 .simp[NZ];lia
 .have a:=AHE (Ad s k) (b:=most-2) U;have b:=AG4 (Ad s k) (b:=most-2) (by clear a;lia);have:=AA6 s k (count:=3+Ad s k%(most-2)) AGi (by clear h1;omega);omega
theorem Yv(s:List Int)(k:Int)(r:List Pt):(IK s k r).length=r.length:=by unfold IK;split<;>simp
theorem ma(s:List Int)(k:Int)(r:List Pt):(Lw s k r).length=r.length:=by unfold Lw;split<;>simp
theorem AFD(s:List Int)(k:Int)(r:List Pt):(Tz s k r).length=r.length:=by unfold Tz;split<;>simp
theorem ADc(r:List Pt)(q:Pt->Pt):(r.map<|pv∘q).reverse=AN ((r.map q).reverse):=by unfold AN;rw[List.map_reverse,AHT]
theorem oN(s:List Int)(k most:Int)(h0:0<=k)(h1:3<=most)(S:most<=12):Ua [.rd<|Av s,.int k,.int most]=some (.fr<|AN<|drawn s k most)/\3<=(drawn s k most).length/\((drawn s k most).length)<=most:=by
 have T:=o9 s k h1 S;have F:=oJ s k h0 (r:=(EX s k most).map<|II<|Dy s k) (by simp;omega) (by simp;lia);have C:(FV s k most).length=(EX s k most).length:=by simp only[FV,F.2,AGm]
 have wU:(Di s k most).length=(EX s k most).length:=by simp only[Di,AFD,ma,Yv,C]
 have Fs:(drawn s k most).length=(EX s k most).length:=by
  delta drawn FW
  simp only[AGm,AHC,AJK,AIX]
  grind
 refine⟨?_,U,U⟩;refine BY rfl ?_;unfold au;have em:=AHE (Ad s k) (b:=most-2) U;have em2:=AG4 (Ad s k) (b:=most-2) U;rw[sq<|Aq (Fi rfl rfl h0) rfl];rw[sq<|Aq (An (AJ rfl<|AJ rfl<|AJ (Jy rfl<|AL rfl rfl<|EH U) AQ) rfl<|oG s k (3+Ad s k%(most-2)) h0 AGi U) rfl];show AM _ _ [iM<|.rd<|Av s,iI k,iI most,iI<|Ad s k,iL<|HM s k<|3+Ad s k%(most-2),none,none,none,none,none]=_;have E:bY [iM<|.rd<|Av s,iI k,iI most,iI<|Ad s k,iL<|HM s k<|3+Ad s k%(most-2),none,none,none,none,none] = some (.nx [iM<|.rd<|Av s,iI k,iI most,iI<|Ad s k,iL<|EX s k most,none,none,none,none,none]):=by
  have y:=Iy (LC (f:=AG 2) (ρ:=[iM<|.rd<|Av s,iI k,iI most,iI<|Ad s k,iL<|HM s k<|3+Ad s k%(most-2),none,none,none,none,none]) 12 rfl) λ_=>LC 5<|D5 6<|Ew 20<|Fi (f:=AG 0) (g:=f2 Ay (AG 1)<|fC<|.int 1) rfl rfl<|EK h0;unfold EX;by_cases hc:most=12/\Ad s (k+1) / 20%6=5
  .rw[show(most==12&&Ad s (k+1) / 20%6==5)=true by simp[hc.1,hc.2]]at y;rw[AGo hc];exact(Bc y).trans (Aq (An (AJ rfl<|AJ rfl AQ) rfl<|oR s k h0) rfl)
  .rw[show(most==12&&Ad s (k+1) / 20%6==5)=false by rw[AIg];intro z;simp at z;exact hc z]at y
   rw[AGp hc];exact(BC y).trans rfl
 rw[sq E];have R:∀(v u Z Y Q O:Option SV),RL [iM<|.rd<|Av s,iI k,iI most,iI<|Ad s k,v,u,Z,Y,Q,O]=cI (Ad s<|k+2):=λ_ _ _ _ _ _=>Fi rfl rfl U;have B:∀(v u Z Y Q O:Option SV),RM [iM<|.rd<|Av s,iI k,iI most,iI<|Ad s k,v,u,Z,Y,Q,O]=cI (Ad s<|k+3):=λ_ _ _ _ _ _=>Fi rfl rfl U;have H:∀(v u Z Y Q O:Option SV),AW E8 (AH (AG 0)<|AH (f2 Ay (AG 1)<|fC<|.int 4) AO) [iM<|.rd<|Av s,iI k,iI most,iI<|Ad s k,v,u,Z,Y,Q,O]=cI (Ad s<|k+4):=λ_ _ _ _ _ _=>Fi rfl rfl U;rw[sq<|Aq (MK (D5 3<|Ew 8<|R _ _ _ _ _ _) rfl) rfl];show AM _ _ [iM<|.rd<|Av s,iI k,iI most,iI<|Ad s k,iL<|EX s k most,iI<|Dy s k,none,none,none,none]=_;have I:A5 Jv 2 [5] Gq BP de [iM<|.rd<|Av s,iI k,iI most,iI<|Ad s k,iL<|EX s k most,iI<|Dy s k,none,none,none,none] = some (.fr<|AN<|(EX s k most).map<|II<|Dy s k):=by unfold AN;rw[AHT];refine VL rfl rfl U λp _=>⟨.cl<|pv<|II (Dy s k) p,?_,rfl⟩;exact D7 (AJ (Jy rfl<|AL rfl rfl<|Fz<|Ff (by unfold Dy;lia))<|AJ rfl AQ) rfl
 rw[sq<|Aq (An (AJ rfl<|AJ rfl<|AJ I AQ) rfl F.1) rfl];show AM _ _ [iM<|.rd<|Av s,iI k,iI most,iI<|Ad s k,iL<|FV s k most,iI<|Dy s k,none,none,none,none]=_;rw[sq<|Aq (D5 8<|R _ _ _ _ _ _) rfl];show AM _ _ [iM<|.rd<|Av s,iI k,iI most,iI<|Ad s k,iL<|FV s k most,iI<|Dy s k,iI<|Ad s (k+2)%8,none,none,none]=_;have tn:∀(q:Pt->Pt)(f:EF)(t:BF)(b:Bool)(r:List Pt),r.length<=1000->t [iM<|.rd<|Av s,iI k,iI most,iI<|Ad s k,iL r,iI<|Dy s k,iI<|Ad s (k+2)%8,none,none,none]=some b->(∀p:Pt,f [iI p.1,iI p.2]=some (.cl<|pv<|q p))->Au t (Ac 4<|Gs<|A5 Jv 2 [] Gq BP f) A8 [iM<|.rd<|Av s,iI k,iI most,iI<|Ad s k,iL r,iI<|Dy s k,iI<|Ad s (k+2)%8,none,none,none] = some (.nx [some<|.im<|.rd<|Av s,some<|.im<|.int k,some<|.im<|.int most,some<|.im<|.int<|Ad s k,some (.im (.lst (AN (if b=true then(r.map q).reverse else r)))),some<|.im<|.int<|Dy s k,some<|.im<|.int<|Ad s (k+2)%8,none,none,none]):=λq f t b r x y a=>by
  cases b with
  |false=>exact(BC y).trans rfl
  |true=>
   rw[AGo rfl,Bc y];rw[<-ADc];exact Aq (ee (VL (f:=AG 4) (ρ:=[iM<|.rd<|Av s,iI k,iI most,iI<|Ad s k,iL r,iI<|Dy s k,iI<|Ad s (k+2)%8,none,none,none]) (cap:=[]) (h:=pv∘q) rfl rfl x λp _=>⟨_,a p,rfl⟩) rfl) rfl
 have P:∀i n:Int,∀r D:List Pt,(if(i==n)=true then r else D)=(if i=n then r else D):=λi n r D=>by
  by_cases h:i=n
  .rw[AGo (by simpa using h),AGo h]
  .rw[AGp (by simpa using h),AGp h]
 have t1:=tn LJ (A6<|AH (f2 BI (fC<|.int 0)<|AG 0) Cj) _ _ (FV s k most) U (LC (f:=f2 BV (AG 6)<|fC<|.int 2) 1<|D5 2 rfl) λp=>rfl;rw[P]at t1;have t2:=tn LK (A6<|AH (AG 0)<|AH (f2 BI (fC<|.int 0)<|AG 1) AO) _ _ (IK s k<|FV s k most) (by rw[Yv];lia) (LC (f:=f2 BV (f2 Cd (AG 6)<|fC<|.int 2)<|fC<|.int 2) 1<|D5 2<|Ew 2 rfl) λp=>rfl;rw[P]at t2;have t3:=tn Lp (A6 Hf) _ _ (Lw s k<|IK s k<|FV s k most) (by rw[ma,Yv];lia) (LC (f:=f2 Cd (AG 6)<|fC<|.int 4) 1<|Ew 4 rfl) λp=>rfl;rw[P]at t3;rw[sq t1];refine(sq t2).trans ?_;refine(sq t3).trans ?_;show AM _ _ [iM<|.rd<|Av s,iI k,iI most,iI<|Ad s k,iL<|Di s k most,iI<|Dy s k,iI<|Ad s (k+2)%8,none,none,none]=_;have G:0<(Di s k most).length:=U
 have AGN:=TM G<|Ad s<|k+3;have e:f2 BV RM OJ [iM<|.rd<|Av s,iI k,iI most,iI<|Ad s k,iL<|Di s k most,iI<|Dy s k,iI<|Ad s (k+2)%8,none,none,none] = cI (Dw (Di s k most)<|Ad s<|k+3):=by rw[<-(kT G<|Ad s<|k+3)];exact AL (B _ _ _ _ _ _) (by rw[<-Bv];rfl)<|EH (by cases T;lia)
 rw[sq<|Aq e rfl];refine(sq<|Aq (MK (D5 41<|Ew 16<|B _ _ _ _ _ _) rfl) rfl).trans ?_;refine(sq<|Aq (MK (D5 41<|H _ _ _ _ _ _) rfl) rfl).trans ?_;refine IH ?_;show A5 _ _ _ _ _ _ [iM<|.rd<|Av s,iI k,iI most,iI<|Ad s k,iL<|Di s k most,iI<|Dy s k,iI<|Ad s (k+2)%8,iI<|Dw (Di s k most)<|Ad s<|k+3,iI<|Ad s (k+3) / 16%41-20,iI<|Ad s (k+4)%41-20]=_;unfold drawn;have Rt:=VL (f:=df) (fe:=dg) (cap:=[8,9]) (h:=pv∘KZ (Ad s (k+3) / 16%41-20) (Ad s (k+4)%41-20)) (ρ:=[iM<|.rd<|Av s,iI k,iI most,iI<|Ad s k,iL<|Di s k most,iI<|Dy s k,iI<|Ad s (k+2)%8,iI<|Dw (Di s k most)<|Ad s<|k+3,iI<|Ad s (k+3) / 16%41-20,iI<|Ad s (k+4)%41-20]) (rv:=.fr<|AN<|FW (Di s k most)<|Dw (Di s k most)<|Ad s<|k+3) (by refine(AL (eW rfl rfl rfl AGg) (eh rfl rfl rfl U)<|LY rfl rfl (by simp[AN];grind)).trans ?_;unfold FW;rw[NL]) rfl (by unfold FW;simp;lia) λp _=>⟨.cl<|pv<|KZ (Ad s (k+3) / 16%41-20) (Ad s (k+4)%41-20) p,rfl,rfl⟩
 rw[Rt];unfold AN;rw[AHT]
theorem xQ{x y:RV}(z:PySem.SeqAt.shaped (Ag x.any)=true)(q:PySem.SeqAt.shaped (Ag y.any)=true)(h:PySem.PyData.eqv (Ag x.any) (Ag y.any)=b):Bg x y=cB b:=by unfold Bg;rw[AGo ⟨z,q⟩,h]
open AI (AE Ab Az BH AA M nb At Keeps Rm Rows Bq)
theorem Yy:∀(l acc:List<|List Int),(Internal.ST.Em acc l).length<=acc.length+l.length/\((Internal.ST.Em acc l).length=acc.length+l.length↔(l.Nodup/\∀x∈l,x∉acc))
 |[],acc=>by delta Internal.ST.Em;simp
 |k::r,acc=>by
  unfold Internal.ST.Em;by_cases y:k∈acc
  .rw[AGo y];obtain⟨h1,q⟩:=Yy r acc;refine⟨by rw[AG6];lia,⟨λh=>by simp only[AG6]at h;lia,λh=>absurd y (h.2 k AGw)⟩⟩
  .rw[AGp y];obtain⟨h1,q⟩:=Yy r (k::acc);simp only[AG6]at h1 q;refine⟨by rw[AG6];lia,?_⟩;rw[AG6,show acc.length+(r.length+1)=acc.length+1+r.length by lia,q,AIQ];constructor
   .rintro⟨a,b⟩;refine⟨⟨λhm=>b k hm AGw,a⟩,λx z=>?_⟩;rcases AGz.mp z with rfl|z
    .exact y
    .exact λhm=>b x z<|AGr _ hm
   .rintro⟨⟨a,b⟩,c⟩;refine⟨b,λx z hm=>?_⟩;rcases AGz.mp hm with rfl|hm
    .exact a z
    .exact c x (AGr _ z) hm
theorem xu(r:List Pt):(kl r).Nodup↔r.Nodup:=by
 delta kl List.Nodup
 rw[AIf];constructor
 .exact λh=>h.imp λz e=>z<|by rw[e]
 .exact λh=>h.imp λ{a b} z e=>z (by simp only[AKd,and_true]at e;exact AID e.1 e.2)
theorem bN(r:List Pt):dist r=r.length↔r.Nodup:=by have:=(Yy (kl r) []).2;unfold dist;rw[show(kl r).length=r.length from AGm ..]at this;rw[show r.length=([]).length+r.length by simp,this,xu];simp
theorem Qk(r:List Pt):Jh r=true↔∀k:Nat,k<r.length->AE (AA r<|(k)-2) (AA r<|(k)-1) (AA r k)≠0:=by unfold Jh;simp[AH9]
theorem U7(h0:0<r.length)(h:Jh r=true)(k:Int):AE (AA r<|k-2) (AA r<|k-1) (AA r k)≠0:=by
 have b:=AG4 k (b:=(r.length))<|E3 h0;have:=(Qk r).mp h (k%(r.length)).toNat U;rw[AHB<|AHE k (b:=(r.length))<|IC h0]at this;have e:∀d:Int,AA r (k%(r.length)-d)=AA r (k-d):=λd=>by unfold AI.AA;rw[Int.emod_sub_emod]
 simp only[e,e,AI.Er]at this;exact this
theorem Kd(r:List Pt):DI r=true↔Rm r/\∀p∈r,Bd 100 p:=by
 unfold DI;simp only[AGx,AG0,AIA,AH9,Xi,ZZ];constructor
 .rintro⟨⟨h1,h2⟩,h3,z,y,q,v⟩;have hd:dist r=r.length:=U
  exact⟨⟨U,U,(bN r).mp hd,U7 U y,AI.U2 U q,v⟩,z⟩
 .rintro⟨R,h⟩;have h3:=R.l3;have BK:=R.PM;refine⟨⟨U,U⟩,by rw[(bN r).mpr R.nd],h,(Qk r).mpr λk _=>R.N8 k,AI.ot R.apart,R.Ie⟩
theorem xf(z:Int):Keeps (II z) 1 where
 one:=.inl rfl
 sd:=λa b c=>by delta AE II;grind
 at_:=λa b p=>by
  delta At II
  constructor
  .rintro⟨q,s,h1,y,h3,v,u⟩;exact⟨q,s,h1,y,h3,by dsimp only at *;grind,by dsimp only at *;grind⟩
  .rintro⟨q,s,h1,y,h3,v,u⟩;exact⟨q,s,h1,y,h3,by dsimp only at *;grind,by dsimp only at *;grind⟩
 inj:=λa b h=>by unfold II at h;rw[AJO]at h;obtain⟨h1,y⟩:=h;rw[y]at h1;exact AID U y
theorem xc(x y:Int):Keeps (KZ x y) 1 where
 one:=.inl rfl
 sd:=λa b c=>by delta AE KZ;grind
 at_:=λa b p=>by
  delta At KZ
  constructor
  .rintro⟨q,s,h1,z,h3,v,u⟩;exact⟨q,s,h1,z,h3,by dsimp only at *;grind,by dsimp only at *;grind⟩
  .rintro⟨q,s,h1,z,h3,v,u⟩;exact⟨q,s,h1,z,h3,by dsimp only at *;grind,by dsimp only at *;grind⟩
 inj:=λa b h=>by unfold KZ at h;rw[AJO]at h;exact AID U U
theorem xZ:Keeps LJ (-1) where
 one:=.inr rfl
 sd:=λa b c=>by delta AE LJ;grind
 at_:=λa b p=>by
  delta At LJ
  constructor
  .rintro⟨q,s,h1,z,h3,y,v⟩;exact⟨q,s,h1,z,h3,AGg,by dsimp only at *;grind⟩
  .rintro⟨q,s,h1,z,h3,y,v⟩;exact⟨q,s,h1,z,h3,by dsimp only at *;grind,by dsimp only at *;grind⟩
 inj:=λa b h=>by unfold LJ at h;rw[AJO]at h;exact AID U U
theorem xa:Keeps LK (-1) where
 one:=.inr rfl
 sd:=λa b c=>by delta AE LK;grind
 at_:=λa b p=>by
  delta At LK
  constructor
  .rintro⟨q,s,h1,z,h3,y,v⟩;exact⟨q,s,h1,z,h3,by dsimp only at *;grind,AGg⟩
  .rintro⟨q,s,h1,z,h3,y,v⟩;exact⟨q,s,h1,z,h3,by dsimp only at *;grind,by dsimp only at *;grind⟩
 inj:=λa b h=>by unfold LK at h;rw[AJO]at h;exact AID U U
theorem xg:Keeps Lp (-1) where
 one:=.inr rfl
 sd:=λa b c=>by delta AE Lp;grind
 at_:=λa b p=>by
  delta At Lp
  constructor
  .rintro⟨q,s,h1,z,h3,y,v⟩;exact⟨q,s,h1,z,h3,by dsimp only at *;grind,by dsimp only at *;grind⟩
  .rintro⟨q,s,h1,z,h3,y,v⟩;exact⟨q,s,h1,z,h3,by dsimp only at *;grind,by dsimp only at *;grind⟩
 inj:=λa b h=>by unfold Lp at h;exact AID U U
theorem Jp{r:List Pt}(h:i<r.length):AA r (i)=r[i]:=by unfold AI.AA;rw[AGn Bj<|Ce h];simp[List.getD,h]
theorem Qx(r:List Pt):AA r (r.length)=AA r 0:=by have:=AI.EY r 0;rw[AHW]at this;exact this
theorem lE{r:List Pt}(R:Rows r.length m λi=>AA r<|i)(q:r.length<=12)(v:Jh r=true):Rm r:=by
 have h3:=R.h3;refine⟨h3,q,?_,U7 (Bn h3) v,AI.U2 U λk j h0 h1 h2 hn=>?_,?_⟩
 .refine AHy.mpr λi j hi z u=>?_;have:=R.inj u z;rw[Jp hi,Jp z]at this;exact this
 .have y:=AI.fL (F0 h1) U hn;unfold AI.CK at y;rw[AGn (F1 h1) U]at y;have:=R.apart (i:=k.toNat) (j:=j.toNat) AGg U (by clear hn;grind) AGg;rw[show((k.toNat))=k by lia,show((k.toNat+1:Nat))=k+1 by lia,show((j.toNat))=j by grind,show((j.toNat+1:Nat))=j+1 by grind]at this;exact AI.jR this
 .have:=R.Ie;simp only[AI.Qi];rw[AI.DC]at this
  .exact this
  .intro i _;unfold AI.Jl;rw[show(((i:Int).toNat):Int)=i by lia,show((((i:Int)+1).toNat):Int)=i+1 by lia]
structure N1(mode:Int)(i:Nat)(b:Int×List Pt×List Pt):Prop where
 lo:0<=b.1
 hi:b.1<=4*i
 m3:mode=3->b.1=i
 len:b.2.1.length+b.2.2.length=i
 lp:b.2.1.Pairwise λp q=>p.1<q.1
 hp:b.2.2.Pairwise λp q=>p.1<q.1
 bl:∀p∈b.2.1,1<=p.1/\p.1<=b.1/\-30<=p.2/\p.2<=-1
 bh:∀p∈b.2.2,1<=p.1/\p.1<=b.1/\1<=p.2/\p.2<=30
theorem jb{a b:Int}(ha:1<=a)(z:1<=b)(h:a+b<=11):1<=a*b/\a*b<=30:=by
 have h1:=AG1 (by exact PZ ha:0<a) (by exact PZ z:0<b);have h2:0<=(a-b)*(a-b):=by
  rcases AIn a b with h|h
  .exact AIu U U
  .exact AGu (Cp h)<|Cp h
 have h3:=Int.mul_le_mul h h U U;lia
theorem AA8{k count mode:Int}{i:Nat}{b:Int×List Pt×List Pt}(h1:3<=count)(h2:count<=12)(hi:(i)<count-2)(h:N1 mode i b):N1 mode (i+1)<|F5 s k count mode b i:=by
 obtain⟨q,low,By⟩:=b;obtain⟨lo,hh,m3,len,lp,hp,bl,bh⟩:=h;dsimp only at lo hh m3 len lp hp bl bh;unfold F5;dsimp only;generalize ec:Ad s (k+4+(1+(i)))=c;have Z:∀x,(if mode=3 then 1+(i:Int)else q+1+c / 2%4)=x->q<x/\x<=4*((i)+1)/\(mode=3->x=i+1):=λx e=>by
  subst e;by_cases hm:mode=3
  .rw[AGo hm];exact⟨U,U,λ_=>U⟩
  .rw[AGp hm];exact⟨U,U,λz=>absurd z hm⟩
 have Y:∀y,(if mode=3 then(1+(i))*(count-1-(1+(i)))else 1+c / 8%9)=y->1<=y/\y<=30:=λy e=>by
  subst e;by_cases hm:mode=3
  .rw[AGo hm];exact jb U U U
  .rw[AGp hm];lia
 generalize ex:(if mode=3 then 1+(i:Int)else q+1+c / 2%4)=x;generalize Q:(if mode=3 then(1+(i))*(count-1-(1+(i)))else 1+c / 8%9)=y;obtain⟨hx1,W6,u⟩:=Z x ex;have W8:=Y y Q;split
 .refine⟨by dsimp only;lia,by push_cast;omega,λz=>by exact u z,by simp;lia,?_,hp,λp hp=>?_,λp hp=>?_⟩
  .refine AHp.mpr ⟨lp,AGh,λa ha b v=>?_⟩;rw[AG3.mp v];have:=bl a ha;dsimp only;lia
  .rcases AHJ.mp hp with z|z
   .have:=bl p z;dsimp only;grind
   .rw[AG3.mp z];dsimp only;and_intros<;>lia
  .have:=bh p hp;dsimp only;grind
 .refine⟨by dsimp only;lia,by push_cast;lia,λz=>by exact u z,by simp;lia,lp,?_,λp hp=>?_,λp hp=>?_⟩
  .refine AHp.mpr ⟨hp,AGh,λa ha b v=>?_⟩;rw[AG3.mp v];have:=bh a ha;dsimp only;lia
  .have:=bl p hp;dsimp only;lia
  .rcases AHJ.mp hp with z|z
   .have:=bh p z;dsimp only;lia
   .rw[AG3.mp z];dsimp only;and_intros<;>lia
theorem kR{k count mode:Int}(h1:3<=count)(z:count<=12):∀n:Nat,(n)<=count-2->N1 mode n ((List.range n).foldl (F5 s k count mode) (0,[],[]))
 |0,_=>⟨AGh,AGh,λ_=>rfl,rfl,.nil,.nil,(λp hp=>by cases hp),(λp hp=>by cases hp)⟩
 |n+1,hn=>by rw[AIT,AJn];exact AA8 h1 z AGl<|kR h1 z n U
theorem ADj(h:N1 mode i b)(hi:1<=i):Rows (CZ b).length b.2.1.length λi=>AA (CZ b)<|i:=by
 obtain⟨y,low,v⟩:=b;obtain⟨lo,hh,m3,len,lp,hp,bl,bh⟩:=h;dsimp only at lo hh m3 len lp hp bl bh ⊢;have P:(CZ (y,low,v)).length=low.length+v.length+2:=Tb _;have D:CZ (y,low,v)=((0,0)::(low ++ [(y+1,0)]))++v.reverse:=by simp[CZ]
 have F:CZ (y,low,v) ++ [(0,0)]=((0,0)::low)++((y+1,0)::(v.reverse ++ [(0,0)])):=by simp[CZ]
 have R:((0,0)::(low ++ [(y+1,0)]):List Pt).Pairwise λp q=>p.1<q.1:=by
  refine AJf.mpr ⟨λp hp=>?_,AHp.mpr ⟨lp,AGh,λa ha c hc=>?_⟩⟩
  .rcases AHJ.mp hp with z|z
   .have:=bl p z;dsimp only;omega
   .rw[AG3.mp z];dsimp only;lia
  .rw[AG3.mp hc];have:=bl a ha;dsimp only;omega
 have pt:((y+1,0)::(v.reverse ++ [(0,0)]):List Pt).Pairwise λp q=>q.1<p.1:=by
  refine AJf.mpr ⟨λp hp=>?_,AHp.mpr ⟨List.pairwise_reverse.mpr hp,AGh,λa ha c hc=>?_⟩⟩
  .rcases AHJ.mp hp with z|z
   .have:=bh p<|AI3.mp z;dsimp only;omega
   .rw[AG3.mp z];dsimp only;lia
  .rw[AG3.mp hc];have:=bh a<|AI3.mp ha;dsimp only;omega
 have Y:∀j:Nat,(u:j<=low.length+1)->AA (CZ (y,low,v)) (j)=((0,0)::(low ++ [(y+1,0)]):List Pt)[j]'(by simp;lia):=λj u=>by rw[Jp (by clear len;lia)];simp only[D];rw[AI4]
 have gt:∀j:Nat,(h1:low.length+1<=j)->(u:j<=low.length+v.length+2)->AA (CZ (y,low,v)) (j)=((y+1,0)::(v.reverse ++ [(0,0)]):List Pt)[j-(low.length+1)]'(by simp;clear len;grind):=λj h1 u=>by
  have e:AA (CZ (y,low,v)) (j)=(CZ (y,low,v) ++ [(0,0)])[j]'(by simp[P];clear len;lia):=by
   by_cases O:j<(CZ (y,low,v)).length
   .simp only[Jp O,AI4 O]
   .have Q:j=(CZ (y,low,v)).length:=by clear len;lia
    subst Q;rw[Qx];have:=by have:=Y 0 U;simpa using this
    simp only[this];simp
  rw[e];simp only[F];rw[List.getElem_append_right (by simp;assumption)];simp
 refine⟨U,U,Qx _,λj u=>?_,λj h1 u=>?_,?_,?_,λj h1 u=>?_,λj h1 u=>?_⟩
 .rw[Y j<|M5 u,Y (j+1)<|Pf u];exact AHy.mp R j (j+1) (by simp;lia) (by simp;exact KW u) FP
 .rw[gt j h1 U,gt (j+1) U U];exact AHy.mp pt (j-(low.length+1)) (j+1-(low.length+1)) (by simp;clear h1;omega) (by simp;grind) AGg
 .rfl
 .rw[Y (low.length+1) U];simp
 .rw[Y j<|M5 u];obtain⟨Z,rfl⟩:∃Z,j=Z+1:=⟨j-1,U⟩;rw[AJA,AI4 U];have:=bl _<|AJL (n:=Z) U;omega
 .rw[gt j U U];obtain⟨Z,Q⟩:∃Z,j-(low.length+1)=Z+1:=⟨j-(low.length+1)-1,AGg⟩;simp only[Q];rw[AJA,AI4 (by simp;clear h1;omega)];have:=bh _ (AI3.mp<|AJL (n:=Z) (by simp;lia));omega
theorem Jj{c:Int}{i:Nat}(h:(i)<c):AA (FD c) (i)=((i:Int),0-(i)*(c-1-i)):=by rw[Jp (by simp[FD];assumption)];simp[FD]
theorem AD2(u v w d:Int):AE (u,0-u*(d-u)) (v,0-v*(d-v)) (w,0-w*(d-w))=(v-u)*(w-u)*(w-v):=by unfold AE;grind
theorem pS(h:0<=c):((FD c).length)=c:=by simp[FD];lia
theorem pT(h1:3<=c)(h2:c<=12):Rm<|FD c:=by
 have z:=pS (c:=c) U;refine lE (m:=c.toNat-2) ⟨AGg,U,Qx _,λi hi=>?_,λi hi p=>?_,?_,?_,λi hi p=>?_,λi hi p=>AGg⟩ U<|(Qk _).mpr λk hk=>?_
 .rw[Jj AGg,Jj AGg];dsimp only;lia
 .have Y:i=c.toNat-1:=AGg
  subst Y;have Q:AA (FD c) ((c.toNat-1+1:Nat))=AA (FD c) 0:=by rw[<-Qx];congr 1;grind
  have Z:=Jj (c:=c) (i:=0) (by clear z;lia);rw[Q,Jj U];rw[show((0:Nat):Int)=0 from rfl]at Z;rw[Z];dsimp only;lia
 .rw[(Jj (c:=c) (i:=0) U)];simp
 .rw[Jj AGg];dsimp only;rw[show c-1-((c.toNat-2+1:Nat))=0 by grind];lia
 .rw[Jj U];dsimp only;have:=AG1 (U:(0:Int)<i) (AGg:0<c-1-(i));omega
 .have e:∀j:Int,0<=j->j<c->AA (FD c) j=(j,0-j*(c-1-j)):=λj h0 h1=>by have:=Jj (c:=c) (i:=j.toNat) (by clear z;lia);rw[AHB h0]at this;exact this
  have q:∀j:Int,-c<=j->j<0->AA (FD c) j=(j+c,0-(j+c)*(c-1-(j+c))):=λj h0 h1=>by rw[<-AI.EY,z];exact e (j+c) U U
  have y:∀u v w:Int,u≠v->u≠w->v≠w->AE (u,0-u*(c-1-u)) (v,0-v*(c-1-v)) (w,0-w*(c-1-w))≠0:=λu v w a b d=>by rw[AD2];exact AJZ (AJZ (Pb a)<|Pb b)<|Pb d
  by_cases LR:2<=k
  .rw[e _ U U,e _ U U,e _ U U];exact y _ _ _ U U U
  .by_cases O:k=1
   .subst O;rw[q _ (by clear z;lia) U,e _ U (by clear z;lia),e _ U U];exact y _ _ _ U U U
   .have P:k=0:=U
    subst P;rw[q _ (by clear z;lia) U,q _ (by clear z;lia) U,e _ U U];exact y _ _ _ U U U
def Ia(p:Pt):Prop:=-41<=p.1/\p.1<=41/\-30<=p.2/\p.2<=30
theorem AA7(s:List Int)(k:Int)(h1:3<=count)(z:count<=12):Rm (HM s k count)/\∀p∈HM s k count,Ia p:=by
 have st:N1 (Ad s (k+1)%4) (count-2).toNat<|Cr s k count:=kR h1 z _ AGi;unfold HM;cases y:Gu (CZ<|Cr s k count)with
 |true=>
  refine⟨pT h1 z,λp hp=>?_⟩;obtain⟨j,q,rfl⟩:=AHb.mp hp;have C9:=AGq.mp q;unfold Ia;dsimp only;by_cases h0:j=0
  .subst h0;simp
  .by_cases hc:(j)=count-1
   .rw[hc,show count-1-(count-1)=0 by lia];lia
   .have:=jb (a:=(j)) (b:=count-1-j) U AGg U;clear h0;grind
 |false=>
  rw[AGp AGh];have hl:=Tb<|Cr s k count;have Bh:=st.len;refine⟨lE (ADj st U) AGg (by rw[fU,y];rfl),λp hp=>?_⟩;unfold CZ at hp;simp only[AHJ,AG3,AI3]at hp;have:=st.lo;have:=st.hi;unfold Ia;rcases hp with((rfl|hp)|rfl)|hp
  .simp
  .have:=st.bl p hp;grind
  .grind
  .have:=st.bh p hp;grind
theorem AFf{a b c d:Pt}(h:a.1<c.1/\a.1<d.1/\b.1<c.1/\b.1<d.1\/a.2<c.2/\a.2<d.2/\b.2<c.2/\b.2<d.2):¬ Bq a b c d:=by
 rcases h with h|h
 .exact AI.YN (max a.1 b.1) (max a.1 b.1+1) AGi AGi U AGi AGi
 .exact AI.ADv (max a.2 b.2) (max a.2 b.2+1) AGi AGi U AGi AGi
noncomputable def EN:List Pt:=[(0,0),(5,0),(5,5),(1,5),(1,2),(3,2),(3,3),(2,3),(2,4),(4,4),(4,1),(0,1)]
noncomputable abbrev Y5(a b c d:Pt):Bool:=decide <| a.1.toNat<c.1.toNat/\a.1.toNat<d.1.toNat/\b.1.toNat<c.1.toNat/\b.1.toNat<d.1.toNat\/a.2.toNat<c.2.toNat/\a.2.toNat<d.2.toNat/\b.2.toNat<c.2.toNat/\b.2.toNat<d.2.toNat
abbrev wbd(a b c:Pt):Prop:=a.1.toNat=b.1.toNat/\b.2.toNat=c.2.toNat/\a.2.toNat≠b.2.toNat/\b.1.toNat≠c.1.toNat\/a.2.toNat=b.2.toNat/\b.1.toNat=c.1.toNat/\a.1.toNat≠b.1.toNat/\b.2.toNat≠c.2.toNat
theorem IP{X:Nat->Int}(h:∀i,X i<X (i+1))(z:i<j):X i<X j:=by
 induction z with
 |refl=>exact h _
 |step _ ih=>exact AK7 ih<|h _
theorem Na{X:Nat->Int}(h:∀i,X i<X (i+1))(y:i≠j):X i-X j≠0:=by
 rcases Nat.lt_or_gt_of_ne y with z|z
 .have:=IP h z;lia
 .have:=IP h z;lia
theorem AFa{X Y:Nat->Int}(y:∀i,X i<X (i+1))(q:∀i,Y i<Y (i+1)):Rm<|EN.map λp=>(X p.1.toNat,Y p.2.toNat):=by
 have hc:∀k,AA (EN.map λp=>(X p.1.toNat,Y p.2.toNat)) k=(X (AA EN k).1.toNat,Y (AA EN k).2.toNat):=AI.Hd AGj;refine⟨by show 3<=12;decide,by show 12<=12;decide,?_,U7 (by show 0<12;decide)<|(Qk _).mpr λk v=>?_,AI.U2 (by show 2<=12;decide) λk m h0 h1 u hn=>?_,?_⟩
 .refine List.Pairwise.map _ (λa b Z e=>?_) (show EN.Pairwise (λa b=>a.1.toNat≠b.1.toNat\/a.2.toNat≠b.2.toNat)by decide);injection e with e1 e2
  rcases Z with z|z
  .exact Na y z U
  .exact Na q z U
 .simp only[hc,hc,hc];unfold AE;rcases(AGk:∀k:Nat,k<12->wbd (AA EN<|(k)-2) (AA EN<|(k)-1) (AA EN k)) k v with⟨a,b,c,d⟩|⟨a,b,c,d⟩
  .have:=AJZ (Na q c)<|Na y d;dsimp only;rw[a,<-b];intro h;grind
  .have:=AJZ (Na y c)<|Na q d;dsimp only;rw[a,<-b];intro h;grind
 .obtain⟨i,rfl⟩:=AKa h0;obtain⟨j,rfl⟩:=AKa (U:0<=m);have Of:(j:Int)<12:=u;have:=(AGk:∀j:Nat,j<12->∀i:Nat,i<j->nb 12 ((j)-i)=false->Y5 (AA EN i) (AA EN<|(i)+1) (AA EN j) (AA EN<|(j)+1)\/Y5 (AA EN j) (AA EN<|(j)+1) (AA EN i) (AA EN<|(i)+1)) j U i (Pg h1) hn;unfold M;simp only[hc,hc,hc,hc];have w:∀{a b c d:Pt},Y5 a b c d->¬ Bq (X a.1.toNat,Y a.2.toNat) (X b.1.toNat,Y b.2.toNat) (X c.1.toNat,Y c.2.toNat) (X d.1.toNat,Y d.2.toNat):=λh=>AFf<|(of_decide_eq_true h).imp (λh=>⟨IP y h.1,IP y h.2.1,IP y h.2.2.1,IP y h.2.2.2⟩) λh=>⟨IP q h.1,IP q h.2.1,IP q h.2.2.1,IP q h.2.2.2⟩;exact AI.jR<|this.elim w λh z=>w h z.symm
 .unfold AI.CP;have a:=y 0;have b:=y 1;have c:=y 2;have d:=y 3;have e:=y 4
  have f:=q 0;have g:=q 1;have h:=q 2;have i:=q 3;have j:=q 4
  have:=AG1 (U:0<X 5-X 4) (U:0<Y 5-Y 0);have:=AG1 (U:0<X 4-X 0) (U:0<Y 1-Y 0);have:=AG1 (U:0<X 4-X 2) (U:0<Y 5-Y 4);have:=AG1 (U:0<X 3-X 2) (U:0<Y 3-Y 2);have:=AG1 (U:0<X 2-X 1) (U:0<Y 5-Y 2);simp[AI.Af,AA,EN,AI.B3]
  grind
theorem nI(s:List Int)(k:Int)(i:Nat):wx s k i<wx s k (i+1)/\wx s k (i+1)<=wx s k i+4:=by simp only[wx];lia
theorem nK(s:List Int)(k:Int)(i:Nat):wy s k i<wy s k (i+1)/\wy s k (i+1)<=wy s k i+4:=by simp only[wy];lia
theorem nH(s:List Int)(k:Int):∀i:Nat,0<=wx s k i/\wx s k i<=4*i
 |0=>by simp[wx]
 |i+1=>by have:=nH s k i;have:=nI s k i;lia
theorem nJ(s:List Int)(k:Int):∀i:Nat,0<=wy s k i/\wy s k i<=4*i
 |0=>by simp[wy]
 |i+1=>by have:=nJ s k i;have:=nK s k i;lia
theorem AFZ(s:List Int)(k:Int):Rm (NZ s k)/\∀p∈NZ s k,Ia p:=by
 refine⟨AFa (λi=>(nI s k i).1) λi=>(nK s k i).1,λp hp=>?_⟩;have z:∀i j:Nat,i<=5->j<=5->Ia (wx s k i,wy s k j):=λi j hi hj=>by have h1:=nH s k i;have h2:=nJ s k j;unfold Ia;dsimp only;and_intros<;>lia
 unfold NZ at hp;simp only[AGz,AH4,AI2]at hp;rcases hp with rfl|rfl|rfl|rfl|rfl|rfl|rfl|rfl|rfl|rfl|rfl|rfl<;>exact z _ _ U U
theorem pC(s:List Int)(k:Int)(h1:3<=most)(h2:most<=12):Rm (EX s k most)/\∀p∈EX s k most,Ia p:=by
 unfold EX;split
 .exact AFZ s k
 .have a:=AHE (Ad s k) (b:=most-2) U;have b:=AG4 (Ad s k) (b:=most-2) U;exact AA7 s k U U
theorem AD4(y:z = -1\/z=0\/z=1)(h:Ia p):Bd 80<|II z p:=by
 unfold Ia at h
 delta Bd II
 dsimp only;rcases y with rfl|rfl|rfl<;>omega
theorem iD(h:Dp i<80) : -80<=i/\i<=80:=by unfold Dp at h;split at h<;>lia
theorem ABW{r:List Pt}(h:Rm r/\∀p∈r,Bd 80 p):Rm (NK s k r d)/\∀p∈NK s k r d,Bd 80 p:=by
 unfold NK;dsimp only;generalize Ad s (k+15+(d))=c;split
 .rename_i hc;simp only[AGx,AG0]at hc;obtain⟨h1,z⟩:=hc;rw[uY]at z;refine⟨((Kd _).mp z).1,λp hp=>?_⟩;unfold IE at hp;simp only[AHJ,AG3]at hp;rcases hp with(hp|rfl)|hp
  .exact h.2 p<|AJ0 hp
  .have a:=iD (i:=(FU r c).1) U;have b:=iD (i:=(FU r c).2) U;exact⟨a.1,a.2,b.1,b.2⟩
  .exact h.2 p<|AJy hp
 .exact h
theorem ABV{r:List Pt}(h:Rm r/\∀p∈r,Bd 80 p):Rm (NJ s k r)/\∀p∈NJ s k r,Bd 80 p:=by
 unfold NJ;generalize List.range (Ad s (k+1) / 4%5).toNat=l
 induction l generalizing r with
 |nil=>exact h
 |cons d l ih=>exact ih<|ABW h
theorem ABY(s:List Int)(k:Int)(h1:3<=most)(y:most<=12):Rm (FV s k most)/\∀p∈FV s k most,Bd 80 p:=by have z:=pC s k h1 y;refine ABV ⟨z.1.map<|xf _,λp hp=>?_⟩;obtain⟨q,v,rfl⟩:=AHb.mp hp;exact AD4 (by unfold Dy;lia)<|z.2 q v
theorem YG{T:Pt->Pt}(k:Keeps T (-1))(z:∀p,Bd 80 p->Bd 80 (T p)){r:List Pt}(h:Rm r/\∀p∈r,Bd 80 p):Rm (r.map T).reverse/\∀p∈(r.map T).reverse,Bd 80 p:=
 ⟨h.1.mapRev k,λp hp=>by obtain⟨q,y,rfl⟩:=AHb.mp<|AI3.mp hp;exact z q<|h.2 q y⟩
theorem AFH(s:List Int)(k:Int)(h1:3<=most)(z:most<=12):Rm (Di s k most)/\∀p∈Di s k most,Bd 80 p:=by
 have h:=ABY s k h1 z;have t1:Rm (IK s k<|FV s k most)/\∀p∈IK s k (FV s k most),Bd 80 p:=by
  unfold IK;split
  .exact YG xZ (λp hp=>by delta Bd LJ at *;dsimp only at *;and_intros<;>lia) h
  .exact h
 have t2:Rm (Lw s k<|IK s k<|FV s k most)/\∀p∈Lw s k (IK s k<|FV s k most),Bd 80 p:=by
  unfold Lw;split
  .exact YG xa (λp hp=>by delta Bd LK at *;dsimp only at *;and_intros<;>lia) t1
  .exact t1
 delta Di Tz;split
 .exact YG xg (λp hp=>by delta Bd Lp at *;dsimp only at *;and_intros<;>lia) t2
 .exact t2
theorem sE(s:List Int)(k:Int)(h1:3<=most)(y:most<=12):Rm (drawn s k most)/\∀p∈drawn s k most,Bd 100 p:=by
 have h:=AFH s k h1 y;have h3:=h.1.l3;have hp:=TM (r:=Di s k most) (Bn h3)<|Ad s<|k+3;refine⟨(h.1.FW U).1.map<|xc _ _,λp hp=>?_⟩;obtain⟨q,v,rfl⟩:=AHb.mp hp;have u:q∈Di s k most:=by
  rcases AHJ.mp v with z|z
  .exact AJy z
  .exact AJ0 z
 have:=h.2 q u;unfold Bd KZ at *
 clear hp;and_intros<;>lia
set_option tactic.hygienic true
theorem sG(s:List Int)(k:Int)(h1:3<=most)(z:most<=12):DI (drawn s k most)=true:=(Kd _).mpr<|sE s k h1 z
open AI (AE Ab Az BH AA M nb Rm)
theorem du(e:f ρ=some r):J3 f ρ=some (.nx ρ):=by unfold J3;rw[e]
theorem bH{N n:Nat}(h:ps.length=n)(e:g (A7 N ps)=some (.nx ρ)):denote N n g ps=some (.cl .As):=by unfold denote;rw[AGo h,e];rfl
theorem nX(h:DI r=true):UI [.lst<|AN r]=some (.cl .As):=by refine bH (ρ:=A7 1 [.lst<|AN r]) rfl ?_;unfold aJ;have e:=D6<|Al<|An (ρ:=A7 1 [.lst<|AN r]) (AJ (f:=AG 0) (x:=.cl<|.lst<|AN r) rfl AQ) rfl<|nu (r:=r);rw[h]at e;exact(BC e).trans rfl
theorem HQ(h:DI r=true):3<=r.length/\r.length<=12/\∀p∈r,Bd 1000 p:=by obtain⟨R,z⟩:=(Kd r).mp h;exact⟨R.l3,R.PM,λp hp=>by have:=z p hp;unfold Bd at *;lia⟩
theorem GB(e:g ρ=some (.o<|.nx ρ')):En g h ρ=h ρ':=by unfold En;rw[e]
theorem nP(e:g ρ=some (.nx ρ')):yL g ρ=some (.o<|.nx ρ'):=by unfold yL;rw[e];rfl
theorem qz{N n:Nat}(z:ps.length=n)(e:g (A7 N ps)=some (.ex nm)):Io N n g ps=none/\K4 N n g ps=some nm:=by
 delta Io K4
 rw[AGo z,AGo z,e];exact⟨rfl,rfl⟩
theorem VP{N n:Nat}(z:ps.length=n)(e:g (A7 N ps)=some (.o<|.rt r)):Io N n g ps=some r:=by
 unfold Io;rw[AGo z,e]
 rfl
theorem AFj(e:g ρ=some (.rt r)):yL g ρ=some (.o<|.rt r):=by unfold yL;rw[e];rfl
theorem eY(e:t ρ=some true):JA t f g ρ=f ρ:=by unfold JA;rw[e]
theorem eX(e:t ρ=some false):JA t f g ρ=g ρ:=by unfold JA;rw[e]
theorem eM(ha:fa ρ=cI i)(z:fb ρ=cI j)(hc:fc ρ=cI k)(hd:fd ρ=cI l):Fm CY CA CA fa fb fc fd ρ=cB (decide (i<=j)&&(decide (j<k)&&decide (k<l))):=by
 unfold Fm;rw[ha,z];dsimp only;simp only[Hz];cases h:decide (i<=j)
 .rfl
 .dsimp only;rw[hc];dsimp only;simp only[GO];cases h2:decide (j<k)
  .rfl
  .dsimp only;rw[hd];rfl
theorem oH(ha:Bd 1000 a)(q:Bd 1000 b):QT [pw a b,pv c]=cB (AI.pr a b c):=by
 refine BY rfl ?_;unfold AI.pr;show AM _ _ [iM<|pw a b,iM<|pv c,iM<|.bl<|decide (a.2>c.2),iM<|.bl<|decide (b.2>c.2),none]=_;generalize decide (a.2>c.2)=x;generalize decide (b.2>c.2)=y;have z:AU (f2 Bg (AG 2)<|AG 3) [iM<|pw a b,iM<|pv c,iM<|.bl x,iM<|.bl y,none]=some (x==y):=Al<|AL rfl rfl<|xP _ _;have es:Ac 4 ck [iM<|pw a b,iM<|pv c,iM<|.bl x,iM<|.bl y,none]=some (.nx [iM<|pw a b,iM<|pv c,iM<|.bl x,iM<|.bl y,iI<|AE a b c]):=
  Aq (An (AJ (AL rfl rfl<|LZ a b)<|AJ (AL rfl rfl<|La a b)<|AJ rfl AQ) rfl<|L3 ha q) rfl
 cases x<;>cases y
 .exact C7<|(Bc z).trans rfl
 .rw[sq<|(BC z).trans rfl,sq es];exact CI<|(eY rfl).trans<|AL rfl rfl<|Fy _ _
 .rw[sq<|(BC z).trans rfl,sq es];exact CI<|(eX rfl).trans<|AL rfl rfl<|GO _ _
 .exact C7<|(Bc z).trans rfl
theorem Vv{bs:List Bool}(e:f ρ=some (.fr<|bs.map PV.bl)):fB KJ (AH f AO) ρ=cB (bs.any id):=by refine BO (AJ e AQ) ?_;simp only[KJ,RV.list,AHF,Ql,AHr]
def place(ws:List<|Pt×Pt)(p:Pt):PySem.Str:=if(ws.any λw=>Ab w.1 w.2 p)=true then "on" else if((((ws.filter λw=>AI.pr w.1 w.2 p).length:Int)%2==1)=true)then "in" else "out"
theorem ZO(u:ws.length<=1000)(q:∀w∈ws,Bd 1000 w.1/\Bd 1000 w.2):QU [.lst<|Bb ws,pv p]=some (.cl<|.str<|place ws p):=by
 refine BY rfl ?_;unfold bC;have v:(Bb ws).length<=1000:=by simpa[Bb]using u
 have Z:collect (Aa 0) BP (AW HX Hf) (Bt 1 [1]<|A7 3 [.lst<|Bb ws,pv p]) (Bb ws)=some ((ws.map λw=>Ab w.1 w.2 p).map PV.bl):=by rw[AHT];exact Fg λw z=>⟨_,.cl<|.bl<|Ab w.1 w.2 p,rfl,An (AJ rfl<|AJ rfl AQ) rfl<|Nm (q w z).1 (q w z).2,rfl⟩
 have Y:collect (Aa 0) (AU<|AW QT Jr) (AG 0) (Bt 1 [1]<|A7 3 [.lst<|Bb ws,pv p]) (Bb ws)=some (Bb<|ws.filter λw=>AI.pr w.1 w.2 p):=by exact DF λw z=>⟨_,rfl,Al<|An (AJ rfl<|AJ rfl AQ) rfl<|oH (q w z).1 (q w z).2,λ_=>⟨.cl<|pw w.1 w.2,rfl,rfl⟩⟩
 have y:=Al<|Vv<|B4 (its:=Ju) (Fj rfl rfl) v Z;rw[show(ws.map λw=>Ab w.1 w.2 p).any id=ws.any λw=>Ab w.1 w.2 p by rw[AId];rfl]at y;unfold place;cases h:ws.any λw=>Ab w.1 w.2 p with
 |true=>
  rw[h]at y;exact C7<|(Bc y).trans rfl
 |false=>
  rw[h]at y;rw[sq<|(BC y).trans rfl,sq<|Aq (B4 (its:=Ju) (Fj rfl rfl) v Y) rfl];have Q:(Bb<|ws.filter λw=>AI.pr w.1 w.2 p).length=(ws.filter λw=>AI.pr w.1 w.2 p).length:=by simp[Bb]
  generalize (ws.filter λw=>AI.pr w.1 w.2 p)=vs at *
  have O:Iq ((A7 3 [.lst<|Bb ws,pv p]).set 2<|iM<|.lst<|Bb vs)=cI vs.length:=by rw[<-Q];rfl
  have e3:=Al<|AL (AL O (fb:=fC<|.int 2) rfl<|EH PY) (fb:=fC<|.int 1) rfl<|KN _ _;refine CI ?_;cases h3:((vs.length:Int)%2==1)with
  |true=>rw[h3]at e3;exact(eY e3).trans rfl
  |false=>rw[h3]at e3;exact(eX e3).trans rfl
theorem XJ{a b:PySem.Str}(ha:PySem.SeqAt.shaped (Ag<|.str a)=true)(z:PySem.SeqAt.shaped (Ag<|.str b)=true)(h:(a==b)=c):Bg (.cl<|.str a) (.cl<|.str b)=cB c:=
 xQ ha z (by rw[<-h];show PySem.PyData.eqv (Ag<|.str a) (Ag<|.str b)=_;delta Ag;simp[PySem.PyData.eqv])
theorem AA5(ws:List<|Pt×Pt)(p:Pt):Bg (.cl<|.str<|place ws p) (.cl<|.str "in")=cB (!(ws.any λw=>Ab w.1 w.2 p)&&(((ws.filter λw=>AI.pr w.1 w.2 p).length:Int)%2==1)):=by
 have s1:PySem.SeqAt.shaped (Ag<|.str "on")=true:=AGk
 have s2:PySem.SeqAt.shaped (Ag<|.str "in")=true:=AGk
 have z:PySem.SeqAt.shaped (Ag<|.str "out")=true:=AGk
 unfold place;cases (ws.any λw=>Ab w.1 w.2 p)
 .cases (((ws.filter λw=>AI.pr w.1 w.2 p).length:Int)%2==1)
  .exact XJ z s2 AGk
  .exact XJ s2 s2 AGk
 .refine XJ (a:="on") s1 s2 ?_;show(("on")==("in"))=false
  decide +kernel
theorem T7(z:∀p∈r,Bd 1000 p):∀w∈BN r,Bd 1000 w.1/\Bd 1000 w.2:=λw y=>by obtain⟨k,_,rfl⟩:=AHb.mp y;exact⟨Cz AGi z _,Cz AGi z _⟩
theorem Y3(r:List Pt):(BN r).length=r.length:=by simp[BN]
section
variable{α β:Type}{enc:α->PV}
theorem jF(f:β->α->β)(R:β->AS->Prop):∀{xs:List α}{b:β}{ρ:AS},R b ρ->(∀x∈xs,∀b ρ,R b ρ->∃z,gt (enc x) ρ=some z/\(c x=true->body z=some (.rt r))/\(c x=false->∃q,body z=some (.nx q)/\R (f b x) q))->(xs.any c=true->C4 gt body (xs.map enc) ρ=some (.rt r))/\(xs.any c=false->∃ρ',C4 gt body (xs.map enc) ρ=some (.nx ρ')/\R (xs.foldl f b) ρ')
 |[],b,ρ,hI,_=>⟨λh=>by simp at h,λ_=>⟨ρ,rfl,hI⟩⟩
 |x::xs,b,ρ,hI,H=>by
  obtain⟨z,v,h1,u⟩:=H x AGw b ρ hI;simp only[AGv,AHj,AIq];unfold C4;rw[v];dsimp only;cases hc:c x with
  |true=>
   rw[h1 hc];exact⟨λ_=>rfl,λh=>by simp at h⟩
  |false=>
   obtain⟨q,p,Z⟩:=u hc;rw[p,Bool.false_or];exact jF f R (xs:=xs) Z λy Y=>H y<|AGr _ Y
end
theorem AFW(r:List Pt)(p:Pt):((BN r).any λw=>Ab w.1 w.2 p)=(List.range r.length).any λk:Nat=>Ab (AA r k) (AA r<|(k:Int)+1) p:=by unfold BN;rw[AId];rfl
theorem AFX(r:List Pt)(p:Pt):(((BN r).filter λw=>AI.pr w.1 w.2 p).length:Int)=(((List.range r.length).filter λk:Nat=>AI.pr (AA r k) (AA r<|(k:Int)+1) p).length:Int):=by unfold BN;rw[List.filter_map,AGm];rfl
def GW(r:List Pt)(p:Pt):PySem.Str:=if((List.range r.length).any λk:Nat=>Ab (AA r<|(k:Int)-1) (AA r k) p)=true then "on" else if(!(AI.Af (λk=>AI.fw (AA r<|k-1) (AA r k) p) r.length==0))=true then "in" else "out"
theorem AA4{r:List Pt}(S:AI.A4 r)(p:Pt):place (BN r) p=GW r p:=by
 have h3:=S.l3;unfold place GW;rw[AFW,AI.oq AGi λa b=>Ab a b p];cases h:(List.range r.length).any λk:Nat=>Ab (AA r k) (AA r<|(k:Int)+1) p with
 |true=>rfl
 |false=>
  have off:∀j:Int,¬ AI.At (AA r j) (AA r<|j+1) p:=λj z=>by have:=(AI.ZY AGi λa b=>Ab a b p).mp h j;rw[AI.EL.mpr<|AI.JX.mpr z]at this;cases this
  have ho:=S.jr off;rw[AFX,AI.Yw];have e:((((List.range r.length).filter λk:Nat=>AI.pr (AA r k) (AA r<|(k:Int)+1) p).length:Int)%2==1) = !(AI.W r p==0):=by rw[AHo,AIA,ho];simp
  rw[e]
theorem eQ(ha:fa ρ=cI i)(z:fb ρ=cI j)(hc:fc ρ=cI k):Dl CY CA fa fb fc ρ=cB (decide (i<=j)&&decide (j<k)):=by
 unfold Dl;rw[ha,z];dsimp only;rw[Hz];cases h:decide (i<=j)
 .rfl
 .dsimp only;rw[hc];dsimp only;rw[GO,AIS]
def OZ(a b p:Pt):Bool:=(decide (a.2<=p.2)&&decide (p.2<b.2))&&decide (AE a b p>0)
def OY(a b p:Pt):Bool:=(decide (b.2<=p.2)&&decide (p.2<a.2))&&decide (AE a b p<0)
theorem WB(a b p:Pt)(t:Int):(if OY a b p=true then(if OZ a b p=true then t+1 else t)-1 else(if OZ a b p=true then t+1 else t))=t+AI.fw a b p:=by unfold OZ OY AI.fw;by_cases h1:a.2<=p.2/\p.2<b.2/\AE a b p>0<;>by_cases z:b.2<=p.2/\p.2<a.2/\AE a b p<0<;>simp only[AGx,AG0,and_assoc,h1,z,AIN,if_false]<;>simp<;>lia
theorem ZL(h3:3<=r.length)(BK:r.length<=12)(S:∀p∈r,Bd 1000 p)(p:Pt):UW [.lst<|AN r,pv p]=some (.cl<|.str<|GW r p):=by
 refine BY rfl ?_;unfold ak;rw[sq<|Aq (r:=.cl<|.int 0) rfl rfl];show AM _ _ [iL r,iM<|pv p,iI 0,none,none,none]=_;have O:∀k:Int,Bd 1000<|AA r k:=λk=>Cz AGi S k;have P:Ip [iL r,iM<|pv p,iI 0,none,none,none]=some ((List.range r.length).map λk:Nat=>PV.int (k:Int)):=CW (AJ (Mv r _ rfl) AQ) U;have H:=jF (enc:=λk:Nat=>PV.int (k:Int)) (gt:=Aa 3) (body:=bV)
  (c:=λk:Nat=>Ab (AA r<|(k:Int)-1) (AA r k) p) (r:=.cl<|.str "on") (λt (k:Nat)=>t+(λk:Int=>AI.fw (AA r<|k-1) (AA r k) p) k)
  (λ(t:Int) ρ=>∃a b c,ρ=[iL r,iM<|pv p,iI t,a,b,c]) (xs:=List.range r.length) (b:=0) (ρ:=[iL r,iM<|pv p,iI 0,none,none,none]) ⟨none,none,none,rfl⟩ (by
  rintro k C t ρ ⟨a,b,c,rfl⟩;have BL:=AGq.mp C;refine⟨_,rfl,?_⟩;have E:c7 [iL r,iM<|pv p,iI t,iI (k:Int),b,c]=some (.nx [iL r,iM<|pv p,iI t,iI (k:Int),iM<|pv<|AA r<|(k:Int)-1,iM<|pv<|AA r k]):=
   Xz (p:=pv<|AA r<|(k:Int)-1) (q:=pv<|AA r k) (AJ (AL rfl (AL (x:=.cl<|.int (k:Int)) (y:=.cl<|.int 1) rfl rfl<|C3 _ _)<|Bz r ((k:Int)-1) U U)<|AJ (AL rfl rfl<|Bz r (k:Int) U AGi) AQ) rfl
  have Y:=O<|(k:Int)-1;have Q:=O k;show(_->AM _ _ [iL r,iM<|pv p,iI t,iI (k:Int),b,c]=_)/\(_->∃BU,AM _ _ [iL r,iM<|pv p,iI t,iI (k:Int),b,c]=_/\_);rw[sq E];dsimp only;generalize AA r ((k:Int)-1)=A at *
  generalize AA r (k:Int)=B at *
  have v:AU (AW Kq Q5) [iL r,iM<|pv p,iI t,iI (k:Int),iM<|pv A,iM<|pv B]=some (Ab A B p):=Al<|An (AJ (x:=.cl<|pv A) rfl<|AJ (x:=.cl<|pv B) rfl<|AJ (x:=.cl<|pv p) rfl AQ) rfl<|Ug Y Q;have D:∀u:Int,bf [iL r,iM<|pv p,iI u,iI (k:Int),iM<|pv A,iM<|pv B]=some (OZ A B p):=λu=>
   Iy (Al<|eQ (AL rfl rfl<|DB A) (AL rfl rfl<|DB p)<|AL rfl rfl<|DB B) λ_=>Al<|AL (An (AJ (x:=.cl<|pv A) rfl<|AJ (x:=.cl<|pv B) rfl<|AJ (x:=.cl<|pv p) rfl AQ) rfl<|Kr Y Q) rfl<|Fy _ _
  have e3:∀u:Int,bg [iL r,iM<|pv p,iI u,iI (k:Int),iM<|pv A,iM<|pv B]=some (OY A B p):=λu=>
   Iy (Al<|eQ (AL rfl rfl<|DB B) (AL rfl rfl<|DB p)<|AL rfl rfl<|DB A) λ_=>Al<|AL (An (AJ (x:=.cl<|pv A) rfl<|AJ (x:=.cl<|pv B) rfl<|AJ (x:=.cl<|pv p) rfl AQ) rfl<|Kr Y Q) rfl<|GO _ _
  constructor
  .intro h;rw[show Ab A B p=true from h]at v;exact C7<|(Bc v).trans rfl
  .intro h;rw[show Ab A B p=false from h]at v;rw[sq<|(BC v).trans rfl];rw[<-WB A B p t];cases F:OZ A B p with
   |true=>
    rw[sq<|(Bc<|(D t).trans<|AHa some F).trans<|Aq (r:=.cl<|.int<|t+1) rfl rfl];cases hd:OY A B p with
    |true=>exact⟨_,(Bc<|(e3<|t+1).trans<|AHa some hd).trans<|Aq (r:=.cl<|.int<|t+1-1) rfl rfl,_,_,_,rfl⟩
    |false=>exact⟨_,(BC<|(e3<|t+1).trans<|AHa some hd).trans rfl,_,_,_,rfl⟩
   |false=>
    rw[sq<|(BC<|(D t).trans<|AHa some F).trans rfl];cases hd:OY A B p with
    |true=>exact⟨_,(Bc<|(e3 t).trans<|AHa some hd).trans<|Aq (r:=.cl<|.int<|t-1) rfl rfl,_,_,_,rfl⟩
    |false=>exact⟨_,(BC<|(e3 t).trans<|AHa some hd).trans rfl,_,_,_,rfl⟩)
 unfold GW;cases ha:(List.range r.length).any λk:Nat=>Ab (AA r<|(k:Int)-1) (AA r k) p with
 |true=>exact C7<|(Bu P).trans<|H.1 ha
 |false=>
  obtain⟨ρ',e,a,b,c,rfl⟩:=H.2 ha;rw[sq<|(Bu P).trans e,V7 λk=>AI.fw (AA r<|k-1) (AA r k) p,AHW];generalize AI.Af (λk=>AI.fw (AA r<|k-1) (AA r k) p) r.length=T;rw[AGp AGh];have Z:f2 CN (AG 2) (fC<|.int 0) [iL r,iM<|pv p,iI T,a,b,c]=cB (!(T==0)):=AL rfl rfl<|GQ _ _;have R:B9 (AH (fC<|.str "out")<|AH (fC<|.str "in") AO) [iL r,iM<|pv p,iI T,a,b,c]=some (.fr [.str "out",.str "in"]):=rfl;refine CI ?_;cases G : !(T==0)with
  |true=>
   rw[G]at Z;exact(AL R (BO (AJ Z AQ) (z:=.cl<|.int 1) rfl) rfl).trans rfl
  |false=>
   rw[G]at Z;exact(AL R (BO (AJ Z AQ) (z:=.cl<|.int 0) rfl) rfl).trans rfl
set_option tactic.hygienic false
theorem jU:∀(ns:List Int)(m:Int),CG m ns<=m
 |[],m=>by delta CG;exact AHY _
 |n::ns,m=>by unfold CG;have:=jU ns (if n<m then n else m);refine AIK this ?_;split<;>lia
theorem iz:∀(ns:List Int)(m:Int),m<=DO m ns
 |[],m=>by delta DO;exact AHY _
 |n::ns,m=>by unfold DO;have:=iz ns (if n>m then n else m);refine AIK ?_ this;split<;>lia
noncomputable def Il(k:Nat)(p:Pt):Int:=if k=0 then p.1 else p.2
theorem xT{k:Nat}(z:k<2)(p:Pt):Am (.cl<|pv p) (.cl<|.int (k:Int))=cI (Il k p):=by
 match k,z with
 |0,_=>rfl
 |1,_=>rfl
def mn(k:Nat)(r:List Pt):Int:=match r.map (Il k)with|m::ns=>CG m ns|[]=>0
def mx(k:Nat)(r:List Pt):Int:=match r.map (Il k)with|m::ns=>DO m ns|[]=>0
theorem jY(k:Nat)(r:List Pt):mn k r<=mx k r:=by
 delta mn mx
 cases h:r.map (Il k)with
 |nil=>exact AHY _
 |cons m ns=>exact AIK (jU ns m)<|iz ns m
theorem inner{r:List Pt}(z:r.length<=1000){k:Nat}(q:k<2):dm [iI (k:Int),iL r]=some (.fr<|(r.map<|Il k).map PV.int):=by refine B4 (xs:=AN r) (Fj (r:=.cl<|.lst<|AN r) rfl rfl) (by rw[Bv];exact z) ?_;unfold AN;rw[AHT];exact Fg (h:=PV.int∘Il k) λp _=>⟨_,.cl<|.int<|Il k p,rfl,AL (x:=.cl<|pv p) (y:=.cl<|.int (k:Int)) rfl rfl<|xT q p,rfl⟩
theorem xW{r:List Pt}(h1:0<r.length)(k:Nat):JM [.fr<|(r.map<|Il k).map PV.int]=cI (mn k r):=by
 simp only[JM,RV.list,AHF,O5];unfold mn
 match r,h1 with
 |p::r,_=>rfl
theorem xV{r:List Pt}(h1:0<r.length)(k:Nat):Mn [.fr<|(r.map<|Il k).map PV.int]=cI (mx k r):=by
 simp only[Mn,RV.list,AHF,O5];unfold mx
 match r,h1 with
 |p::r,_=>rfl
theorem yI(h1:0<r.length)(z:r.length<=1000)(y:Bt 1 [2] ρ=[none,iL r]):A5 RG 1 [2] (Aa 0) BP dG ρ=some (.fr [.int<|mn 0 r,.int<|mn 1 r]):=by refine B4 (CW (n:=2) rfl U) AGh ?_;rw[y];exact Fg (enc:=λk:Nat=>PV.int (k:Int)) (h:=λk:Nat=>PV.int<|mn k r) (xs:=List.range 2) λk q=>⟨_,.cl<|.int<|mn k r,rfl,BO (AJ (inner z<|AGq.mp q) AQ)<|xW h1 k,rfl⟩
theorem vS(h1:0<r.length)(z:r.length<=1000)(y:Bt 1 [2] ρ=[none,iL r]):A5 RG 1 [2] (Aa 0) BP dH ρ=some (.fr [.int<|mx 0 r,.int<|mx 1 r]):=by refine B4 (CW (n:=2) rfl U) AGh ?_;rw[y];exact Fg (enc:=λk:Nat=>PV.int (k:Int)) (h:=λk:Nat=>PV.int<|mx k r) (xs:=List.range 2) λk q=>⟨_,.cl<|.int<|mx k r,rfl,BO (AJ (inner z<|AGq.mp q) AQ)<|xV h1 k,rfl⟩
theorem oD{s:List Int}(h0:0<=k)(h1:0<r.length)(P:r.length<=1000):∃p:Pt,UY [.rd<|Av s,.int k,.lst<|AN r]=some (.cl<|pv p):=by
 suffices h:∃p:Pt,VR (A7 10 [.rd<|Av s,.int k,.lst<|AN r])=some (.rt<|.cl<|pv p)by obtain⟨p,h⟩:=h;exact⟨p,BY rfl h⟩
 unfold VR;have q:(0:Int)<r.length:=E3 h1;rw[sq<|Aq (Fi (s:=s) (k:=k) rfl rfl h0) rfl];show ∃p,AM _ _ [iM<|.rd<|Av s,iI k,iL r,iI<|Ad s k,none,none,none,none,none,none]=_;generalize Ad s k=cl;have D:∀x y z u v w t:Option SV,Iq [iM<|.rd<|Av s,iI k,iL r,x,y,z,u,v,w,t]=cI (r.length:Int):=λ_ _ _ _ _ _ _=>by rw[<-Bv];rfl
 have m0:=AHE cl (b:=(r.length:Int))<|IC h1;have m1:=AG4 cl q;have q0:=AHE (cl / 16) (b:=(r.length:Int))<|IC h1;have q1:=AG4 (cl / 16) q;rw[sq<|Aq (AL (x:=.cl<|.lst<|AN r) rfl (AL (x:=.cl<|.int cl) rfl (D _ _ _ _ _ _ _)<|EH q)<|Bz r (cl%(r.length:Int)) U AGi) rfl];show ∃p,AM _ _ [iM<|.rd<|Av s,iI k,iL r,iI cl,iM<|pv<|AA r<|cl%(r.length:Int),none,none,none,none,none]=_;rw[sq<|Aq (AL (x:=.cl<|.lst<|AN r) rfl (AL (Ew 16 (i:=cl) rfl) (D _ _ _ _ _ _ _)<|EH q)<|Bz r (cl / 16%(r.length:Int)) U AGi) rfl];show ∃p,AM _ _ [iM<|.rd<|Av s,iI k,iL r,iI cl,iM<|pv<|AA r<|cl%(r.length:Int),iM<|pv<|AA r<|cl / 16%(r.length:Int),none,none,none,none]=_;generalize AA r (cl%(r.length:Int))=A;generalize AA r (cl / 16%(r.length:Int))=B;rw[sq<|Aq (D5 4<|Fi (s:=s) (k:=k+1) rfl rfl<|EK h0) rfl];show ∃p,AM _ _ [iM<|.rd<|Av s,iI k,iL r,iI cl,iM<|pv A,iM<|pv B,iI<|Ad s (k+1)%4,none,none,none]=_;generalize Ad s (k+1)%4=m;have O:∀z:Int,AU (f2 Bg (AG 6)<|fC<|.int z) [iM<|.rd<|Av s,iI k,iL r,iI cl,iM<|pv A,iM<|pv B,iI m,none,none,none]=some (m==z):=λz=>Al<|AL rfl rfl<|KN _ _;have Z:=O 0;have Y:=O 1;have Q:=O 2;cases F:m==0 with
 |true=>rw[F]at Z;exact⟨A,C7<|(Bc Z).trans rfl⟩
 |false=>
  rw[F]at Z;rw[sq<|(BC Z).trans rfl];cases R:m==1 with
  |true=>
   rw[R]at Y;exact⟨((A.1+B.1) / 2,(A.2+B.2) / 2),C7<|(Bc Y).trans<|CI<|D7 (AJ (Ew 2 (i:=A.1+B.1) rfl)<|AJ (Ew 2 (i:=A.2+B.2) rfl) AQ) rfl⟩
  |false=>
   rw[R]at Y;rw[sq<|(BC Y).trans rfl];cases G:m==2 with
   |true=>
    rw[G]at Q;exact⟨(A.1+cl / 256%9-4,A.2+cl / 4096%9-4),C7<|(Bc Q).trans<|CI<|D7 (AJ (AL (AL (x:=.cl<|.int A.1) rfl (D5 9<|Ew 256 (i:=cl) rfl)<|Fv _ _) (y:=.cl<|.int 4) rfl<|C3 _ _)<|AJ (AL (AL (x:=.cl<|.int A.2) rfl (D5 9<|Ew 4096 (i:=cl) rfl)<|Fv _ _) (y:=.cl<|.int 4) rfl<|C3 _ _) AQ) rfl⟩
   |false=>
    rw[G]at Q;rw[sq<|(BC Q).trans rfl,sq<|Aq (yI h1 P rfl) rfl];show ∃p,AM _ _ [iM<|.rd<|Av s,iI k,iL r,iI cl,iM<|pv A,iM<|pv B,iI m,iM<|.lst [.int<|mn 0 r,.int<|mn 1 r],none,none]=_;rw[sq<|Aq (vS h1 P rfl) rfl];show ∃p,AM _ _ [iM<|.rd<|Av s,iI k,iL r,iI cl,iM<|pv A,iM<|pv B,iI m,iM<|.lst [.int<|mn 0 r,.int<|mn 1 r],iM<|.lst [.int<|mx 0 r,.int<|mx 1 r],none]=_;have p0:=jY 0 r;have p1:=jY 1 r;refine⟨(mn 0 r-1+cl / 256%(mx 0 r-mn 0 r+3),mn 1 r-1+Ad s (k+2)%(mx 1 r-mn 1 r+3)),?_⟩;rw[sq<|Aq (AL (x:=.cl<|.int<|mn 0 r-1) rfl (AL (Ew 256 (i:=cl) rfl) (y:=.cl<|.int<|mx 0 r-mn 0 r+3) rfl<|EH U)<|Fv _ _) rfl];exact CI<|D7 (AJ (x:=.cl<|.int<|mn 0 r-1+cl / 256%(mx 0 r-mn 0 r+3)) rfl<|AJ (AL (x:=.cl<|.int<|mn 1 r-1) rfl (AL (Fi (s:=s) (k:=k+2) rfl rfl U) (y:=.cl<|.int<|mx 1 r-mn 1 r+3) rfl<|EH U)<|Fv _ _) AQ) rfl
theorem rD{r:List Pt}(z:∀p∈r,Bd 100 p):∀p∈r.map AI.dbl,Bd 1000 p:=λp hp=>by
 obtain⟨q,y,rfl⟩:=AHb.mp hp;have:=z q y;unfold Bd AI.dbl at *
 dsimp only
 and_intros<;>lia
set_option tactic.hygienic true
theorem wt(w:List Pt)(p:Pt):(!((BN w).any λz=>Ab z.1 z.2 p)&&((((BN w).filter λz=>AI.pr z.1 z.2 p).length:Int)%2==1))=AI.Ee w p:=by
 delta AI.Ee BN
 simp only[AId,List.filter_map,AGm]
 rfl
theorem oE(h1:0<r.length)(z:r.length<=1000)(q:∀p∈r,Bd 100 p)(A B:Pt):Ud [.lst<|AN r,pw A B]=cB (AI.Ee (r.map AI.dbl) (A.1+B.1,A.2+B.2)):=by
 refine BY rfl ?_;unfold aw;have v:collect (Aa 0) BP cO (Bt 1 []<|A7 4 [.lst<|AN r,pw A B]) (AN r)=some (AN<|r.map AI.dbl):=by unfold AN;rw[AHT];exact Fg λp hp=>⟨_,.cl<|pv<|AI.dbl p,rfl,D7 (AJ (AL rfl (AL rfl rfl<|EE p)<|Fz<|Ff U)<|AJ (AL rfl (AL rfl rfl<|DB p)<|Fz<|Ff U) AQ) rfl,rfl⟩
 rw[sq<|Aq (B4 (its:=Ju) (Fj rfl rfl) (by rw[Bv];exact z) v) rfl];rw[sq<|Aq (r:=.cl<|pv (A.1+B.1,A.2+B.2)) rfl rfl];refine CI ?_;have y:(r.map AI.dbl).length<=1000:=by simpa using z
 refine(AL (An (AJ (An (AJ rfl AQ) rfl<|Nq y<|by simpa using h1)<|AJ rfl AQ) rfl<|ZO (by rw[Y3];exact y)<|T7<|rD q) rfl<|AA5 _ _).trans ?_;rw[wt]
theorem Vt(a b:Pt):PySem.PyData.eqv (Ag<|pv a) (Ag<|pv b)=decide (a=b):=by
 have:decide (a=b)=(a.1==b.1&&a.2==b.2):=by rw[AHo];simp[Prod.ext_iff]
 rw[this];simp[pv,Ag,E6,PySem.PyData.eqv,PySem.PyData.eqvAll]
theorem Tg(a:Pt):PySem.SeqAt.shaped (Ag<|pv a)=true:=by
 have h1:PySem.PyData.canLay0 (Ag<|pv a)=true:=by simp[pv,Ag,E6,PySem.PyData.canLay0,PySem.PyData.canLayAll0]
 have h2:PySem.PyData.depth (Ag<|pv a)<=1:=by simp[pv,Ag,E6,PySem.PyData.depth,PySem.PyData.depthAll]
 unfold PySem.SeqAt.shaped
 assumption
theorem iW(a c d:Pt):DM true (.cl<|pv a) (.cl<|pw c d)=cB (!(decide (a=c)||decide (a=d))):=by unfold DM;have e:(RV.cl<|pw c d).seq=some [pv c,pv d]:=rfl;rw[e];dsimp only;have z:(RV.cl<|pv a).any=pv a:=rfl;rw[z,AGo ⟨Tg a,by unfold GY;simp[Tg]⟩,AGo rfl];unfold inD;simp only[AHj,AHj,AJk,AIt,Vt,Vt,show decide (c=a)=decide (a=c)by simp[eq_comm],show decide (d=a)=decide (a=d)by simp[eq_comm]]
noncomputable def JD(A B:Pt)(w:Pt×Pt):Bool:=(!(decide (A=w.1)||decide (A=w.2)))&&(!(decide (B=w.1)||decide (B=w.2)))
theorem nq(h:DI r=true){i j:Int}(Z:0<=i)(Y:i<j)(jn:j<r.length)(p:AI.Probe r i j)(z:AI.W (r.map AI.dbl) ((AA r i).1+(AA r j).1,(AA r i).2+(AA r j).2)≠0):QM [.lst<|AN r,.int i,.int j]=cB true:=by
 obtain⟨h3,q,y⟩:=HQ h;have R:=((Kd r).mp h).1.simple;refine BY rfl ?_;unfold aM;have v:CM (A7 5 [.lst<|AN r,.int i,.int j])=cI r.length:=Mv r _ rfl;have u:=Eb (D6<|Al<|eM (fa:=fC<|.int 0) (fb:=AG 1) (fc:=AG 2) rfl rfl rfl v) λ_=>Al<|An (AJ v<|AJ (f:=AG 1) rfl<|AJ (f:=AG 2) rfl AQ) rfl<|Ue<|JQ h3;rw[AHM Z,AHM Y,AHM jn,AI.Xg (by have:=p.Bl.neg<|KS h3;rw[Int.neg_sub]at this;exact this)]at u;rw[sq<|(BC u).trans rfl];have Q:A6 Vl (A7 5 [.lst<|AN r,.int i,.int j])=some (.cl<|pw (AA r i)<|AA r j):=
  D7 (AJ (AL rfl rfl<|Bz r i U U)<|AJ (AL rfl rfl<|Bz r j U AGi) AQ) rfl
 rw[sq<|Aq Q rfl];show AM _ _ [iL r,iI i,iI j,iM<|pw (AA r i)<|AA r j,none]=_;have O:=Cz De y i;have P:=Cz De y j;have D:=λ{k:Int}=>p.clear R (k:=k);have pm:=p.yd R z;clear z;generalize AA r i=A at *
 generalize AA r j=B at *
 have F:(Bb<|BN r).length<=1000:=by simp[Bb,BN];exact Eg q
 have G:collect (Aa 0) cT (AG 0) (Bt 1 [3] [iL r,iI i,iI j,iM<|pw A B,none]) (Bb<|BN r)=some (Bb<|(BN r).filter<|JD A B):=by exact DF λw z=>⟨_,rfl,Iy (Al<|AL (AL rfl rfl<|LZ A B) rfl<|iW _ _ _) λ_=>Al<|AL (AL rfl rfl<|La A B) rfl<|iW _ _ _,λ_=>⟨.cl<|pw w.1 w.2,rfl,rfl⟩⟩
 rw[sq<|Aq (B4 (its:=Q7) (Fj (An (AJ rfl AQ) rfl<|Nq (Eg q)<|Bn h3) rfl) F G) rfl];show AM _ _ [iL r,iI i,iI j,iM<|pw A B,iM<|.lst<|Bb<|(BN r).filter<|JD A B]=_;have S:(Bb<|(BN r).filter<|JD A B).length<=1000:=by have:=AIr (JD A B)<|BN r;rw[Y3]at this;simp only[Bb,AGm];lia
 have T:collect (Aa 0) BP (AW Lz Hf) (Bt 1 [3] [iL r,iI i,iI j,iM<|pw A B,iM<|.lst<|Bb<|(BN r).filter<|JD A B]) (Bb<|(BN r).filter<|JD A B)=some ((((BN r).filter<|JD A B).map λw=>Az A B w.1 w.2).map PV.bl):=by rw[AHT];exact Fg λw z=>⟨_,.cl<|.bl<|Az A B w.1 w.2,rfl,An (AJ rfl<|AJ rfl AQ) rfl<|ZM O P (T7 y w (AHN.mp z).1).1 (T7 y w (AHN.mp z).1).2,rfl⟩
 have e3:=Al<|Vv<|B4 (its:=Jv) (Fj rfl rfl) S T;rw[show(((BN r).filter<|JD A B).map λw=>Az A B w.1 w.2).any id=false by rw[AIP];intro b y;obtain⟨w,z,rfl⟩:=AHb.mp y;obtain⟨z,f⟩:=AHN.mp z;unfold BN at z;obtain⟨k,_,rfl⟩:=AHb.mp z;unfold JD at f;simp only[AGx,AHZ,AHe,AIj]at f;exact AIg.mp<|D f.1.1 f.1.2 f.2.1 f.2.2]at e3
 rw[sq<|(BC e3).trans rfl];refine(CI<|An (AJ rfl<|AJ rfl AQ) rfl<|oE (Bn h3) (Eg q) (((Kd r).mp h).2) _ _).trans ?_;rw[pm]
theorem XM(i a b:Int):BZ false (.cl<|.int i) (.fr [.int a,.int b])=cB (i==a||i==b):=by simp only[BZ,RV.seq,RV.list,DA,AHr,AHj,AJk,AIt,Bool.false_eq_true,if_false];rw[AJT,AJT (a:=b)]
noncomputable def Jk(n i j:Int):Bool:=(decide (0<=i)&&(decide (i<j)&&decide (j<n)))&&!((j-i)==1||(j-i)==n-1)
def GR(r:List Pt)(i j:Int):Bool:=Jk r.length i j&&(!AI.Sd r i j&&AI.Qr (AA r<|i-1) (AA r i) (AA r<|i+1) (AA r j))
theorem oB(h3:3<=r.length)(T:r.length<=12)(C:∀p∈r,Bd 1000 p)(i j:Int):UT [.lst<|AN r,.int i,.int j]=cB (GR r i j):=by
 refine BY rfl ?_;unfold af;rw[sq<|Aq (Mv r (A7 10 [.lst<|AN r,.int i,.int j]) rfl) rfl];show AM _ _ [iL r,iI i,iI j,iI r.length,none,none,none,none,none,none]=_;have Z:bq [iL r,iI i,iI j,iI r.length,none,none,none,none,none,none]=some (!(Jk r.length i j)):=by unfold Jk;rw[Bool.not_and,Bool.not_not];exact Eb (D6<|Al<|eM rfl rfl rfl rfl) λ_=>Al<|AL (AL rfl rfl<|C3 _ _) (Fl (AJ rfl<|AJ (AL rfl rfl<|C3 _ _) AQ) rfl)<|XM _ _ _
 unfold GR;cases hc:Jk r.length i j with
 |false=>
  rw[hc]at Z;exact C7<|(Bc Z).trans rfl
 |true=>
  rw[hc]at Z;rw[sq<|(BC Z).trans rfl,AIS];have D:=by unfold Jk at hc;simp only[AGx,AG0]at hc;exact hc.1
  rw[sq<|Xz (AJ (AL rfl rfl<|Bz r i (by cases D;lia) U)<|AJ (AL rfl rfl<|Bz r j U AGi) AQ) rfl];show AM _ _ [iL r,iI i,iI j,iI r.length,iM<|pv<|AA r i,iM<|pv<|AA r j,none,none,none,none]=_;have q:=λk=>Cz De C k;have F:CQ Ea [iL r,iI i,iI j,iI r.length,iM<|pv<|AA r i,iM<|pv<|AA r j,none,none,none,none]=some ((List.range r.length).map λk:Nat=>PV.int<|k):=CW (AJ rfl AQ)<|Eg T;have H:=HE (enc:=λk:Nat=>PV.int<|k) (gt:=Aa 6) (body:=cM)
   (c:=λk=>((!((k)==i||(k)==j))&&Ab (AA r i) (AA r j) (AA r k))||(((!((k)==i||(k)==j))&&(!(((k)+1)%(r.length)==i||((k)+1)%(r.length)==j)))&&BH (AA r i) (AA r j) (AA r k) (AA r<|((k)+1)%(r.length))))
   (λρ=>∃a b,ρ=[iL r,iI i,iI j,iI r.length,iM<|pv<|AA r i,iM<|pv<|AA r j,a,b,none,none]) (xs:=List.range r.length) ⟨none,none,rfl⟩ (by
   rintro k E ρ ⟨a,b,rfl⟩;have R:=AGq.mp E;refine⟨_,rfl,?_⟩;have I:=AG4 ((k)+1) (b:=(r.length))<|JQ h3;have Y:cG [iL r,iI i,iI j,iI r.length,iM<|pv<|AA r i,iM<|pv<|AA r j,iI k,b,none,none]=some ((!((k)==i||(k)==j))&&Ab (AA r i) (AA r j) (AA r k)):=
    Iy (Al<|AL rfl (Fl (AJ rfl<|AJ rfl AQ) rfl)<|SU _ _ _) λ_=>Al<|An (AJ rfl<|AJ rfl<|AJ (AL rfl rfl<|Bz r (k) U<|Ce R) AQ) rfl<|Ug (q _)<|q _
   have es:Ac 7 (f2 BV RB<|AG 3) [iL r,iI i,iI j,iI r.length,iM<|pv<|AA r i,iM<|pv<|AA r j,iI k,b,none,none]=some (.nx [iL r,iI i,iI j,iI r.length,iM<|pv<|AA r i,iM<|pv<|AA r j,iI k,iI<|((k)+1)%(r.length),none,none]):=
    Aq (AL (AL rfl rfl<|Fv _ _) rfl<|EH<|JQ h3) rfl
   have P:cP [iL r,iI i,iI j,iI r.length,iM<|pv<|AA r i,iM<|pv<|AA r j,iI k,iI<|((k)+1)%(r.length),none,none]=some ((!((k)==i||(k)==j))&&(!(((k)+1)%(r.length)==i||((k)+1)%(r.length)==j))):=
    Iy (Al<|AL rfl (Fl (AJ rfl<|AJ rfl AQ) rfl)<|SU _ _ _) λ_=>Al<|AL rfl (Fl (AJ rfl<|AJ rfl AQ) rfl)<|SU _ _ _
   have B:(AU cv) [iL r,iI i,iI j,iI r.length,iM<|pv<|AA r i,iM<|pv<|AA r j,iI k,iI<|((k)+1)%(r.length),none,none]=some (BH (AA r i) (AA r j) (AA r k)<|AA r<|((k)+1)%(r.length)):=
    Al (An (AJ rfl<|AJ rfl<|AJ (AL rfl rfl<|Bz r (k) U<|Ce R)<|AJ (AL rfl rfl<|Bz r (((k)+1)%(r.length)) U AGl) AQ) rfl<|ZK (q _) (q _) (q _)<|q _)
   generalize ((!((k)==i||(k)==j))&&Ab (AA r i) (AA r j) (AA r k))=b1 at *
   generalize ((!((k)==i||(k)==j))&&(!(((k)+1)%(r.length)==i||((k)+1)%(r.length)==j)))=b2 at *
   generalize BH (AA r i) (AA r j) (AA r k) (AA r<|((k)+1)%(r.length))=b3 at *
   cases b1 with
   |true=>exact⟨λ_=>C7<|(Bc Y).trans rfl,λh=>by simp at h⟩
   |false=>
    cases b2 with
    |false=>exact⟨λh=>by simp at h,λ_=>⟨_,(sq<|(BC Y).trans rfl).trans<|(sq es).trans<|(BC P).trans rfl,_,_,rfl⟩⟩
    |true=>
     cases b3 with
     |false=>exact⟨λh=>by simp at h,λ_=>⟨_,(sq<|(BC Y).trans rfl).trans<|(sq es).trans<|(Bc P).trans<|(BC B).trans rfl,_,_,rfl⟩⟩
     |true=>exact⟨λ_=>(sq<|(BC Y).trans rfl).trans<|(sq es).trans<|(Bc P).trans<|(Bc B).trans rfl,λh=>by simp at h⟩)
  cases G:AI.Sd r i j with
  |true=>exact C7<|(Bu F).trans<|H.1 G
  |false=>
   obtain⟨ρ',e,a,b,rfl⟩:=H.2 G;rw[sq<|(Bu F).trans e,AJ3,AIS];have l0:=AHE (i+1) (b:=(r.length))<|Lh h3;have I:=AG4 (i+1) (b:=(r.length))<|JQ h3;have n:AA r ((i+1)%(r.length))=AA r (i+1):=AI.Er r _;have S:=Bz r ((i+1)%(r.length)) U AGl;rw[n]at S;have fn:∀x y z w:Option SV,RK [iL r,iI i,iI j,iI r.length,iM<|pv<|AA r i,iM<|pv<|AA r j,x,y,z,w]=some (.cl<|pv<|AA r<|i+1):=λ_ _ _ _=>
    AL rfl (AL (AL rfl rfl<|Fv _ _) rfl<|EH<|JQ h3) S
   have fp:∀x y z w:Option SV,OE [iL r,iI i,iI j,iI r.length,iM<|pv<|AA r i,iM<|pv<|AA r j,x,y,z,w]=some (.cl<|pv<|AA r<|i-1):=λ_ _ _ _=>
    AL rfl (AL rfl rfl<|C3 _ _) (Bz r (i-1) (by cases D;lia) U)
   have sd:∀(f g h:EF)(u v w:Pt)(ρ:AS),Bd 1000 u->Bd 1000 v->f ρ=some (.cl<|pv u)->g ρ=some (.cl<|pv v)->h ρ=some (.cl<|pv w)->f2 CS (AW DV<|AH f<|AH g<|AH h AO) (fC<|.int 0) ρ=cB (decide (AE u v w>0)):=λf g h u v w ρ b1 b2 t e2 e3=>
    AL (An (AJ t<|AJ e2<|AJ e3 AQ) rfl<|Kr b1 b2) rfl (Fy _ _)
   rw[sq<|Aq (sd _ _ _ (AA r i) (AA r<|i+1) (AA r j) _ (q _) (q _) rfl (fn _ _ _ _) rfl) rfl];show AM _ _ [iL r,iI i,iI j,iI r.length,iM<|pv<|AA r i,iM<|pv<|AA r j,a,b,iM<|.bl<|decide (AE (AA r i) (AA r<|i+1) (AA r j)>0),none]=_;rw[sq<|Aq (sd _ _ _ (AA r<|i-1) (AA r i) (AA r j) _ (q _) (q _) (fp _ _ _ _) rfl rfl) rfl];show AM _ _ [iL r,iI i,iI j,iI r.length,iM<|pv<|AA r i,iM<|pv<|AA r j,a,b,iM<|.bl<|decide (AE (AA r i) (AA r<|i+1) (AA r j)>0),iM<|.bl<|decide (AE (AA r<|i-1) (AA r i) (AA r j)>0)]=_;have Q:=Al<|sd OE (AG 4) RK (AA r<|i-1) (AA r i) (AA r<|i+1) [iL r,iI i,iI j,iI r.length,iM<|pv<|AA r i,iM<|pv<|AA r j,a,b,iM<|.bl<|decide (AE (AA r i) (AA r<|i+1) (AA r j)>0),iM<|.bl<|decide (AE (AA r<|i-1) (AA r i) (AA r j)>0)] (q _) (q _) (fp _ _ _ _) rfl<|fn _ _ _ _;unfold AI.Qr;by_cases O:AE (AA r<|i-1) (AA r i) (AA r<|i+1)>0
   .rw[AHM O]at Q;rw[AGo O];exact C7<|(Bc Q).trans<|CI<|MJ rfl λ_=>rfl
   .rw[AHK O]at Q;rw[AGp O,sq<|(BC Q).trans rfl];exact CI<|RT rfl λ_=>rfl
theorem OV(e:g ρ=some [.cl<|.int<|i,.cl<|.int<|j])(hi:i<=1000)(hj:j<=1000):DL g ρ=some ((List.range<|j-i).map λt:Nat=>PV.int<|(i+t:Nat)):=by unfold DL;rw[e];dsimp only;rw[AGo (by unfold Jc;and_intros<;>lia)];unfold NO;rw[show((j:Int)-(i)).toNat=j-i by lia];dsimp only[Int.natCast_add]
theorem eO(ha:fa ρ=cI i)(z:fb ρ=cI j)(hc:fc ρ=cI k)(hd:fd ρ=cI l):Fm CA CA CA fa fb fc fd ρ=cB (decide (i<j)&&(decide (j<k)&&decide (k<l))):=by
 unfold Fm;rw[ha,z];dsimp only;simp only[GO];cases h:decide (i<j)
 .rfl
 .dsimp only;rw[hc];dsimp only;simp only[GO];cases h2:decide (j<k)
  .rfl
  .dsimp only;rw[hd];rfl
noncomputable def xB(e f:Pt):Bool:=(decide (e.1<f.1)&&(decide (f.1<e.2)&&decide (e.2<f.2)))||(decide (f.1<e.1)&&(decide (e.1<f.2)&&decide (f.2<e.2)))
theorem nY(e f:Pt):QL [pv e,pv f]=cB (xB e f):=by refine BY rfl ?_;exact CI<|RT (eO (AL rfl rfl<|EE e) (AL rfl rfl<|EE f) (AL rfl rfl<|DB e)<|AL rfl rfl<|DB f) λ_=>eO (AL rfl rfl<|EE f) (AL rfl rfl<|EE e) (AL rfl rfl<|DB f)<|AL rfl rfl<|DB e
theorem tK(e:f ρ=cB b):LI f ρ=cB (!b):=by unfold LI;rw[e]
theorem tG{bs:List Bool}(e:f ρ=some (.fr<|bs.map PV.bl)):fB Fx (AH f AO) ρ=cB (bs.all id):=by refine BO (AJ e AQ) ?_;simp only[Fx,RV.list,AHF,Ql,AHr]
theorem Uy{α:Type}{enc:α->PV}{h:α->Bool}{xs:List α}(e:its ρ=some (xs.map enc))(y:xs.length<=1000)(H:∀x∈xs,∃z,g (enc x) (Bt own cap ρ)=some z/\fe z=cB (h x)):fB Fx (AH (A5 its own cap g BP fe) AO) ρ=cB (xs.all h):=by have:=tG ((B4 e (by rw[AGm];exact y)<|Fg λx q=>(by obtain⟨z,a,b⟩:=H x q;exact⟨z,_,a,b,rfl⟩)).trans (by rw[AHT];rfl));rw[AKQ]at this;exact this
theorem oF(e:Pt){N:List Pt}(z:N.length<=1000):UJ [pv e,.lst<|AN N]=cB (!N.any (xB e)):=by refine BY rfl ?_;have:=tK (Vv <|(B4 (own:=1) (cap:=[0]) (its:=B5 false<|AG 1) (ρ:=A7 2 [pv e,.lst<|AN N]) (Fj rfl rfl) (by rw[Bv];exact z)<|Fg (g:=Aa 0) (fe:=AW QL Hf) λf _=>⟨_,_,rfl,An (AJ rfl<|AJ rfl AQ) rfl<|nY e f,rfl⟩).trans (by rw[AHT];rfl));rw[AId]at this;exact CI this
theorem kp(c:Int->Int->Int->Int->Bool)(e f:Pt):Mo c (.cl<|pv e) (.cl<|pv f)=cB (c e.1 e.2 f.1 f.2):=rfl
section
variable{r N:List Pt}(h:DI r=true)(hN:N.length<=1000)
def ltB(N:List Pt)(k:Nat):Bool:=K0 (AA N k).1 (AA N k).2 (AA N<|(k:Int)+1).1 (AA N<|(k:Int)+1).2
def k8(N:List Pt):Bool:=(List.range<|N.length-1).all<|ltB N
def zK(N:List Pt):Bool:=(List.range N.length).all λk=>!(N.take k).any (xB<|AA N k)
include hN in
theorem oM:Uh [.lst<|AN N]=cB (k8 N):=by
 refine BY rfl ?_;have y:CM (A7 1 [.lst<|AN N])=cI N.length:=BO (AJ rfl AQ) (by rw[EG,Bv]);refine CI (Uy (OV (g:=AH (fC<|.int 1) OG) (i:=1) (AJ rfl<|AJ y AQ) U hN) (by rw[AHD];omega) λt z=>?_);have z:=AGq.mp z;refine⟨_,rfl,?_⟩;refine AL (AL rfl (AL rfl rfl (by rw[C3,show((1+t:Nat):Int)-1=(t)by lia]))<|Bz _ _ U (by clear hN;omega)) (AL rfl rfl<|Bz _ _ U AGi) ?_;rw[show((1+t:Nat))=(t)+1 by lia]
 rfl
include h hN
theorem nZ(nl:N.length+3=r.length)(u:k8 N=true)(p:∀e∈N,QM [.lst<|AN r,.int e.1,.int e.2]=cB true)(nx:zK N=true):Kp [.lst<|AN r,.lst<|AN N]=cB true:=by
 refine BY rfl ?_;show AM _ _ [iL r,iL N]=_;have y:Ir [iL r,iL N]=cI N.length:=BO (AJ rfl AQ) (by rw[EG,Bv]);have Z:CM [iL r,iL N]=cI r.length:=BO (AJ rfl AQ) (by rw[EG,Bv]);have q:=Al<|AL y (AL (fb:=fC<|.int 3) Z rfl<|C3 _ _)<|GQ _ _;rw[show((N.length:Int)==(r.length)-3)=true by rw[AIA];lia]at q;rw[sq<|(BC q).trans rfl];have v:=Eb (D6<|Al<|An (g:=Cj) (ρ:=[iL r,iL N]) (AJ rfl AQ) rfl<|oM hN) λ_=>D6<|Al<|Uy (own:=1) (cap:=[0]) (its:=B5 false<|AG 1) (g:=Aa 0) (fe:=cq) (h:=λ_=>true) (Fj rfl rfl) hN λe he=>⟨_,rfl,An (AJ rfl<|AJ (AL rfl rfl<|EE e)<|AJ (AL rfl rfl<|DB e) AQ) rfl<|p e he⟩;rw[u,show(N.all λ_=>true)=true from AH9.mpr λ_ _=>rfl]at v;rw[sq<|(BC v).trans rfl];rw[<-nx];refine CI (Uy (CW (AJ y AQ) hN) (by rw[AHD];exact hN) λk z=>⟨_,rfl,?_⟩);have z:=AGq.mp z;refine An (rs:=[.cl<|pv<|AA N k,.fr<|AN<|N.take k]) (AJ (AL rfl rfl<|Bz _ _ U<|Ce z)<|AJ ?_ AQ) rfl (oF _ (by rw[AIX];grind));rw[<-aF N k U]
 rfl
end
theorem jH(R:Nat->AS->Prop)(h0:R 0 ρ)(step:∀i,i<n->∀ρ,R i ρ->∃z y,gt (enc i) ρ=some z/\body z=some (.nx y)/\R (i+1) y) : ∃ρ',C4 gt body ((List.range n).map enc) ρ=some (.nx ρ')/\R n ρ':=by
 have H:=IB (λ(u)(_)=>u) (λi _ ρ=>R i ρ) (xs:=List.range n) (b:=()) h0 λi x q b ρ hR=>by have hi:=(AGs.mp q).1;have v:=(AGs.mp q).2;simp at hi v;subst v;rw[AI0]at hR ⊢;exact step i hi ρ hR
 rw[AHD,AI0]at H;exact H
theorem eT(e:f ρ=some r)(z:g ρ=some rs)(y:r.C0=some (ks,xs))(q:Kc rs=some k)(v:DK ks xs k=some p)(u:Nat.ble k.length 1000=true:=by rfl):LF f g ρ=some (.cl p):=by
 unfold LF;rw[e,z];dsimp only;rw[y,q];dsimp only;rw[AGo<|AJI u,v]
 rfl
theorem tI(e:f ρ=some r)(z:ρ[i]? = some (some<|.Dv t ks xs))(y:g ρ=some rs)(q:r.clean=some p)(v:Kc rs=some k)(u:ks.length<1000000)(Z:Nat.ble k.length 1000=true:=by rfl) : MT i g f ρ=some (.nx<|ρ.set i<|some<|.Dv t (Gp ks k)<|Iv ks xs k p):=by unfold MT;rw[e,z,y];dsimp only;rw[q,v];dsimp only;rw[AGo ⟨u,AJI Z⟩]
noncomputable def kN(i j:Nat):List Int:=[(i:Int),(j:Int)]
theorem xX:kN i j=kN k l↔i=k/\j=l:=by unfold kN;constructor<;>lia
def Dq(r:List Pt)(i j:Nat):Bool:=((j:Int)-(i:Int)==1||(j:Int)-(i:Int)==(r.length:Int)-1)||GR r (i:Int) (j:Int)
def Nw(r:List Pt)(ok:Nat->Nat->Prop)(b:Nat)(ks:List<|List Int)(xs:List PV):Prop:=ks.length=xs.length/\ks.length<=b/\∀x y,x<y->y<r.length->ok x y->DK ks xs (kN x y)=some (.bl<|Dq r x y)
set_option tactic.hygienic false
theorem Nw.put(h:Nw r ok b ks xs)(i j:Nat)(AX:∀x y,x<y->y<r.length->z x y->(x=i/\y=j)\/ok x y):Nw r z (b+1) (Gp ks<|kN i j)<|Iv ks xs (kN i j)<|.bl<|Dq r i j:=by
 refine⟨r9 h.1 _ _,AHd (ro _ _) (by have:=h.2.1;exact Pf this),λx y h1 q h3=>?_⟩;rw[rY h.1];by_cases e:kN x y=kN i j
 .rw[AGo e];obtain⟨rfl,rfl⟩:=xX.mp e
  rfl
 .rw[AGp e];rcases AX x y h1 q h3 with⟨rfl,rfl⟩|v
  .exact absurd rfl e
  .exact h.2.2 x y h1 q v
theorem oA(h:DI r=true):∃ks xs,US [.lst<|AN r]=some (.fd ks xs)/\ks≠[]/\∀x y,x<y->y<r.length->DK ks xs (kN x y)=some (.bl<|Dq r x y):=by
 obtain⟨h3,p,Z⟩:=HQ h;have Y:CM (A7 5 [.lst<|AN r])=cI r.length:=by rw[<-Bv];rfl
 obtain⟨ρ',e,ks,xs,c,d,rfl,q⟩:=jH (gt:=Aa 3) (body:=bZ) (λm ρ=>∃ks xs c d,ρ=[iL r,iI r.length,some<|.Dv none ks xs,c,d]/\Nw r (λ_ y=>y<m) (12*m) ks xs) (n:=r.length) ⟨[],[],none,none,rfl,rfl,AGh,λx y _ _ h=>U⟩ (by
  rintro m hm ρ ⟨ks,xs,c,d,rfl,q⟩;obtain⟨ρ',e,Sb,Y6,d',rfl,u⟩:=jH (gt:=Aa 4) (body:=bb) (λf ρ=>∃ks xs d,ρ=[iL r,iI r.length,some<|.Dv none ks xs,iI m,d]/\Nw r (λx y=>y<m\/(y=m/\x<f)) (12*m+f) ks xs) (n:=m) ⟨ks,xs,d,rfl,q.1,q.2.1,λx y h1 v h3=>q.2.2 x y h1 v U⟩ (by
   rintro f hf ρ ⟨ks,xs,d,rfl,q⟩;have Q:b8 [iL r,iI r.length,some<|.Dv none ks xs,iI m,iI f]=cB (Dq r f m):=by exact RT (AL (AL rfl rfl<|C3 _ _) (Fl (AJ rfl<|AJ (AL rfl rfl<|C3 _ _) AQ) rfl)<|XM _ _ _) λ_=>An (AJ rfl<|AJ rfl<|AJ rfl AQ) rfl<|oB h3 p Z _ _
   exact⟨_,_,rfl,tI (k:=kN f m) Q rfl rfl rfl rfl (by have:=q.2.1;lia),_,_,_,rfl,q.put f m λx y h1 v h3=>by rcases h3 with h3|h3<;>lia⟩)
  exact⟨_,_,rfl,(Bu<|CW (AJ rfl AQ) U).trans e,_,_,_,_,rfl,u.1,by have:=u.2.1;lia,λx y h1 v h3=>u.2.2 x y h1 v U⟩)
 refine⟨ks,xs,BY rfl ?_,λz=>?_,λx y h1 v=>q.2.2 x y h1 v v⟩
 .unfold ae;rw[sq<|Aq Y rfl];rw[sq (ρ':=[iL r,iI r.length,some<|.Dv none [] [],none,none]) rfl];rw[sq<|(Bu<|CW (AJ rfl AQ)<|Eg p).trans e]
  rfl
 .have:=q.2.2 0 1 U U U;rw[z]at this
  contradiction
end L2.EV
namespace BE
abbrev NN:=Nat×Nat
def X(e f:NN):Prop:=(e.1<f.1/\f.1<e.2/\e.2<f.2)\/(f.1<e.1/\e.1<f.2/\f.2<e.2)
noncomputable def mc(S:List NN)(i j:Nat):Nat:=S.countP λe=>decide (i<=e.1/\e.2<=j)
def jn(S:List NN)(i j:Nat):Prop:=j=i+1\/(i,j)∈S
structure Nx(S:List NN):Prop where
 nd:S.Nodup
 Bl:∀e∈S,e.1+1<e.2
 nx:∀e∈S,∀f∈S,¬ X e f
theorem countP_le(p q r:α->Bool):∀l:List α,(∀x∈l,p x=true->q x=true\/r x=true)->l.countP p<=l.countP q+l.countP r
 |[],_=>AGh
 |x::l,h=>by
  have ih:=countP_le p q r l λy z=>h y<|AGr _ z;simp only[AKT,AKT,AKT];by_cases a:p x=true
  .rcases(h x AGw) a with b|b<;>rw[AGo a,AGo b]<;>lia
  .rw[AGp a];lia
theorem tV(S:List NN)(h:i+1<j):∃c,i<c/\c<j/\jn S i c/\∀d,c<d->d<j->(i,d)∉S:=by
 suffices ∀k,i+1+k<j->(∀d,i+1+k<d->d<j->(i,d)∉S)->∃c,i<c/\c<j/\jn S i c/\∀d,c<d->d<j->(i,d)∉S from
  this (j-i-2) U λd a b=>U
 intro k
 induction k with
 |zero=>exact λa b=>⟨i+1,FP,a,.inl rfl,b⟩
 |succ k ih=>
  intro a b;by_cases m:(i,i+1+(k+1))∈S
  .exact⟨_,U,a,.inr m,b⟩
  .refine ih U λd p q=>?_;by_cases e:d=i+1+(k+1)
   .rwa [e]
   .exact b d U q
theorem Nx.split(N:Nx S)(h:i+1<j):∃c,i<c/\c<j/\jn S i c/\∀e∈S,i<=e.1->e.2<=j->e=(i,j)\/e.2<=c\/c<=e.1:=by
 obtain⟨c,y,v,c3,u⟩:=tV S h;refine⟨c,y,v,c3,λe he a b=>?_⟩;have z:e.1=i->c<e.2->e.2<j->False:=λp q r=>u e.2 q r (by rw[<-p];exact he);rcases c3 with c3|c3
 .by_cases p:e.1=i
  .by_cases q:e.2=j
   .exact .inl<|AID p q
   .right;left;have:=z p;lia
  .lia
 .have:=N.nx _ c3 e he;unfold X at this;by_cases p:e.1=i
  .by_cases q:e.2=j
   .exact .inl<|AID p q
   .right;left;have:=z p;lia
  .dsimp only at this;lia
theorem aB{S:List NN}(nd:S.Nodup)(e:NN):S.countP (λf=>decide (f=e))<=1:=by have:=List.nodup_iff_count.mp nd e;refine AHd (AK0 ?_) this;exact List.countP_congr λx _=>AGh
theorem Nx.cut(N:Nx S)(hc:∀e∈S,i<=e.1->e.2<=j->e=(i,j)\/e.2<=c\/c<=e.1):mc S i j<=S.countP (λf=>decide (f=(i,j)))+(mc S i c+mc S c j):=by
 have a:=countP_le (λe=>decide (i<=e.1/\e.2<=j)) (λf=>decide (f=(i,j))) (λe=>decide (i<=e.1/\e.2<=c)||decide (c<=e.1/\e.2<=j)) S λe he h=>by
  simp only[AG0,AHs]at h ⊢;rcases hc e he h.1 h.2 with z|z|z
  .exact .inl z
  .exact .inr<|.inl ⟨h.1,z⟩
  .exact .inr<|.inr ⟨z,h.2⟩
 have b:=countP_le (λe:NN=>decide (i<=e.1/\e.2<=c)||decide (c<=e.1/\e.2<=j)) (λe=>decide (i<=e.1/\e.2<=c)) (λe=>decide (c<=e.1/\e.2<=j)) S λe _ h=>by simpa using h
 unfold mc;lia
theorem Nx.le(N:Nx S):∀(k i j:Nat),j-i<=k->i<j->mc S i j<=j-i-1
 |0,i,j,h,h'=>U
 |k+1,i,j,h,h'=>by
  by_cases g:i+1<j
  .obtain⟨c,y,q,_,v⟩:=N.split g;have:=N.cut v;have:=aB N.nd (i,j);have:=N.le k i c U y;have:=N.le k c j U q;lia
  .have:mc S i j=0:=AJV.mpr λe he z=>by have:=N.Bl e he;simp only[AG0]at z;lia
   lia
def full(S:List NN)(i j:Nat):Prop:=mc S i j=j-i-1
theorem Nx.FI(N:Nx S)(h:i<j)(f:full S i j):jn S i j:=by
 by_cases g:i+1<j
 .right;by_cases m:(i,j)∈S
  .exact m
  .obtain⟨c,y,q,_,v⟩:=N.split g;have a:=N.cut v;have b:=N.le (c-i) i c U y;have d:=N.le (j-c) c j U q;have:S.countP (λf=>decide (f=(i,j)))=0:=AJV.mpr λe he z=>m (by simp only[AG0]at z;rwa [<-z]);unfold full at f
   grind
 .exact .inl U
theorem Nx.GH(N:Nx S)(g:i+1<j)(f:j-i-1<=mc S i j+1/\(i,j)∉S\/full S i j):∃c,i<c/\c<j/\full S i c/\full S c j/\∀e∈S,i<=e.1->e.2<=j->e=(i,j)\/e.2<=c\/c<=e.1:=by
 obtain⟨c,y,q,_,v⟩:=N.split g;have a:=N.cut v;have b:=N.le (c-i) i c U y;have d:=N.le (j-c) c j U q;have o:=aB N.nd (i,j);refine⟨c,y,q,?_,?_,v⟩<;>unfold full at *
 all_goals
  rcases f with⟨f,m⟩|f
  .have:S.countP (λf=>decide (f=(i,j)))=0:=AJV.mpr λe he z=>m (by simp only[AG0]at z;rwa [<-z]);clear g;grind
  .clear g;grind
structure Ct(n:Nat)(S:List NN):Prop extends Nx S where
 lt:∀e∈S,e.2<n
 rt:(0,n-1)∉S
 ln:S.length+3=n
def J(n:Nat)(S:List NN)(i j:Nat):Prop:=j=i+1\/(i,j)∈S\/(i=0/\j=n-1)
def JJ(n:Nat)(S:List NN)(i j:Nat):Prop:=(i<j/\J n S i j)\/(j<i/\J n S j i)
theorem jn.J(h:jn S i j):J n S i j:=h.elim .inl λh=>.inr<|.inl h
theorem Ct.down(C:Ct n S)(ab:a<b)(h:jn S a b):∀(k i j:Nat),j-i<=k->i+1<j->j<n->J n S i j->(j-i-1<=mc S i j+1/\(i,j)∉S\/full S i j)->i<=a->b<=j->(a,b)≠(i,j)->full S a b/\∃d,d<n/\(d<a\/b<d)/\JJ n S d a/\JJ n S d b
 |0,i,j,h1,h2,_,_,_,_,_,_=>AGg
 |k+1,i,j,h1,h2,h3,h4,h5,h6,h7,h8=>by
  obtain⟨c,y,q,c3,v,Z⟩:=C.GH h2 h5;have s:b<=c\/c<=a:=by
   rcases h with h|h
   .lia
   .rcases Z _ h h6 h7 with z|z
    .exact absurd z h8
    .exact z
  have u:=C.FI y c3;have p:=C.FI q v;rcases s with s|s
  .by_cases e:(a,b)=(i,c)
   .obtain⟨rfl,rfl⟩:=AIW e;exact⟨c3,j,h3,.inr q,.inr ⟨Lg h2,h4⟩,.inr ⟨q,p.J⟩⟩
   .have:i+1<c:=by
     rcases AKR (i+1) c with z|z
     .exact z
     .exact absurd (AID (by dsimp only;clear y;lia) (by dsimp only;clear y;lia)) e
    exact C.down ab h k i c AGg this (Br q h3) u.J (.inr c3) h6 s e
  .by_cases e:(a,b)=(c,j)
   .obtain⟨rfl,rfl⟩:=AIW e;exact⟨v,i,JS y ab h3,.inl y,.inl ⟨y,u.J⟩,.inl ⟨Br y ab,h4⟩⟩
   .have:c+1<j:=by
     rcases AKR (c+1) j with z|z
     .exact z
     .exact absurd (AID (by dsimp only;clear q;lia) (by dsimp only;clear q;lia)) e
    exact C.down ab h k c j AGg this h3 p.J (.inr v) s h7 e
theorem Ct.whole(C:Ct n S):mc S 0 (n-1)=S.length:=by exact List.countP_eq_length.mpr λe he=>by have:=C.lt e he;lia
theorem Ct.root(C:Ct n S):n-1-0-1<=mc S 0 (n-1)+1/\(0,n-1)∉S:=by have:=C.whole;have:=C.ln;exact⟨by subst this;lia,C.rt⟩
theorem Ct.Vm(C:Ct n S):∀(k i j:Nat),j-i<=k->i<j->j<n->(j-i-1<=mc S i j+1/\(i,j)∉S\/full S i j)->∀x y:Nat,x<3->y<3->x≠y->∃f:Nat->Nat,f i=x/\f j=y/\(∀u,f u<3)/\∀u v,i<=u->u<v->v<=j->J n S u v->f u≠f v
 |0,i,j,h,h1,_,_,_,_,_,_,_=>U
 |k+1,i,j,h,h1,h2,h3,x,y,hx,hy,hn=>by
  by_cases g:i+1<j
  .obtain⟨c,B,D,c3,G,T⟩:=C.GH g h3;obtain⟨f,f1,f2,f3,f4⟩:=C.Vm k i c U B (Br D h2) (.inr c3) x (3-x-y) hx U U;obtain⟨g,g1,F,E,H⟩:=C.Vm k c j U D h2 (.inr G) (3-x-y) y U hy U;have p:∀u,u<=c->(if u<=c then f u else g u)=f u:=λu R=>AGo R;have Z:∀u,c<=u->(if u<=c then f u else g u)=g u:=λu R=>by
    by_cases e:u<=c
    .rw[AGo e,show u=c by lia,f2,g1]
    .exact AGp e
   refine⟨λu=>if u<=c then f u else g u,(p i U).trans f1,(Z j U).trans F,λu=>?_,λu v Y Q O q=>?_⟩
   .dsimp only;split
    .exact f3 u
    .exact E u
   .have P:(u=i/\v=j)\/v<=c\/c<=u:=by
     rcases q with q|q|q
     .lia
     .rcases T _ q Y O with z|z|z
      .exact .inl ⟨(AIW z).1,(AIW z).2⟩
      .exact .inr<|.inl z
      .exact .inr<|.inr z
     .lia
    dsimp only;rcases P with⟨rfl,rfl⟩|z|z
    .rw[p u U,Z v U,f1,F];exact hn
    .rw[p u U,p v z];exact f4 u v Y Q z q
    .rw[Z u z,Z v U];exact H u v z Q O q
  .refine⟨λu=>if u=i then x else y,AGo rfl,AGp U,λu=>?_,λu v Y Q O _=>?_⟩
   .dsimp only;split
    .exact hx
    .exact hy
   .dsimp only;rw[AGo U,AGp U];exact hn
theorem Ct.sL(C:Ct n S):∃f:Nat->Nat,f 0=0/\f 1=1/\(∀u,f u<3)/\∀u v,u<v->v<n->J n S u v->f u≠f v:=by
 have z:=C.ln;obtain⟨f,f1,_,f3,f4⟩:=C.Vm (n-1) 0 (n-1) U (by subst z;lia) (M6 z) (.inl C.root) 0 1 U U U;have h1:=f4 0 1 U U U<|.inl rfl;rw[f1]at h1;have h2:=f3 1;by_cases e:f 1=1
 .exact⟨f,f1,e,f3,λu v a b=>f4 u v M3 a U⟩
 .refine⟨λu=>(3-f u)%3,by dsimp only;rw[f1],by dsimp only;rw[show f 1=2 by lia],λu=>AGg,λu v a b c=>?_⟩;have:=f4 u v M3 a U c;have:=f3 u;have:=f3 v
  grind
def T3(n:Nat)(S:List NN)(i j k:Nat):Prop:=i<j/\j<k/\k<n/\J n S i j/\J n S j k/\J n S i k
section
variable{n:Nat}{S:List NN}(C:Ct n S){P:Nat->Prop}(h0:P 0)(h1:P 1)(h:∀u v w,T3 n S u v w->(P u->P v->P w)/\(P u->P w->P v))
include C h0 h1 h
theorem Ct.fH:∀(k j:Nat),j<=k->0<j->j<n->(j-0-1<=mc S 0 j+1/\(0,j)∉S\/full S 0 j)->J n S 0 j->P j
 |0,j,a,b,_,_,_=>U
 |k+1,j,a,b,c,d,e=>by
  by_cases g:0+1<j
  .obtain⟨z,y,q,c3,Z,_⟩:=C.GH g d;have p:J n S 0 z:=(C.FI y c3).J;exact(h 0 z j ⟨y,q,c,p,(C.FI q Z).J,e⟩).1 h0 (Ct.fH k z U y (Br q c) (.inr c3) p)
  .rw[show j=1 by lia];exact h1
theorem Ct.inner:∀(k i j:Nat),j-i<=k->i<j->j<n->(j-i-1<=mc S i j+1/\(i,j)∉S\/full S i j)->J n S i j->P i->P j->∀u,i<=u->u<=j->P u
 |0,i,j,a,b,_,_,_,_,_,_=>AGg
 |k+1,i,j,a,b,c,d,e,pi,pj,u=>λD F=>by
  by_cases g:i+1<j
  .obtain⟨y,p,q,c3,Z,_⟩:=C.GH g d;have Y:J n S i y:=(C.FI p c3).J;have Q:J n S y j:=(C.FI q Z).J;have O:=(h i y j ⟨p,q,c,Y,Q,e⟩).2 pi pj;rcases Nat.le_total u y with z|z
   .exact Ct.inner k i y U p (Br q c) (.inr c3) Y pi O u D z
   .exact Ct.inner k y j U q c (.inr Z) Q O pj u z F
  .rcases AKR i u with z|z
   .rw[show u=j by clear b;lia];exact pj
   .rw[show u=i by lia];exact pi
theorem Ct.oo(u:Nat)(hu:u<n):P u:=by have z:=C.ln;have r:J n S 0<|n-1:=.inr<|.inr ⟨rfl,rfl⟩;exact C.inner h0 h1 h (n-1) 0 (n-1) U U (M6 z) (.inl C.root) r h0 (C.fH h0 h1 h (n-1) (n-1) (AGy _) U (M6 z) (.inl C.root) r) u M3 U
end
noncomputable def ps(h:Nat->Nat->Int)(i:Nat):Nat->Int
 |0=>0
 |m+1=>ps h i m+h (i+m) (i+m+1)
theorem kX(h:Nat->Nat->Int)(i a:Nat):∀b,ps h i (a+b)=ps h i a+ps h (i+a) b
 |0=>by rw[ps,Nat.add_zero,AG9]
 |b+1=>by rw[<-AKv,ps,ps,kX h i a b,show i+(a+b)=i+a+b by lia,AIi]
noncomputable def wi(i j:Nat)(x:Nat×Nat×Nat):Bool:=decide (i<=x.1/\x.2.2<=j)
theorem AAp{a b:List Int}(h:a.Perm b):a.sum=b.sum:=by
 induction h with
 |nil=>rfl
 |cons x _ ih=>rw[AIB,AIB,ih]
 |swap x y l=>rw[AIB,AIB,AIB,AIB];lia
 |trans _ _ h1 h2=>exact h1.trans h2
theorem l5:∀a b:List Int,(a++b).sum=a.sum+b.sum
 |[],b=>by rw[AH1,List.sum_nil,AHW]
 |x::a,b=>by rw[AIJ,AIB,AIB,l5 a b,AIi]
section
variable{n:Nat}{S:List NN}(C:Ct n S)
include C
theorem Ct.LB(hj:j<n)(q:∀e∈S,i<=e.1->e.2<=j->e=(i,j)\/e.2<=c\/c<=e.1)(p:i<=u)(a2:u<v)(Z:v<=j)(y:J n S u v):(u=i/\v=j)\/v<=c\/c<=u:=by
 rcases y with y|y|y
 .right;lia
 .rcases q _ y p Z with z|z|z
  .exact .inl ⟨(AIW z).1,(AIW z).2⟩
  .exact .inr<|.inl z
  .exact .inr<|.inr z
 .grind
variable{L:List (Nat×Nat×Nat)}(nd:L.Nodup)(hL:∀u v w,(u,v,w)∈L↔T3 n S u v w)
include nd hL
theorem Ct.parts(Z:j<n)(D:J n S i j)(O:i<c)(P:c<j)(c3:full S i c)(F:full S c j)(Y:∀e∈S,i<=e.1->e.2<=j->e=(i,j)\/e.2<=c\/c<=e.1):(L.filter<|wi i j).Perm ((i,c,j)::(L.filter (wi i c)++L.filter (wi c j))):=by
 have R:J n S i c:=(C.FI O c3).J;have B:J n S c j:=(C.FI P F).J;have lt:∀x∈L,x.1<x.2.1/\x.2.1<x.2.2:=λx Q=>by obtain⟨u,v,w⟩:=x;have:=(hL u v w).mp Q;exact⟨this.1,this.2.1⟩
 refine(AJP (nd.filter _) ?_).mpr ?_
 .refine AIQ.mpr ⟨λm=>?_,AKF.mpr ⟨nd.filter _,nd.filter _,?_⟩⟩
  .rcases AHJ.mp m with m|m<;>have:=(AHN.mp m).2<;>unfold wi at this<;>simp only[AG0]at this<;>lia
  .intro x Q y G e;subst e;have a:=AHN.mp Q;have b:=AHN.mp G;have:=lt x a.1;unfold wi at a b;simp only[AG0]at a b;lia
 .rintro⟨u,v,w⟩;rw[AGz,AHJ,AHN,AHN,AHN];unfold wi;simp only[AG0];constructor
  .rintro⟨m,q,p⟩;obtain⟨t1,t2,t3,T,E,H⟩:=(hL u v w).mp m;rcases C.LB Z Y q (Br t1 t2) p H with⟨rfl,rfl⟩|z|z
   .rcases C.LB Z Y q t1 U T with z|z|z
    .lia
    .rcases C.LB Z Y U t2 p E with y|y|y
     .lia
     .grind
     .left;rw[show v=c by lia]
    .grind
   .exact .inr<|.inl ⟨m,q,z⟩
   .exact .inr<|.inr ⟨m,z,p⟩
  .rintro(z|⟨m,q,p⟩|⟨m,q,p⟩)
   .obtain⟨I,t⟩:=AIW z;obtain⟨f,h⟩:=AIW t;subst I f h;exact⟨(hL _ _ _).mpr ⟨O,P,Z,R,B,D⟩,AGy _,AGy _⟩
   .exact⟨m,q,U⟩
   .exact⟨m,U,p⟩
theorem Ct.sum(y:∀a b,h b a = - h a b)(Y:∀i c j,T3 n S i c j->g (i,c,j)=h i c+h c j+h j i):∀(k i j:Nat),j-i<=k->i<j->j<n->J n S i j->(j-i-1<=mc S i j+1/\(i,j)∉S\/full S i j)->((L.filter<|wi i j).map g).sum=ps h i (j-i)+h j i
 |0,i,j,a,b,_,_,_=>AGg
 |k+1,i,j,a,b,hj,Bm,d=>by
  by_cases e:i+1<j
  .obtain⟨c,Z,q,c3,Q,F⟩:=C.GH e d;have O:J n S i c:=(C.FI Z c3).J;have P:J n S c j:=(C.FI q Q).J;rw[AAp<|(C.parts nd hL hj Bm Z q c3 Q F).map g,AGv,AHS,AIB,l5,Ct.sum y Y k i c U Z (Br q hj) O<|.inr c3,Ct.sum y Y k c j U q hj P<|.inr Q,Y i c j ⟨Z,q,hj,O,P,Bm⟩];have p:=kX h i (c-i)<|j-c;rw[show c-i+(j-c)=j-i by grind,show i+(c-i)=c by lia]at p;have a1:=y i c;have a2:=y c j
   grind
  .have z:L.filter (wi i j)=[]:=AJq.mpr λx D m=>by
    obtain⟨u,v,w⟩:=x;have:=(hL u v w).mp D;unfold wi at m;simp only[AG0]at m;have:=this.1;have:=(hL u v w).mp D |>.2.1
    clear b;lia
   rw[z,show j-i=0+1 by grind,ps,ps,show j=i+1 by lia];have:=y i<|i+1;simp only[AIm,List.sum_nil]
   grind
theorem Ct.AFY(q:∀a b,h b a = - h a b)(y:∀i c j,T3 n S i c j->g (i,c,j)=h i c+h c j+h j i):(L.map g).sum=ps h 0 (n-1)+h (n-1) 0:=by
 have z:=C.ln;have e:=Ct.sum C nd hL q y (n-1) 0 (n-1) U (by clear y;subst z;lia) (M6 z) (.inr<|.inr ⟨rfl,rfl⟩)<|.inl C.root;have f:L.filter (wi 0<|n-1)=L:=AJY.mpr λx p=>by obtain⟨u,v,w⟩:=x;have:=(hL u v w).mp p;have:=this.2.2.1;unfold wi;clear e;subst z;lia
 rw[f]at e;exact e
end
section
variable{n:Nat}{S:List NN}(C:Ct n S)
include C
theorem Ct.AE8:∃c,T3 n S 0 c<|n-1:=by have z:=C.ln;obtain⟨c,y,q,c3,v,_⟩:=C.GH (by subst z;lia)<|.inl C.root;exact⟨c,y,q,M6 z,(C.FI y c3).J,(C.FI q v).J,.inr<|.inr ⟨rfl,rfl⟩⟩
theorem Ct.dn(ab:a<b)(bn:b<n)(h:jn S a b):full S a b/\∃d,d<n/\(d<a\/b<d)/\JJ n S d a/\JJ n S d b:=by
 have z:=C.ln;exact C.down ab h (n-1) 0 (n-1) U U (M6 z) (.inr<|.inr ⟨rfl,rfl⟩) (.inl C.root) M3 U λe=>by
  rcases h with h|h
  .lia
  .exact C.rt (by rw[<-e];exact h)
theorem Ct.tin(h:(a,b)∈S):∃c,T3 n S a c b:=by have f:=C.Bl _ h;have l:=C.lt _ h;dsimp only at f l;obtain⟨q,_⟩:=C.dn (Lg f) l<|.inr h;obtain⟨c,z,y,c3,v,_⟩:=C.GH f<|.inr q;exact⟨c,z,y,l,(C.FI z c3).J,(C.FI y v).J,.inr<|.inl h⟩
theorem Ct.mV(ab:a<b)(u:b<n)(h:jn S a b):∃d,T3 n S d a b\/T3 n S a b d:=by
 obtain⟨_,d,p,y,q,v⟩:=C.dn ab u h;unfold JJ at q v;rcases y with y|y
 .exact⟨d,.inl ⟨y,ab,u,by rcases q with z|z;exact z.2;lia,h.J,by rcases v with z|z;exact z.2;lia⟩⟩
 .exact⟨d,.inr ⟨ab,y,p,h.J,by rcases v with z|z;lia;exact z.2,by rcases q with z|z;lia;exact z.2⟩⟩
end
theorem Yi{α:Type}{g:α->Int}:∀{l:List α},(∀x∈l,0<=g x)->0<=(l.map g).sum
 |[],_=>AGh
 |x::l,h=>by have:=Yi λy z=>h y<|AGr _ z;have:=h x AGw;rw[AGv,AIB];lia
theorem Tp{α:Type}{g:α->Int}:∀{l:List α},(∀x∈l,0<=g x)->∀x∈l,g x<=(l.map g).sum
 |[],_,_,m=>by cases m
 |y::l,h,x,m=>by
  have a:=Yi λy z=>h y<|AGr _ z;have b:=h y AGw;rw[AGv,AIB];rcases AGz.mp m with rfl|m
  .lia
  .have:=Tp (λy z=>h y<|AGr _ z) x m;lia
theorem l6{α:Type}{g:α->Int}:∀{l:List α},(∀x∈l,0<=g x)->∀x∈l,∀y∈l,x≠y->g x+g y<=(l.map g).sum
 |[],_,_,m,_,_,_=>by cases m
 |z::l,h,x,m,y,m',hn=>by
  have h':=λy q=>h y<|AGr _ q;rw[AGv,AIB];rcases AGz.mp m with e1|m1<;>rcases AGz.mp m' with e2|m2
  .exact absurd (e1.trans e2.symm) hn
  .have:=Tp h' y m2;rw[e1];lia
  .have:=Tp h' x m1;rw[e2];lia
  .have:=l6 h' x m1 y m2 hn;have:=h z AGw;lia
theorem l8{α:Type}{g:α->Int}:∀{l:List α},0<(l.map g).sum->∃x∈l,0<g x
 |[],h=>by simp at h
 |x::l,h=>by
  rw[AGv,AIB]at h;by_cases c:0<g x
  .exact⟨x,AGw,c⟩
  .obtain⟨y,m,k⟩:=l8 (l:=l) (g:=g) U;exact⟨y,AGr _ m,k⟩
end BE
namespace L2.EV
open L2.PL L2.K
open AI (AE Ab Az BH AA M nb Rm)
theorem PQ(h:DI r=true)(y:i<j)(q:j<r.length):GR r (i) (j)=true↔AI.Line r (i) (j):=by
 obtain⟨R,_⟩:=(Kd r).mp h;have h3:=R.l3;unfold GR;constructor
 .intro e;rw[AGx,AGx,AHZ]at e;obtain⟨hc,v,z⟩:=e;simp only[Jk,AGx,AGx,AGx,AG0,AG0,AG0,AHZ,AHe,AHG,AHG]at hc;obtain⟨⟨a,b,c⟩,d,e⟩:=hc;have f:AI.CK r.length<|(i)-j:=AI.MM (by clear z;right;lia);exact⟨(AI.iy R.simple R.FC a AGi AGi c f).mp v,AI.aA.mp z⟩
 .rintro⟨p,k⟩;have f:=AI.MN (KS h3) p.Bl (by clear y;lia) U;simp only[AGx,AGx,AHZ];refine⟨?_,(AI.iy R.simple R.FC Bj AGi U (Ce q) p.Bl).mpr p,AI.aA.mpr k⟩;simp only[Jk,AGx,AGx,AGx,AG0,AG0,AG0,AHZ,AHe,AHG,AHG];clear h3;omega
theorem O8:Dq r i j=true↔(j:Int)-i=1\/(j:Int)-i=(r.length)-1\/GR r i j=true:=by unfold Dq;rw[AHs,AHs,AIA,AIA,or_assoc]
theorem xO(h:DI r=true)(y:a+1<b)(z:b<r.length)(q:Dq r a b=true):∃c,a<c/\c<b/\Dq r a c=true/\Dq r c b=true:=by
 obtain⟨R,_⟩:=(Kd r).mp h;obtain⟨k,k1,k2,k3,v⟩:=R.GH (i:=(a)) (j:=(b)) Bj U (Ce z) (by
  rcases O8.mp q with c|c|c
  .lia
  .right;lia
  .exact .inl<|(PQ h (Lg y) z).mp c)
 obtain⟨c,rfl⟩:∃c:Nat,k=(c):=⟨k.toNat,U⟩;refine⟨c,Pg k1,Pg k2,O8.mpr ?_,O8.mpr ?_⟩
 .rcases k3 with e|e
  .left;lia
  .exact .inr<|.inr<|(PQ h (Pg k1) U).mpr e
 .rcases v with e|e
  .left;lia
  .exact .inr<|.inr<|(PQ h (Pg k2) AGl).mpr e
abbrev NN:=Nat×Nat
noncomputable def Gd(T:List NN):Nat:=(T.map λe=>e.2-e.1-1).sum
noncomputable def FQ(T:List NN):Nat:=(T.map λe=>2*(e.2-e.1)-1).sum
structure Dr(r:List Pt)(T L:List NN):Prop where
 seg:∀e∈T,e.1<e.2/\e.2<r.length/\Dq r e.1 e.2=true
 bL:T.Pairwise λe f=>e.2<=f.1\/f.2<=e.1
 ln:∀e∈L,e.1<e.2/\e.2<r.length/\GR r e.1 e.2=true
 out:∀e∈L,∀f∈T,(e.1<=f.1/\f.2<=e.2/\(e.1<f.1\/f.2<e.2))\/e.2<=f.1\/f.2<=e.1
 nx:L.Pairwise λe f=>e≠f/\¬ BE.X e f
 ct:(T=[(0,r.length-1)]/\L=[])\/L.length+Gd T+3=r.length
theorem Y4(T AGf:List NN):Gd (T++AGf)=Gd T+Gd AGf:=by unfold Gd;rw[AHS,AKe]
theorem yW(T AGf:List NN):FQ (T++AGf)=FQ T+FQ AGf:=by unfold FQ;rw[AHS,AKe]
theorem Dr.drop(D:Dr r (T ++ [(a,b)]) L)(h3:3<=r.length)(h:¬ a+1<b):Dr r T L:=by
 have m:∀e∈T,e∈T ++ [(a,b)]:=λe he=>AHw _ he;refine⟨λe he=>D.seg e<|m e he,(AHp.mp D.bL).1,D.ln,λe he f z=>D.out e he f<|m f z,D.nx,?_⟩;rcases D.ct with⟨c,_⟩|c
 .have:=AHa List.getLast? c;simp at this;omega
 .rw[Y4,show Gd [(a,b)]=0 by simp[Gd];clear c;omega]at c;exact .inr c
theorem Dr.step(D:Dr r (T ++ [(a,b)]) L)(y:a<c)(Q:c<b)(O:Dq r a c=true)(P:Dq r c b=true):Dr r (T ++ [(a,c),(c,b)]) (if(b:Int)-a<(r.length:Int)-1 then L ++ [(a,b)]else L):=by
 obtain⟨h1,u,F⟩:=D.seg (a,b) AGh;have m:∀e∈T,e∈T ++ [(a,b)]:=λe he=>AHw _ he;obtain⟨R,_,v⟩:=AHp.mp D.bL;have v:∀e∈T,e.2<=a\/b<=e.1:=λe he=>v e he (a,b) AGh;have p:∀e∈T ++ [(a,c),(c,b)],e.1<e.2/\e.2<r.length/\Dq r e.1 e.2=true:=λe he=>by
  rcases AHJ.mp he with he|he
  .exact D.seg e<|m e he
  .simp only[AGz,AH4,AI2]at he;rcases he with rfl|rfl
   .exact⟨y,U,O⟩
   .exact⟨Q,u,P⟩
 have Z:(T ++ [(a,c),(c,b)]).Pairwise λe f=>e.2<=f.1\/f.2<=e.1:=by refine AHp.mpr ⟨R,AGh,λe he f z=>?_⟩;have:=v e he;simp only[AGz,AH4,AI2]at z;rcases z with rfl|rfl<;>dsimp only<;>lia
 have Y:∀e∈L,∀f∈T ++ [(a,c),(c,b)],(e.1<=f.1/\f.2<=e.2/\(e.1<f.1\/f.2<e.2))\/e.2<=f.1\/f.2<=e.1:=λe he f z=>by
  rcases AHJ.mp z with z|z
  .exact D.out e he f<|m f z
  .have:=D.out e he (a,b) AGh;simp only[AGz,AH4,AI2]at z;rcases z with rfl|rfl<;>dsimp only at this ⊢ <;> grind
 have w:Gd [(a,b)]=Gd [(a,c),(c,b)]+1:=by simp[Gd];grind
 have w0:Gd [(a,b)]=b-a-1:=by simp[Gd]
 split
 .refine⟨p,Z,λe he=>?_,λe he f z=>?_,AHp.mpr ⟨D.nx,AGh,λe he f z=>?_⟩,?_⟩
  .rcases AHJ.mp he with he|he
   .exact D.ln e he
   .rw[AG3]at he;subst he;refine⟨h1,u,?_⟩;rcases O8.mp F with q|q|q
    .dsimp only at q;lia
    .dsimp only at q;lia
    .exact q
  .rcases AHJ.mp he with he|he
   .exact Y e he f z
   .rw[AG3]at he;subst he;rcases AHJ.mp z with z|z
    .have:=v f z;dsimp only;right;lia
    .simp only[AGz,AH4,AI2]at z;rcases z with rfl|rfl<;>dsimp only<;>(left;lia)
  .rw[AG3]at z;subst z;have o:=D.out e he (a,b) AGh;dsimp only at o;refine⟨λq=>?_,λq=>?_⟩
   .rw[q]at o;dsimp only at o;clear y;lia
   .unfold BE.X at q;dsimp only at q;clear y;grind
  .rcases D.ct with⟨q,_⟩|q
   .have:=AHa List.getLast? q;simp at this;clear h1;omega
   .rw[Y4]at q ⊢;simp only[AHC,AIZ]
    grind
 .refine⟨p,Z,D.ln,Y,D.nx,?_⟩;rcases D.ct with⟨q,rfl⟩|q
  .have:=by have:=AHa List.length q;simp at this;exact this
   subst this;simp only[AH1]at q ⊢;simp only[AHq];dsimp only at *
   clear h1;omega
  .rw[Y4]at q;clear y w;grind
noncomputable def zz(e:NN):Pt:=((e.1:Int),(e.2:Int))
abbrev zs(L:List NN):List PV:=AN<|L.map zz
theorem Y8(L:List NN):(zs L).length=L.length:=by rw[Bv,AGm]
theorem jT(z:ρ[i]? = some (some<|.own ps))(ea:ga ρ=some rs)(y:Ci rs=some [p])(h:ps.length<1000):DY i Ef ga ρ=some (.nx<|ρ.set i<|some<|.own<|ps ++ [p]):=by unfold DY;rw[z,ea];dsimp only;rw[y];unfold Ef;dsimp only;rw[AGo h]
theorem ABB(z:ρ[i]? = some (some<|.own<|ps ++ [p]))(y:gt p (ρ.set i<|some<|.own ps)=some ρ'):LL i gt ρ=some (.nx ρ'):=by unfold LL;rw[z];dsimp only;simp only[AHC,AIZ,Nat.add_sub_cancel,AHV<|AGy _,Nat.sub_self];dsimp only[List.getElem?_cons_zero];rw[List.dropLast_concat,y]
def wT:BF:=AU<|f2 CS RH<|fC<|.int 0
def wS:EF:=A5 (DL<|AH RB<|AH (AG 7) AO) 1 [3,6,7] (Aa 0) cZ<|AG 0
def wA:EF:=f2 Am (AG 8) cQ
def wG:SF:=AM (LL 5<|Hj 2 RC)<|Au (AU VU) (AM (Ac 8 wS)<|AM (Ac 9 wA) Va) A8
section
variable{s:List Int}{r:List Pt}{ks:List (List Int)}{xs:List PV}(h:DI r=true)(hd:∀x y,x<y->y<r.length->DK ks xs (kN x y)=some (.bl (Dq r x y)))
def wR(s:List Int)(r:List Pt)(ks:List<|List Int)(xs:List PV)(L T:List NN)(x:List<|Option SV):AS:=iM (.rd<|Av s)::iI 20::iL r::iM (.C0 ks xs)::some (.own<|zs L)::some (.own<|zs T)::x
include h hd
theorem AFS{a b:Nat}(z:a+1<b)(v:b<r.length)(u p:Option SV):wS (wR s r ks xs L T [iI a,iI b,u,p])=some (.fr (((List.range<|b-(a+1)).filter λt=>Dq r a (a+1+t)&&Dq r (a+1+t) b).map λt:Nat=>PV.int<|(a+1+t:Nat))):=by obtain⟨h3,BK,_⟩:=HQ h;refine B4 (OV (AJ (AL rfl rfl<|by rfl)<|AJ rfl AQ) U U) (by rw[AGm,AHD];clear z h3;omega)<|DF λt q=>⟨_,rfl,?_,λ_=>⟨.cl<|.int<|(a+1+t:Nat),rfl,rfl⟩⟩;have q:=AGq.mp q;exact Iy (Al<|eT rfl rfl rfl rfl<|hd a (a+1+t) U (by clear z;omega)) λ_=>Al<|eT rfl rfl rfl rfl<|hd (a+1+t) b (by clear z;omega) v
theorem AFR{L T:List NN}(D:Dr r (T ++ [(a,b)]) L)(hT:T.length<=900)(x:List<|Option SV)(p:x.length=4):∃C Z E,wG (wR s r ks xs L (T ++ [(a,b)]) x)=some (.nx<|wR s r ks xs C Z E)/\E.length=4/\Dr r Z C/\Z.length<=T.length+2/\FQ Z<FQ (T ++ [(a,b)]):=by
 obtain⟨h3,BK,_⟩:=HQ h;obtain⟨Y,Q,v,z,rfl⟩:∃Y Q v z,x=[Y,Q,v,z]:=by
  match x,p with
  |[Y,Q,v,z],_=>exact⟨Y,Q,v,z,rfl⟩
 obtain⟨h1,B,H⟩:=D.seg (a,b) AGh;dsimp only at h1 B H;unfold wG;rw[sq (ρ':=wR s r ks xs L T [iI a,iI b,v,z])<|ABB (by delta wR zs AN;simp only[AHS,AHS];rfl) rfl];have O:AU VU (wR s r ks xs L T [iI a,iI b,v,z])=some (decide ((1:Int)<(b)-a)):=Al<|AL (AL rfl rfl<|C3 _ _) rfl<|Fy _ _;by_cases c:a+1<b
 .rw[AHM (by clear h1;lia)]at O;rw[Bc O];have I:=AFS (s:=s) (L:=L) (T:=T) h hd c B v z;generalize n:((List.range<|b-(a+1)).filter λt=>Dq r a (a+1+t)&&Dq r (a+1+t) b)=F at I;have G:0<F.length:=by
   obtain⟨c,c1,c2,c3,c4⟩:=xO h c B H;have:c-(a+1)∈F:=by
    rw[<-n];refine AHN.mpr ⟨AGq.mpr (by clear p;omega),?_⟩;rw[show a+1+(c-(a+1))=c by grind,c3,c4]
    rfl
   exact AJp this
  have vf:=AG4 (Ad s (20+a) / (1+b)) (b:=(F.length))<|E3 G;have hm:(Ad s (20+a) / (1+b)%(F.length)).toNat<F.length:=by clear p;omega
  have u:=AJL hm;have f:wA (wR s r ks xs L T [iI a,iI b,iM<|.lst (F.map λt:Nat=>PV.int<|(a+1+t:Nat)),z])=cI ((a+1+F[(Ad s (20+a) / (1+b)%(F.length)).toNat]:Nat)):=by
   refine AL rfl (AL (AL (An (AJ rfl<|AJ (AL rfl rfl<|Fv _ _) AQ) rfl<|ZG s _ U) (AL rfl rfl<|Fv _ _)<|iU U U) (BO (AJ rfl AQ)<|by rw[EG,AGm])<|EH<|E3 G) ?_;show(CD (F.map λt:Nat=>PV.int<|(a+1+t:Nat)) _).map _=_
   delta CD GN
   rw[AGo<|AHE (Ad s (20+a) / (1+b)) (b:=(F.length))<|IC G,AGo (by rw[AGm];exact vf),AHF,AHi,AG8 hm]
   rfl
  generalize F[(Ad s (20+a) / (1+b)%(F.length)).toNat]=t at u f;rw[<-n]at u;obtain⟨u,S⟩:=AHN.mp u;have u:=AGq.mp u;rw[AGx]at S;have P:=D.step U (by clear p c;omega) S.1 S.2;rw[sq (ρ':=wR s r ks xs L T [iI a,iI b,iM<|.lst (F.map λt:Nat=>PV.int<|(a+1+t:Nat)),z])<|Aq I rfl];rw[sq <|Aq f rfl]
  delta Va
  rw[sq (ρ':=wR s r ks xs L (T ++ [(a,a+1+t),(a+1+t,b)]) [iI a,iI b,iM<|.lst (F.map λt:Nat=>PV.int<|(a+1+t:Nat)),iI<|(a+1+t:Nat)]) ((set_own (AL rfl rfl (LY rfl rfl (by rw[Y8];show T.length+2<=_;lia)))).trans (by delta wR zs AN;simp only[AHS,AHS];rfl))];have R:AU dF (wR s r ks xs L (T ++ [(a,a+1+t),(a+1+t,b)]) [iI a,iI b,iM<|.lst (F.map λt:Nat=>PV.int<|(a+1+t:Nat)),iI<|(a+1+t:Nat)])=some (decide ((b:Int)-a<(r.length)-1)):=Al (AL (AL rfl rfl<|C3 _ _) (AL (BO (AJ rfl AQ)<|by rw[EG,Bv]) rfl<|C3 _ _)<|GO _ _);have e:FQ (T ++ [(a,a+1+t),(a+1+t,b)])<FQ (T ++ [(a,b)]):=by simp[FQ];clear c;lia
  have va:L.length<1000:=by
   rcases D.ct with⟨_,q⟩|q
   .rw[q];decide
   .lia
  by_cases q:(b:Int)-a<(r.length)-1
  .rw[AHM q]at R;rw[AGo q]at P;rw[Bc R,jT rfl (AJ rfl AQ) rfl (by rw[Y8];exact va)];refine⟨L ++ [(a,b)],_,[iI a,iI b,iM<|.lst (F.map λt:Nat=>PV.int<|(a+1+t:Nat)),iI<|(a+1+t:Nat)],?_,rfl,P,AGh,e⟩
   delta wR zs AN
   rw[AHS (l₁:=L),AHS (l₁:=L.map zz)]
   rfl
  .rw[AHK q]at R;rw[AGp q]at P;rw[BC R];exact⟨L,_,_,rfl,rfl,P,AGh,e⟩
 .rw[AHK (by clear h1;lia)]at O;rw[BC O];refine⟨L,T,[iI a,iI b,v,z],rfl,rfl,D.drop h3 c,U,?_⟩;rw[yW];simp[FQ];clear p c;omega
theorem nE:∀(f:Nat)(L T:List NN)(x:List<|Option SV),Dr r T L->FQ T<f->T.length+2*FQ T<=900->x.length=4->∃z q,IM wT wG f (wR s r ks xs L T x)=some (.nx<|wR s r ks xs z [] q)/\q.length=4/\Dr r [] z
 |0,_,_,_,_,hm,_,_=>absurd hm U
 |f+1,L,T,x,D,hm,hT,hx=>by
  have v:wT (wR s r ks xs L T x)=some (decide ((0:Int)<(T.length))):=Al (AL (BO (AJ rfl AQ)<|by rw[xU,Y8]) rfl<|Fy _ _);unfold IM;rw[v];rcases List.eq_nil_or_concat T with rfl|⟨T',⟨a,b⟩,rfl⟩
  .exact⟨L,x,rfl,hx,D⟩
  .rw[List.concat_eq_append]at *
   rw[AHM AGh];dsimp only;simp only[AHC,AIZ]at hT;obtain⟨z,u,q,e,p,Z,hl,Ck⟩:=AFR h hd D U x hx;rw[e];exact nE f z u q Z U U p
end
theorem j9:∀Q:List Pt,NG (AN Q)=some Q
 |[]=>rfl
 |q::Q=>by
  show(NG<|AN Q).map _=_;rw[j9 Q]
  rfl
theorem uR(Q:List Pt)(i:Nat)(hi:i<Q.length):(AN Q).getD i .As=pv (Q.getD i (0,0)):=by
 unfold AN;rw[AHk,AHk,AHi,AG8 hi]
 rfl
def EO(Q:List Pt):List Pt:=(DE.ord Q).map λi=>Q.getD i (0,0)
theorem AD9(e:f ρ=some r)(z:r.list=some (AN Q))(y:Q.length<64)(nd:Q.Nodup):fB Mp (AH f AO) ρ=some (.fr<|AN<|EO Q):=by
 refine BO (AJ e AQ) ?_;unfold Mp;dsimp only;rw[z];dsimp only;rw[j9];dsimp only;rw[AGo ⟨by rw[Bv];exact y,nd⟩];unfold EO;rw[show AN ((DE.ord Q).map λi=>Q.getD i (0,0))=(DE.ord Q).map λi=>pv (Q.getD i (0,0))by unfold AN;rw[AHT];rfl]
 congr 2
 exact AJX λi hi=>uR Q i<|DE.Xv nd i hi
theorem la(nd:Q.Nodup):(EO Q).Perm Q:=by have:=(DE.Xw nd).map λi=>Q.getD i (0,0);rw[show(List.range Q.length).map (λi=>Q.getD i (0,0))=Q from List.ext_getElem AGh λi h1 z=>by simp[List.getD,z]]at this;exact this
theorem AEE(nd:Q.Nodup):(EO Q).Pairwise λp q=>K0 p.1 p.2 q.1 q.2=true:=by unfold EO;rw[AIf];exact DE.AAH nd
theorem nS(h:zz e=zz f):e=f:=by unfold zz at h;exact AID U U
theorem AFg{e f:NN}(h:¬ BE.X e f):xB (zz e) (zz f)=false:=by
 unfold BE.X at h
 delta xB zz
 simp only[AIj]
 grind
theorem Dr.cut(D:Dr r [] L)(h3:3<=r.length):(L.map zz).Nodup/\∃S:List NN,EO (L.map zz)=S.map zz/\BE.Ct r.length S/\∀e∈S,GR r e.1 e.2=true:=by
 have u:L.length+3=r.length:=by
  rcases D.ct with⟨q,_⟩|q
  .contradiction
  .exact q
 have p:L.Nodup:=D.nx.imp λk=>k.1;have nd:(L.map zz).Nodup:=by unfold List.Nodup;rw[AIf];exact D.nx.imp λ{a b} k e=>k.1<|nS e
 have hp:=la nd;have uz:∀e:NN,((zz e).1.toNat,(zz e).2.toNat)=e:=λe=>rfl;have es:EO (L.map zz)=((EO<|L.map zz).map λe=>(e.1.toNat,e.2.toNat)).map zz:=by
  rw[AHT];refine(List.map_id' _).symm.trans (AJX λe he=>?_);obtain⟨f,_,rfl⟩:=AHb.mp<|hp.mem_iff.mp he
  rfl
 have y:=hp.map λe:Pt=>(e.1.toNat,e.2.toNat);rw[AHT,show(L.map<|(λe:Pt=>(e.1.toNat,e.2.toNat))∘zz)=L from List.map_id' L]at y;have ln:∀e∈L,e.1+1<e.2/\e.2<r.length/\e≠(0,r.length-1):=λe he=>by
  obtain⟨a,b,c⟩:=D.ln e he;unfold GR Jk at c;simp only[AGx,AG0,AHZ,AHe,AHG]at c;obtain⟨⟨_,k1,k2⟩,_⟩:=c;refine⟨U,b,λz=>?_⟩;subst z;dsimp only at k2
  grind
 refine⟨nd,_,es,⟨⟨y.nodup_iff.mpr p,λe he=>(ln e<|y.mem_iff.mp he).1,λe he f Z=>?_⟩,λe he=>(ln e<|y.mem_iff.mp he).2.1,λm=>(ln _<|y.mem_iff.mp m).2.2 rfl,by rw[y.length_eq];exact u⟩,λe he=>(D.ln e<|y.mem_iff.mp he).2.2⟩;obtain⟨i,hi,rfl⟩:=AI6<|y.mem_iff.mp he;obtain⟨j,v,rfl⟩:=AI6<|y.mem_iff.mp Z;have P:=AHy.mp D.nx;rcases Nat.lt_trichotomy i j with c|c|c
 .exact(P i j hi v c).2
 .subst c;unfold BE.X;lia
 .exact λz=>(P j i v hi c).2 z.symm
theorem ng(s:List Int)(h:DI r=true):∃S:List NN,UP [.rd<|Av s,.int 20,.lst<|AN r]=some (.fr<|AN<|S.map zz)/\BE.Ct r.length S/\(∀e∈S,GR r e.1 e.2=true)/\(S.map zz).Pairwise λp q=>K0 p.1 p.2 q.1 q.2=true:=by
 obtain⟨h3,y,_⟩:=HQ h;obtain⟨ks,xs,v,_,hd⟩:=oA h;obtain⟨L,x,u,hx,D⟩:=nE h hd 1000 [] [(0,r.length-1)] [none,none,none,none] ⟨λe he=>by rw[AG3]at he;subst he;exact⟨by dsimp only;lia,by dsimp only;clear y;omega,O8.mpr<|.inr<|.inl U⟩,AGh,λe he=>(nomatch he),λe he=>(nomatch he),.nil,.inl ⟨rfl,rfl⟩⟩ (by simp[FQ];clear h3;omega) (by simp[FQ];grind) rfl
 obtain⟨nd,S,z,C,Z⟩:=D.cut h3;have lz:=C.ln;have Y:=AHa List.length z;rw[(la nd).length_eq,AGm,AGm]at Y;refine⟨S,?_,C,Z,z ▸ AEE nd⟩;rw[<-z];refine BY rfl ?_;unfold aW;rw[sq<|Aq (An (AJ rfl AQ) rfl v) rfl];rw[sq<|set_own<|Fl AQ rfl];have Q:A6 dJ (((A7 10 [.rd<|Av s,.int 20,.lst<|AN r]).set 3<|iM<|.C0 ks xs).set 4<|some<|.own [])=some (.cl<|pv<|zz (0,r.length-1)):=(D7 (AJ rfl<|AJ (AL (BO (AJ rfl AQ)<|by rw[EG,Bv]) rfl<|C3 _ _) AQ) rfl).trans (by delta pv zz;rw[show((r.length-1:Nat):Int)=(r.length)-1 by grind];rfl);rw[sq <|(set_own<|Fl (AJ Q AQ) rfl).trans rfl];refine(sq u).trans ?_;exact IH<|AD9 rfl rfl (by rw[AGm];lia) nd
theorem wz(N:List Pt)(a:Pt):inD (AN N) (pv a)=decide (a∈N):=by
 delta inD AN
 rw[AId,AHo];simp only[AJv,Function.comp,Vt,AG0];exact⟨(by rintro⟨x,z,e⟩;exact e ▸ z),λz=>⟨a,z,rfl⟩⟩
theorem iV(neg:Bool)(N:List Pt)(a:Pt):DM neg (.cl<|pv a) (.cl<|.lst<|AN N)=cB (if neg=true then !decide (a∈N)else decide (a∈N)):=by
 have:GY (AN N)=true:=by delta GY AN;simp[Tg]
 show(if PySem.SeqAt.shaped (Ag<|pv a)=true/\GY (AN N)=true then some (RV.cl (.bl (if neg=true then !inD (AN N) (pv a)else inD (AN N) (pv a))))else none)=_;rw[AGo ⟨Tg _,this⟩,wz]
def Cm(n:Nat)(N:List Pt)(i j:Nat):Bool:=nb (n:Int) ((j:Int)-(i:Int))||decide ((min (i:Int) j,max (i:Int) j)∈N)
theorem UN{n:Nat}(N:List Pt)(h0:0<n)(i j:Nat):Ni [.int<|n,.lst<|AN N,.int<|i,.int<|j]=cB (Cm n N i j):=by refine BY rfl ?_;refine CI<|RT (An (AJ rfl<|AJ rfl<|AJ rfl AQ) rfl<|Ue<|E3 h0) λ_=>?_;refine AL ?_ rfl (iV false _ _);exact D7 (AJ (BO (AJ rfl<|AJ rfl AQ)<|SS _ _)<|AJ (BO (AJ rfl<|AJ rfl AQ)<|Mm _ _) AQ) rfl
theorem yx{n i j:Nat}(h3:3<=n)(hi:i<n)(hj:j<n):nb (n) ((j)-i)=true↔j=i+1\/i=j+1\/(i=0/\j=n-1)\/(j=0/\i=n-1):=by
 unfold AI.nb;rw[AHs,AIA,AIA];by_cases c:i<=j
 .rw[AGn U U];clear hi;constructor<;>lia
 .rw[<-AKB,AGn U U];constructor<;>lia
theorem Sz{S:List NN}{a b:Nat}:((a:Int),(b:Int))∈S.map zz↔(a,b)∈S:=by rw[AHb];exact⟨(by rintro⟨e,he,z⟩;rwa [<-nS (f:=(a,b)) z]),λh=>⟨_,h,rfl⟩⟩
theorem SI{S:List NN}(C:BE.Ct n S)(hi:i<n)(z:j<n):Cm n (S.map zz) i j=true↔BE.JJ n S i j:=by
 have h3:=C.ln
 delta Cm BE.JJ BE.J
 simp only[AHs,yx (by subst h3;lia) hi z,AG0];rcases Nat.lt_trichotomy i j with c|c|c
 .rw[Int.min_eq_left<|Pd c,Int.max_eq_right<|Pd c,Sz];clear hi;constructor<;>lia
 .subst c;rw[Int.min_eq_left Dd,Int.max_eq_right Dd,Sz];have:(i,i)∉S:=λm=>by have:=C.Bl _ m;lia
  subst h3;lia
 .rw[Int.min_eq_right<|Pd c,Int.max_eq_left<|Pd c,Sz];constructor<;>lia
theorem oP{n:Nat}(N:List Pt)(h0:0<n)(h1:n<=1000)(a b:Nat):Ui [.int<|n,.lst<|AN N,pv<|zz (a,b)]=some (.fr (((List.range n).filter λt=>Cm n N t b&&Cm n N t a).map λt:Nat=>PV.int<|t)):=by
 refine BY rfl ?_;unfold bD;have z:A5 (CQ Ca) 1 [0,1,2] (Aa 0) (AU c8) (AG 0) (A7 4 [.int<|n,.lst<|AN N,pv<|zz (a,b)])=some (.fr (((List.range n).filter λt=>Cm n N t a).map λt:Nat=>PV.int<|t)):=
  B4 (CW (AJ rfl AQ) h1) (by rw[AGm,AHD];exact h1) (DF λt _=>⟨_,rfl,Al<|An rfl rfl<|UN N h0 t a,λ_=>⟨_,rfl,rfl⟩⟩)
 rw[sq<|Aq z rfl];rw[<-List.filter_filter];refine IH<|B4 (Fj rfl rfl) ?_ (DF λt _=>⟨_,rfl,Al<|An rfl rfl<|UN N h0 t b,λ_=>⟨_,rfl,rfl⟩⟩);rw[AGm];exact AHd (AIr _ _) (by rw[AHD];exact h1)
abbrev N3:=Nat×Nat×Nat
noncomputable def e3(x:N3):PV:=.tup [.int (x.1:Int),.int (x.2.1:Int),.int (x.2.2:Int)]
def Hv(n:Nat)(N:List Pt)(e:NN):Bool:=((zz e).2-(zz e).1==1||(zz e).2-(zz e).1==(n:Int)-1)||decide (zz e∈N)
def p3(n:Nat)(N:List Pt)(i j k:Nat):Bool:=(([(i,j),(j,k),(i,k)].filter (Hv n N)).length:Int)==3
theorem AAM:p3 n N i j k=true↔Hv n N (i,j)=true/\Hv n N (j,k)=true/\Hv n N (i,k)=true:=by unfold p3;rw[AHg,AHg,AHg];cases Hv n N (i,j)<;>cases Hv n N (j,k)<;>cases Hv n N (i,k)<;>simp
def KO(n:Nat)(N:List Pt)(i j:Nat)(b:List N3)(u:Nat):List N3:=if p3 n N i j (j+1+u)=true then b ++ [(i,j,j+1+u)]else b
def Mg(n:Nat)(N:List Pt)(i:Nat)(b:List N3)(t:Nat):List N3:=(List.range<|n-(i+1+t+1)).foldl (KO n N i<|i+1+t) b
def KG(n:Nat)(N:List Pt)(b:List N3)(i:Nat):List N3:=(List.range<|n-(i+1)).foldl (Mg n N i) b
def EM(n:Nat)(N:List Pt):List N3:=(List.range n).foldl (KG n N) []
theorem M7{α β:Type}{f:List β->α->List β}{g:α->β->Prop}{y:β}:∀{xs:List α}{b:List β},(∀b,∀x∈xs,y∈f b x↔y∈b\/g x y)->(y∈xs.foldl f b↔y∈b\/∃x∈xs,g x y)
 |[],b,_=>AGh
 |x::xs,b,h=>by simp only[AIq,M7 λb z q=>h b z<|AGr _ q,h b x AGw];simp only[AGz,exists_eq_or_imp,or_assoc]
theorem yT:(i,j,k)∈EM n N↔i<j/\j<k/\k<n/\p3 n N i j k=true:=by
 have p:∀(x t:Nat)(b:List N3),(i,j,k)∈Mg n N x b t↔(i,j,k)∈b\/(i=x/\j=x+1+t/\j<k/\k<n/\p3 n N i j k=true):=λx t b=>by
  unfold Mg;rw[M7 (g:=λu y=>y=(x,x+1+t,x+1+t+1+u)/\p3 n N x (x+1+t) (x+1+t+1+u)=true) λb u _=>by
   unfold KO;split
   .rename_i h;simp[h]
   .rename_i h;simp[h]]
  refine AJ5 ⟨λ⟨u,Z,e,h⟩=>?_,λ⟨h1,v,h3,q,z⟩=>⟨k-(x+1+t+1),AGq.mpr AGg,?_⟩⟩
  .have:=AGq.mp Z;obtain⟨rfl,e⟩:=AIW e;obtain⟨rfl,rfl⟩:=AIW e;exact⟨rfl,rfl,U,AGi,h⟩
  .subst h1 v;rw[show i+1+t+1+(k-(i+1+t+1))=k by omega];exact⟨rfl,z⟩
 have Y:∀(x:Nat)(b:List N3),(i,j,k)∈KG n N b x↔(i,j,k)∈b\/(i=x/\i<j/\j<k/\k<n/\p3 n N i j k=true):=λx b=>by unfold KG;rw[M7 (g:=λt _=>i=x/\j=x+1+t/\j<k/\k<n/\p3 n N i j k=true) λb t _=>p x t b];refine AJ5 ⟨(by rintro⟨t,_,h1,v,h3,q,z⟩;exact⟨h1,U,h3,q,z⟩),(by rintro⟨h1,v,h3,q,z⟩;exact⟨j-(x+1),AGq.mpr AGg,h1,AGg,h3,q,z⟩)⟩
 unfold EM;rw[M7 (g:=λx _=>i=x/\i<j/\j<k/\k<n/\p3 n N i j k=true) λb x _=>Y x b];refine⟨λh=>?_,λh=>.inr ⟨i,AGq.mpr U,rfl,h⟩⟩;rcases h with h|⟨x,_,_,h⟩
 .cases h
 .exact h
theorem Mh{S:List NN}(h:u<v)(hv:v<n):Hv n (S.map zz) (u,v)=true↔BE.J n S u v:=by
 delta Hv BE.J
 rw[AHs,AHs,AIA,AIA,AG0];have m:zz (u,v)∈S.map zz↔(u,v)∈S:=Sz;simp only[m];show((v:Int)-u=1\/(v:Int)-u=(n)-1)\/_↔_;clear h;constructor<;>lia
section
variable{r N:List Pt}(hN:N.length<=1000)
def pR(r N:List Pt)(b:List N3)(x:List<|Option SV):AS:=iL r::iL N::iI (r.length:Int)::some (.own<|b.map e3)::x
noncomputable def pB:SF:=Vc
theorem AAN(q:b.length<1000)(i j k:Nat)(z:Option SV):pB (pR r N b [iI i,iI j,iI k,z])=some (.nx (pR r N (if p3 r.length N i j k=true then b ++ [(i,j,k)]else b) [iI i,iI j,iI k,iM<|.lst ([(i,j),(j,k),(i,k)].map λe=>pv<|zz e)])):=by
 have t2:∀(u v:Nat)(a c:Nat)(x:Option SV),AG a (pR r N b [iI i,iI j,iI k,x])=cI u->AG c (pR r N b [iI i,iI j,iI k,x])=cI v->A6 (AH (AG a)<|AH (AG c) AO) (pR r N b [iI i,iI j,iI k,x])=some (.cl<|pv<|zz (u,v)):=λu v a c x h1 p=>D7 (AJ h1<|AJ p AQ) rfl;unfold pB
 delta Vc
 rw[sq (ρ':=pR r N b [iI i,iI j,iI k,iM<|.lst ([(i,j),(j,k),(i,k)].map λe=>pv<|zz e)])<|(Aq (Fl (AJ (t2 i j 4 5 z rfl rfl)<|AJ (t2 j k 5 6 z rfl rfl)<|AJ (t2 i k 4 6 z rfl rfl) AQ) rfl) rfl).trans rfl];have Z:bX (pR r N b [iI i,iI j,iI k,iM<|.lst ([(i,j),(j,k),(i,k)].map λe=>pv<|zz e)])=some (.fr<|([(i,j),(j,k),(i,k)].filter (Hv r.length N)).map λe=>pv<|zz e):=
  B4 (Fj rfl rfl) (by show 3<=1000;decide) (DF λe _=>⟨_,rfl,Eb (Al<|AL (AL (AL rfl rfl<|DB<|zz e) (AL rfl rfl<|EE<|zz e)<|C3 _ _) (Fl (AJ rfl<|AJ (AL rfl rfl<|C3 _ _) AQ) rfl)<|XM _ _ _) λ_=>Al<|AL rfl rfl<|iV false N<|zz e,λ_=>⟨_,rfl,rfl⟩⟩)
 have y:=Al (AL (fb:=fC<|.int 3) (BO (k:=Ds) (AJ Z AQ)<|by rw[ig,AGm]) rfl<|KN _ _);split
 .rename_i h;unfold p3 at h;rw[h]at y;rw[Bc y,jT rfl (AJ (D7 (AJ (x:=.cl<|.int<|i) rfl<|AJ (x:=.cl<|.int<|j) rfl<|AJ (x:=.cl<|.int<|k) rfl AQ) rfl) AQ) rfl (by rw[AGm];exact q)];unfold pR;rw[AHS]
  rfl
 .rename_i h;unfold p3 at h;rw[AIg.mpr h]at y;rw[BC y]
  rfl
end
noncomputable def tS:Nat->Nat
 |0=>0
 |m+1=>tS m+(10-m)
theorem mL(m:Nat):tS m<=55:=by
 by_cases h:m<10
 .exact(AGj:∀m,m<10->tS m<=55) m h
 .have:∀k,tS (10+k)=55:=λk=>by
   induction k with
   |zero=>rfl
   |succ k ih=>rw[<-AKv,tS,ih];lia
  rw[show m=10+(m-10)by omega,this];lia
theorem P1(h:(List.range n)[i]? = some x):x=i/\i<n:=by obtain⟨h1,z⟩:=AGs.mp h;rw[AHD]at h1;rw[AJ7]at z;exact⟨z.symm,h1⟩
section
variable{r N:List Pt}(BK:r.length<=12)
def pK:SF:=Bo (DL<|AH (f2 Ay (AG 5)<|fC<|.int 1) Es) (Aa 6) pB
def pJ:SF:=Bo (DL<|AH Q8 Es) (Aa 5) pK
include BK
theorem AAP(hb:b.length<=900){i j:Nat}(hj:j<r.length)(v p:Option SV):∃y z,pK (pR r N b [iI i,iI j,v,p])=some (.nx<|pR r N ((List.range<|r.length-(j+1)).foldl (KO r.length N i j) b) [iI i,iI j,y,z])/\((List.range<|r.length-(j+1)).foldl (KO r.length N i j) b).length<=b.length+(r.length-(j+1)):=by
 unfold pK;rw[Bu<|OV (i:=j+1) (AJ (AL rfl rfl<|by rfl)<|AJ rfl AQ) U<|Eg BK];obtain⟨ρ',e,⟨y,z,rfl⟩,Z⟩:=IB (gt:=Aa 6) (KO r.length N i j) (λm q ρ=>(∃y z,ρ=pR r N q [iI i,iI j,y,z])/\q.length<=b.length+m) (xs:=List.range<|r.length-(j+1)) (n:=0) (b:=b) ⟨⟨v,p,rfl⟩,U⟩ (by
  rintro u x Y q ρ ⟨⟨y,z,e⟩,Z⟩;obtain⟨rfl,hu⟩:=P1 Y;subst e;refine⟨_,_,rfl,AAN (k:=j+1+x) AGi i j z,⟨_,_,rfl⟩,?_⟩;unfold KO;split
  .simp only[AHC,AIZ];lia
  .lia)
 rw[AHD]at Z;exact⟨y,z,e,U⟩
theorem AAO(hb:b.length<=800)(hi:i<r.length)(u p Z:Option SV):∃q z y,pJ (pR r N b [iI i,u,p,Z])=some (.nx<|pR r N (KG r.length N b i) [iI i,q,z,y])/\(KG r.length N b i).length<=b.length+55:=by
 unfold pJ;rw[Bu<|OV (i:=i+1) (AJ (AL rfl rfl<|by rfl)<|AJ rfl AQ) U<|Eg BK];obtain⟨ρ',e,⟨q,z,y,rfl⟩,Y⟩:=IB (gt:=Aa 5) (Mg r.length N i) (λm v ρ=>(∃q z y,ρ=pR r N v [iI i,q,z,y])/\v.length<=b.length+tS m) (xs:=List.range<|r.length-(i+1)) (n:=0) (b:=b) ⟨⟨u,p,Z,rfl⟩,U⟩ (by rintro t x Q v ρ ⟨⟨q,z,y,e⟩,Y⟩;obtain⟨rfl,O⟩:=P1 Q;subst e;have:=mL<|0+x;obtain⟨z6,z7,P,hk⟩:=AAP BK (b:=v) U (j:=i+1+x) (by clear hi Y;omega) z y;refine⟨_,_,rfl,P,⟨_,_,_,rfl⟩,?_⟩;simp only[tS];unfold Mg;clear hi O;omega)
 have:=mL<|0+(List.range<|r.length-(i+1)).length;exact⟨q,z,y,e,by unfold KG;lia⟩
theorem oC:UU [.lst<|AN r,.lst<|AN N]=some (.fr<|(EM r.length N).map e3)/\(EM r.length N).length<=700:=by
 obtain⟨ρ',e,⟨y,q,v,u,rfl⟩,p⟩:=IB (gt:=Aa 4) (KG r.length N) (λm z ρ=>(∃y q v u,ρ=pR r N z [y,q,v,u])/\z.length<=55*m) (n:=0) (b:=[]) ⟨⟨none,none,none,none,rfl⟩,AGh⟩ (by rintro i x Z z ρ ⟨⟨y4,Y,Q,O,e⟩,p⟩;obtain⟨rfl,P⟩:=P1 Z;subst e;obtain⟨z5,z6,z7,D,hk⟩:=AAO BK (b:=z) U P Y Q O;exact⟨_,_,rfl,D,⟨_,_,_,_,rfl⟩,U⟩)
 rw[AHD]at p;refine⟨BY rfl ?_,by unfold EM;lia⟩;unfold aj;rw[sq<|Aq (BO (AJ rfl AQ)<|by rw[EG,Bv]) rfl];rw[sq <|(set_own<|Fl AQ rfl).trans rfl];exact(sq <|(Bu<|CW (AJ rfl AQ)<|Eg BK).trans e).trans rfl
end
theorem yc{ps zs:List PV}(z:ρ[i]? = some (some<|.own ps))(ea:ga ρ=some rs)(y:Ci rs=some [.lst zs])(h:ps.length+zs.length<=1000):DY i Mi ga ρ=some (.nx<|ρ.set i<|some<|.own<|ps++zs):=by unfold DY;rw[z,ea];dsimp only;rw[y];unfold Mi;dsimp only;rw[AGo h]
def Tx(n:Nat)(N:List Pt)(i j:Nat):List Nat:=((List.range n).filter λt=>Cm n N t j&&Cm n N t i).filter λu=>decide ((j:Int)<(u:Int))
def Lq(n:Nat)(N:List Pt)(i j:Nat)(b:List N3):List N3:=if Cm n N i j=true then b++(Tx n N i j).map (λu=>(i,j,u))else b
def Ls(n:Nat)(N:List Pt)(i:Nat)(b:List N3)(t:Nat):List N3:=Lq n N i (i+1+t) b
def Ki(n:Nat)(N:List Pt)(b:List N3)(i:Nat):List N3:=(List.range<|n-(i+1)).foldl (Ls n N i) b
def Kj(n:Nat)(N:List Pt):List N3:=(List.range n).foldl (Ki n N) []
def q3(n:Nat)(N:List Pt)(i j k:Nat):Prop:=Cm n N i j=true/\Cm n N k j=true/\Cm n N k i=true
theorem yU:(i,j,k)∈Kj n N↔i<j/\j<k/\k<n/\q3 n N i j k:=by
 have Z:∀(x t:Nat)(b:List N3),(i,j,k)∈Ls n N x b t↔(i,j,k)∈b\/(i=x/\j=x+1+t/\j<k/\k<n/\q3 n N i j k):=λx t b=>by
  delta Ls Lq Tx q3
  have m:(i,j,k)∈((((List.range n).filter λt'=>Cm n N t' (x+1+t)&&Cm n N t' x).filter λu:Nat=>decide (((x+1+t:Nat):Int)<(u))).map λu:Nat=>(x,x+1+t,u))↔i=x/\j=x+1+t/\j<k/\k<n/\Cm n N k j=true/\Cm n N k i=true:=by
   rw[AHb];constructor
   .rintro⟨u,p,e⟩;rw[AHN,AHN,AGq,AGx,AG0]at p;obtain⟨h1,Y⟩:=AIW e;obtain⟨y,h3⟩:=AIW Y;subst h1 y h3;exact⟨rfl,rfl,AGi,p.1.1,p.1.2⟩
   .rintro⟨rfl,rfl,h1,y,h3⟩;exact⟨k,by rw[AHN,AHN,AGq,AGx];exact⟨⟨y,h3⟩,U⟩,rfl⟩
  split
  .rename_i h;rw[AHJ,m];refine AJ5 ⟨?_,?_⟩
   .rintro⟨h1,y,h3,q,v⟩;subst h1 y;exact⟨rfl,rfl,h3,q,h,v⟩
   .rintro⟨h1,y,h3,q,_,v⟩;exact⟨h1,y,h3,q,v⟩
  .rename_i h;refine⟨.inl,λz=>z.resolve_right ?_⟩;rintro⟨h1,y,_,_,h3,_⟩;subst h1 y;exact h h3
 have Q:∀(x:Nat)(b:List N3),(i,j,k)∈Ki n N b x↔(i,j,k)∈b\/(i=x/\i<j/\j<k/\k<n/\q3 n N i j k):=λx b=>by unfold Ki;rw[M7 (g:=λt _=>i=x/\j=x+1+t/\j<k/\k<n/\q3 n N i j k) λb t _=>Z x t b];refine AJ5 ⟨λ⟨t,_,h1,y,h3,q,v⟩=>⟨h1,U,h3,q,v⟩,λ⟨h1,y,h3,q,v⟩=>⟨j-(x+1),AGq.mpr (by subst h1;lia),h1,AGi,h3,q,v⟩⟩
 unfold Kj;rw[M7 (g:=λx _=>i=x/\i<j/\j<k/\k<n/\q3 n N i j k) λb x _=>Q x b];refine⟨λh=>?_,λh=>.inr ⟨i,AGq.mpr U,rfl,h⟩⟩;rcases h with h|⟨x,_,_,h⟩
 .cases h
 .exact h
theorem yV{S:List NN}(C:BE.Ct n S):(i,j,k)∈Kj n (S.map zz)↔BE.T3 n S i j k:=by
 rw[yU]
 delta BE.T3 q3
 constructor
 .rintro⟨h1,y,h3,q,v,u⟩;rw[SI C U U]at q v u;exact⟨h1,y,h3,by rcases q with z|z;exact z.2;lia,by rcases v with z|z;lia;exact z.2,by rcases u with z|z;lia;exact z.2⟩
 .rintro⟨h1,y,h3,q,v,u⟩;rw[SI C (JS h1 y h3)<|Br y h3,SI C U<|Br y h3,SI C U<|JS h1 y h3];exact⟨h1,y,h3,.inl ⟨h1,q⟩,.inr ⟨y,v⟩,.inr ⟨Br h1 y,u⟩⟩
def tR(n:Nat)(N:List Pt)(b:List N3)(x:List<|Option SV):AS:=iI (n:Int)::iL N::some (.own<|b.map e3)::x
noncomputable def tB:SF:=dW
theorem mT(n:Nat)(N:List Pt)(i j:Nat):(Tx n N i j).length<=n:=by refine AHd (AIr _ _)<|AHd (AIr _ _) ?_;rw[AHD];exact AGy _
theorem AEn(n:Nat)(N:List Pt)(i j:Nat)(b:List N3):(Lq n N i j b).length<=b.length+n:=by
 have:=mT n N i j;unfold Lq;split
 .simp only[AHC,AGm];lia
 .lia
section
variable{n:Nat}{N:List Pt}(h0:0<n)(BK:n<=12)
include h0 BK
theorem AEL(hb:b.length<=900)(i j:Nat)(z:Option SV):∃q,tB (tR n N b [iI i,iI j,z])=some (.nx<|tR n N (Lq n N i j b) [iI i,iI j,q]):=by
 have y:AU dk (tR n N b [iI i,iI j,z])=some (Cm n N i j):=Al<|An rfl rfl<|UN N h0 i j
 delta tB Lq
 cases h:Cm n N i j
 .rw[h]at y;exact⟨z,(BC y).trans rfl⟩
 .rw[h]at y;have v:dM (tR n N b [iI i,iI j,z])=some (.fr (((List.range n).filter λt=>Cm n N t j&&Cm n N t i).map λt:Nat=>PV.int<|t)):=
   An (AJ rfl<|AJ rfl<|AJ (D7 (ps:=[.int<|i,.int<|j]) rfl rfl) AQ) rfl (oP N h0 (Eg BK) i j)
  have hl:=mT n N i j;have p:cX (tR n N b [iI i,iI j,iM<|.lst (((List.range n).filter λt=>Cm n N t j&&Cm n N t i).map λt:Nat=>PV.int<|t)])=some (.fr<|(Tx n N i j).map λu=>e3 (i,j,u)):=
   B4 (Fj rfl rfl) (by rw[AGm];exact AHd (AIr _ _) (by rw[AHD];exact Eg BK)) (DF λu _=>⟨_,rfl,Al<|AL rfl rfl<|Fy _ _,λ_=>⟨_,D7 rfl rfl,rfl⟩⟩)
  refine⟨iM<|.lst (((List.range n).filter λt=>Cm n N t j&&Cm n N t i).map λt:Nat=>PV.int<|t),(Bc y).trans<|(sq<|Aq v rfl).trans<|(yc rfl (AJ p AQ) rfl ?_).trans ?_⟩
  .rw[AGm,AGm];lia
  .rw[AGo rfl];unfold tR;rw[AHS,AHT]
   rfl
end
noncomputable def tQ:Nat->Nat
 |0=>0
 |m+1=>tQ m+(11-m)
theorem mK(m:Nat):tQ m<=66:=by
 by_cases h:m<11
 .exact(AGj:∀m,m<11->tQ m<=66) m h
 .have:∀k,tQ (11+k)=66:=λk=>by
   induction k with
   |zero=>rfl
   |succ k ih=>rw[<-AKv,tQ,ih];lia
  rw[show m=11+(m-11)by omega,this];lia
section
variable{n:Nat}{N:List Pt}(h0:0<n)(BK:n<=12)
def tJ:SF:=Bo (DL<|AH (f2 Ay (AG 3)<|fC<|.int 1) Ca) (Aa 4) tB
include h0 BK
theorem AEW(hi:i<n)(hb:b.length<=12*tQ i)(u p:Option SV):∃y z,tJ (tR n N b [iI i,u,p])=some (.nx<|tR n N (Ki n N b i) [iI i,y,z])/\(Ki n N b i).length<=12*tQ (i+1):=by
 have q:=mK<|i+1;simp only[tQ]at q;unfold tJ;rw[Bu<|OV (i:=i+1) (AJ (AL rfl rfl<|by rfl)<|AJ rfl AQ) U<|Eg BK];obtain⟨ρ',e,⟨y,z,rfl⟩,Z⟩:=IB (enc:=λt:Nat=>PV.int<|(i+1+t:Nat)) (gt:=Aa 4) (Ls n N i) (λm v ρ=>(∃y z,ρ=tR n N v [iI i,y,z])/\v.length<=b.length+12*m) (xs:=List.range<|n-(i+1)) (n:=0) (b:=b) ⟨⟨u,p,rfl⟩,U⟩ λt x Y v ρ ⟨⟨y,z,e⟩,Z⟩=>by obtain⟨rfl,hu⟩:=P1 Y;subst e;obtain⟨z5,Q⟩:=AEL h0 BK (b:=v) AGg i (i+1+x) z;refine⟨_,_,rfl,Q,⟨_,_,rfl⟩,?_⟩;have:=AEn n N i (i+1+x) v;unfold Ls;lia
 rw[AHD]at Z;exact⟨y,z,e,by rw[tQ];unfold Ki;grind⟩
theorem oQ:Np [.int<|n,.lst<|AN N]=some (.fr<|(Kj n N).map e3)/\(Kj n N).length<=1000:=by
 obtain⟨ρ',e,⟨q,v,u,rfl⟩,z⟩:=IB (gt:=Aa 3) (Ki n N) (λm y ρ=>(∃q v u,ρ=tR n N y [q,v,u])/\y.length<=12*tQ m) (n:=0) (b:=[]) ⟨⟨none,none,none,rfl⟩,AGh⟩ λi x p y ρ ⟨⟨y3,Z,Y,e⟩,z⟩=>by obtain⟨rfl,Q⟩:=P1 p;subst e;rw[AI0]at z ⊢;obtain⟨z4,z5,O,P⟩:=AEW h0 BK Q z Z Y;exact⟨_,_,rfl,O,⟨_,_,_,rfl⟩,P⟩
 have:=mK<|0+(List.range n).length;refine⟨BY rfl ?_,by unfold Kj;lia⟩;unfold bE;rw[sq <|(set_own<|Fl AQ rfl).trans rfl];exact(sq <|(Bu <|CW (AJ rfl AQ)<|Eg BK).trans e).trans rfl
end
noncomputable def EI(f:Nat->Nat)(D:List Nat):List<|Int×Int:=D.map λu:Nat=>((u:Int),(f u:Int))
theorem PJ(f:Nat->Nat)(u:Nat):∀D:List Nat,FN (EI f D) (u:Int)=if u∈D then some ((f u:Nat):Int)else none
 |[]=>rfl
 |d::D=>by
  have y:=PJ f u D;unfold FN EI at *
  rw[AGv];by_cases e:d=u
  .subst e;rw[AKk AGh,AGo AGw]
   rfl
  .rw[AKl (by simp;lia),y];have:u∈d::D↔u∈D:=by rw[AGz];exact⟨λz=>z.resolve_left λh=>e h.symm,.inr⟩
   by_cases m:u∈D
   .rw[AGo m,AGo<|this.mpr m]
   .rw[AGp m,AGp λz=>m<|this.mp z]
noncomputable def l3(x:N3):List Nat:=[x.1,x.2.1,x.2.2]
def bare(D:List Nat)(x:N3):List Nat:=(l3 x).filter λu=>!decide (u∈D)
def Dz(D:List Nat)(x:N3):List Nat:=if(bare D x).length=1 then D++bare D x else D
def dR(n:Nat)(T:List N3)(f:Nat->Nat)(D:List Nat)(x:List<|Option SV):AS:=iI (n:Int)::iM (.lst<|T.map e3)::some (.Eh<|EI f D)::x
noncomputable def dB:SF:=RJ
theorem iX(neg:Bool)(f:Nat->Nat)(D:List Nat)(u:Nat):JC neg 1 (AG 0) [iI (u:Int),some<|.Eh<|EI f D]=some (if neg=true then !decide (u∈D)else decide (u∈D)):=by
 show some (if neg=true then !(FN (EI f D) (u:Int)).isSome else(FN (EI f D) (u:Int)).isSome)=_;rw[PJ];by_cases m:u∈D
 .rw[AGo m,AHM m];rfl
 .rw[AGp m,AHK m];rfl
theorem xY(zs:List Int):Lb [.cl<|.lst<|zs.map PV.int]=cI zs.sum:=by
 show(DA<|zs.map PV.int).map _=_;rw[O5]
 rfl
theorem o8{f:Nat->Nat}(v:∀u,f u<3)(h1:f i≠f j)(h2:f j≠f k)(h3:f i≠f k)(q:(bare D (i,j,k)).length=1):∃w,bare D (i,j,k)=[w]/\w∉D/\(w=i\/w=j\/w=k)/\(3:Int)-(((l3 (i,j,k)).filter λu=>decide (u∈D)).map λu=>(f u:Int)).sum=(f w:Int):=by
 have a:=v i;have b:=v j;have c:=v k;by_cases hi:i∈D<;>by_cases z:j∈D<;>by_cases y:k∈D<;>try (exfalso;simp[bare,l3,AHg,hi,z,y]at q;done)
 .exact⟨k,by simp[bare,l3,AHg,hi,z,y],y,.inr<|.inr rfl,by simp[l3,AHg,hi,z,y];clear q;omega⟩
 .exact⟨j,by simp[bare,l3,AHg,hi,z,y],z,.inr<|.inl rfl,by simp[l3,AHg,hi,z,y];clear q;omega⟩
 .exact⟨i,by simp[bare,l3,AHg,hi,z,y],hi,.inl rfl,by simp[l3,AHg,hi,z,y];clear q;omega⟩
theorem qx(O:∀u,f u<3)(hD:D.length<=1000)(h1:f i≠f j)(P:f j≠f k)(h3:f i≠f k)(p z:Option SV):∃q v,dB (dR n T f D [iM<|e3 (i,j,k),p,z])=some (.nx<|dR n T f (Dz D (i,j,k)) [iM<|e3 (i,j,k),q,v]):=by
 have Q:∀q v,A5 (D9<|AG 3) 1 [2] (Aa 0) (JC true 1<|AG 0) (AG 0) (dR n T f D [iM<|e3 (i,j,k),q,v])=some (.fr ((bare D (i,j,k)).map λu:Nat=>PV.int (u:Int))):=λq v=>
  B4 (its:=D9<|AG 3) (xs:=(l3 (i,j,k)).map λu:Nat=>PV.int (u:Int)) rfl (by simp[l3]) (DF (enc:=λu:Nat=>PV.int (u:Int)) (c:=λu=>!decide (u∈D)) (h:=λu:Nat=>PV.int (u:Int)) λu _=>⟨_,rfl,(iX true f D u).trans (by rw[AGo rfl]),λ_=>⟨_,rfl,rfl⟩⟩)
 have Z:AU (f2 Bg OJ<|fC<|.int 1) (dR n T f D [iM<|e3 (i,j,k),iM<|.lst ((bare D (i,j,k)).map λu:Nat=>PV.int (u:Int)),z])=some (((bare D (i,j,k)).length:Int)==1):=
  Al (AL (BO (AJ (x:=.cl<|.lst ((bare D (i,j,k)).map λu:Nat=>PV.int (u:Int))) rfl AQ)<|by rw[EG,AGm]) (y:=.cl<|.int 1) rfl<|KN _ _)
 unfold dB Dz;by_cases Y:(bare D (i,j,k)).length=1
 .obtain⟨w,F,R,_,es⟩:=o8 O h1 P h3 Y;rw[Y]at Z;have B:dj (dR n T f D [iM<|e3 (i,j,k),iM<|.lst ((bare D (i,j,k)).map λu:Nat=>PV.int (u:Int)),z])=some (.fr (((l3 (i,j,k)).filter λu=>decide (u∈D)).map λu:Nat=>PV.int (f u:Int))):=
   B4 (its:=D9<|AG 3) (xs:=(l3 (i,j,k)).map λu:Nat=>PV.int (u:Int)) rfl (by simp[l3]) (DF (enc:=λu:Nat=>PV.int (u:Int)) (c:=λu=>decide (u∈D)) (h:=λu:Nat=>PV.int (f u:Int)) λu _=>⟨_,rfl,(iX false f D u).trans (by rw[AGp AGj]),λm=>⟨.cl<|.int (f u:Int),by
    show(FN (EI f D) (u:Int)).map _=_;rw[PJ,AGo<|of_decide_eq_true m]
    rfl,rfl⟩⟩)
  refine⟨iM<|.lst [.int (w:Int)],iM<|.lst (((l3 (i,j,k)).filter λu=>decide (u∈D)).map λu:Nat=>PV.int (f u:Int)),?_⟩
  delta RJ
  rw[sq<|Aq (Q p z) rfl];refine(Bc<|Z.trans rfl).trans ?_;rw[sq<|Aq B rfl,F,AGo<|by rfl];have G:c6 (dR n T f D [iM<|e3 (i,j,k),iM<|.lst [.int (w:Int)],iM<|.lst (((l3 (i,j,k)).filter λu=>decide (u∈D)).map λu:Nat=>PV.int (f u:Int))])=cI (f w:Int):=by rw[<-es];refine AL (x:=.cl<|.int 3) rfl (BO (AJ (x:=.cl<|.lst (((l3 (i,j,k)).filter λu=>decide (u∈D)).map λu:Nat=>PV.int (f u:Int))) rfl AQ) ?_)<|C3 _ _;have:=xY<|((l3 (i,j,k)).filter λu=>decide (u∈D)).map λu=>(f u:Int);rw[AHT]at this;exact this
  show MU 2 _ _ (dR n T f D [iM<|e3 (i,j,k),iM<|.lst [.int (w:Int)],iM<|.lst (((l3 (i,j,k)).filter λu=>decide (u∈D)).map λu:Nat=>PV.int (f u:Int))])=_;unfold MU;rw[G];show(if(EI f D).length<1000000/\FN (EI f D) (w:Int)=none then some (Out.nx<|(dR n T f D _).set 2<|some<|.Eh<|EI f D ++ [((w:Int),(f w:Int))])else none)=_;rw[AGo ⟨by unfold EI;rw[AGm];lia,by rw[PJ,AGp R]⟩];unfold dR EI;rw[AHS]
  rfl
 .delta RJ;rw[sq<|Aq (Q p z) rfl,AGp Y]
  refine⟨_,_,(BC<|Z.trans<|by rw[AHG.mpr U]).trans rfl⟩
theorem lg(D:List Nat)(x:N3):∃E,Dz D x=D++E:=by
 unfold Dz;split
 .exact⟨_,rfl⟩
 .exact⟨[],(AH8 _).symm⟩
theorem XQ:∀(T:List N3)(D:List Nat),∃E,T.foldl Dz D=D++E
 |[],D=>⟨[],(AH8 _).symm⟩
 |x::T,D=>by obtain⟨E,e⟩:=lg D x;obtain⟨z,y⟩:=XQ T<|Dz D x;rw[AIq,y,e];exact⟨E++z,AKG _ _ _⟩
theorem ix:∀(T:List N3)(D:List Nat),(T.foldl Dz D).length=D.length->∀x∈T,Dz D x=D
 |[],_,_,_,h=>by cases h
 |y::T,D,h,x,hx=>by
  obtain⟨E,e⟩:=lg D y;obtain⟨E',q⟩:=XQ T<|Dz D y;rw[AIq]at h;have v:=AHa List.length e;have u:=AHa List.length q;rw[AHC]at v u;have z:Dz D y=D:=by rw[e,List.eq_nil_of_length_eq_zero (l:=E) U,AH8]
  rcases AGz.mp hx with rfl|hx
  .exact z
  .rw[z]at h;exact ix T D h x hx
structure Ep(n:Nat)(D:List Nat):Prop where
 nd:D.Nodup
 lt:∀u∈D,u<n
 h0:0∈D
 h1:1∈D
theorem Ep.step(h:Ep n D)(hi:i<n)(hj:j<n)(hk:k<n):Ep n<|Dz D (i,j,k):=by
 unfold Dz;split
 .rename_i y;obtain⟨w,q⟩:=List.length_eq_one_iff.mp y;have m:w∈bare D (i,j,k):=by rw[q];exact AG3.mpr rfl
  unfold bare l3 at m;rw[AHN,AHZ,AIj]at m;have v:w<n:=by have:=m.1;simp only[AGz,AH4,AI2]at this;rcases this with z|z|z<;>lia
  rw[q];refine⟨AKF.mpr ⟨h.nd,AKb _ _,λa ha b y e=>m.2 (by rw[AG3]at y;rw[<-y,<-e];exact ha)⟩,λu p=>?_,AHw _ h.h0,AHw _ h.h1⟩;rcases AHJ.mp p with z|z
  .exact h.lt u z
  .rw[AG3]at z;rw[z];exact v
 .exact h
theorem Ep.len(h:Ep n D):D.length<=n:=by
 have:=AI9 h.nd (l₂:=List.range n) λu z=>AGq.mpr<|h.lt u z
 rwa [AHD]at this
theorem Ep.full(h:Ep n D)(hl:n<=D.length)(u:Nat)(y:u<n):u∈D:=by
 by_cases m:u∈D
 .exact m
 .have:=AI9 (l₁:=u::D) (AIQ.mpr ⟨m,h.nd⟩) (l₂:=List.range n) λv q=>by
   rcases AGz.mp q with rfl|z
   .exact AGq.mpr y
   .exact AGq.mpr<|h.lt v z
  rw[AHD,AG6]at this;lia
theorem Ep.more{S:List NN}(C:BE.Ct n S){T:List N3}(q:∀i j k,(i,j,k)∈T↔BE.T3 n S i j k){D:List Nat}(h:Ep n D)(hl:D.length<n):D.length<(T.foldl Dz D).length:=by
 obtain⟨E,e⟩:=XQ T D;have p:=AHa List.length e;rw[AHC]at p;by_cases g:(T.foldl Dz D).length=D.length
 .exfalso;have s:=ix T D g;have y:∀i j k,BE.T3 n S i j k->(bare D (i,j,k)).length≠1:=λi j k t z=>by have:=s _<|(q i j k).mpr t;unfold Dz at this;rw[AGo z]at this;have:=AHa List.length this;rw[AHC]at this;lia
  have all:=C.oo (P:=λu=>u∈D) h.h0 h.h1 λu v w t=>⟨λa b=>AKK λc=>y u v w t (by
   unfold bare l3;simp only[AHg,AJc,AHM a,AHM b,AHK c,AKu,AJ3,AIN,if_false,Bool.false_eq_true,AG6,AHq]),λa b=>AKK λc=>y u v w t (by
   unfold bare l3;simp only[AHg,AJc,AHM a,AHM b,AHK c,AKu,AJ3,AIN,if_false,Bool.false_eq_true,AG6,AHq])⟩
  have:=AI9 (l₁:=List.range n) AJt (l₂:=D) λu Z=>all u<|AGq.mp Z;rw[AHD]at this;lia
 .lia
open AI (AE Ab Az BH AA M nb Rm w3 fw Line)
def pt(r:List Pt)(k:Nat):Pt:=AA r (k:Int)
def sd(r:List Pt)(x:N3):Int:=AE (pt r x.1) (pt r x.2.1)<|pt r x.2.2
def IL(r:List Pt)(p:Pt)(x:N3):Int:=w3 (pt r x.1) (pt r x.2.1) (pt r x.2.2) p
def Jd(r:List Pt)(x:N3)(p:Pt):Prop:=0<=AE (pt r x.1) (pt r x.2.1) p/\0<=AE (pt r x.2.1) (pt r x.2.2) p/\0<=AE (pt r x.2.2) (pt r x.1) p
def oW(r:List Pt)(x:N3)(p:Pt):Prop:=0<AE (pt r x.1) (pt r x.2.1) p/\0<AE (pt r x.2.1) (pt r x.2.2) p/\0<AE (pt r x.2.2) (pt r x.1) p
theorem ka{r:List Pt}(h:Pt->Pt->Int):∀m:Nat,BE.ps (λa b=>h (pt r a)<|pt r b) 0 m=AI.Af (λj=>h (AA r j)<|AA r<|j+1) m
 |0=>rfl
 |m+1=>by simp only[BE.ps,ka h m,AI.Af];unfold pt;rw[show((0+m+1:Nat):Int)=(m)+1 by lia,show((0+m:Nat))=(m)by lia]
theorem ABO{r:List Pt}(h3:3<=r.length)(h:Pt->Pt->Int):BE.ps (λa b=>h (pt r a)<|pt r b) 0 (r.length-1)+h (pt r<|r.length-1) (pt r 0)=AI.Af (λj=>h (AA r j)<|AA r<|j+1) r.length:=by rw[ka];obtain⟨m,e⟩:∃m,r.length=m+1:=⟨r.length-1,U⟩;rw[show r.length-1=m by lia,e,AI.Af];unfold pt;rw[AI.Ao (i:=(m)+1) (j:=((0:Nat))) (by rw[e];exact AIM)]
theorem o6(a b:Pt):AI.At a b a:=⟨1,0,HF,Bi,DH,U,U⟩
section
variable{r:List Pt}(h:DI r=true){S:List NN}(lS:∀e∈S,GR r e.1 e.2=true)
include h lS
theorem mD(t:BE.T3 r.length S u v w):0<sd r (u,v,w):=by
 obtain⟨R,_⟩:=(Kd r).mp h;obtain⟨t1,t2,t3,y,q,p⟩:=t;have ln:∀{a b:Nat},a<b->b<r.length->(a,b)∈S->Line r a b:=λab Z m=>(PQ h ab Z).mp<|lS _ m;refine R.VD t1 t2 t3 ?_ ?_ ?_
 .rcases p with z|z|z
  .grind
  .exact .inl<|ln U t3 z
  .exact .inr z
 .rcases y with z|z|z
  .exact .inl z
  .exact .inr<|ln t1 U z
  .clear t1;omega
 .rcases q with z|z|z
  .exact .inl z
  .exact .inr<|ln t2 t3 z
  .lia
end
section
variable{r:List Pt}{S:List NN}(C:BE.Ct r.length S)(cw:∀{u v w:Nat},BE.T3 r.length S u v w->0<sd r (u,v,w))
include C cw
theorem Yk(t:BE.T3 r.length S u v w)(p:Pt):0<=IL r p (u,v,w)/\(oW r (u,v,w) p->IL r p (u,v,w)=1)/\(0<IL r p (u,v,w)->Jd r (u,v,w) p):=by have:=AI.T6 (cw t) p;exact⟨this.1,λm=>this.2.1 m.1 m.2.1 m.2.2,λm=>this.2.2 m⟩
theorem Yj(t:BE.T3 r.length S u v w){p:Pt}(ha:a=u\/a=v\/a=w)(O:b=u\/b=v\/b=w)(hp:AI.At (pt r a) (pt r b) p):Jd r (u,v,w) p:=by
 have c:=cw t;unfold sd at c;dsimp only at c;have z:∀(A B Q k:Pt),0<AE A B Q->(k=A\/k=B\/k=Q)->0<=AE A B k:=λA B Q k q e=>by
  rcases e with rfl|rfl|rfl
  .exact AJG (AI.Dh _ _).1.symm
  .exact AJG (AI.Dh _ _).2.symm
  .exact AGt q
 have y:0<AE (pt r v) (pt r w) (pt r u):=by rw[AI.Bs];exact c
 have c3:0<AE (pt r w) (pt r u) (pt r v):=by rw[AI.Bs];exact y
 have Z:pt r a=pt r u\/pt r a=pt r v\/pt r a=pt r w:=by rcases ha with rfl|rfl|rfl<;>simp
 have Y:pt r b=pt r u\/pt r b=pt r v\/pt r b=pt r w:=by rcases O with rfl|rfl|rfl<;>simp
 refine⟨AI.Ig hp (z _ _ _ _ c Z)<|z _ _ _ _ c Y,AI.Ig hp (z _ _ _ _ y ?_)<|z _ _ _ _ y ?_,AI.Ig hp (z _ _ _ _ c3 ?_)<|z _ _ _ _ c3 ?_⟩
 .rcases Z with e|e|e<;>simp[e]
 .rcases Y with e|e|e<;>simp[e]
 .rcases Z with e|e|e<;>simp[e]
 .rcases Y with e|e|e<;>simp[e]
variable{L:List N3}(nd:L.Nodup)(hL:∀u v w,(u,v,w)∈L↔BE.T3 r.length S u v w)
include nd hL
theorem Qs(p:Pt):(L.map<|IL r p).sum=AI.W r p:=by
 have h3:3<=r.length:=by have:=C.ln;lia
 rw[C.AFY nd hL (h:=λa b=>fw (pt r a) (pt r b) p) (λa b=>AI.uJ _ _ _) λ_ _ _ _=>rfl];exact ABO h3 λa b=>fw a b p
theorem jh(p:Pt):∀x∈L,0<=IL r p x:=λ⟨u,v,w⟩ m=>(Yk C cw ((hL u v w).mp m) p).1
theorem aC{a b:Nat}(m:(a,b)∈S){p:Pt}(q:AI.IQ (pt r a) (pt r b) p):AI.W r p≠0:=by
 have f:=C.Bl _ m;have l:=C.lt _ m;dsimp only at f l;obtain⟨c,ti⟩:=C.tin m;obtain⟨d,z⟩:=C.mV (Lg f) l<|.inr m;have Z:0<AE (pt r b) (pt r a) (pt r c):=by have:=cw ti;rw[<-AI.Bs];exact this
 obtain⟨y,Y,Q,wy,O⟩:∃y∈L,y≠(a,c,b)/\IL r p y=w3 (pt r a) (pt r b) (pt r d) p/\0<AE (pt r a) (pt r b) (pt r d):=by
  rcases z with z|z
  .refine⟨(d,a,b),(hL _ _ _).mpr z,λe=>?_,?_,?_⟩
   .have:=z.1;lia
   .delta IL w3;dsimp only;lia
   .have:=cw z;rw[AI.Bs];exact this
  .exact⟨(a,b,d),(hL _ _ _).mpr z,λe=>by have:=z.2.1;lia,rfl,cw z⟩
 have s:=BE.l6 (jh C cw nd hL p) (a,c,b) ((hL _ _ _).mpr ti) y Y<|AHh Q;have wi:IL r p (a,c,b)=w3 (pt r b) (pt r a) (pt r c) p:=by delta IL w3;dsimp only;lia
 simp only[Qs C cw nd hL,wy,wi]at s;have:=AI.AFQ O Z q;lia
def Hb(r:List Pt)(p:Pt):Prop:=∃k:Int,AI.At (AA r k) (AA r<|k+1) p
theorem Vp(ab:a<b)(bn:b<r.length)(j:BE.J r.length S a b){p:Pt}(q:AI.IQ (pt r a) (pt r b) p):Hb r p\/AI.W r p≠0:=by
 have at_:∀{A B:Pt},AI.IQ A B p->AI.At A B p:=λ⟨x,y,hx,hy,e1,e2⟩=>⟨x+y,y,U,U,U,AGg,AGg⟩;rcases j with z|z|⟨Y,Z⟩
 .refine .inl ⟨a,?_⟩;have:=at_ q;rw[z]at this;exact this
 .exact .inr<|aC C cw nd hL z q
 .refine .inl ⟨b,?_⟩;have:=at_ q.symm;rw[AI.Ao (i:=(b)+1) (j:=(a)) (by rw[Y,Z,show((r.length-1:Nat):Int)+1-((0:Nat))=(r.length)by clear Z;clear ab;grind];exact AIM)];exact this
theorem qg(k:Nat):Hb r<|pt r k:=⟨k,o6 _ _⟩
theorem qh(p:Pt):(∃x∈L,Jd r x p)↔(Hb r p\/AI.W r p≠0):=by
 have G:=jh C cw nd hL p;have n3:=C.ln;constructor
 .rintro⟨⟨u,v,w⟩,m,Q,O,F⟩;have t:=(hL u v w).mp m;obtain⟨t1,t2,t3,T,E,H⟩:=id t;have c:=cw t;unfold sd at c;dsimp only at c Q O F;obtain⟨R,ex,Y⟩:=AI.Ih (pt r u) (pt r v) (pt r w) p;have B:∀{k:Nat}{D:Int},0<D->D*p.1=D*(pt r k).1->D*p.2=D*(pt r k).2->Hb r p:=λ{k D} hD f1 f2=>by have:=AID (AH0 U f1)<|AH0 U f2;rw[this];exact qg C cw nd hL k
  by_cases q:AE (pt r u) (pt r v) p=0
  .by_cases z:AE (pt r v) (pt r w) p=0
   .rw[q,z]at ex Y R;exact .inl (B (k:=v) (D:=AE (pt r w) (pt r u) p) U (by rw[show AE (pt r w) (pt r u) p=AE (pt r u) (pt r v) (pt r w)by lia,ex,show AE (pt r w) (pt r u) p=AE (pt r u) (pt r v) (pt r w)by lia];lia) (by rw[show AE (pt r w) (pt r u) p=AE (pt r u) (pt r v) (pt r w)by lia,Y,show AE (pt r w) (pt r u) p=AE (pt r u) (pt r v) (pt r w)by lia];lia))
   .by_cases Z:AE (pt r w) (pt r u) p=0
    .rw[q]at ex Y R;exact .inl (B (k:=u) (D:=AE (pt r v) (pt r w) p) (Cf O z) (by rw[show AE (pt r v) (pt r w) p=AE (pt r u) (pt r v) (pt r w)by lia,ex,show AE (pt r v) (pt r w) p=AE (pt r u) (pt r v) (pt r w)by lia];lia) (by rw[show AE (pt r v) (pt r w) p=AE (pt r u) (pt r v) (pt r w)by lia,Y,show AE (pt r v) (pt r w) p=AE (pt r u) (pt r v) (pt r w)by lia];lia))
    .exact Vp C cw nd hL t1 AGg T<|AI.VB (c:=pt r w) q (Cf O z)<|Cf F Z
  .by_cases z:AE (pt r v) (pt r w) p=0
   .by_cases Z:AE (pt r w) (pt r u) p=0
    .simp only[z,Z]at ex Y R;exact .inl (B (k:=w) (D:=AE (pt r u) (pt r v) p) (Cf Q q) (by rw[show AE (pt r u) (pt r v) p=AE (pt r u) (pt r v) (pt r w)by lia,ex,show AE (pt r u) (pt r v) p=AE (pt r u) (pt r v) (pt r w)by lia];lia) (by rw[show AE (pt r u) (pt r v) p=AE (pt r u) (pt r v) (pt r w)by lia,Y,show AE (pt r u) (pt r v) p=AE (pt r u) (pt r v) (pt r w)by lia];lia))
    .exact Vp C cw nd hL t2 t3 E<|AI.VB (c:=pt r u) z (Cf F Z)<|Cf Q q
   .by_cases Z:AE (pt r w) (pt r u) p=0
    .exact Vp C cw nd hL (Br t1 t2) t3 H (AI.VB (c:=pt r v) Z (Cf Q q)<|Cf O z).symm
    .right;have a:=(Yk C cw t p).2.1 ⟨by dsimp only;exact Cf Q q,by dsimp only;exact Cf O z,by dsimp only;exact Cf F Z⟩;have b:=BE.Tp G (u,v,w) m;rw[Qs C cw nd hL,a]at b;lia
 .rintro(⟨k,y⟩|I)
  .-- Ys wall is a AE of a AGd
   have k0:=AHE k (b:=(r.length)) U;have k1:=AG4 k (b:=(r.length)) U;obtain⟨i,n⟩:∃i:Nat,(i)=k%(r.length):=⟨(k%(r.length)).toNat,U⟩;have g:(k-(i))%(r.length)=0:=by rw[n];exact AKY<|Int.dvd_self_sub_emod
   rw[AI.Ao g,AI.Ao<|AI.CH g]at y;by_cases c:i+1<r.length
   .have y:=by exact y
    obtain⟨d,P|P⟩:=C.mV FP c<|.inl rfl
    .exact⟨_,(hL _ _ _).mpr P,Yj C cw P (.inr<|.inl rfl) (.inr<|.inr rfl) y⟩
    .exact⟨_,(hL _ _ _).mpr P,Yj C cw P (.inl rfl) (.inr<|.inl rfl) y⟩
   .have y:AI.At (pt r<|r.length-1) (pt r 0) p:=by unfold pt;rw[show((r.length-1:Nat):Int)=(i)by grind,<-AI.Ao (j:=((0:Nat))) (by rw[show(i:Int)+1-((0:Nat))=(r.length)by grind];exact AIM)];exact y
    obtain⟨c',t⟩:=C.AE8;exact⟨_,(hL _ _ _).mpr t,Yj C cw t (.inr<|.inr rfl) (.inl rfl) y⟩
  .have a:=BE.Yi G;rw[Qs C cw nd hL]at a;obtain⟨⟨u,v,w⟩,m,k⟩:=BE.l8 (g:=IL r p) (by rw[Qs C cw nd hL];exact Cf a I);exact⟨_,m,(Yk C cw ((hL u v w).mp m) p).2.2 k⟩
end
set_option tactic.hygienic true
theorem pQ(A B:Pt):AI.IQ (AI.dbl A) (AI.dbl B) (A.1+B.1,A.2+B.2):=⟨1,1,HF,HF,by unfold AI.dbl;dsimp only;lia,by unfold AI.dbl;dsimp only;lia⟩
theorem sD(h:DI r=true){S:List NN}(C:BE.Ct r.length S)(Z:∀e∈S,GR r e.1 e.2=true)(Q:(S.map zz).Pairwise λp q=>K0 p.1 p.2 q.1 q.2=true){L:List N3}(nd:L.Nodup)(O:∀u v w,(u,v,w)∈L↔BE.T3 r.length S u v w):Kp [.lst<|AN r,.lst<|AN<|S.map zz]=cB true:=by
 obtain⟨h3,BK,_⟩:=HQ h;have Y:(S.map zz).length=S.length:=AGm _;have y:(r.map AI.dbl).length=r.length:=AGm _;have ln:=C.ln;have hc:∀k:Nat,pt (r.map AI.dbl) k=AI.dbl (pt r k):=λk=>AI.Hd (Bn h3) k;refine nZ h U AGg (AH9.mpr λk z=>?_) (λe he=>?_)<|AH9.mpr λk z=>?_
 .have z:=AGq.mp z;unfold ltB;rw[show(k:Int)+1=((k+1:Nat))by lia,Jp (show k<_ by clear Y;omega),Jp (show k+1<_ by clear Y;omega)];exact AHy.mp Q k (k+1) U U FP
 .obtain⟨⟨a,b⟩,m,rfl⟩:=AHb.mp he;have f:=C.Bl _ m;have l:=C.lt _ m;dsimp only at f l;have p:=((PQ h (Lg f) l).mp<|Z _ m).1;refine nq h Bj (Ce<|Lg f) (Ce l) p ?_;have P:∀{u v w:Nat},BE.T3 (r.map AI.dbl).length S u v w->0<sd (r.map AI.dbl) (u,v,w):=λ{u v w} t=>by
   rw[y]at t;have:=mD h Z t;unfold sd at *
   rw[hc,hc,hc];dsimp only at *
   rw[show AE (AI.dbl<|pt r u) (AI.dbl<|pt r v) (AI.dbl<|pt r w)=4*AE (pt r u) (pt r v) (pt r w)by delta AE AI.dbl;grind];lia
  refine aC (r:=r.map AI.dbl) (by rw[y];exact C) P nd (by rw[y];exact O) m ?_;rw[hc,hc];exact pQ _ _
 .have z:=AGq.mp z;rw[AHZ,AIP];intro e he;obtain⟨f,D,rfl⟩:=AHb.mp<|AJ0 he;obtain⟨g,F,R⟩:=AHb.mp (show AA (S.map zz) k∈S.map zz by rw[Jp z];exact AJL z);rw[<-R,AFg<|C.nx g F f D];exact AIF
set_option tactic.hygienic false
theorem MQ{β:Type}{f:β->Nat->β}(I:Nat->β->Prop){b:β}:∀m:Nat,I 0 b->(∀t b,t<m->I t b->I (t+1) (f b t))->I m ((List.range m).foldl f b)
 |0,h,_=>h
 |m+1,h,k=>by rw[AIT,AJn];exact k m _ FP<|MQ I m h λt b z=>k t b<|HG z
def lx(x y:N3):Prop:=x.1<y.1\/(x.1=y.1/\(x.2.1<y.2.1\/(x.2.1=y.2.1/\x.2.2<y.2.2)))
theorem kE(n:Nat)(N:List Pt):(EM n N).Pairwise lx:=by
 refine(MQ (f:=KG n N) (λi b=>b.Pairwise lx/\∀x∈b,x.1<i) n ⟨.nil,λx m=>by cases m⟩ ?_).1;rintro i b _ ⟨h1,z⟩;obtain⟨q,v⟩:=MQ (f:=Mg n N i) (λt b=>b.Pairwise lx/\∀x∈b,x.1<i\/(x.1=i/\x.2.1<i+1+t)) (n-(i+1)) ⟨h1,λx m=>.inl<|z x m⟩ λt b _ ⟨h1,z⟩=>by
  obtain⟨q,v⟩:=MQ (f:=KO n N i<|i+1+t) (λu b=>b.Pairwise lx/\∀x∈b,x.1<i\/(x.1=i/\(x.2.1<i+1+t\/(x.2.1=i+1+t/\x.2.2<i+1+t+1+u)))) (n-(i+1+t+1)) ⟨h1,λx m=>by have:=z x m;lia⟩ λu b _ ⟨h1,z⟩=>by
   unfold KO;split
   .refine⟨AHp.mpr ⟨h1,AKb _ _,λx m y p=>?_⟩,λx m=>?_⟩
    .rw[AG3]at p;subst p;have:=z x m;unfold lx;dsimp only
     assumption
    .rcases AHJ.mp m with m|m
     .have:=z x m;grind
     .rw[AG3]at m;subst m;dsimp only;lia
   .exact⟨h1,λx m=>by have:=z x m;lia⟩
  exact⟨q,λx m=>by have:=v x m;grind⟩
 exact⟨q,λx m=>by have:=v x m;omega⟩
theorem kB(n:Nat)(N:List Pt):(EM n N).Nodup:=(kE n N).imp λh e=>by subst e;unfold lx at h;lia
theorem Sx{S:List NN}:(i,j,k)∈EM n (S.map zz)↔BE.T3 n S i j k:=by
 rw[yT,AAM];constructor
 .rintro⟨h1,z,h3,y,q,v⟩;exact⟨h1,z,h3,(Mh h1<|Br z h3).mp y,(Mh z h3).mp q,(Mh (Br h1 z) h3).mp v⟩
 .rintro⟨h1,z,h3,y,q,v⟩;exact⟨h1,z,h3,(Mh h1<|Br z h3).mpr y,(Mh z h3).mpr q,(Mh (Br h1 z) h3).mpr v⟩
theorem mX(n:Nat)(N:List Pt):(Kj n N).Pairwise lx:=by
 refine(MQ (f:=Ki n N) (λi b=>b.Pairwise lx/\∀x∈b,x.1<i) n ⟨.nil,λx m=>by cases m⟩ ?_).1;rintro i b _ ⟨h1,z⟩;obtain⟨q,v⟩:=MQ (f:=Ls n N i) (λt b=>b.Pairwise lx/\∀x∈b,x.1<i\/(x.1=i/\x.2.1<i+1+t)) (n-(i+1)) ⟨h1,λx m=>.inl<|z x m⟩ λt b _ ⟨h1,z⟩=>by
  delta Ls Lq
  split
  .refine⟨AHp.mpr ⟨h1,?_,λx m y p=>?_⟩,λx m=>?_⟩
   .rw[AIf];exact((AKh.filter _).filter _).imp λ{a b} h=>by unfold lx;dsimp only;lia
   .obtain⟨u,_,rfl⟩:=AHb.mp p;have:=z x m;unfold lx;lia
   .rcases AHJ.mp m with m|m
    .have:=z x m;lia
    .obtain⟨u,_,rfl⟩:=AHb.mp m;dsimp only;lia
  .exact⟨h1,λx m=>by have:=z x m;lia⟩
 exact⟨q,λx m=>by have:=v x m;lia⟩
theorem AE7{S:List NN}(C:BE.Ct n S):Kj n (S.map zz)=EM n (S.map zz):=by
 refine List.Perm.eq_of_pairwise (λa b _ _ h h'=>?_) (mX _ _) (kE _ _)<|(AJP ((mX n<|S.map zz).imp λh e=>by subst e;unfold lx at h;lia)<|kB _ _).mpr ?_
 .unfold lx at h h';exfalso;lia
 .rintro⟨i,j,k⟩;rw[yV C,Sx]
theorem RS(e:f ρ=some r)(h:r.clean=some (.lst ps)):B5 true f ρ=some ps:=by unfold B5;rw[e];dsimp only;rw[AGo rfl,h]
theorem tH(e:g ρ=some rs)(h:F (rs.map RV.any)=some z):LD F g ρ=some z:=by unfold LD;rw[e];exact h
noncomputable def fl(f:Nat->Nat)(n:Nat):List PV:=(List.range n).map λu:Nat=>PV.int (f u:Int)
def dL:SF:=Bo (B5 true<|AG 1) (Aa 3) dB
def dT:BF:=AU<|f2 CA (OU 2)<|AG 0
section
variable{n:Nat}{S:List NN}(C:BE.Ct n S)(BK:n<=12){T:List N3}(hT:∀i j k,(i,j,k)∈T↔BE.T3 n S i j k){f:Nat->Nat}(hf:∀u,f u<3)(hc:∀u v,u<v->v<n->BE.J n S u v->f u≠f v)
include C BK hT hf hc
theorem qy(h:Ep n D)(Q O P:Option SV):∃q z y,dL (dR n T f D [Q,O,P])=some (.nx<|dR n T f (T.foldl Dz D) [q,z,y])/\Ep n (T.foldl Dz D):=by
 obtain⟨ρ',e,⟨q,z,y,rfl⟩,R⟩:=IB (enc:=e3) (gt:=Aa 3) (body:=dB) Dz (λ_ Y ρ=>(∃q z y,ρ=dR n T f Y [q,z,y])/\Ep n Y) (xs:=T) (n:=0) (b:=D) (ρ:=dR n T f D [Q,O,P]) ⟨⟨Q,O,P,rfl⟩,h⟩ λm x B Y ρ ⟨⟨q,z,y,e⟩,h'⟩=>by subst e;obtain⟨i,j,k⟩:=x;obtain⟨F,Z,p,G,E,H⟩:=(hT i j k).mp<|AHx B;have:=h'.len;obtain⟨z4,z5,I⟩:=qx (n:=n) (T:=T) hf (D:=Y) U (hc i j F (Br Z p) G) (hc j k Z p E) (hc i k (Br F Z) p H) z y;exact⟨_,_,rfl,I,⟨_,_,_,rfl⟩,h'.step (JS F Z p) (Br Z p) p⟩
 exact⟨q,z,y,(Bu<|RS (r:=.cl<|.lst<|T.map e3) rfl rfl).trans e,R⟩
theorem dv:∀(m:Nat)(D:List Nat)(z q p:Option SV),Ep n D->n-D.length<m->∃Z Y Q O,IM dT dL m (dR n T f D [z,q,p])=some (.nx<|dR n T f Z [Y,Q,O])/\Ep n Z/\n<=Z.length
 |0,_,_,_,_,_,h=>U
 |m+1,D,z,q,p,h,hm=>by
  have P:dT (dR n T f D [z,q,p])=some (decide ((D.length:Int)<(n:Int))):=Al (AL (x:=.cl<|.int (D.length:Int)) (y:=.cl<|.int (n:Int)) (by show some (RV.cl<|.int ((EI f D).length:Int))=_;unfold EI;rw[AGm]) rfl (GO _ _))
  unfold IM;rw[P];by_cases g:D.length<n
  .rw[AHM<|Ce g];dsimp only;obtain⟨Y,Q,O,e,h'⟩:=qy C BK hT hf hc h z q p;rw[e];have:=h.more C hT g;exact dv m _ Y Q O h' U
  .rw[AHK U];exact⟨D,z,q,p,rfl,h,Le g⟩
theorem ni(y:f 0=0)(f1:f 1=1):Nj [.int (n:Int),.lst<|T.map e3]=some (.fr<|fl f n):=by
 have n3:=C.ln;have h0:Ep n [0,1]:=⟨AGj,λu z=>by simp at z;lia,AGh,AGh⟩;obtain⟨D,q,p,Z,e,h,Y⟩:=dv C BK hT hf hc 1000 [0,1] none none none h0 U;refine BY rfl ?_;unfold aL;have Q:EI f [0,1]=[(0,0),(1,1)]:=by unfold EI;rw[AGv,AGv,y,f1];rfl
 rw[sq (ρ':=dR n T f [0,1] [none,none,none]) (by unfold dR;rw[Q];rfl)];refine(sq (g:=Oe dT dL) (ρ':=dR n T f D [q,p,Z]) e).trans ?_;refine IH ((B4 (CW (AJ (x:=.cl<|.int (n:Int)) rfl AQ)<|Eg BK) (by rw[AGm,AHD];exact Eg BK) (DF (enc:=λu:Nat=>PV.int (u:Int)) (c:=λ_=>true) (h:=λu:Nat=>PV.int (f u:Int)) λu z=>⟨_,rfl,rfl,λ_=>⟨.cl<|.int (f u:Int),by
  show(FN (EI f D) (u:Int)).map _=_;rw[PJ,AGo<|h.full Y u<|AGq.mp z]
  rfl,rfl⟩⟩)).trans ?_)
 unfold fl;rw[AJY.mpr λ_ _=>rfl]
end
set_option tactic.hygienic true
theorem fO(f:Nat->Nat)(n:Nat):(fl f n).length=n:=by unfold fl;rw[AGm,AHD]
theorem iY(f:Nat->Nat){n u:Nat}(h:u<n):Am (.cl<|.lst<|fl f n) (.cl<|.int (u:Int))=cI (f u:Int):=by
 show(CD (fl f n) (u:Int)).map _=_;unfold CD GN;rw[AGo Bj,AGo (by rw[fO];exact Ce h),AHF,AKE];unfold fl;rw[AHi,AJ2 h]
 rfl
noncomputable def fi(f:Nat->Nat)(n:Nat):List Int:=(List.range n).map λu:Nat=>(f u:Int)
theorem tj(f:Nat->Nat)(n:Nat):fl f n=(fi f n).map PV.int:=by unfold fl fi;rw[AHT];rfl
def cn(f:Nat->Nat)(n:Nat)(d:Int):Nat:=(fi f n).countP (· == d)
theorem iT(f:Nat->Nat)(n:Nat)(d:Int):KL (.cl<|.lst<|fl f n) (.cl<|.int d)=cI (cn f n d):=by
 show(match DA (fl f n),RV.cl (.int d)with|some ns,.cl (.int b)=>some (RV.cl (.int (ns.countP (· == b))))|_,_=>none)=_;rw[tj,O5]
 rfl
def c3(f:Nat->Nat)(n:Nat):List Int:=[(cn f n 0:Int),(cn f n 1:Int),(cn f n 2:Int)]
def Lj(f:Nat->Nat)(n:Nat):Int:=CG (cn f n 0) [(cn f n 1:Int),(cn f n 2:Int)]
def rr(f:Nat->Nat)(n:Nat):Nat:=(c3 f n).idxOf<|Lj f n
theorem jX(f:Nat->Nat)(n:Nat):Lj f n∈c3 f n/\∀x∈c3 f n,Lj f n<=x:=by unfold Lj c3 CG CG CG;simp only[AGz,AH4,AI2,forall_eq_or_imp,forall_eq];split<;>split<;>lia
theorem YJ(f:Nat->Nat)(n:Nat):rr f n<3:=List.idxOf_lt_length_iff.mpr (jX f n).1
theorem qQ(f:Nat->Nat)(n:Nat):(cn f n<|rr f n)=Lj f n:=by
 have h:=YJ f n;have e:(c3 f n)[rr f n]'h=Lj f n:=List.getElem_idxOf h;have k:∀(i:Nat)(hi:i<3),(c3 f n)[i]'hi=(cn f n<|i):=λi hi=>by
  match i,hi with
  |0,_=>rfl
  |1,_=>rfl
  |2,_=>rfl
 rw[<-e,k]
theorem Qq(z:∀u,f u<3):∀n,cn f n 0+cn f n 1+cn f n 2=n
 |0=>rfl
 |n+1=>by
  have ih:=Qq z n;have h:=z n;unfold cn fi at *
  rw[AIT,AHS,AKC,AKC,AKC,AGv,AIm];have:f n=0\/f n=1\/f n=2:=U
  generalize List.countP (· == (0:Int)) ((List.range n).map λu:Nat=>(f u))=a at *
  generalize List.countP (· == (1:Int)) ((List.range n).map λu:Nat=>(f u))=b at *
  generalize List.countP (· == (2:Int)) ((List.range n).map λu:Nat=>(f u))=c at *
  rcases this with e|e|e<;>rw[e]<;>simp<;>lia
def kq(f:Nat->Nat)(n:Nat):List Nat:=(List.range n).filter λu=>(f u:Int)==(rr f n:Int)
theorem Sw:u∈kq f n↔u<n/\f u=rr f n:=by unfold kq;rw[AHN,AGq,AIA];constructor<;>rintro⟨a,b⟩<;>exact⟨a,U⟩
theorem iu(z:∀u,f u<3)(n:Nat):3*(kq f n).length<=n:=by
 have e:(kq f n).length=cn f n (rr f n):=by
  unfold kq cn fi;rw[AJz,List.countP_eq_length_filter]
  rfl
 have a:=qQ f n;have b:=(jX f n).2;have c:=Qq z n;have b0:=b _ (by exact AGw);have b1:=b (cn f n 1) (by unfold c3;simp);have b2:=b (cn f n 2) (by unfold c3;simp);rw[e];lia
theorem XO(v:∀u,f u<3)(hi:i<n)(y:j<n)(q:k<n)(h1:f i≠f j)(h2:f j≠f k)(h3:f i≠f k):∃w,(w=i\/w=j\/w=k)/\w∈kq f n/\([i,j,k].filter λu=>decide (u∈kq f n))=[w]:=by
 have a:=v i;have b:=v j;have c:=v k;have r:=YJ f n;have m:∀{u},u<n->(decide (u∈kq f n)=decide (f u=rr f n)):=λ{u} p=>by rw[AHo,AG0,AG0,Sw];exact⟨λz=>z.2,λz=>⟨p,z⟩⟩
 have:f i=rr f n\/f j=rr f n\/f k=rr f n:=AGi
 rcases this with e|e|e
 .exact⟨i,.inl rfl,Sw.mpr ⟨hi,e⟩,by simp only[AHg,AJc,m hi,m y,m q,AHM e,AHK (show ¬ f j=rr f n by clear b;lia),AHK (U:¬ f k=rr f n),AIN,Bool.false_eq_true,if_false]⟩
 .exact⟨j,.inr<|.inl rfl,Sw.mpr ⟨y,e⟩,by simp only[AHg,AJc,m hi,m y,m q,AHM e,AHK (show ¬ f i=rr f n by clear a;lia),AHK (U:¬ f k=rr f n),AIN,Bool.false_eq_true,if_false]⟩
 .exact⟨k,.inr<|.inr rfl,Sw.mpr ⟨q,e⟩,by simp only[AHg,AJc,m hi,m y,m q,AHM e,AHK (U:¬ f i=rr f n),AHK (U:¬ f j=rr f n),AIN,Bool.false_eq_true,if_false]⟩
def B1(f:Nat->Nat)(n:Nat):List PV:=(kq f n).map λu:Nat=>PV.int (u:Int)
theorem idx_eq(f:Nat->Nat)(n:Nat)(e:g ρ=some (.cl<|.lst<|(c3 f n).map PV.int))(z:h ρ=cI (Lj f n)):f2 Mj g h ρ=cI (rr f n):=by refine AL e z ?_;exact AGo<|YJ f n
theorem ZJ(f:Nat->Nat){n:Nat}(hn:n<=1000):QP [.lst<|fl f n]=some (.fr<|B1 f n):=by
 refine BY rfl ?_;unfold aQ;have c:A5 (D9 VW) 1 [0] (Aa 0) BP (f2 KL (AG 1)<|AG 0) (A7 3 [.lst<|fl f n])=some (.fr<|(([0,1,2]).filter λ_=>true).map λd=>PV.int<|cn f n d):=
  B4 (xs:=([0,1,2]).map PV.int) rfl AGh (DF λd _=>⟨_,rfl,rfl,λ_=>⟨_,AL rfl rfl<|iT f n d,rfl⟩⟩)
 rw[sq <|Aq c rfl];rw[sq <|Aq (idx_eq f n rfl<|BO (AJ rfl AQ) rfl) rfl];exact IH<|B4 (CW (AJ (BO (AJ rfl AQ)<|by rw[EG,fO]) AQ) hn) (by rw[AGm,AHD];exact hn)<|DF λu z=>⟨_,rfl,Al<|AL (AL rfl rfl<|iY f<|AGq.mp z) rfl<|KN _ _,λ_=>⟨_,rfl,rfl⟩⟩
theorem nj(f:Nat->Nat){n:Nat}(hn:n<=1000):UQ [.lst<|fl f n,.int<|n]=some (.fr<|B1 f n):=by
 refine BY rfl ?_;unfold aX;have c:A5 (CQ<|AH (fC<|.int 3) AO) 1 [0] (Aa 0) BP (f2 KL (AG 1)<|AG 0) (A7 4 [.lst<|fl f n,.int<|n])=some (.fr (((List.range 3).filter λ_=>true).map λd:Nat=>PV.int<|cn f n<|d)):=
  B4 (CW (n:=3) rfl AGj) AGh (DF λd _=>⟨_,rfl,rfl,λ_=>⟨_,AL rfl rfl<|iT f n d,rfl⟩⟩)
 rw[sq <|Aq c rfl];rw[sq <|Aq (idx_eq f n rfl<|BO (AJ rfl AQ) rfl) rfl];exact IH<|B4 (CW (AJ rfl AQ) hn) (by rw[AGm,AHD];exact hn)<|DF λu z=>⟨_,rfl,Al<|AL (AL rfl rfl<|iY f<|AGq.mp z) rfl<|KN _ _,λ_=>⟨_,rfl,rfl⟩⟩
open AI (AE Ab Az BH AA M nb Rm w3 fw)
section
variable{a b c:Pt}(h:0<AE a b c)
theorem Jm(k:Int):(k%3=0/\AA [a,b,c] k=a)\/(k%3=1/\AA [a,b,c] k=b)\/(k%3=2/\AA [a,b,c] k=c):=by
 have e:∀m:Int,(k-m)%3=0->AA [a,b,c] k=AA [a,b,c] m:=λm e=>AI.Ao e;have:k%3=0\/k%3=1\/k%3=2:=U
 rcases this with z|z|z
 .exact .inl ⟨z,(e 0 U).trans rfl⟩
 .exact .inr<|.inl ⟨z,(e 1 U).trans rfl⟩
 .exact .inr<|.inr ⟨z,(e 2 U).trans rfl⟩
theorem Zs:AA [a,b,c] 0=a/\AA [a,b,c] 1=b/\AA [a,b,c] 2=c/\AA [a,b,c] 3=a:=by
 have y:=Jm (a:=a) (b:=b) (c:=c) 0;have q:=Jm (a:=a) (b:=b) (c:=c) 1;have v:=Jm (a:=a) (b:=b) (c:=c) 2;have e3:=Jm (a:=a) (b:=b) (c:=c) 3;refine⟨?_,?_,?_,?_⟩
 .rcases y with z|z|z
  .exact z.2
  .lia
  .lia
 .rcases q with z|z|z
  .lia
  .exact z.2
  .lia
 .rcases v with z|z|z
  .lia
  .lia
  .exact z.2
 .rcases e3 with z|z|z
  .exact z.2
  .lia
  .lia
include h
theorem AE5(k:Int):AE (AA [a,b,c] k) (AA [a,b,c]<|k+1) (AA [a,b,c]<|k+1+1)=AE a b c:=by rcases Jm (a:=a) (b:=b) (c:=c) k with⟨z,e⟩|⟨z,e⟩|⟨z,e⟩<;>rcases Jm (a:=a) (b:=b) (c:=c) (k+1)with⟨v,y⟩|⟨v,y⟩|⟨v,y⟩<;>rcases Jm (a:=a) (b:=b) (c:=c) (k+1+1)with⟨u,q⟩|⟨u,q⟩|⟨u,q⟩<;>first|lia|(done)|(rw[e,y,q];exact AI.Bs a b c)|(rw[e,y,q];exact(AI.Bs b c a).trans (AI.Bs a b c))
theorem AE6:AI.A4 [a,b,c]:=by refine⟨AGy _,λk=>AI.MS (by rw[AE5 h];exact FO h),λi j f=>?_⟩;obtain⟨z,f1,f2⟩:=f;exfalso;simp only[AG6,AHq]at z f1 f2;lia
theorem mW(p:Pt):AI.W [a,b,c] p=w3 a b c p:=by obtain⟨z,y,q,e3⟩:=Zs;unfold AI.W w3;show 0+fw (AA [a,b,c] 0) (AA [a,b,c] 1) p+fw (AA [a,b,c] 1) (AA [a,b,c] 2) p+fw (AA [a,b,c] 2) (AA [a,b,c] 3) p=_;rw[z,y,q,e3];lia
theorem AE4(p:Pt):((∃k:Int,AI.At (AA [a,b,c] k) (AA [a,b,c]<|k+1) p)\/AI.W [a,b,c] p≠0)↔(0<=AE a b p/\0<=AE b c p/\0<=AE c a p):=by
 have cn:=AI.T6 h p;have v:0<AE b c a:=by rw[AI.Bs];exact h
 have h3:0<AE c a b:=by rw[AI.Bs];exact v
 constructor
 .rintro(⟨k,u⟩|P)
  .have z:∀(A B Q x:Pt),0<AE A B Q->(x=A\/x=B\/x=Q)->0<=AE A B x:=λA B Q x q e=>by
    rcases e with rfl|rfl|rfl
    .exact AJG (AI.Dh _ _).1.symm
    .exact AJG (AI.Dh _ _).2.symm
    .exact AGt q
   have m:∀k:Int,AA [a,b,c] k=a\/AA [a,b,c] k=b\/AA [a,b,c] k=c:=λk=>by
    rcases Jm k with z|z|z
    .exact .inl z.2
    .exact .inr<|.inl z.2
    .exact .inr<|.inr z.2
   have D:∀{x:Pt},(x=a\/x=b\/x=c)->(x=b\/x=c\/x=a):=λe=>by rcases e with e|e|e<;>simp[e]
   exact⟨AI.Ig u (z _ _ _ _ h<|m _)<|z _ _ _ _ h<|m _,AI.Ig u (z _ _ _ _ v<|D<|m _)<|z _ _ _ _ v<|D<|m _,AI.Ig u (z _ _ _ _ h3 (by rcases m k with e|e|e<;>simp[e]))<|z _ _ _ _ h3 (by rcases m (k+1)with e|e|e<;>simp[e])⟩
  .rw[mW h]at P;exact cn.2.2 (by have:=cn.1;exact Cf this P)
 .rintro⟨F,R,T⟩;obtain⟨c0,c1,G,c3⟩:=Zs;obtain⟨y,ex,Z⟩:=AI.Ih a b c p;by_cases Y:AE a b p=0
  .refine .inl ⟨0,AE a b c,AE c a p,h,T,U,?_,?_⟩
   .show AE a b c*(p.1-a.1)=AE c a p*(b.1-a.1);rw[AIV,ex,<-y,Y];grind
   .show AE a b c*(p.2-a.2)=AE c a p*(b.2-a.2);rw[AIV,Z,<-y,Y];grind
  .by_cases O:AE b c p=0
   .refine .inl ⟨1,AE a b c,AE a b p,h,F,U,?_,?_⟩
    .show AE a b c*(p.1-b.1)=AE a b p*(c.1-b.1);rw[AIV,ex,<-y,O];grind
    .show AE a b c*(p.2-b.2)=AE a b p*(c.2-b.2);rw[AIV,Z,<-y,O];grind
   .by_cases S:AE c a p=0
    .refine .inl ⟨2,AE a b c,AE b c p,h,R,U,?_,?_⟩
     .rw[show(2:Int)+1=3 by rfl,G,c3,AIV,ex,<-y,S];grind
     .rw[show(2:Int)+1=3 by rfl,G,c3,AIV,Z,<-y,S];grind
    .right;rw[mW h,cn.2.1 (Cf F Y) (Cf R O) (by clear h;lia)];lia
end
theorem AEG(x:PySem.Str)(h:x = "on"\/x = "in"\/x = "out"):CN (.cl<|.str x) (.cl<|.str "out")=cB (!decide (x = "out")):=by
 have k:∀(a:PySem.Str),PySem.SeqAt.shaped (Ag<|.str a)=true->PySem.SeqAt.shaped (Ag<|.str "out")=true->CN (.cl<|.str a) (.cl<|.str "out")=cB (!decide (a = "out")):=λa ha z=>by refine(AGo ⟨ha,z⟩).trans (AHa (λb=>some<|RV.cl<|PV.bl (!b)) ?_);show PySem.PyData.eqv (Ag<|.str a) (Ag<|.str "out")=_;unfold Ag;rw[AHo];simp[PySem.PyData.eqv]
 rcases h with rfl|rfl|rfl<;>exact k _ AGk AGk
theorem AA3{r:List Pt}(S:AI.A4 r)(p:Pt):(place (BN r) p = "on"\/place (BN r) p = "in"\/place (BN r) p = "out")/\(place (BN r) p≠"out"↔(Hb r p\/AI.W r p≠0)):=by
 have h3:=S.l3;rw[AA4 S];unfold GW;rw[AI.Yw];have on:((List.range r.length).any λk:Nat=>Ab (AA r<|(k)-1) (AA r k) p)=true↔Hb r p:=by
  have:=AI.Uz (Bn h3) λa b=>Ab a b p;constructor
  .intro e;refine AHn λc=>?_;have:=this.mpr λj=>AIg.mpr λz=>c ⟨j,AI.JX.mp<|AI.EL.mp z⟩;rw[e]at this;cases this
  .rintro⟨k,y⟩;refine Bool.not_eq_false _ |>.mp λe=>?_
   have:=this.mp e k;rw[AI.EL.mpr<|AI.JX.mpr y]at this;cases this
 by_cases c:Hb r p
 .rw[AGo<|on.mpr c];exact⟨.inl rfl,λ_=>.inl c,λ_=>AGj⟩
 .rw[AGp λz=>c<|on.mp z];by_cases w:AI.W r p=0
  .rw[AGp<|by simp[w]];exact⟨.inr<|.inr rfl,λz=>absurd rfl z,λz=>z.elim (λz=>absurd z c) λz=>absurd w z⟩
  .rw[AGo<|by simp[w]];exact⟨.inr<|.inl rfl,λ_=>.inr w,λ_=>AGj⟩
noncomputable def tl(x:N3):List Nat:=[x.1,x.2.1,x.2.2]
theorem iZ(r:List Pt)(h:i<r.length):Am (.cl<|.lst<|AN r) (.cl<|.int<|i)=some (.cl<|pv<|pt r i):=Bz r i U<|Ce h
section
variable{r:List Pt}(hb:∀p∈r,Bd 1000 p){i j k:Nat}(hi:i<r.length)(hj:j<r.length)(hk:k<r.length)(hc:0<sd r (i,j,k))
include hb hi hj hk hc
theorem oK(p:Pt):∃b:Bool,QV [.lst<|AN r,e3 (i,j,k),pv p]=cB b/\(b=true↔Jd r (i,j,k) p):=by
 obtain⟨v,Z⟩:=AA3 (AE6 hc) p;refine⟨!decide (place (BN [pt r i,pt r j,pt r k]) p = "out"),BY rfl ?_,?_⟩
 .have c:A5 (D9<|AG 1) 1 [0] (Aa 0) BP Jt (A7 3 [.lst<|AN r,e3 (i,j,k),pv p])=some (.fr<|((tl (i,j,k)).filter λ_=>true).map λu=>pv<|pt r u):=
   B4 (xs:=(tl (i,j,k)).map λu:Nat=>PV.int<|u) rfl (by simp[tl]) (DF λu z=>⟨_,rfl,rfl,λ_=>⟨_,AL rfl rfl (iZ r (by unfold tl at z;simp only[AGz,AH4,AI2]at z;rcases z with rfl|rfl|rfl<;>assumption)),rfl⟩⟩)
  have bt:∀q∈[pt r i,pt r j,pt r k],Bd 1000 q:=λq y=>by simp only[AGz,AH4,AI2]at y;rcases y with rfl|rfl|rfl<;>exact Cz U hb _
  exact CI<|AL (An (AJ (An (rs:=[.fr<|AN [pt r i,pt r j,pt r k]]) (AJ c AQ) rfl<|Nq AGh AGh)<|AJ rfl AQ) rfl<|ZO (by rw[Y3];simp)<|T7 bt) rfl<|AEG _ v
 .rw[AHZ,AIj];exact Z.trans<|AE4 hc p
end
theorem XC(D:List Nat)(u:Nat):DM false (.cl<|.int<|u) (.cl<|.lst (D.map λv:Nat=>PV.int<|v))=cB (decide (u∈D)):=by
 have y:∀i:Int,PySem.SeqAt.shaped (Ag<|.int i)=true:=λi=>by simp[Ag,PySem.SeqAt.shaped,PySem.PyData.canLay0,PySem.PyData.depth]
 have q:∀i j:Int,PySem.PyData.eqv (Ag<|.int i) (Ag<|.int j)=decide (i=j):=λi j=>by rw[AHo];simp[Ag,PySem.PyData.eqv]
 have sa:GY (D.map λv:Nat=>PV.int<|v)=true:=by unfold GY;simp[y]
 show(if PySem.SeqAt.shaped (Ag<|.int<|u)=true/\GY (D.map λv:Nat=>PV.int<|v)=true then some (RV.cl (.bl (if false=true then !inD (D.map λv:Nat=>PV.int<|v) (.int<|u)else inD (D.map λv:Nat=>PV.int<|v) (.int<|u))))else none)=_;rw[AGo ⟨y _,sa⟩,AGp AGj];unfold inD;rw[AId]
 congr 3
 rw[AHo];simp only[AJv,Function.comp,q,AG0];exact⟨λ⟨x,z,e⟩=>by rw[show u=x by lia];exact z,λz=>⟨u,z,rfl⟩⟩
theorem nv(z:∀u,f u<3)(hi:i<n)(y:j<n)(q:k<n)(h1:f i≠f j)(v:f j≠f k)(h3:f i≠f k):∃w,(w=i\/w=j\/w=k)/\w∈kq f n/\QN [e3 (i,j,k),.lst<|B1 f n]=cI w:=by
 obtain⟨w,a,b,e⟩:=XO z hi y q h1 v h3;refine⟨w,a,b,BY rfl ?_⟩;have c:A5 (D9<|AG 0) 1 [1] (Aa 0) (AU RE) (AG 0) (A7 2 [e3 (i,j,k),.lst<|B1 f n])=some (.fr (([i,j,k].filter λu=>decide (u∈kq f n)).map λu:Nat=>PV.int<|u)):=
  B4 (xs:=[i,j,k].map λu:Nat=>PV.int<|u) rfl AGh (DF λu _=>⟨_,rfl,Al<|AL rfl rfl<|XC _ u,λ_=>⟨_,rfl,rfl⟩⟩)
 rw[e]at c;exact CI<|AL c rfl rfl
theorem jG{α:Type}{enc:α->PV}{body:SF}{c:α->Bool}{r:α->RV}(I:AS->Prop):∀{xs:List α}{ρ:AS},I ρ->(∀x∈xs,∀ρ,I ρ->∃z,gt (enc x) ρ=some z/\(c x=true->body z=some (.rt<|r x))/\(c x=false->∃q,body z=some (.nx q)/\I q))->(∃x∈xs,c x=true/\C4 gt body (xs.map enc) ρ=some (.rt<|r x))\/((∀x∈xs,c x=false)/\∃ρ',C4 gt body (xs.map enc) ρ=some (.nx ρ')/\I ρ')
 |[],ρ,hI,_=>.inr ⟨λx m=>by(cases m),ρ,rfl,hI⟩
 |x::xs,ρ,hI,H=>by
  obtain⟨z,v,h1,u⟩:=H x AGw ρ hI;rw[AGv];unfold C4;rw[v];dsimp only;cases hc:c x with
  |true=>
   rw[h1 hc];exact .inl ⟨x,AGw,hc,rfl⟩
  |false=>
   obtain⟨q,p,Z⟩:=u hc;rw[p];rcases jG I Z λy Y=>H y (AGr _ Y)with⟨y,m,k,e⟩|⟨a,b⟩
   .exact .inl ⟨y,AGr _ m,k,e⟩
   .refine .inr ⟨λy m=>?_,b⟩;rcases AGz.mp m with rfl|m
    .exact hc
    .exact a y m
section
variable{r N:List Pt}(h:DI r=true)
include h in
theorem VF{ρ:AS}(e:AG 0 ρ=some (.cl<|.lst<|AN r)):OI ρ=some (.nx ρ):=du<|An (AJ e AQ) rfl<|nX h
theorem VG(hc:Kp [.lst<|AN r,.lst<|AN N]=cB true){i:Nat}{ρ:AS}(e:AG 0 ρ=some (.cl<|.lst<|AN r))(z:AG i ρ=some (.cl<|.lst<|AN N)):J3 (AW UH<|AH (AG 0)<|AH (AG i) AO) ρ=some (.nx ρ):=
 du (An (AJ e<|AJ z AQ) rfl<|bH (ρ:=A7 2 [.lst<|AN r,.lst<|AN N]) rfl<|(BC<|D6<|Al<|An (AJ (f:=AG 0) rfl<|AJ (f:=AG 1) rfl AQ) rfl hc).trans rfl)
end
section
variable{r:List Pt}(h:DI r=true){S:List NN}(C:BE.Ct r.length S)(hc:Kp [.lst (AN r),.lst (AN (S.map zz))]=cB true){f:Nat->Nat}(hf:∀u,f u<3)(hd:∀u v,u<v->v<r.length->BE.J r.length S u v->f u≠f v)(f0:f 0=0)(f1:f 1=1)
include h C hc hf hd f0 f1
theorem Vn:Np [.int<|r.length,.lst<|AN<|S.map zz]=some (.fr<|(EM r.length<|S.map zz).map e3)/\Nj [.int<|r.length,.lst<|(EM r.length<|S.map zz).map e3]=some (.fr<|fl f r.length):=by obtain⟨h3,z,_⟩:=HQ h;obtain⟨y,_⟩:=oQ (Bn h3) z;rw[AE7 C]at y;exact⟨y,ni C z (λi j k=>Sx) hf hd f0 f1⟩
theorem nh:UL [.lst<|AN r,.lst<|AN<|S.map zz]=some (.fr<|fl f r.length):=by obtain⟨h3,BK,_⟩:=HQ h;obtain⟨y,q⟩:=Vn h C hc hf hd f0 f1;refine BY rfl ?_;unfold aK;rw[sq<|VF h rfl,sq<|VG hc rfl rfl];have z:CM (A7 2 [.lst<|AN r,.lst<|AN<|S.map zz])=cI r.length:=BO (AJ rfl AQ) (by rw[EG,Bv]);exact(IH<|An (AJ z<|AJ (An (AJ z<|AJ rfl AQ) rfl y) AQ) rfl q)
theorem ny:QO [.lst<|AN r,.lst<|AN<|S.map zz]=some (.fr<|B1 f r.length):=by obtain⟨h3,y,_⟩:=HQ h;obtain⟨q,p⟩:=Vn h C hc hf hd f0 f1;refine BY rfl ?_;unfold aO;rw[sq<|VF h rfl,sq<|VG hc rfl rfl];have z:CM (A7 2 [.lst<|AN r,.lst<|AN<|S.map zz])=cI r.length:=BO (AJ rfl AQ) (by rw[EG,Bv]);exact(IH<|An (AJ (An (AJ z<|AJ (An (AJ z<|AJ rfl AQ) rfl q) AQ) rfl p) AQ) rfl<|ZJ f<|Eg y)
end
def Ee(r:List Pt)(p:Pt)(x:N3):Bool:=decide (0<=AE (pt r x.1) (pt r x.2.1) p/\0<=AE (pt r x.2.1) (pt r x.2.2) p/\0<=AE (pt r x.2.2) (pt r x.1) p)
theorem XB(r:List Pt)(p:Pt)(x:N3):Ee r p x=true↔Jd r x p:=by exact decide_eq_true_iff
def JO(f:Nat->Nat)(n:Nat)(x:N3):Nat:=(([x.1,x.2.1,x.2.2].filter λu=>decide (u∈kq f n)).headD 0)
theorem ZI(z:∀u,f u<3)(hi:i<n)(y:j<n)(q:k<n)(h1:f i≠f j)(v:f j≠f k)(h3:f i≠f k):(JO f n (i,j,k)=i\/JO f n (i,j,k)=j\/JO f n (i,j,k)=k)/\JO f n (i,j,k)∈kq f n/\QN [e3 (i,j,k),.lst<|B1 f n]=cI (JO f n (i,j,k)):=by
 obtain⟨w,a,b,e⟩:=XO z hi y q h1 v h3;obtain⟨Z,Y,Q,p⟩:=nv z hi y q h1 v h3;have k1:JO f n (i,j,k)=w:=by unfold JO;rw[e];rfl
 have k2:=by have:Z∈[i,j,k].filter λu=>decide (u∈kq f n):=AHN.mpr ⟨by simp only[AGz,AH4,AI2];exact Y,AHM Q⟩;rw[e]at this;exact AG3.mp this
 rw[k1];rw[k2]at p;exact⟨a,b,p⟩
section
variable{r:List Pt}(h:DI r=true){S:List NN}(C:BE.Ct r.length S)(hc:Kp [.lst (AN r),.lst (AN (S.map zz))]=cB true)(cw:∀{u v w:Nat},BE.T3 r.length S u v w->0<sd r (u,v,w)){f:Nat->Nat}(hf:∀u,f u<3)(hd:∀u v,u<v->v<r.length->BE.J r.length S u v->f u≠f v)(f0:f 0=0)(f1:f 1=1)
include h C hc cw hf hd f0 f1
theorem oO(p:Pt):(∃x∈EM r.length (S.map zz),Jd r x p/\L1 [.lst<|AN r,.lst<|AN<|S.map zz,pv p]=some (.cl<|.tup [e3 x,.int<|JO f r.length x]))\/((∀x∈EM r.length (S.map zz),¬ Jd r x p)/\L1 [.lst<|AN r,.lst<|AN<|S.map zz,pv p]=none/\Qg [.lst<|AN r,.lst<|AN<|S.map zz,pv p]=some "NoPoint"):=by
 obtain⟨h3,O,P⟩:=HQ h;obtain⟨z,D⟩:=Vn h C hc hf hd f0 f1;have mem:∀u v w,(u,v,w)∈EM r.length (S.map zz)↔BE.T3 r.length S u v w:=λu v w=>Sx;have start:∀g:YF,En (yL OI) (En (yL Q3) g) (A7 6 [.lst<|AN r,.lst<|AN<|S.map zz,pv p])=g (A7 6 [.lst<|AN r,.lst<|AN<|S.map zz,pv p]):=λg=>by rw[GB<|nP<|VF h rfl,GB<|nP<|VG hc rfl rfl]
 generalize EM r.length (S.map zz)=L at *
 have Y:yL Vj (A7 6 [.lst<|AN r,.lst<|AN<|S.map zz,pv p])=some (.o<|.nx [iL r,iL<|S.map zz,iM<|pv p,iM<|.lst<|L.map e3,none,none]):=by
  unfold yL
  delta Vj
  rw[Aq (An (AJ (BO (AJ rfl AQ)<|by rw[EG,Bv])<|AJ rfl AQ) rfl z) rfl]
  rfl
 have Q:yL Vf [iL r,iL<|S.map zz,iM<|pv p,iM<|.lst<|L.map e3,none,none]=some (.o<|.nx [iL r,iL<|S.map zz,iM<|pv p,iM<|.lst<|L.map e3,iM<|.lst<|B1 f r.length,none]):=by
  unfold yL
  delta Vf
  rw[Aq (An (AJ (An (AJ (BO (AJ rfl AQ)<|by rw[EG,Bv])<|AJ rfl AQ) rfl D) AQ) rfl<|ZJ f<|Eg O) rfl]
  rfl
 have H:=jG (gt:=Aa 5) (body:=cL) (c:=Ee r p) (r:=λx=>.cl<|.tup [e3 x,.int<|JO f r.length x])
  (λρ=>∃y,ρ=[iL r,iL<|S.map zz,iM<|pv p,iM<|.lst<|L.map e3,iM<|.lst<|B1 f r.length,y]) (ρ:=[iL r,iL<|S.map zz,iM<|pv p,iM<|.lst<|L.map e3,iM<|.lst<|B1 f r.length,none]) ⟨_,rfl⟩ (by
  rintro⟨i,j,k⟩ F ρ ⟨y,rfl⟩;have t:=(mem i j k).mp F;obtain⟨t1,t2,t3,R,B,G⟩:=id t;obtain⟨b,T,E⟩:=oK P (JS t1 t2 t3) (Br t2 t3) t3 (cw t) p;have I:b=Ee r p (i,j,k):=by rw[AHo,E,XB]
  have z:AU (AW QV<|AH (AG 0)<|AH (AG 5) Es) [iL r,iL<|S.map zz,iM<|pv p,iM<|.lst<|L.map e3,iM<|.lst<|B1 f r.length,iM<|e3 (i,j,k)]=some (Ee r p (i,j,k)):=by rw[<-I];exact Al<|An rfl rfl T
  obtain⟨_,_,n⟩:=ZI hf (JS t1 t2 t3) (Br t2 t3) t3 (hd i j t1 (Br t2 t3) R) (hd j k t2 t3 B)<|hd i k (Br t1 t2) t3 G;refine⟨_,rfl,λq=>?_,λq=>?_⟩
  .rw[q]at z;exact(Bc z).trans (CI<|D7 (AJ rfl<|AJ (An rfl rfl n) AQ) rfl)
  .rw[q]at z;exact⟨_,(BC z).trans rfl,_,rfl⟩)
 rcases H with⟨x,m,a,e⟩|⟨no,ρ',e,y,rfl⟩
 .refine .inl ⟨x,m,(XB r p x).mp a,VP rfl ?_⟩;unfold Q0;rw[start,GB Y,GB Q];have Z:=(Bu (its:=B5 true<|AG 3)<|RS rfl rfl).trans e;unfold En;rw[AFj Z]
 .refine .inr ⟨λx m c=>?_,qz rfl ?_⟩
  .have:=no x m;rw[(XB r p x).mpr c]at this;cases this
  .unfold Q0;rw[start,GB Y,GB Q];have Z:=(Bu (its:=B5 true<|AG 3)<|RS rfl rfl).trans e;rw[GB (by unfold yL;rw[Z];rfl)]
   rfl
end
section
variable{i j:Nat}{L:List PySem.Str}{F:List PV->Option RV}{XF:List PV->Option PySem.Str}{ga:AF}{Ga:SF}{ρ:AS}{rs:List RV}{ps:List PV}
theorem AE9(e:ga ρ=some rs)(z:Ci rs=some ps)(y:F ps=some (.cl q)):Kl i j L F XF ga Ga ρ=some (.o<|.nx<|ρ.set j<|iM q):=by unfold Kl;rw[e];dsimp only;rw[z];dsimp only;rw[y];rfl
theorem AFA(e:ga ρ=some rs)(y:Ci rs=some ps)(z:F ps=none/\XF ps=some nm)(q:L.contains nm=true)(es:Ga ((KP ρ).set i<|some<|.exc nm)=some (.nx ρ')):Kl i j L F XF ga Ga ρ=some (.o<|.nx<|ρ'.set i none):=by unfold Kl;rw[e];dsimp only;rw[y];dsimp only;rw[z.1];rw[z.2];dsimp only;rw[AGo q,es]
end
theorem yY{a b c q:PV}(h:L1 [a,b,c]=some (.cl q)):Nk [a,b,c]=some (.cl<|.tup [.int (-1),q]):=by
 refine VP rfl ?_;unfold Qz;rw[GB rfl,GB rfl];rw[GB<|AE9 rfl rfl h]
 rfl
theorem yX{a b c:PV}(h:L1 [a,b,c]=none/\Qg [a,b,c]=some "NoPoint"):Nk [a,b,c]=some (.cl<|.tup [.int 2,.As]):=by
 refine VP rfl ?_;unfold Qz;rw[GB rfl,GB (ρ':=[iM a,iM b,iM c,iI (-1),iM .As,none]) rfl];have es:MV 3 5 UE ((KP [iM a,iM b,iM c,iI (-1),iM .As,none]).set 5<|some<|.exc "NoPoint")=some (.nx [iM a,iM b,iM c,iI 2,iM .As,some<|.exc "NoPoint"]):=by rfl
 rw[GB<|AFA rfl rfl h AGj es]
 rfl
def Sa(f:Nat->Nat)(n:Nat):List Int:=(kq f n).map λu:Nat=>(u:Int)
theorem xw(f:Nat->Nat)(n:Nat):B1 f n=(Sa f n).map PV.int:=by unfold B1 Sa;rw[AHT];rfl
theorem ie(zs:List Int)(h:k<zs.length):Am (.cl<|.lst<|zs.map PV.int) (.cl<|.int<|k)=cI (zs[k]):=by
 show(CD (zs.map PV.int)<|k).map _=_;unfold CD GN;rw[AGo Bj,AGo (by rw[AGm];exact Ce h),AHF,AKE,AHi,AG8 h]
 rfl
theorem nr(zs:List Int)(hn:zs.length<=1000):Ly [.lst<|zs.map PV.int,.lst<|zs.map PV.int]=cB true:=by
 refine BY rfl ?_;unfold aa;have q:∀(i:Nat)(ρ:AS),AG i ρ=some (.cl<|.lst<|zs.map PV.int)->fB Ds (AH (AG i) AO) ρ=cI zs.length:=λi ρ e=>BO (AJ e AQ) (by rw[EG,AGm]);have u:Cb (CV<|AU<|FF "list"<|AG 0) (AU<|f2 CN CM Ir) (A7 3 [.lst<|zs.map PV.int,.lst<|zs.map PV.int])=some (false || !((zs.length:Int)==zs.length)):=Eb (D6 (a:=true)<|Al rfl) λ_=>Al<|AL (q 0 _ rfl) (q 1 _ rfl)<|GQ _ _;rw[show(false || !((zs.length:Int)==zs.length))=false by simp]at u;rw[sq<|(BC u).trans rfl];have H:=HE (enc:=λk:Nat=>PV.int<|k) (gt:=Aa 2) (body:=bj)
  (c:=λ_=>false) (r:=.cl<|.bl false) (λρ=>∃x,ρ=[iM<|.lst<|zs.map PV.int,iM<|.lst<|zs.map PV.int,x]) ⟨none,rfl⟩ (by
  rintro k z ρ ⟨y,rfl⟩;refine⟨_,rfl,λh=>(nomatch h),λ_=>⟨_,(BC (?_)).trans rfl,_,rfl⟩⟩;have p:Js [iM<|.lst<|zs.map PV.int,iM<|.lst<|zs.map PV.int,iI k]=cI (zs[k]'(AGq.mp z)):=AL rfl rfl<|ie zs _;have Y:f2 Am (AG 1) (AG 2) [iM<|.lst<|zs.map PV.int,iM<|.lst<|zs.map PV.int,iI k]=cI (zs[k]'(AGq.mp z)):=AL rfl rfl<|ie zs _;have Z:∀(T:String)(b:Bool),(∀v,Me T (.int v)=some b)->FF T Js [iM<|.lst<|zs.map PV.int,iM<|.lst<|zs.map PV.int,iI k]=cB b:=λT b h=>by
   unfold FF;rw[p];dsimp only;rw[show(RV.cl<|.int<|zs[k]'(AGq.mp z)).any=.int (zs[k]'(AGq.mp z))from rfl,h]
   rfl
  refine(Eb (a:=false) (D6 <|Al<|Z "int" true λ_=>rfl) λ_=>Eb (Al<|Z "bool" false λ_=>rfl) λ_=>Al<|AL p Y<|GQ _ _).trans ?_;simp)
 obtain⟨ρ',e,x,rfl⟩:=H.2 AGh;refine(sq<|(Bu<|CW (AJ (q 1 _ rfl) AQ) hn).trans e).trans ?_
 rfl
theorem wu(L:List N3)(h:x∈L):DM true (.cl<|e3 x) (.cl<|.lst<|L.map e3)=cB false:=by
 have z:∀y:N3,PySem.SeqAt.shaped (Ag<|e3 y)=true:=λy=>by simp[e3,Ag,E6,PySem.SeqAt.shaped,PySem.PyData.canLay0,PySem.PyData.canLayAll0,PySem.PyData.depth,PySem.PyData.depthAll]
 have sa:GY (L.map e3)=true:=by unfold GY;simp[z]
 show(if PySem.SeqAt.shaped (Ag<|e3 x)=true/\GY (L.map e3)=true then some (RV.cl (.bl (if true=true then !inD (L.map e3) (e3 x)else inD (L.map e3) (e3 x))))else none)=_;rw[AGo ⟨z _,sa⟩];have:inD (L.map e3) (e3 x)=true:=by unfold inD;rw[AId,AJv];exact⟨x,h,by simp[e3,Ag,E6,PySem.PyData.eqv,PySem.PyData.eqvAll]⟩
 rw[this]
 rfl
theorem zE(D:List Nat)(h:u∈D):DM true (.cl<|.int<|u) (.cl<|.lst (D.map λv:Nat=>PV.int<|v))=cB false:=by
 have e:=XC D u;rw[AHM h]at e;unfold DM at e ⊢;split at e
 .split at e
  .rename_i c;rw[AGo c];rw[AGp AGj]at e;injection e with e
   injection e with e
   injection e with e
   rw[e]
   rfl
  .cases e
 .cases e
theorem zD{u:Nat}(h:u=x.1\/u=x.2.1\/u=x.2.2):DM true (.cl<|.int<|u) (.cl<|e3 x)=cB false:=by
 have z:∀i j:Int,PySem.PyData.eqv (Ag<|.int i) (Ag<|.int j)=decide (i=j):=λi j=>by rw[AHo];simp[Ag,PySem.PyData.eqv]
 show(if PySem.SeqAt.shaped (Ag<|.int<|u)=true/\GY [.int<|x.1,.int<|x.2.1,.int<|x.2.2]=true then some (RV.cl (.bl (if true=true then !inD [.int<|x.1,.int<|x.2.1,.int<|x.2.2] (.int<|u)else inD [.int<|x.1,.int<|x.2.1,.int<|x.2.2] (.int<|u))))else none)=_;have:inD [.int<|x.1,.int<|x.2.1,.int<|x.2.2] (.int<|u)=true:=by unfold inD;rw[AHj,AHj,AHj,AJk,z,z,z,AIt];lia
 rw[this]
 rfl
theorem so:Bg (.cl<|.tup [.int 2,.As]) (.cl<|.tup [.int 2,.As])=cB true:=by
 have h:PySem.SeqAt.shaped (Ag<|.tup [.int 2,.As])=true:=by simp[Ag,E6,PySem.SeqAt.shaped,PySem.PyData.canLay0,PySem.PyData.canLayAll0,PySem.PyData.depth,PySem.PyData.depthAll]
 exact(AGo ⟨h,h⟩).trans (AHa (λb=>some<|RV.cl<|PV.bl b)<|by simp[RV.any,Ag,E6,PySem.PyData.eqv,PySem.PyData.eqvAll])
theorem lq(x:PySem.Str)(h:x = "on"\/x = "in"\/x = "out"):Bg (.cl<|.str x) (.cl<|.str "out")=cB (decide (x = "out")):=by
 have k:∀(a:PySem.Str),PySem.SeqAt.shaped (Ag<|.str a)=true->PySem.SeqAt.shaped (Ag<|.str "out")=true->Bg (.cl<|.str a) (.cl<|.str "out")=cB (decide (a = "out")):=λa ha z=>by refine(AGo ⟨ha,z⟩).trans (AHa (λb=>some<|RV.cl<|PV.bl b) ?_);show PySem.PyData.eqv (Ag<|.str a) (Ag<|.str "out")=_;unfold Ag;rw[AHo];simp[PySem.PyData.eqv]
 rcases h with rfl|rfl|rfl<;>exact k _ AGk AGk
theorem X5(h3:3<=r.length)(p:Pt):(GW r p = "on"\/GW r p = "in"\/GW r p = "out")/\(GW r p≠"out"↔(Hb r p\/AI.W r p≠0)):=by
 unfold GW;rw[AI.Yw];have on:((List.range r.length).any λk:Nat=>Ab (AA r<|(k)-1) (AA r k) p)=true↔Hb r p:=by
  have:=AI.Uz (Bn h3) λa b=>Ab a b p;constructor
  .intro e;refine AHn λc=>?_;have:=this.mpr λj=>AIg.mpr λz=>c ⟨j,AI.JX.mp<|AI.EL.mp z⟩;rw[e]at this;cases this
  .rintro⟨k,y⟩;refine Bool.not_eq_false _ |>.mp λe=>?_
   have:=this.mp e k;rw[AI.EL.mpr<|AI.JX.mpr y]at this;cases this
 by_cases c:Hb r p
 .rw[AGo<|on.mpr c];exact⟨.inl rfl,λ_=>.inl c,λ_=>AGj⟩
 .rw[AGp λz=>c<|on.mp z];by_cases w:AI.W r p=0
  .rw[AGp<|by simp[w]];exact⟨.inr<|.inr rfl,λz=>absurd rfl z,λz=>z.elim (λz=>absurd z c) λz=>absurd w z⟩
  .rw[AGo<|by simp[w]];exact⟨.inr<|.inl rfl,λ_=>.inr w,λ_=>AGj⟩
section
variable{r:List Pt}(h3:3<=r.length)(BK:r.length<=12)(hb:∀p∈r,Bd 1000 p)(L:List N3)(D:List Nat)(p:Pt)
include h3 BK hb
theorem ADe(ho:GW r p = "out")(P W:PV):Nl [.lst<|AN r,P,W,pv p,.tup [.int 2,.As]]=cB true:=by
 refine BY rfl ?_;have z:AU Vi (A7 10 [.lst<|AN r,P,W,pv p,.tup [.int 2,.As]])=some true:=by
  refine(Al<|AL (An rfl rfl<|ZL h3 BK hb p) rfl<|lq _ (X5 h3 p).1).trans ?_;rw[ho]
  rfl
 exact C7<|(Bc z).trans<|CI <|AL rfl (D7 rfl rfl) so
theorem ADd(ho:GW r p≠"out")(Z:x∈L)(Y:x.1<r.length)(Q:x.2.1<r.length)(l3:x.2.2<r.length)(hi:Jd r x p)(O:w=x.1\/w=x.2.1\/w=x.2.2)(P:w∈D):Nl [.lst<|AN r,.lst<|L.map e3,.lst (D.map λv:Nat=>PV.int<|v),pv p,.tup [.int (-1),.tup [e3 x,.int<|w]]]=cB true:=by
 obtain⟨i,j,k⟩:=x;refine BY rfl ?_;unfold aq;have R:AU Vi (A7 10 [.lst<|AN r,.lst<|L.map e3,.lst (D.map λv:Nat=>PV.int<|v),pv p,.tup [.int (-1),.tup [e3 (i,j,k),.int<|w]]])=some false:=by refine(Al<|AL (An rfl rfl<|ZL h3 BK hb p) rfl<|lq _ (X5 h3 p).1).trans ?_;rw[AHK ho]
 rw[sq<|(BC R).trans rfl];have q:∀ys:List<|Option SV,Jq (iL r::iM (.lst<|L.map e3)::iM (.lst (D.map λv:Nat=>PV.int<|v))::iM (pv p)::iM (.tup [.int (-1),.tup [e3 (i,j,k),.int<|w]])::iM (.tup [e3 (i,j,k),.int<|w])::ys)=some (.cl<|e3 (i,j,k)):=λ_=>rfl;have z:∀ys:List<|Option SV,K7 (iL r::iM (.lst<|L.map e3)::iM (.lst (D.map λv:Nat=>PV.int<|v))::iM (pv p)::iM (.tup [.int (-1),.tup [e3 (i,j,k),.int<|w]])::iM (.tup [e3 (i,j,k),.int<|w])::ys)=cI w:=λ_=>rfl;rw[sq (ρ':=iL r::iM (.lst<|L.map e3)::iM (.lst (D.map λv:Nat=>PV.int<|v))::iM (pv p)::iM (.tup [.int (-1),.tup [e3 (i,j,k),.int<|w]])::iM (.tup [e3 (i,j,k),.int<|w]) :: [none,none,none,none]) rfl];have t1:=Eb (a:=false) (Al<|AL (fa:=K6) (fb:=OM) (ρ:=iL r::iM (.lst<|L.map e3)::iM (.lst (D.map λv:Nat=>PV.int<|v))::iM (pv p)::iM (.tup [.int (-1),.tup [e3 (i,j,k),.int<|w]])::iM (.tup [e3 (i,j,k),.int<|w]) :: [none,none,none,none]) rfl rfl<|GQ (-1) (-1)) λ_=>Eb (D6 (a:=true)<|Al (f:=LG<|AG 5) rfl) λ_=>Eb (a:=false) (Al<|AL (fa:=RH) (fb:=fC<|.int 2) (x:=.cl<|.int 2) rfl rfl<|GQ 2 2) λ_=>Al<|AL (fb:=AG 1) (q _) rfl<|wu L Z;rw[sq<|(BC t1).trans rfl];have t2:=Eb (D6 <|Al (f:=LG Jq) (ρ:=iL r::iM (.lst<|L.map e3)::iM (.lst (D.map λv:Nat=>PV.int<|v))::iM (pv p)::iM (.tup [.int (-1),.tup [e3 (i,j,k),.int<|w]])::iM (.tup [e3 (i,j,k),.int<|w]) :: [none,none,none,none]) rfl) λ_=>D6 (a:=true)<|Al<|An (F:=Ub) (AJ (z _) AQ) rfl rfl;rw[sq<|(BC t2).trans rfl];have t3:=Eb (Al<|AL (z [none,none,none,none]) (q [none,none,none,none])<|zD O) λ_=>Al<|AL (fb:=AG 2) (z [none,none,none,none]) rfl<|zE D P;rw[sq<|(BC t3).trans rfl];have c:A5 (D9 Jq) 1 [0] (Aa 0) BP Jt (iL r::iM (.lst<|L.map e3)::iM (.lst (D.map λv:Nat=>PV.int<|v))::iM (pv p)::iM (.tup [.int (-1),.tup [e3 (i,j,k),.int<|w]])::iM (.tup [e3 (i,j,k),.int<|w]) :: [none,none,none,none])=some (.fr<|(([i,j,k]).filter λ_=>true).map λu=>pv<|pt r u):=
  B4 (xs:=([i,j,k]).map λu:Nat=>PV.int<|u) rfl AGh (DF λu y=>⟨_,rfl,rfl,λ_=>⟨_,AL rfl rfl (iZ r (by simp only[AGz,AH4,AI2]at y;rcases y with rfl|rfl|rfl<;>assumption)),rfl⟩⟩)
 have sd:∀{u v:Nat},u<r.length->DV [pv<|pt r u,pv<|pt r v,pv p]=cI (AE (pt r u) (pt r v) p):=λy=>Kr (Cz De hb _)<|Cz De hb _;rw[sq (by
  unfold Oa;rw[c]
  rfl)]
 rw[sq<|Aq (Fl (AJ (An (rs:=[.cl<|pv<|pt r i,.cl<|pv<|pt r j,.cl<|pv p]) rfl rfl<|sd Y)<|AJ (An rfl rfl<|sd Q)<|AJ (An rfl rfl<|sd l3) AQ) rfl) rfl];refine CI<|(AL (x:=.cl<|.int<|CG (AE (pt r i) (pt r j) p) [AE (pt r j) (pt r k) p,AE (pt r k) (pt r i) p]) (BO (AJ rfl AQ) rfl) rfl<|xR _ _).trans ?_;obtain⟨a,b,c⟩:=hi;dsimp only at a b c;have:0<=CG (AE (pt r i) (pt r j) p) [AE (pt r j) (pt r k) p,AE (pt r k) (pt r i) p]:=by unfold CG CG CG;split<;>split<;>lia
 rw[AHM this]
end
def lR(s:List Int)(r N:List Pt)(L:List N3)(D:List PV)(ys:List<|Option SV):AS:=iM (.rd<|Av s)::iL r::iL N::iM (.lst<|L.map e3)::iM (.lst D)::ys
set_option tactic.hygienic false
theorem n6(s:List Int):QQ [.rd<|Av s]=cB true:=by
 obtain⟨er,h3,BK⟩:=oN s 0 12 AGi AGi AGi;have Z:=sG s 0 (most:=12) AGi AGi;generalize drawn s 0 12=r at *
 obtain⟨_,_,t⟩:=HQ Z;obtain⟨S,eB,C,b,up⟩:=ng s Z;have hBl:=C.ln;have hBz:(S.map zz).length=S.length:=AGm _;have nd:=kB r.length<|S.map zz;have O:∀u v w,(u,v,w)∈EM r.length (S.map zz)↔BE.T3 r.length S u v w:=λu v w=>Sx;have D:=sD Z C b up nd O;have cw:=λ{u v w}=>mD Z b (u:=u) (v:=v) (w:=w);obtain⟨eP,lP⟩:=oC (r:=r) U;obtain⟨f,F,f1,Y,hd⟩:=C.sL;have eD:=nh Z C D Y hd F f1;have eK:=ny Z C D Y hd F f1;have eS:=oO Z C D cw Y hd F f1;have Q:=qh C cw nd O;have B:=nr (Sa f r.length) (by unfold Sa;rw[AGm];have:=iu Y r.length;lia);rw[<-xw]at B;have kl:=iu Y r.length;have lD:(B1 f r.length).length=(kq f r.length).length:=by unfold B1;rw[AGm]
 generalize EM r.length (S.map zz)=L at *
 generalize eN:S.map zz=N at *
 refine BY rfl ?_;unfold aS;rw[sq<|Aq (An (AJ rfl<|AJ rfl<|AJ rfl AQ) rfl er) rfl];rw[sq<|Aq (An rfl rfl eB) rfl];rw[sq<|Aq (An rfl rfl eP) rfl];have el:∀ρ:AS,AG 1 ρ=some (.cl<|.lst<|AN r)->Ir ρ=cI r.length:=λρ e=>BO (AJ e AQ) (by rw[EG,Bv]);rw[sq<|Aq (An (AJ (An rfl rfl eD)<|AJ (el _ rfl) AQ) rfl<|nj f U) rfl];rw[sq (ρ':=lR s r N L (B1 f r.length) [some<|.own<|B1 f r.length,none,none,none])<|(set_own<|An (AJ (BO (AJ rfl AQ) rfl)<|AJ (BO (AJ rfl AQ) rfl) AQ) rfl eK).trans rfl];have t1:Cb (CV<|AU<|LD Ly<|AH (AG 5) Iu) (AU dE) (lR s r N L (B1 f r.length) [some<|.own<|B1 f r.length,none,none,none])=some (false||decide ((r.length:Int)<3*((B1 f r.length).length))):=
  Eb (D6 (a:=true)<|Al<|tH rfl B) λ_=>Al<|AL (AL rfl (BO (AJ rfl AQ)<|EG _)<|Fz<|Ff U) (el _ rfl)<|Fy _ _
 rw[AHK (by rw[lD];lia)]at t1;rw[sq<|(BC t1).trans rfl];have H:=HE (enc:=e3) (gt:=Aa 6) (body:=cD) (c:=λ_=>false) (r:=.cl<|.bl false)
  (λρ=>∃y,ρ=lR s r N L (B1 f r.length) [some<|.own<|B1 f r.length,y,none,none]) (ρ:=lR s r N L (B1 f r.length) [some<|.own<|B1 f r.length,none,none,none]) ⟨_,rfl⟩ (by
  rintro⟨i,j,k⟩ hx ρ ⟨y,rfl⟩;obtain⟨t1,t2,t3,G,T,E⟩:=(O i j k).mp hx;obtain⟨w,_,_,e⟩:=XO Y (JS t1 t2 t3) (Br t2 t3) t3 (hd i j t1 (Br t2 t3) G) (hd j k t2 t3 T)<|hd i k (Br t1 t2) t3 E;refine⟨_,rfl,λh=>(nomatch h),λ_=>⟨_,(BC (?_)).trans rfl,_,rfl⟩⟩;have c:dS (lR s r N L (B1 f r.length) [some<|.own<|B1 f r.length,iM<|e3 (i,j,k),none,none])=some (.fr (([i,j,k].filter λu=>decide (u∈kq f r.length)).map λu:Nat=>PV.int<|u)):=
   B4 (xs:=[i,j,k].map λu:Nat=>PV.int<|u) rfl AGh (DF λu _=>⟨_,rfl,Al<|AL rfl rfl<|XC _ u,λ_=>⟨_,rfl,rfl⟩⟩)
  rw[e]at c;exact Al<|AL (x:=.cl<|.int 1) (BO (AJ c AQ) rfl) rfl<|GQ 1 1)
 obtain⟨ρ',e,y,rfl⟩:=H.2 AGh;rw[sq<|(Bu<|RS rfl rfl).trans e];rw[sq (ρ':=lR s r N L (B1 f r.length) [some<|.own [],y,none,none]) rfl];have t2:CV (AU dc) (lR s r N L (B1 f r.length) [some<|.own [],y,none,none])=some false:=
  D6 (Al<|An (AJ (An rfl rfl eK)<|AJ rfl AQ) rfl B)
 rw[sq<|(BC t2).trans rfl];have H2:=HE (gt:=Aa 7) (body:=VT) (c:=λ_=>false) (r:=.cl<|.bl false)
  (λρ=>∃I n,ρ=lR s r N L (B1 f r.length) [some<|.own [],y,I,n]) (xs:=List.range 5) (ρ:=lR s r N L (B1 f r.length) [some<|.own [],y,none,none]) ⟨_,_,rfl⟩ (by
  rintro k hk ρ ⟨I,n,rfl⟩;obtain⟨p,ep⟩:=oD (k:=40+3*(k)) U (Bn h3) U;refine⟨_,rfl,λh=>(nomatch h),λ_=>⟨lR s r N L (B1 f r.length) [some<|.own [],y,iI k,iM<|pv p],?_,_,_,rfl⟩⟩
  delta VT
  rw[sq (ρ':=lR s r N L (B1 f r.length) [some<|.own [],y,iI k,iM<|pv p])<|(Aq (An (AJ rfl<|AJ (AL rfl (AL rfl rfl<|Fz<|Ff U)<|Fv _ _)<|AJ rfl AQ) rfl ep) rfl).trans rfl];obtain⟨_,po⟩:=X5 h3 p;have R:∃q:PV,Nk [.lst<|AN r,.lst<|AN N,pv p]=some (.cl q)/\Nl [.lst<|AN r,.lst<|L.map e3,.lst<|B1 f r.length,pv p,q]=cB true:=by
   rcases eS p with⟨⟨i,j,k⟩,m,P,es⟩|⟨no,es⟩
   .obtain⟨t1,t2,t3,G,T,E⟩:=(O i j k).mp m;obtain⟨k1,k2,_⟩:=ZI Y (JS t1 t2 t3) (Br t2 t3) t3 (hd i j t1 (Br t2 t3) G) (hd j k t2 t3 T)<|hd i k (Br t1 t2) t3 E;exact⟨_,yY es,ADd h3 U t L (kq f r.length) p (po.mpr<|(Q p).mp ⟨_,m,P⟩) m (by exact JS t1 t2 t3) (by exact Br t2 t3) t3 P k1 k2⟩
   .exact⟨_,yX es,ADe h3 U t p (AHn λz=>by obtain⟨x,m,P⟩:=(Q p).mpr<|po.mp z;exact no x m P) _ _⟩
  obtain⟨q,em,eR⟩:=R;refine(BC<|D6 <|Al<|An (AJ rfl<|AJ rfl<|AJ rfl<|AJ rfl<|AJ (An (AJ rfl<|AJ (BO (AJ rfl AQ) rfl)<|AJ rfl AQ) rfl em) AQ) rfl eR).trans rfl)
 obtain⟨ρ',e2,I,n,rfl⟩:=H2.2 AGh;refine(sq<|(Bu<|CW rfl AGi).trans e2).trans ?_
 rfl
end L2.EV
set_option tactic.hygienic true
namespace L2.K
open PySem L2.PL
theorem oU(ns:List Int)(_:ns.length<=63):QQ [.rd<|ns.map PV.int]=some (.cl<|.bl true):=L2.EV.n6 ns
open PySem PySem.Spec PyProof.Rows L2.PL
set_option maxHeartbeats 0
seal AU f2 DX D8 fB fC AW LD Dl Fm A5 AH LF V0 JA FF JB LG B5 D9 OT JC OU LH B9 RY AO Gr LI CV Ex Cb GJ Gs CQ DL GK BP A6 AG Oa MT J3 Bo Au MU DY Ob Rh A8 JE LL Aw Ri Od AM Rj Ac WD Ed MV Aa Rk Hj Oe yL Y7 En Kl Hy Ay Fx KJ Ef PD SK KL Cd Bg Mi SM CS BZ DM SN Mj SO Am CY Ds Ml CA GP Mn IA JM BV DN CN Mo Mp BI Lb SW dR BD IV QW PX DW IY Cy CC EU Gi Kv IX L5 L6
noncomputable def top (i : Nat) : Stmt := PySem.Challenge.pw_threewards_k10_whole_all_in_view.main.body.getD i (.Pass ⟨0,0,0,0⟩)
def Nf:List Prop->Prop
 |[]=>True
 |p::l=>p/\Nf l
theorem Y9:∀{L:List Prop}{k:Nat}{p:Prop},Nf L->L[k]? = some p->p
 |[],_,_,_,e=>by simp at e
 |_::_,0,_,h,e=>by cases e;exact h.1
 |_::_,_+1,_,h,e=>Y9 h.2 e
theorem sH{L:List Prop}(h:L[k]? = some p)(x:p)(f:p->Nf (L.drop<|k+1)):Nf<|L.drop k:=by obtain⟨z,e⟩:=AGs.mp h;rw[AIb z,e];exact⟨x,f x⟩
def OD(K:W.Frag):List (Str×Nat)->Prop
 |[]=>True
 |(x,i)::l=>dR K x (top i)/\OD K l
theorem dcs{K:W.Frag}(h:dR K x<|top i)(t:OD K l):OD K ((x,i)::l):=⟨h,t⟩
theorem dnl{K:W.Frag}:OD K []:=trivial
theorem CT{st:Stmt}(_:FS N ps st)(h1:X.env.scope=BX st)(z:X.N=N)(h:(OA (BX st).names N scope Nb own cap&&(Nb.take own).all λx=>scope.names.lookup x==some .local||scope.names.lookup x==some .cell)=true):GD X scope Nb own cap:=Zv (by rw[h1,z];exact(Bool.and_eq_true_iff.mp h).1)
theorem qI{st:Stmt}(_:FS N ps st)(ho:z.env.scope=BX st)(h:OA (lC q<|BX st) y scope Nb own cap=true):GD (CF z y q C s H fp AD) scope Nb own cap:=qG h ho
theorem ADt:FS ["script","room","lines","parts_v","due","found","part","k","point"] ["script"]<|top 74:=NR AGk ⟨[_],rfl,rfl⟩
theorem tx:∀ps r,Ly ps=some r->r.flat=true:=tZ<|fS (fN (V3<|V1 rfl) fQ)<|fS (tw<|fN (V3<|V1 rfl) fQ)<|V3<|V1 rfl
def Ti(K:W.Frag):Sp:=λvs H Q _=>∃(a:Addr)(ns:List Int),vs=[.ref a]/\CO K H a (ns.map V.int)/\ns.length<=63/\∀H',Q (.bl true) H'
set_option tactic.hygienic false
theorem P0{K:W.Frag}:∀ns:List Int,AY K H (ns.map PV.int) (ns.map V.int)
 |[]=>by simp[AY]
 |n::ns=>by rw[AGv,AGv,AY];exact⟨_,_,rfl,by simp[Rep],P0 ns⟩
theorem mY{K:W.Frag}(ns:List Int)(h:∃(o:Obj)(its:Array Value)(n:Nat),K.lookup a=some o/\o.cls=.type "tuple"/\o.data=.seq its n/\its.size<=sizeLine/\Ar (ns.map V.int) its.toList):Rep K G (.tup<|ns.map PV.int)<|.ref a:=by unfold Rep;exact⟨a,ns.map V.int,rfl,.inr h,P0 ns⟩
theorem AEB{K:W.Frag}(h:Ti K vs H Q E):NT K 1 QQ vs H Q E:=by
 obtain⟨a,ns,rfl,z,y,k⟩:=h;refine⟨rfl,H,[.rd<|ns.map PV.int],.cl<|.bl true,Ah.refl _,?_,oU ns y,λv G' H' _ r=>?_⟩
 .unfold AY;refine⟨_,_,rfl,?_,by unfold AY;rfl⟩;unfold Rep;exact⟨a,_,rfl,z,P0 ns⟩
 .rw[r.bl];exact k H'
def eR(K:W.Frag)(x:Str)(C:Addr):Prop:=W.nsIn K mainGlobals x=some (some<|.ref C)/\W.excIn K C [.type "ValueError",.type "Exception",.type "BaseException",.type "object"] "ValueError.__new__" = true
def oZ(l:W.OpenLaw)(w:World)(K:W.Frag)(mg:Str->Option Value)(base:Heap)(fa:Addr)(fd:FuncData):List Prop:=[FS ["script","k","base"] ["script","k"]<|top 48,BD l.prog w K mg base "_law_cell" 1 2 E8,FS ["one","two","point","across","up"] ["one","two","point"]<|top 51,BD l.prog w K mg base "_law_side" 1 3 DV,FS ["room","k"] ["room"]<|top 52,BD l.prog w K mg base "_law_flat" 2 1 QR,FS ["script","k","count","mode","x","low","high","j","cell","y","room"] ["script","k","count"]<|top 53,BD l.prog w K mg base "_law_plain_room" 3 3 UX,FS ["script","k","xs","ys","j","cell","plan"] ["script","k"]<|top 54,BD l.prog w K mg base "_law_winding" 2 2 Uc,FS ["room","total","k","one","two"] ["room"]<|top 59,BD l.prog w K mg base "_law_area" 1 1 UO,FS ["one","two","point","low","high"] ["one","two","point"]<|top 57,BD l.prog w K mg base "_law_on" 2 3 Kq,FS ["one","two","three","four","some","a","b","point","first"] ["one","two","three","four"]<|top 58,BD l.prog w K mg base "_law_meet" 3 4 QS,FS ["room","count","k","j"] ["room"]<|top 60,BD l.prog w K mg base "_law_good" 4 1 UR,FS ["script","k","room","j","cell","at","x","y","tried"] ["script","k","room"]<|top 55,BD l.prog w K mg base "_law_pushed" 5 3 UZ,FS ["script","k","most","cell","room","slant","turn_v","first","x","y"] ["script","k","most"]<|top 56,BD l.prog w K mg base "_law_room" 6 3 Ua,FS ["room","one","other","count","here","there","k","later","left","right"] ["room","one","other"]<|top 61,BD l.prog w K mg base "_law_line" 4 3 UT,FS ["room","count","joined","other","one"] ["room"]<|top 65,BD l.prog w K mg base "_law_joined" 5 1 US,FS ["script","k","room","joined","lines","todo","one","other","some","at"] ["script","k","room"]<|top 66,BD l.prog w K mg base "_law_drawn_cut" 6 3 UP,FS ["room","lines","count","found","one","two","three","sides"] ["room","lines"]<|top 67,BD l.prog w K mg base "_law_parts" 1 2 UU,FS ["corners"] ["corners"]<|top 21,BD l.prog w K mg base "all_near" 1 1 QK,FS ["one","other","third"] ["one","other","third"]<|top 8,BD l.prog w K mg base "turn" 1 3 IT,FS ["corners"] ["corners"]<|top 22,BD l.prog w K mg base "all_bend" 2 1 UG,FS ["corners"] ["corners"]<|top 24,BD l.prog w K mg base "walls_of" 1 1 L4,FS ["count","one","other"] ["count","one","other"]<|top 23,BD l.prog w K mg base "are_neighbours" 1 3 Lx,FS ["way","other","start_side","end_side"] ["way","other"]<|top 10,BD l.prog w K mg base "parts" 2 2 Nn,FS ["point","way","start","end","in_width","in_height"] ["point","way"]<|top 9,BD l.prog w K mg base "lies_on" 2 2 HX,FS ["way","other","touches_way","touches_other"] ["way","other"]<|top 11,BD l.prog w K mg base "meet" 3 2 Lz,FS ["corners","walls","k","m"] ["corners"]<|top 25,BD l.prog w K mg base "walls_keep_apart" 4 1 Uj,FS ["corners"] ["corners"]<|top 26,BD l.prog w K mg base "doubled_area" 2 1 UK,FS ["room"] ["room"]<|top 18,BD l.prog w K mg base "is_room" 5 1 UM,FS ["room"] ["room"]<|top 20,BD l.prog w K mg base "check_room" 6 1 UI,FS ["lines"] ["lines"]<|top 32,BD l.prog w K mg base "rises" 1 1 Uh,FS ["way","point","start_above","end_above","side"] ["way","point"]<|top 12,BD l.prog w K mg base "passes_right_of" 2 2 QT,FS ["walls","point","passed"] ["walls","point"]<|top 27,BD l.prog w K mg base "place_within" 3 2 QU,FS ["corners","way","doubled","middle"] ["corners","way"]<|top 28,BD l.prog w K mg base "middle_is_inside" 4 2 Ud,FS ["room","one","other","way","far_walls"] ["room","one","other"]<|top 19,BD l.prog w K mg base "has_line" 5 3 QM,FS ["one","other"] ["one","other"]<|top 33,BD l.prog w K mg base "cross" 1 2 QL,FS ["line","lines"] ["line","lines"]<|top 34,BD l.prog w K mg base "crosses_none" 2 2 UJ,FS ["room","lines"] ["room","lines"]<|top 31,BD l.prog w K mg base "cuts_up" 6 2 Kp,FS ["room","lines"] ["room","lines"]<|top 30,BD l.prog w K mg base "check_cut" 7 2 UH,FS ["count","lines","one","other"] ["count","lines","one","other"]<|top 35,BD l.prog w K mg base "are_joined" 2 4 Ni,FS ["count","lines","side","near"] ["count","lines","side"]<|top 36,BD l.prog w K mg base "tips_of" 3 3 Ui,FS ["count","lines","told","one","other","tips"] ["count","lines"]<|top 37,BD l.prog w K mg base "triangles_of" 4 2 Np,FS ["count","found","told","triangle","bare","used"] ["count","found"]<|top 43,BD l.prog w K mg base "dyes_of" 1 2 Nj,FS ["room","lines"] ["room","lines"]<|top 40,BD l.prog w K mg base "dyes" 8 2 UL,FS ["told","count","tally","dye"] ["told","count"]<|top 71,BD l.prog w K mg base "_law_fewest" 1 2 UQ,FS ["dyed","counts","rarest"] ["dyed"]<|top 44,BD l.prog w K mg base "keepers_of" 1 1 QP,FS ["room","lines"] ["room","lines"]<|top 41,BD l.prog w K mg base "keepers" 8 2 QO,FS ["found","due","k"] ["found","due"]<|top 50,BD l.prog w K mg base "_law_ints" 1 2 Ly,FS ["script","k","room","cell","one","two","mode","low","high","x"] ["script","k","room"]<|top 69,BD l.prog w K mg base "_law_point" 2 3 UY,FS ["room","triangle","point"] ["room","triangle","point"]<|top 46,BD l.prog w K mg base "reaches" 4 3 QV,FS ["triangle","standing"] ["triangle","standing"]<|top 45,BD l.prog w K mg base "keeper_of" 1 2 QN,FS ["room","lines","point","found","standing","triangle"] ["room","lines","point"]<|top 42,IV l.prog w K mg base "seen" 8 3 L1 Qg,FS ["e","told"] ["e"]<|top 70,QW l.prog w K mg base "_law_which" 1 UE,FS ["room","lines","point","which","found","e"] ["room","lines","point"]<|top 72,IV l.prog w K mg base "_law_met" 9 3 Nk oi,FS ["room","point","turns","k","one","two"] ["room","point"]<|top 68,BD l.prog w K mg base "_law_place" 3 2 UW,FS ["found"] ["found"]<|top 49,BD l.prog w K mg base "_law_whole" 1 1 Ub,FS ["room","parts_v","watch","point","told","found","one","two","three","low"] ["room","parts_v","watch","point","told"]<|top 73,BD l.prog w K mg base "_law_right" 4 5 Nl,FS ["script","room","lines","parts_v","due","found","part","k","point"] ["script"]<|top 74,Cv l.prog w K mg base ER 10 fa fd ["script"]<|NT K 1 QQ]
theorem all_mk{l:W.OpenLaw}{w:World}{K:W.Frag}{h:Heap}{mg:Str->Option Value}{fa:Addr}(X:K.In h)(G:h.Ns mainGlobals mg)(vI:mg "law" = some (.ref fa)) {n:Tok} {b x:Tok} {j7:Addr} {Xm:Obj} {yw:Nat} {AEy:Tok} {AEz:Tok} {AEu AEv AEw:Tok} {j6:Addr} {Xl:Obj} {yv:Nat} {q:Addr} {O:Addr} {P:Addr} {R:Addr} {B:Addr} {S:Addr} (D:OD K (("_law_cell",48)::("_law_side",51)::("_law_flat",52)::("_law_plain_room",53)::("_law_winding",54)::("_law_area",59)::("_law_on",57)::("_law_meet",58)::("_law_good",60)::("_law_pushed",55)::("_law_room",56)::("_law_line",61)::("_law_joined",65)::("_law_drawn_cut",66)::("_law_parts",67)::("all_near",21)::("turn",8)::("all_bend",22)::("walls_of",24)::("are_neighbours",23)::("parts",10)::("lies_on",9)::("meet",11)::("walls_keep_apart",25)::("doubled_area",26)::("is_room",18)::("check_room",20)::("rises",32)::("passes_right_of",12)::("place_within",27)::("middle_is_inside",28)::("has_line",19)::("cross",33)::("crosses_none",34)::("cuts_up",31)::("check_cut",30)::("are_joined",35)::("tips_of",36)::("triangles_of",37)::("dyes_of",43)::("dyes",40)::("_law_fewest",71)::("keepers_of",44)::("keepers",41)::("_law_ints",50)::("_law_point",69)::("reaches",46)::("keeper_of",45)::("seen",42)::("_law_which",70)::("_law_met",72)::("_law_place",68)::("_law_whole",49)::("_law_right",73)::("law",74) :: [])) (zs:bR K ["len","range","min","max","abs","set","sorted","all","sum","any","isinstance","list","int","bool","ValueError","tuple"]) (AFl:W.nsIn K mainGlobals "FARTHEST" = some (some<|.int 100 n)) (AFo:W.nsIn K mainGlobals "ORIGIN" = some (some<|.ref j7)) (AFi:K.lookup j7=some Xm) (AFU:Xm.cls=.type "tuple") (AFO:Xm.data=.seq #[.int 0 b,.int 0 x] yw) (AFm:W.nsIn K mainGlobals "FEWEST_CORNERS" = some (some<|.int 3 AEy)) (AFn:W.nsIn K mainGlobals "MOST_CORNERS" = some (some<|.int 12 AEz)) (AFk:W.nsIn K mainGlobals "ALL_DYES" = some (some<|.ref j6)) (AFh:K.lookup j6=some Xl) (AFT:Xl.cls=.type "tuple") (AFN:Xl.data=.seq #[.int 0 AEu,.int 1 AEv,.int 2 AEw] yv) (ADT:eR K "NoPoint" q) (ADU:eR K "NoRoom" O) (ADS:eR K "NoCut" P) (ADV:eR K "NoTurn" R) (ADW:eR K "TooMany" B) (ADX:eR K "WardError" S) (uP:W.findIn K (.ref q) "__getattribute__" = some (some<|.builtin "BaseException.__getattribute__")) (uX:W.findIn K (.ref q) "__getattr__" = some none) (qN:W.findIn K (.ref q) "__class__" = some (some<|.builtin "object.__class__")) (AEC:W.specialIn K (.builtin "object.__class__") "__get__" = some (some<|.builtin "getset_descriptor.__get__")) (AE2:W.takesIn K (.builtin "object.__class__")=some true) (yi:W.mroIn K q (.type "object")=some true) (yQ:W.mroIn K q (.type "BaseException")=some true) (vD:W.hasDictIn K q=true) (zG:(Value.ref q==Value.ref O)=false) (ADo:W.subIn K (.ref q) (.ref O)=some false) (zF:(Value.ref q==Value.ref P)=false) (ADn:W.subIn K (.ref q) (.ref P)=some false) (zH:(Value.ref q==Value.ref R)=false) (ADp:W.subIn K (.ref q) (.ref R)=some false) (zI:(Value.ref q==Value.ref B)=false) (ADq:W.subIn K (.ref q) (.ref B)=some false) (ADr:W.subIn K (.ref q) (.type "ValueError")=some true) (ADs:W.subIn K (.ref S) (.type "BaseException")=some true) (AED:W.subIn K (.ref q) (.ref S)=some true) : ∃fd:FuncData,(∀(s:Shared)(v:Value),BindsTo s fd ⟨[v],[]⟩ [("script",v)])/\∀base:Heap,K.In base->base.Ns mainGlobals mg->Cv l.prog w K mg base ER 10 fa fd ["script"] (Ti K):=by
 have AGG:∃t,mg "FARTHEST" = some (.int 100 t):=⟨_,W.mg_of X G AFl⟩;have AGJ:∃a,mg "ORIGIN" = some (.ref a)/\∀G,Rep K G (.tup [(.int 0),(.int 0)])<|.ref a:=⟨_,W.mg_of X G AFo,λG=>mY [0,0] ⟨_,_,_,AFi,AFU,AFO,(by show 2<=sizeLine;decide),(.cons ⟨_,rfl⟩<|.cons ⟨_,rfl⟩ .nil)⟩⟩;have AGH:∃t,mg "FEWEST_CORNERS" = some (.int 3 t):=⟨_,W.mg_of X G AFm⟩;have AGI:∃t,mg "MOST_CORNERS" = some (.int 12 t):=⟨_,W.mg_of X G AFn⟩;have AGF:∃a,mg "ALL_DYES" = some (.ref a)/\∀G,Rep K G (.tup [(.int 0),(.int 1),(.int 2)])<|.ref a:=⟨_,W.mg_of X G AFk,λG=>mY [0,1,2] ⟨_,_,_,AFh,AFT,AFN,(by show 3<=sizeLine;decide),(.cons ⟨_,rfl⟩<|.cons ⟨_,rfl⟩<|.cons ⟨_,rfl⟩ .nil)⟩⟩;obtain⟨AF3,AF7,AF6,AF5,AFx,AF8,AF9,AFy,AGA,AFz,AF2,AF4,AF1,AF0,AFw,AGB,_⟩:=Zj X G zs;obtain⟨u,ADH⟩:=ADT;have yO:=W.mg_of X G u;obtain⟨sW,ADI⟩:=ADU;have AGS:=W.mg_of X G sW;obtain⟨sT,ADG⟩:=ADS;have AGR:=W.mg_of X G sT;obtain⟨sX,ADJ⟩:=ADV;have AGT:=W.mg_of X G sX;obtain⟨sY,ADK⟩:=ADW;have AGU:=W.mg_of X G sY;obtain⟨sZ,ADL⟩:=ADX;have AGV:=W.mg_of X G sZ;have p:Nh K q:=⟨uP,uX,qN,AEC,AE2,yi,yQ,vD⟩;have AFs:Je K ["NoPoint"] "NoRoom"<|.ref O:=Mf u p (SY zG ADI ADo) rfl;have AFq:Je K ["NoPoint"] "NoCut"<|.ref P:=Mf u p (SY zF ADG ADn) rfl;have AFr:Je K ["NoPoint"] "NoPoint"<|.ref q:=Mf u p xp rfl;have AFt:Je K ["NoPoint"] "NoTurn"<|.ref R:=Mf u p (SY zH ADJ ADp) rfl;have AFu:Je K ["NoPoint"] "TooMany"<|.ref B:=Mf u p (SY zI ADK ADq) rfl;have AFv:Je K ["NoPoint"] "ValueError"<|.type "ValueError":=Mf u p (xo AGk ADr) rfl;have AGc:∀(nm:Str) C,List.contains (["NoPoint"]:List Str) nm=true->DU K nm C->W.exmOne K (.ref C) (.ref S)=some true:=λnm C hL hC=>by obtain rfl:=VM hL;obtain rfl:=DU.inj hC u;exact tO ADL ADs AED
 have AGe:∀(nm:Str),List.contains (["NoPoint"]:List Str) nm=true->∃C,DU K nm C:=λnm hL=>by obtain rfl:=VM hL;exact⟨_,u⟩
 obtain⟨d0,d1,d2,d3,d4,d5,d6,d7,d8,d9,d10,d11,d12,d13,d14,d15,d16,d17,d18,d19,d20,d21,d22,d23,d24,d25,d26,d27,d28,d29,d30,d31,d32,d33,d34,d35,d36,d37,d38,d39,d40,d41,d42,d43,d44,d45,d46,d47,d48,d49,d50,d51,d52,d53,qw,_⟩:=D;obtain⟨f,fd,F,hm⟩:=Rb X G qw;have e:=vI.symm.trans hm;cases e;refine⟨fd,λs v=>E9.bt F ADt s [v] rfl,λbase KB _=>?_⟩;have H:Nf<|(oZ l w K mg base fa fd).drop 0:=by
  have AGY:∃C,DU K "NoPoint" C/\OwnCls "NoPoint" C [.type "ValueError",.type "Exception",.type "BaseException",.type "object"] "ValueError.__new__" mg base:=⟨_,u,AAL KB yO ADH⟩
  iterate 110
   refine sH rfl ?_ λsc=>?_
   .first
     |exact NR AGk ⟨[_],rfl,rfl⟩|exact NR AGk ⟨[_,_],rfl,rfl⟩|exact NR AGk ⟨[_,_,_],rfl,rfl⟩|exact NR AGk ⟨[_,_,_,_],rfl,rfl⟩|exact NR AGk ⟨[_,_,_,_,_],rfl,rfl⟩
     |refine gG (Rb X G AGl) sc λZ Y W3 I hc=>?_
     |refine gY (Rb X G AGl) sc λZ Y W3 I hc=>?_
     |refine gW (Rb X G AGl) sc λZ Y hc=>?_
     |refine gL F sc λZ Y W3 I hc=>?_
    repeat' first|(show _=_;first|exact rfl|exact jm _|exact XU|exact ln2|exact XW|exact Sf|exact ML Sf|assumption|decide|with_unfolding_all rfl)|(show _\/_;first|exact Or.inl rfl|exact Or.inr rfl|exact Or.inr<|Or.inl rfl)|(show PX _ _ _;first|apply ACK|apply ABx|apply AB2|apply ABh (Fn.of (by first|assumption|exact IV.toG AGl) Z)|apply ACI|apply ABe|apply AB5|apply ACJ|apply AB8|apply ABg|apply ABl|apply AB7|apply ABm|apply ABq|apply AB9|apply ABf|apply ACE|apply ACD|apply ABj|apply ABk|apply ACF|apply ACG|apply ABu|apply ACH|apply ACA|apply ACC|apply AB6|apply ABs|apply ABt|apply ABy|apply AB0|apply AB1|apply ABp|apply ABn|apply ABv|apply ABr|apply AB3|apply ABo|apply ABw|apply ABz|apply ACB|apply AB4|apply HN (p9 hc) AAB AGl Zp|apply HN (p7 hc) z9 AGl Zo|apply HN pV zt AGl pH|apply HN qD AAD AGl pO|apply HN (pW hc) zu AGl pI|apply HN (qE hc) AAE AGl Zq|apply HN (pX hc) zv AGl pL|apply HN (qF hc) AAF AGl Zq|apply HN (qA hc) AAC AGl Zp|apply HN (p8 hc) AAA AGl Zo|apply kf pY zw AGl Zm|apply kf pz zy AGl Zn|apply ABi (Fn.of (by first|assumption|exact IV.toG AGl) Z) tx|exact ke (L:=["NoPoint"]) (y:=.ref _) _ AGl (λ_ z=>z) (AAV AGl) AGl|exact ke (L:=["NoPoint"]) (y:=.ty "ValueError") _ AGl (λ_ z=>z) (AAS (T:="ValueError") AGl AGk) AGl)|(show Cy _ _ _;first|apply pa1|apply j8|apply pa3|apply Pz|apply YA)|(show DW _ _ _;first|apply AC1|apply AC4|apply ACz|apply AC0|apply AC3|apply AC2|apply AC5|apply AC6)|(show CC _ _ _ _ _;first|apply ACs|apply ACo|apply ACr|apply ACh|apply ACg|apply ACv|apply ACZ|apply ACe|apply ACm|apply ACy|apply ACq|apply ACj|apply ACt|apply ACd|apply ACp|apply ACn|apply ACf|apply ACu|apply ACi|apply ACx|apply ACa|apply ACb)|(show EU _ _ _ _ _;first|apply ACc|apply ACl|apply ACk)|(show IY _ _ _;first|apply AC9|apply ADA|apply AC7|apply AC8)|(show Kw _ _ _ _ _ _;first|apply ADE|apply ADF|apply ADC|apply kg)|(show L7 _ _ _ _ _ _;first|apply ADD|apply ADB)|(show IX _ _ _ _ _;first|apply ACS|apply ACR|apply ACT|apply ACU)|(show L6 _ _ _;first|apply ACX|apply ACY)|(show L5 _ _ _;first|apply ACV|apply ACW)|(show Kv _ _ _;first|apply ACP|apply ACQ)|(show Gi _ _ _;first|apply ACL|apply ACN|apply ACO)|(show Nt _ _;first|apply uV|apply uW)|(show Ks _ _;first|apply uT|apply uU)|(show Cg _ _ _;first|exact qT|exact qX|exact qR Y|exact qW|exact qZ Y|exact qb I|exact qa|exact qU|exact qV I|exact qY W3|exact qS)|(show GD _ _ _ _ _;first|exact qI sc rfl (Nb:=["corner","k"]) AGk|exact CT sc rfl rfl (Nb:=["wall"]) AGk|exact CT sc rfl rfl (Nb:=["x","y"]) AGk|exact CT sc rfl rfl (Nb:=["corner"]) AGk|exact CT sc rfl rfl (Nb:=["k","room"]) AGk|exact CT sc rfl rfl (Nb:=["j","count"]) AGk|exact CT sc rfl rfl (Nb:=["k","lines"]) AGk|exact CT sc rfl rfl (Nb:=["wall","way"]) AGk|exact CT sc rfl rfl (Nb:=["dye","told"]) AGk|exact CT sc rfl rfl (Nb:=["dye","dyed"]) AGk|exact CT sc rfl rfl (Nb:=["k","corners"]) AGk|exact CT sc rfl rfl (Nb:=["line","room"]) AGk|exact CT sc rfl rfl (Nb:=["wall","point"]) AGk|exact CT sc rfl rfl (Nb:=["other","line"]) AGk|exact CT sc rfl rfl (Nb:=["corner","due"]) AGk|exact CT sc rfl rfl (Nb:=["corner","told"]) AGk|exact CT sc rfl rfl (Nb:=["corner","room"]) AGk|exact CT sc rfl rfl (Nb:=["x","y","slant"]) AGk|exact CT sc rfl rfl (Nb:=["a","b","x","y"]) AGk|exact CT sc rfl rfl (Nb:=["a","b","xs","ys"]) AGk|exact CT sc rfl rfl (Nb:=["corner","standing"]) AGk|exact CT sc rfl rfl (Nb:=["tip","other","one"]) AGk|exact CT sc rfl rfl (Nb:=["corner","dye","told"]) AGk|exact CT sc rfl rfl (Nb:=["pair","lines","count"]) AGk|exact CT sc rfl rfl (Nb:=["corner","rarest","dyed"]) AGk|exact CT sc rfl rfl (Nb:=["j","joined","one","other"]) AGk|exact CT sc rfl rfl (Nb:=["corner","count","lines","side"]) AGk)|(show List.Nodup _;first|exact sc.nd|decide|(dsimp only[CF];decide +kernel))|assumption|decide|exact XU|exact ln2|exact XW|exact Sf|exact ML Sf|exact jm _|exact PassesOwn.never|exact iJ|exact ADZ|exact PySem.F.excBase_ValueError|exact ADh Z|exact X3|(intro;first|rfl|skip)
  exact trivial
 exact(Y9 (k:=109) H rfl).imp λvs H Q E h=>AEB h
theorem walk{l:W.OpenLaw}{y:List Str}{p:(Str->Option Value)->Heap->Prop}{v:World->Heap->Prop}{d:DefRec}{K:Params->W.Frag}(hn:l.most=some 63)(Z:d.params.defaults=[]) (Y:∀(w:World)(h:Heap),v w h->(K w.params).In h) (F:∀(w:World)(mg:Str->Option Value)(fa:Addr)(h:Heap),(K w.params).In h->h.Ns mainGlobals mg->mg d.name=some (.ref fa)->
  ∃fd:FuncData,(∀(s:Shared)(u:Value),BindsTo s fd ⟨[u],[]⟩ [("script",u)])/\∀base:Heap,(K w.params).In base->base.Ns mainGlobals mg->Cv l.prog w (K w.params) mg base ER 10 fa fd ["script"] (Ti<|K w.params)) :
 W.WalkO q y p v l.row.toRowW d [] (λf vs=>PySem.call f vs):=
 L2.AFV (n:=63) (k:=10) (x:="script") (CX:=λ_=>ER) (sp:=λw=>Ti<|K w.params) hn AGj Z ⟨rfl,AGj,AGj⟩ Y F (λ_ _ a ns Q _ O=>⟨a,ns,rfl,O,Q,λ_=>rfl⟩) λ_ _ _ _ _ z=>z
end L2.K
end
end Internal
open Internal
namespace PySem.W.Fast
def N:=Nat
def tw11672022356468684988:=N
def tw9806728874982466071:=N
def tw2208497522035160466:=N
def tw7919395314880165837:=N
def tw8076499442731868536:=N
def tw17153034079842669669:=N
def tw8889015719964523680:=N
def tw8152357529969984566:=N
def tw945229633914705689:=N
def tw6067267072475738167:=N
def tw14318086989105654059:=N
def tw4645005017138020525:=N
def tw17238675712108972329:=N
def tw7438669069479844541:=N
def tw17564240702331578560:=N
def tw16530561245943186326:=N
def tw4196387989706807654:=N
def tw5441693799072516408:=N
def tw9353523677834309269:=N
def tw3738121042582500845:=N
def tw10886667973873360556:=N
def tw3028024208560360163:=N
def tw3551219988519749414:=N
def tw10956028340085734778:=N
def tw5996532763940875943:=N
def tw12811382164364067411:=N
def tw1444432590574446305:=N
def tw7908320454173815624:=N
def tw3358937967859539587:=N
def tw16624687015714339143:=N
def tw13442136970705631889:=N
def tw7555136582657158101:=N
def tw1971784982378050874:=N
def tw3466850468081016083:=N
def tw9378085630523654442:=N
def tw12572228167379025922:=N
def tw12135416963596387266:=N
def tw12795963713598696330:=N
def tw17752626803534349487:=N
def tw6552871942737488419:=N
def tw11355468702505069471:=N
def tw12724192662808034533:=N
def tw17345583140541836312:=N
def tw880738760848080182:=N
def tw4952768780451907321:=N
def tw9084458396319973155:=N
def tw11732080130060222955:=N
def tw786459578701980034:=N
def tw13329305242813686434:=N
def tw10410048679489925925:=N
def tw8771644477865994797:=N
def tw5730928352591707606:=N
def tw14617275115042135777:=N
def tw7363323744420779859:=N
def tw5627337738009639540:=N
def tw1516810681049974967:=N
def tw17686819068380837591:=N
def tw15454338748493599868:=N
def tw15752513482868683649:=N
def tw944454997465092942:=N
def tw1781261559988396371:=N
def tw16019406722351579452:=N
def tw13432368779243264441:=N
def tw8807949828492670906:=N
def tw9531151417121969875:=N
def tw2763399874263655306:=N
def tw4630506760157492575:=N
def tw8429961035205720953:=N
def tw5938766410356584859:=N
def tw7592301052705162262:=N
def tw16619957204872573527:=N
def tw11208607922531482712:=N
def tw17888428936966727719:=N
def tw1505483348096890891:=N
def tw8003542297980039190:=N
def tw135530149258733730:=N
def tw16295823012934454946:=N
def tw1161568152209707675:=N
def tw18380154818555332838:=N
def tw15332831761319754557:=N
def tw10573880168266752492:=N
def tw16922621883266800868:=N
def tw13753983871770778179:=N
def tw16802362848496071558:=N
def tw14582523489976508026:=N
def tw2710059924268553403:=N
def tw14144385154424968793:=N
def tw14876493111617836422:=N
def tw2089575125463237842:=N
def tw10088740600462799510:=N
def tw17862877063381184795:=N
def tw13591998730689640129:=N
def tw14623834299060500065:=N
def tw5872280333717714279:=N
def tw18024929542638806576:=N
def tw17218657243259586656:=N
def tw6322031747913003746:=N
def tw14831137926446846388:=N
def tw6021933208868923337:=N
def tw17376737027720290198:=N
def tw14511397590667876462:=N
def tw9218624881671484536:=N
def tw4031599409660356188:=N
def tw15162750785810618759:=N
def tw9632634237062183002:=N
def tw7785373101576761206:=N
def tw4680691867116572120:=N
def tw16453880479498129981:=N
def tw14037598674584506121:=N
def tw893082609974884994:=N
def tw13024831365093717954:=N
def tw8368993921311356714:=N
def tw14209405351796969244:=N
def tw11470013696850357548:=N
def tw18068976166392798627:=N
def tw10593548797433852164:=N
def tw8633051630638872904:=N
def tw3431377099704167755:=N
def tw5527008262105722796:=N
def tw6920239012850135:=N
def tw823423591599260084:=N
def tw4216744584589071772:=N
def tw7352963234021713404:=N
def tw8847145328880415171:=N
def tw12556048879006092149:=N
def tw11703046129079983491:=N
def tw10825374079023142173:=N
def tw7944226075410998574:=N
def tw6459321850321466267:=N
def tw7344252349128880604:=N
def tw5022786384999101967:=N
def tw6144762082699546535:=N
def tw13068297454558920803:=N
def tw4948455032937031760:=N
def tw5581184871546253507:=N
def tw9134714198237797527:=N
def tw2272106324162510620:=N
def tw11501077253749536258:=N
def tw5417077129006531403:=N
def tw11350530301569571422:=N
def tw11283537339290147304:=N
def tw15043416379445076392:=N
def tw10480194044163437976:=N
def tw13036545228463580081:=N
def tw15378484885061302212:=N
def tw11883363758472330147:=N
def tw15425231680467204431:=N
def tw11515168598720110586:=N
def tw13272253158541382861:=N
def tw17808999537600032558:=N
def tw1205251265350014451:=N
def tw7597873025044618522:=N
def tw5182726712271040235:=N
def tw12191713366985141633:=N
def tw7292795119383417831:=N
def tw15112475245112828539:=N
def tw1411052833698371849:=N
def tw16828453118574905519:=N
def tw7744296537202646044:=N
def tw709951008820875075:=N
def tw654369330558613724:=N
def tw16100942711417257987:=N
def tw11190976758775787815:=N
def tw17009402945979025692:=N
def tw7399138796530330145:=N
def tw8971250473492763566:=N
def tw9107973506279483550:=N
def tw726828406892174663:=N
def tw6568372616812080946:=N
def tw4382931184251903394:=N
def tw3658725123079155682:=N
def tw7367122000990695217:=N
def tw1786551680843075436:=N
def tw17818247809971228163:=N
def tw17106005909983567494:=N
def tw2597008597431577715:=N
def tw8475702321346080947:=N
def tw9274264231825923999:=N
def tw14894174157950842326:=N
def tw14558515041308873440:=N
def tw9924043713490800309:=N
def tw17571070744650419930:=N
def tw1006568896541762047:=N
def tw16215582057847696951:=N
def tw13505141058480643993:=N
def tw16615913492451800706:=N
def tw12386855135723656055:=N
def tw11535640790001378205:=N
def tw10679427869342664037:=N
def tw6613025677713915856:=N
def tw9638637476105526391:=N
def tw4871229962621755312:=N
def tw3330076949295215964:=N
def tw15220570278536612354:=N
def tw12657246775343535472:=N
def tw17434969008418477172:=N
def tw8818577024318032160:=N
def tw3317752743392233377:=N
def tw15460147156281908659:=N
def tw8894707439395545244:=N
end PySem.W.Fast
open PySem PySem.W PyProof.Rows
set_option maxHeartbeats 0 in
theorem PySem.Challenge.cw_threewards_k10_whole_all_in_view_holds : PySem.Challenge.rw_threewards_k10_whole_all_in_view.Holds := by
  w_on; o_law; k_head; (case hw => w_witness2)
  k_fill
  refine L2.K.walk (l := PySem.Challenge.rw_threewards_k10_whole_all_in_view) rfl rfl (fun w h Y => PySem.W.kIn_of Y) ?F
  case F =>
    intro w mg fa h KX G hmg
    refine' L2.K.all_mk KX G hmg ..
    all_goals try first | ((refine' L2.K.dcs (L2.PL.dmk ?a ?b ?c ?d) ?_; (case a => k_is); (case b => k_is); (case c => k_is); (case d => k_is)); (repeat (refine' L2.K.dcs (L2.PL.dmk ?a ?b ?c ?d) ?_; (case a => k_is); (case b => k_is); (case c => k_is); (case d => k_is))); exact L2.K.dnl) | k_is | (refine' L2.PL.dmk ?a ?b ?c ?d; (case a => k_is); (case b => k_is); (case c => k_is); (case d => k_is)) | (refine' ⟨?_, ?_⟩; k_is; k_exc) | exact rfl | (refine' ⟨?_, ?_⟩; k_is; refine' ⟨?_, ?_⟩; k_is; refine' ⟨?_, ?_⟩; k_is; refine' ⟨?_, ?_⟩; k_is; refine' ⟨?_, ?_⟩; k_is; refine' ⟨?_, ?_⟩; k_is; refine' ⟨?_, ?_⟩; k_is; refine' ⟨?_, ?_⟩; k_is; refine' ⟨?_, ?_⟩; k_is; refine' ⟨?_, ?_⟩; k_is; refine' ⟨?_, ?_⟩; k_is; refine' ⟨?_, ?_⟩; k_is; refine' ⟨?_, ?_⟩; k_is; refine' ⟨?_, ?_⟩; k_is; refine' ⟨?_, ?_⟩; k_is; refine' ⟨?_, ?_⟩; k_is; trivial)
