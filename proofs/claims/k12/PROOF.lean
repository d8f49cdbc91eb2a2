import PyProof.Rows.All
import Wide.All
import OpenK.AllK
import Wide.FinOn
import Lean
import PyProof.EqAt
import PyProof.EqKinds
import PyProof.TupleCall
import PyProof.CompFree
import PyProof.CompUse
import PySem.SetOps
import PyProof.SetScanFacts
import PyProof.TupleKey
import PyProof.SetKind
import PyProof.Rows.SetFrom
import PyProof.IsRules
import PyProof.P3Eq
import PyProof.NeKinds
import KE.KSortTup
import KE.KTupSum
import PySem.Challenge.RW_threewards_k12_whole_led_into_one_anothe
set_option Elab.async false
set_option linter.all false
set_option maxRecDepth 100000
set_option compiler.extract_closed false
set_option bootstrap.genMatcherCode false
namespace Internal
noncomputable section
theorem U{p:Prop}(h:p:=by first|with_reducible(first|assumption|exact Int.le_of_lt (by assumption)|exact Nat.le_of_lt (by assumption)|exact Int.ne_of_gt (by assumption)|exact Int.ne_of_lt (by assumption))|lia):p:=h
theorem AFm{p:Prop}(h:p:=by grind):p:=h
theorem AFn{p:Prop}(h:p:=by simp):p:=h
theorem AFo{p:Prop}(h:p:=by omega):p:=h
theorem AFp{p:Prop}(h:p:=by decide):p:=h
theorem AFq{p:Prop}(h:p:=by decide +kernel):p:=h
theorem AFr{p:Prop}(h:p:=by assumption):p:=h
def AFs:=@List.length_map
def AFt:=@Int.emod_eq_of_lt
def AFu:=@if_pos
def AFv:=@Int.le_of_lt
def AFw:=@Bool.and_eq_true
def AFx:=@List.getElem?_eq_some_iff
def AFy:=@Int.mul_nonneg
def AFz:=@List.mem_cons_of_mem
def AF0:=@if_neg
def AF1:=@List.mem_range
def AF2:=@decide_eq_true_eq
def AF3:=@List.mem_cons_self
def AF4:=@List.mem_cons
def AF5:=@Nat.le_refl
def AF6:=@List.map_cons
def AF7:=@Int.mul_le_mul_of_nonneg_left
def AF8:=@Int.mul_pos
def AF9:=@List.size_toArray
def AGA:=@List.length_append
def AGB:=@Int.mul_le_mul_of_nonneg_right
def AGC:=@List.length_cons
def AGD:=@List.mem_filter
def AGE:=@Nat.ne_of_lt
def AGF:=@List.getElem?_eq_getElem
def AGG:=@Int.add_zero
def AGH:=@List.mem_singleton
def AGI:=@Int.emod_lt_of_pos
def AGJ:=@Int.mul_eq_zero
def AGK:=@beq_eq_false_iff_ne
def AGL:=@Int.toNat_of_nonneg
def AGM:=@Nat.lt_of_lt_of_le
def AGN:=@List.getElem?_set_ne
def AGO:=@List.mem_append
def AGP:=@List.map_append
def AGQ:=@Int.emod_nonneg
def AGR:=@Int.mul_emod_right
def AGS:=@Option.bind_some
def AGT:=@Option.some.inj
def AGU:=@List.map_map
def AGV:=@List.length_range
def AGW:=@Int.lt_or_gt_of_ne
def AGX:=@List.getElem?_append_left
def AGY:=@Int.emod_emod_of_dvd
def AGZ:=@Nat.le_trans
def AGa:=@List.getElem?_append_right
def AGb:=@Int.le_refl
def AGc:=@Array.getElem?_eq_getElem
def AGd:=@Bool.not_eq_true'
def AGe:=@List.mem_map
def AGf:=@Bool.or_eq_false_iff
def AGg:=@Option.some.injEq
def AGh:=@List.length_singleton
def AGi:=@Int.sub_self
def AGj:=@Int.zero_add
def AGk:=@Int.emod_self
def AGl:=@Int.zero_mul
def AGm:=@Int.mul_nonpos_of_nonneg_of_nonpos
def AGn:=@List.getD_eq_getElem?_getD
def AGo:=@List.mem_append_right
def AGp:=@Array.length_toList
def AGq:=@decide_eq_false
def AGr:=@Ne.symm
def AGs:=@Int.mul_zero
def AGt:=@List.append_nil
def AGu:=@Option.map_some
def AGv:=@Bool.or_eq_true
def AGw:=@List.length_filter_le
def AGx:=@PySem.mem_of_lookup
def AGy:=@Prod.ext
def AGz:=@List.getElem?_replicate
def AG0:=@List.pairwise_iff_getElem
def AG1:=@List.pairwise_append
def AG2:=@Classical.byContradiction
def AG3:=@Int.le_of_mul_le_mul_left
def AG4:=@decide_eq_true
def AG5:=@congrArg
def AG6:=@List.getElem?_map
def AG7:=@List.getElem?_cons_succ
def AG8:=@List.any_cons
def AG9:=@Int.add_mul_emod_self_left
def AHA:=@List.mem_of_getElem?
def AHB:=@List.length_nil
def AHC:=@beq_iff_eq
def AHD:=@Int.dvd_refl
def AHE:=@List.all_eq_true
def AHF:=@List.not_mem_nil
def AHG:=@Bool.true_and
def AHH:=@Array.getElem?_toList
def AHI:=@Int.sub_emod
def AHJ:=@Int.add_emod
def AHK:=@PySem.W.kia_one
def AHL:=@List.nodup_cons
def AHM:=@Bool.eq_iff_iff
def AHN:=@List.nil_append
def AHO:=@Bool.false_ne_true
def AHP:=@List.mem_append_left
def AHQ:=@List.lookup_cons
def AHR:=@Nat.zero_le
def AHS:=@List.range_succ
def AHT:=@Int.eq_of_mul_eq_mul_left
def AHU:=@List.length_replicate
def AHV:=@Int.mul_ediv_add_emod
def AHW:=@List.cons_append
def AHX:=@Int.one_mul
def AHY:=@Int.not_le
def AHZ:=@Int.lt_iff_le_and_ne
def AHa:=@PySem.F.plainAttrs_list
def AHb:=@List.pairwise_map
def AHc:=@Int.lt_trichotomy
def AHd:=@List.getElem?_set_self
def AHe:=@List.length_take
def AHf:=@List.set_cons_zero
def AHg:=@Int.mul_neg_of_pos_of_neg
def AHh:=@Int.le_trans
def AHi:=@Int.le_total
def AHj:=@List.any_eq_false
def AHk:=@List.map_congr_left
def AHl:=@if_true
def AHm:=@List.countP_cons
def AHn:=@Int.emod_eq_emod_iff_emod_sub_eq_zero
def AHo:=@List.any_map
def AHp:=@Int.mul_lt_mul_of_pos_right
def AHq:=@Nat.lt_irrefl
def AHr:=@Int.mul_lt_mul_of_pos_left
def AHs:=@Int.mul_nonneg_of_nonpos_of_nonpos
def AHt:=@Nat.lt_trichotomy
def AHu:=@List.getElem?_of_mem
def AHv:=@List.drop_eq_getElem_cons
def AHw:=@Int.le_sub_one_of_lt
def AHx:=@Int.sub_one_lt_of_le
def AHy:=@Int.neg_mul
def AHz:=@Prod.mk.inj
def AH0:=@Nat.le_of_lt
def AH1:=@List.map_nil
def AH2:=@Int.mul_comm
def AH3:=@Int.pos_of_mul_pos_right
def AH4:=@List.mem_reverse
def AH5:=@List.getElem_append_left
def AH6:=@List.filterMap_cons
def AH7:=@List.getElem_of_mem
def AH8:=@decide_eq_false_iff_not
def AH9:=@Bool.or_false
def AIA:=@List.find?_cons
def AIB:=@Bool.false_eq_true
def AIC:=@List.getElem_cons_succ
def AID:=@List.length_pos_of_mem
def AIE:=@Int.neg_neg
def AIF:=@Int.mul_neg
def AIH:=@Nat.lt_succ_of_lt
def AII:=@List.append_assoc
def AIJ:=@Nat.zero_add
def AIK:=@Bool.false_and
def AIL:=@Int.sub_nonneg
def AIM:=@Nat.le_of_ble_eq_true
def AIN:=@List.contains_iff_mem
def AIO:=@PyProof.Rows.callWith_type1
def AIP:=@List.length_drop
def AIQ:=@List.getElem_mem
def AIR:=@Int.not_lt
def AIS:=@or_false
def AIT:=@Array.getElem?_eq_some_iff
def AIU:=@Prod.mk.injEq
def AIV:=@Array.perm_iff_toList_perm
def AIW:=@Int.lt_irrefl
def AIX:=@Bool.beq_comm
def AIY:=@Int.sub_pos
def AIZ:=@List.countP_eq_zero
def AIa:=@List.length_reverse
def AIb:=@Int.neg_neg_iff_pos
def AIc:=@Int.mul_ne_zero
def AId:=@Int.lt_of_mul_lt_mul_left
def AIe:=@Bool.decide_and
def AIf:=@List.mem_filterMap
def AIg:=@Nat.lt_of_le_of_lt
def AIh:=@List.pairwise_cons
def AIi:=@List.length_erase_of_mem
def AIj:=@PyProof.Rows.F.entry_set_update_loop
def AIk:=@Int.sub_zero
def AIl:=@Int.lt_of_le_of_lt
def AIm:=@List.set_cons_succ
def AIn:=@List.reverse_cons
def AIo:=@Bool.eq_false_iff
def AIp:=@bne_self_eq_false
def AIq:=@Int.mul_nonpos_of_nonpos_of_nonneg
def AIr:=@List.foldl_append
def AIs:=@PySem.W.cellsFrom_some
def AIt:=@Option.map_eq_some_iff
def AIu:=@List.take_of_length_le
def AIv:=@List.filter_eq_nil_iff
def AIw:=@Int.sub_mul
def AIx:=@Int.mul_sub
def AIy:=@List.getElem_inj
def AIz:=@if_false
def AI0:=@decide_eq_decide
def AI1:=@Int.natCast_zero
def AI2:=@List.filter_cons
def AI3:=@Array.getElem?_setIfInBounds_ne
def AI4:=@List.of_mem_zip
def AI5:=@List.mem_of_mem_drop
def AI6:=@List.any_nil
def AI7:=@List.mem_of_mem_take
def AI8:=@Int.mul_le_mul_of_nonpos_left
def AI9:=@Bool.and_false
def AJA:=@or_congr_right
def AJB:=@Int.neg_pos
def AJC:=@List.getElem_range
def AJD:=@List.lookup_append
def AJE:=@List.zip_cons_cons
def AJF:=@Array.getD_eq_getD_getElem?
def AJG:=@Int.add_emod_right
def AJH:=@List.filter_append
def AJI:=@List.perm_ext_iff_of_nodup
def AJJ:=@List.take_sublist
def AJK:=@Nat.not_lt
def AJL:=@Int.mul_pos_of_neg_of_neg
def AJM:=@Int.mul_neg_of_neg_of_pos
def AJN:=@List.getElem?_take_of_lt
def AJO:=@Nat.succ_pos
def AJP:=@List.nodup_range
def AJQ:=@List.filterMap_cons_some
def AJR:=@List.drop_length
def AJS:=@List.all_map
def AJT:=@List.mem_toArray
def AJU:=@Nat.lt_or_ge
def AJV:=@List.map_id'
def AJW:=@PySem.F.slot_list_count
def AJX:=@PySem.F.type_list_count
def AJY:=@Int.emod_eq_zero_of_dvd
def AJZ:=@Int.dvd_of_emod_eq_zero
def AJa:=@Int.eq_ofNat_of_zero_le
def AJb:=@List.foldl_cons
def AJc:=@List.length_set
def AJd:=@List.countP_map
def AJe:=@List.cons.injEq
def AJf:=@List.sum_append
def AJg:=@List.pairwise_lt_range
def AJh:=@Nat.le_succ
def AJi:=@List.nodup_nil
def AJj:=@List.countP_le_length
def AJk:=@List.take_append_drop
def AJl:=@List.dropLast_eq_take
def AJm:=@Bool.not_false
def AJn:=@Nat.mod_lt
def AJo:=@List.mem_erase_of_ne
def AJp:=@List.perm_cons_erase
def AJq:=@Bool.and_eq_true_iff
def AJs:=@Nat.add_assoc
def AJu:=@PySem.W.hideAll_get
def AJv:=@List.getElem?_range
def AJw:=@List.filter_eq_self
def AJ1:=@Nat.le_of_eq
def AJ3:=@Nat.lt_trans
def AJ7:=@Bool.or_comm
def AJ8:=@Int.le_of_eq
def AKA:=@Int.lt_trans
def AKD:=@Nat.sub_zero
def AKG:=@Or.symm
def AKM:=@Int.min_def
def AKN:=@Int.max_def
theorem F6{z y q:Nat}(h0:z<q)(h1:q<y):z<y:=U
theorem Bo{z:Nat}(h0:3<=z):0<z:=U
theorem Ce{z y:Int}(h0:y<=z):(0:Int)<=(z-y):=U
theorem JC{z:Int}(h0:(0:Int)<z):(0:Int)<=z:=U
theorem KC{z y q:Int}(h0:(q=(0:Int))\/((z-y)=(0:Int)))(h1:¬(q=(0:Int))):z=y:=U
theorem Dd{z y:Nat}(h0:z<y):(↑z:Int)<(↑y:Int):=U
theorem Bb : (0:Int)<=(0:Int):=U
theorem Br{z:Nat} : (0:Int)<=(↑z:Int):=U
theorem Hn{z:Int}(h0:(0:Int)<=z)(h1:¬(z=(0:Int))):(0:Int)<z:=U
theorem EU{z:Nat} : z<(z+1):=U
theorem C2 : (0:Int)<=(1:Int):=U
theorem ED{z:Int} : z<=z:=U
theorem ET{z:Int}(h0:(0:Int)<=z):(0:Int)<=(z+(1:Int)):=U
theorem Fi{z y:Int}(h0:y<z):(0:Int)<(z-y):=U
theorem FG{z y:Nat}(h0:z<(y+1))(h1:¬(z=y)):z<y:=U
theorem DZ{z:Int} : ((z-(1:Int))+(1:Int))=z:=U
theorem J8{z:Nat}(h0:z<=12):z<=1000:=U
theorem Fj{z:Int}(h0:(0:Int)<z):¬(z=(0:Int)):=U
theorem J9 : (0:Int)<(1:Int):=U
theorem Fl{z y:Int}(h0:y<z):(0:Int)<=(z-y):=U
theorem F7{z:Nat}(h0:0<z):(0:Int)<(↑z:Int):=U
theorem Dc{z:Nat} : (↑z:Int)<=(↑z:Int):=U
theorem En{z y:Nat}(h0:z<y):z<(y+1):=U
theorem Ov{z y:Int}(h0:¬(y=z)):¬((z-y)=(0:Int)):=U
theorem xN{z:Int}(h0:¬((0:Int)<z)):z<=(0:Int):=U
theorem LJ{z y q:Int}(h0:(z<=q)/\(q<y)):z<y:=U
theorem Hm{z:Nat}(h0:3<=z):(0:Int)<(↑z:Int):=U
theorem KA{z:Nat}(h0:3<=z):(2:Int)<=(↑z:Int):=U
theorem Ow{z:Int}(h0:¬(z<(0:Int))):(0:Int)<=z:=U
theorem Wu{z y q v:Nat}(h0:z<q)(h1:q<v)(h2:v<y):z<y:=U
theorem FH{z y:Int} : (z+(y+(1:Int)))=((z+y)+(1:Int)):=U
theorem MX{z:Nat}(h0:0<z):¬((↑z:Int)=(0:Int)):=U
theorem MY{z y:Nat}(h0:¬(y<z)):z<=y:=U
theorem JD{z y:Int} : (z-(z+y))=(-y):=U
theorem MZ{z y:Nat}(h0:(z+1)<=y):z<=y:=U
theorem Rx{z:Nat} : 0<=z:=U
theorem LK{z y:Int}(h0:(0:Int)<=y):(z-y)<=z:=U
theorem JE{z:Int}{y:Nat}(h0:z<(↑y:Int)):z<=(↑y:Int):=U
theorem LL{z y:Nat}(h0:(z+1)<y):z<y:=U
theorem KD{z:Nat}(h0:3<=z):¬((↑z:Int)=(0:Int)):=U
theorem EE : (0:Int)<=(1000:Int):=U
theorem DC{z:Nat}(h0:3<=z):(1:Int)<(↑z:Int):=U
theorem KG{z y:Nat}(h0:z<=y):z<(y+1):=U
theorem Ox{z y:Nat}(h0:z<y):(↑z:Int)<=(↑y:Int):=U
theorem Oy{z y q:Int} : (z-y)=((z-q)+(q-y)):=U
theorem iD{z y q:Int}(h0:(y<=q)/\(q<z)):(0:Int)<((2:Int)*(z-y)):=U
theorem Ma{z:Int}(h0:(0:Int)<=z):(0:Int)<=z:=U
theorem Ry{z y:Int} : ((z+y)-z)=y:=U
theorem xO{z y:Int}{q:Nat}(h0:(0:Int)<=y)(h1:z<(↑q:Int)):(z-y)<(↑q:Int):=U
theorem Rz{z y q:Int}(h0:(z-q)=(y-q)):z=y:=U
theorem Mb{z y:Nat}(h0:z<=y):z<=(y+1):=U
theorem R0{z:Int} : (z-(z-(1:Int)))=(1:Int):=U
theorem R3{y z:Int} : ((y*z)+((0:Int)*(z-z)))=(y*z):=U
theorem Oz{z y:Nat}(h0:z<=y):(z+1)<=(y+1):=U
theorem R4{z:Int}(h0:z=(0:Int)):(0:Int)<=z:=U
theorem xP{z y q v:Int}(h0:(z-y)=(q-v)):z=(y+(q-v)):=U
theorem R5{z y:Int} : (z+(y-z))=y:=U
theorem R6{z y q v p:Int}(h0:(z*y)<((z*q)+(v*(p-q)))):((z*y)+((0:Int)*(y-y)))<((z*q)+(v*(p-q))):=U
theorem O0{z y:Nat}(h0:(↑z:Int)<(↑y:Int)):z<y:=U
theorem Wv{z y:Nat}(h0:(y+3)=z):(z-1)<z:=U
theorem Ww{z:Nat} : (((↑z:Int)-(1:Int))+(1:Int))=(↑z:Int):=U
theorem iE{z y q:Nat}(h0:z<=((y+1)+q)):z<=(y+(q+1)):=U
theorem O1{y q z:Int}(h0:((y<=z)/\(z<q))\/((q<=z)/\(z<y))):¬(y=q):=U
theorem MU{z y:Nat}(h0:z<y):((↑z:Int)-(1:Int))<(↑y:Int):=U
theorem MV{z y:Int} : (z+(y-(1:Int)))=((z+y)-(1:Int)):=U
theorem Oo : (0:Int)<(2:Int):=U
theorem LI{z:Int}{y q:Nat}(h0:(0:Int)<=z)(h1:(y+2)<=q):((↑y:Int)-z)<(↑q:Int):=U
theorem Oq{z:Int}(h0:(1:Int)<=z):(0:Int)<z:=U
theorem Ws{z y v p q:Int}(h0:((z*y)+(v*(p-y)))<(z*q)):((z*y)+(v*(p-y)))<((z*q)+((0:Int)*(q-q))):=U
theorem Wt{y z:Int} : (y*z)=((y*z)+((0:Int)*(z-z))):=U
theorem Ot{z:Int}(h0:z<(0:Int)):(0:Int)<(-z):=U
theorem xM{z:Int}(h0:¬((0:Int)<=z)):(0:Int)<(-z):=U
theorem Ou{z y:Int} : ((z+y)-(z-(1:Int)))=(y+(1:Int)):=U
theorem iC{z:Nat} : 0<(z+1):=U
theorem MW{z:Int} : ((z+(1:Int))-(1:Int))=z:=U
namespace L2
open PySem PySem.Spec PyProof.Rows
abbrev Key:=Sum Int Str
noncomputable def MQ:Key->Value->Bool
 |.inl k,v=>Value.isInt k v
 |.inr x,v=>Value.isStrOf x v
noncomputable def wa(w:World):Key->Int
 |.inl k=>hashInt k
 |.inr x=>hashStr w x
theorem JB:∀{k:Key}{v:Value},MQ k v=true->(∃i t,k=Sum.inl i/\v=Value.int i t)\/(∃x t,k=Sum.inr x/\v=Value.str x t)
 |.inl i,v,h=>by obtain⟨t,e⟩:=Value.isInt_shape h;exact .inl ⟨i,t,rfl,e⟩
 |.inr x,v,h=>by obtain⟨t,e⟩:=Value.isStrOf_shape h;exact .inr ⟨x,t,rfl,e⟩
theorem wb(i:Int)(t:Tok):MQ (.inl i) (.int i t)=true:=by simp[MQ,Value.isInt]
theorem wc(x:Str)(t:Tok):MQ (.inr x) (.str x t)=true:=by simp[MQ,Value.isStrOf]
theorem wd(a b:Int):decide ((Sum.inl a:Key)=Sum.inl b)=(a==b):=by
 by_cases e:a=b
 .subst e;simp
 .have h:¬ (Sum.inl a:Key)=Sum.inl b:=λq=>e<|Sum.inl.inj q;rw[AGq h];exact(AGK.mpr e).symm
theorem wk(a b:Str):decide ((Sum.inr a:Key)=Sum.inr b)=decide (a=b):=by
 by_cases e:a=b
 .simp
 .have h:¬ (Sum.inr a:Key)=Sum.inr b:=λq=>e<|Sum.inr.inj q;simp only[AGq h,AGq e]
theorem we(a:Int)(b:Str):decide ((Sum.inl a)=Sum.inr b)=false:=AGq λq=>nomatch q
theorem wg(a:Str)(b:Int):decide ((Sum.inr a)=Sum.inl b)=false:=AGq λq=>nomatch q
def FK(prog:Program)(w:World):PySem.KeyKind prog w Key where
 is:=MQ
 hash:=wa w
 inj:=λv a b ha q=>by
  rcases JB ha with⟨i,t,rfl,rfl⟩|⟨x,t,rfl,rfl⟩
  .rcases JB q with⟨j,u,rfl,e⟩|⟨y,u,rfl,e⟩
   .injection e with e1 _;rw[e1]
   .exact nomatch e
  .rcases JB q with⟨j,u,rfl,e⟩|⟨y,u,rfl,e⟩
   .exact nomatch e
   .injection e with e1 _;rw[e1]
 byValue:=λk v h=>by rcases JB h with⟨i,t,rfl,rfl⟩|⟨x,t,rfl,rfl⟩<;>rfl
 pyHash:=λz h=>by
  rcases JB z with⟨i,t,rfl,rfl⟩|⟨x,t,rfl,rfl⟩
  .exact wpAny_pyHash_int h
  .exact wpAny_pyHash_str h
 eqBool:=λp z h=>by
  rcases JB p with⟨i,t,rfl,rfl⟩|⟨x,t,rfl,rfl⟩
  .rcases JB z with⟨j,u,rfl,rfl⟩|⟨y,u,rfl,rfl⟩
   .rw[wd]at h;exact wpAny_eqBool_int h
   .rw[we]at h;exact SeqAt.EqAt.int_str i t y u _ _ _ _ h
  .rcases JB z with⟨j,u,rfl,rfl⟩|⟨y,u,rfl,rfl⟩
   .rw[wg]at h;exact SeqAt.EqAt.str_int x t j u _ _ _ _ h
   .rw[wk]at h;exact wpAny_eqBool_str h
 «strs»:=λk x t v h=>by
  rcases JB h with⟨i,u,rfl,e⟩|⟨y,u,rfl,e⟩
  .exact nomatch e
  .injection e with e1 _
   subst e1;cases v<;>rfl
theorem xh(prog:Program)(w:World)(i:Int)(t:Tok):(FK prog w).is (.inl i) (.int i t)=true:=wb i t
theorem xi(prog:Program)(w:World)(x:Str)(t:Tok):(FK prog w).is (.inr x) (.str x t)=true:=wc x t
inductive V where
 |Au|bl (b:Bool)|int (i:Int)|str (x:Str)|Nk (b:Array UInt8)|Dj (b:UInt64)|ref (a:Addr)|ty (n:String)
def RelV:V->Value->Prop
 |.Au,u=>u=Value.none
 |.bl b,u=>u=Value.bool b
 |.int i,u=>∃t,u=Value.int i t
 |.str x,u=>∃t,u=Value.str x t
 |.Nk b,u=>∃t,u=Value.bytes b t
 |.Dj b,u=>∃t,u=Value.float b t
 |.ref a,u=>u=Value.ref a
 |.ty n,u=>u=Value.type n
abbrev Ao:List V->List Value->Prop:=Paired RelV
theorem Ao.length{xs:List V}{us:List Value}(r:Ao xs us):xs.length=us.length:=Paired.length r
set_option tactic.hygienic false
theorem Ao.get:∀{xs:List V}{us:List Value}{i:Nat}{x:V},Ao xs us->xs[i]? = some x->∃u,us[i]? = some u/\RelV x u:=by
 intro xs us i x h
 induction h generalizing i with
 |nil=>intro e;contradiction
 |cons r t ih=>
  intro e;cases i with
  |zero=>cases e;exact⟨_,rfl,r⟩
  |succ i=>exact ih e
theorem Ao.append:∀{xs z:List V}{us ws:List Value},Ao xs us->Ao z ws->Ao (xs++z) (us++ws):=by
 intro xs z us ws h s
 induction h with
 |nil=>exact s
 |cons r t ih=>exact .cons r ih
theorem Ao.take:∀{xs:List V}{us:List Value}(n:Nat),Ao xs us->Ao (xs.take n) (us.take n)
 |_,_,0,_=>.nil
 |_,_,_+1,.nil=>.nil
 |_,_,n+1,.cons r t=>.cons r<|Ao.take n t
theorem Ao.drop:∀{xs:List V}{us:List Value}(n:Nat),Ao xs us->Ao (xs.drop n) (us.drop n)
 |_,_,0,r=>r
 |_,_,_+1,.nil=>.nil
 |_,_,n+1,.cons _ t=>Ao.drop n t
def GI:Option V->Option Value->Prop
 |some v,some u=>RelV v u
 |none,none=>True
 |_,_=>False
def KV{κ:Type}:List (κ×V)->List (κ×Value)->Prop:=Paired λ(p:κ×V)(q:κ×Value)=>p.1=q.1/\RelV p.2 q.2
noncomputable def kV:Key->V
 |.inl i=>.int i
 |.inr x=>.str x
inductive HO where
 |lst (xs:List V)
 |tup (xs:List V)
 |dK (AL:List<|Key×V)|dT (AL:List<|List Key×V)
 |set (S:Int->Bool) (n:Nat)
 |ins (C dx:Addr) (fs:List<|Str×V)
 |own (x:Addr)
 |xd (fs:List<|Str×V)
 |met (f x:Addr)
 |Sl (lo hi:Int)
 |EO (o:Obj) (u:HO)
 |KW (ps:Array Value)
 |ext (φ:Heap->Prop)
abbrev Hp:=Addr->Option HO
noncomputable def upd(H:Hp)(a:Addr)(o:HO):Hp:=λb=>if b=a then some o else H b
theorem DE{H:Hp}{a:Addr}{o:HO}:upd H a o a=some o:=by unfold upd;rw[AFu rfl]
theorem BH{H:Hp}{a b:Addr}{o:HO}(h:b≠a):upd H a o b=H b:=by unfold upd;rw[AF0 h]
theorem yA{H:Hp}{a b:Addr}{o u:HO}(h:H a=some o)(h':H b=some u)(d:o≠u):a≠b:=by intro e;subst e;rw[h]at h';exact d<|AGT h'
theorem Du{H:Hp}{a b:Addr}{o:HO}(h:H a=some o)(h':H b=none):a≠b:=by intro e;subst e;rw[h]at h';contradiction
section
variable(P:Program)(w:World)
def Bx(H:Hp)(h:Heap)(a:Addr):HO->Prop
 |.lst xs=>xs.length<=sizeLine/\∃(its:List Value)(n:Nat),Ao xs its/\h.get? a=some {cls:=.type "list",data:=.seq its.toArray n}
 |.tup xs=>xs.length<=sizeLine/\∃its:List Value,Ao xs its/\IsTup h a its.toArray
 |.dK AL=>AL.length<=sizeLine/\(a==sysModules)=false/\∃vs,KV AL vs/\h.DictOf (FK P w) a vs
 |.dT AL=>AL.length<=sizeLine/\(a==sysModules)=false/\∃xs:List<|List Key×Addr×Value,
  Paired (λ(p:List Key×V)(q:List Key×Addr×Value)=>p.1=q.1/\H q.2.1=some (.tup<|p.1.map kV)/\RelV p.2 q.2.2) AL xs/\
  ∃o es Z,h.get? a=some o/\o.ExactDict/\o.data=.dict es Z/\es.toList=xs.map (entryOfKey<|tupleKind<|FK P w)/\(xs.map (·.1)).Nodup
 |.set S n=>h.SetOf (intKind P w) a S n
 |.ins C dx fs=>H dx=some (.own a)/\fs.length<=1000/\dx≠a/\h.get? a=some (PySem.W.instObj C dx)/\
  ∃mA,h.Ns1 dx mA/\(∀f,GI (fs.lookup f)<|mA f)/\PySem.Within mA (fs.map (·.1))
 |.own _=>∃o,h.get? a=some o
 |.xd fs=>∃mA,h.Ns1 a mA/\∀f,GI (fs.lookup f)<|mA f
 |.Sl lo hi=>∃t u v,h.get? a=some {cls:=.type "range",data:=.fields #[.int lo t,.int hi u,.int 1 v]}
 |.EO o u=>h.get? a=some o/\Bx H h a u
 |.KW ps=>h.get? a=some {cls:=.none,data:=.fields ps}
 |.met f x=>h.get? a=some (PySem.W.methodObj (.ref f)<|.ref x)
 |.ext φ=>φ h/\(∃o,h.get? a=some o)/\∀z y:Heap,φ z->(∀o,z.get? a=some o->y.get? a=some o)->φ y
def Bl(H:Hp)(h:Heap):Prop:=∀a o,H a=some o->Bx P w H h a o
end
section
variable{P:Program}{w:World}{H H':Hp}{h h':Heap}{a:Addr}{o:HO}
theorem Bx.lt(x:Bx P w H h a o):a<h.objs.size:=by
 cases o with
 |lst xs=>obtain⟨_,_,_,_,e⟩:=x;exact Heap.lt_size e
 |tup xs=>obtain⟨_,_,_,p⟩:=x;exact p.lt
 |dK AL=>obtain⟨_,_,_,_,o,_,_,e,_⟩:=x;exact Heap.lt_size e
 |dT AL=>obtain⟨_,_,_,_,o,_,_,e,_⟩:=x;exact Heap.lt_size e
 |set S n=>obtain⟨o,_,_,_,e,_⟩:=x;exact Heap.lt_size e
 |ins C dx fs=>obtain⟨_,_,_,e,_⟩:=x;exact Heap.lt_size e
 |own y=>obtain⟨_,e⟩:=x;exact Heap.lt_size e
 |xd fs=>obtain⟨_,⟨_,_,_,e,_⟩,_⟩:=x;exact Heap.lt_size e
 |Sl lo hi=>obtain⟨_,_,_,e⟩:=x;exact Heap.lt_size e
 |EO ob u=>obtain⟨e,_⟩:=x;exact Heap.lt_size e
 |KW ps=>exact Heap.lt_size (show h.get? a=some _ from x)
 |met f y=>exact Heap.lt_size (show h.get? a=some _ from x)
 |ext φ=>obtain⟨_,⟨_,e⟩,_⟩:=x;exact Heap.lt_size e
theorem Paired.W0{α β:Type}{F G:α->β->Prop}:∀{l₁:List α}{l₂:List β},Paired F l₁ l₂->(∀a b,F a b->G a b)->Paired G l₁ l₂:=by
 intro l m h f
 induction h with
 |nil=>exact .nil
 |cons r t ih=>exact .cons (f _ _ r) ih
theorem Bx.JL(x:Bx P w H h a o)(k:∀b u,(b=a\/H b=some (.own a))->h.get? b=some u->h'.get? b=some u) (ho:∀b,H b=some (.own a)->H' b=some (.own a)) (Q:∀b xs,H b=some (.tup xs)->H' b=some (.tup xs)):Bx P w H' h' a o:=by
 induction o with
 |lst xs=>obtain⟨z,its,n,r,e⟩:=x;exact⟨z,its,n,r,k _ _ (.inl rfl) e⟩
 |tup xs=>obtain⟨z,its,r,Z,e,c⟩:=x;exact⟨z,its,r,Z,k _ _ (.inl rfl) e,c⟩
 |dK AL=>obtain⟨z,y,vs,r,Z,es,Y,e,c⟩:=x;exact⟨z,y,vs,r,Z,es,Y,k _ _ (.inl rfl) e,c⟩
 |dT AL=>
  obtain⟨z,y,xs,r,Z,es,Y,e,c⟩:=x;exact⟨z,y,xs,Paired.W0 r λp q z=>⟨z.1,Q _ _ z.2.1,z.2.2⟩,Z,es,Y,k _ _ (.inl rfl) e,c⟩
 |set S n=>obtain⟨Z,es,Y,t,e,c⟩:=x;exact⟨Z,es,Y,t,k _ _ (.inl rfl) e,c⟩
 |ins C dx fs=>
  obtain⟨d,z,ne,e,mA,⟨od,es,Y,O,c⟩,r⟩:=x;exact⟨ho _ d,z,ne,k _ _ (.inl rfl) e,mA,⟨od,es,Y,k _ _ (.inr d) O,c⟩,r⟩
 |own y=>obtain⟨Z,e⟩:=x;exact⟨Z,k _ _ (.inl rfl) e⟩
 |xd fs=>obtain⟨mA,⟨od,es,Y,e,c⟩,r⟩:=x;exact⟨mA,⟨od,es,Y,k _ _ (.inl rfl) e,c⟩,r⟩
 |Sl lo hi=>obtain⟨t,u,v,e⟩:=x;exact⟨t,u,v,k _ _ (.inl rfl) e⟩
 |EO Z u ih=>obtain⟨e,q⟩:=x;exact⟨k _ _ (.inl rfl) e,ih q⟩
 |KW ps=>
  have e:=x;exact k a _ (.inl rfl) e
 |met f y=>
  have e:=x;exact k a _ (.inl rfl) e
 |ext φ=>obtain⟨p,⟨o,e⟩,st⟩:=x;exact⟨st _ _ p λo q=>k _ _ (.inl rfl) q,⟨o,k _ _ (.inl rfl) e⟩,st⟩
theorem Bl.lt(x:Bl P w H h)(e:H a=some o):a<h.objs.size:=(x a o e).lt
theorem Bl.fresh(x:Bl P w H h)(e:h.objs.size<=a):H a=none:=by
 cases q:H a with
 |none=>rfl
 |some u=>exact absurd (AGM (x.lt q) e) (AHq _)
theorem Bl.kept(x:Bl P w H h)(k:∀b u,h.get? b=some u->h'.get? b=some u):Bl P w H h':=λa o e=>
 (x a o e).JL (λb u _ q=>k b u q) (λ_ q=>q) λ_ _ q=>q
theorem Bl.laid(x:Bl P w H h)(k:∀b u,h.get? b=some u->h'.get? b=some u)(hp:h.objs.size<=a)(new:Bx P w (upd H a o) h' a o):Bl P w (upd H a o) h':=λb u e=>by
 have hn:=x.fresh hp;by_cases z:b=a
 .subst z;rw[DE]at e;cases e;exact new
 .rw[BH z]at e;exact(x b u e).JL (λc v _ q=>k c v q) (λc q=>by rw[BH<|Du q hn];exact q) λc xs q=>by rw[BH<|Du q hn];exact q
end
def Rd(H:Hp)(a:Addr)(u:HO):Prop:=H a=some u\/∃o,H a=some (.EO o u)
theorem Rd.ok{P:Program}{w:World}{H:Hp}{h:Heap}{a:Addr}{u:HO}(r:Rd H a u)(x:Bl P w H h):Bx P w H h a u:=by
 rcases r with r|⟨o,r⟩
 .exact x a u r
 .obtain⟨_,q⟩:=x a _ r;exact q
def NX:Option HO->Prop
 |some (.lst _)=>True
 |some (.dK _)=>True
 |some (.dT _)=>True
 |some (.set _ _)=>True
 |some (.ins _ _ _)=>True
 |some (.ext _)=>True
 |_=>False
section
variable{P:Program}{w:World}{H:Hp}{h h':Heap}{x e:Addr}{o':HO}
theorem Bl.write(ok:Bl P w H h)(p:NX<|H x)(he:e=x\/H e=some (.own x))(k:∀b u,b≠e->h.get? b=some u->h'.get? b=some u)(D:∃u,h'.get? e=some u) (new:Bx P w (upd H x o') h' x o'):Bl P w (upd H x o') h':=λb u q=>by
 have Q:∀c y,H c=some (.own y)->c≠x:=λc y r z=>by subst z;rw[r]at p;exact p
 have F:∀c xs,H c=some (.tup xs)->c≠x:=λc xs r z=>by subst z;rw[r]at p;exact p
 by_cases Z:b=x
 .subst Z;rw[DE]at q;cases q;exact new
 .rw[BH Z]at q;by_cases Y:b=e
  .have O:H b=some (.own x):=by
    rcases he with z|z
    .exact absurd (Y.trans z) Z
    .rw[Y];exact z
   rw[q]at O;cases O;obtain⟨v,R⟩:=D;exact⟨v,by rw[Y];exact R⟩
  .refine(ok b u q).JL (λc v hc r=>k c v ?_ r) (λc r=>by rw[BH<|Q c b r];exact r) λc xs r=>by rw[BH<|F c xs r];exact r
   rcases hc with rfl|hc
   .exact Y
   .rintro rfl;rcases he with z|z
    .exact Q c b hc z
    .rw[hc]at z;cases z;exact Z rfl
end
structure Un(fs ex:List Addr)(H H':Hp)(h h':Heap):Prop where
 keep:∀b o,h.get? b=some o->H b=none->b∉fs->b∉ex->h'.get? b=some o
 slot:∀b o,h.get? b=some o->H b=none->b∈fs->b∉ex->∃sl,h'.get? b=some {o with slots:=sl}
 free:∀b o,h.get? b=some o->H b=none->b∉ex->H' b=none
 there:∀b o,h.get? b=some o->b∉ex->∃o',h'.get? b=some o'
 Dy:∀b xs,H b=some (.tup xs)->H' b=some (.tup xs)
 ER:∀b o u,H b=some (.EO o u)->H' b=some (.EO o u)
 FT:∀b ps,H b=some (.KW ps)->∃more,H' b=some (.KW<|ps++more)
section
variable{fs sL ex VS:List Addr}{H H1 H2:Hp}{h h1 h2 h':Heap}{a x e:Addr}{o:HO}
theorem Un.any(u:Un fs ex H H1 h h1){b:Addr}{z:Obj}(q:h.get? b=some z)(n:H b=none)(y:b∉ex):∃sl,h1.get? b=some {z with slots:=sl}:=by
 by_cases v:b∈fs
 .exact u.slot b z q n v y
 .exact⟨z.slots,u.keep b z q n v y⟩
theorem Un.kept(k:∀b u,h.get? b=some u->h'.get? b=some u):Un fs ex H H h h':=
 ⟨λb z q _ _ _=>k b z q,λb z q _ _ _=>⟨z.slots,k b z q⟩,λ_ _ _ n _=>n,λb z q _=>⟨z,k b z q⟩,λ_ _ q=>q,λ_ _ _ q=>q,λ_ ps q=>⟨#[],by rw[q];simp⟩⟩
theorem Un.refl:Un fs ex H H h h:=Un.kept λ_ _ q=>q
theorem Un.laid(k:∀b u,h.get? b=some u->h'.get? b=some u)(hp:h.objs.size<=a)(hn:H a=none):Un fs ex H (upd H a o) h h' where
 keep:=λb u q _ _ _=>k b u q
 slot:=λb u q _ _ _=>⟨u.slots,k b u q⟩
 free:=λb u q n _=>by rw[BH<|AGE<|AGM (Heap.lt_size q) hp];exact n
 there:=λb u q _=>⟨u,k b u q⟩
 Dy:=λb xs q=>by rw[BH<|Du q hn];exact q
 ER:=λb u xs q=>by rw[BH<|Du q hn];exact q
 FT:=λb ps q=>⟨#[],by rw[BH<|Du q hn,q];simp⟩
theorem Un.write(y:NX<|H x)(he:e=x\/H e=some (.own x))(k:∀b u,b≠e->h.get? b=some u->h'.get? b=some u)(Y:∃u,h'.get? e=some u):Un fs ex H (upd H x o) h h':=by
 have v:∀b,H b=none->b≠x:=λb n z=>by subst z;rw[n]at y;exact y
 have p:∀b,H b=none->b≠e:=λb n z=>by
  subst z;rcases he with r|r
  .exact v b n r
  .rw[n]at r;contradiction
 have hm:∀b u,H b=some u->¬ NX (some u)->b≠x:=λb u q nm z=>by subst z;rw[q]at y;exact nm y
 refine⟨λb u q n _ _=>k b u (p b n) q,λb u q n _ _=>⟨u.slots,k b u (p b n) q⟩,λb u q n _=>by rw[BH<|v b n];exact n,λb u q _=>?_,
  λb xs q=>by rw[BH<|hm b _ q λz=>z];exact q,λb u xs q=>by rw[BH<|hm b _ q λz=>z];exact q,λb ps q=>⟨#[],by rw[BH<|hm b _ q λz=>z,q];simp⟩⟩
 by_cases Z:b=e
 .subst Z;exact Y
 .exact⟨u,k b u Z q⟩
end
noncomputable def LX(h:Heap)(H:Hp):List Addr:=(List.range h.objs.size).filter λa=>(H a).isSome
def Jx(h:Heap)(H:Hp):Heap:=PySem.W.hideAll h<|LX h H
theorem uX(h:Heap)(H:Hp):(Jx h H).objs.size=h.objs.size:=PySem.W.hideAll_size _ _
theorem uW{h:Heap}{H:Hp}{b:Addr}{o:Obj}(e:h.get? b=some o)(n:H b=none):(Jx h H).get? b=some o:=
 AJu _ e λhm=>by have q:=(AGD.mp hm).2;rw[n]at q;simp at q
theorem yS{h:Heap}{H:Hp}{b:Addr}{o:Obj}(e:(Jx h H).get? b=some o):h.get? b=some o/\H b=none:=by
 have y:=PySem.W.of_hideAll (LX h H) e;refine⟨y,?_⟩;cases q:H b with
 |none=>rfl
 |some x=>
  have hm:b∈LX h H:=AGD.mpr ⟨AF1.mpr<|Heap.lt_size y,by simp[q]⟩;have z:(Jx h H).get? b=none:=PySem.W.hideAll_none (LX h H) hm;rw[z]at e;contradiction
structure Mod(K:PySem.W.Frag)(mg:Str->Option Value)(base:Heap):Prop where
 Of:K.In base
 glob:base.Ns mainGlobals mg
 blt:∃mb,base.Ns builtinsNs mb/\∀x:Str,x≠"__name__"->mb x=bootBuiltins x
 nolimit:base.NoLimit
structure Cx where
 prog:Program
 w:World
 K:PySem.W.Frag
 mg:Str->Option Value
 base:Heap
 A:Around
 N:List Str
 B5:Shared
 AO:Hp
 env:Env
 outer:List Env
 stack:List Env
 ex:List Addr
 fn:Str->Bool
 calm:Bool
 pn:List<|Addr×Obj
 xe:Value->Shared->Prop
noncomputable def Cp(l:List Env):List Addr:=l.filterMap (·.frame)
abbrev Cx.fs(X:Cx):List Addr:=Cp X.outer
def Ez(sc:Scope)(x:Str):Prop:=sc.names.lookup x=some .local\/sc.names.lookup x=some .cell\/sc.names.lookup x=some .free
def Loc(sc:Scope)(x:Str):Prop:=sc.names.lookup x=some .local\/sc.names.lookup x=some .cell
def Look(env:Env)(h:Heap)(m:Str->Option Value)(x:Str)(u:Value):Prop:=
 (env.kindOf x=some .local/\m x=some u)\/((env.kindOf x=some .cell\/env.kindOf x=some .free)/\∃c,env.cells.lookup x=some c/\h.IsCell c (some u))
structure Cx.Ok(X:Cx):Prop where
 mod:Mod X.K X.mg X.base
 kind:X.env.scope.kind=.function
 glob:X.env.globals=mainGlobals
 blt:X.env.builtins=builtinsNs
 above:X.B5.heap.objs.size<=X.env.locals
 inj:∀x y c,X.env.cells.lookup x=some c->X.env.cells.lookup y=some c->x=y
 has:∀x,(X.env.kindOf x=some .cell\/X.env.kindOf x=some .free)->∃c,X.env.cells.lookup x=some c
 IV:∀x c,X.fn x=true->X.env.cells.lookup x=some c->X.B5.heap.objs.size<=c
 hd:X.calm=true->X.A.handled=none
 frames:X.A.frames=some X.stack
 Es:X.stack=X.outer\/(X.stack=X.env::X.outer/\X.env.frame=some X.env.locals)
 Jj:∀b∈X.ex,b≠X.env.locals/\∀x c,X.env.cells.lookup x=some c->c≠b
 bs:∀b o,X.base.get? b=some o->X.B5.heap.get? b=some o/\X.AO b=none
 FZ:X.base.objs.size<=X.B5.heap.objs.size
 JG:∀b o,X.base.get? b=some o->b∉X.ex
 Ii:∀b∈X.ex,b∉X.fs
 EC:X.B5.heap.FunFrames X.base X.outer
 GW:∀b∈X.fs,X.AO b=none
structure Inv(X:Cx)(AB:List (Addr×Obj))(σ:List (Option V))(H:Hp)(s:Shared):Prop where
 ok:X.Ok
 os:s.os=X.B5.os
 bare:AllBare s.gens
 base:Un X.fs X.ex X.AO H X.B5.heap s.heap
 loc:∃m,s.heap.Ns X.env.locals m/\∀(i:Nat)(x:Str)(v:V),X.N[i]? = some x->σ[i]? = some (some v)->Ez X.env.scope x->∃u,RelV v u/\Look X.env s.heap m x u
 cell:∀x c,X.env.cells.lookup x=some c->∃v,s.heap.IsCell c v
 free:H X.env.locals=none
 EB:∀x c,X.env.cells.lookup x=some c->H c=none
 pin:∀p∈X.pn++AB,s.heap.get? p.1=some p.2/\H p.1=none/\p.1≠X.env.locals/\p.1∉X.fs/\∀v,p.2.data≠.cell v
 AZ:Bl X.prog X.w H s.heap
 len:σ.length=X.N.length
section
variable{X:Cx}{AB:List (Addr×Obj)}{σ:List (Option V)}{H H':Hp}{s:Shared}{h':Heap}
theorem Cx.Ok.yC(ok:X.Ok){b:Addr}{o:Obj}(e:X.base.get? b=some o):b∉X.fs:=λz=>by have:=(ok.EC.mem z).1;rw[e]at this;contradiction
theorem Inv.bs(I:Inv X AB σ H s):∀b o,X.base.get? b=some o->s.heap.get? b=some o/\H b=none:=λb o e=>
 ⟨I.base.keep b o (I.ok.bs b o e).1 (I.ok.bs b o e).2 (I.ok.yC e)<|I.ok.JG b o e,I.base.free b o (I.ok.bs b o e).1 (I.ok.bs b o e).2<|I.ok.JG b o e⟩
theorem Inv.bk(I:Inv X AB σ H s):∀b o,X.base.get? b=some o->s.heap.get? b=some o:=λb o e=>(I.bs b o e).1
theorem Inv.mod(I:Inv X AB σ H s):Mod X.K X.mg X.base:=I.ok.mod
theorem Inv.BS(I:Inv X AB σ H s):X.K.In s.heap:=I.ok.mod.Of.keeps I.bk
theorem Inv.lt(I:Inv X AB σ H s):X.env.locals<s.heap.objs.size:=let ⟨_,hn,_⟩:=I.loc;hn.lt
theorem Inv.sz(I:Inv X AB σ H s):X.B5.heap.objs.size<=s.heap.objs.size:=AGZ I.ok.above<|AH0 I.lt
theorem Inv.yE(I:Inv X AB σ H s){a:Addr}(h:s.heap.objs.size<=a):a∉X.fs:=λz=>by obtain⟨_,o,ho,_⟩:=I.ok.EC.mem z;exact absurd (AGM (Heap.lt_size ho)<|AGZ I.sz h) (AHq _)
theorem Inv.IX(I:Inv X AB σ H s):∀x c,X.env.cells.lookup x=some c->c≠X.env.locals:=λx c e z=>by obtain⟨v,o,ho,hd⟩:=I.cell x c e;obtain⟨m,⟨o',es,ep,y,q,_⟩,_⟩:=I.loc;rw[z,y]at ho;cases ho;rw[q]at hd;contradiction
theorem Inv.EC(I:Inv X AB σ H s):s.heap.FunFrames X.base X.outer:=by
 have all:∀(l:List Env),(∀b∈Cp l,b∈X.fs)->X.B5.heap.FunFrames X.base l->s.heap.FunFrames X.base l:=by
  intro l
  induction l with
  |nil=>intro _ _;trivial
  |cons env r ih=>
   intro hs p;obtain⟨Z,⟨L,o,y,hn,ho,hd⟩,Y⟩:=p;have q:=hs L (by unfold Cp;simp only[AH6,y];exact AF3);obtain⟨sl,e⟩:=I.base.slot L o ho (I.ok.GW L q) q λz=>I.ok.Ii L z q
   exact⟨Z,⟨L,_,y,hn,e,hd⟩,ih (λb v=>hs b (by unfold Cp;simp only[AH6,y];exact AFz _ v)) Y⟩
 exact all X.outer (λ_ v=>v) I.ok.EC
theorem Inv.stack(I:Inv X AB σ H s):s.heap.FunFrames X.base X.stack:=by
 rcases I.ok.Es with e|⟨e,z⟩
 .rw[e];exact I.EC
 .rw[e];obtain⟨m,hn,_⟩:=I.loc;refine .cons (by rw[I.ok.kind];decide) z hn ?_ I.EC;exact Heap.get?_none_of_le (AGZ I.ok.FZ I.ok.above)
theorem Inv.Pb(I:Inv X AB σ H s):∀b∈Cp X.stack,b∈X.env.locals::X.fs:=λb z=>by
 rcases I.ok.Es with e|⟨e,y⟩
 .rw[e]at z;exact AFz _ z
 .rw[e]at z;unfold Cp at z;simp only[AH6,y]at z;exact z
theorem Inv.X3(I:Inv X AB σ H s):∀b∈Cp X.stack,H b=none:=λb y=>by
 rcases AF4.mp (I.Pb b y)with e|y
 .rw[e];exact I.free
 .obtain⟨_,o,ho,_⟩:=I.ok.EC.mem y;exact I.base.free b o ho (I.ok.GW b y) λz=>I.ok.Ii b z y
theorem Inv.step{g':Array GenState}{t':Nat}{G:Drawn}{ch:List Addr}(I:Inv X AB σ H s) (O:∀b∈ch,(b∈X.ex\/X.B5.heap.objs.size<=b)/\b≠X.env.locals/\(∀x c,X.env.cells.lookup x=some c->c≠b)/\∀p∈X.pn++AB,p.1≠b) (keep:∀b o,b≠X.env.locals->b∉X.fs->b∉ch->s.heap.get? b=some o->H b=none->h'.get? b=some o) (slot:∀b o,b≠X.env.locals->b∈X.fs->b∉ch->s.heap.get? b=some o->H b=none->∃sl,h'.get? b=some {o with slots:=sl}) (free:∀b o,b∉ch->s.heap.get? b=some o->H b=none->H' b=none) (there:∀b o,b∉ch->s.heap.get? b=some o->∃o',h'.get? b=some o') (Dy:∀b xs,H b=some (.tup xs)->H' b=some (.tup xs)) (ER:∀b o u,H b=some (.EO o u)->H' b=some (.EO o u)) (FT:∀b ps,H b=some (.KW ps)->∃more,H' b=some (.KW<|ps++more)) (ns:∀m,s.heap.Ns X.env.locals m->h'.Ns X.env.locals m) (AZ:Bl X.prog X.w H' h') (S:AllBare g') : Inv X AB σ H' {s with heap:=h',gens:=g',drawn:=G,toks:=t'}:=by
 have R:∀b o,X.B5.heap.get? b=some o->b≠X.env.locals:=λb o e=>AGE<|AGM (Heap.lt_size e) I.ok.above;have F:∀b o,X.B5.heap.get? b=some o->b∉X.ex->b∉ch:=λb o e y Q=>by
  rcases(O b Q).1 with z|z
  .exact y z
  .exact absurd (AGM (Heap.lt_size e) z) (AHq _)
 have Z:∀x c,X.env.cells.lookup x=some c->∀v,s.heap.IsCell c v->h'.IsCell c v:=(by
  rintro x c e v ⟨o,ho,hd⟩;have P:=λz=>(O c z).2.2.1 x c e rfl;by_cases hc:c∈X.fs
  .obtain⟨sl,q⟩:=slot c o (I.IX x c e) hc P ho<|I.EB x c e;exact⟨_,q,hd⟩
  .exact⟨o,keep c o (I.IX x c e) hc P ho<|I.EB x c e,hd⟩)
 refine⟨I.ok,I.os,S,⟨λb o e n Q y=>?_,λb o e n Q y=>?_,λb o e n y=>?_,λb o e y=>?_,λb xs e=>Dy b xs<|I.base.Dy b xs e,λb o xs e=>ER b o xs<|I.base.ER b o xs e,λb ps e=>?_⟩,?_,λx c e=>?_,?_,λx c e=>?_,λp hp=>?_,AZ,I.len⟩
 .exact keep b o (R b o e) Q (F b o e y) (I.base.keep b o e n Q y)<|I.base.free b o e n y
 .obtain⟨sl,Y⟩:=I.base.slot b o e n Q y;obtain⟨T,D⟩:=slot b _ (R b o e) Q (F b o e y) Y<|I.base.free b o e n y;exact⟨T,D⟩
 .obtain⟨o',Y⟩:=I.base.there b o e y;exact free b o' (F b o e y) Y<|I.base.free b o e n y
 .obtain⟨o',Y⟩:=I.base.there b o e y;exact there b o' (F b o e y) Y
 .obtain⟨C,Y⟩:=I.base.FT b ps e;obtain⟨E,D⟩:=FT b _ Y;exact⟨C++E,by rw[D,Array.append_assoc]⟩
 .obtain⟨m,hn,t⟩:=I.loc;refine⟨m,ns m hn,λi x v Y D e3=>?_⟩;obtain⟨u,r,l⟩:=t i x v Y D e3;refine⟨u,r,?_⟩;rcases l with l|⟨k,c,e,z⟩
  .exact .inl l
  .exact .inr ⟨k,c,e,Z x c e _ z⟩
 .obtain⟨v,z⟩:=I.cell x c e;exact⟨v,Z x c e v z⟩
 .obtain⟨m,⟨o,_,_,ho,_⟩,_⟩:=I.loc;exact free _ o (λz=>(O _ z).2.1 rfl) ho I.free
 .obtain⟨v,o,ho,hd⟩:=I.cell x c e;exact free c o (λz=>(O c z).2.2.1 x c e rfl) ho<|I.EB x c e
 .obtain⟨e,n,ne,B,d⟩:=I.pin p hp;have P:=λz=>(O p.1 z).2.2.2 p hp rfl;exact⟨keep p.1 p.2 ne B P e n,free p.1 p.2 P e n,ne,B,d⟩
theorem Inv.un{t':Nat}(I:Inv X AB σ H s)(u:Un X.fs [] H H' s.heap h')(AZ:Bl X.prog X.w H' h'):Inv X AB σ H' {s with heap:=h',toks:=t'}:=by obtain⟨m,⟨o,es,ep,ho,r⟩,_⟩:=id I.loc;obtain⟨sl,v⟩:=u.any ho I.free AFn;exact I.step (ch:=[]) (λ_ z=>nomatch z) (λb o _ y _ e n=>u.keep b o e n y AFn) (λb o _ y _ e n=>u.slot b o e n y AFn) (λb o _ e n=>u.free b o e n AFn) (λb o _ e=>u.there b o e AFn) u.Dy u.ER u.FT (λm' hm=>by obtain⟨o',es',p,q,Z⟩:=hm;rw[ho]at q;cases q;exact⟨_,es',p,v,Z⟩) AZ I.bare
theorem Inv.call{g':Array GenState}{t':Nat}{Z:Drawn}{ch:List Addr}(I:Inv X AB σ H s)(u:Un (Cp X.stack) ch H H' s.heap h')(AZ:Bl X.prog X.w H' h')(Y:AllBare g') (q:∀b∈ch,(b∈X.ex\/X.B5.heap.objs.size<=b)/\b≠X.env.locals/\(∀x c,X.env.cells.lookup x=some c->c≠b)/\∀p∈X.pn++AB,p.1≠b) : Inv X AB σ H' {s with heap:=h',gens:=g',drawn:=Z,toks:=t'}:=by
 obtain⟨m,⟨o,es,ep,ho,r⟩,_⟩:=id I.loc;obtain⟨sl,y⟩:=u.any ho I.free λz=>(q _ z).2.1 rfl
 exact I.step q (λb o y Q hc e n=>u.keep b o e n (λz=>(AF4.mp<|I.Pb b z).elim y Q) hc) (λb o _ _ hc e n=>u.any e n hc) (λb o hc e n=>u.free b o e n hc) (λb o hc e=>u.there b o e hc) u.Dy u.ER u.FT (λm' hm=>by obtain⟨o',es',O,v,P⟩:=hm;rw[ho]at v;cases v;exact⟨_,es',O,y,P⟩) AZ Y
theorem Inv.turned{t':Nat}{it:Addr}(I:Inv X AB σ H s)(k:∀b o,b≠it->s.heap.get? b=some o->h'.get? b=some o)(hn:H it=none)(y:it≠X.env.locals) (Y:it∈X.ex\/X.B5.heap.objs.size<=it) (Q:∀x c,X.env.cells.lookup x=some c->c≠it) (h3:∀p∈X.pn++AB,p.1≠it):Inv X AB σ H {s with heap:=h',toks:=t'}:=by
 have Z:∀b u,H b=some u->b≠it:=λb u e z=>by rw[z,hn]at e;contradiction
 refine I.step (ch:=[it]) (λb O=>?_) (λb o _ _ hc e _=>k b o (λz=>hc<|by simp[z]) e) (λb o _ _ hc e _=>⟨o.slots,k b o (λz=>hc<|by simp[z]) e⟩) (λ_ _ _ _ n=>n)
  (λb o hc e=>⟨o,k b o (λz=>hc<|by simp[z]) e⟩) (λ_ _ e=>e) (λ_ _ _ e=>e) (λb ps e=>⟨#[],by rw[e];simp⟩) (λm hm=>?_) (λb u e=>?_) I.bare
 .have e:=by simpa using O
  subst e;exact⟨Y,y,Q,h3⟩
 .obtain⟨o,es,P,ho,r⟩:=hm;exact⟨o,es,P,k _ o (AGr y) ho,r⟩
 .refine(I.AZ b u e).JL (λc v hc q=>k c v ?_ q) (λ_ q=>q) λ_ _ q=>q;rcases hc with z|z
  .rw[z];exact Z b u e
  .exact Z c _ z
theorem Inv.tok(I:Inv X AB σ H s)(t:Nat):Inv X AB σ H {s with toks:=t}:=I.un Un.refl I.AZ
theorem Inv.kept{t':Nat}(I:Inv X AB σ H s)(k:∀b u,s.heap.get? b=some u->h'.get? b=some u):Inv X AB σ H {s with heap:=h',toks:=t'}:=I.un (Un.kept k)<|I.AZ.kept k
theorem Inv.laid{a:Addr}{o:HO}{t':Nat}(I:Inv X AB σ H s)(k:∀b u,s.heap.get? b=some u->h'.get? b=some u)(hp:s.heap.objs.size<=a)(new:Bx X.prog X.w (upd H a o) h' a o) : Inv X AB σ (upd H a o) {s with heap:=h',toks:=t'}:=I.un (Un.laid k hp<|I.AZ.fresh hp)<|I.AZ.laid k hp new
theorem Inv.write{x e:Addr}{o:HO}{t':Nat}(I:Inv X AB σ H s)(z:NX<|H x)(he:e=x\/H e=some (.own x))(k:∀b u,b≠e->s.heap.get? b=some u->h'.get? b=some u)(y:∃u,h'.get? e=some u) (new:Bx X.prog X.w (upd H x o) h' x o):Inv X AB σ (upd H x o) {s with heap:=h',toks:=t'}:=I.un (Un.write z he k y)<|I.AZ.write z he k y new
theorem Inv.jT{y:List (Addr×Obj)}(I:Inv X AB σ H s)(h:∀p∈y,s.heap.get? p.1=some p.2/\H p.1=none/\p.1≠X.env.locals/\p.1∉X.fs/\∀v,p.2.data≠.cell v):Inv X y σ H s:=
 ⟨I.ok,I.os,I.bare,I.base,I.loc,I.cell,I.free,I.EB,λp hp=>(AGO.mp hp).elim (λz=>I.pin p<|AHP _ z)<|h p,I.AZ,I.len⟩
theorem W8{N:List Str}(z:N.Nodup){i j:Nat}{x:Str}(a:N[i]? = some x)(b:N[j]? = some x):i=j:=by obtain⟨h1,y⟩:=AFx.mp a;obtain⟨h2,q⟩:=AFx.mp b;exact(AIy z).mp (y.trans q.symm)
theorem kZ{M:Model}{A:Around}{E:Value->Shared->Prop}{i:Nat}{x:Str}{v:V}{u:Value}{Q:Unit->Shared->Prop}(I:Inv X AB σ H s)(f:X.N.Nodup)(hi:X.N[i]? = some x)(O:Loc X.env.scope x)(r:RelV v u) (h:∀s',Inv X AB (σ.set i<|some v) H s'->(∃a,Heap.SameBut a s.heap s'.heap/\(a=X.env.locals\/X.env.cells.lookup x=some a))->Q () s') (hf:X.fn x=true\/X.env.scope.names.lookup x=some .local:=by first|exact .inl rfl|exact .inr rfl|assumption):wpAny M A (storeName X.env x u) Q E s:=by
 obtain⟨m,hn,hl⟩:=id I.loc;have Vm:(X.env.scope.kind == .class||(X.env.scope.kind == .module&&X.env.locals != X.env.globals))=false:=by rw[I.ok.kind];rfl
 have MB:i<σ.length:=by rw[I.len];exact(AFx.mp hi).1
 have IX:=I.IX;have Z:∀{a:Addr}{h':Heap},(∃o,s.heap.get? a=some o/\H a=none)->Heap.SameBut a s.heap h'->Bl X.prog X.w H h':=λ{a h'} ha hs b ob e=>by
  obtain⟨_,_,Ju⟩:=ha;refine(I.AZ b ob e).JL (λc R hc q=>(hs.2 c ?_).trans q) (λ_ q=>q) λ_ _ q=>q;rintro rfl;rcases hc with rfl|hc
  .rw[Ju]at e;contradiction
  .rw[Ju]at hc;contradiction
 rcases O with hk|hk
 .refine wpAny_storeName_local hk hn (λh' V5 hs=>?_) Vm;obtain⟨oL,_,_,RK,_⟩:=id hn;refine h _ ⟨I.ok,I.os,I.bare,⟨λb o e n D O=>?_,λb o e n D O=>?_,I.base.free,λb o e O=>?_,I.base.Dy,I.base.ER,I.base.FT⟩,⟨_,V5,λj y G Y P e3=>?_⟩,λy c e=>?_,I.free,I.EB,λp hp=>?_,Z ⟨oL,RK,I.free⟩ hs,by simpa using I.len⟩ ⟨_,hs,.inl rfl⟩
  .exact(hs.2 b<|AGE<|AGM (Heap.lt_size e) I.ok.above).trans (I.base.keep b o e n D O)
  .obtain⟨sl,Y⟩:=I.base.slot b o e n D O;exact⟨sl,(hs.2 b<|AGE<|AGM (Heap.lt_size e) I.ok.above).trans Y⟩
  .obtain⟨o',Y⟩:=I.base.there b o e O;exact⟨o',(hs.2 b<|AGE<|AGM (Heap.lt_size e) I.ok.above).trans Y⟩
  .by_cases F:j=i
   .subst F;rw[hi]at Y;cases Y;rw[AHd MB]at P;cases P;exact⟨u,r,.inl ⟨hk,AFn⟩⟩
   .rw[AGN<|AGr F]at P;obtain⟨S,T,q⟩:=hl j y G Y P e3;refine⟨S,T,?_⟩;rcases q with⟨k,e⟩|⟨k,c,e,z⟩
    .refine .inl ⟨k,?_⟩;have:y≠x:=λe=>F<|W8 f Y<|e ▸ hi;simp[this,e]
    .exact .inr ⟨k,c,e,z.sameBut hs<|IX y c e⟩
  .obtain⟨R,z⟩:=I.cell y c e;exact⟨R,z.sameBut hs<|IX y c e⟩
  .obtain⟨e,n,ne,C,d⟩:=I.pin p hp;exact⟨(hs.2 p.1 ne).trans e,n,ne,C,d⟩
 .have t:X.fn x=true:=by
   rcases hf with z|z
   .exact z
   .rw[z]at hk;contradiction
  obtain⟨c,hc⟩:=I.ok.has x<|.inl hk;obtain⟨R,z⟩:=I.cell x c hc;refine wpAny_storeName_cell I.ok.kind hk hc z λh' HX hs=>?_;obtain⟨oc,fX,u6⟩:=id z;refine h {s with heap:=h'} ⟨I.ok,I.os,I.bare,⟨λb o e n D O=>?_,λb o e n D O=>?_,I.base.free,λb o e O=>?_,I.base.Dy,I.base.ER,I.base.FT⟩,⟨m,hn.sameBut hs<|AGr<|IX x c hc,λj y G Y P e3=>?_⟩,λy B e=>?_,I.free,I.EB,λp hp=>?_,Z ⟨oc,fX,I.EB x c hc⟩ hs,by simpa using I.len⟩ ⟨c,hs,.inr hc⟩
  .exact(hs.2 b<|AGE<|AGM (Heap.lt_size e)<|I.ok.IV x c t hc).trans (I.base.keep b o e n D O)
  .obtain⟨sl,Y⟩:=I.base.slot b o e n D O;exact⟨sl,(hs.2 b<|AGE<|AGM (Heap.lt_size e)<|I.ok.IV x c t hc).trans Y⟩
  .obtain⟨o',Y⟩:=I.base.there b o e O;exact⟨o',(hs.2 b<|AGE<|AGM (Heap.lt_size e)<|I.ok.IV x c t hc).trans Y⟩
  .by_cases F:j=i
   .subst F;rw[hi]at Y;cases Y;rw[AHd MB]at P;cases P;exact⟨u,r,.inr ⟨.inl hk,c,hc,HX⟩⟩
   .rw[AGN<|AGr F]at P;obtain⟨S,T,q⟩:=hl j y G Y P e3;refine⟨S,T,?_⟩;rcases q with q|⟨k,B,e,z'⟩
    .exact .inl q
    .refine .inr ⟨k,B,e,z'.sameBut hs ?_⟩;rintro rfl;exact F<|W8 f Y<|I.ok.inj _ _ _ e hc ▸ hi
  .by_cases HY:B=c
   .subst HY;exact⟨_,HX⟩
   .obtain⟨w2,z2⟩:=I.cell y B e;exact⟨w2,z2.sameBut hs HY⟩
  .obtain⟨e,n,ne,C,d⟩:=I.pin p hp;refine⟨(hs.2 p.1 ?_).trans e,n,ne,C,d⟩;intro q;rw[q,fX]at e;have q':=AGT e;exact d R (by rw[<-q'];exact u6)
theorem Mx{M:Model}{A:Around}{E:Value->Shared->Prop}{i:Nat}{x:Str}{v:V}{u:Value}{Q:Unit->Shared->Prop}(I:Inv X AB σ H s)(z:X.N.Nodup)(hi:X.N[i]? = some x)(y:Loc X.env.scope x)(r:RelV v u) (h:∀s',Inv X AB (σ.set i<|some v) H s'->Q () s') (q:X.fn x=true\/X.env.scope.names.lookup x=some .local:=by first|exact .inl rfl|exact .inr rfl|assumption):wpAny M A (storeName X.env x u) Q E s:=
 kZ I z hi y r (λs' p _=>h s' p) q
theorem Inv.ZK{s':Shared}{ch:List Addr}(I:Inv X AB σ H s)(ho:s'.os=s.os)(u:Un (Cp X.stack) ch H H' s.heap s'.heap)(AZ:Bl X.prog X.w H' s'.heap)(z:AllBare s'.gens) (y:∀b∈ch,(b∈X.ex\/X.B5.heap.objs.size<=b)/\b≠X.env.locals/\(∀x c,X.env.cells.lookup x=some c->c≠b)/\∀p∈X.pn++AB,p.1≠b):Inv X AB σ H' s':=by obtain⟨h',g',d',t',o'⟩:=s';have e:o'=s.os:=ho;subst e;exact I.call u AZ z y
end
abbrev XK:=Value->Option Addr->Hp->Prop
abbrev St:=List<|Option V
abbrev VK:=V->Hp->Prop
abbrev TE:=St->Hp->VK->Prop
abbrev TT:=St->Hp->(Bool->Hp->Prop)->Prop
abbrev TA:=St->Hp->(List V->Hp->Prop)->Prop
structure Ends where
 nx:St->Hp->Prop
 rt:VK
 bk:St->Hp->Prop:=λ_ _=>False
 ct:St->Hp->Prop:=λ_ _=>False
abbrev TS:=Ends->St->Hp->Prop
def EP(X:Cx)(AB:List<|Addr×Obj)(σ:St)(Q:VK)(u:Value)(s':Shared):Prop:=∃v H',Inv X AB σ H' s'/\RelV v u/\Q v H'
def TP(X:Cx)(AB:List<|Addr×Obj)(σ:St)(Q:Bool->Hp->Prop)(b:Bool)(s':Shared):Prop:=∃H',Inv X AB σ H' s'/\Q b H'
def AP(X:Cx)(AB:List<|Addr×Obj)(σ:St)(Q:List V->Hp->Prop)(us:List Value)(s':Shared):Prop:=∃vs H',Inv X AB σ H' s'/\Ao vs us/\Q vs H'
def SP(X:Cx)(AB:List<|Addr×Obj)(D:Ends)(f:Flow)(s':Shared):Prop:=
 match f with
 |.next=>∃z H',Inv X AB z H' s'/\D.nx z H'
 |.brk=>∃z H',Inv X AB z H' s'/\D.bk z H'
 |.cont=>∃z H',Inv X AB z H' s'/\D.ct z H'
 |.ret u=>∃v z H',Inv X AB z H' s'/\RelV v u/\D.rt v H'
def PE(X:Cx)(e:Expr)(t:TE):Prop:=
 ∀(AB:List<|Addr×Obj)(s:Shared)(σ:St)(H:Hp)(Q:VK),Inv X AB σ H s->t σ H Q->wpAny (model X.prog X.w) X.A (eval e X.env) (EP X AB σ Q) X.xe s
def PT(X:Cx)(e:Expr)(t:TT):Prop:=
 ∀(AB:List<|Addr×Obj)(s:Shared)(σ:St)(H:Hp)(Q:Bool->Hp->Prop),Inv X AB σ H s->t σ H Q->wpAny (model X.prog X.w) X.A (isTrue e X.env<|eval e X.env) (TP X AB σ Q) X.xe s
def PW(X:Cx)(e:Expr)(t:TT):Prop:=
 ∀(whole:Sem Value)(AB:List<|Addr×Obj)(s:Shared)(σ:St)(H:Hp)(Q:Bool->Hp->Prop),Inv X AB σ H s->t σ H Q->wpAny (model X.prog X.w) X.A (isTrue e X.env whole) (TP X AB σ Q) X.xe s
theorem PW.pt{X:Cx}{e:Expr}{t:TT}(h:PW X e t):PT X e t:=h _
def PA(X:Cx)(es:List Expr)(t:TA):Prop:=
 ∀(pos:Pos)(AB:List<|Addr×Obj)(s:Shared)(σ:St)(H:Hp)(Q:List V->Hp->Prop),Inv X AB σ H s->t σ H Q->wpAny (model X.prog X.w) X.A (spliced<|backTo pos<|starEach es X.env) (AP X AB σ Q) X.xe s
def PS(X:Cx)(st:Stmt)(t:TS):Prop:=
 ∀(AB:List<|Addr×Obj)(s:Shared)(σ:St)(H:Hp)(D:Ends),Inv X AB σ H s->t D σ H->wpAny (model X.prog X.w) X.A (exec st X.env) (SP X AB D) X.xe s
def CP(X:Cx)(st:List Stmt)(t:TS):Prop:=
 ∀(AB:List<|Addr×Obj)(s:Shared)(σ:St)(H:Hp)(D:Ends),Inv X AB σ H s->t D σ H->wpAny (model X.prog X.w) X.A (execs st X.env) (SP X AB D) X.xe s
theorem Ag{α:Type}{t:Sem α}{Q z:α->Shared->Prop}{M:Model}{A:Around}{E:Value->Shared->Prop}{s:Shared}(h:wpAny M A t Q E s)(y:∀a s,Q a s->z a s):wpAny M A t z E s:=wpAny_mono h y λ_ _ x=>x
section
variable{X:Cx}
def YG(i:Nat):TE:=λσ H Q=>∃v,σ[i]? = some (some v)/\Q v H
def tC(v:V):TE:=λ_ H Q=>Q v H
theorem Hr{i:Nat}{x:Str}{pos:Pos}(q:X.N[i]? = some x)(p:Ez X.env.scope x)(hd:(x==("__debug__"))=false:=by decide)(Z:(x==("__classdict__"))=false:=by decide):PE X (.Name x pos)<|YG i:=by
 intro AB s σ H Q I h;obtain⟨v,e,h⟩:=h;obtain⟨m,hn,Y⟩:=I.loc;obtain⟨u,r,l⟩:=Y i x v q e p;have fin:EP X AB σ Q u s:=⟨v,H,I,r,h⟩;rcases l with⟨z,hm⟩|⟨z,c,hc,y⟩
 .exact wpAny_Name (wpAny_loadName_local I.ok.kind z hn hm fin) hd
 .rcases z with z|z
  .exact wpAny_Name (wpAny_loadName_cell I.ok.kind z hc y fin) hd
  .exact wpAny_Name (wpAny_loadName_free I.ok.kind z hc y fin Z) hd
theorem jQ{i j pos}:PE X (.Constant (.int i) j pos)<|tC<|.int i:=λ_ _ _ H _ I h=>wpAny_Constant_int ⟨.int i,H,I.tok _,⟨_,rfl⟩,h⟩
theorem zg{b j pos}:PE X (.Constant (.bool b) j pos)<|tC<|.bl b:=λ_ _ _ H _ I h=>Constant_bool ⟨.bl b,H,I,rfl,h⟩
theorem zx{j pos}:PE X (.Constant .none j pos)<|tC .Au:=λ_ _ _ H _ I h=>Constant_none ⟨.Au,H,I,rfl,h⟩
theorem jR{x j pos}:PE X (.Constant (.str x) j pos)<|tC<|.str x:=λ_ _ _ H _ I h=>Calls.Constant_str ⟨.str x,H,I.tok _,⟨_,rfl⟩,h⟩
def Gl(X:Cx)(x:Str):Prop:=X.env.kindOf x=some .globalImplicit
theorem Oj{E:Value->Shared->Prop}{AB:List (Addr×Obj)}{s:Shared}{σ:St}{H:Hp}{x:Str}{u:Value}{pos:Pos}{Q:Value->Shared->Prop}(I:Inv X AB σ H s)(z:Gl X x)(hm:X.mg x=some u)(h:Q u s) (hd:(x==("__debug__"))=false:=by decide):wpAny (model X.prog X.w) X.A (eval (.Name x pos) X.env) Q E s:=
 Calls.Name_function_global I.ok.kind z (Calls.loadGlobal_global (by rw[I.ok.glob];exact I.mod.glob.keeps I.bk) hm h) hd
theorem Oi{E:Value->Shared->Prop}{AB:List (Addr×Obj)}{s:Shared}{σ:St}{H:Hp}{x:Str}{u:Value}{pos:Pos}{Q:Value->Shared->Prop}(I:Inv X AB σ H s)(z:Gl X x)(hm:X.mg x=none)(y:bootBuiltins x=some u)(h:Q u s) (hn:x≠"__name__":=by decide) (hd:(x==("__debug__"))=false:=by decide):wpAny (model X.prog X.w) X.A (eval (.Name x pos) X.env) Q E s:=by obtain⟨mb,q,v⟩:=I.mod.blt;exact Calls.Name_function_global I.ok.kind z (Calls.loadGlobal_builtin (by rw[I.ok.glob];exact I.mod.glob.keeps I.bk) hm (by rw[I.ok.blt];exact q.keeps I.bk) ((v x hn).trans y) h) hd
theorem XY{x:Str}{v:V}{u:Value}{pos:Pos}(z:Gl X x)(hm:X.mg x=some u)(r:RelV v u)(hd:(x==("__debug__"))=false:=by decide):PE X (.Name x pos)<|tC v:=
 λ_ _ _ H _ I h=>Oj I z hm ⟨v,H,I,r,h⟩ hd
theorem XW{x:Str}{v:V}{u:Value}{pos:Pos}(z:Gl X x)(hm:X.mg x=none)(y:bootBuiltins x=some u)(r:RelV v u)(hn:x≠"__name__":=by decide)(hd:(x==("__debug__"))=false:=by decide):PE X (.Name x pos)<|tC v:=
 λ_ _ _ H _ I h=>Oi I z hm y ⟨v,H,I,r,h⟩ hn hd
variable{a b:Expr}{ta tb:TE}{pos:Pos}
def tB(t:TE):TT:=λσ H Q=>t σ H λx z=>∃c,x=.bl c/\Q c z
theorem AAo{e:Expr}{t:TE}(h:PE X e t)(he:∀whole,isTrue e X.env whole=(do let v<-whole;standAt e.pos;holding [v] (truthy v)):=by intro _;rfl):PT X e<|tB t:=by intro AB s σ H Q I z;refine isTrue_plain (Ag (h AB s σ H _ I z) ?_)<|he _;rintro v s1 ⟨x,y,p,Z,Y⟩;obtain⟨d,rfl,q⟩:=Y;cases Z;exact wpAny_truthy_bool ⟨y,p,q⟩
variable{tA S9:TT}{BB:List Expr}
def km(t u:TT):TT:=λσ H Q=>t σ H λc z=>if c=true then u σ z Q else Q false z
def kx(t u:TT):TT:=λσ H Q=>t σ H λc z=>if c=true then Q true z else u σ z Q
def ADn(t:TT):TT:=λσ H Q=>t σ H λc z=>Q (!c) z
theorem AAv(ha:PT X a tA):PW X (.BoolOp .And [a] pos) tA:=by
 intro wh AB s σ H Q I h;refine isTrue_and<|Ag (ha AB s σ H Q I h) λc s1 e=>?_;cases c with
 |true=>exact isTrue_and_nil e
 |false=>exact e
theorem AAx(ha:PT X a tA):PW X (.BoolOp .Or [a] pos) tA:=by
 intro wh AB s σ H Q I h;refine isTrue_or<|Ag (ha AB s σ H Q I h) λc s1 e=>?_;cases c with
 |false=>exact isTrue_or_nil e
 |true=>exact e
theorem AAu(ha:PT X a tA)(v:PW X (.BoolOp .And (b::BB) pos) S9):PW X (.BoolOp .And (a::b::BB) pos)<|km tA S9:=by
 intro p AB s σ H Q I h;refine isTrue_and<|Ag (ha AB s σ H _ I h) ?_;rintro c s1 ⟨z,y,q⟩;cases c with
 |true=>exact v p AB s1 σ z Q y q
 |false=>exact⟨z,y,q⟩
theorem AAw(ha:PT X a tA)(v:PW X (.BoolOp .Or (b::BB) pos) S9):PW X (.BoolOp .Or (a::b::BB) pos)<|kx tA S9:=by
 intro p AB s σ H Q I h;refine isTrue_or<|Ag (ha AB s σ H _ I h) ?_;rintro c s1 ⟨z,y,q⟩;cases c with
 |true=>exact⟨z,y,q⟩
 |false=>exact v p AB s1 σ z Q y q
theorem AAm(ha:PT X a tA):PT X (.UnaryOp .Not a pos)<|ADn tA:=by intro AB s σ H Q I h;exact isTrue_not<|ha AB s σ H (λc z=>Q (!c) z) I h
def ADV(ta tb:TE):TE:=λσ H Q=>ta σ H λx z=>∃c,x=.bl c/\if c=true then tb σ z Q else Q (.bl false) z
def ADp(ta tb:TE):TE:=λσ H Q=>ta σ H λx z=>∃c,x=.bl c/\if c=true then Q (.bl true) z else tb σ z Q
def ADo(ta:TE):TE:=λσ H Q=>ta σ H λx z=>∃c,x=.bl c/\Q (.bl (!c)) z
theorem z9{op}{t:TE}(h:PE X a t):PE X (.BoolOp op [a] pos) t:=λAB s σ H Q I z=>BoolOp_one<|h AB s σ H Q I z
theorem zf(ha:PE X a ta)(p:PE X (.BoolOp .And (b::BB) pos) tb):PE X (.BoolOp .And (a::b::BB) pos)<|ADV ta tb:=by
 intro AB s σ H Q I h;refine BoolOp_and<|Ag (ha AB s σ H _ I h) ?_;rintro v s1 ⟨x,y,q,Z,z⟩;obtain⟨c,rfl,z⟩:=z;cases Z;refine wpAny_truthy_bool ?_;cases c with
 |true=>exact p AB s1 σ y Q q z
 |false=>exact⟨.bl false,y,q,rfl,z⟩
theorem AAB(ha:PE X a ta)(p:PE X (.BoolOp .Or (b::BB) pos) tb):PE X (.BoolOp .Or (a::b::BB) pos)<|ADp ta tb:=by
 intro AB s σ H Q I h;refine BoolOp_or<|Ag (ha AB s σ H _ I h) ?_;rintro v s1 ⟨x,y,q,Z,z⟩;obtain⟨c,rfl,z⟩:=z;cases Z;refine wpAny_truthy_bool ?_;cases c with
 |false=>exact p AB s1 σ y Q q z
 |true=>exact⟨.bl true,y,q,rfl,z⟩
theorem zy(ha:PE X a ta):PE X (.UnaryOp .Not a pos)<|ADo ta:=by intro AB s σ H Q I h;refine UnaryOp_<|Ag (ha AB s σ H _ I h) ?_;rintro v s1 ⟨x,y,q,p,z⟩;obtain⟨c,rfl,z⟩:=z;cases p;exact not_of<|wpAny_truthy_bool ⟨.bl (!c),y,q,rfl,z⟩
def tIf(t:TT)(ta tb:TE):TE:=λσ H Q=>t σ H λc z=>if c=true then ta σ z Q else tb σ z Q
theorem zu{c:Expr}(hc:PT X c tA)(ha:PE X a ta)(v:PE X b tb):PE X (.IfExp c a b pos)<|tIf tA ta tb:=by
 intro AB s σ H Q I h;refine wpAny_IfExp<|Ag (hc AB s σ H _ I h) ?_;rintro d s1 ⟨z,y,q⟩;cases d with
 |true=>exact ha AB s1 σ z Q y q
 |false=>exact v AB s1 σ z Q y q
end
def CF(K:PySem.W.Frag)(H:Hp)(a:Addr)(xs:List V):Prop:=
 Rd H a (.lst xs)\/∃(o:Obj)(its:Array Value)(n:Nat),K.lookup a=some o/\o.cls=.type "list"/\o.dict=none/\o.data=.seq its n/\its.size<=sizeLine/\Ao xs its.toList
def Bi(K:PySem.W.Frag)(H:Hp)(a:Addr)(xs:List V):Prop:=
 Rd H a (.tup xs)\/∃(o:Obj)(its:Array Value)(n:Nat),K.lookup a=some o/\o.cls=.type "tuple"/\o.data=.seq its n/\its.size<=sizeLine/\Ao xs its.toList
noncomputable def nT:Value->Option V
 |.none=>some .Au
 |.bool b=>some<|.bl b
 |.int i _=>some<|.int i
 |.str x _=>some<|.str x
 |.bytes b _=>some<|.Nk b
 |.float b _=>some<|.Dj b
 |.ref a=>some<|.ref a
 |.type n=>some<|.ty n
 |_=>none
theorem RelV.abs{x:V}{u:Value}(r:RelV x u):nT u=some x:=by
 cases x with
 |Au=>cases r;rfl
 |bl _=>cases r;rfl
 |int _=>obtain⟨t,rfl⟩:=r;rfl
 |str _=>obtain⟨t,rfl⟩:=r;rfl
 |Nk _=>obtain⟨t,rfl⟩:=r;rfl
 |Dj _=>obtain⟨t,rfl⟩:=r;rfl
 |ref _=>cases r;rfl
 |ty _=>cases r;rfl
theorem RelV.inj{x y:V}{u:Value}(r:RelV x u)(q:RelV y u):x=y:=AGT<|r.abs.symm.trans q.abs
theorem Ao.inj:∀{xs z:List V}{us:List Value},Ao xs us->Ao z us->xs=z:=by
 intro xs z us h
 induction h generalizing z with
 |nil=>intro g;cases g;rfl
 |cons r t ih=>
  intro g;cases g with
  |cons r' t'=>rw[r.inj r',ih t']
section
variable{X:Cx}{AB:List (Addr×Obj)}{σ:St}{H:Hp}{s:Shared}{a:Addr}{xs ys:List V}
theorem Inv.list(I:Inv X AB σ H s)(h:CF X.K H a xs):∃its:List Value,Ao xs its/\PlainL s.heap a its.toArray/\xs.length<=sizeLine:=by
 rcases h with h|⟨o,its,n,y,hc,hd,hs,hz,r⟩
 .obtain⟨z,its,n,r,e⟩:=h.ok I.AZ;exact⟨its,r,⟨_,n,e,rfl,rfl,rfl⟩,z⟩
 .refine⟨its.toList,r,⟨o,n,I.BS a o y,hc,hd,by simpa using hs⟩,?_⟩;have e:=r.length;simp only[AGp]at e;lia
theorem Inv.tuple(I:Inv X AB σ H s)(h:Bi X.K H a xs):∃its:List Value,Ao xs its/\IsTup s.heap a its.toArray/\xs.length<=sizeLine:=by
 rcases h with h|⟨o,its,n,y,hc,hs,hz,r⟩
 .obtain⟨z,its,r,p⟩:=h.ok I.AZ;exact⟨its,r,p,z⟩
 .refine⟨its.toList,r,⟨o,I.BS a o y,hc,n,by simpa using hs⟩,?_⟩;have e:=r.length;simp only[AGp]at e;lia
theorem Inv.xG(I:Inv X AB σ H s)(h:CF X.K H a xs)(h':CF X.K H a ys):xs=ys:=by
 obtain⟨its,r,⟨o,n,e,_,_,d⟩,_⟩:=I.list h;obtain⟨Rb,q,⟨o',n',z,_,_,y⟩,_⟩:=I.list h';rw[e]at z;cases z;rw[d]at y;injection y with d1 _
 have:=by simpa using AG5 Array.toList d1
 subst this;exact r.inj q
end
noncomputable abbrev Cx.G0(X:Cx)(E:Value->Shared->Prop):Cx:={X with xe:=E}
abbrev Cx.Gk(X:Cx):Cx:=X.G0 λ_ _=>False
theorem Cx.Ok.G0{X:Cx}(ok:X.Ok)(E:Value->Shared->Prop):(X.G0 E).Ok:=
 ⟨ok.mod,ok.kind,ok.glob,ok.blt,ok.above,ok.inj,ok.has,ok.IV,ok.hd,ok.frames,ok.Es,ok.Jj,ok.bs,ok.FZ,ok.JG,ok.Ii,ok.EC,ok.GW⟩
theorem Cx.Ok.JO{X:Cx}{E:Value->Shared->Prop}(ok:(X.G0 E).Ok):X.Ok:=
 ⟨ok.mod,ok.kind,ok.glob,ok.blt,ok.above,ok.inj,ok.has,ok.IV,ok.hd,ok.frames,ok.Es,ok.Jj,ok.bs,ok.FZ,ok.JG,ok.Ii,ok.EC,ok.GW⟩
section
variable{X:Cx}{AB:List (Addr×Obj)}{σ:St}{H:Hp}{s:Shared}{E:Value->Shared->Prop}
theorem Inv.G0(I:Inv X AB σ H s)(E:Value->Shared->Prop):Inv (X.G0 E) AB σ H s:=⟨I.ok.G0 E,I.os,I.bare,I.base,I.loc,I.cell,I.free,I.EB,I.pin,I.AZ,I.len⟩
theorem Inv.JO(I:Inv (X.G0 E) AB σ H s):Inv X AB σ H s:=⟨I.ok.JO,I.os,I.bare,I.base,I.loc,I.cell,I.free,I.EB,I.pin,I.AZ,I.len⟩
theorem SP.JO{D:Ends}{f:Flow}{s':Shared}(h:SP (X.G0 E) AB D f s'):SP X AB D f s':=by
 cases f with
 |next=>obtain⟨z,H',I,q⟩:=h;exact⟨z,H',I.JO,q⟩
 |brk=>obtain⟨z,H',I,q⟩:=h;exact⟨z,H',I.JO,q⟩
 |cont=>obtain⟨z,H',I,q⟩:=h;exact⟨z,H',I.JO,q⟩
 |ret u=>obtain⟨v,z,H',I,r,q⟩:=h;exact⟨v,z,H',I.JO,r,q⟩
theorem CP.Gk{st:List Stmt}{t:TS}(h:CP X.Gk st t):CP X st t:=λAB s σ H D I y=>
 wpAny_mono (h AB s σ H D (I.G0 _) y) (λ_ _ q=>q.JO) λ_ _ z=>False.elim z
end
section
variable{X:Cx}{st:Stmt}{BB:List Stmt}{t u:TS}{e:Expr}{te:TE}{pos:Pos}
def ADk:TS:=λD σ H=>D.nx σ H
def ADv(t u:TS):TS:=λD σ H=>t {D with nx:=u D} σ H
theorem AAi:CP X [] ADk:=λ_ _ σ H _ I h=>wpAny_execs_nil ⟨σ,H,I,h⟩
theorem je(z:PS X st t)(y:CP X BB u):CP X (st::BB)<|ADv t u:=by
 intro AB s σ H D I h;refine wpAny_execs_cons<|Ag (z AB s σ H {D with nx:=u D} I h) λf s1 q=>?_;cases f with
 |next=>
  obtain⟨p,H',Z,q⟩:=q;exact y AB s1 p H' D Z q
 |ret v=>exact q
 |brk=>exact q
 |cont=>exact q
theorem jf(z:PS X st t):CP X [st] t:=by
 intro AB s σ H D I h;refine wpAny_execs_cons<|Ag (z AB s σ H D I h) λf s1 q=>?_;cases f with
 |next=>exact wpAny_execs_nil q
 |ret v=>exact q
 |brk=>exact q
 |cont=>exact q
theorem Inv.quiet{AB:List (Addr×Obj)}{σ:St}{H:Hp}{s:Shared}(I:Inv X AB σ H s):interactive X.env=false:=by simp[interactive,I.ok.kind]
def ku(te:TE):TS:=λD σ H=>te σ H λ_ z=>D.nx σ z
theorem Sh(he:PE X e te)(hs:swapsWith e none pos.line X.env=pure false:=by rfl):PS X (.Expr e pos)<|ku te:=by intro AB s σ H D I h;exact wpAny_Expr_any (Ag (he AB s σ H _ I h) (by rintro v s1 ⟨x,z,y,r1,q⟩;exact⟨σ,z,y,q⟩)) I.quiet hs
def ADt(te:TE):TS:=λD σ H=>te σ H D.rt
theorem Xb(he:PE X e te):PS X (.Return (some e) pos)<|ADt te:=by intro AB s σ H D I h;exact wpAny_Return_some<|Ag (he AB s σ H _ I h) (by rintro v s1 ⟨x,z,y,q,p⟩;exact⟨x,σ,z,y,q,p⟩)
def ADf(c:TT)(t u:TS):TS:=λD σ H=>c σ H λb z=>if b=true then t D σ z else u D σ z
theorem jd{c:Expr}{a b:List Stmt}{z:TT}(hc:PT X c z)(ha:CP X a t)(p:CP X b u):PS X (.If c a b pos)<|ADf z t u:=by
 intro AB s σ H D I h;refine wpAny_If<|Ag (hc AB s σ H _ I h) ?_;rintro d s1 ⟨y,q,v⟩;cases d with
 |true=>exact ha AB s1 σ y D q v
 |false=>exact p AB s1 σ y D q v
def ADj:TS:=λ_ _ _=>False
theorem AAc:PS X st ADj:=λ_ _ _ _ _ _ h=>h.elim
end
abbrev TG:=V->St->Hp->(St->Hp->Prop)->Prop
abbrev IQ:=List V->St->Hp->(St->Hp->Prop)->Prop
def PG(X:Cx)(y:Expr)(t:TG):Prop:=
 ∀(AB:List<|Addr×Obj)(s:Shared)(σ:St)(H:Hp)(v:V)(u:Value)(Q:St->Hp->Prop),Inv X AB σ H s->RelV v u->t v σ H Q->wpAny (model X.prog X.w) X.A (assign y X.env u) (λ_ s'=>∃z H',Inv X AB z H' s'/\Q z H') X.xe s
def HF(X:Cx)(ts:List Expr)(t:IQ):Prop:=
 ∀(AB:List<|Addr×Obj)(s:Shared)(σ:St)(H:Hp)(vs:List V)(us:List Value)(Q:St->Hp->Prop),Inv X AB σ H s->Ao vs us->t vs σ H Q->wpAny (model X.prog X.w) X.A (assignInOrder ((assignEach ts X.env).map (·.2)) us) (λ_ s'=>∃z H',Inv X AB z H' s'/\Q z H') X.xe s
section
variable{X:Cx}{pos:Pos}
def N8(i:Nat):TG:=λv σ H Q=>Q (σ.set i<|some v) H
theorem AAF{i:Nat}{x:Str}(z:X.N.Nodup)(hi:X.N[i]? = some x)(y:Loc X.env.scope x)(q:X.fn x=true\/X.env.scope.names.lookup x=some .local:=by first|exact .inl rfl|exact .inr rfl|assumption):PG X (.Name x pos)<|N8 i:=by intro AB s σ H v u Q I r h;exact wpAny_assign_Name<|Mx I z hi y r (λs' p=>⟨_,H,p,h⟩) q
def sS:IQ:=λvs σ H Q=>vs=[]/\Q σ H
def sN(t:TG)(u:IQ):IQ:=λvs σ H Q=>∃v r,vs=v::r/\t v σ H λz H'=>u r z H' Q
theorem AAI:HF X [] sS:=by intro AB s σ H vs us Q I r h;obtain⟨e,h⟩:=h;exact assignInOrder_nil ⟨σ,H,I,h⟩
theorem AAH{e:Expr}{es:List Expr}{t:TG}{u:IQ}(z:PG X e t)(y:HF X es u) (hs:(assignEach (e::es) X.env).map (·.2)=assign e X.env::(assignEach es X.env).map (·.2):=by rfl):HF X (e::es)<|sN t u:=by
 intro AB s σ H vs us Q I r h;obtain⟨v,vr,q,h⟩:=h;subst q;cases r with
 |cons r rr=>
  rw[hs];refine assignInOrder_cons<|Ag (z AB s σ H _ _ _ I r h) ?_;rintro _ s1 ⟨p,Z,Y,O⟩;exact y AB s1 p Z _ _ Q Y rr O
def sT(K:PySem.W.Frag)(n:Nat)(t:IQ):TG:=λv σ H Q=>∃a xs,v=.ref a/\Bi K H a xs/\xs.length=n/\t xs σ H Q
theorem AAG{es:List Expr}{k:Nat}{t:IQ}{n:Nat}(hc:X.calm=true)(h:HF X es t) (hn:(assignEach es X.env).length=n:=by rfl) (y:(assignEach es X.env).findIdx? (·.1)=none:=by rfl):PG X (.Tuple es k pos)<|sT X.K n t:=by intro AB s σ H v u Q I r z;obtain⟨a,xs,q,p,Z,z⟩:=z;subst q;cases r;obtain⟨its,rv,Y,hz⟩:=I.tuple p;refine assign_Tuple_tuple (I.ok.hd hc) Y (by simp[hn,<-Z,rv.length]) y λh' O=>?_;have P:Inv X AB σ H {s with heap:=h'}:=I.kept λb o e=>O b o (AGE<|Heap.lt_size e) e;exact h AB _ σ H xs _ Q P (by simpa using rv) z
def Pd(te:TE)(g:TG):TS:=λD σ H=>te σ H λx z=>g x σ z D.nx
theorem AAZ{tg e:Expr}{te:TE}{g:TG}(he:PE X e te)(z:PG X tg g)(hs:swapsWithSole [tg] e pos.line X.env=pure false:=by rfl)(y:swappedStores [tg] e X.env=pure none:=by rfl) (p:(assignEach [tg] X.env).map (·.2)=[assign tg X.env]:=by rfl):PS X (.Assign [tg] e pos)<|Pd te g:=by intro AB s σ H D I h;refine wpAny_Assign_stores (Ag (he AB s σ H _ I h) ?_) hs y;rintro v s1 ⟨x,Z,Y,Q,O⟩;rw[p];exact Ag (z AB s1 σ Z x v _ Y Q O) λ_ s2 q=>q
theorem Si{i:Nat}{x:Str}{e:Expr}{te:TE}{z:Pos}(q:X.N.Nodup)(hi:X.N[i]? = some x)(p:Loc X.env.scope x)(he:PE X e te)(hs:swapsWith e (some<|.Name x z) pos.line X.env=pure false:=by rfl)(Z:X.fn x=true\/X.env.scope.names.lookup x=some .local:=by first|exact .inl rfl|exact .inr rfl|assumption) : PS X (.Assign [.Name x z] e pos)<|Pd te<|N8 i:=by intro AB s σ H D I h;refine wpAny_Assign_Name (Ag (he AB s σ H _ I h) ?_) hs;rintro v s1 ⟨y,Y,Q,O,P⟩;exact Mx Q q hi p O (λs2 F=>⟨_,Y,F,P⟩) Z
def ADq(i j:Nat)(z:TA):TS:=λD σ H=>z σ H λvs y=>∃v w,vs=[v,w]/\D.nx ((σ.set i<|some v).set j<|some w) y
theorem AAd{i j:Nat}{x y:Str}{a b:Expr}{P:TA}{Y Q pt:Pos}{kt k2 LO}(hc:X.calm=true)(F:X.N.Nodup)(hi:X.N[i]? = some x)(T:X.N[j]? = some y)(C:i≠j) (R:X.env.scope.names.lookup x=some .local) (B:X.env.scope.names.lookup y=some .local) (ha:PA X [a,b] P) (E:swappedStores [.Tuple [.Name x Y,.Name y Q] kt pt] (.Tuple [a,b] k2 LO) X.env=pure (some [x,y])) (hs:swapsWithSole [.Tuple [.Name x Y,.Name y Q] kt pt] (.Tuple [a,b] k2 LO) pos.line X.env=pure false:=by rfl) : PS X (.Assign [.Tuple [.Name x Y,.Name y Q] kt pt] (.Tuple [a,b] k2 LO) pos)<|ADq i j P:=by
 intro AB s σ H D I h;refine wpAny_bind<|wpAny_standAt ?_;refine wpAny_bind<|wpAny_pure ?_;refine wpAny_bind<|Tuple_<|Ag (ha _ AB s σ H _ I h) ?_;rintro us s1 ⟨vs,G,n,t,O⟩;obtain⟨v,w,f,O⟩:=O;subst f;obtain⟨z,Z,rfl,rv,DD⟩:∃z Z,us=[z,Z]/\RelV v z/\RelV w Z:=by
  cases t with
  |cons p q=>
   cases q with
   |cons p' q'=>
    cases q';exact⟨_,_,rfl,p,p'⟩
 refine wpAny_newObj_type ?_ (by show 2<=sizeLine;decide);have I2:Inv X AB σ G {s1 with heap:=s1.heap.push {cls:=.type "tuple",data:=.seq [z,Z].toArray}}:=n.kept λb o e=>Heap.get?_push_of_some _ e;rw[E];refine wpAny_bind<|wpAny_pure ?_;refine wpAny_bind<|wpAny_rule<|wpAny_bind<|unpackItems_tuple (items:=#[z,Z]) (I.ok.hd hc) (IsTup.new s1.heap _) λh' Hd=>?_;have I3:=I2.kept (t':=s1.toks) λb o e=>Hd b o (AGE<|Heap.lt_size e) e;refine wpAny_bind<|assignInOrder_cons<|wpAny_bindName<|Mx I3 F T (.inl B) DD (λs2 I4=>?_)<|.inr B;refine assignInOrder_cons<|wpAny_bindName<|Mx I4 F hi (.inl R) rv (λs3 S=>assignInOrder_nil<|wpAny_pure ?_)<|.inr R;rw[List.set_comm _ _<|AGr C]at S;exact⟨_,G,S,O⟩
end
section
variable{X:Cx}{pos:Pos}
def ADz(c:TT)(tb:TS):TS:=λD σ H=>∃W:Nat->St->Hp->Prop,(∃m,W m σ H)/\∀m σ H,W m σ H->
 c σ H λb z=>if b=true then ∃N:St->Hp->Prop,(∀y H',N y H'->∃q,q<m/\W q y H')/\tb {D with nx:=N,ct:=N,bk:=D.nx} σ z else D.nx σ z
theorem AAh{c:Expr}{body:List Stmt}{O:TT}{tb:TS}(hp:PassesOwn (model X.prog X.w) X.A X.env X.xe)(hc:PT X c O)(S:CP X body tb):PS X (.While c body [] pos)<|ADz O tb:=by
 intro AB s σ H D I h;obtain⟨W,⟨T,C⟩,turn⟩:=h;refine wpAny_While<|codeAny_whileLoop (λn s'=>∃P H',Inv X AB P H' s'/\W n P H') ?_ T ⟨σ,H,I,C⟩;rintro n s1 ⟨q,F,E,t⟩;refine wpAny_passesOwn hp<|Ag (hc AB s1 q F _ E<|turn n q F t) ?_;rintro b s2 ⟨R,B,p⟩;cases b with
 |true=>
  obtain⟨N,G,p⟩:=p;refine wpAny_passesOwn hp<|Ag (S AB s2 q R _ B p) λf s3 q3=>?_;cases f with
  |next=>
   obtain⟨z,y,Z,Y⟩:=q3;obtain⟨Q,hm,w3⟩:=G z y Y;exact⟨Q,hm,z,y,Z,w3⟩
  |cont=>
   obtain⟨z,y,Z,Y⟩:=q3;obtain⟨Q,hm,w3⟩:=G z y Y;exact⟨Q,hm,z,y,Z,w3⟩
  |brk=>exact q3
  |ret v=>exact q3
 |false=>
  exact wpAny_execs_nil ⟨q,R,B,p⟩
end
structure It where
 go:Nat->Hp->Prop
 TZ:Nat->Hp->V->Hp->Prop
 stop:Nat->Hp->Prop
def GG(X:Cx)(AB:List<|Addr×Obj)(H:Hp)(b:Addr):Prop:=
 H b=none/\b≠X.env.locals/\b∉X.fs/\(b∈X.ex\/X.B5.heap.objs.size<=b)/\(∀x c,X.env.cells.lookup x=some c->c≠b)/\∀p∈X.pn++AB,p.1≠b
theorem Inv.Vb{X:Cx}{AB:List (Addr×Obj)}{σ:St}{H H':Hp}{s:Shared}{b:Addr}(I:Inv X AB σ H s)(y:s.heap.objs.size<=b)(hn:H' b=none):GG X AB H' b:=by
 refine⟨hn,Nat.ne_of_gt<|AGM I.lt y,I.yE y,.inr<|AGZ I.sz y,λx c e z=>?_,λp hp z=>?_⟩
 .obtain⟨v,q⟩:=I.cell x c e;exact absurd (AGM q.lt (by rw[z];exact y)) (AHq _)
 .exact absurd (AGM (Heap.lt_size (I.pin p hp).1) (by rw[z];exact y)) (AHq _)
structure Turn(P:Program)(w:World)(K:PySem.W.Frag)(tg:Expr)(J:It)(fp:List Addr)(it:Addr)(tn:Nat->Heap->Prop):Prop where
 mem:it∈fp
 obj:∀i h,tn i h->∀b∈fp,∃o,h.get? b=some o/\∀v,o.data≠.cell v
 keep:∀i h h',tn i h->(∀b∈fp,∀o,h.get? b=some o->h'.get? b=some o)->tn i h'
 item:∀(X:Cx),X.prog=P->X.w=w->X.K=K->X.calm=true->∀(i:Nat)(AB:List<|Addr×Obj)(s:Shared)(σ:St)(H:Hp)(E:Value->Shared->Prop),Inv X AB σ H s->(∀b∈fp,GG X AB H b)->tn i s.heap->J.go i H->wpAny (model P w) X.A (pyNext<|.ref it) (λr s1=>∃u,r=some u/\
   wpAny (model P w) X.A (letOwnedTupleGo tg (.ref it) u) (λ_ s2=>∃x H',Inv X AB σ H' s2/\RelV x u/\J.TZ i H x H'/\tn (i+1) s2.heap/\∀b∈fp,H' b=none) E s1) E s
 done:∀(X:Cx),X.prog=P->X.w=w->X.K=K->X.calm=true->∀(i:Nat)(AB:List<|Addr×Obj)(s:Shared)(σ:St)(H:Hp)(E:Value->Shared->Prop),Inv X AB σ H s->(∀b∈fp,GG X AB H b)->tn i s.heap->J.stop i H->wpAny (model P w) X.A (pyNext<|.ref it) (λr s1=>r=none/\Inv X AB σ H s1) E s
 self:∀(A:Around)(i:Nat)(s:Shared)(Q:Value->Shared->Prop)(E:Value->Shared->Prop),tn i s.heap->Q (.ref it) s->wpAny (model P w) A (pyIter<|.ref it) Q E s
abbrev TI:=St->Hp->(It->Hp->Prop)->Prop
def Yt(X:Cx)(AB:List<|Addr×Obj)(σ:St)(tg:Expr)(R:It->Hp->Prop)(z:Value)(s2:Shared):Prop:=
 ∃(it:Addr)(fp:List Addr)(tn:Nat->Heap->Prop)(J:It)(H':Hp),z=.ref it/\Inv X AB σ H' s2/\Turn X.prog X.w X.K tg J fp it tn/\tn 0 s2.heap/\(∀b∈fp,GG X AB H' b)/\R J H'
def PI(X:Cx)(tg z:Expr)(y:TI):Prop:=
 ∀(AB:List<|Addr×Obj)(s:Shared)(σ:St)(H:Hp)(R:It->Hp->Prop),Inv X AB σ H s->y σ H R->wpAny (model X.prog X.w) X.A (eval z X.env) (λv s1=>wpAny (model X.prog X.w) X.A (pyIter v) (Yt X AB σ tg R) X.xe s1) X.xe s
theorem eE{M:Model}{A:Around}{E:Value->Shared->Prop}{s:Shared}{tg:Expr}{it:Addr}{u:Value}{o:Obj}{n:String}{vs:Array Value}{Q:Unit->Shared->Prop}(ho:s.heap.get? it=some o)(hc:o.cls=.type n)(hd:o.data=.fields vs) (hn:["enumerate","zip","dict_itemiterator","dict_reverseitemiterator","odict_iterator","itertools.zip_longest","itertools.pairwise"].contains n=false) (z:Q () s):wpAny M A (letOwnedTupleGo tg (.ref it) u) Q E s:=by
 cases tg<;>first
  |exact wpAny_pure z
  |(cases u<;>first
   |exact wpAny_pure z
   |(
    refine wpAny_bind<|wpAny_load ho ?_;rw[hc,hd];show wpAny M A (if(["enumerate","zip","dict_itemiterator","dict_reverseitemiterator","odict_iterator","itertools.zip_longest","itertools.pairwise"].contains n&&vs[0]? == some (rawInt _))=true then _ else _) Q E s;rw[AF0 (by intro h;rw[hn]at h;contradiction)];exact wpAny_pure z))
noncomputable def UJ(K:PySem.W.Frag)(a:Addr):It:=
 ⟨λi H=>∃xs x,CF K H a xs/\xs[i]? = some x,λi H x H'=>H'=H/\∀xs,CF K H a xs->xs[i]? = some x,λi H=>∃xs,CF K H a xs/\xs.length<=i⟩
noncomputable def NT(lo:Int)(n:Nat):It:=⟨λi _=>i<n,λi H x H'=>H'=H/\x=.int (lo+i),λi _=>n<=i⟩
theorem AEO{P:Program}{w:World}{K:PySem.W.Frag}{tg:Expr}(a it:Addr):Turn P w K tg (UJ K a) [it] it (λi h=>h.IsListIter it a i) where
 mem:=AFn
 obj:=λi h st b y=>by
  have e:=by simpa using y
  subst e;obtain⟨o,e,c,d⟩:=st;exact⟨o,e,λv z=>by rw[d]at z;injection z⟩
 keep:=λi h h' st k=>st.at λo e=>k it AFn o e
 item:=by intro X Y Q O hc i AB s σ H E I q st D;subst Y Q O;obtain⟨xs,x,Z,F⟩:=D;obtain⟨its,rv,p,hz⟩:=I.list Z;obtain⟨u,S,T⟩:=rv.get F;obtain⟨R,f1,f2,f3,f4,B⟩:=q it AFn;refine wpAny_pyNext_list_item st p.isList (by simpa using S) λh' G C=>?_;have n:Inv X AB σ H {s with heap:=h'}:=I.turned (λb o y e=>(C.2 b y).trans e) R f1 f3 f4 B;obtain⟨o,e,c,d⟩:=id G;exact⟨u,rfl,eE e c d AFp ⟨x,H,n,T,⟨rfl,λys t=>by rw[I.xG t Z];exact F⟩,G,λb y=>(q b y).1⟩⟩
 done:=by intro X Y Q O hc i AB s σ H E I q st D;subst Y Q O;obtain⟨xs,Z,F⟩:=D;obtain⟨its,rv,p,hz⟩:=I.list Z;obtain⟨R,f1,f2,f3,f4,B⟩:=q it AFn;have hl:=rv.length;exact wpAny_pyNext_list_end (I.ok.hd hc) st p.isList (by simp;lia) λh' f=>⟨rfl,I.turned (λb o y e=>f b o y e) R f1 f3 f4 B⟩
 self:=λ_ _ _ _ _ st h=>wpAny_pyIter_listiter st h
theorem AEP{P:Program}{w:World}{K:PySem.W.Frag}{tg:Expr}(it:Addr)(lo:Int)(n:Nat):Turn P w K tg (NT lo n) [it] it (λi h=>IsRangeIter h it (lo+(i)*1) ((n)-(i)) 1) where
 mem:=AFn
 obj:=λi h st b y=>by
  have e:=by simpa using y
  subst e;exact⟨_,st,λv z=>by have R:Data.fields _=Data.cell v:=z;injection R⟩
 keep:=λi h h' st k=>k it AFn _ st
 item:=by intro X p Z Y hc i AB s σ H E I q st Q;subst p Z Y;obtain⟨O,f1,f2,f3,f4,D⟩:=q it AFn;have W:=Walks.range (prog:=X.prog) (w:=X.w) (I.ok.hd hc) it lo 1 n;refine W.item i s _ _ Q st λv h' tk B F kk=>?_;obtain⟨t,rfl⟩:=B;have G:Inv X AB σ H {s with heap:=h',toks:=tk}:=I.turned (λb o y e=>kk b o (by simpa using y) e) O f1 f3 f4 D;refine⟨_,rfl,eE F rfl rfl AFp ⟨.int<|lo+i,H,G,⟨t,?_⟩,⟨rfl,rfl⟩,F,λb y=>(q b y).1⟩⟩;rw[Int.mul_one]
 done:=by intro X p Z Y hc i AB s σ H E I q st Q;subst p Z Y;obtain⟨O,f1,f2,f3,f4,D⟩:=q it AFn;exact wpAny_pyNext_range_end (I.ok.hd hc) st (by have:n<=i:=Q;lia) λh' S=>⟨rfl,I.turned (λb o y e=>S b o y e) O f1 f3 f4 D⟩
 self:=λ_ _ _ _ _ st h=>wpAny_pyIter_rangeiter st h
section
variable{X:Cx}{tg:Expr}
def vb(K:PySem.W.Frag)(y:TE):TI:=λσ H R=>y σ H λx z=>∃a,x=.ref a/\(∃xs,CF K z a xs)/\R (UJ K a) z
theorem AAJ{l:Expr}{y:TE}(Z:PE X l y):PI X tg l<|vb X.K y:=by
 intro AB s σ H R I h;refine Ag (Z AB s σ H _ I h) ?_;rintro v s1 ⟨x,Y,z,Q,O⟩;obtain⟨a,e,⟨xs,P⟩,q⟩:=O;subst e;cases Q;obtain⟨its,rv,p,hz⟩:=z.list P;refine wpAny_pyIter_list p.isList ?_;refine⟨s1.heap.objs.size,[s1.heap.objs.size],_,_,Y,rfl,z.kept λb o e=>Heap.get?_push_of_some _ e,AEO a _,⟨_,Heap.get?_push_size _ rfl,rfl,rfl⟩,λb D=>?_,q⟩;have e:=by simpa using D
 subst e;exact z.Vb (AF5 _)<|z.AZ.fresh<|AF5 _
theorem jv{AB:List (Addr×Obj)}{σ:St}{H:Hp}{s:Shared}{R:It->Hp->Prop}{E:Value->Shared->Prop}{lo hi:Int}{t u v:Tok}{tk:Nat}(I:Inv X AB σ H s)(y : -(2 ^ 62)<=lo)(p:lo<2 ^ 62)(h3 : -(2 ^ 62)<=hi)(Z:hi<2 ^ 62) (q:R (NT lo (hi-lo).toNat) H):wpAny (model X.prog X.w) X.A (pyIter<|.ref s.heap.objs.size) (Yt X AB σ tg R) E {s with heap:=s.heap.push {cls:=.type "range",data:=.fields #[.int lo t,.int hi u,.int 1 v]},toks:=tk}:=by
 refine wpAny_pyIter_range (IsRange.new ..) (small_one y p h3 Z) ?_;have z:Inv X AB σ H {s with heap:=s.heap.push {cls:=.type "range",data:=.fields #[.int lo t,.int hi u,.int 1 v]},toks:=tk}:=I.kept λb o e=>Heap.get?_push_of_some _ e;refine⟨(s.heap.push {cls:=.type "range",data:=.fields #[.int lo t,.int hi u,.int 1 v]}).objs.size,[(s.heap.push {cls:=.type "range",data:=.fields #[.int lo t,.int hi u,.int 1 v]}).objs.size],_,_,H,rfl,z.kept λb o e=>Heap.get?_push_of_some _ e,AEP _ lo (hi-lo).toNat,?_,λb Y=>?_,q⟩
 .have Q:lo+((0:Nat))*1=lo:=AFn
  have O:(((hi-lo).toNat))-((0:Nat))=Builtin.Range.rangeSize lo hi 1:=by rw[rangeSize_one];split<;>lia
  rw[Q,O];exact Heap.get?_push_size _ rfl
 .have e:b=(s.heap.push {cls:=.type "range",data:=.fields #[.int lo t,.int hi u,.int 1 v]}).objs.size:=by simpa using Y
  subst e;exact z.Vb (AF5 _)<|z.AZ.fresh<|AF5 _
def vc(z:TA):TI:=λσ H R=>z σ H λvs y=>∃j:Int,vs=[.int j]/\-(2 ^ 62)<=j/\j<2 ^ 62/\R (NT 0 j.toNat) y
def vd(z:TA):TI:=λσ H R=>z σ H λvs y=>∃i j:Int,vs=[.int i,.int j]/\(-(2 ^ 62)<=i/\i<2 ^ 62/\-(2 ^ 62)<=j/\j<2 ^ 62)/\R (NT i (j-i).toNat) y
theorem AAK{a:Expr}{y:TA}{p pos:Pos}(v:Gl X "range")(hm:X.mg "range" = none)(ha:PA X [a] y)(hs:starEach [a] X.env=[(false,eval a X.env)]:=by rfl):PI X tg (.Call (.Name "range" p) [a] [] pos)<|vc y:=by
 intro AB s σ H R I h;refine Call_<|Oi I v hm boot_range<|AIO (Ag (ha pos AB s σ H _ I h) ?_) hs rfl;rintro us s1 ⟨vs,H1,Z,Y,z⟩;obtain⟨j,e,z,Q,q⟩:=z;subst e;cases Y with
 |cons r rr=>
  cases rr;obtain⟨t,rfl⟩:=r;exact call_range_1<|jv Z U AFo z Q<|by simpa using q
theorem AAL{a b:Expr}{y:TA}{p pos:Pos}(Z:Gl X "range")(hm:X.mg "range" = none)(ha:PA X [a,b] y)(hs:starEach [a,b] X.env=[(false,eval a X.env),(false,eval b X.env)]:=by rfl)(v:starEach [b] X.env=[(false,eval b X.env)]:=by rfl) : PI X tg (.Call (.Name "range" p) [a,b] [] pos)<|vd y:=by
 intro AB s σ H R I h;refine Call_ (Oi I Z hm boot_range<|AIO (Ag (ha pos AB s σ H _ I h) λus s1 ⟨vs,H1,Y,Q,z⟩=>?_) (by rw[hs,v]) (by rw[v];rfl));obtain⟨i,j,e,⟨z,O,q3,P⟩,q⟩:=z;subst e;cases Q with
 |cons r rr=>
  cases rr with
  |cons r' rr=>
   cases rr;obtain⟨t,rfl⟩:=r;obtain⟨t',rfl⟩:=r';exact call_range_2<|jv Y z O q3 P q
def ADe(q:TI)(g:TG)(tb:TS):TS:=λD σ H=>q σ H λJ v=>∃W:Nat->Nat->St->Hp->Prop,(∃m,W 0 m σ v)/\∀i m σ H,W i m σ H->
 (J.stop i H/\D.nx σ H)\/(J.go i H/\∃N:St->Hp->Prop,(∀z H',N z H'->∃y,y<m/\W (i+1) y z H')/\∀x H',J.TZ i H x H'->g x σ H' λp Z=>tb {D with nx:=N,ct:=N,bk:=D.nx} p Z)
noncomputable def PJ(fp:List Addr)(h:Heap):List<|Addr×Obj:=fp.filterMap λb=>(h.get? b).map λo=>(b,o)
theorem SE{fp:List Addr}{h:Heap}{b:Addr}{o:Obj}(z:b∈fp)(e:h.get? b=some o):(b,o)∈PJ fp h:=AIf.mpr ⟨b,z,by rw[e];rfl⟩
theorem yT{fp:List Addr}{h:Heap}{p:Addr×Obj}(hp:p∈PJ fp h):p.1∈fp/\h.get? p.1=some p.2:=by
 obtain⟨b,z,e⟩:=AIf.mp hp;cases q:h.get? b with
 |none=>rw[q]at e;contradiction
 |some o=>
  rw[q]at e;have y:=AGT e;subst y;exact⟨z,q⟩
theorem Inv.pinned{AB:List (Addr×Obj)}{σ:St}{H:Hp}{s:Shared}{fp:List Addr}(I:Inv X AB σ H s)(Z:∀b∈fp,GG X AB H b)(ho:∀b∈fp,∃o,s.heap.get? b=some o/\∀v,o.data≠.cell v):Inv X (AB++PJ fp s.heap) σ H s:=
 I.jT λp hp=>(AGO.mp hp).elim (λz=>I.pin p<|AGo _ z) λz=>by obtain⟨y,e⟩:=yT z;obtain⟨Y,f1,f2,_⟩:=Z p.1 y;obtain⟨o,q,d⟩:=ho p.1 y;rw[e]at q;cases q;exact⟨e,Y,f1,f2,d⟩
theorem Inv.TN{AB z:List (Addr×Obj)}{σ:St}{H:Hp}{s:Shared}(I:Inv X (AB++z) σ H s):Inv X AB σ H s:=I.jT λp hp=>I.pin p<|AGo _<|AHP _ hp
theorem AAb{z:Expr}{body:List Stmt}{E:TI}{g:TG}{tb:TS}{pos:Pos}(hp:PassesOwn (model X.prog X.w) X.A X.env X.xe)(hc:X.calm=true)(hi:PI X tg z E)(hg:PG X tg g)(y:CP X body tb) (hs:∀x,foldedSetIterable z X.env x=pure x:=by intro _;rfl):PS X (.For tg z body [] pos)<|ADe E g tb:=by
 intro AB s σ H D I h;refine wpAny_For (Ag (hi AB s σ H _ I h) λv s1 h1=>Ag h1 λRc s2 h2=>?_) hs;obtain⟨it,fp,tn,J,H2,e,I2,T,KR,f2,W,⟨m0,w0⟩,turn⟩:=h2;subst e;have B:∀{H':Hp},(∀b∈fp,H' b=none)->∀b∈fp,GG X AB H' b:=λhn b y=>⟨hn b y,(f2 b y).2⟩;refine codeAny_forLoop_any (λn s'=>∃i O H',Inv X AB O H' s'/\tn i s'.heap/\(∀b∈fp,H' b=none)/\W i n O H') ?_ m0 ⟨0,σ,H2,I2,KR,λb y=>(f2 b y).1,w0⟩;rintro n t ⟨i,P,R,a,FR,N7,w3⟩;rcases turn i n P R w3 with⟨stop,qn⟩|⟨go,N,hN,step⟩
 .refine wpAny_passesOwn hp<|Ag (T.done X rfl rfl rfl hc i AB t P R X.xe a (B N7) FR stop) ?_;rintro r s4 ⟨G,I4⟩;subst G;exact wpAny_execs_nil ⟨P,R,I4,qn⟩
 .refine wpAny_passesOwn hp<|Ag (T.item X rfl rfl rfl hc i AB t P R X.xe a (B N7) FR go) ?_;rintro r s4 ⟨u,G,h4⟩;subst G;refine wpAny_passesOwn hp<|Ag h4 ?_;rintro _ s5 ⟨x,H5,I5,r5,y5,S,Vc⟩;have UH:=I5.pinned (B Vc)<|T.obj _ _ S;refine wpAny_passesOwn hp<|Ag (hg _ s5 P H5 x u _ UH r5<|step x H5 y5) ?_;rintro _ s6 ⟨NC,H6,I6,q6⟩;refine wpAny_passesOwn hp<|Ag (y _ s6 NC H6 _ I6 q6) λf C Q=>?_;have q:∀{p:St}{Z:Hp},Inv X (AB++PJ fp s5.heap) p Z C->N p Z->∃m,m<n/\∃i O H',Inv X AB O H' C/\tn i C.heap/\(∀b∈fp,H' b=none)/\W i m O H':=λ{p Z} Y F=>by obtain⟨m',hm,w7⟩:=hN p Z F;refine⟨m',hm,i+1,p,Z,Y.TN,T.keep _ _ _ S λb y o e=>(Y.pin (b,o)<|AGo _<|AGo _<|SE y e).1,λb y=>?_,w7⟩;obtain⟨o,e,d⟩:=T.obj _ _ S b y;exact(Y.pin (b,o)<|AGo _<|AGo _<|SE y e).2.1
  cases f with
  |next=>obtain⟨p,Z,Y,F⟩:=Q;exact q Y F
  |cont=>obtain⟨p,Z,Y,F⟩:=Q;exact q Y F
  |brk=>obtain⟨p,Z,Y,Q⟩:=Q;exact⟨p,Z,Y.TN,Q⟩
  |ret v=>obtain⟨x7,p,Z,Y,r7,Q⟩:=Q;exact⟨x7,p,Z,Y.TN,r7,Q⟩
end
abbrev R2:=V->V->Hp->VK->Prop
def Be(X:Cx)(f:Value->Value->Sem Value)(r:R2):Prop:=
 ∀(AB:List<|Addr×Obj)(s:Shared)(σ:St)(H:Hp)(x y:V)(v u:Value)(Q:VK),Inv X AB σ H s->RelV x v->RelV y u->r x y H Q->wpAny (model X.prog X.w) X.A (f v u) (EP X AB σ Q) X.xe s
def UR(X:Cx)(f:Value->Sem Value)(r:V->Hp->VK->Prop):Prop:=
 ∀(AB:List<|Addr×Obj)(s:Shared)(σ:St)(H:Hp)(x:V)(v:Value)(Q:VK),Inv X AB σ H s->RelV x v->r x H Q->wpAny (model X.prog X.w) X.A (f v) (EP X AB σ Q) X.xe s
def C4(X:Cx)(f:Value)(r:List V->Hp->VK->Prop):Prop:=
 ∀(AB:List<|Addr×Obj)(s:Shared)(σ:St)(H:Hp)(xs:List V)(us:List Value)(Q:VK),Inv X AB σ H s->Ao xs us->r xs H Q->wpAny (model X.prog X.w) X.A (call f us) (EP X AB σ Q) X.xe s
def nP(X:Cx)(r:V->Hp->(Bool->Hp->Prop)->Prop):Prop:=
 ∀(AB:List<|Addr×Obj)(s:Shared)(σ:St)(H:Hp)(x:V)(v:Value)(Q:Bool->Hp->Prop),Inv X AB σ H s->RelV x v->r x H Q->wpAny (model X.prog X.w) X.A (truthy v) (TP X AB σ Q) X.xe s
def Pe(r:R2)(z tb:TE):TE:=λσ H Q=>z σ H λx q=>tb σ q λy v=>r x y v Q
def tUn(r:V->Hp->VK->Prop)(z:TE):TE:=λσ H Q=>z σ H λx y=>r x y Q
def rI(C:Int->Int->Prop)(g:Int->Int->V):R2:=λx y H Q=>∃i j,x=.int i/\y=.int j/\C i j/\Q (g i j) H
def JI(g:Int->Int->V):R2:=λx y H Q=>∃i j,x=.int i/\y=.int j/\Q (g i j) H
def rU(g:Int->V):V->Hp->VK->Prop:=λx H Q=>∃i,x=.int i/\Q (g i) H
section
variable{X:Cx}{a b c:Expr}{ta tb tc:TE}{pos:Pos}
theorem Ue(ha:PE X a ta)(p:PE X b tb){AB:List (Addr×Obj)}{s:Shared}{σ:St}{H:Hp}{R:V->V->Hp->Prop}(I:Inv X AB σ H s) (h:ta σ H λx q=>tb σ q λy z=>R x y z) {Q:Value->Shared->Prop} {f:Value->Value->Sem Value}
 (Z:∀v u s2 x y z,Inv X AB σ z s2->RelV x v->RelV y u->R x y z->wpAny (model X.prog X.w) X.A (f v u) Q X.xe s2) :
 wpAny (model X.prog X.w) X.A (eval a X.env) (λv Y=>wpAny (model X.prog X.w) X.A (eval b X.env) (λu O=>wpAny (model X.prog X.w) X.A (f v u) Q X.xe O) X.xe Y) X.xe s:=by
 refine Ag (ha AB s σ H _ I h) ?_;rintro v s1 ⟨x,q,P,D,F⟩;refine Ag (p AB s1 σ q _ P F) ?_;rintro u s2 ⟨y,z,B,G,S⟩;exact Z v u s2 x y z B D G S
theorem AAA{op:Operator}{r:R2}(ho:Be X (binaryOp op) r)(ha:PE X a ta)(z:PE X b tb):PE X (.BinOp a op b pos)<|Pe r ta tb:=by intro AB s σ H Q I h;exact wpAny_BinOp<|Ue ha z I h λv u s2 x y p Z Y O q=>ho AB s2 σ p x y v u Q Z Y O q
theorem jS{op:UnaryOp}{r:V->Hp->VK->Prop}(ho:UR X (unaryOp op) r)(ha:PE X a ta):PE X (.UnaryOp op a pos)<|tUn r ta:=by intro AB s σ H Q I h;exact UnaryOp_<|Ag (ha AB s σ H _ I h) (by rintro v s1 ⟨x,z,y,q,p⟩;exact ho AB s1 σ z x v Q y q p)
theorem XN{f:Value->Value->Sem Value}{C:Int->Int->Prop}{g:Int->Int->Int} (z:∀(i j:Int)(t u:Tok)(s:Shared)(Q:Value->Shared->Prop)(E:Value->Shared->Prop),C i j->Q (.int (g i j) s.toks) {s with toks:=s.toks+1}->wpAny (model X.prog X.w) X.A (f (.int i t)<|.int j u) Q E s) : Be X f<|rI C λi j=>.int<|g i j:=by intro AB s σ H x y v u Q I p Z h;obtain⟨i,j,rfl,rfl,hc,q⟩:=h;obtain⟨t,rfl⟩:=p;obtain⟨t',rfl⟩:=Z;exact z i j t t' s _ _ hc ⟨.int<|g i j,H,I.tok _,⟨_,rfl⟩,q⟩
theorem jC{f:Value->Value->Sem Value}{g:Int->Int->Int} (z:∀(i j:Int)(t u:Tok)(s:Shared)(Q:Value->Shared->Prop)(E:Value->Shared->Prop),Q (.int (g i j) s.toks) {s with toks:=s.toks+1}->wpAny (model X.prog X.w) X.A (f (.int i t)<|.int j u) Q E s) : Be X f<|JI λi j=>.int<|g i j:=by intro AB s σ H x y v u Q I p Z h;obtain⟨i,j,rfl,rfl,q⟩:=h;obtain⟨t,rfl⟩:=p;obtain⟨t',rfl⟩:=Z;exact z i j t t' s _ _ ⟨.int<|g i j,H,I.tok _,⟨_,rfl⟩,q⟩
theorem XM{f:Value->Value->Sem Value}{g:Int->Int->Bool} (z:∀(i j:Int)(t u:Tok)(s:Shared)(Q:Value->Shared->Prop)(E:Value->Shared->Prop),Q (.bool<|g i j) s->wpAny (model X.prog X.w) X.A (f (.int i t)<|.int j u) Q E s) : Be X f<|JI λi j=>.bl<|g i j:=by intro AB s σ H x y v u Q I p Z h;obtain⟨i,j,rfl,rfl,q⟩:=h;obtain⟨t,rfl⟩:=p;obtain⟨t',rfl⟩:=Z;exact z i j t t' s _ _ ⟨.bl<|g i j,H,I,rfl,q⟩
def NF(i j:Int):Prop:=0<j/\j<1073741824
def FV(i j:Int):Prop:=(-(2 ^ 64)<i/\i<2 ^ 64)\/(-(2 ^ 64)<j/\j<2 ^ 64)
theorem FV.ok{i j:Int}(h:FV i j):IntMulOk i j:=by
 rcases h with⟨z,y⟩|⟨z,y⟩
 .exact .of_left<|intBits_le_64 z y
 .exact .of_right<|intBits_le_64 z y
theorem yg:Be X (binaryOp .Add)<|JI λi j=>.int<|i+j:=jC λ_ _ _ _ _ _ _ q=>add_int q
theorem zA:Be X (binaryOp .Sub)<|JI λi j=>.int<|i-j:=jC λ_ _ _ _ _ _ _ q=>sub_int q
theorem yx:Be X (binaryOp .Mult)<|rI FV λi j=>.int<|i*j:=XN λ_ _ _ _ _ _ _ hc q=>mul_int q hc.ok
theorem yj:Be X (binaryOp .FloorDiv)<|rI NF λi j=>.int<|i / j:=XN λi j _ _ _ _ _ hc q=>by have h1:=hc.1;have h2:=hc.2;exact floordiv_int AFo (by rw[Int.fdiv_eq_ediv_of_nonneg i AFo];exact q)<|.inl<|PyProof.noPylong_small AFo
theorem yw:Be X (binaryOp .Mod)<|rI (λ_ j=>0<j) λi j=>.int<|i%j:=XN λi j _ _ _ _ _ hc q=>by exact mod_int' U (by rw[Int.fmod_eq_emod_of_nonneg i U];exact q)
theorem unI{f:Value->Sem Value}{g:Int->Int} (z:∀(i:Int)(t:Tok)(s:Shared)(Q:Value->Shared->Prop)(E:Value->Shared->Prop),Q (.int (g i) s.toks) {s with toks:=s.toks+1}->wpAny (model X.prog X.w) X.A (f<|.int i t) Q E s) : UR X f<|rU λi=>.int<|g i:=by intro AB s σ H x v Q I y h;obtain⟨i,rfl,q⟩:=h;obtain⟨t,rfl⟩:=y;exact z i t s _ _ ⟨.int<|g i,H,I.tok _,⟨_,rfl⟩,q⟩
theorem lK:UR X (unaryOp .USub)<|rU λi=>.int (-i):=unI λ_ _ _ _ _ q=>neg_int q
end
section
variable{X:Cx}{a b c:Expr}{ta tb tc:TE}{pos:Pos}
theorem yu:Be X (compareOp .Lt)<|JI λi j=>.bl<|decide (i<j):=XM λ_ _ _ _ _ _ _ q=>lt_int q
theorem yr:Be X (compareOp .LtE)<|JI λi j=>.bl<|decide (i<=j):=XM λ_ _ _ _ _ _ _ q=>le_int q
theorem yk:Be X (compareOp .Gt)<|JI λi j=>.bl<|decide (j<i):=XM λ_ _ _ _ _ _ _ q=>gt_int q
theorem Be.or{f:Value->Value->Sem Value}{r z:R2}(h:Be X f r)(h':Be X f z):Be X f (λx y H Q=>r x y H Q\/z x y H Q):=by
 intro AB s σ H x y v u Q I p Z q;rcases q with q|q
 .exact h AB s σ H x y v u Q I p Z q
 .exact h' AB s σ H x y v u Q I p Z q
theorem iu(b:Expr){op:CmpOp}(h:op≠.In:=by decide)(z:op≠.NotIn:=by decide):behindInMarks op b=false:=by
 have y:(op==CmpOp.In)=false:=by cases op<;>first|rfl|exact absurd rfl h
 have q:(op==CmpOp.NotIn)=false:=by cases op<;>first|rfl|exact absurd rfl z
 cases b<;>simp[behindInMarks,y,q]
theorem zm{op:CmpOp}{r:R2}(ho:Be X (compareOp op) r)(ha:PE X a ta)(z:PE X b tb)(hm:behindInMarks op b=false):PE X (.Compare a [op] [b] pos)<|Pe r ta tb:=by intro AB s σ H Q I h;exact wpAny_Compare1 (Ue ha z I h λv u s2 x y p Z Y O q=>ho AB s2 σ p x y v u Q Z Y O q) hm
def YE(t:TE):TT:=λσ H Q=>t σ H λx H'=>∃k,x=.bl k/\Q k H'
theorem AAl{op:CmpOp}{r:R2}(ho:Be X (compareOp op) r)(ha:PE X a ta)(q:PE X b tb)(hm:behindInMarks op b=false):PT X (.Compare a [op] [b] pos)<|YE<|Pe r ta tb:=by intro AB s σ H Q I h;refine wpAny_isTrue_Compare1 (Ag (ha AB s σ H _ I h) ?_) hm;rintro v s1 ⟨x,p,Z,Y,O⟩;refine Ag (q AB s1 σ p _ Z O) ?_;rintro u s2 ⟨y,P,D,F,R⟩;refine Ag (ho AB s2 σ P x y v u _ D Y F R) ?_;rintro c s3 ⟨z,B,G,S,k,e,q3⟩;subst e;cases S;exact wpAny_truthy_bool ⟨B,G,q3⟩
def YB(r v:R2)(ta tb tc:TE):TE:=λσ H Q=>ta σ H λx p=>tb σ p λy Z=>r x y Z λz q=>∃k,z=.bl k/\
 (if k=true then tc σ q λY O=>v y Y O Q else Q (.bl false) q)
theorem zj{op q:CmpOp}{r p:R2}(ho:Be X (compareOp op) r)(P:Be X (compareOp q) p)(ha:PE X a ta)(D:PE X b tb)(hc:PE X c tc) (hm:lastMarks [op,q] [b,c]=false:=by with_unfolding_all rfl):PE X (.Compare a [op,q] [b,c] pos)<|YB r p ta tb tc:=by
 intro AB s σ H Q I h;refine Compare_chain (Ag (ha AB s σ H _ I h) ?_) hm;rintro v s1 ⟨x,F,R,B,G⟩;refine chain_link<|Ag (D AB s1 σ F _ R G) ?_;rintro u s2 ⟨y,S,T,Z,C⟩;refine Ag (ho AB s2 σ S x y v u _ T B Z C) ?_;rintro d E ⟨z,Y,O,n,k,e,q3⟩;subst e;cases n;refine wpAny_truthy_bool ?_;cases k with
 |false=>exact ite_ff ⟨.bl false,Y,O,rfl,q3⟩
 |true=>exact ite_tt<|chain_last<|Ag (hc AB E σ Y _ O q3) (by rintro t f ⟨z',H4,I4,r4,q4⟩;exact P AB f σ H4 y z' u t Q I4 Z r4 q4)
theorem AAj{op q:CmpOp}{r p:R2}(ho:Be X (compareOp op) r)(P:Be X (compareOp q) p)(ha:PE X a ta)(D:PE X b tb)(hc:PE X c tc) (hm:lastMarks [op,q] [b,c]=false:=by with_unfolding_all rfl):PT X (.Compare a [op,q] [b,c] pos)<|YE<|YB r p ta tb tc:=by
 intro AB s σ H Q I h;refine isTrue_chain (Ag (ha AB s σ H _ I h) ?_) hm;rintro v s1 ⟨x,F,R,B,G⟩;refine test_link<|Ag (D AB s1 σ F _ R G) ?_;rintro u s2 ⟨y,S,T,Z,C⟩;refine Ag (ho AB s2 σ S x y v u _ T B Z C) ?_;rintro d E ⟨z,Y,O,n,k,e,q3⟩;subst e;cases n;refine wpAny_truthy_bool ?_;cases k with
 |false=>
  obtain⟨k',t,f⟩:=q3;cases t;exact ite_ff ⟨Y,O,f⟩
 |true=>
  refine ite_tt<|test_last<|Ag (hc AB E σ Y _ O q3) ?_;rintro w' s4 ⟨z',H4,I4,r4,q4⟩;refine Ag (P AB s4 σ H4 y z' u w' _ I4 Z r4 q4) ?_;rintro d' s5 ⟨z2,H5,I5,r5,k2,e2,q5⟩;subst e2;cases r5;exact wpAny_truthy_bool ⟨H5,I5,q5⟩
set_option tactic.hygienic true
def Yx(K:PySem.W.Frag)(x:V)(H:Hp)(k:Bool):Prop:=
 match x with
 |.Au=>k=false
 |.bl b=>k=b
 |.int i=>k=(i != 0)
 |.str y=>y.length<=sizeLine/\k=((y.length:Int) != 0)
 |.Nk y=>y.size<=sizeLine/\k=((y.size:Int) != 0)
 |.ref p=>(∃xs,CF K H p xs/\k = !xs.isEmpty)\/(∃xs,Bi K H p xs/\k = !xs.isEmpty)\/∃AL,H p=some (.dK AL)/\k = !AL.isEmpty
 |_=>False
theorem v3{κ:Type}{AL:List (κ×V)}{vs:List (κ×Value)}(r:KV AL vs):(!vs.isEmpty) = !AL.isEmpty:=by cases r<;>rfl
theorem gK{xs:List V}{its:List Value}(r:Ao xs its):(!its.toArray.isEmpty) = !xs.isEmpty:=by cases r<;>simp
theorem Rw:(sizeLine)<2 ^ 63:=AFp
theorem AEH:nP X (λx H Q=>∃k,Yx X.K x H k/\Q k H):=by
 intro AB s σ H x v Q I Z h;obtain⟨k,e,q⟩:=h;have hl:=Rw;have hs:sizeLine=16777216:=sizeLine_eq;cases x with
 |Au=>
  cases Z;have z:k=false:=e;subst z;exact truthy_none ⟨H,I,q⟩
 |bl b=>
  cases Z;have z:k=b:=e;subst z;exact wpAny_truthy_bool ⟨H,I,q⟩
 |int i=>
  obtain⟨t,rfl⟩:=Z;have z:k=(i != 0):=e;subst z;exact PySem.P.truthy_int ⟨H,I,q⟩
 |str y=>
  obtain⟨t,rfl⟩:=Z;obtain⟨F,z⟩:y.length<=sizeLine/\k=((y.length:Int) != 0):=e;subst z;exact PySem.P.truthy_str U ⟨H,I.tok _,q⟩
 |Nk y=>
  obtain⟨t,rfl⟩:=Z;obtain⟨F,z⟩:y.size<=sizeLine/\k=((y.size:Int) != 0):=e;subst z;exact PySem.W.truthy_bytes U ⟨H,I.tok _,q⟩
 |ref p=>
  cases Z;have z:(∃xs,CF X.K H p xs/\k = !xs.isEmpty)\/(∃xs,Bi X.K H p xs/\k = !xs.isEmpty)\/∃AL,H p=some (.dK AL)/\k = !AL.isEmpty:=e;rcases z with⟨xs,Y,z⟩|⟨xs,Y,z⟩|⟨AL,Y,z⟩
  .subst z;obtain⟨its,r,O,hz⟩:=I.list Y;have D:=r.length;exact wpAny_truthy_list O.isList (by simp only[AF9];omega) ⟨H,I.tok _,by rw[gK r];exact q⟩
  .subst z;obtain⟨its,r,O,hz⟩:=I.tuple Y;have D:=r.length;exact truthy_tuple O (by simp only[AF9];omega) ⟨H,I.tok _,by rw[gK r];exact q⟩
  .subst z;obtain⟨hz,R,vs,r,m⟩:AL.length<=sizeLine/\(p==sysModules)=false/\∃vs,KV AL vs/\s.heap.DictOf (FK X.prog X.w) p vs:=I.AZ p _ Y;have D:AL.length=vs.length:=Paired.length r;exact wpAny_truthy_dict R m AFo ⟨H,I.tok _,by rw[v3 r];exact q⟩
 |_=>exact(show False from e).elim
theorem AAn(ha:PE X a ta)(he:∀whole,isTrue a X.env whole=(do let v<-whole;standAt a.pos;holding [v] (truthy v))) : PT X a (λσ H Q=>ta σ H λx H'=>∃k,Yx X.K x H' k/\Q k H'):=by intro AB s σ H Q I h;refine isTrue_plain (Ag (ha AB s σ H _ I h) ?_)<|he _;rintro v s1 ⟨x,z,y,q,p⟩;exact AEH AB s1 σ z x v Q y q p
set_option tactic.hygienic false
theorem vals1{x:V}{us:List Value}(r:Ao [x] us):∃u,us=[u]/\RelV x u:=by
 cases r with
 |cons r1 r2=>cases r2;exact⟨_,rfl,r1⟩
theorem vals2{x y:V}{us:List Value}(r:Ao [x,y] us):∃u z,us=[u,z]/\RelV x u/\RelV y z:=by
 cases r with
 |cons r1 r2=>
  cases r2 with
  |cons r3 r4=>cases r4;exact⟨_,_,rfl,r1,r3⟩
theorem oQ:C4 X (.builtin "abs") (λxs H Q=>∃i,xs=[.int i]/\Q (.int (if i<0 then -i else i)) H):=by intro AB s σ H xs us Q I r h;obtain⟨i,rfl,q⟩:=h;obtain⟨u,rfl,t,rfl⟩:=vals1 r;exact call_abs_int λu tk=>⟨.int (if i<0 then -i else i),H,I.tok _,⟨_,rfl⟩,q⟩
theorem oa(hc:X.calm=true):C4 X (.builtin "max") (λxs H Q=>∃i j,xs=[.int i,.int j]/\Q (.int (if j>i then j else i)) H):=by
 intro AB s σ H xs us Q I r h;obtain⟨i,j,rfl,q⟩:=h;obtain⟨u,w',rfl,⟨t,rfl⟩,⟨t',rfl⟩⟩:=vals2 r;refine max_two_ints (I.ok.hd hc) λh' tk k=>⟨_,H,I.kept k,?_,q⟩;by_cases z:j>i
 .rw[AFu z,AFu z];exact⟨_,rfl⟩
 .rw[AF0 z,AF0 z];exact⟨_,rfl⟩
theorem oh(hc:X.calm=true):C4 X (.builtin "min") (λxs H Q=>∃i j,xs=[.int i,.int j]/\Q (.int (if j<i then j else i)) H):=by
 intro AB s σ H xs us Q I r h;obtain⟨i,j,rfl,q⟩:=h;obtain⟨u,w',rfl,⟨t,rfl⟩,⟨t',rfl⟩⟩:=vals2 r;refine min_two_ints (I.ok.hd hc) λh' tk k=>⟨_,H,I.kept k,?_,q⟩;by_cases z:j<i
 .rw[AFu z,AFu z];exact⟨_,rfl⟩
 .rw[AF0 z,AF0 z];exact⟨_,rfl⟩
end
set_option tactic.hygienic true
structure UL(h:Heap)(x dx C:Addr)(mA:Str->Option Value):Prop where
 obj:h.get? x=some (PySem.W.instObj C dx)
 ns:h.Ns1 dx mA
 ne:dx≠x
theorem xK{h:Heap}{dx:Addr}{mA:Str->Option Value}(n:h.Ns1 dx mA):∃od,h.get? dx=some od/\∀v,PySem.W.lookIn v od=some (mA v):=by
 obtain⟨o,es,ep,ho,hd,p,_,hm⟩:=n;refine⟨o,ho,λv=>?_⟩;have e:=hm v;unfold nsFind findBy at e;rw[<-Array.find?_toList]at e;unfold PySem.W.lookIn;rw[hd];dsimp only;split
 .rename_i y q;rw[q]at e;exact AG5 some e
 .rename_i q;rw[q]at e;have a:es.toList.any (·.refKey)=false:=by rw[AHj];intro y Z;obtain⟨z,t,Y⟩:=p y<|Array.mem_toList_iff.mp Z;simp[DictEntry.refKey,Y]
  have Q:¬ es.toList.any (·.refKey)=true:=by rw[a];exact AHO
  rw[AF0 Q];exact AG5 some e
set_option tactic.hygienic false
theorem UL.look{h:Heap}{x dx C:Addr}{mA:Str->Option Value}(I:UL h x dx C mA):∃od,PySem.W.InstAt h x (PySem.W.instObj C dx) C (some od)/\∀z,PySem.W.lookIn z od=some (mA z):=
 let ⟨od,ho,hl⟩:=xK I.ns
 ⟨od,⟨I.obj,rfl,rfl,ho⟩,hl⟩
section
variable{prog:Program}{w:World}{A:Around}{E:Value->Shared->Prop}{s:Shared}{K:PySem.W.Frag}{x dx C f:Addr}{mA:Str->Option Value}{name:Str}{v:Value}
end
theorem GI.some_of{v:V}{o:Option Value}(r:GI (some v) o):∃u,o=some u/\RelV v u:=by
 cases o with
 |none=>exact(show False from r).elim
 |some u=>exact⟨u,rfl,r⟩
section
variable{P:Program}{w:World}{H H':Hp}{h h':Heap}{a C dx:Addr}{fs sL:List (Str×V)}
theorem vk(AZ:Bl P w H h)(e:H a=some (.ins C dx fs)):∃mA,UL h a dx C mA/\(∀f,GI (fs.lookup f)<|mA f)/\PySem.Within mA (fs.map (·.1))/\fs.length<=1000/\H dx=some (.own a):=by obtain⟨d,z,ne,y,mA,n,r,q⟩:=(show Bx P w H h a (.ins C dx fs)from AZ a _ e);exact⟨mA,⟨y,n,ne⟩,r,q,z,d⟩
end
structure Tc(K:PySem.W.Frag)(C:Addr):Prop where
 pg:PySem.W.plainGet K C Str.empty=true
 hd:PySem.W.hasDictIn K C=true
 po:PySem.W.plainOver K C=true
 sa:PySem.W.findIn K (.ref C) "__setattr__" = some (some<|.builtin "object.__setattr__")
theorem Tc.get{K:PySem.W.Frag}{C:Addr}(c:Tc K C)(f:Str):PySem.W.plainGet K C f=true:=c.pg
structure Con(K:PySem.W.Frag)(C:Addr)(f:Str)(v:V)(u:Value):Prop where
 at_:PySem.W.findIn K (.ref C) f=some (some u)
 rel:RelV v u
 get:PySem.W.specialIn K u "__get__" = some none
 cp:PySem.W.copiedNames.contains f=false
structure Meth(K:PySem.W.Frag)(C:Addr)(m:Str)(f:Addr):Prop where
 at_:PySem.W.findIn K (.ref C) m=some (some<|.ref f)
 fn:PySem.W.isFn K (.ref f)=true
 kp:PySem.W.keepIn K (.ref f)=true
section
variable{X:Cx}{AB:List (Addr×Obj)}{σ:St}{H:Hp}{s:Shared}{a C dx:Addr}{fs:List (Str×V)}{f:Str}{v:V}{A:Around}{E:Value->Shared->Prop}
end
section
variable{X:Cx}{o e value:Expr}{f:Str}{pos pos' LW:Pos}{ta tv:TE}
end
section
variable{X:Cx}{AB:List (Addr×Obj)}{σ:St}{H:Hp}{s:Shared}{A:Around}{E:Value->Shared->Prop}{Q:Value->Shared->Prop}{c:Value}{b:Bool}
inductive FY(K:PySem.W.Frag)(H:Hp):V->Value->Prop where
 |Au:FY K H .Au<|.type "NoneType"
 |bl (x:Bool):FY K H (.bl x)<|.type "bool"
 |int (i:Int):FY K H (.int i)<|.type "int"
 |str (x:Str):FY K H (.str x)<|.type "str"
 |Dj (x:UInt64):FY K H (.Dj x)<|.type "float"
 |lst {a:Addr} {xs:List V} (e:H a=some (.lst xs)):FY K H (.ref a)<|.type "list"
 |EO {a:Addr} {o:Obj} {xs:List V} (e:H a=some (.EO o<|.lst xs)):FY K H (.ref a)<|.type "list"
 |tup {a:Addr} {xs:List V} (e:H a=some (.tup xs)):FY K H (.ref a)<|.type "tuple"
 |dK {a:Addr} {AL:List (Key×V)} (e:H a=some (.dK AL)):FY K H (.ref a)<|.type "dict"
 |dT {a:Addr} {AL:List (List Key×V)} (e:H a=some (.dT AL)):FY K H (.ref a)<|.type "dict"
 |ins {a C dx:Addr} {fs:List (Str×V)} (e:H a=some (.ins C dx fs)) (cl:Tc K C) (ha:PySem.W.findIn K (.ref C) "__class__" = some (some<|.builtin "object.__class__")) (hn:PySem.W.specialIn K (.builtin "object.__class__") "__get__" = some (some<|.builtin "getset_descriptor.__get__")) (MF:PySem.W.takesIn K (.builtin "object.__class__")=some true) (hm:PySem.W.mroIn K C (.type "object")=some true):FY K H (.ref a)<|.ref C
theorem v9{x:V}{u t:Value}(I:Inv X AB σ H s)(v:RelV x u)(ty:FY X.K H x t)(e:PySem.W.kitOne X.K t c=some b)(h:∀tk,Q (.bool b) {s with toks:=tk}) : wpAny (model X.prog X.w) A (call (.builtin "isinstance") [u,c]) Q E s:=by
 cases ty with
 |Au=>cases (show u=Value.none from v);exact AHK PySem.W.kitx_none I.BS True.intro e (λz=>nomatch z) h
 |bl y=>cases (show u=Value.bool y from v);exact AHK PySem.W.kitx_bool I.BS True.intro e (λz=>nomatch z) h
 |int i=>obtain⟨t,q⟩:=(show ∃t,u=Value.int i t from v);cases q;exact AHK PySem.W.kitx_int I.BS True.intro e (λz=>nomatch z) h
 |str y=>obtain⟨t,q⟩:=(show ∃t,u=Value.str y t from v);cases q;exact AHK PySem.W.kitx_str I.BS True.intro e (λz=>nomatch z) h
 |Dj y=>obtain⟨t,q⟩:=(show ∃t,u=Value.float y t from v);cases q;exact AHK PySem.W.kitx_float I.BS True.intro e (λz=>nomatch z) h
 |@lst a xs ea=>
  cases (show u=Value.ref a from v);obtain⟨_,_,n,_,Z⟩:=(show Bx X.prog X.w H s.heap a (.lst xs)from I.AZ a _ ea);exact AHK PySem.W.kitx_list I.BS ⟨_,Z,rfl⟩ e (λz=>nomatch z) h
 |@EO a ob xs ea=>
  cases (show u=Value.ref a from v);obtain⟨_,_,_,n,_,Z⟩:=(show Bx X.prog X.w H s.heap a (.EO ob<|.lst xs)from I.AZ a _ ea);exact AHK PySem.W.kitx_list I.BS ⟨_,Z,rfl⟩ e (λz=>nomatch z) h
 |@tup a xs ea=>
  cases (show u=Value.ref a from v);obtain⟨_,_,_,p⟩:=(show Bx X.prog X.w H s.heap a (.tup xs)from I.AZ a _ ea);obtain⟨o,Z,Y,_⟩:=p;exact AHK PySem.W.kitx_tuple I.BS ⟨o,Z,Y⟩ e (λz=>nomatch z) h
 |@dK a AL ea=>
  cases (show u=Value.ref a from v);obtain⟨_,_,vs,_,p⟩:=(show Bx X.prog X.w H s.heap a (.dK AL)from I.AZ a _ ea);obtain⟨o,es,P,Z,Y,_⟩:=p;exact AHK PySem.W.kitx_dict I.BS ⟨o,Z,Y.1⟩ e (λz=>nomatch z) h
 |@dT a AL ea=>
  cases (show u=Value.ref a from v);obtain⟨_,_,xs,_,o,es,P,Z,Y,_⟩:=(show Bx X.prog X.w H s.heap a (.dT AL)from I.AZ a _ ea);exact AHK PySem.W.kitx_dict I.BS ⟨o,Z,Y.1⟩ e (λz=>nomatch z) h
 |@ins a C dx fs ea cl ha hn MF hm=>
  cases (show u=Value.ref a from v);obtain⟨mA,O,_⟩:=vk I.AZ ea;obtain⟨od,J,_⟩:=O.look;exact AHK (PySem.W.kitx_own (cl.get _) cl.hd ha hn MF hm) I.BS J e (λz=>nomatch z) h
end
structure B7(k:Nat)(A:Around):Prop where
 hd:A.handled=none
 dp:A.depth+3*k+5<recursionLimit
 un:A.units+16*k+200<cLine
theorem B7.mono{j k:Nat}{A:Around}(r:B7 k A)(h:j<=k):B7 j A:=⟨r.hd,by have:=r.dp;lia,by have:=r.un;omega⟩
theorem B7.deeper{k:Nat}{A:Around}(r:B7 (k+1) A)(env:Env):B7 k<|A.deeper env:=
 ⟨r.hd,by have:=r.dp;show A.depth+1+3*k+5<_;lia,by have:=r.un;show A.units+3+16*k+200<_;omega⟩
theorem B7.depth{k:Nat}{A:Around}(r:B7 k A):A.depth<recursionLimit:=by have:=r.dp;lia
theorem B7.units{k:Nat}{A:Around}(r:B7 k A):A.units+64<cLine:=by have:=r.un;lia
def ADl:TA:=λ_ H Q=>Q [] H
def ADb(z:TE)(tr:TA):TA:=λσ H Q=>z σ H λx y=>tr σ y λxs q=>Q (x::xs) q
section
variable{X:Cx}{e:Expr}{es:List Expr}{te:TE}{t:TA}{pos:Pos}
theorem Gq:PA X [] ADl:=λ_ _ _ _ H Q I h=>Calls.spliced_nil ⟨[],H,I,.nil,h⟩
theorem FN(ha:PE X e te)(z:PA X es t)(hs:starEach (e::es) X.env=(false,eval e X.env)::starEach es X.env:=by rfl):PA X (e::es)<|ADb te t:=by intro pos AB s σ H Q I h;rw[hs];show wpAny _ _ (spliced ((false,eval e X.env)::backTo pos (starEach es X.env))) _ _ s;refine Calls.spliced_cons<|Ag (ha AB s σ H _ I h) ?_;rintro u s1 ⟨x,y,q,v,p⟩;exact Ag (z pos AB s1 σ y _ q p) (by rintro us s2 ⟨xs,Z,Y,O,P⟩;exact⟨x::xs,Z,Y,.cons v O,P⟩)
def ADy(t:TA):TE:=λσ H Q=>t σ H λxs z=>xs.length<=sizeLine/\∀p,z p=none->Q (.ref p) (upd z p<|.tup xs)
def ADh(t:TA):TE:=λσ H Q=>t σ H λxs z=>xs.length<=sizeLine/\∀p,z p=none->Q (.ref p) (upd z p<|.lst xs)
theorem XZ{x1}(h:PA X es t):PE X (.Tuple es x1 pos)<|ADy t:=by intro AB s σ H Q I v;refine wpAny_Tuple_spliced (Ag (h pos AB s σ H _ I v) λus s1 ⟨xs,p,y,r,z,q⟩=>⟨by rw[<-r.length];exact z,?_⟩);have Z:=y.AZ.fresh<|AF5 _;refine⟨.ref s1.heap.objs.size,upd p s1.heap.objs.size<|.tup xs,y.laid (λb u e=>Heap.get?_push_of_some _ e) (AF5 _) ?_,rfl,q _ Z⟩;exact⟨z,us,r,⟨_,Heap.get?_push_size _ rfl,rfl,_,rfl⟩⟩
theorem zw(h:PA X es t):PE X (.List es pos)<|ADh t:=by intro AB s σ H Q I v;refine wpAny_List_spliced (Ag (h pos AB s σ H _ I v) λus s1 ⟨xs,p,y,r,z,q⟩=>⟨by rw[<-r.length];exact z,?_⟩);have Z:=y.AZ.fresh<|AF5 _;refine⟨.ref s1.heap.objs.size,upd p s1.heap.objs.size<|.lst xs,y.laid (λb u e=>Heap.get?_push_of_some _ e) (AF5 _) ?_,rfl,q _ Z⟩;exact⟨z,us,0,r,Heap.get?_push_size _ rfl⟩
end
abbrev Sp:=List V->Hp->VK->XK->Prop
abbrev Ea:=List Env->Hp->Shared->XK->Value->Shared->Prop
structure Kb(P:Program)(w:World)(K:PySem.W.Frag)(mg:Str->Option Value)(base:Heap)(A:Around)(outer:List Env)(s:Shared)(H:Hp):Prop where
 frames:A.frames=some outer
 mod:Mod K mg base
 bs:∀b o,base.get? b=some o->s.heap.get? b=some o/\H b=none
 FZ:base.objs.size<=s.heap.objs.size
 EC:s.heap.FunFrames base outer
 GW:∀b∈Cp outer,H b=none
 AZ:Bl P w H s.heap
 bare:AllBare s.gens
def CE(outer:List Env)(P:Program)(w:World)(H:Hp)(s:Shared)(Q:VK)(u:Value)(s':Shared):Prop:=
 ∃v H',s'.os=s.os/\AllBare s'.gens/\Un (Cp outer) [] H H' s.heap s'.heap/\Bl P w H' s'.heap/\RelV v u/\Q v H'
def CR(CX:Ea)(outer:List Env)(P:Program)(w:World)(H:Hp)(s:Shared)(Q:VK)(E:XK)(r:Result)(s':Shared):Prop:=
 match r with
 |.ok (.ret u)=>CE outer P w H s Q u s'
 |.ok _=>False
 |.error e=>CX outer H s E e s'
structure Cw(P:Program)(w:World)(K:PySem.W.Frag)(mg:Str->Option Value)(base:Heap)(CX:Ea)(k:Nat)(f:Addr)(fd:FuncData)(ps:List Str)(sp:Sp):Prop where
 len:∀vs H Q E,sp vs H Q E->vs.length=ps.length
 run:∀(A:Around)(outer:List Env)(s:Shared)(H:Hp)(args:Args)(us:List Value)(vs:List V)(Q:VK)(E:XK),B7 k A->Kb P w K mg base A outer s H->BindsTo s fd args (ps.zip us)->Ao vs us->sp vs H Q E->codeAny (model P w) A (.call (.ref f) args) (CR CX outer P w H s Q E) s
theorem Cw.mono{P:Program}{w:World}{K:PySem.W.Frag}{mg:Str->Option Value}{base:Heap}{CX:Ea}{j k:Nat}{f:Addr}{fd:FuncData}{ps:List Str}{sp:Sp}(F:Cw P w K mg base CX j f fd ps sp)(h:j<=k) : Cw P w K mg base CX k f fd ps sp:=⟨F.len,λA outer s H args us vs Q E z=>F.run A outer s H args us vs Q E<|z.mono h⟩
theorem Cw.imp{P:Program}{w:World}{K:PySem.W.Frag}{mg:Str->Option Value}{base:Heap}{CX:Ea}{k:Nat}{f:Addr}{fd:FuncData}{ps:List Str}{sp z:Sp}(F:Cw P w K mg base CX k f fd ps sp) (h:∀vs H Q E,z vs H Q E->sp vs H Q E):Cw P w K mg base CX k f fd ps z:=
 ⟨λvs H Q E q=>F.len vs H Q E<|h _ _ _ _ q,λA outer s H args us vs Q E y he v p hs=>F.run A outer s H args us vs Q E y he v p<|h _ _ _ _ hs⟩
section
variable{X:Cx}{AB:List (Addr×Obj)}{σ:St}{H:Hp}{s s':Shared}
theorem Inv.c6(I:Inv X AB σ H s):Kb X.prog X.w X.K X.mg X.base X.A X.stack s H:=
 ⟨I.ok.frames,I.ok.mod,I.bs,AGZ I.ok.FZ I.sz,I.stack,I.X3,I.AZ,I.bare⟩
theorem Inv.after{Q:VK}{u:Value}(I:Inv X AB σ H s)(h:CE X.stack X.prog X.w H s Q u s'):EP X AB σ Q u s':=by obtain⟨v,H',os,bare,un,AZ,r,q⟩:=h;obtain⟨hh,g,d,t,y⟩:=s';obtain rfl:y=s.os:=os;exact⟨v,H',I.call un AZ bare λb z=>absurd z AFn,r,q⟩
end
def ADZ(sp:Sp)(z:List V)(E:XK)(t:TA):TE:=λσ H Q=>t σ H λvs y=>sp (vs++z) y Q E
def Binds(K:PySem.W.Frag)(fd:FuncData)(ps:List Str)(z:List Value):Prop:=
 ∀(s:Shared)(us:List Value),K.In s.heap->(us++z).length=ps.length->BindsTo s fd ⟨us,[]⟩ (ps.zip<|us++z)
theorem Binds.all{K:PySem.W.Frag}{fd:FuncData}{ps:List Str}(h:∀us:List Value,us.length=ps.length->bindArgs fd ⟨us,[]⟩=pure (ps.zip us)):Binds K fd ps []:=λs us _ z=>by rw[AGt]at z ⊢;exact .of_eq<|h us z
def Passes(CX:Ea)(X:Cx)(E:XK):Prop:=∀(AB:List<|Addr×Obj)(σ:St)(H:Hp)(s:Shared)(e:Value)(s':Shared),Inv X AB σ H s->CX X.stack H s E e s'->X.xe e s'
section
variable{X:Cx}{CX:Ea}{k:Nat}{f C:Addr}{fd:FuncData}{ps:List Str}{sp:Sp}{Kl:List V}{ds:List Value}{E:XK}{x m:Str}{p pos apos:Pos}{e o:Expr}{es:List Expr}{ta:TE}{t:TA}
theorem ACy{AB:List (Addr×Obj)}{σ:St}{H:Hp}{s:Shared}{Q:VK}{us:List Value}{vs:List V}(F:Cw X.prog X.w X.K X.mg X.base CX k f fd ps sp)(q:B7 k X.A)(v:Binds X.K fd ps ds)(hd:Ao Kl ds)(Z:Passes CX X E) (I:Inv X AB σ H s) (r:Ao vs us) (h:sp (vs++Kl) H Q E):wpAny (model X.prog X.w) X.A (call (.ref f) us) (EP X AB σ Q) X.xe s:=by
 have y:=r.append hd;have Y:(us++ds).length=ps.length:=by rw[<-y.length];exact F.len _ _ _ _ h
 refine wpAny_call<|codeAny_mono (F.run X.A X.stack s H ⟨us,[]⟩ (us++ds) (vs++Kl) Q E q I.c6 (v s us I.BS Y) y h) λr s' z=>?_;cases r with
 |error e=>exact Z AB σ H s e s' I z
 |ok fl=>
  cases fl with
  |ret u=>exact I.after z
  |next=>exact False.elim z
  |brk=>exact False.elim z
  |cont=>exact False.elim z
theorem XX(F:Cw X.prog X.w X.K X.mg X.base CX k f fd ps sp)(y:B7 k X.A)(v:Gl X x)(hm:X.mg x=some (.ref f))(Z:PySem.W.keepIn X.K (.ref f)=true)(Y:Binds X.K fd ps ds)(hd:Ao Kl ds)(O:Passes CX X E) (ha:PA X (e::es) t) (P:(x==("__debug__"))=false:=by decide) (he:starEach (e::es) X.env=(false,eval e X.env)::starEach es X.env:=by rfl) (D:(backTo pos<|starEach es X.env).any (·.1)=false:=by rfl) : PE X (.Call (.Name x p) (e::es) [] pos)<|ADZ sp Kl E t:=by intro AB s σ H Q I h;refine wpAny_Call_Name_kw<|Oj I v hm ?_ P;refine PySem.W.callWith_K I.ok.mod.Of Z (Ag (ha pos AB s σ H _ I h) ?_) he D;rintro us s1 ⟨vs,H1,z,r,q⟩;refine⟨z.BS,?_⟩;exact ACy F y Y hd O z r q
structure Mk(K:PySem.W.Frag)(C f:Addr):Prop where
 makes:PySem.W.makesIn K C=true
 init:PySem.W.findIn K (.ref C) "__init__" = some (some<|.ref f)
 fn:PySem.W.isFn K (.ref f)=true
 kp:PySem.W.keepIn K (.ref C)=true
end
section
variable{X:Cx}{CX:Ea}{k:Nat}{f C:Addr}{fd:FuncData}{ps ks:List Str}{sp:Sp}{E:XK}{x m:Str}{p pos apos AFY:Pos}{e o:Expr}{es:List Expr}{kws:List Keyword}{te ta:TE}{t tk:TA}{nm:Option Str}
structure AEy(K:PySem.W.Frag)(fd:FuncData)(ps ks:List Str)(g:List Value->List Value->List Value)(gV:List V->List V->List V):Prop where
 to:∀(s:Shared)(us ws:List Value),K.In s.heap->(g us ws).length=ps.length->BindsTo s fd ⟨us,ks.zip ws⟩ (ps.zip<|g us ws)
 rel:∀{vs:List V}{us:List Value}{zs:List V}{ws:List Value},Ao vs us->Ao zs ws->Ao (gV vs zs) (g us ws)
variable{g:List Value->List Value->List Value}{gV:List V->List V->List V}
end
structure IG(N P:List Str)(sc:Scope):Prop where
 kind:sc.kind=.function
 co:sc.isCoroutine=false
 gen:sc.isGenerator=false
 nd:N.Nodup
 pre:N.take P.length=P
 par:∀x∈P,sc.names.lookup x=some .local\/sc.names.lookup x=some .cell
 yD:∀y∈sc.names,y.2≠.free
theorem Y9{kindOf:Str->Option NameKind}{x:Str}:∀{binds:List (Str×Value)}{m:Str->Option Value},(∀v,(x,v)∉binds)->bindL kindOf binds m x=m x
 |[],_,_=>rfl
 |(n,v)::r,m,h=>by
  unfold bindL;rw[Y9 λw z=>h w<|AFz _ z];split
  .have:x≠n:=by rintro rfl;exact h v AF3
   simp[this]
  .rfl
theorem Y7{kindOf:Str->Option NameKind}{x:Str}:∀{binds:List (Str×Value)}{m:Str->Option Value},(∀v,(x,v)∉binds)->bindC kindOf binds m x=m x
 |[],_,_=>rfl
 |(n,v)::r,m,h=>by
  unfold bindC;rw[Y7 λw z=>h w<|AFz _ z];split
  .rfl
  .have:x≠n:=by rintro rfl;exact h v AF3
   simp[this]
theorem Y8{kindOf:Str->Option NameKind}{x:Str}{v:Value}:∀{P:List Str}{vs:List Value}{i:Nat}{m:Str->Option Value},P.Nodup->P[i]? = some x->vs[i]? = some v->kindOf x=some .local->bindL kindOf (P.zip vs) m x=some v
 |[],_,_,_,_,h,_,_=>by simp at h
 |_::_,[],_,_,_,_,h,_=>by simp at h
 |p::P,w::vs,0,m,nd,h1,h2,hk=>by simp at h1 h2;subst h1;subst h2;show bindL kindOf ((p,w)::P.zip vs) m p=_;unfold bindL;rw[Y9 λv z=>(AHL.mp nd).1 (AI4 z).1,AFu hk];simp
 |p::P,w::vs,i+1,m,nd,h1,h2,hk=>by show bindL kindOf ((p,w)::P.zip vs) m x=_;exact Y8 (AHL.mp nd).2 (by simpa using h1) (by simpa using h2) hk
theorem Y6{kindOf:Str->Option NameKind}{x:Str}{v:Value}:∀{P:List Str}{vs:List Value}{i:Nat}{m:Str->Option Value},P.Nodup->P[i]? = some x->vs[i]? = some v->kindOf x≠some .local->bindC kindOf (P.zip vs) m x=some v
 |[],_,_,_,_,h,_,_=>by simp at h
 |_::_,[],_,_,_,_,h,_=>by simp at h
 |p::P,w::vs,0,m,nd,h1,h2,hk=>by simp at h1 h2;subst h1;subst h2;show bindC kindOf ((p,w)::P.zip vs) m p=_;unfold bindC;rw[Y7 λv z=>(AHL.mp nd).1 (AI4 z).1,AF0 hk];simp
 |p::P,w::vs,i+1,m,nd,h1,h2,hk=>by show bindC kindOf ((p,w)::P.zip vs) m x=_;exact Y6 (AHL.mp nd).2 (by simpa using h1) (by simpa using h2) hk
noncomputable def start(N:List Str)(vs:List V):St:=vs.map some++List.replicate (N.length-vs.length) none
noncomputable def GN(CX:Ea)(P:Program)(w:World)(K:PySem.W.Frag)(mg:Str->Option Value)(base:Heap)(N:List Str)(qual:Str)(scope:Scope)(f:Addr)(z:Value)(A:Around)(outer:List Env)(s:Shared)(H:Hp)(E:XK):Cx where
 prog:=P
 w:=w
 K:=K
 mg:=mg
 base:=base
 A:=A.deeper<|envOfC qual scope s.heap.objs.size f z
 N:=N
 B5:=s
 AO:=H
 env:=envOfC qual scope s.heap.objs.size f z
 outer:=outer
 stack:=envOfC qual scope s.heap.objs.size f z::outer
 ex:=[]
 calm:=true
 fn:=λ_=>true
 pn:=[]
 xe:=λe s'=>wpAny (model P w) (A.deeper<|envOfC qual scope s.heap.objs.size f z) (leaving (envOfC qual scope s.heap.objs.size f z) e) (λ_ y=>CX outer H s E e y) (λq y=>CX outer H s E q y) s'
theorem QT{sc:Scope}{n:Nat}{x:Str}(h:sc.names.lookup x=some .cell):∃c,(cellsFrom n sc.names []).lookup x=some c:=by have q:=AIs sc.names n []<|.inl h;exact Option.isSome_iff_exists.mp q
theorem gJ{CX:Ea}{P:Program}{w:World}{K:PySem.W.Frag}{mg:Str->Option Value}{base:Heap}{N ps:List Str}{qual:Str}{scope:Scope}{f:Addr}{O:Value}{A:Around}{outer:List Env}{s s1:Shared}{H:Hp}{E:XK}{us:List Value}{vs:List V} (S:IG N ps scope) (hd:A.handled=none) (Y:Kb P w K mg base A outer s H) (hl:vs.length=ps.length) (r:Ao vs us) (x:InCallC s s.heap.objs.size (bindL (envOfC qual scope s.heap.objs.size f O).kindOf (ps.zip us) λ_=>none) (cellsFrom (s.heap.objs.size+1) scope.names []) (bindC (envOfC qual scope s.heap.objs.size f O).kindOf (ps.zip us) λ_=>none) s1) :
 Inv (GN CX P w K mg base N qual scope f O A outer s H E) [] (start N vs) H s1:=by
 have BA:ps.length<=N.length:=by have:=AG5 List.length S.pre;rw[AHe]at this;lia
 obtain⟨D,tk,rfl,R⟩:=x.done;have F:∀b:Addr,b∉(GN CX P w K mg base N qual scope f O A outer s H E).ex:=λb z=>absurd (show b∈([])from z) AFn;refine⟨⟨Y.mod,S.kind,rfl,rfl,AF5 _,λy z c D Z=>?_,λy Q=>?_,λy c _ h=>?_,λ_=>hd,Around.frames_deeper Y.frames,.inr ⟨rfl,rfl⟩,λb z=>absurd z (F b),Y.bs,Y.FZ,λb _ _=>F b,λb z=>absurd z (F b),Y.EC,Y.GW⟩,
  rfl,Y.bare,Un.kept R,⟨_,x.toInCall.ns,λi y v D Z h3=>?_⟩,λy c h=>⟨_,x.cell y c h⟩,Y.AZ.fresh<|AF5 _,λy c h=>?_,λp hp=>absurd (show p∈([])from hp) AFn,Y.AZ.kept R,?_⟩
 .exact name_of_addr x.apart (AGx D)<|AGx Z
 .rcases Q with Q|Q
  .exact QT Q
  .exact absurd rfl (S.yD _<|AGx Q)
 .exact AH0<|x.above y c<|AGx h
 .have hi:i<vs.length:=by
   unfold start at Z;by_cases hi:i<vs.length
   .exact hi
   .rw[AGa<|by simpa using hi]at Z;rw[AGz]at Z;split at Z<;>nomatch Z
  have ha:vs[i]? = some v:=by
   unfold start at Z;rw[AGX (by simpa using hi),AG6]at Z;cases e:vs[i]? with
   |none=>rw[e]at Z;contradiction
   |some a=>rw[e]at Z;cases Z;rfl
  obtain⟨u,B,rv⟩:=r.get ha;have hp:ps[i]? = some y:=by rw[<-S.pre,AJN U];exact D
  have G:ps.Nodup:=by rw[<-S.pre];exact S.nd.sublist<|AJJ _ _
  refine⟨u,rv,?_⟩;rcases S.par y (AHA hp)with k|k
  .exact .inl ⟨k,Y8 G hp B k⟩
  .obtain⟨c,e⟩:=QT k;refine .inr ⟨.inl k,c,e,?_⟩;have q:=x.cell y c e;rw[Y6 G hp B (by show scope.names.lookup y≠_;rw[k];decide)]at q;exact q
 .exact Y.AZ.fresh<|AH0<|x.above y c<|AGx h
 .unfold start;show _=N.length;simp only[AGA,AFs,AHU];lia
theorem dk{CX:Ea}{P:Program}{w:World}{K:PySem.W.Frag}{mg:Str->Option Value}{base:Heap}{k:Nat}{f:Addr}{p qual:Str}{z:Arguments}{body:List Stmt}{scope:Scope}{F kV doc pm As ct oc:Value}{an od:Option Addr} {Gp:Array (Option Value)} {N ps:List Str} {sp:Sp} (G:K.lookup f=some ⟨oc,od,.func<|PySem.W.fnOf p qual z body scope F kV doc pm an As ct,Gp⟩) (T:PySem.W.codeIn K As qual=true) (S:IG N ps scope) (len:∀vs H Q E,sp vs H Q E->vs.length=ps.length) (C:∀(A:Around)(outer:List Env)(s:Shared)(H:Hp)(vs:List V)(Q:VK)(E:XK),B7 k (A.deeper<|envOfC qual scope s.heap.objs.size f As)->sp vs H Q E->
  ∃t,CP (GN CX P w K mg base N qual scope f As A outer s H E) body t/\t {nx:=λ_ H'=>Q .Au H',rt:=Q} (start N vs) H) :
 Cw P w K mg base CX (k+1) f (PySem.W.fnOf p qual z body scope F kV doc pm an As ct) ps sp:=by
 refine⟨len,λA outer s H args us vs Q E O Z a r R=>?_⟩;have h:=len _ _ _ _ R;have B:=Z.mod.Of.keeps λb o e=>(Z.bs b o e).1;have D:=Z.mod.nolimit.keeps λb o e=>(Z.bs b o e).1;have Vx:∀y∈ps.zip us,scope.names.lookup y.1=some .local\/(scope.names.lookup y.1=some .cell/\((cellsFrom (s.heap.objs.size+1) scope.names []).lookup y.1).isSome=true):=(by
  rintro⟨n,v⟩ hy;rcases S.par n (AI4 hy).1 with q|q
  .exact .inl q
  .exact .inr ⟨q,AIs _ _ _<|.inl q⟩)
 refine codeAny_call_function O.depth (B _ _ G) rfl S.co S.gen rfl (PySem.W.codeRec_of B T)<|a _ _ _ _ ?_;refine wpAny_newFunctionEnv_cells S.kind Vx λenv he s1 x=>?_;subst he;refine⟨D.keeps x.toInCall.keep,codeAny_func ?_⟩;obtain⟨t,ht,hq⟩:=C A outer s H vs Q E (O.deeper _) R;have I:Inv (GN CX P w K mg base N qual scope f As A outer s H E) [] (start N vs) H s1:=gJ S O.hd Z h r x;refine wpAny_mono (ht [] s1 (start N vs) H _ I hq) (λfl s' hs=>?_) λe s' hs=>hs;have fin:∀{Y:St}{H':Hp}{v:V}{u:Value},Inv (GN CX P w K mg base N qual scope f As A outer s H E) [] Y H' s'->RelV v u->Q v H'->CE outer P w H s Q u s':=
  λ{Y H' v u} J rv q=>⟨v,H',J.os,J.bare,J.base,J.AZ,rv,q⟩
 cases fl with
 |ret u=>
  obtain⟨v,Y,H',J,rv,q⟩:=hs;exact fin J rv q
 |next=>
  obtain⟨Y,H',J,q⟩:=hs;exact fin (v:=V.Au) J rfl q
 |brk=>
  obtain⟨_,_,_,q⟩:=hs;exact False.elim q
 |cont=>
  obtain⟨_,_,_,q⟩:=hs;exact False.elim q
section
variable{X:Cx}{x:Str}{p pos:Pos}{e:Expr}{es:List Expr}{t:TA}{id T:String}{r:List V->Hp->VK->Prop}
def YA(r:List V->Hp->VK->Prop)(t:TA):TE:=λσ H Q=>t σ H λvs z=>r vs z Q
theorem PF(hc:C4 X (.builtin id) r)(z:Gl X x)(hm:X.mg x=none)(y:bootBuiltins x=some (.builtin id))(ha:PA X (e::es) t)(hn:x≠"__name__":=by decide)(q:(x==("__debug__"))=false:=by decide) (he:starEach (e::es) X.env=(false,eval e X.env)::starEach es X.env:=by rfl) (v:(backTo pos<|starEach es X.env).any (·.1)=false:=by rfl):PE X (.Call (.Name x p) (e::es) [] pos)<|YA r t:=by intro AB s σ H Q I h;refine wpAny_Call_Name_kw<|Oi I z hm y ?_ hn q;exact PyProof.Rows.callWith_builtin1 (Ag (ha pos AB s σ H _ I h) (by rintro us s1 ⟨vs,Z,Y,O,P⟩;exact hc AB s1 σ Z vs us Q Y O P)) he v
theorem jP(hc:C4 X (.type T) r)(z:Gl X x)(hm:X.mg x=none)(y:bootBuiltins x=some (.type T))(ha:PA X (e::es) t)(hn:x≠"__name__":=by decide)(q:(x==("__debug__"))=false:=by decide) (he:starEach (e::es) X.env=(false,eval e X.env)::starEach es X.env:=by rfl) (v:(backTo pos<|starEach es X.env).any (·.1)=false:=by rfl):PE X (.Call (.Name x p) (e::es) [] pos)<|YA r t:=by intro AB s σ H Q I h;refine wpAny_Call_Name_kw<|Oi I z hm y ?_ hn q;exact AIO (Ag (ha pos AB s σ H _ I h) (by rintro us s1 ⟨vs,Z,Y,O,P⟩;exact hc AB s1 σ Z vs us Q Y O P)) he v
end
end L2
namespace HT
open PySem PyProof.Rows
section
open PySem.SeqAt
open PySem.AutoSeq1 (wpAny_loadPart')
open PySem.MeetsSeq PySem.MeetsSeq2 PySem.MeetsSeq3
end
section
variable{prog:Program}{w:World}{A:Around}{E:Value->Shared->Prop}{s:Shared}
noncomputable def DO(n d:Nat):Option Int->Nat
 |none=>d
 |some v=>if v<0 then(v+(n:Int)).toNat else min v.toNat n
theorem kF(n d:Nat):DO n d none=d:=rfl
theorem kE(n d k:Nat):DO n d (some<|k)=min k n:=by show(if(k:Int)<0 then((k:Int)+(n)).toNat else min (k:Int).toNat n)=min k n;rw[AF0 U,Int.toNat_natCast]
end
end HT
set_option tactic.hygienic false
namespace L2
open PySem PySem.Spec PyProof.Rows
abbrev TO:=St->Hp->(Option Int->Hp->Prop)->Prop
def PO(X:Cx)(e:Option Expr)(t:TO):Prop:=
 ∀(AB:List<|Addr×Obj)(s:Shared)(σ:St)(H:Hp)(Q:Option Int->Hp->Prop),Inv X AB σ H s->t σ H Q->wpAny (model X.prog X.w) X.A (evalPart e X.env) (λu s'=>∃o H',Inv X AB σ H' s'/\IsPart u o/\Q o H') X.xe s
def ADm:TO:=λ_ H Q=>Q none H
def ADr(t:TE):TO:=λσ H Q=>t σ H λx z=>∃i,x=.int i/\Q (some i) z
theorem intsAre_of{ns:List Int}:∀{us:List Value},Ao (ns.map V.int) us->IntsAre us ns:=by
 induction ns with
 |nil=>intro us r;cases r;exact .nil
 |cons n ns ih=>
  intro us r;cases r with
  |cons r1 r2=>
   obtain⟨t,e⟩:=r1;subst e;exact .cons n t<|ih r2
section
variable{X:Cx}{e:Expr}{te:TE}{lo hi:Option Expr}{tl th:TO}{pos p2:Pos}
theorem AAT:PO X none ADm:=by intro AB s σ H Q I h;exact wpAny_pure ⟨none,H,I,.none,h⟩
theorem AAU(h:PE X e te):PO X (some e)<|ADr te:=by intro AB s σ H Q I z;refine Ag (h AB s σ H _ I z) ?_;rintro u s1 ⟨x,y,v,p,Z⟩;obtain⟨i,rfl,q⟩:=Z;obtain⟨t,rfl⟩:=p;exact⟨some i,y,v,.int i t,q⟩
def Yw(X:Cx)(r:V->Option Int->Option Int->Hp->VK->Prop):Prop:=
 ∀(AB:List<|Addr×Obj)(s:Shared)(σ:St)(H:Hp)(x:V)(v z y:Value)(lo hi:Option Int)(sl:Addr)(Q:VK),Inv X AB σ H s->RelV x v->s.heap.IsSliceOf sl z y .none->IsPart z lo->IsPart y hi->r x lo hi H Q->∃T id,typeLookup (.type T) "__getitem__" = pure (some<|.builtin id)/\s.TypeIs v T/\wpAny (model X.prog X.w) X.A (getItem v<|.ref sl) (EP X AB σ Q) X.xe s
def tSl(r:V->Option Int->Option Int->Hp->VK->Prop)(te:TE)(tl th:TO):TE:=λσ H Q=>te σ H λx z=>tl σ z λl y=>th σ y λu q=>r x l u q Q
theorem AAD{r:V->Option Int->Option Int->Hp->VK->Prop}(Y:Yw X r)(he:PE X e te)(O:PO X lo tl)(P:PO X hi th):PE X (.Subscript e (.Slice lo hi none p2) pos)<|tSl r te tl th:=by intro AB s σ H Q I h;refine Subscript_<|Ag (he AB s σ H _ I h) ?_;rintro v s1 ⟨x,D,F,R,B⟩;refine wpAny_Slice<|Ag (O AB s1 σ D _ F B) ?_;rintro y s2 ⟨l,G,S,C,E⟩;refine Ag (P AB s2 σ G _ S E) ?_;rintro p z ⟨u,Z,n,t,q3⟩;refine wpAny_pure ?_;have f:Inv X AB σ Z {z with heap:=z.heap.push {cls:=.type "slice",data:=.fields #[y,p,.none]}}:=n.kept λb ob q=>Heap.get?_push_of_some _ q;obtain⟨T,id,a,ht,hg⟩:=Y AB {z with heap:=z.heap.push {cls:=.type "slice",data:=.fields #[y,p,.none]}} σ Z x v y p l u z.heap.objs.size Q f R (Heap.IsSliceOf.new ..) C t q3;exact tail_any ht a hg<|by with_unfolding_all rfl
def QX(xs:List V)(lo hi:Option Int):List V:=(xs.drop<|HT.DO xs.length 0 lo).take<|HT.DO xs.length xs.length hi-HT.DO xs.length 0 lo
theorem pz(xs:List V)(lo hi:Option Int):(QX xs lo hi).length<=xs.length:=by unfold QX;rw[AHe,AIP];omega
end
noncomputable def Gh(n:Nat)(i:Int):Option Nat:=if 0<=i then(if i<n then some i.toNat else none)else if -(n:Int)<=i then some (i+n).toNat else none
def CM{α:Type}(xs:List α)(i:Int):Option α:=(Gh xs.length i).bind λj=>xs[j]?
theorem wD{n:Nat}{i:Int}{j:Nat}(h:Gh n i=some j):seqIndex? i n=some j/\j<n/\-(n)<=i/\i<n:=by
 unfold Gh at h;by_cases y:0<=i
 .rw[AFu y]at h;by_cases z:i<n
  .rw[AFu z]at h;have e:=AGT h;exact⟨by rw[seqIndex_of y z,e],AFo,AFo,z⟩
  .rw[AF0 z]at h;contradiction
 .rw[AF0 y]at h;by_cases z : -(n)<=i
  .rw[AFu z]at h;have e:=AGT h;exact⟨by rw[seqIndex_neg AFo z,e],AFo,z,AFo⟩
  .rw[AF0 z]at h;contradiction
theorem Y2{α:Type}{xs:List α}{i:Int}{v:α}(h:CM xs i=some v):∃j,seqIndex? i xs.length=some j/\xs[j]? = some v/\j<xs.length/\-(xs.length)<=i/\i<xs.length:=by
 unfold CM at h;cases e:Gh xs.length i with
 |none=>rw[e]at h;contradiction
 |some j=>
  rw[e]at h;obtain⟨z,y,h3,q⟩:=wD e;exact⟨j,z,h,y,h3,q⟩
def Yu(b:Expr):Prop:=∀o i,subscripted b false o i=operate [o,i] (getItem o i)
def JT(X:Cx)(r:R2):Prop:=
 ∀(q z:Expr)(AB:List<|Addr×Obj)(s:Shared)(σ:St)(H:Hp)(x y:V)(v u:Value)(Q:VK),Inv X AB σ H s->RelV x v->RelV y u->r x y H Q->subscripted z false v u=operate [v,u] (getItem v u)->wpAny (model X.prog X.w) X.A (subscriptTail q z v u) (EP X AB σ Q) X.xe s
def Ys(X:Cx)(id:String)(r:V->List V->Hp->VK->Prop):Prop:=
 ∀(AB:List<|Addr×Obj)(s:Shared)(σ:St)(H:Hp)(x:V)(xs:List V)(v:Value)(us:List Value)(Q:VK),Inv X AB σ H s->RelV x v->Ao xs us->r x xs H Q->wpAny (model X.prog X.w) X.A (call (.builtin id) (v::us)) (EP X AB σ Q) X.xe s
section
variable{X:Cx}{a b:Expr}{ta tb:TE}{pos:Pos}
theorem JT.or{r Z:R2}(h:JT X r)(h':JT X Z):JT X (λx y H Q=>r x y H Q\/Z x y H Q):=by
 intro z p AB s σ H x y v u Q I Y O q hs;rcases q with q|q
 .exact h z p AB s σ H x y v u Q I Y O q hs
 .exact h' z p AB s σ H x y v u Q I Y O q hs
theorem zv{r:R2}(z:JT X r)(ha:PE X a ta)(p:PE X b tb)(hs:Yu b):PE X (.Subscript a b pos)<|Pe r ta tb:=by intro AB s σ H Q I h;exact Subscript_<|Ue ha p I h λv u s2 x y Z Y O P q=>z a b AB s2 σ Z x y v u Q Y O P q<|hs _ _
def jm(K:PySem.W.Frag):R2:=λx y H Q=>∃p xs i v,x=.ref p/\y=.int i/\CF K H p xs/\CM xs i=some v/\Q v H
def jr(K:PySem.W.Frag):R2:=λx y H Q=>∃p xs i v,x=.ref p/\y=.int i/\Bi K H p xs/\CM xs i=some v/\Q v H
theorem wI:JT X<|jm X.K:=by
 intro value slice AB s σ H x y v u Q I F R h hs;obtain⟨p,xs,i,z,rfl,rfl,B,he,q⟩:=h;cases F;obtain⟨t,rfl⟩:=R;obtain⟨its,r,Y,hz⟩:=I.list B;obtain⟨j,Z,G,h3,S,T⟩:=Y2 he;obtain⟨w,P,C⟩:=r.get G;have E:=r.length;have hn:=Rw;have fin:EP X AB σ Q w s:=⟨z,H,I,C,q⟩;by_cases D:0<=i
 .have O:=by rw[seqIndex_of D T]at Z;exact AGT Z
  exact item_listR Y.isList D U (by rw[O];simpa using P) fin hs
 .have O:(i+(its.toArray.size)).toNat=j:=by rw[seqIndex_neg AFo S]at Z;rw[AF9,<-E];exact AGT Z
  exact subscriptTail_builtinR Y.isList.typeIs slot_list_getitem.lookup (wpAny_getItem_list_neg Y.isList AFo (by rw[AF9]<;>lia) U (by rw[O];simpa using P) ⟨rfl,fin⟩) hs
theorem wJ:JT X<|jr X.K:=by intro value slice AB s σ H x y v u Q I Y O h hs;obtain⟨p,xs,i,z,rfl,rfl,P,he,q⟩:=h;cases Y;obtain⟨t,rfl⟩:=O;obtain⟨its,r,Z,hz⟩:=I.tuple P;obtain⟨j,D,F,h3,h4,h5⟩:=Y2 he;obtain⟨w,R,B⟩:=r.get F;have G:=r.length;have hn:=Rw;have fin:EP X AB σ Q w s:=⟨z,H,I,B,q⟩;exact subscriptTail_builtinR Z.typeIs slot_tuple_getitem.lookup (getItem_tuple Z AFo AFo (by rw[AF9,<-G];exact D) (by simpa using R) ⟨rfl,fin⟩) hs
theorem ADK(lo hi:Option Int)(n:Nat):(sliceBounds lo hi none n).1=((HT.DO n 0 lo))/\(sliceBounds lo hi none n).2.1=((HT.DO n n hi))/\(sliceBounds lo hi none n).2.2=1:=by
 refine⟨?_,?_,rfl⟩
 .cases lo with
  |none=>simp[sliceBounds,HT.DO]
  |some i=>
   simp only[sliceBounds,HT.DO,Option.getD_none,show(1:Int)>0 by decide,AHl];by_cases h:i<0
   .simp only[h,AHl]<;>omega
   .simp only[h,AIz]<;>omega
 .cases hi with
  |none=>simp[sliceBounds,HT.DO]
  |some i=>
   simp only[sliceBounds,HT.DO,Option.getD_none,show(1:Int)>0 by decide,AHl];by_cases h:i<0
   .simp only[h,AHl]<;>omega
   .simp only[h,AIz]<;>omega
theorem ADJ(its:List Value)(lo hi:Option Int):slicePick its.toArray lo hi none=((its.drop<|HT.DO its.length 0 lo).take<|HT.DO its.length its.length hi-HT.DO its.length 0 lo).toArray:=by obtain⟨z,y,h3⟩:=ADK lo hi its.toArray.size;unfold slicePick;simp only[z,y,h3];simp only[sliceRange_one,pick_run]<;>rfl
def ACg(K:PySem.W.Frag):V->Option Int->Option Int->Hp->VK->Prop:=λx lo hi H Q=>∃a xs,x=.ref a/\CF K H a xs/\∀p,H p=none->Q (.ref p) (upd H p<|.lst<|QX xs lo hi)
theorem ADH:Yw X<|ACg X.K:=by intro AB s σ H x v vl vu lo hi sl Q I y hs p Z h;obtain⟨a,xs,rfl,Y,q⟩:=h;cases y;obtain⟨its,r,z,hz⟩:=I.list Y;have O:=r.length;refine⟨"list",_,slot_list_getitem.lookup,z.isList.typeIs,?_⟩;refine wpAny_getItem_list_slice z.isList hs p Z .none AFn ?_ (by rw[AF9]<;>lia);rw[ADJ,<-O];refine⟨.ref s.heap.objs.size,_,I.laid (λb ob q=>Heap.get?_push_of_some _ q) (AF5 _) ?_,rfl,q _<|I.AZ.fresh<|AF5 _⟩;exact⟨AGZ (pz xs lo hi) hz,_,0,(r.drop<|HT.DO xs.length 0 lo).take<|HT.DO xs.length xs.length hi-HT.DO xs.length 0 lo,Heap.get?_push_size _ rfl⟩
noncomputable def Jm:V->Bool
 |.Au=>true
 |.bl _=>true
 |.int _=>true
 |.str _=>true
 |_=>false
noncomputable def Jg:V->V->Bool
 |.Au,.Au=>true
 |.bl a,.bl b=>a==b
 |.bl a,.int b=>(if a then 1 else 0)==b
 |.int a,.bl b=>a==(if b then 1 else 0)
 |.int a,.int b=>a==b
 |.str a,.str b=>a==b
 |_,_=>false
theorem rJ{A:Around}{s:Shared}{y x:V}{u v:Value}(q:RelV y u)(z:RelV x v)(p:Jm y=true)(fx:Jm x=true):SeqAt.EqAt A s u v<|Jg y x:=by
 cases y with
 |Au=>
  cases q;cases x with
  |Au=>cases z;exact SeqAt.EqAt.same _
  |bl b=>cases z;exact SeqAt.EqAt.none_bool b
  |int b=>obtain⟨t,rfl⟩:=z;exact SeqAt.EqAt.none_int b t
  |str b=>obtain⟨t,rfl⟩:=z;exact SeqAt.EqAt.none_str b t
  |_=>exact absurd (show false=true from fx) AHO
 |bl a=>
  cases q;cases x with
  |Au=>cases z;exact SeqAt.EqAt.bool_none a
  |bl b=>cases z;exact SeqAt.EqAt.bool_bool a b
  |int b=>obtain⟨t,rfl⟩:=z;exact SeqAt.EqAt.bool_int a b t
  |str b=>obtain⟨t,rfl⟩:=z;exact SeqAt.EqAt.bool_str a b t
  |_=>exact absurd (show false=true from fx) AHO
 |int a=>
  obtain⟨t',rfl⟩:=q;cases x with
  |Au=>cases z;exact SeqAt.EqAt.int_none a t'
  |bl b=>cases z;exact SeqAt.EqAt.int_bool a t' b
  |int b=>obtain⟨t,rfl⟩:=z;exact SeqAt.EqAt.int_int a t' b t
  |str b=>obtain⟨t,rfl⟩:=z;exact SeqAt.EqAt.int_str a t' b t
  |_=>exact absurd (show false=true from fx) AHO
 |str a=>
  obtain⟨t',rfl⟩:=q;cases x with
  |Au=>cases z;exact SeqAt.EqAt.str_none a t'
  |bl b=>cases z;exact SeqAt.EqAt.str_bool a t' b
  |int b=>obtain⟨t,rfl⟩:=z;exact SeqAt.EqAt.str_int a t' b t
  |str b=>obtain⟨t,rfl⟩:=z;exact SeqAt.EqAt.str_str a t' b t
  |_=>exact absurd (show false=true from fx) AHO
 |_=>exact absurd (show false=true from p) AHO
def Ed(x:V)(u:Value):Bool:=match u with
 |.none=>Jg .Au x
 |.bool b=>Jg (.bl b) x
 |.int i _=>Jg (.int i) x
 |.str z _=>Jg (.str z) x
 |_=>false
theorem c8{x y:V}{u:Value}(r:RelV y u)(f:Jm y=true):Ed x u=Jg y x:=by
 cases y with
 |Au=>cases r;rfl
 |bl b=>cases r;rfl
 |int i=>obtain⟨t,rfl⟩:=r;rfl
 |str z=>obtain⟨t,rfl⟩:=r;rfl
 |_=>exact absurd (show false=true from f) AHO
theorem QL{x:V}:∀{xs:List V}{us:List Value},Ao xs us->xs.all Jm=true->us.any (Ed x)=xs.any λy=>Jg y x:=by
 intro xs us h
 induction h with
 |nil=>intro f;rfl
 |cons r t ih=>
  intro f;rw[List.all_cons,AFw]at f;rw[AG8,AG8,c8 r f.1,ih f.2]
theorem SA{A:Around}{s:Shared}{x:V}{v:Value}(y:RelV x v)(fx:Jm x=true):∀{xs:List V}{us:List Value},Ao xs us->xs.all Jm=true->∀u∈us,SeqAt.EqAt A s u v<|Ed x u:=by
 intro xs us h
 induction h with
 |nil=>intro f u z;cases z
 |cons r t ih=>
  intro f q z;rw[List.all_cons,AFw]at f;cases z with
  |head=>rw[c8 r f.1];exact rJ r y f.1 fx
  |tail _ z=>exact ih f.2 q z
def RZ(x:V)(xs:List V):Bool:=xs.any λy=>Jg y x
def Xg(K:PySem.W.Frag)(neg:Bool):R2:=λx y H Q=>∃p xs,y=.ref p/\(CF K H p xs\/Bi K H p xs)/\Jm x=true/\xs.all Jm=true/\Q (.bl (if neg then !RZ x xs else RZ x xs)) H
theorem yq:Be X (compareOp .In)<|Xg X.K false:=by
 intro AB s σ H x y v u Q I O P h;obtain⟨p,xs,rfl,z,fx,fs,q⟩:=h;cases P;rcases z with z|z
 .obtain⟨its,r,Z,hz⟩:=I.list z;refine SeqAt.in_listAt (Ed x) Z.isList (λw Y=>SA O fx r fs w<|by simpa using Y) ⟨.bl _,H,I,rfl,?_⟩;rw[show its.toArray.any (Ed x)=its.any (Ed x)by simp,QL r fs];exact q
 .obtain⟨its,r,Z,hz⟩:=I.tuple z;refine SeqAt.in_tupleAt (Ed x) Z (λw Y=>SA O fx r fs w<|by simpa using Y) ⟨.bl _,H,I,rfl,?_⟩;rw[show its.toArray.any (Ed x)=its.any (Ed x)by simp,QL r fs];exact q
theorem y9:Be X (compareOp .NotIn)<|Xg X.K true:=by
 intro AB s σ H x y v u Q I O P h;obtain⟨p,xs,rfl,z,fx,fs,q⟩:=h;cases P;rcases z with z|z
 .obtain⟨its,r,Z,hz⟩:=I.list z;refine SeqAt.notIn_listAt (Ed x) Z.isList (λw Y=>SA O fx r fs w<|by simpa using Y) ⟨.bl _,H,I,rfl,?_⟩;rw[show its.toArray.any (Ed x)=its.any (Ed x)by simp,QL r fs];exact q
 .obtain⟨its,r,Z,hz⟩:=I.tuple z;refine SeqAt.notIn_tupleAt (Ed x) Z (λw Y=>SA O fx r fs w<|by simpa using Y) ⟨.bl _,H,I,rfl,?_⟩;rw[show its.toArray.any (Ed x)=its.any (Ed x)by simp,QL r fs];exact q
theorem oY:C4 X (.builtin "len") (λxs H Q=>∃p z,xs=[.ref p]/\(CF X.K H p z\/Bi X.K H p z)/\Q (.int z.length) H):=by
 intro AB s σ H xs us Q I r h;obtain⟨p,z,rfl,y,q⟩:=h;obtain⟨u,rfl,O⟩:=vals1 r;cases O;have hn:=Rw;rcases y with y|y
 .obtain⟨its,v,Z,hz⟩:=I.list y;have Y:=v.length;exact Calls.call_len_list Z.isList (by simp only[AF9]<;>omega) ⟨.int z.length,H,I.tok _,⟨s.toks+1,by rw[AF9,Y]⟩,q⟩
 .obtain⟨its,v,Z,hz⟩:=I.tuple y;have Y:=v.length;exact len_tuple Z (by simp only[AF9]<;>omega) ⟨.int z.length,H,I.tok _,⟨s.toks+1,by rw[AF9,Y]⟩,q⟩
theorem oZ:C4 X (.type "list") (λxs H Q=>∃p z,xs=[.ref p]/\(CF X.K H p z\/Bi X.K H p z)/\∀l,H l=none->Q (.ref l) (upd H l<|.lst z)):=by
 intro AB s σ H xs us Q I r h;obtain⟨p,z,rfl,Z,q⟩:=h;obtain⟨u,rfl,O⟩:=vals1 r;cases O;have fin:∀(its:List Value),Ao z its->z.length<=sizeLine->∀(h':Heap)(y:Nat),(∀b o',s.heap.get? b=some o'->h'.get? b=some o')->h'.get? s.heap.objs.size=some {cls:=.type "list",dict:=none,data:=.seq its.toArray y,slots:=#[]}->EP X AB σ Q (.ref s.heap.objs.size) {s with heap:=h'}:=λits v hz h' y kp e=>
  ⟨.ref s.heap.objs.size,_,I.laid kp (AF5 _) (show Bx X.prog X.w _ h' _ (.lst z)from⟨hz,its,y,v,e⟩),rfl,q _<|I.AZ.fresh<|AF5 _⟩
 rcases Z with Z|Z
 .obtain⟨its,v,Y,hz⟩:=I.list Z;have P:=v.length;obtain⟨o,ho,hc,n,hd⟩:=Y.isList;exact call_list_seq p (.inl rfl) ho hc hd (λh' y kp e=>fin its v hz h' y kp e) (by simp only[AF9]<;>omega)
 .obtain⟨its,v,Y,hz⟩:=I.tuple Z;have P:=v.length;obtain⟨o,ho,hc,n,hd⟩:=Y;exact call_list_seq p (.inr rfl) ho hc hd (λh' y kp e=>fin its v hz h' y kp e) (by simp only[AF9]<;>omega)
def YN(K:PySem.W.Frag)(T:String)(x:V)(H:Hp):Prop:=match x with
 |.str _=>T = "str"
 |.int _=>T = "int"
 |.ref p=>(T = "list"/\∃xs,CF K H p xs)\/(T = "tuple"/\∃o,K.lookup p=some o/\o.cls=.type "tuple"/\o.dict=none)\/
  (T = "dict"/\((∃AL,H p=some (.dK AL))\/∃AL,H p=some (.dT AL)))\/(T = "set"/\∃S n,H p=some (.set S n))
 |_=>False
theorem lH{AB:List (Addr×Obj)}{σ:St}{H:Hp}{s:Shared}{T:String}{x:V}{v:Value}(I:Inv X AB σ H s)(r:RelV x v)(ty:YN X.K T x H) : s.TypeIs v T/\∀a,v=.ref a->∃Z,s.heap.get? a=some Z/\Z.dict=none:=by
 cases x with
 |str z=>
  obtain⟨t,rfl⟩:=r;cases (show T = "str" from ty);exact⟨typeIs_str s z t,λ_ e=>nomatch e⟩
 |int i=>
  obtain⟨t,rfl⟩:=r;cases (show T = "int" from ty);exact⟨typeIs_int s i t,λ_ e=>nomatch e⟩
 |ref p=>
  cases r;rcases ty with⟨rfl,xs,Q⟩|⟨rfl,o,y,hc,hd⟩|⟨rfl,y⟩|⟨rfl,S,n,y⟩
  .obtain⟨its,_,Y,_⟩:=I.list Q;refine⟨Y.isList.typeIs,λa e=>?_⟩;cases e;obtain⟨o,n,e,c,hd,_⟩:=Y;exact⟨o,e,hd⟩
  .refine⟨⟨o,I.BS p o y,hc⟩,λa e=>?_⟩;cases e;exact⟨o,I.BS _ o y,hd⟩
  .have z:∃o,s.heap.get? p=some o/\o.ExactDict:=by
    rcases y with⟨AL,y⟩|⟨AL,y⟩
    .obtain⟨_,_,_,_,o,_,_,e,ex,_⟩:=I.AZ p _ y;exact⟨o,e,ex⟩
    .obtain⟨_,_,_,_,o,_,_,e,ex,_⟩:=I.AZ p _ y;exact⟨o,e,ex⟩
   obtain⟨o,e,ex⟩:=z;refine⟨⟨o,e,ex.1⟩,λa q=>?_⟩;cases q;exact⟨o,e,ex.2.1⟩
  .obtain⟨o,_,_,_,e,ex,_⟩:=I.AZ p _ y;refine⟨⟨o,e,ex.1⟩,λa q=>?_⟩;cases q;exact⟨o,e,ex.2.1⟩
 |_=>exact False.elim ty
def ADX(K:PySem.W.Frag)(T:String)(r:V->List V->Hp->VK->Prop)(to:TE):TE:=λσ H Q=>to σ H λx z=>YN K T x z/\r x [] z Q
def kq(K:PySem.W.Frag)(T:String)(r:V->List V->Hp->VK->Prop)(to:TE)(t:TA):TE:=λσ H Q=>to σ H λx z=>YN K T x z/\t σ z λxs y=>r x xs y Q
variable{o e:Expr}{es:List Expr}{to:TE}{t:TA}{name:Str}{apos Ap:Pos}{T id:String}{r:V->List V->Hp->VK->Prop}
theorem zh(q:PlainAttrs T)(slot:Slot T name id)(p:typeOf (.builtin id)=pure (.type "method_descriptor"))(hm:Ys X id r)(ho:PE X o to) (Z:attributeBase o name X.env (eval o X.env)=eval o X.env:=by rfl) (Y:(apos.endLine==Ap.line)=true:=by rfl):PE X (.Call (.Attribute o name apos) [] [] Ap)<|ADX X.K T r to:=by intro AB s σ H Q I h;refine wpAny_Call_method0_late Z Y<|Ag (ho AB s σ H _ I h) ?_;rintro v s1 ⟨x,O,z,y,ty,P⟩;obtain⟨D,F⟩:=lH z y ty;exact⟨T,id,q,slot,p,D,F,Calls.callWith_builtin rfl<|PySem.evalArgs_none<|hm AB s1 σ O x [] v [] Q z y .nil P⟩
theorem PD(p:PlainAttrs T)(slot:Slot T name id)(Z:typeOf (.builtin id)=pure (.type "method_descriptor"))(hm:Ys X id r)(ho:PE X o to)(ha:PA X (e::es) t) (Y:attributeBase o name X.env (eval o X.env)=eval o X.env:=by rfl) (O:((backTo Ap<|starEach (e::es) X.env).all (λx=>!x.1)&&(backToKw Ap<|keywordEach [] X.env).all (λx=>x.1.isSome)
  && decide ((e::es).length+([]:List Keyword).length+(if([]:List Keyword).isEmpty then 0 else 1)<30))=true:=by rfl)
 (P:(apos.endLine==Ap.line)=true:=by rfl) (hs:starEach (e::es) X.env=(false,eval e X.env)::starEach es X.env:=by rfl) (D:(backTo Ap<|starEach es X.env).any (·.1)=false:=by rfl) :
 PE X (.Call (.Attribute o name apos) (e::es) [] Ap) (kq X.K T r to t):=by
 intro AB s σ H Q I h;refine wpAny_Call_method_late Y O P rfl<|Ag (ho AB s σ H _ I h) ?_;rintro v s1 ⟨x,F,z,y,ty,R⟩;obtain⟨B,G⟩:=lH z y ty;refine⟨T,id,p,slot,Z,B,G,?_⟩;have q:=ha Ap AB s1 σ F _ z R;rw[hs]at q ⊢;refine Calls.callWith_builtin (by show(false||(backTo Ap<|starEach es X.env).any (·.1))=false;rw[D]<;>rfl)<|Calls.evalArgs_plain ?_;exact Ag q (by rintro us s2 ⟨vs,S,C,E,n⟩;exact hm AB s2 σ S x vs v us Q C y E n)
end
def Lg(X:Cx)(id:String)(r:V->List V->Hp->VK->Prop):Prop:=
 ∀(AB:List<|Addr×Obj)(s:Shared)(σ:St)(H:Hp)(x:V)(xs:List V)(v:Value)(us:List Value)(Q:VK),Inv X AB σ H s->RelV x v->Ao xs us->r x xs H Q->wpAny (model X.prog X.w) X.A (call (.builtin id) (v::us)) (EP X AB σ Q) X.xe s
theorem Ao.one:∀{x:V}{us:List Value},Ao [x] us->∃u,us=[u]/\RelV x u:=by rintro x us (_|⟨r,⟨⟩⟩);exact⟨_,rfl,r⟩
theorem Ao.zero:∀{us:List Value},Ao [] us->us=[]
 |_,.nil=>rfl
theorem Ao.dropLast{xs:List V}{us:List Value}(h:Ao xs us):Ao xs.dropLast us.dropLast:=by
 induction h with
 |nil=>exact .nil
 |cons r t ih=>
  cases t with
  |nil=>exact .nil
  |cons q t'=>exact .cons r ih
theorem Ao.reverse{xs:List V}{us:List Value}(h:Ao xs us):Ao xs.reverse us.reverse:=by
 induction h with
 |nil=>exact .nil
 |cons r t ih=>simp only[AIn,AIn];exact Ao.append ih<|.cons r .nil
theorem rL{α:Type}(l:List α):l.eraseIdx (l.length-1)=l.dropLast:=by
 induction l with
 |nil=>rfl
 |cons a r ih=>
  cases r with
  |nil=>rfl
  |cons b r=>
   have e:(a::b::r).length-1=((b::r).length-1)+1:=by
    have h1:(a::b::r).length=r.length+2:=rfl;have h2:(b::r).length=r.length+1:=rfl
    assumption
   simp only[e,List.eraseIdx_cons_succ,ih]
   all_goals rfl
section
variable{X:Cx}{AB:List (Addr×Obj)}{σ:St}{H:Hp}{s:Shared}{l b:Addr}{xs ys zs:List V}
theorem Inv.Wx{its z:List Value}{n:Nat}{f:Array Value->Array Value}{t':Nat}(I:Inv X AB σ H s)(y:H l=some (.lst xs)) (e:s.heap.get? l=some {cls:=.type "list",data:=.seq its.toArray n}) (v:f its.toArray=z.toArray) (p:Ao ys z) (hz:ys.length<=sizeLine) : Inv X AB σ (upd H l<|.lst ys) {s with heap:=s.heap.update l<|Obj.mapSeq f,toks:=t'}:=by have q:=PySem.IsL.update e f;rw[v]at q;refine I.write (by rw[y];exact trivial) (.inl rfl) (λb' u Z Y=>(Heap.get?_update_other s.heap (Obj.mapSeq f) (AGr Z)).trans Y) ⟨_,q⟩ ?_;exact⟨hz,z,_,p,q⟩
theorem Inv.xI{its:List Value}{t':Nat}(I:Inv X AB σ H s)(z:Ao ys its)(hz:ys.length<=sizeLine) : Inv X AB σ (upd H s.heap.objs.size<|.lst ys) {s with heap:=s.heap.push {cls:=.type "list",data:=.seq its.toArray},toks:=t'}:=
 I.laid (λ_ _ q=>Heap.get?_push_of_some _ q) (AF5 _) ⟨hz,its,0,z,Heap.get?_push_size _ rfl⟩
theorem Inv.fresh(I:Inv X AB σ H s):H s.heap.objs.size=none:=I.AZ.fresh<|AF5 _
theorem Inv.Wy(I:Inv X AB σ H s)(y:H l=some (.lst xs)):xs.length<=sizeLine/\∃(its:List Value)(n:Nat),Ao xs its/\xs.length=its.length/\s.heap.get? l=some {cls:=.type "list",data:=.seq its.toArray n}:=by obtain⟨z,its,n,r,e⟩:=I.AZ l _ y;exact⟨z,its,n,r,r.length,e⟩
theorem yF{n:Nat}(h:n<=sizeLine):Builtin.List.listTooLong n=false:=by unfold Builtin.List.listTooLong;exact AGq U
end
section
variable{X:Cx}
def ji:V->List V->Hp->VK->Prop:=λx vs H Q=>∃l xs y,x=.ref l/\vs=[y]/\H l=some (.lst xs)/\xs.length<sizeLine/\Q .Au (upd H l<|.lst<|xs ++ [y])
theorem iX:Lg X "list.append" ji:=by
 intro AB s σ H x vs v us Q I Z rv h;obtain⟨l,xs,y,rfl,rfl,p,hz,q⟩:=h;cases Z;obtain⟨u,rfl,Y⟩:=rv.one;obtain⟨z,its,n,r,hl,e⟩:=I.Wy p;refine call_meets F.slot_list_append ⟨_,e,rfl⟩ F.entry_list_append (F.args_list_append_2 _ _) (PySem.list_append l its.toArray n u (by rw[AF9];lia)) ⟨e,?_⟩;refine⟨.Au,_,I.Wx p e AFn (r.append<|.cons Y .nil) ?_,rfl,q⟩;simp only[AGA,AGh]
 assumption
def ACf:V->List V->Hp->VK->Prop:=λx vs H Q=>∃l xs y,x=.ref l/\vs=[]/\H l=some (.lst xs)/\xs[xs.length-1]? = some y/\Q y (upd H l<|.lst xs.dropLast)
theorem xr:Lg X "list.pop" ACf:=by
 intro AB s σ H x vs v us Q I Z rv h;obtain⟨l,xs,y,rfl,rfl,p,Y,q⟩:=h;cases Z;have O:=rv.zero;subst O;obtain⟨z,its,n,r,P,e⟩:=I.Wy p;obtain⟨u,D,R⟩:=r.get Y;have B:=by show its.toArray[its.length-1]? = some u;rw[<-AHH,<-P];exact D
 refine call_meets F.slot_list_pop ⟨_,e,rfl⟩ F.entry_list_pop (F.args_list_pop_1 _) (MeetsSeq.list_pop_last l its.toArray n u B (by rw[AF9];lia)) ⟨e,?_⟩;refine⟨y,_,I.Wx p e ?_ r.dropLast ?_,R,q⟩
 .rw[AF9,List.eraseIdxIfInBounds_toArray,rL]
 .rw[List.length_dropLast];omega
end
section
variable{prog:Program}{w:World}{A:Around}{E:Value->Shared->Prop}{s:Shared}
end
section
variable{X:Cx}
end
end L2
namespace YY
open PySem PySem.W PySem.Calls PyProof.Rows
theorem vp{P:Params}{h:Heap}:∀(ns:List Int)(vs:List Value),WellAll P h vs (ns.map WData.int)->IntsAre vs ns:=by
 intro ns
 induction ns with
 |nil=>
  intro vs w;cases w;exact .nil
 |cons n ns ih=>
  intro vs w;cases w with
  |cons a b=>
   cases a;exact .cons _ _<|ih _ b
theorem AC8{l:OpenLaw}{n:Nat}(hn:l.most=some n){P:Params}{h:Heap}{args:List WData}{z:List Value} (p:l.row.toRowW.claim.pre args=true) (Z:WellAll P h z args) : ∃a vs ns,z=[Value.ref a]/\args=[WData.list<|ns.map WData.int]/\h.get? a=some {cls:=.type "list",data:=.seq vs.toArray}/\IntsAre vs ns/\ns.length<=n:=by
 have BJ:WShape.hasAll [] args [.list .int]=true:=(pre_splitW p).1;have hc:l.pre.holds [] {args:=args}=true:=(pre_splitW p).2;obtain⟨d,r,rfl,Y,Q⟩:=hasAllW_cons BJ;obtain rfl:=hasAllW_nil Q;obtain⟨xs,rfl,h3⟩:=hasW_list Y;obtain⟨ns,rfl⟩:=items_int h3;have O:ns.length<=n:=by
  have y:=by have y:=(holds_andW hc).1;rw[hn]at y;exact y
  have v:=condW_of y<|w_not<|w_lt w_lit<|w_len_list<|w_arg rfl;rw[AFs]at v;refine Nat.le_of_not_lt λq=>?_;have D:(n:Int)<((ns.length)):=AFo
  first
   |(rw[AG4 D]at v;exact absurd v AFp)
   |(simp at v)
 cases Z with
 |cons w1 w2=>
  cases w2;cases w1 with
  |list ho Bq=>exact⟨_,_,ns,rfl,rfl,ho,vp ns _ Bq,O⟩
theorem AAW(l:OpenLaw)(args:List WData):l.row.toRowW.claim.post args (.bool true) args=true:=
 postW_of (show WShape.has [] (.bool true) .bool=true by first|rfl|decide|simp[WShape.has]) (show(WTm.eq .res<|.lit<|.bool true).value [] {args:=args,res:=some<|.bool true,after:=args}=some (.bool<|true==true)from w_eq_bool (w_res rfl) w_lit) rfl
theorem nr{l:OpenLaw}{n:Nat}{q:Program}{z:List Str}{Q:(Str->Option Value)->Heap->Prop}{O:World->Heap->Prop}{d:DefRec} (hn:l.most=some n) (D:d.params.defaults=[]) (call:∀(w:World)(B5 y:Shared)(mg mb:Str->Option Value)(fa:Addr)(o:Obj)(pm p doc:Value)(a:Addr)(vs:List Value)(ns:List Int),
  Ground q z [] Q w B5 mg mb y.heap->O w y.heap->
  y.heap.get? fa=some o->o.data=.func (docDef d.name d.params d.body d.scope pm p doc)->y.heap.CodeRec p d.name->mg d.name=some (.ref fa)->
  y.heap.get? a=some {cls:=.type "list",data:=.seq vs.toArray}->IntsAre vs ns->ns.length<=n->y.gens=#[]->
  codeAny (model l.prog w) callerA (.call (.ref fa) ⟨[.ref a],[]⟩) (λr s'=>r=.ok (.ret<|.bool true)/\OldK y.heap s'.heap/\s'.os=y.os/\AllBare s'.gens) y) :
 WalkO q z Q O l.row.toRowW d [] (λf vs=>PySem.call f vs):=by
 intro w B5 y mg mb G Y fa o pm p doc F kV ho hd R P Z B args vals as S AFT hrd T V0;obtain rfl:F=.none:=Dflts.none P D;obtain rfl:kV=.none:=Dflts.noKw P;obtain⟨a,vs,ns,rfl,rfl,C,v,E⟩:=AC8 hn S T;refine enter_call<|codeAny_mono (call w B5 y mg mb fa o pm p doc a vs ns G Y ho (fd_plain hd) R Z C v E B) λr s' H=>?_;obtain⟨rfl,I,h3,t⟩:=H;exact⟨.inl ⟨.bool true,.bool true,[],rfl,λ_=>rfl,.bool true,AAW l _,λ_=>⟨List.Pairwise.nil,λ_ hm=>(nomatch hm)⟩⟩,I,h3,t⟩
section
variable{prog:Program}{w:World}{A:Around}{E:Value->Shared->Prop}{s:Shared}{K:Frag}
end
end YY
namespace L2
open PySem PySem.Spec PyProof.Rows
theorem AEZ:∀{vs:List Value}{ns:List Int},IntsAre vs ns->Ao (ns.map V.int) vs:=by
 intro vs ns h
 induction h with
 |nil=>exact .nil
 |cons n t h ih=>exact .cons ⟨t,rfl⟩ ih
def UM(H:Hp):Prop:=∀b,H b=none\/∃o xs,H b=some (.EO o<|.lst xs)
theorem w6{P:Program}{w:World}{K:PySem.W.Frag}{mg mb:Str->Option Value}{CX:Ea}{k:Nat}{fa a:Addr}{fd:FuncData}{x:Str}{sp:Sp}{y:Shared}{vs:List Value}{ns:List Int} (B:K.In y.heap) (G:y.heap.Ns mainGlobals mg) (p:y.heap.Ns builtinsNs mb) (f:∀x:Str,x≠"__name__"->mb x=bootBuiltins x) (uh:y.heap.NoLimit) (hg:y.gens=#[]) (ha:y.heap.get? a=some {cls:=.type "list",data:=.seq vs.toArray}) (hi:IntsAre vs ns) (S:ns.length<=sizeLine) (hr:B7 k callerA) (F:∀base:Heap,K.In base->base.Ns mainGlobals mg->Cw P w K mg base CX k fa fd [x] sp) (uD:∀(s:Shared)(u:Value),BindsTo s fd ⟨[u],[]⟩ [(x,u)]) (Em:∀H:Hp,UM H->CF K H a (ns.map V.int)->sp [.ref a] H (λv _=>v=.bl true) λ_ _ _=>False)
 (Vi:∀H e s',CX [] H y (λ_ _ _=>False) e s'->False) :
 codeAny (model P w) callerA (.call (.ref fa) ⟨[.ref a],[]⟩) (λr s'=>r=.ok (.ret<|.bool true)/\OldK y.heap s'.heap/\s'.os=y.os/\AllBare s'.gens) y:=by
 have rv:=AEZ hi;have xA:=hi.length;have Z:∀H:Hp,UM H->CF K H a (ns.map V.int)->Bl P w H y.heap->(∀b,H b≠none->b=a)->(H a≠none->K.lookup a=none)->codeAny (model P w) callerA (.call (.ref fa) ⟨[.ref a],[]⟩) (λr s'=>r=.ok (.ret<|.bool true)/\OldK y.heap s'.heap/\s'.os=y.os/\AllBare s'.gens) y:=by
  intro H T hS AZ C hK;have E:∀{b:Addr}{o:Obj},y.heap.get? b=some o->H b=none->(Jx y.heap H).get? b=some o:=λe n=>uW e n;have O8:∀{b:Addr}{o:Obj}{es:Array DictEntry}{Y:Nat},y.heap.get? b=some o->o.data=.dict es Y->H b=none:=λ{b o es Y} e d=>by
   cases q:H b with
   |none=>rfl
   |some u=>
    have D:=C b (by rw[q];simp);subst D;rw[ha]at e;cases e;have d':=d
    contradiction
  have Q:∀{b:Addr}{m:Str->Option Value},y.heap.Ns b m->(Jx y.heap H).Ns b m:=λ{b m} ⟨o,es,Y,e,d,r⟩=>⟨o,es,Y,E e<|O8 e d,d,r⟩;have I:=λb o e=>E (B b o e) (by
   cases q:H b with
   |none=>rfl
   |some u=>
    have D:=C b (by rw[q];simp);subst D;rw[hK (by rw[q];simp)]at e;contradiction)
  have hM:Mod K mg<|Jx y.heap H:=⟨I,Q G,⟨mb,Q p,f⟩,let ⟨mc,h1,h2⟩:=uh;⟨mc,Q h1,h2⟩⟩;have e0:Kb P w K mg (Jx y.heap H) callerA [] y H:=⟨rfl,hM,λb o e=>yS e,AJ1<|uX _ _,trivial,λb p=>absurd (show b∈([])from p) AFn,AZ,.of_eq hg⟩;refine codeAny_mono ((F _ I<|Q G).run callerA [] y H ⟨[.ref a],[]⟩ [.ref a] [.ref a] _ _ hr e0 (uD y<|.ref a) (.cons rfl .nil)<|Em H T hS) λr s' h=>?_;cases r with
  |error e=>exact(Vi H e s' h).elim
  |ok fl=>
   cases fl with
   |next=>exact False.elim h
   |brk=>exact False.elim h
   |cont=>exact False.elim h
   |ret u=>
    obtain⟨v,H',os,bare,un,V8,r',q⟩:=h;have q':=q;subst q';obtain rfl:u=Value.bool true:=r';refine⟨rfl,OldK.of_keep λb o e=>?_,os,bare⟩;cases q:H b with
    |none=>exact un.keep b o e q (by intro z;exact absurd (show b∈([])from z) AFn) AFn
    |some u=>
     rcases T b with z|⟨ob,xs,z⟩
     .rw[q]at z;contradiction
     .have z2:=un.ER b ob _ z;obtain⟨t,_⟩:=AZ b _ z;obtain⟨e2,_⟩:=V8 b _ z2;rw[e]at t;cases t;exact e2
 cases R:K.lookup a with
 |some o=>
  have e:=B a o R;rw[ha]at e;cases e;refine Z (λ_=>none) (λ_=>.inl rfl) (.inr ⟨_,vs.toArray,_,R,rfl,rfl,rfl,by rw[AF9,xA];exact S,by simpa using rv⟩) (λb u z=>by have O:(none)=some u:=z;contradiction) (λb z=>absurd rfl z) λz=>absurd rfl z
 |none=>
  refine Z (λb=>if b=a then some (.EO {cls:=.type "list",data:=.seq vs.toArray}<|.lst<|ns.map V.int)else none) (λb=>?_) (.inl<|.inr ⟨{cls:=.type "list",data:=.seq vs.toArray},AFu rfl⟩) (λb u z=>?_) (λb z=>?_) λ_=>R
  .by_cases p:b=a
   .exact .inr ⟨_,_,AFu p⟩
   .exact .inl<|AF0 p
  .by_cases p:b=a
   .have O:=(AFu p).symm.trans z;cases O;subst p;exact⟨ha,by rw[AFs];exact S,vs,_,rv,ha⟩
   .have O:=(AF0 p).symm.trans z;injection O
  .by_cases p:b=a
   .exact p
   .exact absurd (AF0 p) z
theorem AEe{l:PySem.W.OpenLaw}{n k:Nat}{q:Program}{z:List Str}{P:(Str->Option Value)->Heap->Prop}{Z:World->Heap->Prop}{d:DefRec}{K:Params->PySem.W.Frag}{CX:World->Ea}{sp:World->Sp}{x:Str} (hn:l.most=some n) (D:n<=sizeLine) (R:d.params.defaults=[]) (B:B7 k callerA) (S:∀(w:World)(h:Heap),Z w h->(K w.params).In h) (F:∀(w:World)(mg:Str->Option Value)(fa:Addr)(h:Heap),(K w.params).In h->h.Ns mainGlobals mg->mg d.name=some (.ref fa)->
  ∃fd:FuncData,(∀(s:Shared)(u:Value),BindsTo s fd ⟨[u],[]⟩ [(x,u)])/\∀base:Heap,(K w.params).In base->base.Ns mainGlobals mg->Cw l.prog w (K w.params) mg base (CX w) k fa fd [x] (sp w))
 (C:∀(w:World)(H:Hp)(a:Addr)(ns:List Int),ns.length<=n->UM H->CF (K w.params) H a (ns.map V.int)->sp w [.ref a] H (λv _=>v=.bl true) λ_ _ _=>False)
 (E:∀(w:World)(H:Hp)(s:Shared)(e:Value)(s':Shared),CX w [] H s (λ_ _ _=>False) e s'->False) :
 PySem.W.WalkO q z P Z l.row.toRowW d [] (λf vs=>PySem.call f vs):=by
 refine YY.nr hn R λw B5 I mg mb fa o pm cd doc a vs ns G Y ho hd BO p t y Q hg=>?_;have O:=S w _ Y;obtain⟨fd,hb,hF⟩:=F w mg fa _ O G.T.g p;exact w6 O G.T.g G.T.b G.T.builtins G.T.nolimit hg t y (AGZ Q D) B hF hb (λH hO hS=>C w H a ns Q hO hS) λH e s'=>E w H I e s'
noncomputable def IZ(s:Stmt):Arguments:=match s with
 |.FunctionDef _ a _ _ _ _ _ _ _ _=>a
 |_=>{posonlyargs:=[],args:=[],vararg:=none,kwonlyargs:=[],kw_defaults:=[],kwarg:=none,defaults:=[]}
noncomputable def EN(s:Stmt):List Stmt:=match s with
 |.FunctionDef _ _ b _ _ _ _ _ _ _=>b
 |_=>[]
noncomputable def BR(s:Stmt):Scope:=match s with
 |.FunctionDef _ _ _ _ _ _ sc _ _ _=>sc
 |_=>{kind:=.function,names:=[],isGenerator:=false,isCoroutine:=false}
abbrev EJ:Ea:=λ_ _ _ _ _ _=>False
abbrev E0:XK:=λ_ _ _=>False
theorem jO{X:Cx}:Passes EJ X E0:=λ_ _ _ _ _ _ _ h=>h.elim
structure Ex(K:PySem.W.Frag)(x qual:Str)(st:Stmt)(f:Addr)(fd:FuncData):Prop where
 ex:∃(oc:Value)(od:Option Addr)(kV doc pm:Value)(an:Option Addr)(As ct:Value)(Gp:Array<|Option Value),fd=PySem.W.fnOf x qual (IZ st) (EN st) (BR st) .none kV doc pm an As ct/\K.lookup f=some ⟨oc,od,.func fd,Gp⟩/\PySem.W.codeIn K As qual=true
 kp:PySem.W.keepIn K (.ref f)=true
section
variable{P:Program}{w:World}{K:PySem.W.Frag}{mg:Str->Option Value}{base:Heap}
theorem Ex.ok{x qual:Str}{st:Stmt}{f:Addr}{fd:FuncData}{N ps:List Str}{k:Nat}{sp:Sp}(F:Ex K x qual st f fd)(S:IG N ps<|BR st)(len:∀vs H Q E,sp vs H Q E->vs.length=ps.length) (z:∀(As:Value)(A:Around)(outer:List Env)(s:Shared)(H:Hp)(vs:List V)(Q:VK)(E:XK),B7 k (A.deeper<|envOfC qual (BR st) s.heap.objs.size f As)->sp vs H Q E->
  ∃t,CP (GN EJ P w K mg base N qual (BR st) f As A outer s H E).Gk (EN st) t/\t {nx:=λ_ H'=>Q .Au H',rt:=Q} (start N vs) H):Cw P w K mg base EJ (k+1) f fd ps sp:=by
 obtain⟨oc,od,kV,doc,pm,an,As,ct,Gp,rfl,y,v⟩:=F.ex;refine dk y v S len λA outer s H vs Q E p Z=>?_;obtain⟨t,h,q⟩:=z As A outer s H vs Q E p Z;exact⟨t,h.Gk,q⟩
theorem Ex.binds{x qual:Str}{st:Stmt}{f:Addr}{fd:FuncData}{ps:List Str}(F:Ex K x qual st f fd) (h:∀(kV doc pm:Value)(an:Option Addr)(As ct:Value)(us:List Value),us.length=ps.length->bindArgs (PySem.W.fnOf x qual (IZ st) (EN st) (BR st) .none kV doc pm an As ct) ⟨us,[]⟩=pure (ps.zip us)):Binds K fd ps []:=by obtain⟨oc,od,kV,doc,pm,an,As,ct,Gp,rfl,lk,BO⟩:=F.ex;exact .all<|h kV doc pm an As ct
theorem sM{x qual:Str}{st:Stmt}{f:Addr}{oc:Value}{od an:Option Addr}{Gp:Array (Option Value)}{kV doc pm As ct:Value}(l:K.lookup f=some ⟨oc,od,.func<|PySem.W.fnOf x qual (IZ st) (EN st) (BR st) .none kV doc pm an As ct,Gp⟩) (c:PySem.W.codeIn K As qual=true) (k:PySem.W.keepIn K (.ref f)=true):Ex K x qual st f<|PySem.W.fnOf x qual (IZ st) (EN st) (BR st) .none kV doc pm an As ct:=⟨⟨oc,od,kV,doc,pm,an,As,ct,Gp,rfl,l,c⟩,k⟩
end
theorem kP{n:Nat}(h:n<=1000):n<sizeLine:=AIg h AFp
section
variable{X:Cx}
theorem pv(i:Nat){x:Str}{pos:Pos}(z:X.N[i]? = some x:=by rfl)(y:Ez X.env.scope x:=by first|exact Or.inl rfl|exact Or.inr (Or.inl rfl)|exact Or.inr<|Or.inr rfl)(hd:(x==("__debug__" : Str))=false:=by decide) (q:(x==("__classdict__" : Str))=false:=by decide):PE X (.Name x pos)<|YG i:=Hr z y hd q
end
theorem gM{A B:Prop}(h:B):if false=true then A else B:=by exact h
theorem gN{A B:Prop}(h:A):if true=true then A else B:=by exact h
def Ai(H H':Hp):Prop:=∀b o,H b=some o->H' b=some o
theorem Ai.refl(H:Hp):Ai H H:=λ_ _ h=>h
theorem Ai.trans{H z y:Hp}(a:Ai H z)(b:Ai z y):Ai H y:=λc o h=>b c o<|a c o h
theorem Ai.free{H H':Hp}(e:Ai H H'){l:Addr}(h:H' l=Option.none):H l=Option.none:=by
 cases q:H l with
 |none=>rfl
 |some o=>
  rw[e l o q]at h
  contradiction
theorem Ai.seq{K:PySem.W.Frag}{H H':Hp}{a:Addr}{xs:List V}(e:Ai H H')(h:CF K H a xs):CF K H' a xs:=by
 rcases h with(h|⟨o,h⟩)|h
 .exact .inl<|.inl<|e _ _ h
 .exact .inl<|.inr ⟨o,e _ _ h⟩
 .exact .inr h
section
variable{κ:Type}[DecidableEq κ]
noncomputable def Gz(AL:List<|κ×V)(k:κ):Option V:=(AL.find? λz=>decide (z.1=k)).map (·.2)
noncomputable def Fq(AL:List<|κ×V)(k:κ)(v:V):List<|κ×V:=
 if(AL.any λz=>decide (z.1=k))=true then AL.map (λz=>if z.1=k then(z.1,v)else z)else AL ++ [(k,v)]
theorem TU{p:κ×V}{r:List (κ×V)}{k:κ}(e:p.1=k):Gz (p::r) k=some p.2:=by simp[Gz,AIA,e]
theorem TR{p:κ×V}{r:List (κ×V)}{k:κ}(e:¬ p.1=k):Gz (p::r) k=Gz r k:=by simp[Gz,AIA,e]
theorem lX(k:κ):∀AL:List<|κ×V,(AL.any λz=>decide (z.1=k))=(Gz AL k).isSome
 |[]=>rfl
 |p::r=>by
  rw[AG8];by_cases e:p.1=k
  .simp only[TU e,AG4 e,Bool.true_or,Option.isSome_some]
  .rw[TR e,AGq e,Bool.false_or];exact lX k r
theorem gz(AL:List<|κ×V)(k:κ)(v:V):(Fq AL k v).length<=AL.length+1:=by
 unfold Fq;split
 .rw[AFs];omega
 .rw[AGA,AGC,AHB];omega
theorem GI.v8{o:Option V}{u:Option Value}(r:GI o u):o.isSome=u.isSome:=by
 cases o with
 |none=>cases u with
  |none=>rfl
  |some _=>exact(show False from r).elim
 |some _=>cases u with
  |none=>exact(show False from r).elim
  |some _=>rfl
theorem KV.val{AL:List (κ×V)}{vs:List (κ×Value)}(r:KV AL vs)(k:κ):GI (Gz AL k)<|valueAt vs k:=by
 unfold KV at r
 induction r with
 |nil=>exact True.intro
 |@cons p q ps qs h t ih=>
  obtain⟨v,Z⟩:=h;by_cases e:p.1=k
  .have y:q.1=k:=v.symm.trans e;have b:valueAt (q::qs) k=some q.2:=by simp[valueAt,AIA,y]
   rw[TU e,b];exact Z
  .have y:¬ q.1=k:=λz=>e<|v.trans z;have b:valueAt (q::qs) k=valueAt qs k:=by simp[valueAt,AIA,y]
   rw[TR e,b];exact ih
theorem KV.any{AL:List (κ×V)}{vs:List (κ×Value)}(r:KV AL vs)(k:κ):(AL.any λz=>decide (z.1=k))=vs.any λz=>decide (z.1=k):=by
 unfold KV at r
 induction r with
 |nil=>rfl
 |cons h t ih=>rw[AG8,AG8,ih,h.1]
theorem KV.Xi{AL:List (κ×V)}{vs:List (κ×Value)}(r:KV AL vs)(k:κ){y:V}{u:Value}(Y:RelV y u) : KV (AL.map λv=>if v.1=k then(v.1,y)else v) (vs.map λv=>if v.1=k then(v.1,u)else v):=by
 unfold KV at r ⊢
 induction r with
 |nil=>exact .nil
 |@cons p q ps qs h t ih=>
  rw[AF6,AF6];refine .cons ?_ ih;obtain⟨Z,Q⟩:=h;by_cases e:p.1=k
  .rw[AFu e,AFu<|Z.symm.trans e];exact⟨Z,Y⟩
  .rw[AF0 e,AF0 λz=>e<|Z.trans z];exact⟨Z,Q⟩
theorem KV.put{AL:List (κ×V)}{vs:List (κ×Value)}(r:KV AL vs)(k:κ){y:V}{u:Value}(z:RelV y u):KV (Fq AL k y)<|stored vs k u:=by
 unfold Fq stored;rw[r.any k];by_cases e:(vs.any λq=>decide (q.1=k))=true
 .rw[AFu e,AFu e];exact r.Xi k z
 .rw[AF0 e,AF0 e];exact Paired.snoc r ⟨rfl,z⟩
theorem KV.length{AL:List (κ×V)}{vs:List (κ×Value)}(r:KV AL vs):AL.length=vs.length:=Paired.length r
end
theorem Wj{P:Program}{w:World}{k:Key}{u:Value}(r:RelV (kV k) u):(FK P w).is k u=true:=by
 cases k with
 |inl i=>obtain⟨t,e⟩:=(show ∃t,u=Value.int i t from r);subst e;exact xh P w i t
 |inr x=>obtain⟨t,e⟩:=(show ∃t,u=Value.str x t from r);subst e;exact xi P w x t
theorem gP{P:Program}{w:World}:∀{ks:List Key}{us:List Value},Ao (ks.map kV) us->ItemsAre (FK P w) ks us
 |[],_,r=>by rw[AH1]at r;cases r;exact .nil
 |k::ks,_,r=>by
  rw[AF6]at r;cases r with
  |cons h t=>exact .cons (Wj h)<|gP t
abbrev KT(H:Hp):List (List Key×V)->List (List Key×Addr×Value)->Prop:=Paired λp q=>p.1=q.1/\H q.2.1=some (.tup<|p.1.map kV)/\RelV p.2 q.2.2
theorem KT.val{H:Hp}{AL:List (List Key×V)}{xs:List (List Key×Addr×Value)}(r:KT H AL xs)(k:List Key):GI (Gz AL k) ((atKey xs k).map (·.2)):=by
 induction r with
 |nil=>exact True.intro
 |@cons p q ps qs h t ih=>
  obtain⟨v,_,Z⟩:=h;by_cases e:p.1=k
  .have y:q.1=k:=v.symm.trans e;have b:atKey (q::qs) k=some q.2:=by simp[atKey,AIA,y]
   rw[TU e,b];exact Z
  .have y:¬ q.1=k:=λz=>e<|v.trans z;have b:atKey (q::qs) k=atKey qs k:=by simp[atKey,AIA,y]
   rw[TR e,b];exact ih
theorem KT.Xi{H:Hp}{AL:List (List Key×V)}{xs:List (List Key×Addr×Value)}(r:KT H AL xs)(k:List Key){y:V}{u:Value}(Q:RelV y u) : KT H (AL.map λZ=>if Z.1=k then(Z.1,y)else Z)<|xs.map<|putAt k u:=by
 induction r with
 |nil=>exact .nil
 |@cons p q ps qs h t ih=>
  rw[AF6,AF6];refine .cons ?_ ih;obtain⟨v,Y,h3⟩:=h;unfold putAt;by_cases e:p.1=k
  .rw[AFu e,AFu<|v.symm.trans e];exact⟨v,Y,Q⟩
  .rw[AF0 e,AF0 λz=>e<|v.trans z];exact⟨v,Y,h3⟩
theorem KT.put{H:Hp}{AL:List (List Key×V)}{xs:List (List Key×Addr×Value)}(r:KT H AL xs)(k:List Key){b:Addr}{y:V}{u:Value}(v:H b=some (.tup<|k.map kV))(z:RelV y u) : KT H (Fq AL k y)<|storedH xs k b u:=by
 have e:(AL.any λp=>decide (p.1=k))=(atKey xs k).isSome:=by rw[lX,(r.val k).v8,Option.isSome_map]
 unfold Fq storedH;rw[e];by_cases q:(atKey xs k).isSome=true
 .rw[AFu q,AFu q];exact r.Xi k z
 .rw[AF0 q,AF0 q];exact Paired.snoc r ⟨rfl,v,z⟩
theorem KT.keeps{H H':Hp}{AL:List (List Key×V)}{xs:List (List Key×Addr×Value)}(r:KT H AL xs)(q:∀b y,H b=some (.tup y)->H' b=some (.tup y)):KT H' AL xs:=
 Paired.W0 r λ_ _ z=>⟨z.1,q _ _ z.2.1,z.2.2⟩
section
variable{P:Program}{w:World}{H:Hp}{h:Heap}{a:Addr}
theorem jy{u:HO}(ok:Bl P w H h)(e:Rd H a u):Bx P w H h a u:=e.ok ok
theorem Uv{AL:List (Key×V)}(ok:Bl P w H h)(e:Rd H a<|.dK AL):AL.length<=sizeLine/\(a==sysModules)=false/\∃vs,KV AL vs/\h.DictOf (FK P w) a vs:=
 show Bx P w H h a (.dK AL)from jy ok e
theorem qg{AL:List (Key×V)}(ok:Bl P w H h)(e:H a=some (.dK AL)):AL.length<=sizeLine/\(a==sysModules)=false/\∃vs,KV AL vs/\h.DictOf (FK P w) a vs:=Uv ok<|.inl e
theorem Wm{ks:List Key}(ok:Bl P w H h)(e:H a=some (.tup<|ks.map kV)):(tupleKind<|FK P w).is h ks a:=by obtain⟨_,its,r,o,z,y,n,h3⟩:=(show Bx P w H h a (.tup<|ks.map kV)from ok a _ e);exact⟨o,its.toArray,n,z,y,h3,by simpa using gP r⟩
theorem VJ{AL:List (List Key×V)}(ok:Bl P w H h)(e:Rd H a<|.dT AL):AL.length<=sizeLine/\(a==sysModules)=false/\∃xs,KT H AL xs/\h.DictOfH (tupleKind<|FK P w) a xs:=by
 obtain⟨z,y,xs,r,o,es,Z,Y,Q,h3,O,D⟩:=(show Bx P w H h a (.dT AL)from jy ok e);refine⟨z,y,xs,r,o,es,Z,Y,Q,h3,O,λx v=>?_,D⟩;have all:∀{l:List (List Key×V)}{m:List (List Key×Addr×Value)},KT H l m->∀x∈m,(tupleKind<|FK P w).is h x.1 x.2.1:=by
  intro l m q
  induction q with
  |nil=>intro x v;exact nomatch v
  |@cons p q ps qs hq t ih=>
   intro x v;rcases AF4.mp v with e|v
   .subst e;exact Wm ok (by rw[<-hq.1];exact hq.2.1)
   .exact ih x v
 exact all r x v
theorem qp{AL:List (List Key×V)}(ok:Bl P w H h)(e:H a=some (.dT AL)):AL.length<=sizeLine/\(a==sysModules)=false/\∃xs,KT H AL xs/\h.DictOfH (tupleKind<|FK P w) a xs:=VJ ok<|.inl e
end
def Te(H:Hp)(a:Addr)(y:V)(r:Option V):Prop:=
 (∃AL k,Rd H a (.dK AL)/\y=kV k/\r=Gz AL k)\/∃AL k b,Rd H a (.dT AL)/\y=.ref b/\H b=some (.tup<|k.map kV)/\r=Gz AL k
def YZ(H:Hp)(a:Addr)(y v:V)(H':Hp):Prop:=
 (∃AL k,H a=some (.dK AL)/\y=kV k/\AL.length<sizeLine/\H'=upd H a (.dK<|Fq AL k v))\/
 ∃AL k b,H a=some (.dT AL)/\y=.ref b/\H b=some (.tup<|k.map kV)/\AL.length<sizeLine/\H'=upd H a (.dT<|Fq AL k v)
section
variable{X:Cx}{AB:List (Addr×Obj)}{σ:St}{H:Hp}{s:Shared}{a:Addr}{y v:V}{u r:Value}{o:Option V}{A:Around}{E:Value->Shared->Prop}
theorem Inv.big(I:Inv X AB σ H s):sysModules<s.heap.objs.size:=by have h:mainGlobals<s.heap.objs.size:=(I.mod.glob.keeps I.bk).lt;exact AJ3 AFp h
theorem qE{Q:Value->Shared->Prop}(D:A.units+1<cLine)(I:Inv X AB σ H s)(g:Te H a y<|some v)(P:RelV y u)(h:∀q s',Inv X AB σ H s'->RelV v q->Q q s') : wpAny (model X.prog X.w) A (getItem (.ref a) u) Q E s:=by
 rcases g with⟨AL,k,e,Z,l⟩|⟨AL,k,b,e,Z,F,l⟩
 .subst Z;obtain⟨z,hd,vs,rel,dd⟩:=Uv I.AZ e;obtain⟨q,Y,O⟩:=GI.some_of (v:=v) (o:=valueAt vs k) (by rw[l];exact rel.val k);exact wpAny_getItem_of (Wj P) dd.mapOf Y<|h q _ (I.tok _) O
 .subst Z;cases (show u=Value.ref b from P);obtain⟨z,hd,xs,rel,dd⟩:=VJ I.AZ e;obtain⟨q,Y,O⟩:=GI.some_of (v:=v) (o:=(atKey xs k).map (·.2)) (by rw[l];exact rel.val k);obtain⟨p,hp,R⟩:=AIt.mp Y;refine wpAny_getItem_heap (tupleKind_room_in1 D) (Wm I.AZ F) dd hp ?_;rw[R];exact h q _ (I.tok _) O
theorem Zh{h':Heap}{t':Nat}{p:HO}(I:Inv X AB σ H s)(Z:NX<|H a)(hs:Heap.SameBut a s.heap h')(he:∃q,h'.get? a=some q)(new:Bx X.prog X.w (upd H a p) h' a p) : Inv X AB σ (upd H a p) {s with heap:=h',toks:=t'}:=
 I.write (x:=a) (e:=a) Z (.inl rfl) (λb q Y z=>(hs.2 b Y).trans z) he new
theorem qf{P:Program}{w:World}{H':Hp}{h':Heap}{AL:List (Key×V)}{vs:List (Key×Value)}(z:AL.length<=sizeLine)(hd:(a==sysModules)=false)(rel:KV AL vs)(dd:h'.DictOf (FK P w) a vs) : Bx P w H' h' a<|.dK AL:=⟨z,hd,vs,rel,dd⟩
theorem qF{H':Hp}{Q:Unit->Shared->Prop}(B:A.units+1<cLine)(I:Inv X AB σ H s)(g:YZ H a y v H')(D:RelV y u)(rv:RelV v r)(h:∀s',Inv X AB σ H' s'->Q () s') : wpAny (model X.prog X.w) A (setItem (.ref a) u r) Q E s:=by
 rcases g with⟨AL,k,e,Y,l,O⟩|⟨AL,k,b,e,Y,F,l,O⟩
 .subst Y O;obtain⟨z,hd,vs,rel,dd⟩:=qg I.AZ e;have hz:vs.length<=sizeLine:=by rw[<-rel.length];exact z
  have P:(Fq AL k v).length<=sizeLine:=by have:=gz AL k v;omega
  refine wpAny_setItem_pairs (hsz:=hz) (Wj D) dd λh' p hs=>h _ ?_;have he:∃q,h'.get? a=some q:=let ⟨q,_,_,Z,_⟩:=p;⟨q,Z⟩
  exact Zh I (by rw[e];exact True.intro) hs he<|qf P hd (rel.put k rv) p
 .subst Y O;cases (show u=Value.ref b from D);obtain⟨z,hd,xs,rel,dd⟩:=qp I.AZ e;have hz:xs.length<=sizeLine:=by rw[<-Paired.length rel];exact z
  have P:(Fq AL k v).length<=sizeLine:=by have:=gz AL k v;omega
  refine wpAny_setItem_heap (hsz:=hz) (tupleKind_room_in1 B) (Wm I.AZ F) dd λh' p hs=>h _ ?_;obtain⟨q,es,G,Z,S,h3,T,_,C⟩:=p;refine Zh I (by rw[e];exact True.intro) hs ⟨q,Z⟩ ⟨P,hd,_,(rel.put k F rv).keeps λc ys R=>?_,q,es,G,Z,S,h3,T,C⟩;rw[BH<|yA R e λz=>nomatch z];exact R
end
section
variable{X:Cx}{AB:List (Addr×Obj)}{σ:St}{H:Hp}{s:Shared}{a:Addr}{AL:List (Key×V)}{k:Key}{u:Value}{A:Around}{E:Value->Shared->Prop}
end
def UK(i:Expr):Prop:=∀z y,subscripted i false z y=operate [z,y] (getItem z y)
theorem ADT{prog:Program}{w:World}{A:Around}{E:Value->Shared->Prop}{s:Shared}{env:Env}{y z:Expr}{pos:Pos}{T id:String}{Q:Value->Shared->Prop} (O:typeLookup (.type T) "__getitem__" = pure (some<|.builtin id)) (hs:UK z) (h:wpAny (model prog w) A (eval y env) (λo p=>wpAny (model prog w) A (eval z env) (λi q=>q.TypeIs o T/\wpAny (model prog w) A (getItem o i) Q E q) E p) E s) :
 wpAny (model prog w) A (eval (.Subscript y z pos) env) Q E s:=by
 refine Subscript_<|wpAny_mono h (λo p P=>wpAny_mono P (λi q v=>?_) λ_ _ x=>x) λ_ _ x=>x;obtain⟨Z,v⟩:=v;unfold subscriptTail;refine wpAny_bind ?_;rw[getitemInPython_of_ne Z.not_modules];refine wpAny_bind<|wpAny_specialOf Z O ?_;have fin:wpAny (model prog w) A (subscripted z false o i) (λr Y=>wpAny (model prog w) A (letTemporaryGo y o r >>= λ_=>pure r) Q E Y) E q:=by rw[hs o i];exact wpAny_operating<|wpAny_mono v (λr Y D=>wpAny_bind<|wpAny_letTemporaryGo<|wpAny_pure D) λ_ _ x=>x
 first
  |exact wpAny_pure<|wpAny_bind fin
  |exact wpAny_bind<|wpAny_pure<|wpAny_bind fin
  |exact wpAny_bind fin
theorem qe{X:Cx}{AB:List (Addr×Obj)}{σ:St}{H:Hp}{s:Shared}{a:Addr}{y:V}{o:Option V}(I:Inv X AB σ H s)(g:Te H a y o):s.TypeIs (.ref a) "dict":=by
 rcases g with⟨AL,k,e,_,_⟩|⟨AL,k,b,e,_,_,_⟩
 .obtain⟨_,_,vs,_,dd⟩:=Uv I.AZ e;exact dd.typeIs
 .obtain⟨_,_,xs,_,dd⟩:=VJ I.AZ e;exact dd.typeIs
def ADc(q ty:TE):TE:=λσ H Q=>q σ H λx p=>ty σ p λy z=>∃a v,x=.ref a/\Te z a y (some v)/\Q v z
def ACz(q ty p:TE):TS:=λD σ H=>p σ H λv Z=>q σ Z λx Y=>ty σ Y λy Q=>∃a z,x=.ref a/\YZ Q a y v z/\D.nx σ z
section
variable{X:Cx}{o i e value:Expr}{pos pos' LW:Pos}{td ty tv:TE}
theorem zr(q:X.A.units+1<cLine)(ho:PE X o td)(hi:PE X i ty)(hs:UK i):PE X (.Subscript o i pos)<|ADc td ty:=by intro AB s σ H Q I h;refine ADT PySem.F.slot_dict_getitem.lookup hs<|Ag (ho AB s σ H _ I h) ?_;rintro u s1 ⟨x,p,Z,Y,O⟩;refine Ag (hi AB s1 σ p _ Z O) ?_;rintro iv s2 ⟨y,P,z,D,a,v,ex,g,R⟩;subst ex;obtain rfl:u=Value.ref a:=Y;exact⟨qe z g,qE q z g D λw' s3 B G=>⟨v,P,B,G,R⟩⟩
theorem AAa(z:X.A.units+1<cLine)(ho:PE X o td)(hi:PE X i ty)(q:PE X value tv)(hs:swapsWith value (some<|.Subscript o i pos') pos.line X.env=pure false) : PS X (.Assign [.Subscript o i pos'] value pos)<|ACz td ty tv:=by intro AB s σ H D I h;refine wpAny_Assign_Subscript (Ag (q AB s σ H _ I h) ?_) hs;rintro r s1 ⟨v,p,Z,rv,Y⟩;refine Ag (ho AB s1 σ p _ Z Y) ?_;rintro u s2 ⟨x,Q,O,P,F⟩;refine Ag (hi AB s2 σ Q _ O F) ?_;rintro iv s3 ⟨y,H3,R,B,a,G,ex,g,q3⟩;subst ex;obtain rfl:u=Value.ref a:=P;exact qF z R g B rv λs4 S=>⟨σ,G,S,q3⟩
end
theorem qo{P:Program}{w:World}{H:Hp}(h:Heap)(z:sysModules<h.objs.size):Bx P w H (h.push {cls:=.type "dict",data:=.dict #[]}) h.objs.size<|.dT []:=
 ⟨AHR _,AGK.mpr<|AGr<|AGE z,[],.nil,_,#[],0,Heap.get?_push_size _ rfl,⟨rfl,rfl,rfl⟩,rfl,rfl,AJi⟩
def ADd:TE:=λ_ H Q=>∀p,H p=none->Q (.ref p) (upd H p<|.dT [])
section
variable{X:Cx}{pos:Pos}
theorem zt:PE X (.Dict [] [] pos) ADd:=λAB s σ H Q I h=>
 wpAny_Dict_empty ⟨.ref s.heap.objs.size,_,I.laid (a:=s.heap.objs.size) (o:=.dT []) (t':=s.toks) (λ_ _ q=>Heap.get?_push_of_some _ q) (AF5 _)<|qo s.heap I.big,rfl,h _<|I.AZ.fresh<|AF5 _⟩
end
end L2
set_option linter.all false
namespace L2
set_option tactic.hygienic true
open PySem
noncomputable def D7(cells:List<|Str×Addr):List (Str×NameKind)->List (Str×Addr)->List (Str×Addr)
 |[],acc=>acc
 |(n,k)::r,acc=>if(k==NameKind.free)=true then(match cells.lookup n with|some c=>D7 cells r ((n,c)::acc)|none=>D7 cells r acc)else D7 cells r acc
theorem ZP{scope:Scope}{env:Env}(h:∀y∈scope.names,y.2=.free->∃c,env.cells.lookup y.1=some c):closureFor scope env=pure (D7 env.cells scope.names []):=by
 simp only[closureFor];generalize ([]:List<|Str×Addr)=acc;revert h acc;generalize scope.names=l
 induction l with
 |nil=>intro h acc;simp[D7]
 |cons x r ih=>
  intro h acc;obtain⟨n,k⟩:=x;rw[List.forIn_cons];by_cases z:(k==NameKind.free)=true
  .have v:k=.free:=by simpa using z
   obtain⟨c,hc⟩:=h (n,k) (AF3) v;have p:cellOf env n=pure c:=by unfold cellOf;rw[show env.cells.lookup n=some c from hc]
   simp only[D7,z,AHl,p,pure_bind];rw[show List.lookup n env.cells=some c from hc];exact ih (λy q=>h y<|AFz _ q) _
  .simp only[D7,z,AIz,pure_bind,AIB];exact ih (λy q=>h y<|AFz _ q) _
theorem IW{cells:List (Str×Addr)}:∀{l:List (Str×NameKind)}{acc:List (Str×Addr)}{x:Str}{c:Addr},(∀y d,acc.lookup y=some d->cells.lookup y=some d)->(D7 cells l acc).lookup x=some c->cells.lookup x=some c
 |[],acc,x,c,ha,h=>ha x c h
 |(n,k)::r,acc,x,c,ha,h=>by
  unfold D7 at h;split at h
  .split at h
   .rename_i d hd;refine IW (l:=r) (acc:=(n,d)::acc) (λy e z=>?_) h;rw[AHQ]at z;split at z
    .rename_i q;have:y=n:=by simpa using q
     subst this;rw[hd];exact z
    .exact ha y e z
   .exact IW (l:=r) ha h
  .exact IW (l:=r) ha h
theorem pV{prog:Program}{w:World}{A:Around}{R:Result->Shared->Prop}{s:Shared}{y p z:Expr}{q:List Expr}{scope:Scope}{pos:Pos}{it acc:Value}{env:Env}(I:Nat->Shared->Prop) (turn:∀n s,I n s->wpAny (model prog w) A (pyNext it) (λr Z=>match r with
  |none=>R (.ok .next) Z
  |some v=>wpAny (model prog w) A (letOwnedTupleGo p it v) (λ_ Q=>wpAny (model prog w) A (assign p env v) (λ_ O=>
   wpAny (model prog w) A (forIn q true λc r=>if r=true then do let ok<-isTrue c env<|eval c env;pure (ForInStep.yield ok)else pure (ForInStep.yield r)) (λok Y=>
    if ok=true then wpAny (model prog w) A (eval y env) (λx P=>
     wpAny (model prog w) A (call (.builtin "list.append") [acc,x]) (λ_ D=>∃m,m<n/\I m D) (λ_ _=>False) P) (λ_ _=>False) Y
    else ∃m,m<n/\I m Y) (λ_ _=>False) O) (λ_ _=>False) Q) (λ_ _=>False) Z) (λ_ _=>False) s)
 (n:Nat) (h:I n s) :
 codeAny (model prog w) A (.compLoop (.ListComp y [⟨p,z,q,0⟩] scope pos) 0 it acc env) R s:=by
 refine codeAny_loop rfl I (λn s G=>?_) n h;show wpAny _ A ((compTurn (.ListComp y [⟨p,z,q,0⟩] scope pos) 0 it acc env).onRaise (λx=>do noteFrame x env;theTreesLotGoes x)) _ _ s;refine wpAny_noted ?_;rw[compTurn_list];refine wpAny_bind<|wpAny_standAt<|wpAny_bind<|wpAny_mono (turn n s G) (λr Z F=>?_) λ_ _ h'=>False.elim h';cases r with
 |none=>exact wpAny_pure F
 |some v=>
  refine wpAny_bind<|wpAny_mono F (λ_ Q S=>?_) λ_ _ h'=>False.elim h';refine wpAny_bind<|wpAny_mono S (λ_ O T=>wpAny_bind<|wpAny_mono T (λok Y B=>?_) λ_ _ h'=>False.elim h') λ_ _ h'=>False.elim h';cases ok with
  |false=>exact wpAny_pure ⟨rfl,B⟩
  |true=>
   exact wpAny_bind<|wpAny_bind<|wpAny_mono B (λx P C=>wpAny_bind<|wpAny_mono C (λ_ D E=>wpAny_pure<|wpAny_pure ⟨rfl,E⟩) λ_ _ h'=>False.elim h') λ_ _ h'=>False.elim h'
end L2
set_option linter.all false
namespace ST
open PySem PySem.SetTable
theorem ZT(l:List Nat)(j:Nat):l.countP (· < j)<=l.length:=AJj
theorem Pa:∀(l:List Nat)(j:Nat),l.Pairwise (· < ·)->∀i (h:i<l.length),(l[i]<j↔i<l.countP (· < j))
 |[],_,_,i,h=>by simp at h
 |x::r,j,hs,i,h=>by
  obtain⟨p,Z⟩:=AIh.mp hs;by_cases z:x<j
  .rw[List.countP_cons_of_pos<|by simpa using z];cases i with
   |zero=>simp[z]
   |succ i=>
    have:=Pa r j Z i (by simpa using h);simp only[AIC];lia
  .have v:∀y∈r,¬ y<j:=λy q=>by have:=p y q;lia
   have Y:r.countP (· < j)=0:=AIZ.mpr λy q=>by simpa using v y q
   rw[List.countP_cons_of_neg (by simpa using z),Y];cases i with
   |zero=>simp[z]
   |succ i=>
    simp only[AIC];have:=v _ (AIQ<|by simpa using h);lia
theorem Uc(xs:Array Nat)(j:Nat)(hs:xs.toList.Pairwise (· < ·)):∀(f lo hi:Nat),hi-lo<=f->hi<=xs.size->lo<=xs.toList.countP (· < j)->xs.toList.countP (· < j)<=hi->below.go xs j f lo hi=xs.toList.countP (· < j)
 |0,lo,hi,h1,h2,h3,h4=>by unfold below.go;grind
 |f+1,lo,hi,h1,h2,h3,h4=>by
  unfold below.go;by_cases y:lo<hi
  .rw[AFu y];have hm:(lo+hi) / 2<xs.size:=U
   have q:xs.getD ((lo+hi) / 2) j=xs.toList[(lo+hi) / 2]'(by simpa using hm):=by simp[Array.getD,hm]
   have:=Pa xs.toList j hs ((lo+hi) / 2) (by simpa using hm);dsimp only;rw[q];by_cases hc:xs.toList[(lo+hi) / 2]'(by simpa using hm)<j
   .rw[AFu hc];exact Uc xs j hs f _ hi AFm h2 U h4
   .rw[AF0 hc];exact Uc xs j hs f lo _ (by clear h3;grind) U h3 (by have:=λz=>hc<|this.mpr z;lia)
  .rw[AF0 y];lia
theorem Ub(xs:Array Nat)(j:Nat)(hs:xs.toList.Pairwise (· < ·)):below xs j=xs.toList.countP (· < j):=by exact Uc xs j hs xs.size 0 xs.size U (AF5 _) (AHR _) (by have:=ZT xs.toList j;simpa using this)
theorem Nh(xs:Array Nat)(j:Nat)(hs:xs.toList.Pairwise (· < ·))(i:Nat)(h:xs[i]? = some j):below xs j=i:=by
 obtain⟨hi,e⟩:=AIT.mp h;rw[Ub xs j hs];have q:=Pa xs.toList j hs i (by simpa using hi);have z:xs.toList[i]'(by simpa using hi)=j:=by simpa using e
 rw[z]at q;by_cases h3:xs.toList.countP (· < j)=i
 .exact h3
 .have y:xs.toList.countP (· < j)<xs.toList.length:=by rw[AGp];clear h3;lia
  have h4:=Pa xs.toList j hs _ y;have v:=AG0.mp hs _ _ y (by simpa using hi) U;rw[z]at v
  grind
theorem kO{t:SetTable}(hs:t.place.toList.Pairwise (· < ·)){i j:Nat}(h:t.place[i]? = some j):t.slot j=.live i:=by unfold slot;dsimp only;rw[Nh _ _ hs i h,h];simp
theorem ADL{t:SetTable}(hd:t.dummies=#[]){j:Nat}(h:j∉t.place.toList):t.slot j=.empty:=by
 unfold slot;have y:¬ (t.place[below t.place j]? == some j)=true:=by intro z;rw[AHC]at z;have:=Array.mem_of_getElem? z;exact h<|by simpa using this
 rw[AF0 y];have q:has t.dummies j=false:=by rw[hd];simp[has]
 rw[q];simp
theorem vm(xs:Array Nat)(j:Nat)(hs:xs.toList.Pairwise (· < ·))(O:j∉xs.toList):(insertAt xs (below xs j) j).toList.Pairwise (· < ·):=by
 rw[SetTable.toList_insertAt,Ub xs j hs];have q:=Pa xs.toList j hs;rw[AG1];refine⟨hs.sublist<|AJJ _ _,?_,?_⟩
 .rw[AIh];refine⟨λy Z=>?_,hs.sublist<|List.drop_sublist _ _⟩;obtain⟨k,v,e⟩:=AH7 Z;rw[List.getElem_drop]at e;rw[AIP]at v;have:=q (xs.toList.countP (· < j)+k) AFm;have Ax:y≠j:=λz=>O<|z ▸ AI5 Z;rw[e]at this;lia
 .intro a ha b p;obtain⟨k,v,e⟩:=AH7 ha;rw[List.getElem_take]at e;rw[AHe]at v;have Y:=q k AFm;rw[e]at Y;have P:=Y.mpr AFm;rcases AF4.mp p with rfl|p
  .exact P
  .obtain⟨D,F,Q⟩:=AH7 p;rw[List.getElem_drop]at Q;rw[AIP]at F;have:=q (xs.toList.countP (· < j)+D) U;rw[Q]at this;lia
noncomputable def CC(mask i:Nat):Nat:=runEnd mask i-i
theorem ACx(mask i:Nat):CC mask i<=9:=by unfold CC runEnd;split<;>lia
def IS(mask:Nat)(p:Probe):Probe:=
 if p.more>0 then {p with j:=p.j+1,more:=p.more-1}else
 {p with j:=(leap mask p.i p.perturb).1,more:=CC mask (leap mask p.i p.perturb).1,i:=(leap mask p.i p.perturb).1,perturb:=(leap mask p.i p.perturb).2}
def st0(mask:Nat)(h:Int):Probe:={j:=bits h%(mask+1),more:=CC mask<|bits h%(mask+1),i:=bits h%(mask+1),perturb:=bits h,dummy:=none}
def road(mask:Nat)(h:Int):Nat->Probe
 |0=>st0 mask h
 |n+1=>IS mask<|road mask h n
theorem j8(mask:Nat)(h:Int):∀n,(road mask h n).dummy=none
 |0=>rfl
 |n+1=>by have:=j8 mask h n;unfold road IS;split<;>simpa using this
noncomputable def BN(mask:Nat):Nat->Nat×Nat->Nat×Nat
 |0,x=>x
 |n+1,x=>leap mask (BN mask n x).1 (BN mask n x).2
noncomputable def L0(mask:Nat)(h:Int):Nat×Nat:=(bits h%(mask+1),bits h)
theorem Sr(mask:Nat)(h:Int)(r i pt:Nat)(z:road mask h r=⟨i,CC mask i,i,pt,none⟩):∀k,k<=CC mask i->road mask h (r+k)=⟨i+k,CC mask i-k,i,pt,none⟩
 |0,_=>by simpa using z
 |k+1,hk=>by have y:=Sr mask h r i pt z k<|MZ hk;show IS mask (road mask h<|r+k)=_;rw[y];unfold IS;rw[AFu (by show CC mask i-k>0;lia)];simp only[and_true];lia
theorem j9(mask:Nat)(h:Int):∀n,∃r,r<=10*n/\road mask h r=⟨(BN mask n<|L0 mask h).1,CC mask (BN mask n<|L0 mask h).1,(BN mask n<|L0 mask h).1,(BN mask n<|L0 mask h).2,none⟩
 |0=>⟨0,AF5 _,rfl⟩
 |n+1=>by
  obtain⟨r,hr,e⟩:=j9 mask h n;have z:=Sr mask h r _ _ e _<|AF5 _;have hl:=ACx mask (BN mask n<|L0 mask h).1;refine⟨r+CC mask (BN mask n<|L0 mask h).1+1,U,?_⟩;show IS mask (road mask h<|r+CC mask (BN mask n<|L0 mask h).1)=_;rw[z];unfold IS;rw[AF0 (by show ¬ (CC mask _-CC mask _>0);lia)]
  rfl
theorem oC(h:Int):bits h<2 ^ 64:=by unfold bits;lia
theorem gw(mask:Nat)(x:Nat×Nat):∀n,(BN mask n x).2=x.2 / 32 ^ n
 |0=>by simp[BN]
 |n+1=>by unfold BN leap;dsimp only;rw[gw mask x n,Nat.div_div_eq_div_mul,Nat.pow_succ]
theorem AAE(mask:Nat)(h:Int)(n:Nat)(hn:13<=n):(BN mask n<|L0 mask h).2=0:=by rw[gw];have z:=oC h;have y:2 ^ 64<=32 ^ n:=AGZ AFp<|Nat.pow_le_pow_right AFp hn;exact Nat.div_eq_of_lt<|AGM z y
noncomputable def AA(mask:Nat):Nat->Nat->Nat
 |0,i=>i
 |n+1,i=>(AA mask n i*5+1)%(mask+1)
theorem gv(mask:Nat)(h:Int):∀n,(BN mask (13+n)<|L0 mask h).1=AA mask n (BN mask 13<|L0 mask h).1
 |0=>rfl
 |n+1=>by show(leap mask (BN mask (13+n)<|L0 mask h).1 (BN mask (13+n)<|L0 mask h).2).1=_;rw[AAE mask h (13+n) U,gv mask h n];show(AA mask n _*5+1+0 / 32)%(mask+1)=(AA mask n _*5+1)%(mask+1);simp
theorem w9(mask:Nat)(h:Int):∀n,(BN mask n<|L0 mask h).1<mask+1
 |0=>AJn _<|AJO _
 |n+1=>AJn _<|AJO _
theorem qA:∀i<8,∀j<8,∃n<8,AA 7 n i=j:=AFp
theorem p9:∀i<32,∀j<32,∃n<32,AA 31 n i=j:=AFq
def Good(mask:Nat):Prop:=mask=7\/mask=31
theorem gx{mask:Nat}(hm:Good mask)(h:Int){j:Nat}(hj:j<=mask):∃n,n<turns mask-1/\(BN mask n<|L0 mask h).1=j:=by
 have z:=w9 mask h 13;have:∃n<mask+1,AA mask n (BN mask 13<|L0 mask h).1=j:=by
  rcases hm with rfl|rfl
  .exact qA _ z j U
  .exact p9 _ z j U
 obtain⟨n,hn,e⟩:=this;exact⟨13+n,by unfold turns;lia,by rw[gv];exact e⟩
theorem ACt{mask:Nat}(hm:Good mask)(h:Int){j:Nat}(z:j<=mask):∃n,n<10*turns mask/\(road mask h n).j=j:=by obtain⟨n,hn,e⟩:=gx hm h z;obtain⟨r,hr,y⟩:=j9 mask h n;exact⟨r,by unfold turns at *;lia,by rw[y];exact e⟩
theorem iq:∀(v q:List Nat),v.Nodup->(∀x∈v,x∈q)->v.length<=q.length
 |[],_,_,_=>AHR _
 |x::r,q,hn,hs=>by obtain⟨Y,Q⟩:=AHL.mp hn;have p:=hs x AF3;have:=iq r (q.erase x) Q λy Z=>(AJo (show y≠x from λz=>Y<|z ▸ Z)).mpr<|hs y<|AFz _ Z;rw[AIi p]at this;have hp:=AID p;rw[AGC];lia
theorem dw(mask:Nat)(L:List Nat)(hn:L.Nodup)(hl:L.length<=mask)(hle:∀j∈L,j<=mask):∃j,j<=mask/\j∉L:=by refine AG2 λh=>?_;have y:∀j,j∈List.range (mask+1)->j∈L:=λj q=>AG2 λz=>h ⟨j,by have:=AF1.mp q;lia,z⟩;have:=iq _ _ (AJP) y;rw[AGV]at this;lia
theorem ro{mask:Nat}(hm:Good mask)(h:Int)(L:List Nat)(hn:L.Nodup)(p:L.length<=mask)(q:∀j∈L,j<=mask):∃n,n<10*turns mask/\(road mask h n).j∉L/\∀m<n,(road mask h m).j∈L:=by
 obtain⟨j,Z,Y⟩:=dw mask L hn p q;obtain⟨n,hn,e⟩:=ACt hm h Z;have v:∀k,(∃n,n<k/\(road mask h n).j∉L)->∃n,n<k/\(road mask h n).j∉L/\∀m<n,(road mask h m).j∈L:=by
  intro k
  induction k with
  |zero=>rintro⟨n,hn,_⟩;lia
  |succ k ih=>
   rintro⟨n,hn,e⟩;by_cases y:∃n,n<k/\(road mask h n).j∉L
   .obtain⟨Q,O,P,h3⟩:=ih y;exact⟨Q,En O,P,h3⟩
   .have D:n=k:=by
     by_cases z:n<k
     .exact absurd ⟨n,z,e⟩ y
     .lia
    subst D;exact⟨n,hn,e,λm hm=>AG2 λz=>y ⟨m,hm,z⟩⟩
 exact v _ ⟨n,hn,by rw[e];exact Y⟩
end ST
set_option linter.all false
namespace ST
open PySem PySem.SetTable
theorem jY{t:SetTable}(hs:t.place.toList.Pairwise (· < ·))(hd:t.dummies=#[])(z:Nat->Int)(h:Int)(N:Nat)(Q:(road t.mask h N).j∉t.place.toList):∀(f n:Nat),n<=N->N-n<f->(∀m,n<=m->m<N->(road t.mask h m).j∈t.place.toList)->(∃m i,n<=m/\m<N/\t.place[i]? = some (road t.mask h m).j/\z i=h/\(∀k,n<=k->k<m->∀i',t.place[i']? = some (road t.mask h k).j->z i'≠h)/\probe.go t z h f (road t.mask h n)=some (.candidate (road t.mask h m).j i<|road t.mask h<|m+1))\/((∀k,n<=k->k<N->∀i',t.place[i']? = some (road t.mask h k).j->z i'≠h)/\probe.go t z h f (road t.mask h n)=some (.empty (road t.mask h N).j none))
 |0,n,_,hf,_=>U
 |f+1,n,hn,hf,Bq=>by
  by_cases he:n=N
  .subst he;right;refine⟨λk y q=>U,?_⟩;unfold probe.go;rw[ADL hd Q];rw[j8]
  .have D:=Bq n (AF5 _) U;obtain⟨i,hi⟩:=AHu D;have v:=by simpa using hi
   have O:=kO hs v;have inj:∀i',t.place[i']? = some (road t.mask h n).j->i'=i:=λi' e=>by rw[<-Nh _ _ hs i' e,Nh _ _ hs i v]
   by_cases hh:z i=h
   .left;refine⟨n,i,AF5 _,U,v,hh,λk y q=>U,?_⟩;unfold probe.go;rw[O];dsimp only;rw[AFu<|by simpa using hh]
    rfl
   .have step:probe.go t z h (f+1) (road t.mask h n)=probe.go t z h f (road t.mask h<|n+1):=by
     conv=>lhs;unfold probe.go
     rw[O];dsimp only;rw[AF0<|by simpa using hh]
     rfl
    rw[step];have P:∀i',t.place[i']? = some (road t.mask h n).j->z i'≠h:=λi' e=>by rw[inj i' e];exact hh
    rcases jY hs hd z h N Q f (n+1) U U (λm y q=>Bq m (MZ y) q)with⟨m,F,y,q,h3,R,p,Z⟩|⟨p,Z⟩
    .left;refine⟨m,F,MZ y,q,h3,R,λk k1 k2=>?_,Z⟩;by_cases Y:k=n
     .subst Y;exact P
     .exact p k U k2
    .right;refine⟨λk k1 k2=>?_,Z⟩;by_cases Y:k=n
     .subst Y;exact P
     .exact p k U k2
section
variable{prog:Program}{w:World}{A:Around}{E:Value->Shared->Prop}{s:Shared}
abbrev Cu(prog:Program)(w:World):=intKind prog w
noncomputable abbrev BJ(prog:Program)(w:World)(k:List Int):Int:=tupleKeyHash (Cu prog w) k
structure FX(prog:Program)(w:World)(h:Heap)(es:Array (Int×Value))(t:SetTable)(kk:List (List Int)):Prop where
 Kk:t.dummies=#[]
 Mf:Good t.mask
 CW:t.place.toList.Pairwise (· < ·)
 le:∀j∈t.place.toList,j<=t.mask
 sz:t.place.size=es.size
 Qy:es.size*5<t.mask*3
 len:kk.length=es.size
 ent:∀(i:Nat)(hh:Int)(v:Value),es[i]? = some (hh,v)->∃k b,kk[i]? = some k/\v=.ref b/\IsTupleKey (Cu prog w) h k b/\hh=BJ prog w k
 nd:kk.Nodup
 reach:∀(i j:Nat)(k:List Int),t.place[i]? = some j->kk[i]? = some k->∃n,(road t.mask (BJ prog w k) n).j=j/\∀m<n,(road t.mask (BJ prog w k) m).j∈t.place.toList
theorem FX.fits{h:Heap}{es:Array (Int×Value)}{t:SetTable}{kk:List (List Int)}(T:FX prog w h es t kk):t.fits es.size=true:=by unfold SetTable.fits SetTable.fill;rw[T.Kk,T.sz];have:=T.Qy;simp;lia
theorem FX.sX{h:Heap}{es:Array (Int×Value)}{t:SetTable}{kk:List (List Int)}(T:FX prog w h es t kk):t.gaveWay=false:=by unfold SetTable.gaveWay;rcases T.Mf with e|e<;>rw[e]<;>rfl
theorem yQ(n:Nat){v:Value}(h:carriedByValue v=true):ofAClassStatement n v=pure false:=by
 cases v with
 |ref a=>simp[carriedByValue]at h
 |_=>first|rfl|(cases n<;>rfl)
theorem l5{ks:List Int}{b:Addr}{Q:Bool->Shared->Prop}(z:IsTupleKey (Cu prog w) s.heap ks b)(h:Q false s):wpAny (model prog w) A (ofAClassStatement 8<|.ref b) Q E s:=by
 have Z:=z.typeIs;obtain⟨o,items,n,ho,hc,hd,hi⟩:=z;unfold ofAClassStatement;refine wpAny_bind<|wpAny_typeOf Z ?_;refine wpAny_bind<|wpAny_pure ?_;refine wpAny_bind<|wpAny_seqItems ho hd ?_;refine wpAny_bind ?_;rw[<-Array.forIn_toList];refine wpAny_forIn_list _ (λy r s'=>r.1=none/\s'=s/\∀v∈y,carriedByValue v=true) _ ?_ ?_ _ _ ⟨rfl,rfl,hi.byValue⟩
 .rintro v y r s' ⟨q,rfl,p⟩;rw[yQ _<|p v AF3];exact wpAny_pure ⟨rfl,rfl,λu Y=>p u<|AFz _ Y⟩
 .rintro⟨r1,r2⟩ s' ⟨q,rfl,_⟩;subst q;exact wpAny_pure h
theorem AEk{k:List Int}{b:Addr}{l:List Value}{Q:Bool->Shared->Prop}(q:IsTupleKey (Cu prog w) s.heap k b)(D:∀v∈l,∃y z,v=.ref z/\IsTupleKey (Cu prog w) s.heap y z)(h:Q false s):wpAny (model prog w) A (searchCouldBeSeen (.ref b) l) Q E s:=by
 refine wpAny_bind ?_;refine wpAny_forIn_list _ (λp r s'=>r.1=none/\s'=s/\∀v∈p,∃y z,v=.ref z/\IsTupleKey (Cu prog w) s.heap y z) _ ?_ ?_ _ _ ⟨rfl,rfl,D⟩
 .rintro v p r s' ⟨Z,rfl,Y⟩;obtain⟨y,z,rfl,O⟩:=Y v AF3;have P:=λu F=>Y u<|AFz _ F;refine wpAny_ite_split (λ_=>wpAny_pure ⟨rfl,rfl,P⟩) λ_=>?_;refine wpAny_bind<|wpAny_eqIsQuiet_tuple q ?_;refine wpAny_bind<|wpAny_eqIsQuiet_tuple O ?_;refine wpAny_bind<|l5 q ?_;refine wpAny_bind<|l5 O ?_;exact wpAny_pure ⟨rfl,rfl,P⟩
 .rintro⟨r1,r2⟩ s' ⟨Z,rfl,_⟩;subst Z;exact wpAny_pure h
theorem l6{a:Addr}{o:Obj}{es:Array (Int×Value)}{ep:Nat}{t:SetTable}{kk:List (List Int)}{k:List Int}{b:Addr}{N:Nat}{Q:SetFound->Shared->Prop} (ho:s.heap.get? a=some o) (hd:o.data=.set es ep t) (T:FX prog w s.heap es t kk) (O:A.units<cLine) (B:IsTupleKey (Cu prog w) s.heap k b) (OB:N<10*turns t.mask) (P:(road t.mask (BJ prog w k) N).j∉t.place.toList) (Bq:∀m<N,(road t.mask (BJ prog w k) m).j∈t.place.toList) (h1:k∈kk->Q (.there none) s) (h2:k∉kk->Q (.free (road t.mask (BJ prog w k) N).j false) s) : ∀(f n:Nat)(G:Option Probe),G.getD (t.probeStart<|BJ prog w k)=road t.mask (BJ prog w k) n->n<=N->N-n<f->(∀(i j:Nat),kk[i]? = some k->t.place[i]? = some j->∀m<n,(road t.mask (BJ prog w k) m).j≠j)->
  wpAny (model prog w) A (setSearchFrom a (.ref b) (BJ prog w k) true f G) Q E s
 |0,n,_,_,_,hf,_=>U
 |f+1,n,G,Hc,hn,hf,fU=>by
  refine wpAny_bind<|wpAny_setState_of ho hd T.fits ?_;dsimp only;rw[T.sX];simp only[AIB,AIz];rw[Hc];have WD:=jY T.CW T.Kk (λi=>(es[i]?.map (·.1)).getD 0) (BJ prog w k) N P (10*turns t.mask) n hn AFm λm _ hm=>Bq m hm;rcases WD with⟨m,i,m1,m2,m3,m4,S,C⟩|⟨S,C⟩
  .generalize H:SetTable.probe t _ _ _=pr;have I:=H.symm.trans C;subst I;dsimp only;have hi:i<es.size:=by rw[<-T.sz];exact(AIT.mp m3).1
   obtain⟨⟨hh,v⟩,e⟩:∃x,es[i]? = some x:=⟨es[i],AGc hi⟩;obtain⟨h,b',ek,rfl,BE,rfl⟩:=T.ent i hh v e;have uM:∀u∈(es.filter λx=>x.1==BJ prog w k).toList.map (λx=>x.2),∃h b',u=Value.ref b'/\IsTupleKey (Cu prog w) s.heap h b':=λu O=>by
    obtain⟨⟨h',u'⟩,hm,rfl⟩:=AGe.mp O;have C9:=by have:=AGD.mp (by simpa using hm:(h',u')∈es.toList.filter (λx=>x.1==BJ prog w k));simpa using this.1
    obtain⟨i',rF⟩:=Array.getElem?_of_mem C9;obtain⟨k2,b2,_,q,K3,_⟩:=T.ent i' h' u' rF;exact⟨k2,b2,q,K3⟩
   refine wpAny_ite_split (λ_=>wpAny_bind<|AEk B uM ?_) λ_=>?_
   all_goals
    rw[e];refine wpAny_bind<|wpAny_holding<|wpAny_eqBool_tuple O BE B ?_;refine wpAny_bind<|wpAny_setState_of ho hd T.fits ?_;dsimp only;by_cases Ip:h=k
    .subst Ip;simp only[decide_true];exact wpAny_pure<|h1<|AHA ek
    .rw[AGq Ip];have WK:t.sameMemory t.moves t.mask=some true:=by unfold SetTable.sameMemory;simp
     rw[WK];dsimp only;rw[AFu rfl,kO T.CW m3];dsimp only;rw[e];refine wpAny_bind<|wpAny_isSame_ref_self ?_;refine l6 ho hd T O B OB P Bq h1 h2 f (m+1) _ rfl U U λy j2 q D F C9=>?_;by_cases uq:F<n
     .exact fU y j2 q D F uq
     .by_cases K5:F=m
      .subst K5;intro z;have:y=i:=by rw[<-Nh _ _ T.CW y D,<-z,Nh _ _ T.CW i m3]
       subst this;rw[ek]at q;exact Ip<|AGT q
      .intro z;have Ax:=S F U U y (by rw[z];exact D);have Jw:y<es.size:=by rw[<-T.sz];exact(AIT.mp D).1
       obtain⟨⟨Vu,v2⟩,Z⟩:∃x,es[y]? = some x:=⟨es[y],AGc Jw⟩;obtain⟨k3,b3,Y,_,_,e3⟩:=T.ent y Vu v2 Z;rw[q]at Y;cases Y;apply Ax;rw[Z];exact e3
  .generalize H:SetTable.probe t _ _ _=pr;have I:=H.symm.trans C;subst I;refine wpAny_pure<|h2 λHb=>?_;obtain⟨i,R⟩:=AHu Hb;have hi:i<t.place.size:=by rw[T.sz,<-T.len];exact(AFx.mp R).1
   have hp:=AGc hi;obtain⟨p,e1,hb⟩:=T.reach i _ k hp R;have fQ:p<N:=by
    by_cases z:p<N
    .exact z
    .exfalso;by_cases z2:p=N
     .subst z2;apply P;rw[e1];exact AHA (by rw[AHH];exact hp)
     .exact P<|hb N U
   by_cases ON:p<n
   .exact fU i _ R hp p ON e1
   .have Ax:=S p (MY ON) fQ i (by rw[e1];exact hp);have Jw:i<es.size:=by rw[<-T.sz];exact hi
    obtain⟨⟨Vu,v2⟩,Z⟩:∃x,es[i]? = some x:=⟨es[i],AGc Jw⟩;obtain⟨k3,b3,Y,_,_,e3⟩:=T.ent i Vu v2 Z;rw[R]at Y;cases Y;apply Ax;rw[Z];exact e3
end
end ST
set_option linter.all false
namespace ST
open PySem PySem.SetTable
def rI(mask:Nat)(h:Int):Nat->Nat
 |0=>0
 |n+1=>rI mask h n+CC mask (BN mask n<|L0 mask h).1+1
theorem So(mask:Nat)(h:Int):∀n,road mask h (rI mask h n)=⟨(BN mask n<|L0 mask h).1,CC mask (BN mask n<|L0 mask h).1,(BN mask n<|L0 mask h).1,(BN mask n<|L0 mask h).2,none⟩
 |0=>rfl
 |n+1=>by
  have z:=Sr mask h (rI mask h n) _ _ (So mask h n) _<|AF5 _;show IS mask (road mask h<|rI mask h n+CC mask (BN mask n<|L0 mask h).1)=_;rw[z];unfold IS;rw[AF0 (by show ¬ (CC mask _-CC mask _>0);lia)]
  rfl
def GH(Ak:Array<|Option Nat)(j:Nat):Prop:=(Ak.getD j<|some 0).isSome=true
theorem kC(mask i:Nat):runEnd mask i+1-i=CC mask i+1:=by unfold CC runEnd;split<;>lia
theorem df(p:Nat->Bool):∀(n:Nat),match (List.range n).find? p with|some k=>k<n/\p k=true/\∀m<k,p m=false|none=>∀m<n,p m=false:=by
 intro n;cases h:(List.range n).find? p with
 |none=>
  intro m hm;have:=List.find?_eq_none.mp h m (AF1.mpr hm);simpa using this
 |some k=>
  obtain⟨Z,y,bs,e,Y⟩:=List.find?_eq_some_iff_append.mp h;have q:k∈List.range n:=by rw[e];simp
  refine⟨AF1.mp q,Z,λm hm=>?_⟩;have BX:y.length=k:=by
   have z:(List.range n)[y.length]? = some k:=by rw[e];simp
   obtain⟨hl,v⟩:=AFx.mp z;rw[AJC]at v;exact v
  have Q:=by
   have z:(List.range n)[m]? = some m:=by rw[AJv (by have:=AF1.mp q;exact F6 hm this)]
   rw[e,AGX U]at z;exact AHA z
  simpa using Y m Q
theorem sI{mask:Nat}(Ak:Array<|Option Nat)(h:Int)(ns:Nat)(Z:¬ GH Ak (BN mask ns<|L0 mask h).1):∀(d n f:Nat),n+d=ns->d<f->(∀m<rI mask h n,GH Ak (road mask h m).j)->∃N,(∀m<N,GH Ak (road mask h m).j)/\¬ GH Ak (road mask h N).j/\layClean.free mask Ak f (BN mask n<|L0 mask h).1 (BN mask n<|L0 mask h).2=some (road mask h N).j:=by
 intro d
 induction d with
 |zero=>
  intro n f hn P v;obtain⟨f,rfl⟩:∃g,f=g+1:=⟨f-1,U⟩;have D:n=ns:=U
  subst D;refine⟨rI mask h n,v,by rw[So];exact Z,?_⟩;unfold layClean.free;rw[kC];have:=df (λk=>(Ak.getD ((BN mask n<|L0 mask h).1+k)<|some 0).isNone)<|CC mask (BN mask n<|L0 mask h).1+1;have O:(Ak.getD ((BN mask n<|L0 mask h).1+0)<|some 0).isNone=true:=by unfold GH at Z;simpa using Z
  cases q:(List.range<|CC mask (BN mask n<|L0 mask h).1+1).find? (λk=>(Ak.getD ((BN mask n<|L0 mask h).1+k)<|some 0).isNone)with
  |none=>
   rw[q]at this;have z:=this 0 U;rw[O]at z;cases z
  |some k=>
   rw[q]at this;obtain⟨k1,k2,k3⟩:=this;by_cases Y:k=0
   .subst Y;rw[So];simp
   .have z:=k3 0 U;rw[O]at z;cases z
 |succ d ih=>
  intro n f hn P v;obtain⟨f,rfl⟩:∃g,f=g+1:=⟨f-1,U⟩;unfold layClean.free;rw[kC];have:=df (λk=>(Ak.getD ((BN mask n<|L0 mask h).1+k)<|some 0).isNone)<|CC mask (BN mask n<|L0 mask h).1+1;have p:∀k,k<=CC mask (BN mask n<|L0 mask h).1->(road mask h<|rI mask h n+k).j=(BN mask n<|L0 mask h).1+k:=λk Y=>by rw[Sr mask h (rI mask h n) _ _ (So mask h n) k Y]
  cases q:(List.range<|CC mask (BN mask n<|L0 mask h).1+1).find? (λk=>(Ak.getD ((BN mask n<|L0 mask h).1+k)<|some 0).isNone)with
  |some k=>
   rw[q]at this;obtain⟨k1,k2,k3⟩:=this;refine⟨rI mask h n+k,λm hm=>?_,?_,by rw[p k U]⟩
   .by_cases Q:m<rI mask h n
    .exact v m Q
    .have z:=k3 (m-rI mask h n) U;have e:=p (m-rI mask h n) U;rw[show rI mask h n+(m-rI mask h n)=m by lia]at e;rw[e];unfold GH;cases y:Ak.getD ((BN mask n<|L0 mask h).1+(m-rI mask h n)) (some 0)with
     |none=>rw[y]at z;cases z
     |some _=>rfl
   .rw[p k U];unfold GH;intro z;cases y:Ak.getD ((BN mask n<|L0 mask h).1+k) (some 0)with
    |none=>rw[y]at z;cases z
    |some _=>rw[y]at k2;cases k2
  |none=>
   rw[q]at this;have F:=λm hm=>by
    by_cases Q:m<rI mask h n
    .exact v m Q
    .have C9:m<rI mask h n+CC mask (BN mask n<|L0 mask h).1+1:=hm;have z:=this (m-rI mask h n) U;have e:=p (m-rI mask h n) U;rw[show rI mask h n+(m-rI mask h n)=m by lia]at e;rw[e];unfold GH;cases y:Ak.getD ((BN mask n<|L0 mask h).1+(m-rI mask h n)) (some 0)with
     |none=>rw[y]at z;cases z
     |some _=>rfl
   exact ih (n+1) f U U F
structure Laid(mask:Nat)(hs:List Int)(Ak:Array (Option Nat))(js:List Nat):Prop where
 sz:Ak.size=mask+1
 len:js.length=hs.length
 nd:js.Nodup
 le:∀j∈js,j<=mask
 own:∀(k j:Nat),js[k]? = some j->Ak[j]? = some (some k)
 Au:∀j,j<=mask->j∉js->Ak[j]? = some none
 reach:∀(k j:Nat)(h:Int),js[k]? = some j->hs[k]? = some h->∃n,(road mask h n).j=j/\∀m<n,(road mask h m).j∈js
theorem Laid.XA{mask:Nat}{hs:List Int}{Ak:Array (Option Nat)}{js:List Nat}(L:Laid mask hs Ak js){j:Nat}(q:j<=mask):GH Ak j↔j∈js:=by
 unfold GH;constructor
 .intro z;refine AG2 λhn=>?_;have e:=L.Au j q hn;have y:j<Ak.size:=by rw[L.sz];exact KG q
  rw[AGc y]at e;simp only[y,dif_pos]at z;have v:=AGT e;rw[show Ak.getInternal j y=Ak[j]from rfl,v]at z;cases z
 .intro hm;obtain⟨k,p⟩:=AHu hm;have e:=L.own k j p;have y:j<Ak.size:=by rw[L.sz];exact KG q
  rw[AGc y]at e;simp only[y,dif_pos];have v:=AGT e;rw[show Ak.getInternal j y=Ak[j]from rfl,v]
  rfl
theorem Sn{mask:Nat}(h:Int):∀n,(road mask h n).j<=mask/\(road mask h n).j+(road mask h n).more<=mask/\(road mask h n).i<=mask
 |0=>by have z:bits h%(mask+1)<mask+1:=AJn _<|AJO _;show bits h%(mask+1)<=mask/\bits h%(mask+1)+CC mask (bits h%(mask+1))<=mask/\bits h%(mask+1)<=mask;unfold CC runEnd;split<;>lia
 |n+1=>by
  obtain⟨z,h2,h3⟩:=Sn (mask:=mask) h n;unfold road IS;split
  .dsimp only;lia
  .dsimp only;have h4:(leap mask (road mask h n).i (road mask h n).perturb).1<mask+1:=AJn _<|AJO _;unfold CC runEnd;split<;>lia
theorem gu{mask:Nat}(hm:Good mask):∀(p hs:List Int)(Ak:Array<|Option Nat)(js:List Nat),Laid mask hs Ak js->hs.length+p.length<=mask->∃Y P,Laid mask (hs++p) Y P/\(p.foldl (init:=some (Ak,hs.length)) λacc h=>(do
  let (Ak,k)<-acc
  let j<-layClean.free mask Ak (turns mask) (bits h%(mask+1))<|bits h
  pure (Ak.setIfInBounds j<|some k,k+1)))=some (Y,(hs++p).length)
 |[],hs,Ak,js,L,_=>⟨Ak,js,by simpa using L,AFn⟩
 |h::p,hs,Ak,js,L,BX=>by
  have B:js.length<=mask:=by rw[L.len];lia
  obtain⟨j,F,G⟩:=dw mask js L.nd B L.le;obtain⟨ns,Ge,S⟩:=gx hm h F;have T:¬ GH Ak (BN mask ns<|L0 mask h).1:=by rw[S,L.XA F];exact G
  obtain⟨N,C,E,H⟩:=sI Ak h ns T ns 0 (turns mask) U (by unfold turns at *;lia) (λm hm=>by simp[rI]at hm);have v:=(Sn (mask:=mask) h N).1;have R:=λz=>E<|(L.XA v).mpr z;have hsz:(road mask h N).j<Ak.size:=by rw[L.sz];exact KG v
  have I:Laid mask (hs ++ [h]) (Ak.setIfInBounds (road mask h N).j<|some hs.length)<|js ++ [(road mask h N).j]:=by
   refine⟨by simpa using L.sz,by simp[L.len],?_,λx q=>?_,λk x y=>?_,λx q Q=>?_,λk x h' y hh=>?_⟩
   .rw[List.nodup_append];exact⟨L.nd,AFn,λa ha b O=>by rw[AGH]at O;subst O;intro z;exact R<|z ▸ ha⟩
   .rcases AGO.mp q with q|q
    .exact L.le x q
    .rw[AGH]at q;subst q;exact v
   .by_cases Z:k<js.length
    .rw[AGX Z]at y;have Q:(road mask h N).j≠x:=λz=>R<|z ▸ AHA y;rw[AI3 Q];exact L.own k x y
    .rw[AGa<|MY Z]at y;have D:k=js.length:=by have:=(AFx.mp y).1;simp at this;grind
     subst D;simp at y;subst y;rw[Array.getElem?_setIfInBounds_self_of_lt hsz,L.len]
   .have t:=λz=>Q<|AHP _ z;have f:(road mask h N).j≠x:=λz=>Q (AGo _<|by simp[z]);rw[AI3 f];exact L.Au x q t
   .by_cases Z:k<js.length
    .rw[AGX Z]at y;rw[AGX (by rw[<-L.len];exact Z)]at hh;obtain⟨n,e,O⟩:=L.reach k x h' y hh;exact⟨n,e,λm hm=>AHP _<|O m hm⟩
    .rw[AGa<|MY Z]at y;have D:k=js.length:=by have:=(AFx.mp y).1;simp at this;lia
     subst D;simp at y;subst y;rw[AGa (by rw[L.len];exact AF5 _),L.len]at hh;simp at hh;subst hh;exact⟨N,rfl,λm hm=>AHP _<|(L.XA (Sn _ m).1).mp<|C m hm⟩
  obtain⟨Y,P,L2,e2⟩:=gu hm p (hs ++ [h]) _ _ I (by simp at BX ⊢;lia);refine⟨Y,P,by simpa using L2,?_⟩;rw[AJb];have vN:(do
   let (Ak,k)<-(some (Ak,hs.length))
   let j<-layClean.free mask Ak (turns mask) (bits h%(mask+1))<|bits h
   pure (Ak.setIfInBounds j<|some k,k+1))=some (Ak.setIfInBounds (road mask h N).j<|some hs.length,(hs ++ [h]).length):=by
   show(layClean.free mask Ak (turns mask) (bits h%(mask+1))<|bits h).bind _=_;have:layClean.free mask Ak (turns mask) (bits h%(mask+1)) (bits h)=some (road mask h N).j:=H;rw[this];simp
  rw[vN,e2];simp
theorem w5{mask:Nat}(hm:Good mask)(hs:Array Int)(y:hs.size<=mask):∃Ak js,Laid mask hs.toList Ak js/\layClean mask hs=some Ak:=by
 have L0:Laid mask [] (Array.replicate (mask+1) none) []:=by refine⟨AFn,rfl,AJi,AFn,AFn,λj q _=>?_,AFn⟩;rw[Array.getElem?_replicate,AFu<|KG q]
 obtain⟨Ak,js,L,e⟩:=gu hm hs.toList [] _ _ L0 (by simpa using y);refine⟨Ak,js,by simpa using L,?_⟩;unfold layClean;rw[<-Array.foldl_toList];have z:=e;simp only[AHB]at z;rw[z]
 rfl
end ST
set_option linter.all false
namespace ST
open PySem PySem.SetTable
theorem Q0{α β:Type}(f:α->Option β):∀(l:List α)(_:∀x∈l,∃y,f x=some y)(i:Nat),(l.filterMap f)[i]? = (l[i]?).bind f
 |[],_,i=>AFn
 |x::r,h,i=>by
  obtain⟨y,q⟩:=h x AF3;rw[AJQ q];cases i with
  |zero=>simp[q]
  |succ i=>
   exact Q0 f r (λz hz=>h z<|AFz _ hz) i
noncomputable def live(mask:Nat)(Ak:Array<|Option Nat):List<|Nat×Nat:=(List.range<|mask+1).filterMap λj=>(Ak.getD j none).map (j,·)
theorem MS{mask:Nat}{hs:List Int}{Ak:Array (Option Nat)}{js:List Nat}(L:Laid mask hs Ak js)(j k:Nat):(j,k)∈live mask Ak↔js[k]? = some j:=by
 unfold live;rw[AIf];constructor
 .rintro⟨z,Y,e⟩;have q:z<=mask:=by have:=AF1.mp Y;lia
  have y:z<Ak.size:=by rw[L.sz];exact KG q
  cases ho:Ak.getD z none with
  |none=>rw[ho]at e;cases e
  |some k'=>
   rw[ho]at e;simp only[AGu,AGg,AIU]at e;obtain⟨rfl,rfl⟩:=e;simp only[Array.getD,y]at ho;have v:Ak[z]? = some (some k'):=by rw[AGc y];exact AG5 some ho
   by_cases hm:z∈js
   .obtain⟨k2,p⟩:=AHu hm;have:=L.own k2 z p;rw[v]at this;simp only[AGg]at this;subst this;exact p
   .have:=L.Au z q hm;rw[v]at this;cases this
 .intro h;have Z:=L.le j<|AHA h;have y:j<Ak.size:=by rw[L.sz];exact KG Z
  refine⟨j,AF1.mpr<|KG Z,?_⟩;have:=L.own k j h;rw[AGc y]at this;have e:Ak.getD j none=some k:=by simp only[Array.getD,y];exact AGT this
  rw[e];rfl
theorem g7(mask:Nat)(Ak:Array<|Option Nat):(live mask Ak).Pairwise (λa b=>a.1<b.1):=by
 unfold live;rw[List.pairwise_filterMap];refine AJg.imp ?_;intro a b p x z y q;cases ha:Ak.getD a none with
 |none=>rw[ha]at z;cases z
 |some k=>
  cases v:Ak.getD b none with
  |none=>rw[v]at q;cases q
  |some l=>
   rw[ha]at z;rw[v]at q;cases z;cases q;exact p
theorem xH{mask:Nat}{hs:List Int}{Ak:Array (Option Nat)}{js:List Nat}(L:Laid mask hs Ak js):((live mask Ak).map (·.2)).Perm<|List.range hs.length:=by
 have v:((live mask Ak).map (·.2)).Nodup:=by show List.Pairwise _ _;rw[AHb];have p:=g7 mask Ak;have y:∀x∈live mask Ak,js[x.2]? = some x.1:=λx Z=>(MS L x.1 x.2).mp Z;refine(List.Pairwise.and_mem.mp p).imp ?_;rintro a b ⟨ha,Y,Bf⟩ z;have Q:=y a ha;have O:=y b Y;rw[z,O]at Q;lia
 refine(AJI v AJP).mpr λk=>?_;rw[AGe,AF1];constructor
 .rintro⟨⟨j,P⟩,hm,rfl⟩;have:=(MS L j P).mp hm;rw[<-L.len];exact(AFx.mp this).1
 .intro q;rw[<-L.len]at q;exact⟨(js[k],k),(MS L _ _).mpr<|AGF q,rfl⟩
section
variable{prog:Program}{w:World}{A:Around}{E:Value->Shared->Prop}{s:Shared}
structure UP(prog:Program)(w:World)(h:Heap)(es:Array (Int×Value))(kk:List (List Int)):Prop where
 len:kk.length=es.size
 ent:∀(i:Nat)(hh:Int)(v:Value),es[i]? = some (hh,v)->∃k b,kk[i]? = some k/\v=.ref b/\IsTupleKey (Cu prog w) h k b/\hh=BJ prog w k
 nd:kk.Nodup
theorem ACq{h:Heap}{es:Array (Int×Value)}{t:SetTable}{kk:List (List Int)}(T:UP prog w h es kk)(hw:sizeAbove n=32)(hsz:es.size*5<93) : ∃t' z S,t.relaid (es.map (·.1)) n=some (t',z)/\(z.filterMap (es[·]?)).size=es.size/\FX prog w h (z.filterMap (es[·]?)) t' S/\S.Perm kk:=by
 have hm:Good 31:=.inr rfl;obtain⟨Ak,js,L,e⟩:=w5 hm (es.map (·.1)) (by simp;lia);have Q:=xH L;have uT:((es.map (·.1)).toList).length=es.size:=AFn
 rw[uT]at Q;have C:∀k∈(live 31 Ak).map (·.2),k<es.size:=λk p=>AF1.mp<|Q.mem_iff.mp p;have uN:∀k∈(live 31 Ak).map (·.2),∃y,es[k]? = some y:=λk p=>⟨es[k]'(C k p),AGc _⟩;have H:∀k∈(live 31 Ak).map (·.2),∃y,kk[k]? = some y:=λk p=>⟨kk[k]'(by rw[T.len];exact C k p),AGF _⟩;have ui:=by have:=Q.length_eq;simpa using this
 have I:(((live 31 Ak).map (·.2)).toArray.filterMap (es[·]?)).toList=((live 31 Ak).map (·.2)).filterMap (λk=>es[k]?):=by rw[Array.toList_filterMap]
 have P:(((live 31 Ak).map (·.2)).toArray.filterMap (es[·]?)).size=es.size:=by rw[<-AGp,I];have D:=(Q.filterMap λk=>es[k]?).length_eq;rw[D,filterMap_getElem?_range];simp
 have R:=by have D:=Q.filterMap λk=>kk[k]?;rw[<-T.len,List.filterMap_getElem?_range_length]at D;exact D
 refine⟨{mask:=31,place:=((live 31 Ak).map (·.1)).toArray,dummies:=#[],finger:=t.finger,led:=t.led,moves:=t.movedTo<|sizeAbove n-1,plain:=t.plain},((live 31 Ak).map (·.2)).toArray,((live 31 Ak).map (·.2)).filterMap λk=>kk[k]?,?_,P,?_,R⟩
 .unfold relaid laid;rw[hw,e]
  rfl
 .refine⟨rfl,hm,?_,λj hj=>?_,by rw[P];simpa using ui,by rw[P];exact hsz,?_,λi hh v O=>?_,R.nodup_iff.mpr T.nd,λi j k hp p=>?_⟩
  .rw[AHb];exact g7 31 Ak
  .have CT:j∈(live 31 Ak).map (·.1):=by simpa using hj
   obtain⟨⟨F,k⟩,B,rfl⟩:=AGe.mp CT;exact L.le _<|AHA<|(MS L F k).mp B
  .rw[P,<-T.len];exact R.length_eq
  .rw[<-AHH,I,Q0 _ _ uN]at O;rw[Q0 _ _ H];cases ho:((live 31 Ak).map (·.2))[i]? with
   |none=>rw[ho]at O;cases O
   |some k=>
    rw[ho]at O;exact T.ent k hh v O
  .rw[Q0 _ _ H]at p;have Y:((live 31 Ak).map (·.1))[i]? = some j:=by simpa using hp
   rw[AG6]at Y p;cases G:(live 31 Ak)[i]? with
   |none=>rw[G]at Y;cases Y
   |some x=>
    obtain⟨F,Z⟩:=x;rw[G]at Y p;simp only[AGu,AGg]at Y;subst Y;have uc:=(MS L F Z).mp<|AHA G;have b:=by simpa using p
    have Fe:Z<es.size:=by rw[<-T.len];exact(AFx.mp b).1
    obtain⟨⟨hh,v⟩,f⟩:∃x,es[Z]? = some x:=⟨es[Z],AGc Fe⟩;obtain⟨k2,b2,a,_,_,e3⟩:=T.ent Z hh v f;rw[b]at a;cases a;have uS:((es.map (·.1)).toList)[Z]? = some (BJ prog w k):=by
     rw[AHH,Array.getElem?_map,f,e3]
     rfl
    obtain⟨n1,r1,r2⟩:=L.reach Z F _ uc uS;refine⟨n1,r1,λm B=>?_⟩;have:=r2 m B;obtain⟨q,hq⟩:=AHu this;have:=(MS L _ q).mpr hq;have:(road 31 (BJ prog w k) m).j∈(live 31 Ak).map (·.1):=AGe.mpr ⟨_,this,rfl⟩;simpa using this
end
end ST
set_option linter.all false
namespace ST
open PySem PySem.SetTable
section
variable{prog:Program}{w:World}{A:Around}{E:Value->Shared->Prop}{s:Shared}
theorem gp{h h':Heap}{ks:List Int}{a d:Addr}{o:Obj}{es ep}{t:SetTable}(x:IsTupleKey (Cu prog w) h ks a)(ho:h.get? d=some o)(hd:o.data=.set es ep t)(hs:Heap.SameBut d h h'):IsTupleKey (Cu prog w) h' ks a:=by
 obtain⟨o',items,n,y,hc,z,hi⟩:=x;have q:a≠d:=by rintro rfl;obtain rfl:o'=o:=AGT<|y.symm.trans ho;rw[hd]at z;exact nomatch z
 exact⟨o',items,n,(hs.2 a q).trans y,hc,z,hi⟩
theorem FX.move{h h':Heap}{es:Array (Int×Value)}{t:SetTable}{kk:List (List Int)}(T:FX prog w h es t kk)(m:∀k b,IsTupleKey (Cu prog w) h k b->IsTupleKey (Cu prog w) h' k b):FX prog w h' es t kk:=
 ⟨T.Kk,T.Mf,T.CW,T.le,T.sz,T.Qy,T.len,λi hh v e=>let ⟨k,b,e1,e2,e3,e4⟩:=T.ent i hh v e;⟨k,b,e1,e2,m k b e3,e4⟩,T.nd,T.reach⟩
theorem AEl{k:List Int}{b:Addr}{Q:Bool->Shared->Prop}(y:IsTupleKey (Cu prog w) s.heap k b)(h:Q true s):wpAny (model prog w) A (hashByValue 8<|.ref b) Q E s:=by
 have Y:=y.typeIs;obtain⟨o,items,n,ho,hc,hd,hi⟩:=y;refine wpAny_bind<|wpAny_specialOf Y F.slot_tuple_hash.lookup ?_;refine wpAny_bind<|wpAny_seqItems ho hd ?_;refine wpAny_bind ?_;rw[<-Array.forIn_toList];have q:∀{x:List Int}{vs:List Value},ItemsAre (Cu prog w) x vs->∀v∈vs,∃i t,v=Value.int i t:=by
  intro x vs y
  induction y with
  |nil=>intro v z;simp at z
  |@cons k v' ks vs h1 _ ih=>
   intro v z;rcases AF4.mp z with rfl|z
   .obtain⟨t,e⟩:=Value.isInt_shape h1;exact⟨_,t,e⟩
   .exact ih v z
 refine wpAny_forIn_list _ (λp r s'=>r.1=none/\s'=s/\∀v∈p,∃i t,v=Value.int i t) _ ?_ ?_ _ _ ⟨rfl,rfl,q hi⟩
 .rintro v p r s' ⟨Z,rfl,q⟩;obtain⟨i,t,rfl⟩:=q v AF3;exact wpAny_pure ⟨rfl,rfl,λu O=>q u<|AFz _ O⟩
 .rintro⟨r1,r2⟩ s' ⟨Z,rfl,_⟩;subst Z;exact wpAny_pure h
theorem WY{α:Type}(xs:Array α)(p:Nat)(x:α)(hp:p<=xs.size)(i:Nat):(insertAt xs p x)[i]? = if i<p then xs[i]? else if i=p then some x else xs[i-1]?:=by
 rw[<-AHH,SetTable.toList_insertAt];by_cases z:i<p
 .rw[AFu z,AGX (by simp;lia),AJN z,AHH]
 .rw[AF0 z,AGa (by rw[AHe];simp;lia)];have e:(List.take p xs.toList).length=p:=by rw[AHe];simp;lia
  rw[e];by_cases y:i=p
  .subst y;simp
  .rw[AF0 y];obtain⟨d,hd⟩:∃d,i-p=d+1:=⟨i-p-1,U⟩;rw[hd,AG7,List.getElem?_drop,AHH]
   congr 1
   lia
theorem gI{α:Type}(xs:List α)(p:Nat)(x:α)(hp:p<=xs.length)(i:Nat):(xs.take p++x::xs.drop p)[i]? = if i<p then xs[i]? else if i=p then some x else xs[i-1]?:=by have:=WY xs.toArray p x (by simpa using hp) i;rw[<-AHH,SetTable.toList_insertAt]at this;simpa using this
theorem AAt{h:Heap}{es:Array (Int×Value)}{t:SetTable}{kk:List (List Int)}{k:List Int}{b:Addr}{N:Nat}(T:FX prog w h es t kk)(f:IsTupleKey (Cu prog w) h k b)(hk:k∉kk) (hN:(road t.mask (BJ prog w k) N).j∉t.place.toList) (Bq:∀m<N,(road t.mask (BJ prog w k) m).j∈t.place.toList) (t1:SetTable) (Gg:t1.mask=t.mask/\t1.dummies=t.dummies/\t1.place=(t.put (road t.mask (BJ prog w k) N).j).1.place) : ∃D,D.Perm (k::kk)/\UP prog w h (insertAt es (t.put (road t.mask (BJ prog w k) N).j).2 (BJ prog w k,.ref b)) D/\(insertAt es (t.put (road t.mask (BJ prog w k) N).j).2 (BJ prog w k,Value.ref b)).size=es.size+1/\t1.place.size=es.size+1/\
  ((es.size+1)*5<t.mask*3->FX prog w h (insertAt es (t.put (road t.mask (BJ prog w k) N).j).2 (BJ prog w k,.ref b)) t1 D):=by
 obtain⟨Q,m2,m3⟩:=Gg;have hp:(t.put (road t.mask (BJ prog w k) N).j).2=below t.place (road t.mask (BJ prog w k) N).j:=rfl;have BA:(t.put (road t.mask (BJ prog w k) N).j).1.place=insertAt t.place (below t.place (road t.mask (BJ prog w k) N).j) (road t.mask (BJ prog w k) N).j:=rfl;rw[BA]at m3;rw[hp];have O:below t.place (road t.mask (BJ prog w k) N).j<=t.place.size:=by rw[Ub _ _ T.CW];have:=ZT t.place.toList (road t.mask (BJ prog w k) N).j;simpa using this
 generalize S:(road t.mask (BJ prog w k) N).j=jj at *
 generalize vI:below t.place jj=p at *
 have C:kk.length=t.place.size:=by rw[T.sz];exact T.len
 have hsz:(insertAt es p (BJ prog w k,Value.ref b)).size=es.size+1:=by
  rw[<-AGp,SetTable.toList_insertAt];simp;have:=T.sz
  grind
 have hsz2:t1.place.size=es.size+1:=by
  rw[m3,<-AGp,SetTable.toList_insertAt];simp;have:=T.sz
  grind
 have F:=by
  have:=List.perm_middle (a:=k) (l₁:=kk.take p) (l₂:=kk.drop p)
  rwa [AJk]at this
 have P:UP prog w h (insertAt es p (BJ prog w k,.ref b)) (kk.take p++k::kk.drop p):=by
  refine⟨?_,λi hh v e=>?_,F.nodup_iff.mpr<|AHL.mpr ⟨hk,T.nd⟩⟩
  .rw[hsz,F.length_eq,AGC,T.len]
  .rw[WY es p _ (by rw[<-T.sz];exact O)]at e;rw[gI kk p k (by rw[C];exact O)];by_cases Z:i<p
   .rw[AFu Z]at e ⊢;exact T.ent i hh v e
   .rw[AF0 Z]at e ⊢;by_cases Y:i=p
    .rw[AFu Y]at e ⊢;cases e;exact⟨k,b,rfl,rfl,f,rfl⟩
    .rw[AF0 Y]at e ⊢;exact T.ent (i-1) hh v e
 refine⟨_,F,P,hsz,hsz2,λEj=>?_⟩;have R:∀x∈t.place.toList,x∈t1.place.toList:=λx Hd=>by rw[m3];exact(SetTable.insertAt_perm t.place p jj).mem_iff.mpr (by simpa using Or.inl (by simpa using Hd))
 refine⟨by rw[m2,T.Kk],by rw[Q];exact T.Mf,?_,λj H=>?_,by rw[hsz2,hsz],by rw[hsz,Q];exact Ej,P.len,P.ent,P.nd,λi j I y q=>?_⟩
 .rw[m3,<-vI];exact vm t.place jj T.CW hN
 .rw[m3]at H;have:=(SetTable.insertAt_perm t.place p jj).mem_iff.mp H;rw[Q];rw[Array.toList_push]at this;rcases AGO.mp this with z|z
  .exact T.le j z
  .rw[AGH]at z;rw[z,<-S];exact(Sn _ N).1
 .rw[m3,WY t.place p jj O]at y;rw[gI kk p k (by rw[C];exact O)]at q;rw[Q];by_cases Z:i<p
  .rw[AFu Z]at y q;obtain⟨n,B,G⟩:=T.reach i j I y q;exact⟨n,B,λm hm=>R _<|G m hm⟩
  .rw[AF0 Z]at y q;by_cases Y:i=p
   .rw[AFu Y]at y q;cases y;cases q;exact⟨N,S,λm hm=>R _<|Bq m hm⟩
   .rw[AF0 Y]at y q;obtain⟨n,B,G⟩:=T.reach (i-1) j I y q;exact⟨n,B,λm hm=>R _<|G m hm⟩
def IM(prog:Program)(w:World)(h:Heap)(a:Addr)(ks:List<|List Int):Prop:=
 ∃o es z t kk,h.get? a=some o/\o.ExactSet/\o.data=.set es z t/\FX prog w h es t kk/\kk.Perm ks
theorem eC{h:Heap}{a:Addr}{o:Obj}{es:Array (Int×Value)}{z:Nat}{t:SetTable}{es':Array (Int×Value)}{t':SetTable}(ho:h.get? a=some o)(hd:o.data=.set es z t) : (h.update a<|Obj.putSet es' t').get? a=some {o with data:=.set es' (z+1) t'}:=by have:=Heap.get?_update_self (Obj.putSet es' t') ho (by rw[putSet_of es' t' hd];rfl);rw[putSet_of es' t' hd]at this;exact this
theorem AEi{a:Addr}{ks:List (List Int)}{k:List Int}{b:Addr}{Q:Bool->Shared->Prop}(hS:IM prog w s.heap a ks)(D:IsTupleKey (Cu prog w) s.heap k b)(hu:A.units<cLine)(Ej:ks.length+1<=18) (h:∀h' r,Heap.SameBut a s.heap h'->IM prog w h' a (if k∈ks then ks else k::ks)->Q r {s with heap:=h'}):wpAny (model prog w) A (setAddHashed a (.ref b)<|BJ prog w k) Q E s:=by
 obtain⟨o,es,ep,t,kk,ho,q,hd,T,p⟩:=hS;refine wpAny_holding<|wpAny_bind<|wpAny_setState_of ho hd T.fits ?_;dsimp only;have Gd:=T.CW.imp λh=>AGE h;have BX:t.place.toList.length<=t.mask:=by have F:=T.sz;have h2:=T.Qy;simp;lia
 obtain⟨N,R,S,C⟩:=ro T.Mf (BJ prog w k) t.place.toList Gd BX T.le;have Fe:=p.length_eq;refine wpAny_bind (l6 ho hd T hu D R S C ?_ ?_ 100000 0 none rfl (AHR _) (by have:=T.Mf;unfold turns at R;rcases this with e|e<;>rw[e]at R<;>lia) (λ_ _ _ _ m hm=>U))
 .intro P;refine wpAny_pure ?_;have:=h s.heap false<|Heap.SameBut.refl a s.heap;rw[AFu<|p.mem_iff.mp P]at this;exact this ⟨o,es,ep,t,kk,ho,q,hd,T,p⟩
 .intro P;have H:=λz=>P<|p.mem_iff.mpr z;refine wpAny_bind<|wpAny_setState_of ho hd T.fits ?_;have fin:∀t1:SetTable,(t1.mask=t.mask/\t1.dummies=t.dummies/\t1.place=(t.put (road t.mask (BJ prog w k) N).j).1.place)->wpAny (model prog w) A (do
    storeSet a (insertAt es (t.put (road t.mask (BJ prog w k) N).j).2 (BJ prog w k,.ref b)) t1
    if(
     !false&&t1.tooFull)=true then do
     setRelay a (grown<|es.size+1)
     pure true
     else pure true) Q E s:=by
   intro t1 Z;obtain⟨J7,F4,T0,hsz,hsz2,hT⟩:=AAt T D P S C t1 Z;have B:t1.fill=es.size+1:=by
    unfold SetTable.fill;rw[hsz2,Z.2.1,T.Kk]
    rfl
   have hsn:es.size=ks.length:=by rw[<-T.len,Fe]
   refine wpAny_bind (wpAny_storeSet_of ho hd ?_ (by rw[hsz,sizeLine_eq];lia));have Y:=eC (es':=insertAt es (t.put (road t.mask (BJ prog w k) N).j).2 (BJ prog w k,Value.ref b)) (t':=t1) ho hd;have G:=Heap.SameBut.update s.heap a<|Obj.putSet (insertAt es (t.put (road t.mask (BJ prog w k) N).j).2 (BJ prog w k,Value.ref b)) t1;generalize AFS:insertAt es (t.put (road t.mask (BJ prog w k) N).j).2 (BJ prog w k,Value.ref b)=N4 at *
   have I:∀k2 b2,IsTupleKey (Cu prog w) s.heap k2 b2->IsTupleKey (Cu prog w) (s.heap.update a<|Obj.putSet N4 t1) k2 b2:=λ_ _ z=>gp z ho hd G;have n:=F4.trans<|p.cons k;by_cases v:t1.tooFull=true
   .rw[AFu (by rw[v];rfl)];have f:=by unfold SetTable.tooFull at v;rw[B,Z.1]at v;simpa using v
    have O:t.mask=7/\es.size=4:=by
     have F:=T.Qy;rcases T.Mf with e|e
     .rw[e]at F f;exact⟨e,by clear Ej;lia⟩
     .rw[e]at f;clear F;lia
    have x:sizeAbove (grown<|es.size+1)=32:=by rw[O.2];rfl
    obtain⟨t',y,wt,vK,f7,T',WA⟩:=ACq T0 x (by rw[hsz,O.2];decide);have uP:t1.fits N4.size=true:=by
     unfold SetTable.fits;rw[B,hsz2,hsz,Z.1,O.1,O.2]
     rfl
    refine wpAny_bind ?_;refine wpAny_bind<|wpAny_setState_of Y rfl uP ?_;rw[x];refine wpAny_bind (wpAny_of_eq (a:=(y.filterMap (N4[·]?),t')) ?_ ?_)
    .rw[vK];show(if(_ != _)=true then _ else _)=_;rw[f7];simp
    .refine wpAny_storeSet_of Y rfl ?_ (by rw[f7,hsz,O.2];decide);have fo:=Heap.SameBut.update (s.heap.update a<|Obj.putSet N4 t1) a (Obj.putSet (y.filterMap (N4[·]?)) t');refine wpAny_pure ?_;have:=h _ true<|G.trans fo;rw[AF0 H]at this;refine this ⟨_,_,_,_,wt,eC Y rfl,q,rfl,T'.move λ_ _ z=>gp (I _ _ z) Y rfl fo,WA.trans n⟩
   .rw[AF0<|by simpa using v];refine wpAny_pure ?_;have:=h _ true G;rw[AF0 H]at this;refine this ⟨_,_,_,_,J7,Y,q,rfl,(hT ?_).move I,n⟩;unfold SetTable.tooFull at v;rw[B,Z.1]at v;lia
  by_cases BA:(t.put (road t.mask (BJ prog w k) N).j).1.plain=true
  .rw[AFu BA];refine wpAny_bind<|AEl D ?_;simp only[AHl];refine fin _ ⟨rfl,?_,rfl⟩;show(if has t.dummies _=true then _ else t.dummies)=t.dummies;rw[T.Kk];simp[has]
  .rw[AF0 BA];refine wpAny_bind<|wpAny_pure ?_;simp only[AHl];refine fin _ ⟨rfl,?_,rfl⟩;show(if has t.dummies _=true then _ else t.dummies)=t.dummies;rw[T.Kk];simp[has]
end
end ST
set_option linter.all false
set_option maxRecDepth 100000
namespace ST
open PySem PySem.SetTable
section
variable{prog:Program}{w:World}{A:Around}{E:Value->Shared->Prop}{s:Shared}
noncomputable def EY:List (List Int)->List (List Int)->List (List Int)
 |acc,[]=>acc
 |acc,k::r=>EY (if k∈acc then acc else k::acc) r
theorem lL:∀(l acc:List<|List Int),(EY acc l).length<=acc.length+l.length
 |[],acc=>by unfold EY;simp
 |k::r,acc=>by refine AGZ (lL r _) ?_;split<;>simp<;>lia
theorem Oe{h h':Heap}{k:List Int}{b:Addr}(z:IsTupleKey (Cu prog w) h k b)(m:∀o,h.get? b=some o->h'.get? b=some o):IsTupleKey (Cu prog w) h' k b:=by obtain⟨o',items,n,y,hc,q,hi⟩:=z;exact⟨o',items,n,m o' y,hc,q,hi⟩
def nN(S I:Addr)(h h':Heap):Prop:=∀b o,b≠S->b≠I->h.get? b=some o->h'.get? b=some o
theorem AEW{l S I:Addr}{items:Array Value}{kks:List (List Int)}(hh:A.in1.handled=none)(hu:A.in1.units<cLine)(B:S≠I)(RF:l≠S)(Vz:l≠I){R:Result->Shared->Prop}(BX:kks.length=items.size)(fO:items.size<=17) : ∀(k i:Nat)(s:Shared)(acc:List<|List Int),items.size-i=k->i<=items.size->acc.length<=i->s.heap.IsList l items->s.heap.IsListIter I l i->IM prog w s.heap S acc->
  (∀(j:Nat)(v:Value),items[j]? = some v->∃q b,kks[j]? = some q/\v=.ref b/\b≠S/\b≠I/\IsTupleKey (Cu prog w) s.heap q b)->
  (∀h' tk,nN S I s.heap h'->IM prog w h' S (EY acc<|kks.drop i)->R (.ok<|.ret .none) {s with heap:=h',toks:=tk})->
  codeAny (model prog w) A (.builtin "set.update.loop" ⟨[.ref S,.ref I],[]⟩) R s:=by
 intro k
 induction k with
 |zero=>
  intro i s acc hk hi eQ P Y G hit hR;have fG:i=items.size:=AFm
  refine codeAny_builtin AIj ?_;refine wpAny_bind (wpAny_pyNext_list_end hh Y P (by simp;lia) λh' C=>?_);have tV:IM prog w h' S acc:=by obtain⟨o,es,H,t,kk,ho,Z,hd,T,hp⟩:=G;refine⟨o,es,H,t,kk,C S o B ho,Z,hd,T.move λk' b z=>?_,hp⟩;obtain⟨oI,n,uG,f⟩:=Y;refine Oe z λo' e=>C b o' (λzz=>?_) e;subst zz;obtain⟨o2,wC,n2,Q,uE,p,_⟩:=z;rw[n]at Q;cases Q;rw[f]at p;cases p
  refine wpAny_pure ?_;have:=hR h' s.toks λb o O x e=>C b o x e;rw[List.drop_of_length_le (U:kks.length<=i)]at this;exact this tV
 |succ k ih=>
  intro i s acc hk hi eQ P Y G hit hR;have BI:i<items.size:=AFm
  have hv:=AGc BI;obtain⟨q,b,eq,ev,hbS,t9,Vw⟩:=hit i _ hv;refine codeAny_builtin AIj ?_;refine wpAny_bind<|wpAny_pyNext_list_item Y P hv λO tK sb=>?_;have y:∀c o,c≠I->s.heap.get? c=some o->O.get? c=some o:=λc o hc e=>(sb.2 c hc).trans e;rw[ev];refine wpAny_bind<|wpAny_holding ?_;refine wpAny_holding ?_;have fL:=Oe Vw λo e=>y b o t9 e;have tW:IM prog w O S acc:=by obtain⟨o,es,H,t,kk,ho,Z,hd,T,hp⟩:=G;refine⟨o,es,H,t,kk,y S o B ho,Z,hd,T.move λk' c z=>?_,hp⟩;obtain⟨oI,n,uG,f⟩:=Y;refine Oe z λo' e=>y c o' (λzz=>?_) e;subst zz;obtain⟨o2,wC,n2,Q,uE,p,_⟩:=z;rw[n]at Q;cases Q;rw[f]at p;cases p
  refine wpAny_bind<|wpAny_pyHash_tuple hu fL ?_;refine AEi (s:={s with heap:=O,toks:=s.toks+(q.length+1)}) tW fL hu U λx r a L9=>?_;refine wpAny_pure ⟨plainId_quiet PyProof.Rows.F.plain_set_update_loop _,?_⟩;have D:∀c o,c≠S->O.get? c=some o->x.get? c=some o:=λc o hc e=>(a.2 c hc).trans e;refine ih (i+1) _ _ (by clear hi;grind) BI ?_ ?_ ?_ L9 (λj v hj=>?_) λh3 tk ht tY=>?_
  .split
   .exact Mb eQ
   .simp;lia
  .exact P.at λo e=>D l o RF<|y l o Vz e
  .exact tK.at λo e=>D I o (AGr B) e
  .obtain⟨q',h,e1,e2,e3,e4,e5⟩:=hit j v hj;exact⟨q',h,e1,e2,e3,e4,Oe e5 λo e=>D h o e3<|y h o e4 e⟩
  .have OE:kks.drop i=q::kks.drop (i+1):=by
    have MC:i<kks.length:=U
    rw[AHv MC];rw[AGF MC]at eq;rw[AGT eq]
   refine hR h3 tk (λc o c1 c2 e=>ht c o c1 c2<|D c o c1<|y c o c2 e) ?_;rw[OE];exact tY
end
end ST
set_option linter.all false
set_option maxRecDepth 100000
namespace ST
open PySem PySem.SetTable
section
variable{prog:Program}{w:World}{A:Around}{E:Value->Shared->Prop}{s:Shared}
noncomputable abbrev Ig(led:Bool):Obj:={cls:=.type "set",dict:=none,data:=.set #[] 0 (.fresh 0 0 led)}
theorem sJ{h:Heap}(led:Bool):FX prog w h #[] (.fresh 0 0 led) []:=
 by
 refine⟨rfl,.inl rfl,.nil,(λj z=>by cases z),rfl,(AFp:0*5<7*3),rfl,λi hh v e=>?_,AJi,λi j k e _=>?_⟩
 .simp at e
 .simp[SetTable.fresh]at e
set_option maxHeartbeats 3200000 in
theorem oq{l:Addr}{items:Array Value}{kks:List (List Int)}{Q:Value->Shared->Prop}(hh:A.handled=none)(hu:A.units+8<cLine)(f:s.heap.IsList l items)(x:kks.length=items.size)(a:items.size<=17) (hit:∀(j:Nat)(v:Value),items[j]? = some v->∃q b,kks[j]? = some q/\v=.ref b/\IsTupleKey (Cu prog w) s.heap q b) (h:∀(h':Heap)(tk:Nat),IM prog w h' s.heap.objs.size (EY [] kks)->(∀b o,s.heap.get? b=some o->h'.get? b=some o)->Q (.ref s.heap.objs.size) {s with heap:=h',toks:=tk}) : wpAny (model prog w) A (call (.type "set") [.ref l]) Q E s:=by
 obtain⟨c0,tl0,AFU⟩:=F.called_set.mro;have AFe:=F.called_set.made;have AFi:=F.called_set.sub;refine wpAny_call<|codeAny_of_tree ?_;show wpAny _ _ (callAny (.type "set") _) _ _ _;refine wpAny_pure ⟨Code.quiet_builtin _ AFq,codeAny_builtin F.entry_type_call ?_⟩;rw[Around.under_plain (weight_type_call_type "set" [.ref l] []) rfl];have nt0:=F.called_set.notType;have cc0:=F.called_set.canCreate;have ct0:=F.typeCall_set_1<|.ref l
 repeat (any_goals (first|assumption|wp_step))
 let made (led:Bool):Shared:={s with heap:=s.heap.push (Ig led)}
 refine codeAny_mono (code_set_new_1 (.ref l) (E:=E) (Q₁:=λD st=>∃led:Bool,D=.ref s.heap.objs.size/\st=made led) λled=>⟨led,rfl,rfl⟩) λr1 st1 Y=>?_;cases r1 with
 |error e=>exact Y
 |ok fl=>
  cases fl with
  |ret D=>
   obtain⟨led,rfl,rfl⟩:=Y;have B:(s.heap.push<|Ig led).get? s.heap.objs.size=some (Ig led):=Heap.get?_push_size _ rfl;have O:Shared.TypeIs (made led) (.ref s.heap.objs.size) "set":=⟨_,B,rfl⟩;have li0:=F.called_set.init.lookup;have bi0:=F.called_set.init.bind<|.ref s.heap.objs.size;show wpAny _ _ _ _ _ (made led)
   repeat (any_goals (first|assumption|wp_step))
   refine codeAny_mono (codeAny_call_builtin (R:=wants (λrv G=>rv=.none/\∃z tk,G={s with heap:=z,toks:=tk}/\IM prog w z s.heap.objs.size (EY [] kks)/\(∀b o,s.heap.get? b=some o->z.get? b=some o)) E)
    F.called_set.init.plain F.entry_set_init (check_set_init_1 O ?_)) λr2 G P=>?_
   .obtain⟨ol,T,C,H,Fd⟩:=id f;obtain⟨AFg,yP,AFh,zQ⟩:=ol;simp only at C Fd;subst C;subst Fd;have u9:(s.heap.push<|Ig led).get? l=some {cls:=.type "list",dict:=yP,data:=.seq items H,slots:=zQ}:=Heap.get?_push_of_some _ T;have AFX:=F.sub_list_set;have AFW:=F.sub_list_frozenset;have Ax:(Value.type "list" == Value.type "dict")=false:=AFp
    have n:(s.heap.push<|Ig led).IsList l items:=⟨_,u9,rfl,H,rfl⟩;unfold Builtin.«set.__init__» noKeywords Builtin.Frozenset.updateFrom;generalize tP:pyIter=PI
    wp_walk
    subst tP;refine wpAny_pyIter_list n ?_;refine wpAny_bind<|wpAny_runValue ?_;have t:l<s.heap.objs.size:=Heap.lt_size T;have p:(s.heap.push<|Ig led).objs.size=s.heap.objs.size+1:=Heap.size_push ..;have OC:s.heap.objs.size≠(s.heap.push<|Ig led).objs.size:=by rw[p];exact AGE<|Nat.lt_succ_self _
    have Vz:l≠(s.heap.push<|Ig led).objs.size:=by rw[p];exact AGE<|AIH t
    refine AEW (l:=l) (items:=items) (kks:=kks) (S:=s.heap.objs.size) (I:=(s.heap.push<|Ig led).objs.size) (by simp[hh]) (by simp;lia) OC (AGE t) Vz x a (items.size-0) 0 _ [] U (AHR _) (AHR _) (n.push _) ⟨_,Heap.get?_push_size _ rfl,rfl,rfl⟩ ?hS0 ?hit ?hR
    case hS0=>exact⟨_,_,_,_,[],Heap.get?_push_of_some _ B,⟨rfl,rfl,rfl⟩,rfl,sJ led,.nil⟩
    case hit=>
     intro j v hj;obtain⟨q,b,e1,e2,e3⟩:=hit j v hj;have y:b<s.heap.objs.size:=by obtain⟨o2,_,_,e4,_⟩:=e3;exact Heap.lt_size e4
     exact⟨q,b,e1,e2,AGE y,by rw[p];exact AGE<|AIH y,Oe e3 λo e=>Heap.get?_push_of_some _ (Heap.get?_push_of_some _ e)⟩
    case hR=>
     intro z tk ht Z;rw[List.drop_zero]at Z;refine wpAny_pure ?_;show wpAny _ _ (ret Value.none) _ _ _;refine wpAny_pure ⟨rfl,z,tk,rfl,Z,λb o e=>?_⟩;have y:=Heap.lt_size e;exact ht b o (AGE y) (by rw[p];exact AGE<|AIH y)<|Heap.get?_push_of_some _ (Heap.get?_push_of_some _ e)
   .cases r2 with
    |error e=>exact P
    |ok r0=>
     cases r0 with
     |ret rv=>
      obtain⟨rfl,z,tk,rfl,Z,K3⟩:=P
      repeat (any_goals (first|assumption|wp_step))
      exact h _ _ Z K3
     |_=>exact P.elim
  |_=>exact Y.elim
end
end ST
namespace L2
open PySem PySem.Spec PyProof.Rows
noncomputable def Gv(env:Env):Str×NameKind->Str×NameKind:=λ(n,k)=>if(k==NameKind.free&&env.scope.kind == .function&&env.kindOf n==some .cell)then(n,NameKind.cell)else(n,k)
theorem j5(env:Env)(y:Str×NameKind):(Gv env y).1=y.1:=by unfold Gv;dsimp only;split<;>rfl
theorem j6(env:Env)(y:Str×NameKind):((Gv env y).2=.cell/\y.2=.free)\/(Gv env y).2=y.2:=by
 unfold Gv;dsimp only;split
 .rename_i h;simp only[AFw,AHC]at h;exact .inl ⟨rfl,h.1.1⟩
 .exact .inr rfl
theorem iA{env:Env}:∀{names:List (Str×NameKind)}{x:Str},names.lookup x=some .free->(names.map<|Gv env).lookup x=some .cell\/(names.map<|Gv env).lookup x=some .free
 |[],_,h=>by simp at h
 |(n,k)::r,x,h=>by
  have Z:=@iA env r x;have q:=j5 env (n,k);have v:=j6 env (n,k);rw[AF6];generalize Gv env (n,k)=y at q v;obtain⟨m,j⟩:=y;obtain rfl:m=n:=q;cases p:x==m with
  |true=>
   simp only[AHQ,p]at h ⊢;cases h;rcases v with⟨z,_⟩|z
   .exact .inl<|AG5 some z
   .exact .inr<|AG5 some z
  |false=>
   simp only[AHQ,p]at h ⊢;exact Z h
theorem dy{env:Env}:∀{names:List (Str×NameKind)}{x:Str},((names.map<|Gv env).lookup x=some .cell\/(names.map<|Gv env).lookup x=some .free)->(x,NameKind.free)∈names\/names.lookup x=some .cell
 |[],_,h=>by simp at h
 |(n,k)::r,x,h=>by
  have p:=@dy env r x;have q:=j5 env (n,k);have v:=j6 env (n,k);rw[AF6]at h;generalize Gv env (n,k)=y at q v h;obtain⟨m,j⟩:=y;obtain rfl:m=n:=q;cases z:x==m with
  |true=>
   obtain rfl:x=m:=by simpa using z
   simp only[AHQ,z,AGg]at h ⊢;rcases v with⟨_,rfl⟩|rfl
   .exact .inl AF3
   .rcases h with rfl|rfl
    .exact .inr rfl
    .exact .inl AF3
  |false=>
   simp only[AHQ,z]at h ⊢;rcases p h with e|e
   .exact .inl<|AFz _ e
   .exact .inr e
theorem QU:∀(names:List<|Str×NameKind)(n:Nat)(acc:List<|Str×Addr),cellsFrom n names acc=cellsFrom n names []++acc
 |[],_,_=>rfl
 |(x,k)::r,n,acc=>by
  unfold cellsFrom;split
  .simp only[QU r (n+1) ((x,n)::acc),QU r (n+1) [(x,n)],AII];rfl
  .exact QU r n acc
theorem Uj:∀(names:List<|Str×NameKind)(n:Nat)(acc:List<|Str×Addr){x:Str}{c:Addr},(x,c)∈cellsFrom n names acc->(x,c)∈acc\/(x,NameKind.cell)∈names
 |[],_,_,_,_,h=>.inl h
 |(y,k)::r,n,acc,x,c,h=>by
  unfold cellsFrom at h;split at h
  .rename_i q;rcases Uj r _ _ h with z|z
   .rcases AF4.mp z with e|e
    .right;have v:x=y:=AG5 Prod.fst e;have p:=by simpa using q
     rw[v,p];exact AF3
    .exact .inl e
   .exact .inr<|AFz _ z
  .rcases Uj r _ _ h with z|z
   .exact .inl z
   .exact .inr<|AFz _ z
theorem MT{l m:List (Str×Addr)}{x:Str}{c:Addr}(h:(l++m).lookup x=some c):l.lookup x=some c\/(l.lookup x=none/\m.lookup x=some c):=by
 rw[AJD]at h;cases e:l.lookup x with
 |none=>rw[e]at h;exact .inr ⟨rfl,h⟩
 |some d=>rw[e]at h;exact .inl h
theorem AEj{M:Model}{A:Around}{E:Value->Shared->Prop}{s:Shared}{scope:Scope}{globals:Addr}{z:List (Str×Addr)}{qual:Str}{outer:Env}{Q:Env->Shared->Prop} (y:Q {scope:=scope,locals:=s.heap.objs.size,globals:=globals,cells:=cellsFrom (s.heap.objs.size+1) scope.names []++z,qual:=qual,func:=none,code:=outer.code,frame:=outer.frame,builtins:=outer.builtins} {s with heap:=pushCells (s.heap.push {cls:=.type "dict",data:=.dict #[]}) scope.names}) : wpAny M A (newFunctionEnv scope globals z [] qual none .none<|some outer) Q E s:=by simp only[newFunctionEnv,Option.isSome_some,AHl];refine wpAny_bind<|wpAny_alloc ?_;refine wpAny_bind (wpAny_layCells _ (λname kind cells=>by cases q:kind==NameKind.cell<;>simp[q]) _ _ _ _ ?_);rw[show({s with heap:=s.heap.push {cls:=.type "dict",data:=.dict #[]}}:Shared).heap.objs.size=s.heap.objs.size+1 from Heap.size_push ..,QU];exact wpAny_bind<|wpAny_pure<|wpAny_pure y
theorem Lu{cells:List (Str×Addr)}{x:Str}{c:Addr}(hc:cells.lookup x=some c):∀{l:List (Str×NameKind)}{acc:List (Str×Addr)},((x,NameKind.free)∈l\/acc.lookup x=some c)->(D7 cells l acc).lookup x=some c
 |[],acc,h=>by
  rcases h with h|h
  .contradiction
  .exact h
 |(n,k)::r,acc,h=>by
  unfold D7;by_cases z:(k==NameKind.free)=true
  .rw[AFu z];by_cases hn:x=n
   .subst hn;rw[hc];exact Lu hc<|.inr<|by simp[AHQ]
   .have y:(x==n)=false:=by simpa using hn
    have h':(x,NameKind.free)∈r\/acc.lookup x=some c:=by
     rcases h with h|h
     .rcases AF4.mp h with e|e
      .exact absurd (AG5 Prod.fst e) hn
      .exact .inl e
     .exact .inr h
    cases hd:cells.lookup n with
    |none=>exact Lu hc h'
    |some d=>
     refine Lu hc ?_;rcases h' with e|e
     .exact .inl e
     .right;simp only[AHQ,y];exact e
  .rw[AF0 z];refine Lu hc ?_;rcases h with h|h
   .rcases AF4.mp h with e|e
    .have:k=.free:=(AG5 Prod.snd e).symm;rw[this]at z;exact absurd rfl z
    .exact .inl e
   .exact .inr h
def CI(X:Cx)(Nb:List Str)(scope:Scope)(C:Addr)(s:Shared)(H:Hp)(fp:List Addr)(AB:List<|Addr×Obj):Cx:=
 {X with N:=Nb,B5:=s,AO:=H,env:=compEnvC scope (cellsFrom (C+1) scope.names []++D7 X.env.cells scope.names []) C X.env,outer:=X.stack,stack:=X.stack,ex:=fp,fn:=λx=>scope.names.lookup x==some NameKind.cell,pn:=X.pn++AB,xe:=λ_ _=>False}
def HG(X:Cx)(z:List Expr)(t:TT):Prop:=
 ∀(AB:List<|Addr×Obj)(s:Shared)(σ:St)(H:Hp)(Q:Bool->Hp->Prop),Inv X AB σ H s->t σ H Q->wpAny (model X.prog X.w) X.A (forIn z true λc r=>if r=true then do let ok<-isTrue c X.env<|eval c X.env;pure (ForInStep.yield ok)else pure (ForInStep.yield r)) (TP X AB σ Q) X.xe s
theorem AAN{X:Cx}:HG X [] (λ_ H Q=>Q true H):=λ_ _ _ H _ I h=>wpAny_tests_nil ⟨H,I,h⟩
theorem AAO{X:Cx}{c:Expr}{t:TT}(h:PT X c t):HG X [c] t:=λAB s σ H Q I q=>wpAny_tests_one<|h AB s σ H Q I q
structure HA(X:Cx)(scope:Scope)(Nb:List Str)(own:Nat)(cap:List Nat):Prop where
 kind:scope.kind=.function
 cell:∀y∈scope.names,y.2=.cell->scope.names.lookup y.1=some .cell
 loc:∀x∈scope.names,x.2=.local->scope.names.lookup x.1=some .local
 free:∀y∈scope.names,y.2=.free->X.env.kindOf y.1=some .cell\/X.env.kindOf y.1=some .free
 len:Nb.length=own+cap.length
 cap:∀k j,cap[k]? = some j->∃x,Nb[own+k]? = some x/\X.N[j]? = some x/\scope.names.lookup x=some .free
noncomputable def GJ(own:Nat)(cap:List Nat)(σ:St):St:=List.replicate own none++cap.map λj=>(σ[j]?).join
theorem o5{own:Nat}{cap:List Nat}{σ:St}{i:Nat}{v:V}(h:(GJ own cap σ)[i]? = some (some v)):∃k j,i=own+k/\cap[k]? = some j/\σ[j]? = some (some v):=by
 unfold GJ at h;by_cases hi:i<own
 .rw[AGX (by simpa using hi),AGz]at h;split at h<;>simp at h
 .rw[AGa (by simpa using hi),AG6]at h;simp only[AHU]at h;cases z:cap[i-own]? with
  |none=>rw[z]at h;simp at h
  |some j=>
   rw[z]at h;simp only[AGu,AGg]at h;refine⟨i-own,j,AFo,z,?_⟩;cases hs:σ[j]? with
   |none=>rw[hs]at h;simp at h
   |some o=>rw[hs]at h;simp at h;rw[h]
section
variable{X:Cx}{tg iter elt:Expr}{ifs:List Expr}{scope:Scope}{pos:Pos}{Nb:List Str}{own:Nat}{cap:List Nat}{wi:TI}{g:TG}{ti:TT}{te:TE}
def kr(own:Nat)(cap:List Nat)(g:TG)(ti:TT)(te:TE)(J:It)(σ:St)(p:Hp)(Q:VK):Prop:=∀D,p D=none->∃W:Nat->Nat->St->Hp->Prop,(∃m,W 0 m (GJ own cap σ)<|upd p D<|.lst [])/\∀i m Z H',W i m Z H'->(J.stop i H'/\Q (.ref D) H')\/(J.go i H'/\∃N:St->Hp->Prop,(∀Y z,N Y z->∃O,O<m/\W (i+1) O Y z)/\
  ∀x z,J.TZ i H' x z->g x Z z λy R=>ti y R λb P=>if b=true then te y P λv F=>∃q,F D=some (.lst q)/\q.length<sizeLine/\N y (upd F D<|.lst<|q ++ [v])else N y P)
theorem PC{C:Addr}{x:Str}{c:Addr}(h:(cellsFrom (C+1) scope.names []).lookup x=some c):C<c:=by
 let z:Heap:={objs:=Array.replicate (C+1) default}
 have ok:=cellsFrom_ok scope.names z (C+1) [] ⟨λ_ _ hm=>(nomatch hm),List.Pairwise.nil⟩ (by simp[z]);rw[show z.objs.size=C+1 by simp[z]]at ok;exact(ok.empty x c<|AGx h).2
theorem own_apart{C:Addr}:(cellsFrom (C+1) scope.names []).Pairwise λx y=>x.2≠y.2:=by
 let z:Heap:={objs:=Array.replicate (C+1) default}
 have ok:=cellsFrom_ok scope.names z (C+1) [] ⟨λ_ _ hm=>(nomatch hm),List.Pairwise.nil⟩ (by simp[z]);rw[show z.objs.size=C+1 by simp[z]]at ok;exact ok.apart
theorem ZO{AB:List (Addr×Obj)}{s:Shared}{σ:St}{H:Hp}(I:Inv X AB σ H s){l:List (Str×NameKind)}{x:Str}{c:Addr}(h:(D7 X.env.cells l []).lookup x=some c):c<s.heap.objs.size:=by obtain⟨v,o,ho,_⟩:=I.cell x c (IW (λ_ _ z=>by contradiction) h);exact Heap.lt_size ho
theorem p8{C:Addr}{s:Shared}{H:Hp}{fp:List Addr}{AB:List (Addr×Obj)}{σ:St}(O:HA X scope Nb own cap)(I:Inv X AB σ H s)(f:∀b∈fp,GG X AB H b)(v:s.heap.objs.size<=C)(P:∀b∈fp,b<s.heap.objs.size) : (CI X Nb scope C s H fp AB).Ok:=by
 refine⟨I.ok.mod,O.kind,I.ok.glob,I.ok.blt,v,λx y c D Y=>?_,λx Q=>?_,λx c h Y=>?_,I.ok.hd,I.ok.frames,.inl rfl,λb q=>⟨?_,λx c h=>?_⟩,I.bs,AGZ I.ok.FZ I.sz,λb o e q=>?_,λb q z=>?_,I.stack,I.X3⟩
 .rcases MT D with p|⟨_,p⟩<;>rcases MT Y with Z|⟨_,Z⟩
  .exact name_of_addr own_apart (AGx p)<|AGx Z
  .exact absurd (PC p) (AJK.mpr<|AGZ (AH0<|ZO I Z) v)
  .exact absurd (PC Z) (AJK.mpr<|AGZ (AH0<|ZO I p) v)
  .exact I.ok.inj x y c (IW (λ_ _ z=>by cases z) p)<|IW (λ_ _ z=>by cases z) Z
 .show ∃c,(cellsFrom (C+1) scope.names []++D7 X.env.cells scope.names []).lookup x=some c;rw[AJD];rcases dy Q with hm|hm
  .obtain⟨c,hc⟩:=I.ok.has x<|O.free _ hm rfl;cases (cellsFrom (C+1) scope.names []).lookup x with
   |none=>exact⟨c,Lu hc<|.inl hm⟩
   |some d=>exact⟨d,rfl⟩
  .obtain⟨c,hc⟩:=QT hm;exact⟨c,by rw[hc];rfl⟩
 .have Q:=by simpa[CI]using h
  obtain⟨c',F⟩:=QT Q;rcases MT Y with z|⟨z,_⟩
  .exact AGZ v<|AH0<|PC z
  .rw[F]at z;contradiction
 .exact AGE<|AGM (P b q) v
 .rcases MT h with z|⟨_,z⟩
  .exact AGr<|AGE<|AJ3 (AGM (P b q) v)<|PC z
  .exact(f b q).2.2.2.2.1 x c (IW (λ_ _ z=>by contradiction) z)
 .rcases(f b q).2.2.2.1 with z|z
  .exact I.ok.JG b o e z
  .exact absurd (AGM (Heap.lt_size e)<|AGZ I.ok.FZ z) (AHq _)
 .rcases AF4.mp (I.Pb b z)with e|e
  .exact(f b q).2.1 e
  .exact(f b q).2.2.1 e
theorem p7{C:Addr}{s s':Shared}{H H':Hp}{fp:List Addr}{AB:List (Addr×Obj)}{σ:St}{m:Str->Option Value}(O:HA X scope Nb own cap)(I:Inv X AB σ H s)(ok:(CI X Nb scope C s H fp AB).Ok) (D:s'.os=s.os) (F:AllBare s'.gens) (u:Un (Cp X.stack) fp H H' s.heap s'.heap) (k:∀b o,s.heap.get? b=some o->s'.heap.get? b=some o) (R:s.heap.objs.size<=C) (hn:s'.heap.Ns C m) (B:H' C=none) (Z:∀b o,s.heap.get? b=some o->H b=none->H' b=none) (AZ:Bl X.prog X.w H' s'.heap) (Y:∀x c,(cellsFrom (C+1) scope.names []).lookup x=some c->s'.heap.IsCell c none/\H' c=none) : Inv (CI X Nb scope C s H fp AB) [] (GJ own cap σ) H' s':=by
 refine⟨ok,D,F,u,⟨m,hn,λi x v G S h3=>?_⟩,λx c h=>?_,B,λx c h=>?_,λp hp=>?_,AZ,?_⟩
 .obtain⟨kk,j,rfl,T,hs⟩:=o5 S;obtain⟨y,E,t,e3⟩:=O.cap kk j T;have f:=by have Q:Nb[own+kk]? = some x:=G;rw[E]at Q;exact AGT Q
  subst f;have hm:=AGx e3;have P:=O.free _ hm rfl;have a:Ez X.env.scope y:=by
   rcases P with z|z
   .exact .inr<|.inl z
   .exact .inr<|.inr z
  obtain⟨m0,hn0,hl⟩:=I.loc;obtain⟨u0,r,l⟩:=hl j y v t hs a;refine⟨u0,r,?_⟩;rcases l with⟨l,_⟩|⟨_,c,hc,RA⟩
  .rcases P with z|z<;>(rw[l]at z;contradiction)
  .refine .inr ⟨iA e3,c,?_,RA.keeps k⟩;show(cellsFrom (C+1) scope.names []++D7 X.env.cells scope.names []).lookup y=some c;rw[AJD];cases eo:(cellsFrom (C+1) scope.names []).lookup y with
   |none=>exact Lu hc<|.inl hm
   |some d=>
    rcases Uj _ _ _ (AGx eo)with z|z
    .exact nomatch z
    .have:=O.cell _ z rfl;rw[e3]at this;contradiction
 .rcases MT h with z|⟨_,z⟩
  .exact⟨_,(Y x c z).1⟩
  .obtain⟨v,z⟩:=I.cell x c (IW (λ_ _ z=>by cases z) z);exact⟨v,z.keeps k⟩
 .rcases MT h with z|⟨_,z⟩
  .exact(Y x c z).2
  .have hc:=IW (λ_ _ z=>by cases z) z;obtain⟨v,o,ho,_⟩:=I.cell x c hc;exact Z c o ho<|I.EB x c hc
 .have F4:p∈X.pn++AB:=by have:p∈(X.pn++AB) ++ []:=hp;simpa using this
  obtain⟨e,n,ne,nf,d⟩:=I.pin p F4;refine⟨k _ _ e,Z _ _ e n,AGE<|AGM (Heap.lt_size e) R,λz=>?_,d⟩;rcases AF4.mp (I.Pb p.1 z)with q|q
  .exact ne q
  .exact nf q
 .show(GJ own cap σ).length=Nb.length;rw[O.len];simp[GJ]
theorem ZX{AB:List (Addr×Obj)}{s:Shared}{σ:St}{H:Hp}{Q:VK}{it:Addr}{fp:List Addr}{tn:Nat->Heap->Prop}{J:It}{E:Value->Shared->Prop}{RR:Value->Addr->Result->Shared->Prop}(hc:X.calm=true)(O:HA X scope Nb own cap) (hg:∀C s H fp AB,PG (CI X Nb scope C s H fp AB) tg g) (ht:∀C s H fp AB,HG (CI X Nb scope C s H fp AB) ifs ti) (he:∀C s H fp AB,PE (CI X Nb scope C s H fp AB) elt te) (I:Inv X AB σ H s) (T:Turn X.prog X.w X.K tg J fp it tn) (st:tn 0 s.heap) (f:∀b∈fp,GG X AB H b) (hW:kr own cap g ti te J σ H Q) (tU:∀(D C:Addr)(s':Shared)(H':Hp)(m:Str->Option Value),Inv X AB σ H' s'->s'.heap.Ns C m->GG X AB H' C->Q (.ref D) H'->RR (.ref D) C (.ok .next) s') : wpAny (model X.prog X.w) X.A (newList []) (λacc KU=>wpAny (model X.prog X.w) X.A (newFunctionEnv scope X.env.globals (D7 X.env.cells scope.names []) [] X.env.qual none .none<|some X.env) (λZN S8=>
  codeAny (model X.prog X.w) X.A (.compStart (.ListComp elt [⟨tg,iter,ifs,0⟩] scope pos) 0 (.ref it) acc {ZN with scope:=relabel scope X.env}) (RR acc ZN.locals) S8) E KU) E s:=by
 have OI:∀b∈fp,b<s.heap.objs.size:=λb z=>by obtain⟨o,e,_⟩:=T.obj _ _ st b z;exact Heap.lt_size e
 refine wpAny_newObj_type<|AEj ?_;dsimp only;have hD:=I.AZ.fresh<|AF5 _;obtain⟨W,⟨m0,w0⟩,turn⟩:=hW s.heap.objs.size hD;generalize Vk:s.heap.push {cls:=.type "list",dict:=none,data:=.seq ([]).toArray}=H2;have fV:=(Heap.Ns.new H2<|.type "dict").keeps<|pushCells_keeps scope.names _;have Vn:=cellsFrom_ok scope.names (H2.push {cls:=.type "dict",data:=.dict #[]}) (H2.objs.size+1) [] ⟨λ_ _ hm=>(nomatch hm),List.Pairwise.nil⟩ (by rw[Heap.size_push];exact AF5 _);rw[Heap.size_push]at Vn;have XI:∀b o,H2.get? b=some o->(pushCells (H2.push {cls:=.type "dict",data:=.dict #[]}) scope.names).get? b=some o:=λb o e=>pushCells_keeps _ _ b o<|Heap.get?_push_of_some _ e;generalize hh1:pushCells (H2.push {cls:=.type "dict",data:=.dict #[]}) scope.names=J2 at fV Vn XI ⊢;have hC:H2.objs.size=s.heap.objs.size+1:=by rw[<-Vk,Heap.size_push]
 have P:s.heap.objs.size<=H2.objs.size:=by rw[hC];exact AJh _
 have tI:s.heap.objs.size≠H2.objs.size:=by rw[hC];exact AGE<|Nat.lt_succ_self _
 have old:=λb o e=>XI b o<|Vk ▸ Heap.get?_push_of_some _ e;have nU:=XI _ _<|Vk ▸ Heap.get?_push_size _ rfl;have u7:Bl X.prog X.w (upd H s.heap.objs.size<|.lst []) J2:=I.AZ.laid old (AF5 _) ⟨AHR _,[],0,.nil,nU⟩;have ok:=p8 O I f P OI;have fC:∀{H':Hp},H' H2.objs.size=none->GG X AB H' H2.objs.size:=λhn=>I.Vb P hn;have Ib:∀tk:Nat,Inv (CI X Nb scope H2.objs.size s H fp AB) [] (GJ own cap σ) (upd H s.heap.objs.size<|.lst []) {s with heap:=J2,toks:=tk}:=λtk=>
  p7 O I ok rfl I.bare (Un.laid old (AF5 _) hD) old P fV (by rw[BH<|AGr tI];exact I.AZ.fresh P) (λb o e n=>by rw[BH<|AGE<|Heap.lt_size e];exact n) u7 (λx c e=>⟨(Vn.empty x c<|AGx e).1,by have BI:=PC e;rw[BH<|AGr<|AGE<|AIg P BI];exact I.AZ.fresh<|AGZ P<|AH0 BI⟩)
 have sH:∀b∈fp,(upd H s.heap.objs.size<|.lst []) b=none:=λb z=>by rw[BH<|AGE<|OI b z];exact(f b z).1
 have X2:∀{H':Hp},(∀b∈fp,H' b=none)->∀b∈fp,GG (CI X Nb scope H2.objs.size s H fp AB) [] H' b:=λhn b z=>by
  refine⟨hn b z,(ok.Jj b z).1,ok.Ii b z,.inl z,(ok.Jj b z).2,λp hp=>?_⟩;have F4:p∈X.pn++AB:=by have:p∈(X.pn++AB) ++ []:=hp;simpa using this
  exact(f b z).2.2.2.2.2 p F4
 have uI:∀b∈fp,(b∈X.ex\/X.B5.heap.objs.size<=b)/\b≠X.env.locals/\(∀x c,X.env.cells.lookup x=some c->c≠b)/\∀p∈X.pn++AB,p.1≠b:=λb z=>by obtain⟨_,f1,_,f3,f4,f5⟩:=f b z;exact⟨f3,f1,f4,f5⟩
 have Z:∀tk:Nat,codeAny (model X.prog X.w) X.A (.compLoop (.ListComp elt [⟨tg,iter,ifs,0⟩] scope pos) 0 (.ref it) (.ref s.heap.objs.size)<|compEnvC scope (cellsFrom (H2.objs.size+1) scope.names []++D7 X.env.cells scope.names []) H2.objs.size X.env) (RR (.ref s.heap.objs.size) H2.objs.size) {s with heap:=J2,toks:=tk}:=λtk=>by
  refine pV (λn s'=>∃i B H',Inv (CI X Nb scope H2.objs.size s H fp AB) [] B H' s'/\tn i s'.heap/\(∀b∈fp,H' b=none)/\W i n B H') ?_ m0 ⟨0,_,_,Ib tk,T.keep _ _ _ st λb _ o e=>old b o e,sH,w0⟩;rintro n s3 ⟨i,t,a,I3,FR,N7,w3⟩;rcases turn i n t a w3 with⟨stop,qn⟩|⟨go,N,hN,step⟩
  .refine Ag (T.done (CI X Nb scope H2.objs.size s H fp AB) rfl rfl rfl hc i [] s3 t a _ I3 (X2 N7) FR stop) ?_;rintro r s4 ⟨hr,F⟩;subst hr;obtain⟨m4,uw,_⟩:=F.loc;exact tU _ _ s4 a m4 (I.ZK F.os F.base F.AZ F.bare uI) uw (fC F.free) qn
  .refine Ag (T.item (CI X Nb scope H2.objs.size s H fp AB) rfl rfl rfl hc i [] s3 t a _ I3 (X2 N7) FR go) ?_;rintro r s4 ⟨u,hr,h4⟩;subst hr;refine Ag h4 ?_;rintro _ s5 ⟨x,H5,I5,r5,y5,GA,Vc⟩;have UH:=I5.pinned (X2 Vc)<|T.obj _ _ GA;refine Ag (hg H2.objs.size s H fp AB _ s5 t H5 x u _ UH r5<|step x H5 y5) ?_;rintro _ s6 ⟨h,H6,I6,q6⟩;refine Ag (ht H2.objs.size s H fp AB _ s6 h H6 _ I6 q6) ?_;rintro b s7 ⟨H7,I7,q7⟩;have q:∀{G:St}{Y:Hp}{R:Shared},Inv (CI X Nb scope H2.objs.size s H fp AB) ([]++PJ fp s5.heap) G Y R->N G Y->∃m,m<n/\∃i B H',Inv (CI X Nb scope H2.objs.size s H fp AB) [] B H' R/\tn i R.heap/\(∀b∈fp,H' b=none)/\W i m B H':=λ{G Y R} S n8=>by obtain⟨m',hm,w8⟩:=hN G Y n8;refine⟨m',hm,i+1,G,Y,S.TN,T.keep _ _ _ GA λb z o e=>(S.pin (b,o)<|AGo _<|AGo _<|SE z e).1,λb z=>?_,w8⟩;obtain⟨o,e,d⟩:=T.obj _ _ GA b z;exact(S.pin (b,o)<|AGo _<|AGo _<|SE z e).2.1
   cases b with
   |false=>
    exact q I7 q7
   |true=>
    refine Ag (he H2.objs.size s H fp AB _ s7 h H7 _ I7 q7) ?_;rintro y R ⟨v,Y,S,r8,ys,e8,z8,n8⟩;refine Ag (iX _ R h Y (.ref s.heap.objs.size) [v] (.ref s.heap.objs.size) [y] (λ_ H9=>N h H9) S rfl (.cons r8 .nil) ⟨_,ys,v,rfl,rfl,e8,z8,n8⟩) (by rintro _ s9 ⟨_,H9,I9,_,n9⟩;exact q I9 n9)
 refine codeAny_compStart_list (Z _) ?_;exact T.self _ 0 _ _ _ (T.keep _ _ _ st λb _ o e=>old b o e)<|Z _
def YD(own:Nat)(cap:List Nat)(wi:TI)(g:TG)(ti:TT)(te:TE):TE:=λσ H Q=>wi σ H λJ z=>kr own cap g ti te J σ z Q
theorem zo(hc:X.calm=true)(O:HA X scope Nb own cap)(hi:PI X tg iter wi)(z:∀C s H fp AB,PG (CI X Nb scope C s H fp AB) tg g)(v:∀C s H fp AB,HG (CI X Nb scope C s H fp AB) ifs ti)(he:∀C s H fp AB,PE (CI X Nb scope C s H fp AB) elt te) (hs:∀x,foldedSetIterable iter X.env x=pure x:=by intro _;rfl):PE X (.ListComp elt [⟨tg,iter,ifs,0⟩] scope pos)<|YD own cap wi g ti te:=by intro AB s σ H Q I h;refine wpAny_comprehension_free rfl hs (ZP λy p Z=>I.ok.has _<|O.free y p Z) O.kind O.loc<|Ag (hi AB s σ H _ I h) λxv s1 Y=>Ag Y λRc s2 P=>?_;obtain⟨it,fp,tn,J,H2,rfl,F,T,R,f2,B⟩:=P;refine ZX hc O z v he F T R f2 B λD C s' H' m G hn fC q=>?_;refine⟨m,hn,λh' S=>⟨.ref D,H',G.turned (λb o E e=>S.extBut b o E e) fC.1 fC.2.1 fC.2.2.2.1 fC.2.2.2.2.1 fC.2.2.2.2.2,rfl,q⟩⟩
theorem AAf{y:Str}{z p:Pos}{i:Nat}(Z:X.N.Nodup)(Y:X.N[i]? = some y)(Q:Loc X.env.scope y)(hc:X.calm=true)(O:HA X scope Nb own cap)(hi:PI X tg iter wi)(P:∀C s H fp AB,PG (CI X Nb scope C s H fp AB) tg g)(F:∀C s H fp AB,HG (CI X Nb scope C s H fp AB) ifs ti)(he:∀C s H fp AB,PE (CI X Nb scope C s H fp AB) elt te) (R:swapsWith (.ListComp elt [⟨tg,iter,ifs,0⟩] scope pos) (some<|.Name y z) p.line X.env=pure true:=by rfl) (hs:∀x,foldedSetIterable iter X.env x=pure x:=by intro _;rfl) (B:X.fn y=true\/X.env.scope.names.lookup y=some .local:=by first|exact .inl rfl|exact .inr rfl|assumption) : PS X (.Assign [.Name y z] (.ListComp elt [⟨tg,iter,ifs,0⟩] scope pos) p)<|Pd (YD own cap wi g ti te)<|N8 i:=by
 intro AB s σ H D I h;rw[exec_Assign_Name_used _ _ _ _ R];refine wpAny_bind<|wpAny_standAt<|wpAny_bind ?_;refine wpAny_bind (wpAny_mono (wpAny_comprehension_free rfl hs (ZP λy G S=>I.ok.has _<|O.free y G S) O.kind O.loc
  (Ag (hi AB s σ H _ I h) λxv s1 E=>Ag E λRc s2 n=>?_)) (λ_ s' t=>wpAny_pure<|wpAny_pure t) λ_ _ e=>e)
 obtain⟨it,fp,tn,J,H2,rfl,f,T,KR,f2,hW⟩:=n;refine ZX hc O P F he f T KR f2 hW λD' C s' H' m I' hn fC q=>?_;refine wpAny_assign_Name<|kZ I' Z Y Q (v:=.ref D') rfl ?_ B;rintro KQ nH ⟨a,OQ,ha⟩;have tH:C≠a:=by
  rcases ha with rfl|ha
  .exact fC.2.1
  .exact AGr<|fC.2.2.2.2.1 y a ha
 refine⟨m,hn.sameBut OQ tH,λh' K8=>?_⟩;exact⟨_,H',nH.turned (λb o hb e=>K8.extBut b o hb e) fC.1 fC.2.1 fC.2.2.2.1 fC.2.2.2.2.1 fC.2.2.2.2.2,q⟩
end
theorem Bx.has{P:Program}{w:World}{H:Hp}{h:Heap}{a:Addr}{o:HO}(x:Bx P w H h a o):∃z,h.get? a=some z:=by
 cases o with
 |lst xs=>obtain⟨_,_,_,_,e⟩:=x;exact⟨_,e⟩
 |tup xs=>obtain⟨_,_,_,z,e,_⟩:=x;exact⟨_,e⟩
 |dK AL=>obtain⟨_,_,_,_,o,_,_,e,_⟩:=x;exact⟨_,e⟩
 |dT AL=>obtain⟨_,_,_,_,o,_,_,e,_⟩:=x;exact⟨_,e⟩
 |set S n=>obtain⟨o,_,_,_,e,_⟩:=x;exact⟨_,e⟩
 |ins C dx fs=>obtain⟨_,_,_,e,_⟩:=x;exact⟨_,e⟩
 |own y=>obtain⟨_,e⟩:=x;exact⟨_,e⟩
 |xd fs=>obtain⟨_,⟨_,_,_,e,_⟩,_⟩:=x;exact⟨_,e⟩
 |Sl lo hi=>obtain⟨_,_,_,e⟩:=x;exact⟨_,e⟩
 |EO z u=>obtain⟨e,_⟩:=x;exact⟨_,e⟩
 |KW ps=>exact⟨_,(show h.get? a=some _ from x)⟩
 |met f y=>exact⟨_,(show h.get? a=some _ from x)⟩
 |ext φ=>obtain⟨_,⟨_,e⟩,_⟩:=x;exact⟨_,e⟩
structure QF(P:Program)(w:World)(outer:List Env)(H:Hp)(s:Shared)(ea:Addr)(cls:Value)(B:Heap)(H':Hp)(s':Shared):Prop where
 os:s'.os=s.os
 bare:AllBare s'.gens
 un:Un (Cp outer) [] H H' s.heap s'.heap
 AZ:Bl P w H' s'.heap
 Qz:∃a0,Heap.FlyingW B outer ea cls a0 s'.heap
 nw:s.heap.get? ea=none
 he:H' ea=none
 b1:∀b o,s.heap.get? b=some o->b∉Cp outer->∃o',B.get? b=some o'/\(H b=none->o'=o)
 b2:∀b o,(H' b).isSome=true->s'.heap.get? b=some o->B.get? b=some o
def ID(P:Program)(w:World):Ea:=λouter H s E e s'=>∃ea cls B H',e=.ref ea/\QF P w outer H s ea cls B H' s'/\E cls none H'
section
variable{P:Program}{w:World}{outer:List Env}{H H':Hp}{s s':Shared}{ea:Addr}{cls:Value}{B Eh:Heap}
theorem QF.then(F:QF P w outer H s ea cls B H' s')(st:B.StaysIn Eh)(us:s'.heap.UpToSlots Eh):Un (Cp outer) [] H H' s.heap Eh/\Bl P w H' Eh:=by
 have slot:∀b o,s.heap.get? b=some o->H b=none->b∈Cp outer->∃sl,Eh.get? b=some {o with slots:=sl}:=λb o e n z=>by obtain⟨sl,y⟩:=F.un.slot b o e n z AFn;obtain⟨a0,p⟩:=F.Qz;obtain⟨_,o',v,Z⟩:=p.2.2.1.mem z;rw[y]at v;cases v;obtain⟨Y,e3⟩:=us b _ y Z;exact⟨Y,e3⟩
 refine⟨⟨λb o e n z _=>?_,λb o e n z _=>slot b o e n z,λb o e n _=>F.un.free b o e n AFn,λb o e _=>?_,F.un.Dy,F.un.ER,F.un.FT⟩,λa o e=>?_⟩
 .obtain⟨o',y,v⟩:=F.b1 b o e z;have:=v n;subst this;exact st _ _ y
 .by_cases z:b∈Cp outer
  .obtain⟨a0,p⟩:=F.Qz;obtain⟨_,o',v,Z⟩:=p.2.2.1.mem z;obtain⟨Y,e3⟩:=us b _ v Z;exact⟨_,e3⟩
  .obtain⟨o',y,_⟩:=F.b1 b o e z;exact⟨_,st _ _ y⟩
 .refine(F.AZ a o e).JL (λb u z q=>st _ _<|F.b2 b u ?_ q) (λ_ q=>q) λ_ _ q=>q;rcases z with rfl|z
  .rw[e];rfl
  .rw[z];rfl
end
section
variable{X:Cx}{AB:List (Addr×Obj)}{σ:St}{H H':Hp}{s s':Shared}{ea:Addr}{cls:Value}{B h':Heap}{vs:List Value}{M:Model}
structure NS(X:Cx):Prop where
 Es:X.stack=X.env::X.outer
 fr:X.env.frame=some X.env.locals
 ex:X.ex=[]
theorem Inv.O9(I:Inv X AB σ H s){b:Addr}{o:Obj}(e:X.B5.heap.get? b=some o)(y:b∉X.fs):b∉Cp X.stack:=λz=>by
 rcases AF4.mp (I.Pb b z)with q|q
 .exact absurd (AGM (Heap.lt_size e) I.ok.above) (by rw[q];exact AHq _)
 .exact y q
theorem Inv.old(I:Inv X AB σ H s)(d:X.ex=[]){b:Addr}(e:s.heap.get? b=none):X.B5.heap.get? b=none:=by
 cases q:X.B5.heap.get? b with
 |none=>rfl
 |some o=>
  obtain⟨o',z⟩:=I.base.there b o q (by rw[d];simp);rw[e]at z;contradiction
theorem ACn{E:XK}{P:Value->Shared->Prop}(d:NS X)(I:Inv X AB σ H s)(hm:Heap.MadeExcOf s.heap h' ea cls vs)(D:E cls none H) : wpAny M X.A (leaving X.env<|.ref ea) (λ_ F=>ID X.prog X.w X.outer X.AO X.B5 E (.ref ea) F) P {s with heap:=h'}:=by
 have R:∀env∈X.stack,∀a,env.frame=some a->a∈Cp X.stack:=λenv he a ha=>AIf.mpr ⟨env,he,ha⟩;have G:X.A.frames=some (X.env::X.outer):=by rw[<-d.Es];exact I.ok.frames
 have Z:∀b,b∉X.ex:=λb z=>by rw[d.ex]at z;nomatch z
 have LX:∀b,(H b).isSome=true->b∉Cp X.stack:=λb z q=>by rw[I.X3 b q]at z;contradiction
 have S:s.heap.FunFrames (PySem.W.hideAll s.heap<|Cp X.stack) (X.env::X.outer):=by rw[<-d.Es];exact PySem.W.funFrames_hide I.stack R
 refine wpAny_leaves_madeW G d.fr (λb o q=>PySem.W.of_hideAll _ q) S hm λQ t Y x2 x3 T=>?_;have Ff:∀b o,s.heap.get? b=some o->b∉Cp X.stack->(PySem.W.hideAll s.heap<|Cp X.stack).get? b=some o:=λb o e y=>AJu _ e y;have slot:∀b o,s.heap.get? b=some o->b∈X.fs->∃sl,Q.get? b=some {o with slots:=sl}:=λb o e y=>by obtain⟨_,o',v,C⟩:=I.EC.mem y;rw[e]at v;cases v;exact T b _ (hm.keeps _ _ e) C
 have f:∀b,(H b).isSome=true->∃o,s.heap.get? b=some o:=λb z=>by
  cases q:H b with
  |none=>rw[q]at z;contradiction
  |some o=>exact(I.AZ b o q).has
 refine⟨ea,cls,_,H,rfl,⟨I.os,I.bare,⟨λb o e n y _=>?_,λb o e n y _=>?_,λb o e n _=>I.base.free b o e n<|Z b,λb o e _=>?_,I.base.Dy,I.base.ER,I.base.FT⟩,λa o e=>?_,⟨_,Y⟩,I.old d.ex hm.new,?_,λb o e y=>?_,λb o z e=>?_⟩,D⟩
 .exact Y.1 _ _<|Ff b o (I.base.keep b o e n y<|Z b)<|I.O9 e y
 .obtain⟨sl,p⟩:=I.base.slot b o e n y<|Z b;obtain⟨O,v⟩:=slot b _ p y;exact⟨O,v⟩
 .obtain⟨o',p⟩:=I.base.there b o e<|Z b;by_cases y:b∈X.fs
  .obtain⟨O,v⟩:=slot b _ p y;exact⟨_,v⟩
  .exact⟨_,Y.1 _ _<|Ff b o' p<|I.O9 e y⟩
 .refine(I.AZ a o e).JL (λb u y q=>Y.1 _ _<|Ff b u q<|LX b ?_) (λ_ q=>q) λ_ _ q=>q;rcases y with rfl|y
  .rw[e];rfl
  .rw[y];rfl
 .cases q:H ea with
  |none=>rfl
  |some o=>
   obtain⟨ob,z⟩:=(I.AZ ea o q).has;rw[hm.new]at z;contradiction
 .obtain⟨o',p⟩:=I.base.there b o e<|Z b;refine⟨o',Ff b o' p<|I.O9 e y,λn=>?_⟩;have:=I.base.keep b o e n y<|Z b;rw[p]at this;exact AGT this
 .obtain⟨x,p⟩:=f b z;have v:=Ff b x p<|LX b z;have e3:=Y.1 _ _ v;rw[show Q.get? b=some o from e]at e3;rw[v];exact e3.symm
theorem zb{E:XK}{O:Value->Shared->Prop}(d:NS X)(I:Inv X AB σ H s)(F:QF X.prog X.w X.stack H s ea cls B H' s')(P:E cls none H') : wpAny M X.A (leaving X.env<|.ref ea) (λ_ D=>ID X.prog X.w X.outer X.AO X.B5 E (.ref ea) D) O s':=by
 have R:X.A.frames=some (X.env::X.outer):=by rw[<-d.Es];exact I.ok.frames
 have v:∀b,b∉X.ex:=λb z=>by rw[d.ex]at z;nomatch z
 obtain⟨a0,G⟩:=F.Qz;refine wpAny_leaves_onW R d.fr (by rw[<-d.Es];exact G) λS Y us=>?_;obtain⟨u,ok⟩:=F.then Y.1 us
 have T:∀b,(H' b).isSome=true->∃o,s'.heap.get? b=some o:=λb z=>by
  cases q:H' b with
  |none=>rw[q]at z;contradiction
  |some o=>exact(F.AZ b o q).has
 refine⟨ea,cls,B,H',rfl,⟨F.os.trans I.os,F.bare,⟨λb o e n Z _=>?_,λb o e n Z _=>?_,λb o e n _=>?_,λb o e _=>?_,λb xs q=>u.Dy b xs<|I.base.Dy b xs q,λb o xs q=>u.ER b o xs<|I.base.ER b o xs q,λb ps q=>?_⟩,ok,⟨a0,Y⟩,I.old d.ex F.nw,F.he,λb o e Z=>?_,λb o z e=>?_⟩,P⟩
 .exact u.keep b o (I.base.keep b o e n Z<|v b) (I.base.free b o e n<|v b) (I.O9 e Z) AFn
 .obtain⟨sl,y⟩:=I.base.slot b o e n Z<|v b;obtain⟨C,p⟩:=u.any y (I.base.free b o e n<|v b) AFn;exact⟨C,p⟩
 .obtain⟨o',y⟩:=I.base.there b o e<|v b;exact u.free b o' y (I.base.free b o e n<|v b) AFn
 .obtain⟨o',y⟩:=I.base.there b o e<|v b;exact u.there b o' y AFn
 .obtain⟨t,y⟩:=I.base.FT b ps q;obtain⟨f,p⟩:=u.FT b _ y;exact⟨t++f,by rw[p,Array.append_assoc]⟩
 .obtain⟨Q,y⟩:=I.base.there b o e<|v b;obtain⟨o',p,e3⟩:=F.b1 b Q y<|I.O9 e Z;refine⟨o',p,λn=>?_⟩;have z:=I.base.keep b o e n Z<|v b;rw[y]at z;exact(e3<|I.base.free b o e n<|v b).trans (AGT z)
 .obtain⟨Q,y⟩:=T b z;have p:=F.b2 b Q z y;have e3:=Y.1 _ _ p;rw[show S.get? b=some o from e]at e3;rw[p];exact e3.symm
end
set_option tactic.hygienic true
theorem zS{K:PySem.W.Frag}{z:Heap}{mg:Str->Option Value}{x:Str}{C:Addr}{y:List Value}{v:String}(X:K.In z)(G:mg x=some (.ref C))(q:PySem.W.excIn K C y v=true):OwnCls x C y v mg z:=by
 refine⟨G,?_⟩;unfold PySem.W.excIn at q;split at q
 .rename_i dd Y sl ho;split at q
  .rename_i C' Q k0 k1 k2 k3 n k5 hm hs;simp only[AFw,AHC,AGd]at q;obtain⟨⟨⟨⟨⟨rfl,rfl⟩,p⟩,O⟩,AZ⟩,Z⟩:=q;obtain⟨nm,bs,mro,ns,P,hd,sn,sub,ab,col,del⟩:=Y;dsimp only at hm p AZ Z;subst hm p;have D:sl=#[k0,k1,k2,k3,some<|.builtin n,k5]:=by obtain⟨l⟩:=sl;simp only at hs;rw[hs]
   subst D;exact⟨Q,ns,nm,P,bs,hd,sn,sub,ab,col,dd,k0,k1,k2,k3,k5,_,X _ _ ho,.of_isNs<|PySem.W.isNs_of_in X AZ,PySem.W.nsMap_none_of_in X AZ Z,PySem.W.tail_of_in X O⟩
  .contradiction
 .contradiction
set_option tactic.hygienic false
section
variable{X:Cx}{E:XK}{x:Str}{C:Addr}{JY:List Value}{B KJ WX:String}{np Ap pos:Pos}{Qv:Expr}{BB:List Expr}{ta:TA}
def Raises(X:Cx)(E:XK):Prop:=∀(AB:List<|Addr×Obj)(σ:St)(H:Hp)(s:Shared)(h':Heap)(e:Addr)(cls:Value)(vs:List Value),Inv X AB σ H s->Heap.MadeExcOf s.heap h' e cls vs->E cls none H->X.xe (.ref e) {s with heap:=h'}
def ADs(E:XK)(C:Addr)(ta:TA):TS:=λ_ σ H=>ta σ H λvs z=>vs.length<=sizeLine/\E (.ref C) none z
theorem AAe(O:OwnCls x C JY KJ X.mg X.base)(v:ExcBaseFacts B KJ WX JY)(hc:X.calm=true)(Z:Gl X x)(ha:PA X (Qv::BB) ta)(Y:Raises X E)(hd:(x==("__debug__"))=false:=by decide) (he:starEach (Qv::BB) X.env=(false,eval Qv X.env)::starEach BB X.env:=by rfl) (Q:(backTo Ap<|starEach BB X.env).any (·.1)=false:=by rfl) : PS X (.Raise (some<|.Call (.Name x np) (Qv::BB) [] Ap) none pos)<|ADs E C ta:=by
 intro AB s σ H D I h;obtain⟨tl,N,nm,q,bs,hdct,sn,sub,ab,col,dd,k0,k1,k2,k3,k5,mN,P,F,R,T⟩:=O.obj;refine wpAny_Raise_call_subT (nm:=nm) (q:=q) (N:=N) (bs:=bs) (hdct:=hdct) (sn:=sn) (sub:=sub) (ab:=ab) (col:=col) (dd:=dd) (k0:=k0) (k1:=k1) (k2:=k2) (k3:=k3) (k5:=k5) v (T.hasType v.hasBase) (I.ok.hd hc) (by rw[he];show(false||(backTo Ap<|starEach BB X.env).any (·.1))=false;rw[Q];rfl) R<|Oj I Z O.bound ⟨rfl,?_⟩ hd
 have p:=ha Ap AB s σ H _ I h;rw[he]at p ⊢;refine Calls.evalArgs_plain<|wpAny_mono p ?_ λ_ _ y=>y;rintro us G ⟨vs,S,z,n,t,b⟩;refine⟨rfl,?_,z.bk _ _ P,F.keeps z.bk,T.keeps z.bk,λh' e hm=>Y AB σ S G h' e _ _ z hm b⟩;rw[<-n.length];exact t
end
section
variable{P:Program}{w:World}{K:PySem.W.Frag}{mg:Str->Option Value}{base:Heap}{N:List Str}{qual:Str}{scope:Scope}{f:Addr}{cd:Value}{A:Around}{outer:List Env}{s:Shared}{H:Hp}{E E':XK}
abbrev Np(P:Program)(w:World)(K:PySem.W.Frag)(mg:Str->Option Value)(base:Heap)(N:List Str)(qual:Str)(scope:Scope)(f:Addr)(cd:Value)(A:Around)(outer:List Env)(s:Shared)(H:Hp)(E:XK):Cx:=GN (ID P w) P w K mg base N qual scope f cd A outer s H E
theorem Wa:NS<|Np P w K mg base N qual scope f cd A outer s H E:=⟨rfl,rfl,rfl⟩
theorem ACo:Raises (Np P w K mg base N qual scope f cd A outer s H E) E:=λ_ _ _ _ _ _ _ _ I hm z=>ACn Wa I hm z
theorem zc(z:∀cls H',E' cls none H'->E cls none H'):Passes (ID P w) (Np P w K mg base N qual scope f cd A outer s H E) E':=by intro AB σ H1 s1 e s' I h;obtain⟨ea,cls,B,H',rfl,F,q⟩:=h;exact zb Wa I F<|z _ _ q
end
section
variable{X:Cx}{AB:List (Addr×Obj)}{σ:St}{H:Hp}{s:Shared}
noncomputable def Cx.re(X:Cx)(z:Value->Shared->Prop)(y:List<|Addr×Obj):Cx:={X with xe:=z,pn:=y}
theorem Inv.re{z:Value->Shared->Prop}(I:Inv X AB σ H s):Inv (X.re z<|X.pn++AB) [] σ H s:=
 ⟨⟨I.ok.mod,I.ok.kind,I.ok.glob,I.ok.blt,I.ok.above,I.ok.inj,I.ok.has,I.ok.IV,I.ok.hd,I.ok.frames,I.ok.Es,I.ok.Jj,I.ok.bs,I.ok.FZ,I.ok.JG,I.ok.Ii,I.ok.EC,I.ok.GW⟩,I.os,I.bare,I.base,I.loc,I.cell,I.free,I.EB,λp hp=>I.pin p (by have:p∈(X.pn++AB) ++ []:=hp;simpa using this),I.AZ,I.len⟩
theorem Inv.Pg{z:Value->Shared->Prop}{y:List (Addr×Obj)}(I:Inv (X.re z<|X.pn++AB) y σ H s):Inv X AB σ H s:=
 ⟨⟨I.ok.mod,I.ok.kind,I.ok.glob,I.ok.blt,I.ok.above,I.ok.inj,I.ok.has,I.ok.IV,I.ok.hd,I.ok.frames,I.ok.Es,I.ok.Jj,I.ok.bs,I.ok.FZ,I.ok.JG,I.ok.Ii,I.ok.EC,I.ok.GW⟩,I.os,I.bare,I.base,I.loc,I.cell,I.free,I.EB,λp hp=>I.pin p<|AHP _ hp,I.AZ,I.len⟩
noncomputable def Cx.Fd(X:Cx)(ea:Addr):Cx:={X with A:=X.A.mark<|some<|.ref ea,calm:=false,xe:=λ_ _=>False}
theorem Inv.Fd{ea:Addr}(I:Inv X AB σ H s):Inv (X.Fd ea) AB σ H s:=
 ⟨⟨I.ok.mod,I.ok.kind,I.ok.glob,I.ok.blt,I.ok.above,I.ok.inj,I.ok.has,I.ok.IV,(λz=>by contradiction),I.ok.frames,I.ok.Es,I.ok.Jj,I.ok.bs,I.ok.FZ,I.ok.JG,I.ok.Ii,I.ok.EC,I.ok.GW⟩,I.os,I.bare,I.base,I.loc,I.cell,I.free,I.EB,I.pin,I.AZ,I.len⟩
theorem Inv.TM{ea:Addr}(ok:X.Ok)(I:Inv (X.Fd ea) AB σ H s):Inv X AB σ H s:=
 ⟨ok,I.os,I.bare,I.base,I.loc,I.cell,I.free,I.EB,I.pin,I.AZ,I.len⟩
def Ey(ea C:Addr)(h:Heap):Prop:=∃o,h.get? ea=some o/\o.cls=.ref C
theorem Inv.AED{ea C:Addr}(I:Inv X AB σ H s)(hn:H ea=none)(hs:X.B5.heap.get? ea=none)(y:Ey ea C s.heap)(v:ea≠X.env.locals)(Z:∀x c,X.env.cells.lookup x=some c->c≠ea)(hp:∀p∈X.pn++AB,p.1≠ea) : Inv X AB σ (upd H ea<|.ext<|Ey ea C) s:=by
 have ne:∀b o,H b=some o->b≠ea:=λb o e z=>by rw[z,hn]at e;contradiction
 refine⟨I.ok,I.os,I.bare,⟨I.base.keep,I.base.slot,λb o e n y=>?_,I.base.there,λb xs e=>?_,λb o u e=>?_,λb ps e=>?_⟩,I.loc,I.cell,?_,λx c e=>?_,λp q=>?_,λb o e=>?_,I.len⟩
 .rw[BH (λz=>by rw[z,hs]at e;contradiction)];exact I.base.free b o e n y
 .rw[BH<|ne _ _<|I.base.Dy b xs e];exact I.base.Dy b xs e
 .rw[BH<|ne _ _<|I.base.ER b o u e];exact I.base.ER b o u e
 .obtain⟨m,q⟩:=I.base.FT b ps e;exact⟨m,by rw[BH<|ne _ _ q];exact q⟩
 .rw[BH<|AGr v];exact I.free
 .rw[BH<|Z x c e];exact I.EB x c e
 .obtain⟨a,b,c,d,f⟩:=I.pin p q;exact⟨a,by rw[BH<|hp p q];exact b,c,d,f⟩
 .by_cases z:b=ea
  .subst z;rw[DE]at e;cases e;refine⟨y,?_,(by rintro h1 h2 ⟨o,a,b⟩ k;exact⟨o,k o a,b⟩)⟩;obtain⟨o,q,_⟩:=y;exact⟨o,q⟩
  .rw[BH z]at e;exact(I.AZ b o e).JL (λc u _ q=>q) (λc q=>by rw[BH<|ne _ _ q];exact q) λc xs q=>by rw[BH<|ne _ _ q];exact q
theorem name_goes{M:Model}{A:Around}{E:Value->Shared->Prop}{i:Nat}{n:Str}{pos:Pos}{Q:Unit->Shared->Prop}(I:Inv X AB σ H s)(S:X.N.Nodup)(hi:X.N[i]? = some n)(D:X.env.scope.names.lookup n=some .local) (h:∀s',Inv X AB (σ.set i none) H s'->Q () s'):wpAny M A (do bindName X.env n .none;unbindBehindTheSuite X.env n pos) Q E s:=by
 have f:(X.env.scope.kind == .class||(X.env.scope.kind == .module&&X.env.locals != X.env.globals))=false:=by rw[I.ok.kind];rfl
 refine wpAny_bind<|wpAny_bindName<|Mx I S hi (.inl D) (v:=.Au) rfl (λs1 Z=>?_)<|.inr D;refine wpAny_onRaise ?_;refine wpAny_bind<|wpAny_point<|wpAny_bind ?_;unfold deleteName;have T:X.env.kindOf n=some .local:=D;simp only[T,f];obtain⟨m,hn,C⟩:=id Z.loc;have hm:(m n).isSome=true:=by
  have R:i<σ.length:=by rw[I.len];exact(AFx.mp hi).1
  obtain⟨u,_,l⟩:=C i n .Au hi (by rw[AHd R])<|.inl D;rcases l with⟨_,l⟩|⟨l,_⟩
  .rw[l];rfl
  .rcases l with l|l<;>(rw[T]at l;contradiction)
 refine wpAny_bind<|wpAny_nsDel_keeps hn λMG v x Y=>?_;rw[hm];refine wpAny_pure<|wpAny_point<|h _ ?_;have old:∀b o,X.B5.heap.get? b=some o->b≠X.env.locals:=λb o e=>AGE<|AGM (Heap.lt_size e) I.ok.above;refine⟨Z.ok,Z.os,Z.bare,⟨λb o e n B P=>?_,λb o e n B P=>?_,Z.base.free,λb o e P=>?_,Z.base.Dy,Z.base.ER,Z.base.FT⟩,⟨_,x,λj y a O F e3=>?_⟩,λy c e=>?_,Z.free,Z.EB,λp hp=>?_,λb ob e=>?_,by simpa using I.len⟩
 .exact(Y.2 b<|old b o e).trans (Z.base.keep b o e n B P)
 .obtain⟨sl,O⟩:=Z.base.slot b o e n B P;exact⟨sl,(Y.2 b<|old b o e).trans O⟩
 .obtain⟨o',O⟩:=Z.base.there b o e P;exact⟨o',(Y.2 b<|old b o e).trans O⟩
 .have G:j≠i:=λz=>by
   subst z;have R:j<σ.length:=by rw[I.len];exact(AFx.mp hi).1
   rw[AHd R]at F;nomatch F
  rw[AGN<|AGr G]at F;have WV:y≠n:=λz=>G<|W8 S (z ▸ O) hi;obtain⟨u,r,l⟩:=C j y a O (by rw[AGN<|AGr G];exact F) e3;refine⟨u,r,?_⟩;rcases l with⟨l1,l2⟩|⟨k,c,e,z⟩
  .exact .inl ⟨l1,(AF0 WV).trans l2⟩
  .exact .inr ⟨k,c,e,z.sameBut Y<|Z.IX y c e⟩
 .obtain⟨t,z⟩:=Z.cell y c e;exact⟨t,z.sameBut Y<|Z.IX y c e⟩
 .obtain⟨e,n,ne,nf,d⟩:=Z.pin p hp;exact⟨(Y.2 p.1 ne).trans e,n,ne,nf,d⟩
 .refine(Z.AZ b ob e).JL (λc t hc q=>(Y.2 c ?_).trans q) (λ_ q=>q) λ_ _ q=>q;rintro rfl;rcases hc with rfl|hc
  .rw[Z.free]at e;contradiction
  .rw[Z.free]at hc;contradiction
end
section
set_option tactic.hygienic true
variable{X:Cx}{body KS:List Stmt}{Ls:Stmt}{x n:Str}{np RM pos:Pos}{Wc:Addr}{i:Nat}{tb:XK->TS}{ts:TS}
def ADx(X:Cx)(Wc:Addr)(i:Nat)(tb:XK->TS)(ts:TS):TS:=λD σ H=>∃E:XK,tb E D σ H/\
 ∀cls H',E cls none H'->∃C,cls=.ref C/\PySem.W.exmOne X.K cls (.ref Wc)=some true/\∀ea (q:St),q.length=X.N.length->H' ea=none->ts {nx:=λz y=>D.nx (z.set i none) y,rt:=D.rt,bk:=λz y=>D.bk (z.set i none) y,ct:=λz y=>D.ct (z.set i none) y} (q.set i<|some<|.ref ea) (upd H' ea<|.ext<|Ey ea C)
theorem AAg(d:NS X)(R:X.N.Nodup)(hi:X.N[i]? = some n)(P:X.env.scope.names.lookup n=some .local)(hg:Gl X x)(hm:X.mg x=some (.ref Wc)) (hb:∀(E:XK)(FU:Value->Shared->Prop)(LN:List<|Addr×Obj),Passes (ID X.prog X.w) (X.re FU LN) E->CP (X.re FU LN) body (tb E)) (hs:∀ea,CP (X.Fd ea) (Ls::KS) ts) (CJ:(x==("__debug__"))=false:=by decide) : PS X (.Try body [.ExceptHandler (some<|.Name x np) (some n) (Ls::KS) RM] [] [] pos)<|ADx X Wc i tb ts:=by
 intro AB s σ H D I h;obtain⟨E,t8,hh⟩:=h;have OJ:X.A.frames=some (X.env::X.outer):=by rw[<-d.Es];exact I.ok.frames
 refine wpAny_Try_except<|wpAny_mono (hb E _ (X.pn++AB) ?_ [] s σ H D I.re t8) (λf s1 q=>?_) λe s1 q=>q
 .-- lB exception is met
  intro PH t H1 s1 e s' I1 hc;obtain⟨ea,cls,B,H',rfl,F,hE⟩:=hc;obtain⟨C,rfl,uu,vS⟩:=hh _ _ hE;obtain⟨a0,a⟩:=F.Qz;have a:Heap.FlyingW B (X.env::X.outer) ea (.ref C) a0 s'.heap:=by rw[<-d.Es];exact a
  have G:=I1.Pg;have after:∀S,B.StaysIn S->s'.heap.UpToSlots S->Inv X AB t H' {s' with heap:=S}:=λS st us=>by
   obtain⟨u,ok⟩:=F.then st us
   exact G.ZK F.os u ok F.bare λb z=>nomatch z
  refine wpAny_looks_onW OJ d.fr a λgC uR fq=>?_;refine wpAny_landsW uR λOS VZ ft=>?_;have I5:=after OS VZ.1<|fq.trans ft;obtain⟨ob,u4,u5⟩:=VZ.there;refine wpAny_handleBy_cons (codeAny_handlers_test<|Oj I5.Fd hg hm ?_ CJ) (by intro q;contradiction);have LT:PySem.W.Looks (model X.prog X.w) OS (typeOf<|.ref ea)<|.ref C:=u5 ▸ (PySem.W.Looks.ld u4).andThen .now;refine PySem.W.Looks.here (s:={s' with heap:=OS}) (PySem.W.exm_one I5.BS LT uu) ?_;refine codeAny_handlers_suite_as ?_;refine lands_againW VZ λgE di vL=>?_;have I6:=after gE di.1<|(fq.trans ft).trans vL;have Ax:∀b o,s1.heap.get? b=some o->b≠ea:=λb o e z=>by rw[z,F.nw]at e;contradiction
  have I7:Inv X AB t (upd H' ea<|.ext<|Ey ea C) {s' with heap:=gE}:=by
   refine I6.AED F.he (G.old d.ex F.nw) ?_ (λz=>?_) (λy c e=>?_) λp hp=>?_
   .obtain⟨_,_,_,oe,vs,T,oT,ts,he,hc,hd,_⟩:=di;exact⟨oe,he,hc.1⟩
   .obtain⟨m,⟨o,_,_,ho,_⟩,_⟩:=G.loc;exact Ax _ _ ho z.symm
   .obtain⟨v,o,ho,_⟩:=G.cell y c e;exact Ax _ _ ho
   .exact Ax _ _ (G.pin p hp).1
  refine Mx (X:=X.Fd ea) I7.Fd R hi (.inl P) (v:=.ref ea) rfl (λs8 I8=>?_)<|.inr P;refine wpAny_mono (hs ea AB s8 _ _ _ I8<|vS ea t I6.len F.he) (λf s9 q=>?_) λ_ _ z=>z.elim;cases f with
  |next=>
   obtain⟨Y,Q,Z,q⟩:=q;exact name_goes (Z.TM I.ok) R hi P λXo O=>⟨_,Q,O,q⟩
  |brk=>
   obtain⟨Y,Q,Z,q⟩:=q;exact name_goes (Z.TM I.ok) R hi P λXo O=>⟨_,Q,O,q⟩
  |cont=>
   obtain⟨Y,Q,Z,q⟩:=q;exact name_goes (Z.TM I.ok) R hi P λXo O=>⟨_,Q,O,q⟩
  |ret u=>
   obtain⟨v,Y,Q,Z,r,q⟩:=q;exact name_goes (Z.TM I.ok) R hi P λXo O=>⟨v,_,Q,O,r,q⟩
 .cases f with
  |next=>
   obtain⟨Y,H',Z,q⟩:=q;exact wpAny_execs_nil ⟨Y,H',Z.Pg,q⟩
  |brk=>
   obtain⟨Y,H',Z,q⟩:=q;exact⟨Y,H',Z.Pg,q⟩
  |cont=>
   obtain⟨Y,H',Z,q⟩:=q;exact⟨Y,H',Z.Pg,q⟩
  |ret u=>
   obtain⟨v,Y,H',Z,r,q⟩:=q;exact⟨v,Y,H',Z.Pg,r,q⟩
end
open PySem PySem.Spec PyProof.Rows PySem.W PySem.Builtin PySem.Builtin.ObjectAttr PySem.Builtin.Getset_descriptor
section
variable{K:Frag}{x D:Addr}{M:Model}{h:Heap}{prog:Program}{w:World}{A:Around}{E:Value->Shared->Prop}{s:Shared}
theorem rS{n:Str}{a g:Value}(X:K.In h)(ha:findIn K (.ref D) n=some (some a))(hn:specialIn K a "__get__" = some (some g))(MF:takesIn K a=some true):Looks M h (find (.ref x) (.ref D) n)<|.bind g a:=
 (looks_findIn X ha).andThen ((show Looks M h (getOf<|some a) (some g)from looks_specialIn X hn).andThen ((show Looks M h (dataDescriptor? (some a) (some g)) (some (g,a))from(looks_takesIn X MF).andThen .now).andThen<|Looks.tag .now))
theorem rR{Q:Option Value->Shared->Prop}(X:K.In s.heap)(p:Ey x D s.heap)(z:findIn K (.ref D) "__getattribute__" = some (some<|.builtin "BaseException.__getattribute__"))(y:findIn K (.ref D) "__getattr__" = some none) (ha:findIn K (.ref D) "__class__" = some (some<|.builtin "object.__class__")) (hn:specialIn K (.builtin "object.__class__") "__get__" = some (some<|.builtin "getset_descriptor.__get__")) (MF:takesIn K (.builtin "object.__class__")=some true) (hm:mroIn K D (.type "object")=some true) (q:mroIn K D (.type "BaseException")=some true) (h:Q (some<|.ref D) {s with toks:=s.toks+1}):wpAny (model prog w) A (getAttr? (.ref x) "__class__") Q E s:=by
 obtain⟨o,ho,hc⟩:=p;obtain⟨hp,g,d,t,os⟩:=s;have ty:Looks (model prog w) hp (typeOf<|.ref x)<|.ref D:=hc ▸ (Looks.ld ho).andThen .now;have v:=looks_findIn (M:=model prog w) X z;have f1:=rS (M:=model prog w) (x:=x) X ha hn MF;have f2:=looks_findIn (M:=model prog w) X y;have f3:=looks_mroIn (M:=model prog w) X hm;have f4:=looks_mroIn (M:=model prog w) X q;have Z:splitId "BaseException.__getattribute__" = some ("BaseException","__getattribute__"):=AFq
 refine wpAny_bind<|wpAny_mkText<|wpAny_bind<|wpAny_attempt<|wpAny_holding<|wpAny_bind<|ty.at<|wpAny_bind<|v.at ?_;dsimp only;have bd:=F.excAttr_ValueError.ga.bind<|.ref x;have Y:=F.excAttr_ValueError.ga.plain;have O:=F.args_bexc_ga (.ref x)<|.str "__class__" t;refine wpAny_bind ?_;refine f2.at<|wpAny_bind<|wpAny_attempt<|wpAny_holding ?_;refine wpAny_bind<|wpAny_of_eq bd<|wpAny_call ?_;refine codeAny_call_builtin Y F.entry_bexc_ga ?_;simp only[Z];refine wpAny_bind<|wpAny_bind<|ty.at<|f4.at ?_;refine wpAny_of_eq O ?_;refine wpAny_bind<|wpAny_pure ?_;refine wpAny_bind<|wpAny_pure ?_;refine wpAny_bind<|ty.at<|wpAny_bind<|f1.at ?_;unfold bindTo
 repeat (first|with_reducible refine wpAny_bind ?_|with_reducible refine wpAny_holding ?_|with_reducible refine wpAny_rule ?_)
 refine wpAny_call<|codeAny_call_builtin KF.slot_gs.plain KF.entry_gs<|KF.slot_gs.check _ _ _ _ _ _ _ _ KF.type_class (KF.args_gs _ _ _) ?_;refine wpAny_bind<|wpAny_pure ?_
 delta descrGetter descrCheckInstance descrNameAndClass isInstance
 simp only[KF.owner_class]
 repeat lk
 refine⟨Code.quiet_builtin _ AFq,codeAny_builtin KF.entry_class ?_⟩
 repeat lk
 exact h
structure NG(K:Frag)(D:Addr):Prop where
 ga:findIn K (.ref D) "__getattribute__" = some (some<|.builtin "BaseException.__getattribute__")
 gn:findIn K (.ref D) "__getattr__" = some none
 cl:findIn K (.ref D) "__class__" = some (some<|.builtin "object.__class__")
 sp:specialIn K (.builtin "object.__class__") "__get__" = some (some<|.builtin "getset_descriptor.__get__")
 tk:takesIn K (.builtin "object.__class__")=some true
 mr:mroIn K D (.type "object")=some true
 mb:mroIn K D (.type "BaseException")=some true
 hd:hasDictIn K D=true
theorem wq(Z:NG K D):KitX K (.ref x) (.ref D) (Ey x D) where
 ty:=(by rintro _ _ _ ⟨_,ho,hc⟩;exact hc ▸ (Looks.ld ho).andThen .now)
 it:=λ_ _ X _=>by
  obtain⟨c,hc,_⟩:=any_some Z.hd;unfold clsIn at hc;split at hc
  .rename_i ho;exact λ_ _ _ _ k q=>wpAny_bind<|wpAny_loadPart (k _ _<|X _ _ ho)<|wpAny_pure q
  .contradiction
 ne:=λh z dd its n sl X y=>by
  obtain⟨c,hc,_⟩:=any_some Z.hd;refine AIo.mpr λq=>?_;obtain rfl:D=z:=Value.ref.inj<|AHC.mp q;unfold clsIn at hc;split at hc
  .rename_i ho;cases (X _ _ ho).symm.trans y
  .contradiction
 ca:=λX p k=>rR X p Z.ga Z.gn Z.cl Z.sp Z.tk Z.mr Z.mb k
end
structure EL(k:Nat)(A:Around):Prop where
 dp:A.depth+3*k+5<recursionLimit
 un:A.units+16*k+200<cLine
theorem EL.deeper{k:Nat}{A:Around}(r:EL (k+1) A)(env:Env):EL k<|A.deeper env:=by have h:=(B7.deeper (A:={A with handled:=none}) ⟨rfl,r.dp,r.un⟩ env);exact⟨h.dp,h.un⟩
structure NP(P:Program)(w:World)(K:PySem.W.Frag)(mg:Str->Option Value)(base:Heap)(k:Nat)(f:Addr)(fd:FuncData)(ps:List Str)(sp:List V->Hp->VK->Prop):Prop where
 len:∀vs H Q,sp vs H Q->vs.length=ps.length
 run:∀(A:Around)(outer:List Env)(s:Shared)(H:Hp)(args:Args)(us:List Value)(vs:List V)(Q:VK),EL k A->Kb P w K mg base A outer s H->BindsTo s fd args (ps.zip us)->Ao vs us->sp vs H Q->codeAny (model P w) A (.call (.ref f) args) (λr s'=>match r with|.ok (.ret u)=>CE outer P w H s Q u s'|_=>False) s
def QY(P:Program)(w:World)(K:PySem.W.Frag)(mg:Str->Option Value)(base:Heap)(N:List Str)(qual:Str)(scope:Scope)(f:Addr)(z:Value)(A:Around)(outer:List Env)(s:Shared)(H:Hp):Cx:=
 {GN EJ P w K mg base N qual scope f z A outer s H E0 with calm:=false,xe:=λ_ _=>False}
theorem vv{P:Program}{w:World}{K:PySem.W.Frag}{mg:Str->Option Value}{base:Heap}{N ps:List Str}{qual:Str}{scope:Scope}{f:Addr}{q:Value}{A:Around}{outer:List Env}{s s1:Shared}{H:Hp}{us:List Value}{vs:List V} (S:IG N ps scope) (y:Kb P w K mg base A outer s H) (v:vs.length=ps.length) (r:Ao vs us) (x:InCallC s s.heap.objs.size (bindL (envOfC qual scope s.heap.objs.size f q).kindOf (ps.zip us) λ_=>none) (cellsFrom (s.heap.objs.size+1) scope.names []) (bindC (envOfC qual scope s.heap.objs.size f q).kindOf (ps.zip us) λ_=>none) s1) :
 Inv (QY P w K mg base N qual scope f q A outer s H) [] (start N vs) H s1:=by
 have p:Kb P w K mg base {A with handled:=none} outer s H:=⟨y.frames,y.mod,y.bs,y.FZ,y.EC,y.GW,y.AZ,y.bare⟩;have I:=gJ (CX:=EJ) (E:=E0) S rfl p v r x;exact⟨⟨I.ok.mod,I.ok.kind,I.ok.glob,I.ok.blt,I.ok.above,I.ok.inj,I.ok.has,I.ok.IV,(λz=>by contradiction),I.ok.frames,I.ok.Es,I.ok.Jj,I.ok.bs,I.ok.FZ,I.ok.JG,I.ok.Ii,I.ok.EC,I.ok.GW⟩,I.os,I.bare,I.base,I.loc,I.cell,I.free,I.EB,I.pin,I.AZ,I.len⟩
theorem sE{P:Program}{w:World}{K:PySem.W.Frag}{mg:Str->Option Value}{base:Heap}{k:Nat}{f:Addr}{x qual:Str}{st:Stmt}{fd:FuncData}{N ps:List Str}{sp:List V->Hp->VK->Prop}(F:Ex K x qual st f fd)(S:IG N ps<|BR st) (len:∀vs H Q,sp vs H Q->vs.length=ps.length) (D:∀(As:Value)(A:Around)(outer:List Env)(s:Shared)(H:Hp)(vs:List V)(Q:VK),EL k (A.deeper<|envOfC qual (BR st) s.heap.objs.size f As)->sp vs H Q->
  ∃t,CP (QY P w K mg base N qual (BR st) f As A outer s H) (EN st) t/\t {nx:=λ_ H'=>Q .Au H',rt:=Q} (start N vs) H):NP P w K mg base (k+1) f fd ps sp:=by
 obtain⟨oc,od,kV,doc,pm,an,As,ct,Gp,rfl,R,B⟩:=F.ex;refine⟨len,λA outer s H args us vs Q Z p G r Y=>?_⟩;have O:=p.mod.Of.keeps λb o e=>(p.bs b o e).1;have T:∀y∈ps.zip us,(BR st).names.lookup y.1=some .local\/((BR st).names.lookup y.1=some .cell/\((cellsFrom (s.heap.objs.size+1) (BR st).names []).lookup y.1).isSome=true):=(by rintro⟨n,v⟩ C;exact(S.par n (AI4 C).1).elim .inl λq=>.inr ⟨q,AIs _ _ _<|.inl q⟩);refine codeAny_call_function (by have:=Z.dp;lia) (O _ _ R) rfl S.co S.gen rfl (PySem.W.codeRec_of O B)<|G _ _ _ _<|wpAny_newFunctionEnv_cells S.kind T λenv he s1 x=>?_;subst he;refine⟨(p.mod.nolimit.keeps λb o e=>(p.bs b o e).1).keeps x.toInCall.keep,codeAny_func ?_⟩;obtain⟨t,E,I⟩:=D As A outer s H vs Q (Z.deeper _) Y;refine wpAny_mono (E [] s1 (start N vs) H _ (vv S p (len _ _ _ Y) r x) I) (λa s' hs=>?_) λe s' z=>z.elim;cases a with
 |ret u=>
  obtain⟨v,h,H',J,rv,q⟩:=hs;exact⟨v,H',J.os,J.bare,J.base,J.AZ,rv,q⟩
 |next=>
  obtain⟨h,H',J,q⟩:=hs;exact⟨.Au,H',J.os,J.bare,J.base,J.AZ,rfl,q⟩
 |brk=>obtain⟨_,_,_,q⟩:=hs;exact q.elim
 |cont=>obtain⟨_,_,_,q⟩:=hs;exact q.elim
section
variable{X:Cx}{k:Nat}{f:Addr}{fd:FuncData}{ps:List Str}{sp:List V->Hp->VK->Prop}{x:Str}{p pos:Pos}{e:Expr}{es:List Expr}{t:TA}
def ADa(sp:List V->Hp->VK->Prop)(t:TA):TE:=λσ H Q=>t σ H λvs z=>sp vs z Q
theorem zi(F:NP X.prog X.w X.K X.mg X.base k f fd ps sp)(Z:EL k X.A)(Y:Gl X x)(hm:X.mg x=some (.ref f))(O:PySem.W.keepIn X.K (.ref f)=true)(P:Binds X.K fd ps []) (ha:PA X (e::es) t) (D:(x==("__debug__"))=false:=by decide) (he:starEach (e::es) X.env=(false,eval e X.env)::starEach es X.env:=by rfl) (R:(backTo pos<|starEach es X.env).any (·.1)=false:=by rfl) : PE X (.Call (.Name x p) (e::es) [] pos)<|ADa sp t:=by
 intro AB s σ H Q I h;refine wpAny_Call_Name_kw<|Oj I Y hm ?_ D;refine PySem.W.callWith_K I.ok.mod.Of O (Ag (ha pos AB s σ H _ I h) ?_) he R;rintro us s1 ⟨vs,B,y,r,q⟩;refine⟨y.BS,?_⟩;have G:us.length=ps.length:=by rw[<-r.length];exact F.len _ _ _ q
 have v:=P s1 us y.BS (by simpa using G);rw[AGt]at v;refine wpAny_call<|codeAny_mono (F.run X.A X.stack s1 B ⟨us,[]⟩ us vs Q Z y.c6 v r q) λr s' z=>?_;cases r with
 |error e=>exact z.elim
 |ok fl=>
  cases fl with
  |ret u=>exact y.after z
  |next=>exact z.elim
  |brk=>exact z.elim
  |cont=>exact z.elim
end
end L2
set_option genInjectivity false
set_option genSizeOf false
namespace L2.PL
set_option tactic.hygienic true
open PySem PySem.Spec PyProof.Rows
inductive PV where
 |Au|bl (b:Bool)|int (i:Int)|str (x:Str)|tup (xs:List PV)|lst (xs:List PV)
 |rd (xs:List PV)
 |Co (ks:List<|List Int) (xs:List PV)
inductive RV where
 |cl (p:PV)|bo (ps:List PV)|fr (ps:List PV)
 |bd (ks:List<|List Int) (xs:List PV)|fd (ks:List<|List Int) (xs:List PV)
 |tf (p:PV) (ps:List PV)
inductive SV where
 |im (p:PV)|own (ps:List PV)
 |EG (t:Option Addr) (ks:List<|List Int) (xs:List PV)
 |Mh (AL:List<|Int×Int)
 |exc (nm:Str)
abbrev AS:=List<|Option SV
noncomputable def Cd(k:List Int):List Key:=k.map Sum.inl
mutual
def Rep(K:W.Frag)(H:Hp):PV->V->Prop
 |.Au,v=>v=.Au
 |.bl b,v=>v=.bl b
 |.int i,v=>v=.int i
 |.str x,v=>v=.str x
 |.tup xs,v=>∃a vs,v=.ref a/\Bi K H a vs/\AW K H xs vs
 |.lst xs,v=>∃a vs,v=.ref a/\Rd H a (.lst vs)/\AW K H xs vs
 |.rd xs,v=>∃a vs,v=.ref a/\CF K H a vs/\AW K H xs vs
 |.Co ks xs,v=>∃a AL,v=.ref a/\Rd H a (.dT AL)/\AL.map (·.1)=ks.map Cd/\AW K H xs (AL.map (·.2))
def AW(K:W.Frag)(H:Hp):List PV->List V->Prop
 |[],vs=>vs=[]
 |x::xs,vs=>∃v r,vs=v::r/\Rep K H x v/\AW K H xs r
end
theorem Rd.same{H H':Hp}{a:Addr}{o:HO}(s:Ai H H')(h:Rd H a o):Rd H' a o:=by
 rcases h with h|⟨z,h⟩
 .exact .inl<|s _ _ h
 .exact .inr ⟨z,s _ _ h⟩
theorem Bi.same{K:W.Frag}{H H':Hp}{a:Addr}{xs:List V}(s:Ai H H')(h:Bi K H a xs):Bi K H' a xs:=by
 rcases h with h|h
 .exact .inl<|Rd.same s h
 .exact .inr h
mutual
theorem Rep.same{K:W.Frag}{H H':Hp}(s:Ai H H'):∀{p:PV}{v:V},Rep K H p v->Rep K H' p v
 |.Au,_,h=>h
 |.bl _,_,h=>h
 |.int _,_,h=>h
 |.str _,_,h=>h
 |.tup _,_,h=>by unfold Rep at h ⊢;obtain⟨a,vs,e,q,r⟩:=h;exact⟨a,vs,e,Bi.same s q,AW.same s r⟩
 |.lst _,_,h=>by unfold Rep at h ⊢;obtain⟨a,vs,e,q,r⟩:=h;exact⟨a,vs,e,Rd.same s q,AW.same s r⟩
 |.rd _,_,h=>by unfold Rep at h ⊢;obtain⟨a,vs,e,q,r⟩:=h;exact⟨a,vs,e,Ai.seq s q,AW.same s r⟩
 |.Co _ _,_,h=>by unfold Rep at h ⊢;obtain⟨a,vs,e,q,k,r⟩:=h;exact⟨a,vs,e,Rd.same s q,k,AW.same s r⟩
theorem AW.same{K:W.Frag}{H H':Hp}(s:Ai H H'):∀{ps:List PV}{vs:List V},AW K H ps vs->AW K H' ps vs
 |[],_,h=>h
 |_::_,_,h=>by unfold AW at h ⊢;obtain⟨v,r,e,q,t⟩:=h;exact⟨v,r,e,Rep.same s q,AW.same s t⟩
end
set_option tactic.hygienic false
theorem AW.paired{K:W.Frag}{H:Hp}:∀{ps:List PV}{vs:List V},AW K H ps vs->Paired (Rep K H) ps vs
 |[],_,h=>by subst h;exact .nil
 |_::_,_,h=>by obtain⟨v,r,e,q,t⟩:=h;subst e;exact .cons q<|AW.paired t
theorem AW.of{K:W.Frag}{H:Hp}:∀{ps:List PV}{vs:List V},Paired (Rep K H) ps vs->AW K H ps vs:=by
 intro ps vs h
 induction h with
 |nil=>rfl
 |cons q t ih=>exact⟨_,_,rfl,q,ih⟩
section
variable{α β:Type}{F:α->β->Prop}
theorem Mj:∀{xs:List α}{us:List β}{i:Nat}{x:α},Paired F xs us->xs[i]? = some x->∃u,us[i]? = some u/\F x u:=by
 intro xs us i x h
 induction h generalizing i with
 |nil=>intro e;contradiction
 |cons r t ih=>
  intro e;cases i with
  |zero=>cases e;exact⟨_,rfl,r⟩
  |succ i=>exact ih e
theorem jG:∀{xs:List α}{us:List β}{i:Nat}{u:β},Paired F xs us->us[i]? = some u->∃x,xs[i]? = some x/\F x u:=by
 intro xs us i x h
 induction h generalizing i with
 |nil=>intro e;contradiction
 |cons r t ih=>
  intro e;cases i with
  |zero=>cases e;exact⟨_,rfl,r⟩
  |succ i=>exact ih e
theorem Mi:∀{xs z:List α}{us ws:List β},Paired F xs us->Paired F z ws->Paired F (xs++z) (us++ws):=by
 intro xs z us ws h s
 induction h with
 |nil=>exact s
 |cons r t ih=>exact .cons r ih
theorem jH:∀{xs:List α}{us:List β}(n:Nat),Paired F xs us->Paired F (xs.take n) (us.take n):=by
 intro xs us n h
 induction h generalizing n with
 |nil=>cases n<;>exact .nil
 |cons r t ih=>
  cases n with
  |zero=>exact .nil
  |succ n=>exact .cons r<|ih n
theorem jF:∀{xs:List α}{us:List β}(n:Nat),Paired F xs us->Paired F (xs.drop n) (us.drop n)
 |_,_,0,r=>r
 |_,_,_+1,.nil=>.nil
 |_,_,n+1,.cons _ t=>jF n t
theorem zX{xs:List α}{us:List β}(h:Paired F xs us):Paired F xs.reverse us.reverse:=by
 induction h with
 |nil=>exact .nil
 |cons r t ih=>simp only[AIn,AIn];exact Mi ih<|.cons r .nil
end
inductive Mu(H:Hp)(a:Addr):Prop
 |l {xs:List V} (h:H a=some (.lst xs)):Mu H a
 |d {AL:List (List Key×V)} (h:H a=some (.dT AL)):Mu H a
 |k {AL:List (Key×V)} (h:H a=some (.dK AL)):Mu H a
theorem Mu.same{H H':Hp}{a:Addr}(s:Ai H H'):Mu H a->Mu H' a
 |.l h=>.l<|s _ _ h
 |.d h=>.d<|s _ _ h
 |.k h=>.k<|s _ _ h
theorem Mu.get{H:Hp}{a:Addr}:Mu H a->∃o,H a=some o
 |.l h=>⟨_,h⟩
 |.d h=>⟨_,h⟩
 |.k h=>⟨_,h⟩
structure Aq(G H G' H':Hp):Prop where
 gg:Ai G G'
 hh:Ai H H'
 sub:Ai G' H'
 ex:∀a,Mu H a->G a=none->G' a=none
theorem Aq.refl{G H:Hp}(h:Ai G H):Aq G H G H:=⟨Ai.refl _,Ai.refl _,h,λ_ _ n=>n⟩
theorem Aq.trans{G H z y q v:Hp}(a:Aq G H z y)(b:Aq z y q v):Aq G H q v:=
 ⟨a.gg.trans b.gg,a.hh.trans b.hh,b.sub,λc h n=>b.ex c (h.same a.hh)<|a.ex c h n⟩
noncomputable def Eg(G' H H':Hp):Hp:=λa=>match G' a with|some o=>some o|none=>match H a with|some _=>none|none=>H' a
theorem Kw{G' H H':Hp}:Ai G'<|Eg G' H H':=λa o h=>by unfold Eg;rw[h]
theorem Vh{G' H H':Hp}{a:Addr}{o:HO}(s:Ai G' H')(h:H a=none)(h':H' a=some o):Eg G' H H' a=some o:=by
 unfold Eg;cases e:G' a with
 |some o'=>rw[s _ _ e]at h';exact h'
 |none=>rw[h];exact h'
theorem Aq.all{G H G' H':Hp}(s:Aq G H G' H'):Aq G H (Eg G' H H') H':=by
 refine⟨s.gg.trans Kw,s.hh,λa o h=>?_,λa h n=>?_⟩
 .unfold Eg at h;cases e:G' a with
  |some o'=>rw[e]at h;cases h;exact s.sub _ _ e
  |none=>
   rw[e]at h;cases z:H a with
   |some _=>rw[z]at h;contradiction
   |none=>rw[z]at h;exact h
 .unfold Eg;obtain⟨o,ho⟩:=h.get;rw[s.ex a h n,ho]
theorem Aq.new{G H:Hp}(s:Ai G H){a:Addr}(o:HO)(h:H a=none):Aq G H (upd G a o)<|upd H a o:=by
 have g:=s.free h;refine⟨λb u q=>by rw[BH<|Du q g];exact q,λb u q=>by rw[BH<|Du q h];exact q,λb u q=>?_,λb q n=>?_⟩
 .by_cases e:b=a
  .subst e;rw[DE]at q ⊢;exact q
  .rw[BH e]at q ⊢;exact s _ _ q
 .obtain⟨o,ho⟩:=q.get;rw[BH<|Du ho h];exact n
theorem Aq.Hq{G H:Hp}(s:Ai G H){a:Addr}(o:HO)(h:H a=none):Aq G H G<|upd H a o:=by have g:=s.free h;exact⟨Ai.refl _,λb u q=>by rw[BH<|Du q h];exact q,λb u q=>by rw[BH<|Du q g];exact s _ _ q,λ_ _ n=>n⟩
def Bu(K:W.Frag)(H G' H':Hp):RV->V->Prop
 |.cl p,v=>Rep K G' p v
 |.bo ps,v=>∃a vs,v=.ref a/\G' a=none/\H' a=some (.lst vs)/\AW K G' ps vs
 |.fr ps,v=>∃a vs,v=.ref a/\H a=none/\G' a=none/\H' a=some (.lst vs)/\AW K G' ps vs
 |.bd ks xs,v=>∃a AL,v=.ref a/\G' a=none/\H' a=some (.dT AL)/\AL.map (·.1)=ks.map Cd/\AW K G' xs (AL.map (·.2))
 |.fd ks xs,v=>∃a AL,v=.ref a/\H a=none/\G' a=none/\H' a=some (.dT AL)/\AL.map (·.1)=ks.map Cd/\AW K G' xs (AL.map (·.2))
 |.tf p ps,v=>∃a l x vs,v=.ref a/\Bi K G' a [x,.ref l]/\Rep K G' p x/\H l=none/\G' l=none/\H' l=some (.lst vs)/\AW K G' ps vs
theorem Bu.step{K:W.Frag}{H z y Z Y:Hp}{r:RV}{v:V}(s:Aq z y Z Y)(h:Bu K H z y r v):Bu K H Z Y r v:=by
 cases r with
 |cl p=>exact Rep.same s.gg h
 |bo ps=>
  obtain⟨a,vs,e,g,q,r⟩:=h;exact⟨a,vs,e,s.ex a (.l q) g,s.hh _ _ q,AW.same s.gg r⟩
 |fr ps=>
  obtain⟨a,vs,e,n,g,q,r⟩:=h;exact⟨a,vs,e,n,s.ex a (.l q) g,s.hh _ _ q,AW.same s.gg r⟩
 |bd ks xs=>
  obtain⟨a,vs,e,g,q,k,r⟩:=h;exact⟨a,vs,e,s.ex a (.d q) g,s.hh _ _ q,k,AW.same s.gg r⟩
 |fd ks xs=>
  obtain⟨a,vs,e,n,g,q,k,r⟩:=h;exact⟨a,vs,e,n,s.ex a (.d q) g,s.hh _ _ q,k,AW.same s.gg r⟩
 |tf p ps=>
  obtain⟨a,l,x,vs,e,t,Q,n,g,q,r⟩:=h;exact⟨a,l,x,vs,e,Bi.same s.gg t,Rep.same s.gg Q,n,s.ex l (.l q) g,s.hh _ _ q,AW.same s.gg r⟩
theorem Bu.back{K:W.Frag}{z H G' H':Hp}{r:RV}{v:V}(s:Ai z H)(h:Bu K H G' H' r v):Bu K z G' H' r v:=by
 cases r with
 |cl p=>exact h
 |bo ps=>exact h
 |fr ps=>
  obtain⟨a,vs,e,n,g,q,r⟩:=h;exact⟨a,vs,e,s.free n,g,q,r⟩
 |bd ks xs=>exact h
 |fd ks xs=>
  obtain⟨a,vs,e,n,g,q,r⟩:=h;exact⟨a,vs,e,s.free n,g,q,r⟩
 |tf p ps=>
  obtain⟨a,l,x,vs,e,t,y,n,q⟩:=h;exact⟨a,l,x,vs,e,t,y,s.free n,q⟩
noncomputable def RV.list:RV->Option (List PV)
 |.cl (.lst ps)=>some ps
 |.bo ps=>some ps
 |.fr ps=>some ps
 |_=>none
theorem Bu.list{K:W.Frag}{H G' H':Hp}{r:RV}{v:V}{ps:List PV}(sub:Ai G' H')(h:Bu K H G' H' r v)(e:r.list=some ps):∃a vs,v=.ref a/\Rd H' a (.lst vs)/\AW K G' ps vs:=by
 cases r with
 |cl p=>
  cases p with
  |lst qs=>
   simp only[RV.list,AGg]at e;subst e;have h':=h;obtain⟨a,vs,e,q,r⟩:=h';exact⟨a,vs,e,Rd.same sub q,r⟩
  |_=>simp[RV.list]at e
 |bo qs=>
  simp only[RV.list,AGg]at e;subst e;obtain⟨a,vs,e,g,q,r⟩:=h;exact⟨a,vs,e,.inl q,r⟩
 |fr qs=>
  simp only[RV.list,AGg]at e;subst e;obtain⟨a,vs,e,n,g,q,r⟩:=h;exact⟨a,vs,e,.inl q,r⟩
 |bd ks xs=>simp[RV.list]at e
 |fd ks xs=>simp[RV.list]at e
 |tf p ps=>simp[RV.list]at e
noncomputable def RV.clean:RV->Option PV
 |.cl p=>some p
 |.fr ps=>some<|.lst ps
 |.fd ks xs=>some<|.Co ks xs
 |.tf p ps=>some<|.tup [p,.lst ps]
 |.bo _=>none
 |.bd _ _=>none
theorem Bu.clean{K:W.Frag}{H G' H':Hp}{r:RV}{v:V}{p:PV}(sub:Ai G' H')(h:Bu K H G' H' r v)(e:r.clean=some p):Rep K (Eg G' H H') p v:=by
 cases r with
 |cl q=>
  simp only[RV.clean,AGg]at e;subst e;exact Rep.same Kw h
 |bo qs=>simp[RV.clean]at e
 |fr qs=>
  simp only[RV.clean,AGg]at e;subst e;obtain⟨a,vs,e,n,g,q,r⟩:=h;exact⟨a,vs,e,.inl<|Vh sub n q,AW.same Kw r⟩
 |bd ks xs=>simp[RV.clean]at e
 |fd ks xs=>
  simp only[RV.clean,AGg]at e;subst e;obtain⟨a,vs,e,n,g,q,k,r⟩:=h;exact⟨a,vs,e,.inl<|Vh sub n q,k,AW.same Kw r⟩
 |tf p ps=>
  simp only[RV.clean,AGg]at e;subst e;obtain⟨a,l,x,vs,e,t,y,n,g,q,r⟩:=h;refine⟨a,_,e,Bi.same Kw t,?_⟩;have z:Rep K (Eg G' H H') (.lst ps)<|.ref l:=by exact⟨l,vs,rfl,.inl<|Vh sub n q,AW.same Kw r⟩
  exact⟨_,_,rfl,Rep.same Kw y,_,_,rfl,z,rfl⟩
def DS(K:W.Frag)(nm:Str)(C:Addr):Prop:=W.nsIn K mainGlobals nm=some (some<|.ref C)
theorem DS.inj{K:W.Frag}{nm:Str}{C D:Addr}(a:DS K nm C)(b:DS K nm D):C=D:=by unfold DS at a b;rw[a]at b;simpa using b
noncomputable def wz(p:Int×Int):Key×V:=(.inl p.1,.int p.2)
def Lm(K:W.Frag)(G H:Hp):SV->V->Prop
 |.exc nm,v=>∃a C,v=.ref a/\DS K nm C/\G a=some (.ext<|Ey a C)
 |.im p,v=>Rep K G p v
 |.own ps,v=>∃a vs,v=.ref a/\G a=none/\H a=some (.lst vs)/\AW K G ps vs
 |.EG t ks xs,v=>∃a AL,v=.ref a/\G a=none/\H a=some (.dT AL)/\AL.map (·.1)=ks.map Cd/\AW K G xs (AL.map (·.2))/\∀b,t=some b->a=b
 |.Mh AL,v=>∃a,v=.ref a/\G a=none/\H a=some (.dK<|AL.map wz)
theorem Lm.step{K:W.Frag}{G H G' H':Hp}{sv:SV}{v:V}(s:Aq G H G' H')(h:Lm K G H sv v):Lm K G' H' sv v:=by
 cases sv with
 |exc nm=>
  obtain⟨a,C,e,n,q⟩:=h;exact⟨a,C,e,n,s.gg _ _ q⟩
 |im p=>exact Rep.same s.gg h
 |own ps=>
  obtain⟨a,vs,e,g,q,r⟩:=h;exact⟨a,vs,e,s.ex a (.l q) g,s.hh _ _ q,AW.same s.gg r⟩
 |EG t ks xs=>
  obtain⟨a,vs,e,g,q,k,r,z⟩:=h;exact⟨a,vs,e,s.ex a (.d q) g,s.hh _ _ q,k,AW.same s.gg r,z⟩
 |Mh AL=>
  obtain⟨a,e,g,q⟩:=h;exact⟨a,e,s.ex a (.k q) g,s.hh _ _ q⟩
noncomputable def SV.FD:SV->Bool
 |.own _=>true
 |.EG _ _ _=>true
 |.Mh _=>true
 |_=>false
structure B6(K:W.Frag)(G H:Hp)(ρ:AS)(σ:St):Prop where
 sub:Ai G H
 slot:∀(i:Nat)(sv:SV),ρ[i]? = some (some sv)->∃v,σ[i]? = some (some v)/\Lm K G H sv v
 apart:∀(i j:Nat)(s t:SV)(a b:Addr),i≠j->ρ[i]? = some (some s)->s.FD=true->ρ[j]? = some (some t)->t.FD=true->σ[i]? = some (some<|.ref a)->σ[j]? = some (some<|.ref b)->a≠b
 len:ρ.length=σ.length
theorem B6.step{K:W.Frag}{G H G' H':Hp}{ρ:AS}{σ:St}(s:Aq G H G' H')(h:B6 K G H ρ σ):B6 K G' H' ρ σ:=
 ⟨s.sub,λi sv e=>let ⟨v,e1,q⟩:=h.slot i sv e;⟨v,e1,q.step s⟩,h.apart,h.len⟩
set_option tactic.hygienic true
abbrev EF:=AS->Option RV
def tX(K:W.Frag)(f:EF):TE:=λσ H Q=>∃G ρ r,B6 K G H ρ σ/\f ρ=some r/\∀v G' H',Aq G H G' H'->Bu K H G' H' r v->Q v H'
def PX(X:Cx)(e:Expr)(f:EF):Prop:=PE X e<|tX X.K f
abbrev BF:=AS->Option Bool
def Fs(K:W.Frag)(f:BF):TT:=λσ H Q=>∃G ρ b,B6 K G H ρ σ/\f ρ=some b/\∀G' H',Aq G H G' H'->Q b H'
def DT(X:Cx)(e:Expr)(f:BF):Prop:=PT X e<|Fs X.K f
def IL(X:Cx)(e:Expr)(f:BF):Prop:=PW X e<|Fs X.K f
abbrev AF:=AS->Option (List RV)
def D6(K:W.Frag)(H G' H':Hp):List RV->List V->Prop:=Paired<|Bu K H G' H'
def YH(K:W.Frag)(f:AF):TA:=λσ H Q=>∃G ρ rs,B6 K G H ρ σ/\f ρ=some rs/\∀vs G' H',Aq G H G' H'->D6 K H G' H' rs vs->Q vs H'
def CY(X:Cx)(es:List Expr)(f:AF):Prop:=PA X es<|YH X.K f
theorem PE.imp{X:Cx}{e:Expr}{t t':TE}(h:PE X e t)(i:∀σ H Q,t' σ H Q->t σ H Q):PE X e t':=λAB s σ H Q I q=>h AB s σ H Q I<|i σ H Q q
theorem PT.imp{X:Cx}{e:Expr}{t t':TT}(h:PT X e t)(i:∀σ H Q,t' σ H Q->t σ H Q):PT X e t':=λAB s σ H Q I q=>h AB s σ H Q I<|i σ H Q q
theorem PW.imp{X:Cx}{e:Expr}{t t':TT}(h:PW X e t)(i:∀σ H Q,t' σ H Q->t σ H Q):PW X e t':=λz AB s σ H Q I q=>h z AB s σ H Q I<|i σ H Q q
theorem PA.imp{X:Cx}{es:List Expr}{t t':TA}(h:PA X es t)(i:∀σ H Q,t' σ H Q->t σ H Q):PA X es t':=λpos AB s σ H Q I q=>h pos AB s σ H Q I<|i σ H Q q
theorem PS.imp{X:Cx}{st:Stmt}{t t':TS}(h:PS X st t)(i:∀D σ H,t' D σ H->t D σ H):PS X st t':=λAB s σ H D I q=>h AB s σ H D I<|i D σ H q
theorem CP.imp{X:Cx}{st:List Stmt}{t t':TS}(h:CP X st t)(i:∀D σ H,t' D σ H->t D σ H):CP X st t':=λAB s σ H D I q=>h AB s σ H D I<|i D σ H q
noncomputable def AE(i:Nat):EF:=λρ=>match ρ[i]? with|some (some<|.im p)=>some (.cl p)|some (some<|.own ps)=>some (.bo ps)|some (some<|.EG _ ks xs)=>some (.bd ks xs)|_=>none
noncomputable def fC(p:PV):EF:=λ_=>some<|.cl p
section
variable{X:Cx}{a b c e:Expr}{es:List Expr}{fa fb fc f:EF}{pos:Pos}
theorem ABc(i:Nat){x:Str}{pos:Pos}(Z:X.N[i]? = some x)(Y:Ez X.env.scope x)(hd:(x==("__debug__"))=false) (O:(x==("__classdict__"))=false):PX X (.Name x pos)<|AE i:=by
 refine PE.imp (Hr Z Y hd O) ?_;rintro σ H Q ⟨G,ρ,r,R,e,q⟩;unfold AE at e;split at e
 .rename_i p hp;cases e;obtain⟨v,z,y⟩:=R.slot i _ hp;exact⟨v,z,q v G H (Aq.refl R.sub) y⟩
 .rename_i ps hp;cases e;obtain⟨v,z,y⟩:=R.slot i _ hp;exact⟨v,z,q v G H (Aq.refl R.sub) y⟩
 .rename_i ks xs hp;cases e;obtain⟨v,z,a,vs,e,g,w,k,r,_⟩:=R.slot i _ hp;exact⟨v,z,q v G H (Aq.refl R.sub) ⟨a,vs,e,g,w,k,r⟩⟩
 .contradiction
set_option tactic.hygienic false
theorem Mp{v:V}{p:PV}(h:PE X e<|tC v)(z:∀G,Rep X.K G p v):PX X e<|fC p:=
 PE.imp h (by rintro σ H Q ⟨G,ρ,r,R,e,q⟩;cases e;exact q v G H (Aq.refl R.sub)<|z G)
theorem ABG{i:Int}{j}{pos}:PX X (.Constant (.int i) j pos)<|fC<|.int i:=Mp jQ λ_=>by rfl
theorem AA0{i:Bool}{j}{pos}:PX X (.Constant (.bool i) j pos)<|fC<|.bl i:=Mp zg λ_=>by rfl
theorem ABY{i:Str}{j}{pos}:PX X (.Constant (.str i) j pos)<|fC<|.str i:=Mp jR λ_=>by rfl
theorem ABS{j}{pos}:PX X (.Constant .none j pos)<|fC .Au:=Mp zx λ_=>by rfl
noncomputable def f2(k:RV->RV->Option RV)(fa fb:EF):EF:=λρ=>match fa ρ with|none=>none|some x=>match fb ρ with|none=>none|some y=>k x y
def Dg(K:W.Frag)(k:RV->RV->Option RV)(r:R2):Prop:=
 ∀(x y z:RV)(q G H:Hp)(p Z:V)(Q:VK),Ai G H->Ai q H->k x y=some z->Bu K q G H x p->Bu K q G H y Z->(∀v G' H',Aq G H G' H'->Bu K q G' H' z v->Q v H')->r p Z H Q
theorem TB{K:W.Frag}{k:RV->RV->Option RV}{r:R2}(Z:Dg K k r){σ:St}{H:Hp}{Q:VK}(h:tX K (f2 k fa fb) σ H Q):Pe r (tX K fa) (tX K fb) σ H Q:=by
 obtain⟨G,ρ,z,R,e,q⟩:=h;unfold f2 at e;cases ea:fa ρ with
 |none=>rw[ea]at e;contradiction
 |some x=>
  rw[ea]at e;cases p:fb ρ with
  |none=>rw[p]at e;contradiction
  |some y=>
   rw[p]at e;refine⟨G,ρ,x,R,ea,λY O H1 s1 P=>⟨O,ρ,y,R.step s1,p,λD F B s2 S=>?_⟩⟩;exact Z x y z H F B Y D Q s2.sub (s1.hh.trans s2.hh) e (P.step s2) (S.back s1.hh) λv G' H' T C=>q v G' H' ((s1.trans s2).trans T) C
theorem PM{op:Operator}{k:RV->RV->Option RV}{r:R2}(ho:Be X (binaryOp op) r)(z:Dg X.K k r)(ha:PX X a fa)(y:PX X b fb):PX X (.BinOp a op b pos)<|f2 k fa fb:=
 PE.imp (AAA ho ha y) λ_ _ _ h=>TB z h
def scalar:V->PV->Prop
 |.int i,.int j=>i=j
 |.bl i,.bl j=>i=j
 |.str i,.str j=>i=j
 |.Au,.Au=>True
 |_,_=>False
theorem scalar.rep{K:W.Frag}{G:Hp}{v:V}{p:PV}(h:scalar v p):Rep K G p v:=by cases v<;>cases p<;>simp only[scalar]at h<;>first|exact h.elim|(subst h;rfl)|(rfl)
set_option tactic.hygienic true
theorem Bu.int{K:W.Frag}{z G H:Hp}{i:Int}{v:V}(h:Bu K z G H (.cl<|.int i) v):v=.int i:=by have h':=h;exact h'
theorem Bu.bl{K:W.Frag}{z G H:Hp}{i:Bool}{v:V}(h:Bu K z G H (.cl<|.bl i) v):v=.bl i:=by have h':=h;exact h'
noncomputable def kI(C:Int->Int->Prop)[∀i j,Decidable<|C i j](g:Int->Int->PV):RV->RV->Option RV
 |.cl (.int i),.cl (.int j)=>if C i j then some (.cl<|g i j)else none
 |_,_=>none
theorem XJ{K:W.Frag}{C:Int->Int->Prop}[∀i j,Decidable<|C i j]{v:Int->Int->Prop}{g:Int->Int->PV}{g':Int->Int->V}(p:∀i j,C i j->v i j)(Z:∀i j,C i j->scalar (g' i j) (g i j)):Dg K (kI C g)<|rI v g':=by
 intro x y z H0 G H vx vy Q sub _ e Y O q;unfold kI at e;split at e
 .rename_i i j;split at e
  .rename_i hc;cases e;exact⟨i,j,Y.int,O.int,p i j hc,q _ G H (Aq.refl sub) (Z i j hc).rep⟩
  .contradiction
 .contradiction
theorem PB{K:W.Frag}{g:Int->Int->PV}{g':Int->Int->V}(v:∀i j,scalar (g' i j)<|g i j):Dg K (kI (λ_ _=>True) g)<|JI g':=by
 intro x y z H0 G H vx vy Q sub _ e p Z q;unfold kI at e;split at e
 .rename_i i j;cases e;exact⟨i,j,p.int,Z.int,q _ G H (Aq.refl sub) (v i j).rep⟩
 .contradiction
end
end L2.PL
namespace L2.PL
open PySem PySem.Spec PyProof.Rows
section
set_option tactic.hygienic true
variable{X:Cx}{a b c e:Expr}{es:List Expr}{fa fb fc f:EF}{pos:Pos}
instance{i j:Int}:Decidable<|FV i j:=by unfold FV;infer_instance
instance{i j:Int}:Decidable<|NF i j:=by unfold NF;infer_instance
def BK:RV->RV->Option RV:=kI (λ_ _=>True) λi j=>.int<|i-j
def Dq:RV->RV->Option RV:=kI FV λi j=>.int<|i*j
def DW:RV->RV->Option RV:=kI NF λi j=>.int<|i / j
def BU:RV->RV->Option RV:=kI (λ_ j=>0<j) λi j=>.int<|i%j
theorem ABZ(ha:PX X a fa)(z:PX X b fb):PX X (.BinOp a .Sub b pos)<|f2 BK fa fb:=PM zA (PB λ_ _=>rfl) ha z
theorem ABQ(ha:PX X a fa)(z:PX X b fb):PX X (.BinOp a .Mult b pos)<|f2 Dq fa fb:=PM yx (XJ (λ_ _ h=>h) λ_ _ _=>rfl) ha z
theorem ABA(ha:PX X a fa)(z:PX X b fb):PX X (.BinOp a .FloorDiv b pos)<|f2 DW fa fb:=PM yj (XJ (λ_ _ h=>h) λ_ _ _=>rfl) ha z
theorem ABP(ha:PX X a fa)(z:PX X b fb):PX X (.BinOp a .Mod b pos)<|f2 BU fa fb:=PM yw (XJ (λ_ _ h=>h) λ_ _ _=>rfl) ha z
def Xf:R2:=λx y H Q=>∃l b xs zs,x=.ref l/\y=.ref b/\Rd H l (.lst xs)/\Rd H b (.lst zs)/\xs.length+zs.length<=sizeLine/\∀p,H p=none->Q (.ref p) (upd H p<|.lst<|xs++zs)
theorem yh:Be X (binaryOp .Add) Xf:=by
 intro AB s σ H x y v u Q I Y O h;obtain⟨l,b,xs,zs,rfl,rfl,D,F,hz,q⟩:=h;cases Y;cases O;obtain⟨z,its,n,r,e⟩:=D.ok I.AZ;obtain⟨z2,p,n2,Z,R⟩:=F.ok I.AZ;have hl:=r.length;have K4:=Z.length;refine PySem.P.add_list e R ?_ (by rw[AF9,AF9];lia);have ea:its.toArray++p.toArray=(its++p).toArray:=AFn
 rw[ea];exact⟨.ref _,_,I.xI (r.append Z) (by rw[AGA];omega),rfl,q _ I.fresh⟩
def OZ(x y:RV):Option RV:=match x.list,y.list with
 |some xs,some ys=>if xs.length+ys.length<=1000 then some (.fr<|xs++ys)else none
 |_,_=>none
theorem small{n:Nat}(h:n<=1000):n<=sizeLine:=AH0<|kP h
theorem AW.len{K:W.Frag}{H:Hp}{ps:List PV}{vs:List V}(h:AW K H ps vs):ps.length=vs.length:=Paired.length h.paired
theorem ya{K:W.Frag}:Dg K OZ Xf:=by
 intro x y z H0 G H vx vy Q sub Y e O P q;unfold OZ at e;split at e
 .rename_i xs ys ex D;split at e
  .cases e;obtain⟨l,vs,rfl,F,v⟩:=O.list sub ex;obtain⟨b,us,rfl,R,Z⟩:=P.list sub D;have e1:=v.len;have e2:=Z.len;refine⟨l,b,vs,us,rfl,rfl,F,R,small U,λp hp=>?_⟩;refine q (.ref p) G _ (Aq.Hq sub _ hp) ?_;refine⟨p,vs++us,rfl,Y.free hp,sub.free hp,DE,AW.of<|Mi v.paired Z.paired⟩
  .contradiction
 .contradiction
def A4(x y:RV):Option RV:=match x,y with
 |.cl (.int i),.cl (.int j)=>some<|.cl<|.int<|i+j
 |x,y=>OZ x y
theorem yZ{K:W.Frag}:Dg K A4 (λx y H Q=>JI (λi j=>.int<|i+j) x y H Q\/Xf x y H Q):=by
 intro x y z v G H p Z Q sub Y e O P q;unfold A4 at e;split at e
 .rename_i i j;exact .inl<|PB (g:=λi j=>.int<|i+j) (g':=λi j=>.int<|i+j) (λ_ _=>rfl) (.cl<|.int i) (.cl<|.int j) z v G H p Z Q sub Y (by simpa[kI]using e) O P q
 .exact .inr<|ya _ _ z v G H p Z Q sub Y e O P q
theorem AAy(ha:PX X a fa)(z:PX X b fb):PX X (.BinOp a .Add b pos)<|f2 A4 fa fb:=PM (yg.or yh) yZ ha z
noncomputable def L3(fa:EF):EF:=λρ=>match fa ρ with|some (.cl<|.int i)=>some (.cl<|.int (-i))|_=>none
theorem ABR(ha:PX X a fa):PX X (.UnaryOp .USub a pos)<|L3 fa:=PE.imp (jS lK ha) (by
 rintro σ H Q ⟨G,ρ,r,R,e,q⟩;unfold L3 at e;split at e
 .rename_i i ea;cases e;exact⟨G,ρ,_,R,ea,λv G' H' s rv=>⟨i,rv.int,q _ G' H' s<|by rfl⟩⟩
 .contradiction)
def Cc:RV->RV->Option RV:=kI (λ_ _=>True) λi j=>.bl<|decide (i<j)
def Cs:RV->RV->Option RV:=kI (λ_ _=>True) λi j=>.bl<|decide (i<=j)
def B3:RV->RV->Option RV:=kI (λ_ _=>True) λi j=>.bl<|decide (j<i)
structure Ck(X:Cx)(op:CmpOp)(k:RV->RV->Option RV):Prop where
 ex:∃r,Be X (compareOp op) r/\Dg X.K k r
theorem pM:Ck X .Lt Cc:=⟨_,yu,PB λ_ _=>rfl⟩
theorem pL:Ck X .LtE Cs:=⟨_,yr,PB λ_ _=>rfl⟩
theorem pG:Ck X .Gt B3:=⟨_,yk,PB λ_ _=>rfl⟩
theorem AA5{op:CmpOp}{k:RV->RV->Option RV}(hc:Ck X op k)(ha:PX X a fa)(z:PX X b fb)(hm:behindInMarks op b=false):PX X (.Compare a [op] [b] pos)<|f2 k fa fb:=by obtain⟨r,ho,y⟩:=hc.ex;exact PE.imp (zm ho ha z hm) λ_ _ _ h=>TB y h
noncomputable def AU(f:EF):BF:=λρ=>match f ρ with|some (.cl<|.bl b)=>some b|_=>none
theorem TF{K:W.Frag}{σ:St}{H:Hp}{Q:Bool->Hp->Prop}(h:Fs K (AU f) σ H Q):tX K f σ H λx H'=>∃k,x=.bl k/\Q k H':=by
 obtain⟨G,ρ,r,R,e,q⟩:=h;unfold AU at e;split at e
 .rename_i b z;cases e;exact⟨G,ρ,_,R,z,λv G' H' s rv=>⟨_,rv.bl,q G' H' s⟩⟩
 .contradiction
theorem ACC{op:CmpOp}{k:RV->RV->Option RV}(hc:Ck X op k)(ha:PX X a fa)(z:PX X b fb)(hm:behindInMarks op b=false):DT X (.Compare a [op] [b] pos)<|AU<|f2 k fa fb:=by obtain⟨r,ho,y⟩:=hc.ex;exact PT.imp (AAl ho ha z hm) λ_ _ _ h=>TB y<|TF h
noncomputable def E8(k q:RV->RV->Option RV)(fa fb fc:EF):EF:=λρ=>match fa ρ,fb ρ with
 |some x,some y=>match k x y with
  |some (.cl<|.bl true)=>(match fc ρ with|some z=>q y z|none=>none)
  |some (.cl<|.bl false)=>some<|.cl<|.bl false
  |_=>none
 |_,_=>none
theorem k8{K:W.Frag}{k B:RV->RV->Option RV}{r S:R2}(T:Dg K k r)(BE:Dg K B S){σ:St}{H:Hp}{Q:VK}(h:tX K (E8 k B fa fb fc) σ H Q):YB r S (tX K fa) (tX K fb) (tX K fc) σ H Q:=by
 obtain⟨G,ρ,z,R,e,q⟩:=h;unfold E8 at e;split at e
 .rename_i x y ea eb;refine⟨G,ρ,x,R,ea,λC G1 H1 s1 E=>⟨G1,ρ,y,R.step s1,eb,λY I n s2 O=>?_⟩⟩;split at e
  .rename_i P;cases D:fc ρ with
   |none=>rw[D]at e;contradiction
   |some w=>
    rw[D]at e;refine T x y _ H I n C Y _ s2.sub (s1.hh.trans s2.hh) P (E.step s2) (O.back s1.hh) λv F t p rv=>⟨true,rv.bl,?_⟩;refine⟨F,ρ,w,(R.step s1).step<|s2.trans p,D,λvw G4 H4 Z DD=>?_⟩;exact BE y w z H G4 H4 Y vw Q Z.sub (((s1.trans s2).trans p).trans Z).hh e ((O.back s1.hh).step<|p.trans Z) (DD.back ((s1.trans s2).trans p).hh) λv G5 H5 s5 LQ=>q v G5 H5 ((((s1.trans s2).trans p).trans Z).trans s5) LQ
  .rename_i P;cases e;refine T x y _ H I n C Y _ s2.sub (s1.hh.trans s2.hh) P (E.step s2) (O.back s1.hh) λv F t p rv=>⟨false,rv.bl,?_⟩;exact q _ F t ((s1.trans s2).trans p)<|by rfl
  .contradiction
 .contradiction
set_option tactic.hygienic false
theorem AA3{op z:CmpOp}{k y:RV->RV->Option RV}(hc:Ck X op k)(q:Ck X z y)(ha:PX X a fa)(v:PX X b fb)(p:PX X c fc)(hm:lastMarks [op,z] [b,c]=false) : PX X (.Compare a [op,z] [b,c] pos)<|E8 k y fa fb fc:=by obtain⟨r,ho,Z⟩:=hc.ex;obtain⟨r',Y,Q⟩:=q.ex;exact PE.imp (zj ho Y ha v p hm) λ_ _ _ h=>k8 Z Q h
theorem ACA{op z:CmpOp}{k y:RV->RV->Option RV}(hc:Ck X op k)(q:Ck X z y)(ha:PX X a fa)(v:PX X b fb)(p:PX X c fc)(hm:lastMarks [op,z] [b,c]=false) : DT X (.Compare a [op,z] [b,c] pos)<|AU<|E8 k y fa fb fc:=by obtain⟨r,ho,Z⟩:=hc.ex;obtain⟨r',Y,Q⟩:=q.ex;exact PT.imp (AAj ho Y ha v p hm) λ_ _ _ h=>k8 Z Q<|TF h
noncomputable def Dh(t u:BF):BF:=λρ=>match t ρ with|some true=>u ρ|some false=>some false|none=>none
noncomputable def DJ(t u:BF):BF:=λρ=>match t ρ with|some true=>some true|some false=>u ρ|none=>none
noncomputable def Cz(t:BF):BF:=λρ=>(t ρ).map (!·)
variable{ta tb tc:BF}{BB:List Expr}
theorem AD1{K:W.Frag}{σ:St}{H:Hp}{Q:Bool->Hp->Prop}(h:Fs K (Dh ta tb) σ H Q):km (Fs K ta) (Fs K tb) σ H Q:=by
 obtain⟨G,ρ,r,R,e,q⟩:=h;unfold Dh at e;split at e
 .rename_i ea;refine⟨G,ρ,true,R,ea,λz y s1=>?_⟩;exact⟨z,ρ,r,R.step s1,e,λv p s2=>q v p<|s1.trans s2⟩
 .rename_i ea;cases e;refine⟨G,ρ,false,R,ea,λz y s1=>?_⟩;exact q z y s1
 .contradiction
theorem AD2{K:W.Frag}{σ:St}{H:Hp}{Q:Bool->Hp->Prop}(h:Fs K (DJ ta tb) σ H Q):kx (Fs K ta) (Fs K tb) σ H Q:=by
 obtain⟨G,ρ,r,R,e,q⟩:=h;unfold DJ at e;split at e
 .rename_i ea;cases e;refine⟨G,ρ,true,R,ea,λz y s1=>?_⟩;exact q z y s1
 .rename_i ea;refine⟨G,ρ,false,R,ea,λz y s1=>?_⟩;exact⟨z,ρ,r,R.step s1,e,λv p s2=>q v p<|s1.trans s2⟩
 .contradiction
theorem ACI(ha:DT X a ta):IL X (.BoolOp .And [a] pos) ta:=AAv ha
theorem ACK(ha:DT X a ta):IL X (.BoolOp .Or [a] pos) ta:=AAx ha
theorem ACH(ha:DT X a ta)(z:IL X (.BoolOp .And (b::BB) pos) tb):IL X (.BoolOp .And (a::b::BB) pos)<|Dh ta tb:=PW.imp (AAu ha z) λ_ _ _ h=>AD1 h
theorem ACJ(ha:DT X a ta)(z:IL X (.BoolOp .Or (b::BB) pos) tb):IL X (.BoolOp .Or (a::b::BB) pos)<|DJ ta tb:=PW.imp (AAw ha z) λ_ _ _ h=>AD2 h
theorem ACG(h:IL X e ta):DT X e ta:=h.pt
theorem ACE(ha:DT X a ta):DT X (.UnaryOp .Not a pos)<|Cz ta:=PT.imp (AAm ha) (by
 rintro σ H Q ⟨G,ρ,r,R,e,q⟩;unfold Cz at e;cases ea:ta ρ with
 |none=>rw[ea]at e;contradiction
 |some k=>
  rw[ea]at e;cases e;exact⟨G,ρ,k,R,ea,λz y s1=>q z y s1⟩)
theorem ACF(ha:PX X a fa)(he:∀whole,isTrue a X.env whole=(do let v<-whole;standAt a.pos;holding [v] (truthy v))):DT X a<|AU fa:=
 PT.imp (AAo ha he) λ_ _ _ h=>TF h
noncomputable def DV(f g:EF):EF:=λρ=>match f ρ with|some (.cl<|.bl true)=>g ρ|some (.cl<|.bl false)=>some (.cl<|.bl false)|_=>none
noncomputable def Ef(f g:EF):EF:=λρ=>match f ρ with|some (.cl<|.bl false)=>g ρ|some (.cl<|.bl true)=>some (.cl<|.bl true)|_=>none
noncomputable def Kq(f:EF):EF:=λρ=>match f ρ with|some (.cl<|.bl b)=>some (.cl<|.bl (!b))|_=>none
theorem ABU{op}(h:PX X a fa):PX X (.BoolOp op [a] pos) fa:=z9 h
theorem AAz(ha:PX X a fa)(p:PX X (.BoolOp .And (b::BB) pos) fb):PX X (.BoolOp .And (a::b::BB) pos)<|DV fa fb:=PE.imp (zf ha p) (by
 rintro σ H Q ⟨G,ρ,r,R,e,q⟩;unfold DV at e;split at e
 .rename_i ea;refine⟨G,ρ,_,R,ea,λv z y s1 rv=>⟨true,rv.bl,?_⟩⟩;exact⟨z,ρ,r,R.step s1,e,λZ Y O s2 P=>q Z Y O (s1.trans s2)<|P.back s1.hh⟩
 .rename_i ea;cases e;refine⟨G,ρ,_,R,ea,λv z y s1 rv=>⟨false,rv.bl,?_⟩⟩;exact q _ z y s1<|by rfl
 .contradiction)
theorem ABV(ha:PX X a fa)(p:PX X (.BoolOp .Or (b::BB) pos) fb):PX X (.BoolOp .Or (a::b::BB) pos)<|Ef fa fb:=PE.imp (AAB ha p) (by
 rintro σ H Q ⟨G,ρ,r,R,e,q⟩;unfold Ef at e;split at e
 .rename_i ea;refine⟨G,ρ,_,R,ea,λv z y s1 rv=>⟨false,rv.bl,?_⟩⟩;exact⟨z,ρ,r,R.step s1,e,λZ Y O s2 P=>q Z Y O (s1.trans s2)<|P.back s1.hh⟩
 .rename_i ea;cases e;refine⟨G,ρ,_,R,ea,λv z y s1 rv=>⟨true,rv.bl,?_⟩⟩;exact q _ z y s1<|by rfl
 .contradiction)
set_option tactic.hygienic true
theorem ABT(ha:PX X a fa):PX X (.UnaryOp .Not a pos)<|Kq fa:=PE.imp (zy ha) (by
 rintro σ H Q ⟨G,ρ,r,R,e,q⟩;unfold Kq at e;split at e
 .rename_i b ea;cases e;exact⟨G,ρ,_,R,ea,λv z y s1 rv=>⟨b,rv.bl,q _ z y s1<|by rfl⟩⟩
 .contradiction)
noncomputable def Ij(t:BF)(f g:EF):EF:=λρ=>match t ρ with|some true=>f ρ|some false=>g ρ|none=>none
theorem ABE(hc:DT X c tc)(ha:PX X a fa)(O:PX X b fb):PX X (.IfExp c a b pos)<|Ij tc fa fb:=PE.imp (zu hc ha O) (by
 rintro σ H Q ⟨G,ρ,r,R,e,q⟩;unfold Ij at e;split at e
 .rename_i z;refine⟨G,ρ,true,R,z,λy P s1=>?_⟩;exact⟨y,ρ,r,R.step s1,e,λv p Z s2 Y=>q v p Z (s1.trans s2)<|Y.back s1.hh⟩
 .rename_i z;refine⟨G,ρ,false,R,z,λy P s1=>?_⟩;exact⟨y,ρ,r,R.step s1,e,λv p Z s2 Y=>q v p Z (s1.trans s2)<|Y.back s1.hh⟩
 .contradiction)
noncomputable def AN:AF:=λ_=>some []
noncomputable def AG(f:EF)(g:AF):AF:=λρ=>match f ρ,g ρ with|some x,some xs=>some (x::xs)|_,_=>none
variable{g:AF}
theorem Xe:CY X [] AN:=PA.imp Gq (by rintro σ H Q ⟨G,ρ,r,R,e,q⟩;cases e;exact q [] G H (Aq.refl R.sub) .nil)
theorem D6.back{K:W.Frag}{z H G' H':Hp}(s:Ai z H):∀{rs:List RV}{vs:List V},D6 K H G' H' rs vs->D6 K z G' H' rs vs
 |_,_,.nil=>.nil
 |_,_,.cons r t=>.cons (r.back s)<|D6.back s t
theorem PN(ha:PX X e f)(z:CY X es g)(hs:starEach (e::es) X.env=(false,eval e X.env)::starEach es X.env:=by rfl):CY X (e::es)<|AG f g:=PA.imp (FN ha z hs) (by
 rintro σ H Q ⟨G,ρ,r,R,e,q⟩;unfold AG at e;split at e
 .rename_i x xs ea y;cases e;refine⟨G,ρ,x,R,ea,λv p H1 s1 rv=>⟨p,ρ,xs,R.step s1,y,λvs Z Y s2 rs=>?_⟩⟩;exact q (v::vs) Z Y (s1.trans s2)<|.cons (rv.step s2)<|D6.back s1.hh rs
 .contradiction)
def CZ:List RV->Option (List PV)
 |[]=>some []
 |r::rs=>match r.clean,CZ rs with|some p,some ps=>some (p::ps)|_,_=>none
theorem Kg{K:W.Frag}{H G' H':Hp}(sub:Ai G' H'):∀{rs:List RV}{vs:List V}{ps:List PV},D6 K H G' H' rs vs->CZ rs=some ps->AW K (Eg G' H H') ps vs:=by
 intro rs vs ps h
 induction h generalizing ps with
 |nil=>intro e;cases e;rfl
 |cons r t ih=>
  intro e;unfold CZ at e;split at e
  .rename_i p ps z y;cases e;exact⟨_,_,rfl,r.clean sub z,ih y⟩
  .contradiction
def A5(g:AF):EF:=λρ=>match g ρ with|some rs=>(match CZ rs with|some ps=>if ps.length<=1000 then some (.cl<|.tup ps)else none|none=>none)|none=>none
def Bj(g:AF):EF:=λρ=>match g ρ with|some rs=>(match CZ rs with|some ps=>if ps.length<=1000 then some (.fr ps)else none|none=>none)|none=>none
theorem ABa{x1}(h:CY X es g):PX X (.Tuple es x1 pos)<|A5 g:=PE.imp (XZ h) (by
 rintro σ H Q ⟨G,ρ,r,R,e,q⟩;unfold A5 at e;split at e
 .rename_i rs v;split at e
  .rename_i ps Z;split at e
   .cases e;refine⟨G,ρ,rs,R,v,λvs G1 H1 s1 rv=>?_⟩;have z:=Kg s1.sub rv Z;have hl:=z.len;refine⟨small U,λp hp=>?_⟩;have s2:=s1.all;have y:=Aq.new s2.sub (.tup vs) hp;refine q (.ref p) _ _ (s2.trans y) ?_;exact⟨p,vs,rfl,.inl<|.inl DE,AW.same y.gg z⟩
   .contradiction
  .contradiction
 .contradiction)
theorem ABO(h:CY X es g):PX X (.List es pos)<|Bj g:=PE.imp (zw h) (by
 rintro σ H Q ⟨G,ρ,r,R,e,q⟩;unfold Bj at e;split at e
 .rename_i rs y;split at e
  .rename_i ps v;split at e
   .cases e;refine⟨G,ρ,rs,R,y,λvs G1 H1 s1 rv=>?_⟩;have z:=Kg s1.sub rv v;have hl:=z.len;refine⟨small U,λp hp=>?_⟩;have s2:=s1.all;refine q (.ref p) _ _ (s2.trans<|Aq.Hq s2.sub (.lst vs) hp) ?_;exact⟨p,vs,rfl,s1.hh.free hp,s2.sub.free hp,DE,z⟩
   .contradiction
  .contradiction
 .contradiction)
end
section
variable{X:Cx}{a b c e:Expr}{es:List Expr}{fa fb fc f:EF}{g:AF}{pos:Pos}
def jo(K:W.Frag):R2:=λx y H Q=>jm K x y H Q\/jr K x y H Q
theorem wH:JT X<|jo X.K:=wI.or wJ
def RV.seq:RV->Option (List PV)
 |.cl (.tup ps)=>some ps
 |.cl (.rd ps)=>some ps
 |r=>r.list
def Am(x y:RV):Option RV:=match x.seq,y with
 |some ps,.cl (.int i)=>(CM ps i).map .cl
 |_,_=>none
theorem AW.CM{K:W.Frag}{H:Hp}{ps:List PV}{vs:List V}{i:Int}{p:PV}(h:AW K H ps vs)(e:CM ps i=some p):∃v,CM vs i=some v/\Rep K H p v:=by
 unfold L2.CM at e ⊢;rw[<-h.len];cases z:Gh ps.length i with
 |none=>rw[z]at e;contradiction
 |some j=>
  rw[z]at e;exact Mj h.paired e
theorem Bu.seq{K:W.Frag}{H G' H':Hp}{r:RV}{v:V}{ps:List PV}(sub:Ai G' H')(h:Bu K H G' H' r v)(e:r.seq=some ps):∃a vs,v=.ref a/\(CF K H' a vs\/Bi K H' a vs)/\AW K G' ps vs:=by
 by_cases z:∃qs,r=.cl (.tup qs)
 .obtain⟨qs,rfl⟩:=z;simp only[RV.seq,AGg]at e;subst e;have h':=h;obtain⟨a,vs,e,q,r⟩:=h';exact⟨a,vs,e,.inr<|Bi.same sub q,r⟩
 by_cases hd:∃qs,r=.cl (.rd qs)
 .obtain⟨qs,rfl⟩:=hd;simp only[RV.seq,AGg]at e;subst e;have h':=h;obtain⟨a,vs,e,q,r⟩:=h';exact⟨a,vs,e,.inl<|Ai.seq sub q,r⟩
 .have y:r.list=some ps:=by
   cases r with
   |cl p=>cases p<;>first|exact e|exact absurd ⟨_,rfl⟩ z|exact absurd ⟨_,rfl⟩ hd
   |bo ps=>exact e
   |fr ps=>exact e
   |bd _ _=>exact e
   |fd _ _=>exact e
   |tf _ _=>exact e
  obtain⟨a,vs,e,q,r⟩:=h.list sub y;exact⟨a,vs,e,.inl<|.inl q,r⟩
set_option tactic.hygienic true
theorem yd{K:W.Frag}:Dg K Am<|jo K:=by
 intro x y z H0 G H vx vy Q sub sh e F O q;unfold Am at e;split at e
 .rename_i ps i ex;cases Y:CM ps i with
  |none=>rw[Y]at e;contradiction
  |some p=>
   rw[Y]at e;cases e;obtain⟨a,vs,rfl,Z,R⟩:=F.seq sub ex;obtain⟨v,P,rv⟩:=R.CM Y;have D:=q v G H (Aq.refl sub) rv;rcases Z with Z|Z
   .exact .inl ⟨a,vs,i,v,rfl,O.int,Z,P,D⟩
   .exact .inr ⟨a,vs,i,v,rfl,O.int,Z,P,D⟩
 .contradiction
theorem ABL(ha:PX X a fa)(z:PX X b fb)(hs:Yu b):PX X (.Subscript a b pos)<|f2 Am fa fb:=PE.imp (zv wH ha z hs) λ_ _ _ h=>TB yd h
abbrev OF:=AS->Option (Option Int)
noncomputable def GS:OF:=λ_=>some none
noncomputable def F1(f:EF):OF:=λρ=>match f ρ with|some (.cl<|.int i)=>some (some i)|_=>none
def tXO(K:W.Frag)(f:OF):TO:=λσ H Q=>∃G ρ r,B6 K G H ρ σ/\f ρ=some r/\∀G' H',Aq G H G' H'->Q r H'
def Lj(X:Cx)(e:Option Expr)(f:OF):Prop:=PO X e<|tXO X.K f
theorem PO.imp{X:Cx}{e:Option Expr}{t t':TO}(h:PO X e t)(i:∀σ H Q,t' σ H Q->t σ H Q):PO X e t':=λAB s σ H Q I q=>h AB s σ H Q I<|i σ H Q q
theorem ABm:Lj X none GS:=PO.imp AAT (by rintro σ H Q ⟨G,ρ,r,R,e,q⟩;cases e;exact q G H<|Aq.refl R.sub)
theorem ABn(h:PX X e f):Lj X (some e)<|F1 f:=PO.imp (AAU h) (by
 rintro σ H Q ⟨G,ρ,r,R,e,q⟩;unfold F1 at e;split at e
 .rename_i i z;cases e;exact⟨G,ρ,_,R,z,λv G' H' s rv=>⟨i,rv.int,q G' H' s⟩⟩
 .contradiction)
def Lv(xs:List PV)(lo hi:Option Int):List PV:=(xs.drop<|HT.DO xs.length 0 lo).take<|HT.DO xs.length xs.length hi-HT.DO xs.length 0 lo
def F2(f:EF)(l u:OF):EF:=λρ=>match f ρ,l ρ,u ρ with
 |some x,some lo,some hi=>(match x.list with|some ps=>some (.fr<|Lv ps lo hi)|none=>none)
 |_,_,_=>none
theorem ABX{lo hi:Option Expr}{l u:OF}{Z:Pos}(he:PX X e f)(Y:Lj X lo l)(O:Lj X hi u):PX X (.Subscript e (.Slice lo hi none Z) pos)<|F2 f l u:=PE.imp (AAD ADH he Y O) (by
 rintro σ H Q ⟨G,ρ,r,R,e,q⟩;unfold F2 at e;split at e
 .rename_i x P D ex F B;split at e
  .rename_i ps S;cases e;refine⟨G,ρ,x,R,ex,λv T H1 s1 rv=>⟨T,ρ,P,R.step s1,F,λC H2 s2=>⟨C,ρ,D,(R.step s1).step s2,B,λG3 H3 z=>?_⟩⟩⟩;obtain⟨a,vs,rfl,E,y⟩:=(rv.step<|s2.trans z).list z.sub S;refine⟨a,vs,rfl,.inl E,λp hp=>?_⟩;refine q (.ref p) _ _ (((s1.trans s2).trans z).trans<|Aq.Hq z.sub _ hp) ?_;refine⟨p,_,rfl,((s1.trans s2).trans z).hh.free hp,z.sub.free hp,DE,?_⟩
   delta Lv QX
   rw[y.len];exact AW.of<|jH _<|jF _ y.paired
  .cases e
 .cases e)
def ADu(te:TE):TE:=λσ H Q=>te σ H λx z=>∃a xs,x=.ref a/\Rd z a (.lst xs)/\∀p,z p=none->Q (.ref p) (upd z p<|.lst xs.reverse)
theorem AAC{te:TE}{j p1 p2 p3}(he:PE X e te):PE X (.Subscript e (.Slice none none (some<|.UnaryOp .USub (.Constant (.int 1) j p1) p2) p3) pos)<|ADu te:=by intro AB s σ H Q I h;refine Subscript_<|Ag (he AB s σ H _ I h) ?_;rintro v s1 ⟨x,Y,P,D,F⟩;refine wpAny_Slice ?_;refine wpAny_pure ?_;refine wpAny_pure ?_;refine Ag (jS lK (jQ) AB s1 σ Y (λv R=>v=.int (-1)/\R=Y) P ⟨1,rfl,rfl,rfl⟩) ?_;rintro st p ⟨y,B,G,S,q3⟩;obtain⟨rfl,rfl⟩:=q3;obtain⟨t,rfl⟩:=S;obtain⟨a,xs,rfl,T,q⟩:=F;cases D;have Z:Inv X AB σ B {p with heap:=p.heap.push {cls:=.type "slice",data:=.fields #[.none,.none,.int (-1) t]}}:=G.kept λb C q=>Heap.get?_push_of_some _ q;obtain⟨z,its,n,r,e⟩:=T.ok Z.AZ;have hl:=r.length;have O:Heap.IsList (p.heap.push {cls:=.type "slice",data:=.fields #[.none,.none,.int (-1) t]}) a its.toArray:=⟨_,e,rfl,n,rfl⟩;refine tail_any O.typeIs slot_list_getitem.lookup ?_ (by with_unfolding_all rfl);refine wpAny_getItem_list_slice O (Heap.IsSliceOf.new ..) .none .none (.int _ _) AFn ?_ (by rw[AF9]<;>lia);rw[W.krv_pick];refine⟨.ref _,_,Z.laid (λb C q=>Heap.get?_push_of_some _ q) (AF5 _) ?_,rfl,q _<|Z.AZ.fresh<|AF5 _⟩;exact⟨by rw[AIa];exact z,_,0,r.reverse,Heap.get?_push_size _ rfl⟩
def GU(f:EF):EF:=λρ=>match f ρ with|some x=>(match x.list with|some ps=>some (.fr ps.reverse)|none=>none)|none=>none
theorem ABW{j p1 p2 p3}(he:PX X e f):PX X (.Subscript e (.Slice none none (some<|.UnaryOp .USub (.Constant (.int 1) j p1) p2) p3) pos)<|GU f:=PE.imp (AAC he) (by
 rintro σ H Q ⟨G,ρ,r,R,e,q⟩;unfold GU at e;split at e
 .rename_i x ex;split at e
  .rename_i ps z;cases e;refine⟨G,ρ,x,R,ex,λv G1 H1 s1 rv=>?_⟩;obtain⟨a,vs,rfl,y,Z⟩:=rv.list s1.sub z;refine⟨a,vs,rfl,y,λp hp=>?_⟩;exact q (.ref p) _ _ (s1.trans<|Aq.Hq s1.sub _ hp) ⟨p,_,rfl,s1.hh.free hp,s1.sub.free hp,DE,AW.of<|zX Z.paired⟩
  .contradiction
 .contradiction)
def Mw(K:W.Frag)(n:Nat)(F:List PV->Option RV):Sp:=λvs H Q _=>vs.length=n/\∃G ps r,Ai G H/\AW K G ps vs/\F ps=some r/\∀v G' H',Aq G H G' H'->Bu K H G' H' r v->Q v H'
def AY(F:List PV->Option RV)(g:AF):EF:=λρ=>match g ρ with|some rs=>(match CZ rs with|some ps=>F ps|none=>none)|none=>none
structure Fn(X:Cx)(x:Str)(n:Nat)(F:List PV->Option RV):Prop where
 ex:∃k f fd ps,Cw X.prog X.w X.K X.mg X.base EJ k f fd ps (Mw X.K n F)/\B7 k X.A/\X.mg x=some (.ref f)/\W.keepIn X.K (.ref f)=true/\Binds X.K fd ps []/\ps.length=n
theorem AA1{x:Str}{n:Nat}{F:List PV->Option RV}{p:Pos}(y:Fn X x n F)(ha:CY X (e::es) g)(hn:(e::es).length=n)(Z:Gl X x)(Y:(x==("__debug__"))=false)(he:starEach (e::es) X.env=(false,eval e X.env)::starEach es X.env)(O:(backTo pos<|starEach es X.env).any (·.1)=false) (P:∀ρ rs,g ρ=some rs->rs.length=n):PX X (.Call (.Name x p) (e::es) [] pos)<|AY F g:=by
 obtain⟨k,f,fd,ps,G,D,hm,B,S,vH⟩:=y.ex;refine PE.imp (XX G D Z hm B S .nil jO ha Y he O) ?_;rintro σ H Q ⟨G,ρ,r,R,e,q⟩;unfold AY at e;split at e
 .rename_i rs z;split at e
  .rename_i qs T;refine⟨G,ρ,rs,R,z,λvs C E s1 rv=>⟨?_,Eg C H E,qs,r,s1.all.sub,?_,e,λv G' H' s I=>q v G' H' (s1.all.trans s)<|I.back s1.hh⟩⟩
   .rw[AGt,<-P ρ rs z];exact(Paired.length rv).symm
   .rw[AGt];exact Kg s1.sub rv T
  .contradiction
 .contradiction
mutual
noncomputable def PV.flat:PV->Bool
 |.tup xs=>PV.Jo xs
 |.lst _=>false
 |.rd _=>false
 |.Co _ _=>false
 |_=>true
noncomputable def PV.Jo:List PV->Bool
 |[]=>true
 |x::xs=>x.flat&&PV.Jo xs
end
def RV.flat:RV->Bool
 |.cl p=>p.flat
 |.fr ps=>PV.Jo ps
 |.fd _ xs=>PV.Jo xs
 |.tf _ _=>false
 |.bo _=>false
 |.bd _ _=>false
noncomputable def RV.any:RV->PV
 |.cl p=>p
 |.bo ps=>.lst ps
 |.fr ps=>.lst ps
 |.bd ks xs=>.Co ks xs
 |.fd ks xs=>.Co ks xs
 |.tf p ps=>.tup [p,.lst ps]
theorem Bu.any{K:W.Frag}{H G' H':Hp}{r:RV}{v:V}(sub:Ai G' H')(h:Bu K H G' H' r v):Rep K H' r.any v:=by
 cases r with
 |cl p=>exact Rep.same sub h
 |bo ps=>
  obtain⟨a,vs,e,g,q,r⟩:=h;exact⟨a,vs,e,.inl q,AW.same sub r⟩
 |fr ps=>
  obtain⟨a,vs,e,n,g,q,r⟩:=h;exact⟨a,vs,e,.inl q,AW.same sub r⟩
 |bd ks xs=>
  obtain⟨a,vs,e,g,q,k,r⟩:=h;exact⟨a,vs,e,.inl q,k,AW.same sub r⟩
 |fd ks xs=>
  obtain⟨a,vs,e,n,g,q,k,r⟩:=h;exact⟨a,vs,e,.inl q,k,AW.same sub r⟩
 |tf p ps=>
  obtain⟨a,l,x,vs,e,t,y,n,g,q,r⟩:=h;refine⟨a,_,e,Bi.same sub t,?_⟩;have z:Rep K H' (.lst ps)<|.ref l:=by exact⟨l,vs,rfl,.inl q,AW.same sub r⟩
  exact⟨_,_,rfl,Rep.same sub y,_,_,rfl,z,rfl⟩
theorem D6.any{K:W.Frag}{H G' H':Hp}(sub:Ai G' H'):∀{rs:List RV}{vs:List V},D6 K H G' H' rs vs->AW K H' (rs.map RV.any) vs
 |_,_,.nil=>by rfl
 |_,_,.cons r t=>by exact⟨_,_,rfl,r.any sub,D6.any sub t⟩
noncomputable def HU(z y G':Hp):Hp:=λa=>match z a with|some o=>some o|none=>match y a with|some (.lst _)=>none|some (.dT _)=>none|some (.dK _)=>none|some o=>some o|none=>G' a
theorem sZ{y z G' H':Hp}(sub:Ai y z)(hh:Ai z H')(s':Ai G' H'):Aq y z (HU y z G') H':=by
 refine⟨λa o h=>by unfold HU;rw[h],hh,λa o h=>?_,λa h n=>by unfold HU;rcases h with h|h|h<;>rw[n,h]⟩;unfold HU at h;split at h
 .rename_i o' e;cases h;exact hh _ _<|sub _ _ e
 .split at h
  .cases h
  .cases h
  .cases h
  .rename_i e;cases h;exact hh _ _ e
  .exact s' _ _ h
theorem eD{y z G' H':Hp}{a:Addr}{o:HO}(sub:Ai y z)(hh:Ai z H')(s':Ai G' H')(h:G' a=some o)(hn:∀xs,o≠.lst xs)(hd:∀AL,o≠.dT AL)(q:∀AL,o≠.dK AL):HU y z G' a=some o:=by
 have h':=s' _ _ h;unfold HU;split
 .rename_i o' e;have:=hh _ _<|sub _ _ e;rw[h']at this;exact this.symm
 .split
  .rename_i xs e;have:=hh _ _ e;rw[h']at this;exact absurd (AGT this) (hn _)
  .rename_i xs e;have:=hh _ _ e;rw[h']at this;exact absurd (AGT this) (hd _)
  .rename_i xs e;have:=hh _ _ e;rw[h']at this;exact absurd (AGT this) (q _)
  .rename_i o' _ _ _ e;have:=hh _ _ e;rw[h']at this;exact this.symm
  .exact h
mutual
theorem Rep.flat{K:W.Frag}{Z y G' H':Hp}(sub:Ai Z y)(hh:Ai y H')(s':Ai G' H'):∀{p:PV}{v:V},p.flat=true->Rep K G' p v->Rep K (HU Z y G') p v
 |.Au,_,_,h=>h
 |.bl _,_,_,h=>h
 |.int _,_,_,h=>h
 |.str _,_,_,h=>h
 |.tup xs,v,f,h=>by
  unfold Rep at h ⊢;unfold PV.flat at f;obtain⟨a,vs,e,q,r⟩:=h;refine⟨a,vs,e,?_,AW.flat sub hh s' f r⟩;rcases q with(q|⟨o,q⟩)|q
  .exact .inl<|.inl<|eD sub hh s' q (λ_ z=>nomatch z) (λ_ z=>nomatch z) λ_ z=>nomatch z
  .exact .inl<|.inr ⟨o,eD sub hh s' q (λ_ z=>nomatch z) (λ_ z=>nomatch z) λ_ z=>nomatch z⟩
  .exact .inr q
 |.lst _,_,f,_=>by unfold PV.flat at f;cases f
 |.rd _,_,f,_=>by unfold PV.flat at f;cases f
 |.Co _ _,_,f,_=>by unfold PV.flat at f;cases f
theorem AW.flat{K:W.Frag}{y z G' H':Hp}(sub:Ai y z)(hh:Ai z H')(s':Ai G' H'):∀{ps:List PV}{vs:List V},PV.Jo ps=true->AW K G' ps vs->AW K (HU y z G') ps vs
 |[],_,_,h=>h
 |p::ps,_,f,h=>by unfold AW at h ⊢;unfold PV.Jo at f;rw[AFw]at f;obtain⟨v,r,e,q,t⟩:=h;exact⟨v,r,e,Rep.flat sub hh s' f.1 q,AW.flat sub hh s' f.2 t⟩
end
def Kn(F:List PV->Option RV)(g:AF):EF:=λρ=>match g ρ with|some rs=>F (rs.map RV.any)|none=>none
set_option tactic.hygienic false
theorem AA2{x:Str}{n:Nat}{F:List PV->Option RV}{p:Pos}(Y:Fn X x n F)(O:∀ps r,F ps=some r->r.flat=true)(ha:CY X (e::es) g)(hn:(e::es).length=n)(P:Gl X x)(D:(x==("__debug__"))=false)(he:starEach (e::es) X.env=(false,eval e X.env)::starEach es X.env)(B:(backTo pos<|starEach es X.env).any (·.1)=false) (S:∀ρ rs,g ρ=some rs->rs.length=n):PX X (.Call (.Name x p) (e::es) [] pos)<|Kn F g:=by
 obtain⟨k,f,fd,ps,G,T,hm,C,E,vH⟩:=Y.ex;refine PE.imp (XX G T P hm C E .nil jO ha D he B) ?_;rintro σ H Q ⟨G,ρ,r,R,e,q⟩;unfold Kn at e;split at e
 .rename_i rs Z;refine⟨G,ρ,rs,R,Z,λvs G1 I s1 rv=>⟨?_,I,_,r,Ai.refl _,?_,e,λv G' H' s z=>?_⟩⟩
  .rw[AGt,<-S ρ rs Z];exact(Paired.length rv).symm
  .rw[AGt];exact D6.any s1.sub rv
  .have st:=sZ s1.sub s.hh s.sub;refine q v _ H' (s1.trans st) ?_;have y:=O _ _ e;cases r with
   |cl p=>exact Rep.flat s1.sub s.hh s.sub y z
   |bo ps=>contradiction
   |fr ps=>
    obtain⟨a,vs,e,n,g,q,r⟩:=z;refine⟨a,vs,e,s1.hh.free n,?_,q,AW.flat s1.sub s.hh s.sub y r⟩;unfold HU;rw[s1.sub.free n,n];exact g
   |bd _ _=>contradiction
   |tf _ _=>contradiction
   |fd ks xs=>
    obtain⟨a,vs,e,n,g,q,k,r⟩:=z;refine⟨a,vs,e,s1.hh.free n,?_,q,k,AW.flat s1.sub s.hh s.sub y r⟩;unfold HU;rw[s1.sub.free n,n];exact g
 .contradiction
theorem rY(ρ:AS)(rs:List RV)(h:AN ρ=some rs):rs.length=0:=by cases h;rfl
set_option tactic.hygienic true
theorem Qw{n:Nat}(h:∀ρ rs,g ρ=some rs->rs.length=n)(ρ:AS)(rs:List RV)(e:AG f g ρ=some rs):rs.length=n+1:=by
 unfold AG at e;split at e
 .rename_i x xs _ z;cases e;rw[AGC,h ρ xs z]
 .contradiction
noncomputable def fB(k:List RV->Option RV)(g:AF):EF:=λρ=>match g ρ with|some rs=>k rs|none=>none
def Eb(K:W.Frag)(k:List RV->Option RV)(r:List V->Hp->VK->Prop):Prop:=
 ∀(rs:List RV)(z:RV)(y G H:Hp)(vs:List V)(Q:VK),Ai G H->Ai y H->k rs=some z->D6 K y G H rs vs->(∀v G' H',Aq G H G' H'->Bu K y G' H' z v->Q v H')->r vs H Q
theorem k6{K:W.Frag}{k:List RV->Option RV}{r:List V->Hp->VK->Prop}(y:Eb K k r){σ:St}{H:Hp}{Q:VK}(h:tX K (fB k g) σ H Q):YA r (YH K g) σ H Q:=by
 obtain⟨G,ρ,z,R,e,q⟩:=h;unfold fB at e;split at e
 .rename_i rs p;exact⟨G,ρ,rs,R,p,λvs Z Y s1 rv=>y rs z H Z Y vs Q s1.sub s1.hh e rv λv G' H' s O=>q v G' H' (s1.trans s) O⟩
 .contradiction
theorem Gu{x:Str}{id:String}{k:List RV->Option RV}{r:List V->Hp->VK->Prop}{p:Pos}(hc:C4 X (.builtin id) r)(z:Eb X.K k r)(hm:X.mg x=none)(y:bootBuiltins x=some (.builtin id))(ha:CY X (e::es) g)(q:Gl X x:=by rfl)(hn:x≠"__name__":=by decide)(v:(x==("__debug__"))=false:=by decide) (he:starEach (e::es) X.env=(false,eval e X.env)::starEach es X.env:=by rfl) (Z:(backTo pos<|starEach es X.env).any (·.1)=false:=by rfl):PX X (.Call (.Name x p) (e::es) [] pos)<|fB k g:=
 PE.imp (PF hc q hm y ha hn v he Z) λ_ _ _ h=>k6 z h
theorem ABb{x:Str}{T:String}{k:List RV->Option RV}{r:List V->Hp->VK->Prop}{p:Pos}(hc:C4 X (.type T) r)(z:Eb X.K k r)(hm:X.mg x=none)(y:bootBuiltins x=some (.type T))(ha:CY X (e::es) g)(q:Gl X x)(hn:x≠"__name__")(v:(x==("__debug__"))=false) (he:starEach (e::es) X.env=(false,eval e X.env)::starEach es X.env) (Z:(backTo pos<|starEach es X.env).any (·.1)=false):PX X (.Call (.Name x p) (e::es) [] pos)<|fB k g:=
 PE.imp (jP hc q hm y ha hn v he Z) λ_ _ _ h=>k6 z h
set_option tactic.hygienic false
theorem D6.one{K:W.Frag}{z G H:Hp}{r:RV}{vs:List V}(h:D6 K z G H [r] vs):∃v,vs=[v]/\Bu K z G H r v:=by
 cases h with
 |cons r t=>cases t;exact⟨_,rfl,r⟩
theorem D6.two{K:W.Frag}{y G H:Hp}{r z:RV}{vs:List V}(h:D6 K y G H [r,z] vs):∃v q,vs=[v,q]/\Bu K y G H r v/\Bu K y G H z q:=by
 cases h with
 |cons r t=>
  cases t with
  |cons z t=>cases t;exact⟨_,_,rfl,r,z⟩
set_option tactic.hygienic true
def Dp:List RV->Option RV
 |[r]=>r.seq.map λps=>.cl<|.int ps.length
 |_=>none
theorem zE:Eb X.K Dp (λxs H Q=>∃p y,xs=[.ref p]/\(CF X.K H p y\/Bi X.K H p y)/\Q (.int y.length) H):=by
 intro rs z H0 G H vs Q sub sh e rv q;unfold Dp at e;split at e
 .rename_i r;cases es:r.seq with
  |none=>rw[es]at e;contradiction
  |some ps=>
   rw[es]at e;cases e;obtain⟨v,rfl,Z⟩:=rv.one;obtain⟨a,us,rfl,Y,O⟩:=Z.seq sub es;refine⟨a,us,rfl,Y,q _ G H (Aq.refl sub) ?_⟩;show Rep _ _ _ _;unfold Rep;rw[O.len]
 .contradiction
theorem ABM{p:Pos}(hm:X.mg "len" = none)(ha:CY X (e::es) g)(z:Gl X "len")(he:starEach (e::es) X.env=(false,eval e X.env)::starEach es X.env)(y:(backTo pos<|starEach es X.env).any (·.1)=false):PX X (.Call (.Name "len" p) (e::es) [] pos)<|fB Dp g:=
 Gu oY zE hm PySem.boot_len ha z AFp AFp he y
noncomputable def Hi:List RV->Option RV
 |[.cl<|.int i]=>some (.cl (.int (if i<0 then -i else i)))
 |_=>none
noncomputable def F5:List RV->Option RV
 |[.cl<|.int i,.cl<|.int j]=>some (.cl (.int (if j>i then j else i)))
 |_=>none
noncomputable def Hj:List RV->Option RV
 |[.cl<|.int i,.cl<|.int j]=>some (.cl (.int (if j<i then j else i)))
 |_=>none
theorem zB:Eb X.K Hi (λxs H Q=>∃i,xs=[.int i]/\Q (.int (if i<0 then -i else i)) H):=by
 intro rs z H0 G H vs Q sub sh e rv q;unfold Hi at e;split at e
 .rename_i i;cases e;obtain⟨v,rfl,y⟩:=rv.one;exact⟨i,by rw[y.int],q _ G H (Aq.refl sub)<|by rfl⟩
 .contradiction
theorem zG:Eb X.K F5 (λxs H Q=>∃i j,xs=[.int i,.int j]/\Q (.int (if j>i then j else i)) H):=by
 intro rs z H0 G H vs Q sub sh e rv q;unfold F5 at e;split at e
 .rename_i i j;cases e;obtain⟨v,v',rfl,y,p⟩:=rv.two;exact⟨i,j,by rw[y.int,p.int],q _ G H (Aq.refl sub)<|by rfl⟩
 .contradiction
theorem zI:Eb X.K Hj (λxs H Q=>∃i j,xs=[.int i,.int j]/\Q (.int (if j<i then j else i)) H):=by
 intro rs z H0 G H vs Q sub sh e rv q;unfold Hj at e;split at e
 .rename_i i j;cases e;obtain⟨v,v',rfl,y,p⟩:=rv.two;exact⟨i,j,by rw[y.int,p.int],q _ G H (Aq.refl sub)<|by rfl⟩
 .contradiction
def Gi:List RV->Option RV
 |[r]=>r.seq.map .fr
 |_=>none
theorem zF:Eb X.K Gi (λxs H Q=>∃p y,xs=[.ref p]/\(CF X.K H p y\/Bi X.K H p y)/\∀l,H l=none->Q (.ref l) (upd H l<|.lst y)):=by
 intro rs z H0 G H vs Q sub Y e rv q;unfold Gi at e;split at e
 .rename_i r;cases es:r.seq with
  |none=>rw[es]at e;contradiction
  |some ps=>
   rw[es]at e;cases e;obtain⟨v,rfl,O⟩:=rv.one;obtain⟨a,us,rfl,P,D⟩:=O.seq sub es;exact⟨a,us,rfl,P,λl Z=>q _ _ _ (Aq.Hq sub _ Z) ⟨l,us,rfl,Y.free Z,sub.free Z,DE,D⟩⟩
 .contradiction
noncomputable def C1:List PV->Option (List Int)
 |[]=>some []
 |.int i::r=>(C1 r).map (i :: ·)
 |_=>none
noncomputable def Fu:List PV->Option (List Bool)
 |[]=>some []
 |.bl i::r=>(Fu r).map (i :: ·)
 |_=>none
set_option tactic.hygienic false
theorem Iv{K:W.Frag}{G:Hp}:∀{ps:List PV}{vs:List V}{ns:List Int},C1 ps=some ns->AW K G ps vs->vs=ns.map V.int
 |[],vs,ns,e,h=>by cases e;exact h
 |.int i::r,vs,ns,e,h=>by
  unfold C1 at e;cases z:C1 r with
  |none=>rw[z]at e;contradiction
  |some ms=>
   rw[z]at e;cases e;obtain⟨v,us,rfl,y,t⟩:=h;subst y;rw[Iv z t,AF6]
 |.Au::_,_,_,e,_=>by contradiction
 |.bl _::_,_,_,e,_=>by contradiction
 |.str _::_,_,_,e,_=>by contradiction
 |.tup _::_,_,_,e,_=>by contradiction
 |.lst _::_,_,_,e,_=>by contradiction
 |.rd _::_,_,_,e,_=>by contradiction
 |.Co _ _::_,_,_,e,_=>by contradiction
theorem Nj{K:W.Frag}{G:Hp}:∀{ps:List PV}{vs:List V}{ns:List Bool},Fu ps=some ns->AW K G ps vs->vs=ns.map V.bl
 |[],vs,ns,e,h=>by cases e;exact h
 |.bl i::r,vs,ns,e,h=>by
  unfold Fu at e;cases z:Fu r with
  |none=>rw[z]at e;contradiction
  |some ms=>
   rw[z]at e;cases e;obtain⟨v,us,rfl,y,t⟩:=h;subst y;rw[Nj z t,AF6]
 |.Au::_,_,_,e,_=>by contradiction
 |.int _::_,_,_,e,_=>by contradiction
 |.str _::_,_,_,e,_=>by contradiction
 |.tup _::_,_,_,e,_=>by contradiction
 |.lst _::_,_,_,e,_=>by contradiction
 |.rd _::_,_,_,e,_=>by contradiction
 |.Co _ _::_,_,_,e,_=>by contradiction
theorem Ug:∀{bs:List Bool}{us:List Value},Ao (bs.map V.bl) us->LSm.BoolsAre us bs
 |[],us,r=>by cases r;exact .nil
 |b::bs,us,r=>by
  cases r with
  |cons r1 r2=>cases r1;exact .cons b<|Ug r2
theorem ow(hc:X.calm=true):C4 X (.builtin "sum") (λxs H Q=>∃(p:Addr)(ns:List Int),xs=[.ref p]/\Rd H p (.lst<|ns.map V.int)/\Q (.int ns.sum) H):=by
 intro AB s σ H xs us Q I r h;obtain⟨p,ns,rfl,v,q⟩:=h;obtain⟨u,rfl,Z⟩:=vals1 r;cases Z;obtain⟨z,its,n,rv,e⟩:=v.ok I.AZ;have hi:=intsAre_of rv;obtain⟨xs,y⟩:=hi.allInts.items;have Y:s.heap.IsList p its.toArray:=⟨_,e,rfl,n,rfl⟩;have O:=y ▸ Y;refine sum_intListG (I.ok.hd hc) O λh' tk t' P=>?_;have D:ns=xs.toList.map (·.1):=by rw[<-nums_intItems,<-y];exact(show numsOf its.toArray.toList=ns from hi.numsOf).symm
 have F:preSum (numAt xs) xs.size=ns.sum:=by rw[preSum_eq,AIu AFn,D]
 rw[F];exact⟨.int ns.sum,H,I.kept P,⟨_,rfl⟩,q⟩
theorem oR(hc:X.calm=true):C4 X (.builtin "all") (λxs H Q=>∃(p:Addr)(bs:List Bool),xs=[.ref p]/\Rd H p (.lst<|bs.map V.bl)/\Q (.bl<|bs.all id) H):=by
 intro AB s σ H xs us Q I r h;obtain⟨p,bs,rfl,O,q⟩:=h;obtain⟨u,rfl,P⟩:=vals1 r;cases P;obtain⟨z,its,n,rv,e⟩:=O.ok I.AZ;have y:=Ug rv;have Z:s.heap.IsList p its.toArray:=⟨_,e,rfl,n,rfl⟩;have D:=Heap.lt_size e;refine call_all_walk<|wpAny_pyIter_list Z ?_;refine⟨s.heap.objs.size,[s.heap.objs.size,p],[s.heap.objs.size],its.toArray.size,_,_,λi=>(bs[i]?).getD true,rfl,Walks.list (A:=X.A.in1) (I.ok.hd hc) _ p (AGE D) its.toArray,
  ⟨⟨_,Heap.get?_push_size _ rfl,rfl,rfl⟩,Z.push _⟩,λi v s' Q' E' F Y=>?_,λh' tk R=>?_⟩
 .obtain⟨b,e,rfl⟩:=y.get i v (by simpa using F);simp only[e]at Y;exact wpAny_truthy_bool Y
 .have e:((List.range its.toArray.size).all λi=>(bs[i]?).getD true)=bs.all id:=by rw[AF9,y.length];exact LSm.range_all bs
  rw[e];exact⟨.bl<|bs.all id,H,I.kept<|LSm.kept_iter R,rfl,q⟩
theorem oS(hc:X.calm=true):C4 X (.builtin "any") (λxs H Q=>∃(p:Addr)(bs:List Bool),xs=[.ref p]/\Rd H p (.lst<|bs.map V.bl)/\Q (.bl<|bs.any id) H):=by
 intro AB s σ H xs us Q I r h;obtain⟨p,bs,rfl,O,q⟩:=h;obtain⟨u,rfl,P⟩:=vals1 r;cases P;obtain⟨z,its,n,rv,e⟩:=O.ok I.AZ;have y:=Ug rv;have Z:s.heap.IsList p its.toArray:=⟨_,e,rfl,n,rfl⟩;have D:=Heap.lt_size e;refine call_any_walk<|wpAny_pyIter_list Z ?_;refine⟨s.heap.objs.size,[s.heap.objs.size,p],[s.heap.objs.size],its.toArray.size,_,_,λi=>(bs[i]?).getD false,rfl,Walks.list (A:=X.A.in1) (I.ok.hd hc) _ p (AGE D) its.toArray,
  ⟨⟨_,Heap.get?_push_size _ rfl,rfl,rfl⟩,Z.push _⟩,λi v s' Q' E' F Y=>?_,λh' tk R=>?_⟩
 .obtain⟨b,e,rfl⟩:=y.get i v (by simpa using F);simp only[e]at Y;exact wpAny_truthy_bool Y
 .have e:((List.range its.toArray.size).any λi=>(bs[i]?).getD false)=bs.any id:=by rw[AF9,y.length];exact LSm.range_any bs
  rw[e];exact⟨.bl<|bs.any id,H,I.kept<|LSm.kept_iter R,rfl,q⟩
set_option tactic.hygienic true
def Od:List RV->Option RV
 |[r]=>(r.list.bind C1).map λns=>.cl<|.int ns.sum
 |_=>none
def Fg:List RV->Option RV
 |[r]=>(r.list.bind Fu).map λns=>.cl<|.bl<|ns.all id
 |_=>none
def J5:List RV->Option RV
 |[r]=>(r.list.bind Fu).map λns=>.cl<|.bl<|ns.any id
 |_=>none
theorem zL:Eb X.K Od (λxs H Q=>∃(p:Addr)(ns:List Int),xs=[.ref p]/\Rd H p (.lst<|ns.map V.int)/\Q (.int ns.sum) H):=by
 intro rs z H0 G H vs Q sub sh e rv q;unfold Od at e;split at e
 .rename_i r;cases es:r.list with
  |none=>rw[es]at e;contradiction
  |some ps=>
   rw[es]at e;cases y:C1 ps with
   |none=>rw[AGS,y]at e;contradiction
   |some ns=>
    rw[AGS,y]at e;cases e;obtain⟨v,rfl,Y⟩:=rv.one;obtain⟨a,us,rfl,Z,O⟩:=Y.list sub es;rw[Iv y O]at Z;exact⟨a,ns,rfl,Z,q _ G H (Aq.refl sub)<|by rfl⟩
 .contradiction
theorem zC:Eb X.K Fg (λxs H Q=>∃(p:Addr)(ns:List Bool),xs=[.ref p]/\Rd H p (.lst<|ns.map V.bl)/\Q (.bl<|ns.all id) H):=by
 intro rs z H0 G H vs Q sub sh e rv q;unfold Fg at e;split at e
 .rename_i r;cases es:r.list with
  |none=>rw[es]at e;contradiction
  |some ps=>
   rw[es]at e;cases y:Fu ps with
   |none=>rw[AGS,y]at e;contradiction
   |some ns=>
    rw[AGS,y]at e;cases e;obtain⟨v,rfl,Y⟩:=rv.one;obtain⟨a,us,rfl,Z,O⟩:=Y.list sub es;rw[Nj y O]at Z;exact⟨a,ns,rfl,Z,q _ G H (Aq.refl sub)<|by rfl⟩
 .contradiction
theorem zD:Eb X.K J5 (λxs H Q=>∃(p:Addr)(ns:List Bool),xs=[.ref p]/\Rd H p (.lst<|ns.map V.bl)/\Q (.bl<|ns.any id) H):=by
 intro rs z H0 G H vs Q sub sh e rv q;unfold J5 at e;split at e
 .rename_i r;cases es:r.list with
  |none=>rw[es]at e;contradiction
  |some ps=>
   rw[es]at e;cases y:Fu ps with
   |none=>rw[AGS,y]at e;contradiction
   |some ns=>
    rw[AGS,y]at e;cases e;obtain⟨v,rfl,Y⟩:=rv.one;obtain⟨a,us,rfl,Z,O⟩:=Y.list sub es;rw[Nj y O]at Z;exact⟨a,ns,rfl,Z,q _ G H (Aq.refl sub)<|by rfl⟩
 .contradiction
end
end L2.PL
namespace L2.PL
open PySem PySem.Spec PyProof.Rows
def D4(ρ:AS)(σ:St)(ρ':AS)(z:St):Prop:=∀(i:Nat)(s:SV),s.FD=true->ρ'[i]? = some (some s)->ρ[i]? = some (some s)/\z[i]? = σ[i]?
theorem D4.refl(ρ:AS)(σ:St):D4 ρ σ ρ σ:=λ_ _ _ h=>⟨h,rfl⟩
theorem D4.trans{ρ A6 Bc:AS}{σ EI DQ:St}(a:D4 ρ σ A6 EI)(b:D4 A6 EI Bc DQ):D4 ρ σ Bc DQ:=λi ps o h=>by obtain⟨z,y⟩:=b i ps o h;obtain⟨q,v⟩:=a i ps o z;exact⟨q,y.trans v⟩
abbrev GF:=PV->AS->Option AS
def TC(K:W.Frag)(g:GF):TG:=λv σ H Q=>∃G ρ p ρ',B6 K G H ρ σ/\Rep K G p v/\g p ρ=some ρ'/\∀z,B6 K G H ρ' z->D4 ρ σ ρ' z->Q z H
def IK(X:Cx)(tg:Expr)(g:GF):Prop:=PG X tg<|TC X.K g
abbrev II:=List PV->AS->Option AS
def AD0(K:W.Frag)(g:II):IQ:=λvs σ H Q=>∃G ρ ps ρ',B6 K G H ρ σ/\AW K G ps vs/\g ps ρ=some ρ'/\∀z,B6 K G H ρ' z->D4 ρ σ ρ' z->Q z H
def Lh(X:Cx)(ts:List Expr)(g:II):Prop:=HF X ts<|AD0 X.K g
theorem PG.imp{X:Cx}{e:Expr}{t t':TG}(h:PG X e t)(i:∀v σ H Q,t' v σ H Q->t v σ H Q):PG X e t':=λAB s σ H v u Q I r q=>h AB s σ H v u Q I r<|i v σ H Q q
theorem HF.imp{X:Cx}{e:List Expr}{t t':IQ}(h:HF X e t)(i:∀v σ H Q,t' v σ H Q->t v σ H Q):HF X e t':=λAB s σ H v u Q I r q=>h AB s σ H v u Q I r<|i v σ H Q q
theorem get_set{α:Type}{l:List (Option α)}{i j:Nat}{x y:α}(h:(l.set i<|some x)[j]? = some (some y)):(j=i/\x=y)\/(j≠i/\l[j]? = some (some y)):=by
 by_cases e:j=i
 .subst e;by_cases z:j<l.length
  .rw[AHd z]at h;left;exact⟨rfl,by simpa using h⟩
  .rw[List.set_eq_of_length_le<|MY z]at h;rw[List.getElem?_eq_none (MY z)]at h;contradiction
 .right;rw[AGN<|AGr e]at h;exact⟨e,h⟩
theorem set_slot{α:Type}{l:List (Option α)}{i:Nat}{x:α}(h:i<l.length):(l.set i<|some x)[i]? = some (some x):=by rw[AHd h]
theorem iH{α:Type}{l:List (Option α)}{i:Nat}{x y:α}(h:(l.set i<|some x)[i]? = some (some y)):i<l.length:=by have:=(AFx.mp h).1;simpa using this
theorem B6.Gw{K:W.Frag}{G H:Hp}{ρ:AS}{σ:St}{i:Nat}{p:PV}{v:V}(R:B6 K G H ρ σ)(h:Rep K G p v):B6 K G H (ρ.set i<|some<|.im p)<|σ.set i<|some v:=by
 refine⟨R.sub,λj sv e=>?_,λj k ps qs a b Q y O Z P e3 Y=>?_,by simpa using R.len⟩
 .rcases get_set e with⟨rfl,rfl⟩|⟨D,F⟩
  .have B:=iH e;exact⟨v,set_slot (by rw[<-R.len];exact B),h⟩
  .obtain⟨w,y,q⟩:=R.slot j sv F;exact⟨w,by rw[AGN<|AGr D];exact y,q⟩
 .rcases get_set y with⟨_,z⟩|⟨S,y⟩
  .subst z;contradiction
  .rcases get_set Z with⟨_,z⟩|⟨T,Z⟩
   .subst z;contradiction
   .rw[AGN<|AGr S]at e3;rw[AGN<|AGr T]at Y;exact R.apart j k ps qs a b Q y O Z P e3 Y
theorem D4.Gw{ρ:AS}{σ:St}{i:Nat}{p:PV}{v:V}:D4 ρ σ (ρ.set i<|some<|.im p)<|σ.set i<|some v:=λj ps o h=>by
 rcases get_set h with⟨_,z⟩|⟨y,e⟩
 .subst z;contradiction
 .exact⟨e,by rw[AGN<|AGr y]⟩
noncomputable def Ac(i:Nat):GF:=λp ρ=>some<|ρ.set i<|some<|.im p
section
variable{X:Cx}{a b c e tg iter:Expr}{es:List Expr}{fa fb fc f:EF}{ga:AF}{g:GF}{gs:II}{pos:Pos}
theorem ABd(i:Nat){x:Str}(z:X.N.Nodup)(hi:X.N[i]? = some x)(y:Loc X.env.scope x)(Z:X.fn x=true\/X.env.scope.names.lookup x=some .local):IK X (.Name x pos)<|Ac i:=
 PG.imp (AAF z hi y Z) (by rintro v σ H Q ⟨G,ρ,p,ρ',R,Y,e,q⟩;cases e;exact q _ (R.Gw Y) D4.Gw)
noncomputable def L7:II:=λps ρ=>match ps with|[]=>some ρ|_=>none
noncomputable def HV(g:GF)(h:II):II:=λps ρ=>match ps with|p::r=>(match g p ρ with|some A6=>h r A6|none=>none)|[]=>none
theorem ABg:Lh X [] L7:=HF.imp AAI (by
 rintro v σ H Q ⟨G,ρ,ps,ρ',R,z,e,q⟩;unfold L7 at e;split at e
 .cases e;exact⟨z,q σ R<|D4.refl _ _⟩
 .contradiction)
set_option tactic.hygienic true
theorem ABf(y:IK X e g)(Z:Lh X es gs)(hs:(assignEach (e::es) X.env).map (·.2)=assign e X.env::(assignEach es X.env).map (·.2)):Lh X (e::es)<|HV g gs:=HF.imp (AAH y Z hs) (by
 rintro v σ H Q ⟨G,ρ,ps,ρ',R,Y,e,q⟩;unfold HV at e;split at e
 .rename_i p r;split at e
  .rename_i z O;obtain⟨u,us,rfl,P,rs⟩:=Y;exact⟨u,us,rfl,G,ρ,p,z,R,P,O,λEI D k1=>⟨G,z,r,ρ',D,rs,e,λF R2 k2=>q F R2<|k1.trans k2⟩⟩
  .contradiction
 .contradiction)
noncomputable def HS(n:Nat)(gs:II):GF:=λp ρ=>match p with|.tup ps=>if ps.length=n then gs ps ρ else none|_=>none
theorem ABe{k:Nat}{n:Nat}(hc:X.calm=true)(h:Lh X es gs)(hn:(assignEach es X.env).length=n)(y:(assignEach es X.env).findIdx? (·.1)=none):IK X (.Tuple es k pos)<|HS n gs:=
 PG.imp (AAG hc h hn y) (by
  rintro v σ H Q ⟨G,ρ,p,ρ',R,Z,e,q⟩;unfold HS at e;split at e
  .rename_i ps;split at e
   .rename_i Y;obtain⟨a,vs,rfl,O,z⟩:=Z;exact⟨a,vs,rfl,Bi.same R.sub O,by rw[<-z.len];exact Y,G,ρ,ps,ρ',R,z,e,q⟩
   .contradiction
  .contradiction)
structure UI(J:It)(K:W.Frag)(G Hx:Hp)(ps:List PV):Prop where
 ex:∃vs,AW K G ps vs/\∀H,Ai Hx H->(∀(i:Nat)(x:V),vs[i]? = some x->J.go i H/\∀y H',J.TZ i H y H'->H'=H/\y=x)/\J.stop vs.length H
abbrev IF:=AS->Option (List PV)
def k7(K:W.Frag)(cl:Bool)(f:IF):TI:=λσ H R=>∃G ρ ps,B6 K G H ρ σ/\f ρ=some ps/\∀J G' H',Aq G H G' H'->UI J K G' (if cl=true then G' else H') ps->R J H'
def JU(X:Cx)(cl:Bool)(tg iter:Expr)(f:IF):Prop:=PI X tg iter<|k7 X.K cl f
theorem PI.imp{X:Cx}{tg iter:Expr}{t t':TI}(h:PI X tg iter t)(i:∀σ H Q,t' σ H Q->t σ H Q):PI X tg iter t':=λAB s σ H Q I q=>h AB s σ H Q I<|i σ H Q q
theorem gQ{K:W.Frag}{G Hx:Hp}{ps:List PV}{vs:List V}{a:Addr}(h:AW K G ps vs)(z:Rd Hx a<|.lst vs):UI (UJ K a) K G Hx ps:=by refine⟨vs,h,λH s=>⟨λi x e=>⟨⟨vs,x,.inl<|Rd.same s z,e⟩,λy H' ⟨q,v⟩=>⟨q,?_⟩⟩,⟨vs,.inl<|Rd.same s z,AF5 _⟩⟩⟩;have:=v vs<|.inl<|Rd.same s z;rw[e]at this;exact(AGT this).symm
def CA(cl:Bool)(f:EF):IF:=λρ=>match f ρ with|some r=>(if cl=true then(match r.clean with|some (.lst ps)=>some ps|_=>none)else r.list)|none=>none
theorem ABh{cl:Bool}(h:PX X iter f):JU X cl tg iter<|CA cl f:=PI.imp (AAJ h) (by
 rintro σ H Q ⟨G,ρ,ps,R,e,q⟩;unfold CA at e;split at e
 .rename_i r p;refine⟨G,ρ,r,R,p,λv G' H' s rv=>?_⟩;cases cl with
  |true=>
   rw[AFu rfl]at e;split at e
   .rename_i qs Z;cases e;have Y:=rv.clean s.sub Z;obtain⟨a,vs,rfl,z,y⟩:=Y;exact⟨a,rfl,⟨vs,.inl<|Rd.same s.all.sub z⟩,q _ _ _ s.all<|gQ y z⟩
   .contradiction
  |false=>
   obtain⟨a,vs,rfl,z,y⟩:=rv.list s.sub e;exact⟨a,rfl,⟨vs,.inl z⟩,q _ _ _ s<|gQ y z⟩
 .contradiction)
noncomputable def Mq(i j:Int):List PV:=(List.range (j-i).toNat).map λ(k:Nat)=>.int<|i+(k:Int)
theorem gR{K:W.Frag}{G Hx:Hp}{i:Int}{n:Nat}:UI (NT i n) K G Hx<|(List.range n).map λ(k:Nat)=>.int<|i+(k):=by
 refine⟨(List.range n).map λ(k:Nat)=>.int<|i+(k),?_,λH _=>⟨λk x e=>?_,by show n<=_;simp⟩⟩
 .have q:∀l:List Nat,AW K G (l.map λk=>PV.int<|i+(k:Nat))<|l.map λk=>V.int<|i+(k:Nat):=by
   intro l
   induction l with
   |nil=>rfl
   |cons x r ih=>
    exact⟨_,_,rfl,by rfl,ih⟩
  exact q _
 .rw[AG6]at e;cases z:(List.range n)[k]? with
  |none=>rw[z]at e;contradiction
  |some m=>
   rw[z]at e;obtain⟨p,v⟩:=AFx.mp z;rw[AJC]at v;subst v;cases e;exact⟨(show k<n by simpa using p),(by rintro y H' ⟨Z,z⟩;exact⟨Z,z⟩)⟩
def JR(i:Int):Prop:=-(2 ^ 62)<=i/\i<2 ^ 62
instance{i:Int}:Decidable<|JR i:=by unfold JR;infer_instance
def C0(g:AF):IF:=λρ=>match g ρ with|some [.cl<|.int j]=>if JR j then some (Mq 0 j)else none|_=>none
def DK(g:AF):IF:=λρ=>match g ρ with|some [.cl<|.int i,.cl<|.int j]=>if JR i/\JR j then some (Mq i j)else none|_=>none
theorem ABi{cl:Bool}{p:Pos}(hm:X.mg "range" = none)(ha:CY X [a] ga)(y:Gl X "range")(hs:starEach [a] X.env=[(false,eval a X.env)]):JU X cl tg (.Call (.Name "range" p) [a] [] pos)<|C0 ga:=PI.imp (AAK y hm ha hs) (by
 rintro σ H Q ⟨G,ρ,ps,R,e,q⟩;unfold C0 at e;split at e
 .rename_i j Z;split at e
  .rename_i z;cases e;refine⟨G,ρ,_,R,Z,λv G' H' s rv=>?_⟩;obtain⟨w,rfl,Y⟩:=rv.one;refine⟨j,by rw[Y.int],z.1,z.2,q _ _ _ s ?_⟩;have:=gR (K:=X.K) (G:=G') (Hx:=if cl=true then G' else H') (i:=0) (n:=j.toNat);simpa[Mq]using this
  .contradiction
 .contradiction)
theorem ABj{cl:Bool}{p:Pos}(hm:X.mg "range" = none)(ha:CY X [a,b] ga)(y:Gl X "range")(hs:starEach [a,b] X.env=[(false,eval a X.env),(false,eval b X.env)])(Z:starEach [b] X.env=[(false,eval b X.env)]):JU X cl tg (.Call (.Name "range" p) [a,b] [] pos)<|DK ga:=PI.imp (AAL y hm ha hs Z) (by
 rintro σ H Q ⟨G,ρ,ps,R,e,q⟩;unfold DK at e;split at e
 .rename_i i j Y;split at e
  .rename_i z;cases e;refine⟨G,ρ,_,R,Y,λv G' H' s rv=>?_⟩;obtain⟨w,w',rfl,O,P⟩:=rv.two;refine⟨i,j,by rw[O.int,P.int],⟨z.1.1,z.1.2,z.2.1,z.2.2⟩,q _ _ _ s ?_⟩;exact gR
  .contradiction
 .contradiction)
noncomputable def By(own:Nat)(cap:List Nat)(ρ:AS):AS:=List.replicate own none++cap.map λj=>(ρ[j]?).join
def collect(g:GF)(t:BF)(fe:EF)(z:AS):List PV->Option (List PV)
 |[]=>some []
 |x::xs=>match g x z with
  |none=>none
  |some A6=>match t A6 with
   |none=>none
   |some false=>collect g t fe z xs
   |some true=>match fe A6 with
    |none=>none
    |some r=>match r.clean,collect g t fe z xs with
     |some p,some ps=>some (p::ps)
     |_,_=>none
def BC(its:IF)(own:Nat)(cap:List Nat)(g:GF)(t:BF)(fe:EF):EF:=λρ=>match its ρ with
 |none=>none
 |some xs=>if xs.length<=1000 then(collect g t fe (By own cap ρ) xs).map .fr else none
set_option tactic.hygienic false
theorem B6.cap{K:W.Frag}{G H:Hp}{ρ:AS}{σ:St}(R:B6 K G H ρ σ)(own:Nat)(cap:List Nat)(T:cap.Nodup):B6 K G H (By own cap ρ)<|GJ own cap σ:=by
 have get:∀{i:Nat}{sv:SV},(By own cap ρ)[i]? = some (some sv)->∃k j,i=own+k/\cap[k]? = some j/\ρ[j]? = some (some sv):=by
  intro i sv h;unfold By at h;by_cases hi:i<own
  .rw[AGX (by simpa using hi),AGz]at h;split at h<;>simp at h
  .rw[AGa (by simpa using hi),AG6]at h;simp only[AHU]at h;cases y:cap[i-own]? with
   |none=>rw[y]at h;simp at h
   |some j=>
    rw[y]at h;simp only[AGu,AGg]at h;refine⟨i-own,j,AFm,y,?_⟩;cases hs:ρ[j]? with
    |none=>rw[hs]at h;simp at h
    |some o=>rw[hs]at h;simp at h;rw[h]
 have put:∀{k j:Nat}{v:V},cap[k]? = some j->σ[j]? = some (some v)->(GJ own cap σ)[own+k]? = some (some v):=by
  intro k j v C E;unfold GJ;rw[AGa AFn,AG6];simp only[AHU,Nat.add_sub_cancel_left,C,AGu,E]
  rfl
 refine⟨R.sub,λi sv e=>?_,λi j ps qs a b p I n t x e3 Z=>?_,by simp[By,GJ]⟩
 .obtain⟨k,j,rfl,y,e'⟩:=get e;obtain⟨v,ev,q⟩:=R.slot j sv e';exact⟨v,put y ev,q⟩
 .obtain⟨k1,Y,rfl,Q,O⟩:=get I;obtain⟨k2,P,rfl,D,F⟩:=get t;obtain⟨v1,B,_⟩:=R.slot Y _ O;obtain⟨v2,S,_⟩:=R.slot P _ F;rw[put Q B]at e3;rw[put D S]at Z;cases e3;cases Z;refine R.apart Y P ps qs a b (λz=>p ?_) O n F x B S;subst z;obtain⟨l1,q1⟩:=AFx.mp Q;obtain⟨l2,q2⟩:=AFx.mp D;have:=(AIy T).mp<|q1.trans q2.symm;clear p;lia
theorem B6.XS{K:W.Frag}{G H:Hp}{ρ:AS}{σ:St}(R:B6 K G H ρ σ):∀(j:Nat)(s:SV)(b:Addr),s.FD=true->ρ[j]? = some (some s)->σ[j]? = some (some<|.ref b)->H b≠none:=λj s b o Z y z=>by
 obtain⟨v,Y,q⟩:=R.slot j _ Z;rw[Y]at y;cases y;cases s with
 |im p=>contradiction
 |exc nm=>contradiction
 |own ps=>
  obtain⟨a,vs,h,_,ha,_⟩:=q;cases h;rw[z]at ha;contradiction
 |EG t ks xs=>
  obtain⟨a,vs,h,_,ha,_⟩:=q;cases h;rw[z]at ha;contradiction
 |Mh AL=>
  obtain⟨a,h,_,ha⟩:=q;cases h;rw[z]at ha;contradiction
theorem B6.weak{K:W.Frag}{G H:Hp}{ρ ρ':AS}{σ:St}(R:B6 K G H ρ' σ)(h:∀(k:Nat)(sv:SV),ρ[k]? = some (some sv)->ρ'[k]? = some (some sv))(z:ρ.length=ρ'.length):B6 K G H ρ σ:=
 ⟨R.sub,λi sv e=>R.slot i sv<|h i sv e,λi j ps qs a b y q v p Z e3 Y=>R.apart i j ps qs a b y (h _ _ q) v (h _ _ p) Z e3 Y,z.trans R.len⟩
theorem B6.YQ{K:W.Frag}{G H:Hp}{ρ:AS}{σ:St}{D:Addr}{o:HO}(R:B6 K G H ρ σ)(g:G D=none)(h:∀(k:Nat)(s:SV),s.FD=true->ρ[k]? = some (some s)->σ[k]?≠some (some<|.ref D)):B6 K G (upd H D o) ρ σ:=by
 refine⟨λb u q=>by rw[BH<|Du q g];exact R.sub _ _ q,λi sv e=>?_,R.apart,R.len⟩;obtain⟨v,y,q⟩:=R.slot i sv e;refine⟨v,y,?_⟩;cases sv with
 |exc nm=>exact q
 |im p=>exact q
 |own ps=>
  obtain⟨a,vs,rfl,ga,ha,r⟩:=q;refine⟨a,vs,rfl,ga,?_,r⟩;rw[BH λz=>h i _ rfl e<|by rw[y,z]];exact ha
 |EG t ks xs=>
  obtain⟨a,vs,rfl,ga,ha,r⟩:=q;refine⟨a,vs,rfl,ga,?_,r⟩;rw[BH λz=>h i _ rfl e<|by rw[y,z]];exact ha
 |Mh AL=>
  obtain⟨a,rfl,ga,ha⟩:=q;refine⟨a,rfl,ga,?_⟩;rw[BH λz=>h i _ rfl e<|by rw[y,z]];exact ha
theorem Aq.YQ{G H G' H':Hp}{D:Addr}{o:HO}(s:Aq G H G' H')(h:H D=none)(g:G' D=none):Aq G H G'<|upd H' D o:=
 ⟨s.gg,λb u q=>by rw[BH<|Du q h];exact s.hh _ _ q,λb u q=>by rw[BH<|Du q g];exact s.sub _ _ q,s.ex⟩
def Kc(own:Nat)(g:GF):Prop:=∀p ρ ρ',g p ρ=some ρ'->ρ'.length=ρ.length/\∀(k:Nat),own<=k->ρ'[k]? = ρ[k]?
def NQ(own:Nat)(g:II):Prop:=∀p ρ ρ',g p ρ=some ρ'->ρ'.length=ρ.length/\∀(k:Nat),own<=k->ρ'[k]? = ρ[k]?
theorem se{own i:Nat}(h:i<own):Kc own<|Ac i:=λp ρ ρ' e=>by cases e;exact⟨AJc,λk hk=>AGN U⟩
theorem sk{own:Nat}:NQ own L7:=λp ρ ρ' e=>by
 unfold L7 at e;split at e
 .cases e;exact⟨rfl,λ_ _=>rfl⟩
 .contradiction
set_option tactic.hygienic true
theorem sj{own:Nat}(y:Kc own g)(q:NQ own gs):NQ own<|HV g gs:=λp ρ ρ' e=>by
 unfold HV at e;split at e
 .split at e
  .rename_i A6 v;obtain⟨Z,Y⟩:=y _ _ _ v;obtain⟨b1,b2⟩:=q _ _ _ e;exact⟨b1.trans Z,λk z=>(b2 k z).trans<|Y k z⟩
  .contradiction
 .contradiction
theorem si{own n:Nat}(h:NQ own gs):Kc own<|HS n gs:=λp ρ ρ' e=>by
 unfold HS at e;split at e
 .split at e
  .exact h _ _ _ e
  .contradiction
 .contradiction
theorem oz{own:Nat}{cap:List Nat}{ρ:AS}{k:Nat}{sv:SV}(h:(By own cap ρ)[k]? = some (some sv)):own<=k:=by
 unfold By at h;by_cases hi:k<own
 .rw[AGX (by simpa using hi),AGz]at h;split at h<;>simp at h
 .exact MY hi
theorem lA{K:W.Frag}{own:Nat}{cap:List Nat}{its:IF}{t:BF}{fe:EF}(Gd:cap.Nodup)(hk:Kc own g){σ:St}{H:Hp}{Q:VK}(h:tX K (BC its own cap g t fe) σ H Q):YD own cap (k7 K false its) (TC K g) (Fs K t) (tX K fe) σ H Q:=by
 obtain⟨G,ρ,r,R,e,q⟩:=h;unfold BC at e;split at e
 .contradiction
 .rename_i xs ex;split at e
  .cases ec:collect g t fe (By own cap ρ) xs with
   |none=>rw[ec]at e;contradiction
   |some zs=>
    rw[ec]at e;cases e;refine⟨G,ρ,xs,R,ex,λJ G1 H1 s1 J1=>λD O=>?_⟩;obtain⟨vs,rl,hJ⟩:=J1.ex;have BX:=rl.len;have R1:=(R.step s1).cap own cap Gd;refine⟨λi m AV H'=>m=xs.length-i/\i<=xs.length/\∃G' Y ps T,Aq G1 H1 G' H'/\G' D=none/\H' D=some (.lst Y)/\AW K G' ps Y/\ps.length<=i/\collect g t fe (By own cap ρ) (xs.drop i)=some T/\ps++T=zs/\
     B6 K G' H' (By own cap ρ) AV/\(∀(k:Nat)(s:SV),s.FD=true->(By own cap ρ)[k]? = some (some s)->AV[k]?≠some (some<|.ref D)),⟨xs.length,AFn,AHR _,G1,[],[],zs,Aq.Hq s1.sub _ O,s1.sub.free O,DE,by rfl,AF5 _,by exact ec,rfl,?_,?_⟩,?_⟩
    .exact R1.step<|Aq.Hq s1.sub _ O
    .intro k s ho BE z;exact R1.XS k s D ho BE z O
    .rintro i m AV H' ⟨rfl,hi,G',Y,ps,T,st,gD,P,C,BA,Z,E,RO,F⟩;obtain⟨Vt,WM⟩:=hJ H' st.hh;by_cases BI:i<xs.length
     .right;have OR:vs[i]? = some vs[i]:=AGF AFo;obtain⟨go,yl⟩:=Vt i _ OR;have WT:=AGF BI;have WI:Rep K G' xs[i] vs[i]:=by obtain⟨u,eu,ru⟩:=Mj rl.paired WT;rw[OR]at eu;cases eu;exact Rep.same st.gg ru
      have OE:=AHv BI;rw[OE]at Z;unfold collect at Z;split at Z
      .contradiction
      .rename_i B e1;obtain⟨kl,kk⟩:=hk _ _ _ e1;have hw:∀(k:Nat)(sv:SV),(By own cap ρ)[k]? = some (some sv)->B[k]? = some (some sv):=λk sv h=>by rw[kk k<|oz h];exact h
       refine⟨go,λD1 I=>∃n mI Er x,Aq G1 H1 n I/\n D=none/\I D=some (.lst mI)/\AW K n Er mI/\Er.length<=i+1/\collect g t fe (By own cap ρ) (xs.drop<|i+1)=some x/\Er++x=zs/\
        B6 K n I (By own cap ρ) D1/\(∀(k:Nat)(s:SV),s.FD=true->(By own cap ρ)[k]? = some (some s)->D1[k]?≠some (some<|.ref D)),λD1 I hN=>⟨xs.length-(i+1),AFm,rfl,AFr,hN⟩,λy H3 hy=>?_⟩
       obtain⟨rfl,rfl⟩:=yl y H3 hy;refine⟨G',By own cap ρ,xs[i],B,RO,WI,e1,λEI S yV=>?_⟩;have V9:∀(k:Nat)(s:SV),s.FD=true->(By own cap ρ)[k]? = some (some s)->EI[k]?≠some (some<|.ref D):=λk qs o h z=>by obtain⟨h1,h2⟩:=yV k qs o<|hw k _ h;rw[h2]at z;exact F k qs o h z
       split at Z
       .contradiction
       .rename_i et;refine⟨G',B,false,S,et,λG2 H2 s2=>?_⟩;exact⟨G2,Y,ps,T,st.trans s2,s2.ex D (.l P) gD,s2.hh _ _ P,AW.same s2.gg C,Mb BA,Z,E,(S.step s2).weak hw kl.symm,V9⟩
       .rename_i et;refine⟨G',B,true,S,et,λG2 H2 s2=>?_⟩;refine gN ?_;split at Z
        .contradiction
        .rename_i rr er;split at Z
         .rename_i p x ep rE;cases Z;refine⟨G2,B,rr,S.step s2,er,λv G3 H3 s3 rv=>?_⟩;have Su:=s3.all;have eG:=s2.hh _ _ P;have sO:=s2.ex D (.l P) gD;have Vg:=Su.ex D (.l eG) sO;have hys:=C.len.symm;refine⟨Y,s3.hh _ _ eG,AIg (U:Y.length<=1000) AFp,Eg G3 H2 H3,Y ++ [v],ps ++ [p],x,?_,Vg,DE,?_,?_,rE,?_,?_,V9⟩
          .exact((st.trans s2).trans Su).YQ O Vg
          .exact AW.of<|Mi (AW.same (s2.gg.trans Su.gg) C).paired<|.cons (rv.clean s3.sub ep) .nil
          .simp only[AGA,AGh];exact Oz BA
          .rw[AII];exact E
          .exact(((S.step s2).step Su).weak hw kl.symm).YQ Vg V9
         .contradiction
     .left;have Vv:i=xs.length:=U
      subst Vv;rw[AJR]at Z;cases Z;rw[AGt]at E;subst E;refine⟨by rw[BX];exact WM,q _ G' H' (s1.trans st) ⟨D,Y,rfl,s1.hh.free O,gD,P,C⟩⟩
  .contradiction
variable{ifs:List Expr}{elt:Expr}{scope:Scope}{Nb:List Str}{own:Nat}{cap:List Nat}{its:IF}{t:BF}{fe:EF}
def Li(X:Cx)(ifs:List Expr)(t:BF):Prop:=HG X ifs<|Fs X.K t
theorem HG.imp{X:Cx}{e:List Expr}{t t':TT}(h:HG X e t)(i:∀σ H Q,t' σ H Q->t σ H Q):HG X e t':=λAB s σ H Q I q=>h AB s σ H Q I<|i σ H Q q
noncomputable def Bh:BF:=λ_=>some true
theorem ABk:Li X [] Bh:=HG.imp AAN (by rintro σ H Q ⟨G,ρ,r,R,e,q⟩;cases e;exact q G H<|Aq.refl R.sub)
theorem ABl(h:DT X c t):Li X [c] t:=AAO h
theorem AA6(hc:X.calm=true)(O:HA X scope Nb own cap)(z:cap.Nodup)(y:Kc own g)(hi:JU X false tg iter its)(q:∀C s H fp AB,IK (CI X Nb scope C s H fp AB) tg g)(v:∀C s H fp AB,Li (CI X Nb scope C s H fp AB) ifs t)(he:∀C s H fp AB,PX (CI X Nb scope C s H fp AB) elt fe) (hs:∀x,foldedSetIterable iter X.env x=pure x):PX X (.ListComp elt [⟨tg,iter,ifs,0⟩] scope pos)<|BC its own cap g t fe:=
 PE.imp (zo (g:=TC X.K g) (ti:=Fs X.K t) (te:=tX X.K fe) hc O hi q v he hs) λ_ _ _ h=>lA z y h
end
inductive Out where
 |nx (ρ:AS)|rt (r:RV)|bk (ρ:AS)|ct (ρ:AS)
abbrev SF:=AS->Option Out
structure SR(K:W.Frag)(AR AO G H:Hp)(ρ:AS)(σ:St):Prop where
 r:B6 K G H ρ σ
 gg:Ai AR G
 hh:Ai AO H
 ex:∀a,Mu AO a->AR a=none->G a=none
 new:∀(i:Nat)(s:SV)(a:Addr),s.FD=true->ρ[i]? = some (some s)->σ[i]? = some (some<|.ref a)->AO a=none
theorem SR.step{K:W.Frag}{AR AO G H G' H':Hp}{ρ:AS}{σ:St}(s:Aq G H G' H')(h:SR K AR AO G H ρ σ):SR K AR AO G' H' ρ σ:=
 ⟨h.r.step s,h.gg.trans s.gg,h.hh.trans s.hh,λa e n=>s.ex a (e.same h.hh)<|h.ex a e n,h.new⟩
theorem SR.My{K:W.Frag}{AR AO G H:Hp}{ρ:AS}{σ:St}(h:SR K AR AO G H ρ σ):Aq AR AO G H:=⟨h.gg,h.hh,h.r.sub,h.ex⟩
theorem SR.turn{K:W.Frag}{AR AO G H:Hp}{ρ ρ':AS}{σ AV:St}(h:SR K AR AO G H ρ σ)(r:B6 K G H ρ' AV)(k:D4 ρ σ ρ' AV):SR K AR AO G H ρ' AV:=
 ⟨r,h.gg,h.hh,h.ex,λi ps a o z y=>by obtain⟨q,v⟩:=k i ps o z;exact h.new i ps a o q<|v ▸ y⟩
def Ke(K:W.Frag)(AR AO G:Hp)(D:Ends):Out->Prop
 |.nx ρ'=>∀z G' H',Ai G G'->SR K AR AO G' H' ρ' z->D.nx z H'
 |.bk ρ'=>∀z G' H',Ai G G'->SR K AR AO G' H' ρ' z->D.bk z H'
 |.ct ρ'=>∀z G' H',Ai G G'->SR K AR AO G' H' ρ' z->D.ct z H'
 |.rt r=>∀v G' H',Aq AR AO G' H'->Bu K AO G' H' r v->D.rt v H'
theorem Ke.mono{K:W.Frag}{AR AO G y:Hp}{D:Ends}{o:Out}(s:Ai G y)(h:Ke K AR AO G D o):Ke K AR AO y D o:=by
 cases o with
 |nx ρ=>exact λz G' H' q=>h z G' H'<|s.trans q
 |bk ρ=>exact λz G' H' q=>h z G' H'<|s.trans q
 |ct ρ=>exact λz G' H' q=>h z G' H'<|s.trans q
 |rt r=>exact h
def Mz(K:W.Frag)(AR AO:Hp)(g:SF):TS:=λD σ H=>∃G ρ o,SR K AR AO G H ρ σ/\g ρ=some o/\Ke K AR AO G D o
def CQ(X:Cx)(AR AO:Hp)(st:Stmt)(g:SF):Prop:=PS X st<|Mz X.K AR AO g
def D5(X:Cx)(AR AO:Hp)(st:List Stmt)(g:SF):Prop:=CP X st<|Mz X.K AR AO g
noncomputable def A7:SF:=λρ=>some<|.nx ρ
noncomputable def AM(g h:SF):SF:=λρ=>match g ρ with|some (.nx ρ')=>h ρ'|o=>o
section
variable{X:Cx}{AR AO:Hp}{a b c e tg iter:Expr}{es:List Expr}{fa fb fc f:EF}{ga:AF}{t:BF}{gt:GF}{pos:Pos}{st:Stmt}{BB body N1:List Stmt}{g h:SF}
theorem ABw:D5 X AR AO [] A7:=CP.imp AAi (by rintro D σ H ⟨G,ρ,o,S,e,k⟩;cases e;exact k σ G H (Ai.refl _) S)
theorem ABp(y:CQ X AR AO st g)(q:D5 X AR AO BB h):D5 X AR AO (st::BB)<|AM g h:=CP.imp (je y q) (by
 rintro D σ H ⟨G,ρ,o,S,e,k⟩;unfold AM at e;cases z:g ρ with
 |none=>rw[z]at e;contradiction
 |some o1=>
  rw[z]at e;cases o1 with
  |nx A6=>exact⟨G,ρ,_,S,z,λAV G' H' s v=>⟨G',A6,o,v,e,k.mono s⟩⟩
  |rt r=>cases e;exact⟨G,ρ,_,S,z,k⟩
  |bk r=>cases e;exact⟨G,ρ,_,S,z,k⟩
  |ct r=>cases e;exact⟨G,ρ,_,S,z,k⟩)
theorem ABx(z:CQ X AR AO st g):D5 X AR AO [st] g:=jf z
noncomputable def Az(t:BF)(g h:SF):SF:=λρ=>match t ρ with|some true=>g ρ|some false=>h ρ|none=>none
theorem ABu(hc:DT X c t)(ha:D5 X AR AO body g)(q:D5 X AR AO N1 h):CQ X AR AO (.If c body N1 pos)<|Az t g h:=PS.imp (jd hc ha q) (by
 rintro D σ H ⟨G,ρ,o,S,e,k⟩;unfold Az at e;split at e
 .rename_i z;refine⟨G,ρ,true,S.r,z,λy v s1=>?_⟩;exact⟨y,ρ,o,S.step s1,e,k.mono s1.gg⟩
 .rename_i z;refine⟨G,ρ,false,S.r,z,λy v s1=>?_⟩;exact⟨y,ρ,o,S.step s1,e,k.mono s1.gg⟩
 .contradiction)
noncomputable def Q5:SF:=λ_=>none
theorem ABv:CQ X AR AO st Q5:=PS.imp AAc (by rintro D σ H ⟨G,ρ,o,S,e,k⟩;contradiction)
noncomputable def A0(f:EF):SF:=λρ=>match f ρ with|some (.cl p)=>some (.rt<|.cl p)|some (.fr ps)=>some (.rt<|.fr ps)|_=>none
theorem AB0(he:PX X e f):CQ X AR AO (.Return (some e) pos)<|A0 f:=PS.imp (Xb he) (by
 rintro D σ H ⟨G,ρ,o,S,e,k⟩;unfold A0 at e;split at e
 .rename_i p z;cases e;exact⟨G,ρ,_,S.r,z,λv G' H' s rv=>k v G' H' (S.My.trans s) rv⟩
 .rename_i ps z;cases e;exact⟨G,ρ,_,S.r,z,λv G' H' s rv=>k v G' H' (S.My.trans s)<|rv.back S.hh⟩
 .contradiction)
set_option tactic.hygienic true
noncomputable def Js(i:Nat):SF:=λρ=>match ρ[i]? with|some (some<|.own ps)=>some (.rt<|.fr ps)|_=>none
theorem AB2(i:Nat){x:Str}{p:Pos}(q:X.N[i]? = some x)(Z:Ez X.env.scope x)(hd:(x==("__debug__"))=false) (Y:(x==("__classdict__"))=false):CQ X AR AO (.Return (some<|.Name x p) pos)<|Js i:=PS.imp (Xb<|Hr q Z hd Y) (by
 rintro D σ H ⟨G,ρ,o,S,e,k⟩;unfold Js at e;split at e
 .rename_i ps z;cases e;obtain⟨v,y,a,vs,rfl,ga,ha,Q⟩:=S.r.slot i _ z;exact⟨_,y,k _ G H S.My ⟨a,vs,rfl,S.new i _ a rfl z y,ga,ha,Q⟩⟩
 .contradiction)
def Aa(i:Nat)(f:EF):SF:=λρ=>match f ρ with|some r=>(match r.clean with|some p=>some (.nx<|ρ.set i<|some<|.im p)|none=>none)|none=>none
theorem ko{te:TE}{i:Nat}{D:Ends}{σ:St}{H:Hp}(h:∀Q,tX X.K f σ H Q->te σ H Q)(q:Mz X.K AR AO (Aa i f) D σ H):Pd te (N8 i) D σ H:=by
 obtain⟨G,ρ,o,S,e,k⟩:=q;unfold Aa at e;split at e
 .rename_i r y;split at e
  .rename_i p Z;cases e;refine h _ ⟨G,ρ,r,S.r,y,λv G' H' s rv=>?_⟩;have z:=S.step s.all;exact k _ _ _ s.all.gg<|z.turn (z.r.Gw<|rv.clean s.sub Z) D4.Gw
  .contradiction
 .contradiction
theorem AB3(i:Nat){x:Str}{p:Pos}(y:X.N.Nodup)(he:PX X e f)(hi:X.N[i]? = some x)(v:Loc X.env.scope x)(hs:swapsWith e (some<|.Name x p) pos.line X.env=pure false)(Z:X.fn x=true\/X.env.scope.names.lookup x=some .local) : CQ X AR AO (.Assign [.Name x p] e pos)<|Aa i f:=PS.imp (Si y hi v he hs Z) λD σ H q=>ko (λ_ z=>z) q
noncomputable def C8(i:Nat)(f:EF):SF:=λρ=>match f ρ with|some (.fr ps)=>some (.nx<|ρ.set i<|some<|.own ps)|_=>none
theorem SR.kG{K:W.Frag}{G H:Hp}{ρ:AS}{σ:St}{i:Nat}{s:SV}{a:Addr}{P:Hp}(S:SR K AR AO G H ρ σ)(s1:Ai AO P)(ho:∀(j:Nat)(s:SV)(b:Addr),s.FD=true->ρ[j]? = some (some s)->σ[j]? = some (some<|.ref b)->P b≠none) (n:P a=none) (ok:Lm K G H s<|.ref a):SR K AR AO G H (ρ.set i<|some s)<|σ.set i<|some<|.ref a:=by
 have R:=S.r;refine⟨⟨R.sub,λj sv e=>?_,λj k qs rs b c D Q O v F e3 p=>?_,by simpa using R.len⟩,S.gg,S.hh,S.ex,λj qs b O Q v=>?_⟩
 .rcases get_set e with⟨rfl,rfl⟩|⟨B,T⟩
  .have Z:=iH e;exact⟨_,set_slot (by rw[<-R.len];exact Z),ok⟩
  .obtain⟨w,Q,q⟩:=R.slot j sv T;exact⟨w,by rw[AGN<|AGr B];exact Q,q⟩
 .rcases get_set Q with⟨y,_⟩|⟨y,f1⟩
  .rcases get_set v with⟨Y,_⟩|⟨Y,f2⟩
   .exact absurd (y.trans Y.symm) D
   .subst y;rw[AGN<|AGr Y]at p;have Z:=by have:=(AFx.mp e3).1;simpa using this
    rw[set_slot Z]at e3;cases e3;intro z;exact ho k rs c F f2 p<|z ▸ n
  .rcases get_set v with⟨Y,_⟩|⟨Y,f2⟩
   .subst Y;rw[AGN<|AGr y]at e3;have Z:=by have:=(AFx.mp p).1;simpa using this
    rw[set_slot Z]at p;cases p;intro z;exact ho j qs b O f1 e3<|z.symm ▸ n
   .rw[AGN<|AGr y]at e3;rw[AGN<|AGr Y]at p;exact R.apart j k qs rs b c D f1 O f2 F e3 p
 .rcases get_set Q with⟨y,_⟩|⟨y,f1⟩
  .subst y;have Z:=by have:=(AFx.mp v).1;simpa using this
   rw[set_slot Z]at v;cases v;exact s1.free n
  .rw[AGN<|AGr y]at v;exact S.new j qs b O f1 v
theorem SR.ADC{K:W.Frag}{G H:Hp}{ρ:AS}{σ:St}{i:Nat}{ps:List PV}{a:Addr}{vs:List V}{z:Hp}(S:SR K AR AO G H ρ σ)(s1:Ai AO z)(ho:∀(j:Nat)(s:SV)(b:Addr),s.FD=true->ρ[j]? = some (some s)->σ[j]? = some (some<|.ref b)->z b≠none) (n:z a=none) (ga:G a=none) (ha:H a=some (.lst vs)) (y:AW K G ps vs):SR K AR AO G H (ρ.set i<|some<|.own ps)<|σ.set i<|some<|.ref a:=
 S.kG s1 ho n ⟨a,vs,rfl,ga,ha,y⟩
theorem ADW{te:TE}{i:Nat}{D:Ends}{σ:St}{H:Hp}(h:∀Q,tX X.K f σ H Q->te σ H Q)(q:Mz X.K AR AO (C8 i f) D σ H):Pd te (N8 i) D σ H:=by
 obtain⟨G,ρ,o,S,e,k⟩:=q;unfold C8 at e;split at e
 .rename_i ps z;cases e;refine h _ ⟨G,ρ,_,S.r,z,λv G' H' s rv=>?_⟩;obtain⟨a,vs,rfl,n,ga,ha,y⟩:=rv;exact k _ _ _ s.gg<|(S.step s).ADC S.hh S.r.XS n ga ha y
 .contradiction
theorem AB6(i:Nat){x:Str}{p:Pos}(y:X.N.Nodup)(he:PX X e f)(hi:X.N[i]? = some x)(v:Loc X.env.scope x)(hs:swapsWith e (some<|.Name x p) pos.line X.env=pure false)(Z:X.fn x=true\/X.env.scope.names.lookup x=some .local) : CQ X AR AO (.Assign [.Name x p] e pos)<|C8 i f:=PS.imp (Si y hi v he hs Z) λD σ H q=>ADW (λ_ z=>z) q
section
variable{ifs:List Expr}{elt:Expr}{scope:Scope}{Nb:List Str}{own:Nat}{cap:List Nat}{its:IF}{fe:EF}{Ap:Pos}
theorem AB4(i:Nat){x:Str}{p:Pos}(y:X.N.Nodup)(hc:X.calm=true)(O:HA X scope Nb own cap)(v:cap.Nodup)(Z:Kc own gt)(hi:JU X false tg iter its)(Y:∀C s H fp AB,IK (CI X Nb scope C s H fp AB) tg gt)(Q:∀C s H fp AB,Li (CI X Nb scope C s H fp AB) ifs t)(he:∀C s H fp AB,PX (CI X Nb scope C s H fp AB) elt fe) (P:X.N[i]? = some x) (F:Loc X.env.scope x) (R:swapsWith (.ListComp elt [⟨tg,iter,ifs,0⟩] scope Ap) (some<|.Name x p) pos.line X.env=pure true) (hs:∀x,foldedSetIterable iter X.env x=pure x) (B:X.fn x=true\/X.env.scope.names.lookup x=some .local) : CQ X AR AO (.Assign [.Name x p] (.ListComp elt [⟨tg,iter,ifs,0⟩] scope Ap) pos)<|Aa i<|BC its own cap gt t fe:=
 PS.imp (AAf (g:=TC X.K gt) (ti:=Fs X.K t) (te:=tX X.K fe) y P F hc O hi Y Q he R hs B) λD σ H q=>ko (λ_ z=>lA v Z z) q
end
theorem SR.chg{K:W.Frag}{G H:Hp}{ρ:AS}{σ:St}{i:Nat}{s s':SV}{a:Addr}{o:HO}(S:SR K AR AO G H ρ σ)(hs:s.FD=true)(v:ρ[i]? = some (some s))(es:σ[i]? = some (some<|.ref a))(ga:G a=none)(ok:Lm K G (upd H a o) s'<|.ref a) : SR K AR AO G (upd H a o) (ρ.set i<|some s') σ:=by
 have R:=S.r;have hn:=S.new i s a hs v es;refine⟨⟨λb u q=>by rw[BH<|Du q ga];exact R.sub _ _ q,λj sv e=>?_,λj k xs I b c D y F Z n e3 T=>?_,by simpa using R.len⟩,S.gg,λb u q=>by rw[BH<|Du q hn];exact S.hh _ _ q,S.ex,λj xs b F y Z=>?_⟩
 .rcases get_set e with⟨rfl,rfl⟩|⟨C,B⟩
  .exact⟨_,es,ok⟩
  .obtain⟨w,y,q⟩:=R.slot j sv B;refine⟨w,y,?_⟩;cases sv with
   |exc nm=>exact q
   |im p=>exact q
   |own xs=>
    obtain⟨b,ws,rfl,Q,O,E⟩:=q;refine⟨b,ws,rfl,Q,?_,E⟩;rw[BH λz=>R.apart j i _ s b a C B rfl v hs y es z];exact O
   |EG t ks xs=>
    obtain⟨b,ws,rfl,Q,O,E⟩:=q;refine⟨b,ws,rfl,Q,?_,E⟩;rw[BH λz=>R.apart j i _ s b a C B rfl v hs y es z];exact O
   |Mh AL=>
    obtain⟨b,rfl,Q,O⟩:=q;refine⟨b,rfl,Q,?_⟩;rw[BH λz=>R.apart j i _ s b a C B rfl v hs y es z];exact O
 .rcases get_set y with⟨Y,_⟩|⟨Y,f1⟩
  .rcases get_set Z with⟨P,_⟩|⟨P,f2⟩
   .exact absurd (Y.trans P.symm) D
   .subst Y;exact R.apart j k s I b c D v hs f2 n e3 T
  .rcases get_set Z with⟨P,_⟩|⟨P,f2⟩
   .subst P;exact R.apart j k xs s b c D f1 F v hs e3 T
   .exact R.apart j k xs I b c D f1 F f2 n e3 T
 .rcases get_set y with⟨Y,_⟩|⟨Y,f1⟩
  .subst Y;rw[es]at Z;cases Z;exact hn
  .exact S.new j xs b F f1 Z
theorem SR.change{K:W.Frag}{G H:Hp}{ρ:AS}{σ:St}{i:Nat}{ps qs:List PV}{a:Addr}{us:List V}(S:SR K AR AO G H ρ σ)(z:ρ[i]? = some (some<|.own ps))(es:σ[i]? = some (some<|.ref a))(ga:G a=none)(y:AW K G qs us) : SR K AR AO G (upd H a<|.lst us) (ρ.set i<|some<|.own qs) σ:=S.chg rfl z es ga ⟨a,us,rfl,ga,DE,y⟩
def Cr(i:Nat)(k:List PV->List PV->Option (List PV))(ga:AF):SF:=λρ=>match ρ[i]?,ga ρ with
 |some (some<|.own ps),some rs=>(match CZ rs with|some qs=>(match k ps qs with|some Er=>some (.nx<|ρ.set i<|some<|.own Er)|none=>none)|none=>none)
 |_,_=>none
def Yr(K:W.Frag)(k:List PV->List PV->Option (List PV))(r:V->List V->Hp->VK->Prop):Prop:=
 ∀(ps qs z:List PV)(G H:Hp)(a:Addr)(vs us:List V)(Q:VK),k ps qs=some z->H a=some (.lst vs)->AW K G ps vs->AW K G qs us->(∀ws v,AW K G z ws->Q v (upd H a<|.lst ws))->r (.ref a) us H Q
theorem ADi{i:Nat}{k:List PV->List PV->Option (List PV)}{r:V->List V->Hp->VK->Prop}(Z:Yr X.K k r){D:Ends}{σ:St}{H:Hp}(q:Mz X.K AR AO (Cr i k ga) D σ H):ku (kq X.K "list" r (YG i)<|YH X.K ga) D σ H:=by
 obtain⟨G,ρ,o,S,e,ok⟩:=q;unfold Cr at e;split at e
 .rename_i ps rs z ea;split at e
  .rename_i qs Y;split at e
   .rename_i Q O;cases e;obtain⟨v,y,a,vs,rfl,g,ha,P⟩:=S.r.slot i _ z;refine⟨_,y,.inl ⟨rfl,vs,.inl<|.inl ha⟩,G,ρ,rs,S.r,ea,λus F p s1 rv=>?_⟩;have R:=S.step s1.all;refine Z ps qs Q (Eg F H p) p a vs us _ O (s1.hh _ _ ha) (AW.same s1.all.gg P) (Kg s1.sub rv Y) λws w B=>?_;exact ok _ _ _ s1.all.gg<|R.change z y (s1.all.ex a (.l ha) g) B
   .contradiction
  .contradiction
 .contradiction
noncomputable def Dm(ps qs:List PV):Option<|List PV:=match qs with|[p]=>if ps.length<1000 then some (ps ++ [p])else none|_=>none
theorem xf{K:W.Frag}:Yr K Dm ji:=by
 intro ps qs Er G H a vs us Q e ha z rq q;unfold Dm at e;split at e
 .split at e
  .cases e;obtain⟨v,r,rfl,rv,y⟩:=rq;subst y;have hl:=z.len;exact⟨a,vs,v,rfl,rfl,ha,kP U,q _ _<|AW.of<|Mi z.paired<|.cons rv .nil⟩
  .contradiction
 .contradiction
theorem ABo(i:Nat){x:Str}{p y:Pos}(ha:CY X (e::es) ga)(v:X.N[i]? = some x)(Z:Ez X.env.scope x)(hd:(x==("__debug__"))=false) (Y:(x==("__classdict__"))=false) (Q:attributeBase (.Name x p) "append" X.env (eval (.Name x p) X.env)=eval (.Name x p) X.env) {z:Pos} (O:((backTo z<|starEach (e::es) X.env).all (λx=>!x.1)&&(backToKw z<|keywordEach [] X.env).all (λx=>x.1.isSome)
  && decide ((e::es).length+([]:List Keyword).length+(if([]:List Keyword).isEmpty then 0 else 1)<30))=true)
 (P:(y.endLine==z.line)=true) (hs:starEach (e::es) X.env=(false,eval e X.env)::starEach es X.env) (D:(backTo z<|starEach es X.env).any (·.1)=false)
 (R:swapsWith (.Call (.Attribute (.Name x p) "append" y) (e::es) [] z) none pos.line X.env=pure false) :
 CQ X AR AO (.Expr (.Call (.Attribute (.Name x p) "append" y) (e::es) [] z) pos) (Cr i Dm ga):=
 PS.imp (Sh (PD AHa PySem.F.slot_list_append PySem.F.type_list_append iX (Hr v Z hd Y) ha Q O P hs D) R) λ_ _ _ q=>ADi xf q
noncomputable def DN(gt:GF)(body:SF):List PV->AS->Option Out
 |[],ρ=>some<|.nx ρ
 |x::xs,ρ=>match gt x ρ with
  |none=>none
  |some A6=>match body A6 with
   |some (.nx Bc)=>DN gt body xs Bc
   |some (.ct Bc)=>DN gt body xs Bc
   |some (.bk Bc)=>some<|.nx Bc
   |some (.rt r)=>some<|.rt r
   |none=>none
def B0(its:IF)(gt:GF)(body:SF):SF:=λρ=>match its ρ with|some xs=>DN gt body xs ρ|none=>none
theorem ABt{its:IF}(hc:X.calm=true)(hp:PassesOwn (model X.prog X.w) X.A X.env X.xe)(hi:JU X true tg iter its)(hg:IK X tg gt)(hb:D5 X AR AO body g)(hs:∀x,foldedSetIterable iter X.env x=pure x) : CQ X AR AO (.For tg iter body [] pos)<|B0 its gt g:=PS.imp (AAb hp hc hi hg hb hs) (by
 rintro D σ H ⟨G,ρ,o,S,e,ok⟩;unfold B0 at e;split at e
 .rename_i xs ex;refine⟨G,ρ,xs,S.r,ex,λJ F H1 s1 J1=>?_⟩;obtain⟨vs,C,hJ⟩:=J1.ex;have BX:=C.len;refine⟨λi m R H'=>m=xs.length-i/\i<=xs.length/\∃G' ρ',SR X.K AR AO G' H' ρ' R/\Ai F G'/\DN gt g (xs.drop i) ρ'=some o,⟨xs.length,AFn,AHR _,F,ρ,S.step s1,Ai.refl _,by exact e⟩,?_⟩;rintro i m R H' ⟨rfl,CN,G',ρ',q,p,z⟩;obtain⟨Vt,WM⟩:=hJ H'<|p.trans q.r.sub;by_cases E:i<xs.length
  .right;have I:vs[i]? = some vs[i]:=AGF AFo;obtain⟨go,yl⟩:=Vt i _ I;have WT:=AGF E;have WI:Rep X.K G' xs[i] vs[i]:=by obtain⟨u,n,ru⟩:=Mj C.paired WT;rw[I]at n;cases n;exact Rep.same p ru
   have OE:=AHv E;rw[OE]at z;unfold DN at z;split at z
   .contradiction
   .rename_i Z e1;refine⟨go,λD1 Cy=>∃HD Pl,SR X.K AR AO HD Cy Pl D1/\Ai F HD/\DN gt g (xs.drop<|i+1) Pl=some o,λD1 Cy hN=>⟨xs.length-(i+1),AFo,rfl,AFr,hN⟩,λy H3 hy=>?_⟩;obtain⟨rfl,rfl⟩:=yl y H3 hy;refine⟨G',ρ',xs[i],Z,q.r,WI,e1,λEI O k1=>?_⟩;split at z
    .rename_i P v;exact⟨G',Z,_,q.turn O k1,v,λB Y T s2 Q=>⟨Y,P,Q,p.trans s2,z⟩⟩
    .rename_i P v;exact⟨G',Z,_,q.turn O k1,v,λB Y T s2 Q=>⟨Y,P,Q,p.trans s2,z⟩⟩
    .rename_i P v;cases z;exact⟨G',Z,_,q.turn O k1,v,λB Y T s2 Q=>ok B Y T ((s1.gg.trans p).trans s2) Q⟩
    .rename_i r v;cases z;exact⟨G',Z,_,q.turn O k1,v,ok⟩
    .contradiction
  .left;have Vv:i=xs.length:=U
   subst Vv;rw[AJR]at z;cases z;exact⟨by rw[BX];exact WM,ok R G' H' (s1.gg.trans p) q⟩
 .contradiction)
end
noncomputable def A9(N:Nat)(ps:List PV):AS:=ps.map (λp=>some<|.im p)++List.replicate (N-ps.length) none
noncomputable def Out.val:Out->Option RV
 |.rt r=>some r
 |.nx _=>some<|.cl .Au
 |_=>none
def denote(N n:Nat)(g:SF):List PV->Option RV:=λps=>if ps.length=n then(g<|A9 N ps).bind Out.val else none
theorem Xk{N:Nat}{ps:List PV}{i:Nat}{sv:SV}(h:(A9 N ps)[i]? = some (some sv)):∃p,ps[i]? = some p/\sv=.im p:=by
 unfold A9 at h;by_cases hi:i<ps.length
 .rw[AGX (by simpa using hi),AG6]at h;cases e:ps[i]? with
  |none=>rw[e]at h;contradiction
  |some p=>rw[e]at h;cases h;exact⟨p,rfl,rfl⟩
 .rw[AGa (by simpa using hi),AGz]at h;split at h<;>nomatch h
theorem ADS{N:List Str}{vs:List V}{i:Nat}{v:V}(h:vs[i]? = some v):(start N vs)[i]? = some (some v):=by
 unfold start;have hi:=(AFx.mp h).1;rw[AGX (by simpa using hi),AG6,h]
 rfl
theorem Xy{K:W.Frag}{N:List Str}{G H:Hp}{ps:List PV}{vs:List V}(s:Ai G H)(h:AW K G ps vs):SR K G H G H (A9 N.length ps)<|start N vs:=by
 refine⟨⟨s,λi sv e=>?_,λi j qs rs a b _ y o _ _ _ _=>?_,?_⟩,Ai.refl _,Ai.refl _,λ_ _ n=>n,λi qs a o y _=>?_⟩
 .obtain⟨p,q,rfl⟩:=Xk e;obtain⟨v,Z,rv⟩:=Mj h.paired q;exact⟨v,ADS Z,rv⟩
 .obtain⟨p,_,z⟩:=Xk y;subst z;contradiction
 .delta A9 start
  simp only[AGA,AGA,AFs,AFs,AHU,AHU,h.len]
 .obtain⟨p,_,z⟩:=Xk y;subst z;contradiction
theorem sG{P:Program}{w:World}{K:W.Frag}{mg:Str->Option Value}{base:Heap}{x qual:Str}{st:Stmt}{f:Addr}{fd:FuncData}{N ps:List Str}{k:Nat}{g:SF}(F:Ex K x qual st f fd)(S:IG N ps<|BR st) (y:∀(As:Value)(A:Around)(outer:List Env)(s:Shared)(H:Hp)(E:XK)(AR AO:Hp),B7 k (A.deeper<|envOfC qual (BR st) s.heap.objs.size f As)->D5 (GN EJ P w K mg base N qual (BR st) f As A outer s H E).Gk AR AO (EN st) g) : Cw P w K mg base EJ (k+1) f fd ps<|Mw K ps.length<|denote N.length ps.length g:=by
 refine F.ok S (λvs H Q E h=>h.1) λAs A outer s H vs Q E p h=>?_;obtain⟨hl,G,qs,r,sub,Z,e,q⟩:=h;refine⟨_,y As A outer s H E G H p,?_⟩;unfold denote at e;split at e
 .cases z:g (A9 N.length qs)with
  |none=>rw[z]at e;contradiction
  |some o=>
   rw[z]at e;refine⟨G,A9 N.length qs,o,Xy sub Z,z,?_⟩;cases o with
   |rt r'=>
    cases e;exact λv G' H' s rv=>q v G' H' s rv
   |nx ρ=>
    cases e;exact λAV G' H' s Y=>q .Au G' H' Y.My<|by rfl
   |bk ρ=>contradiction
   |ct ρ=>injection e
 .contradiction
set_option tactic.hygienic true
mutual
noncomputable def Ah:PV->PyData
 |.Au=>.none
 |.bl b=>.bool b
 |.int i=>.int i
 |.str x=>.str x
 |.tup xs=>.tuple<|Bk xs
 |.lst xs=>.list<|Bk xs
 |.rd xs=>.list<|Bk xs
 |.Co _ _=>.dict []
noncomputable def Bk:List PV->List PyData
 |[]=>[]
 |x::xs=>Ah x::Bk xs
end
section
variable{X:Cx}{AB:List (Addr×Obj)}{σ:St}{H:Hp}{s:Shared}
mutual
theorem Rep.reads(I:Inv X AB σ H s):∀{p:PV}{v:V}{u:Value},(Ah p).canLay0=true->Rep X.K H p v->RelV v u->∃y,Reads s.heap u (Ah p) y
 |.Au,v,u,_,h,r=>by unfold Rep at h;subst h;cases r;exact⟨[],.none⟩
 |.bl b,v,u,_,h,r=>by unfold Rep at h;subst h;cases r;exact⟨[],.bool b⟩
 |.int i,v,u,_,h,r=>by unfold Rep at h;subst h;obtain⟨t,rfl⟩:=r;exact⟨[],.int i t⟩
 |.str i,v,u,_,h,r=>by unfold Rep at h;subst h;obtain⟨t,rfl⟩:=r;exact⟨[],.str i t⟩
 |.Co _ _,v,u,c,h,r=>by unfold Ah PyData.canLay0 at c;cases c
 |.tup xs,v,u,c,h,r=>by unfold Rep at h;unfold Ah PyData.canLay0 at c;obtain⟨a,vs,rfl,q,Z⟩:=h;cases r;obtain⟨its,rv,⟨o,ho,hc,n,hd⟩,_⟩:=I.tuple q;obtain⟨y,Y⟩:=AW.reads I c Z rv;exact⟨y,by unfold Ah;exact .tuple ho hc hd<|by simpa using Y⟩
 |.lst xs,v,u,c,h,r=>by unfold Rep at h;unfold Ah PyData.canLay0 at c;obtain⟨a,vs,rfl,q,Z⟩:=h;cases r;obtain⟨z,its,n,rv,e⟩:=q.ok I.AZ;obtain⟨y,Y⟩:=AW.reads I c Z rv;exact⟨a::y,by unfold Ah;exact .list e rfl rfl<|by simpa using Y⟩
 |.rd xs,v,u,c,h,r=>by unfold Rep at h;unfold Ah PyData.canLay0 at c;obtain⟨a,vs,rfl,q,Z⟩:=h;cases r;obtain⟨its,rv,⟨o,n,ho,hc,RC,hd⟩,_⟩:=I.list q;obtain⟨y,Y⟩:=AW.reads I c Z rv;exact⟨a::y,by unfold Ah;exact .list ho hc hd<|by simpa using Y⟩
theorem AW.reads(I:Inv X AB σ H s):∀{ps:List PV}{vs:List V}{us:List Value},PyData.canLayAll0 (Bk ps)=true->AW X.K H ps vs->Ao vs us->∃z,ReadsAll s.heap us (Bk ps) z
 |[],vs,us,_,h,r=>by unfold AW at h;subst h;cases r;exact⟨[],.nil⟩
 |p::ps,vs,us,c,h,r=>by
  unfold AW at h;unfold Bk PyData.canLayAll0 at c;rw[AFw]at c;obtain⟨v,vr,rfl,y,q⟩:=h;cases r with
  |cons r1 r2=>
   obtain⟨z,Z⟩:=Rep.reads I c.1 y r1;obtain⟨bs,Y⟩:=AW.reads I c.2 q r2;exact⟨z++bs,by unfold Bk;exact .cons Z Y⟩
end
def Sj(K:W.Frag)(neg:Bool):R2:=λx y H Q=>∃p q,Rep K H p x/\Rep K H q y/\SeqAt.shaped (Ah p)=true/\SeqAt.shaped (Ah q)=true/\Q (.bl (if neg=true then !PyData.eqv (Ah p) (Ah q)else PyData.eqv (Ah p) (Ah q))) H
theorem yi(z:X.A.units+64<cLine):Be X (compareOp .Eq)<|Sj X.K false:=by rintro AB s σ H x y v u Q I Z Y ⟨p,q,hp,O,sp,sq,k⟩;obtain⟨as,P⟩:=Rep.reads I (SeqAt.canLay_of_shaped sp) hp Z;obtain⟨bs,D⟩:=Rep.reads I (SeqAt.canLay_of_shaped sq) O Y;exact SeqAt.compareEq_shaped P D sp sq z ⟨.bl _,H,I,rfl,k⟩
theorem yz(z:X.A.units+64<cLine):Be X (compareOp .NotEq)<|Sj X.K true:=by rintro AB s σ H x y v u Q I Z Y ⟨p,q,hp,O,sp,sq,k⟩;obtain⟨as,P⟩:=Rep.reads I (SeqAt.canLay_of_shaped sp) hp Z;obtain⟨bs,D⟩:=Rep.reads I (SeqAt.canLay_of_shaped sq) O Y;exact SeqAt.compareNe_shaped P D sp sq z ⟨.bl _,H,I,rfl,k⟩
end
def Bn(x y:RV):Option RV:=if SeqAt.shaped (Ah x.any)=true/\SeqAt.shaped (Ah y.any)=true then some (.cl<|.bl<|PyData.eqv (Ah x.any)<|Ah y.any)else none
def CL(x y:RV):Option RV:=if SeqAt.shaped (Ah x.any)=true/\SeqAt.shaped (Ah y.any)=true then some (.cl<|.bl (!PyData.eqv (Ah x.any) (Ah y.any)))else none
section
variable{X:Cx}
theorem yc{K:W.Frag}:Dg K Bn<|Sj K false:=by
 intro x y z H0 G H vx vy Q sub sh e v p q;unfold Bn at e;split at e
 .rename_i h;cases e;exact⟨x.any,y.any,v.any sub,p.any sub,h.1,h.2,q _ G H (Aq.refl sub)<|by rfl⟩
 .contradiction
theorem ye{K:W.Frag}:Dg K CL<|Sj K true:=by
 intro x y z H0 G H vx vy Q sub sh e v p q;unfold CL at e;split at e
 .rename_i h;cases e;exact⟨x.any,y.any,v.any sub,p.any sub,h.1,h.2,q _ G H (Aq.refl sub)<|by rfl⟩
 .contradiction
theorem pE(z:X.A.units+64<cLine):Ck X .Eq Bn:=⟨_,yi z,yc⟩
theorem pO(z:X.A.units+64<cLine):Ck X .NotEq CL:=⟨_,yz z,ye⟩
def BS(neg:Bool)(x y:RV):Option RV:=match x,y.seq with
 |.cl (.int i),some ps=>(C1 ps).map λns=>.cl (.bl (if neg=true then !ns.any (· == i)else ns.any (· == i)))
 |_,_=>none
theorem jA{K:W.Frag}{neg:Bool}:Dg K (BS neg)<|Xg K neg:=by
 intro x y z H0 G H vx vy Q sub sh e p Z q;unfold BS at e;split at e
 .rename_i i ps es;cases v:C1 ps with
  |none=>rw[v]at e;contradiction
  |some ns=>
   rw[v]at e;cases e;obtain⟨a,vs,rfl,Y,O⟩:=Z.seq sub es;have P:=Iv v O;subst P;have D:RZ (.int i) (ns.map V.int)=ns.any (· == i):=by
    unfold RZ;rw[AHo]
    rfl
   refine⟨a,ns.map V.int,rfl,Y,by rw[p.int];rfl,by rw[AJS];exact AHE.mpr λ_ _=>rfl,?_⟩;rw[p.int,D];exact q _ G H (Aq.refl sub) (by cases neg<;>rfl)
 .contradiction
theorem pH:Ck X .In<|BS false:=⟨_,yq,jA⟩
theorem pP:Ck X .NotIn<|BS true:=⟨_,y9,jA⟩
theorem ABC{x:Str}{i:Int}{pos:Pos}(h:∃t,X.mg x=some (.int i t))(z:Gl X x)(hd:(x==("__debug__"))=false):PX X (.Name x pos)<|fC<|.int i:=by obtain⟨t,h⟩:=h;exact Mp (XY z h (v:=.int i) ⟨t,rfl⟩ hd) λ_=>by rfl
theorem ABD{x:Str}{p:PV}{pos:Pos}(h:∃a,X.mg x=some (.ref a)/\∀G,Rep X.K G p<|.ref a)(z:Gl X x)(hd:(x==("__debug__"))=false):PX X (.Name x pos)<|fC p:=by obtain⟨a,h,y⟩:=h;exact Mp (XY z h (v:=.ref a) rfl hd) y
def BD(P:Program)(w:World)(K:W.Frag)(mg:Str->Option Value)(base:Heap)(x:Str)(k n:Nat)(F:List PV->Option RV):Prop:=
 ∃f fd ps,Cw P w K mg base EJ k f fd ps (Mw K n F)/\mg x=some (.ref f)/\W.keepIn K (.ref f)=true/\Binds K fd ps []/\ps.length=n
theorem Fn.of{x:Str}{j k n:Nat}{F:List PV->Option RV}(h:BD X.prog X.w X.K X.mg X.base x j n F)(z:B7 k X.A)(y:j<=k:=by decide):Fn X x n F:=by obtain⟨f,fd,ps,q,v,h3,p,Z⟩:=h;exact⟨k,f,fd,ps,q.mono y,z,v,h3,p,Z⟩
noncomputable def Ui(outer:List<|Str×NameKind)(N:List Str)(scope:Scope)(Nb:List Str)(own:Nat)(cap:List Nat):Bool:=
 (scope.kind == .function)&&scope.names.all (λy=>y.2 != .cell||scope.names.lookup y.1==some .cell)&&scope.names.all (λx=>x.2 != .local||scope.names.lookup x.1==some .local) &&
 scope.names.all (λy=>y.2 != .free||(outer.lookup y.1==some .cell||outer.lookup y.1==some .free))&&(Nb.length==own+cap.length) &&
 (List.range cap.length).all (λk=>match cap[k]? with|some j=>(match Nb[own+k]?,N[j]? with|some x,some y=>x==y&&scope.names.lookup x==some .free|_,_=>false)|none=>false)
theorem oy{scope:Scope}{Nb:List Str}{own:Nat}{cap:List Nat}(h:Ui X.env.scope.names X.N scope Nb own cap=true):HA X scope Nb own cap:=by
 unfold Ui at h;simp only[AFw,AHE,AHC,bne_iff_ne,AGv,AF1]at h;obtain⟨⟨⟨⟨⟨Z,Y⟩,h3⟩,Q⟩,O⟩,P⟩:=h;refine⟨Z,λx q v=>?_,λx q v=>?_,λy D F=>?_,O,λk j p=>?_⟩
 .rcases Y x q with z|z
  .exact absurd v z
  .exact z
 .rcases h3 x q with z|z
  .exact absurd v z
  .exact z
 .rcases Q y D with z|z
  .exact absurd F z
  .exact z
 .have R:=(AFx.mp p).1;have:=P k R;rw[p]at this;dsimp only at this;split at this
  .rename_i x y B G;simp only[AFw,AHC]at this;obtain⟨rfl,z⟩:=this;exact⟨x,B,G,z⟩
  .contradiction
end
end L2.PL
namespace L2.PL
open PySem PySem.Spec PyProof.Rows
section
variable{X:Cx}{AR AO:Hp}{a b c e:Expr}{es:List Expr}{fa fb f:EF}{ga:AF}{pos:Pos}
section
variable{x:Str}{p ap Ap:Pos}
end
noncomputable def Ds:Int->List Int->Int
 |m,[]=>m
 |m,x::r=>Ds (if x>m then x else m) r
noncomputable def Dt:Int->List Int->Int
 |m,[]=>m
 |m,x::r=>Dt (if x<m then x else m) r
theorem iK:∀(l:List Int)(m:Int),(Ds m l=m\/Ds m l∈l)/\m<=Ds m l/\∀x∈l,x<=Ds m l
 |[],m=>⟨.inl rfl,AGb _,λx z=>by cases z⟩
 |y::r,m=>by
  obtain⟨p,q,h3⟩:=iK r (if y>m then y else m);show(Ds (if y>m then y else m) r=m\/Ds (if y>m then y else m) r∈y::r)/\m<=Ds (if y>m then y else m) r/\∀x∈y::r,x<=Ds (if y>m then y else m) r;refine⟨?_,?_,λx z=>?_⟩
  .rcases p with e|e
   .by_cases v:y>m
    .rw[AFu v]at e ⊢;right;rw[e];exact AF3
    .rw[AF0 v]at e ⊢;left;exact e
   .right;exact AFz _ e
  .exact AHh (by split<;>lia) q
  .rcases AF4.mp z with rfl|z
   .exact AHh (by split<;>lia) q
   .exact h3 x z
theorem iT:∀(l:List Int)(m:Int),(Dt m l=m\/Dt m l∈l)/\Dt m l<=m/\∀x∈l,Dt m l<=x
 |[],m=>⟨.inl rfl,AGb _,λx z=>by cases z⟩
 |y::r,m=>by
  obtain⟨p,q,h3⟩:=iT r (if y<m then y else m);show(Dt (if y<m then y else m) r=m\/Dt (if y<m then y else m) r∈y::r)/\Dt (if y<m then y else m) r<=m/\∀x∈y::r,Dt (if y<m then y else m) r<=x;refine⟨?_,?_,λx z=>?_⟩
  .rcases p with e|e
   .by_cases v:y<m
    .rw[AFu v]at e ⊢;right;rw[e];exact AF3
    .rw[AF0 v]at e ⊢;left;exact e
   .right;exact AFz _ e
  .exact AHh q (by split<;>lia)
  .rcases AF4.mp z with rfl|z
   .exact AHh q (by split<;>lia)
   .exact h3 x z
end
theorem Uh:bootBuiltins "isinstance" = some (.builtin "isinstance"):=AFq
theorem oD:bootBuiltins "abs" = some (.builtin "abs"):=AFq
theorem ZF:bootBuiltins "max" = some (.builtin "max"):=AFq
theorem ZG:bootBuiltins "min" = some (.builtin "min"):=AFq
theorem ZH:bootBuiltins "sum" = some (.builtin "sum"):=AFq
theorem oE:bootBuiltins "all" = some (.builtin "all"):=AFq
theorem oF:bootBuiltins "any" = some (.builtin "any"):=AFq
theorem oK:bootBuiltins "sorted" = some (.builtin "sorted"):=AFq
theorem oG:bootBuiltins "bool" = some (.type "bool"):=AFq
theorem oH:bootBuiltins "int" = some (.type "int"):=AFq
theorem ZE:bootBuiltins "list" = some (.type "list"):=AFq
theorem oJ:bootBuiltins "set" = some (.type "set"):=AFq
theorem oM:bootBuiltins "tuple" = some (.type "tuple"):=AFq
section
variable{X:Cx}{AR AO:Hp}{a b c e:Expr}{es:List Expr}{fa fb f:EF}{ga:AF}{pos:Pos}
theorem xU{m M:Int}{l:List Int}(z:M∈m::l)(y:∀a∈m::l,a<=M):M=Ds m l:=by
 obtain⟨s1,s2,q⟩:=iK l m;have h3:Ds m l∈m::l:=by
  rcases s1 with e|e
  .rw[e];exact AF3
  .exact AFz _ e
 have h4:=y _ h3;have h5:M<=Ds m l:=by
  rcases AF4.mp z with e|e
  .rw[e];exact s2
  .exact q _ e
 lia
theorem xg{m M:Int}{l:List Int}(z:M∈m::l)(y:∀a∈m::l,M<=a):M=Dt m l:=by
 obtain⟨s1,s2,q⟩:=iT l m;have h3:Dt m l∈m::l:=by
  rcases s1 with e|e
  .rw[e];exact AF3
  .exact AFz _ e
 have h4:=y _ h3;have h5:Dt m l<=M:=by
  rcases AF4.mp z with e|e
  .rw[e];exact s2
  .exact q _ e
 lia
theorem og(hc:X.calm=true):C4 X (.builtin "max") (λxs H Q=>∃(p:Addr)(m:Int)(ns:List Int),xs=[.ref p]/\Rd H p (.lst<|(m::ns).map V.int)/\Q (.int<|Ds m ns) H):=by
 intro AB s σ H xs us Q I r h;obtain⟨p,m,ns,rfl,O,q⟩:=h;obtain⟨u,rfl,P⟩:=vals1 r;cases P;obtain⟨z,its,n,rv,e⟩:=O.ok I.AZ;have hi:=intsAre_of rv;obtain⟨xs,Z⟩:=hi.allInts.items;have y:(m::ns)=xs.toList.map (·.1):=by rw[<-hi.numsOf,<-nums_intItems,<-Z]
 have hsz:0<xs.size:=by have h3:=AG5 List.length y;simp at h3;lia
 have Y:s.heap.IsList p its.toArray:=⟨_,e,rfl,n,rfl⟩;rw[Z]at Y;refine max_intList (I.ok.hd hc) Y hsz λv h' tk D F=>?_;obtain⟨t,rfl⟩:=intItems_at D;obtain⟨h1,R⟩:=argBest_gt (numAt xs)<|xs.size-1;have B:numAt xs (argBest (λi j=>decide (numAt xs i>numAt xs j))<|xs.size-1)=Ds m ns:=by
  refine xU ?_ λa ha=>?_
  .rw[y,numAt_eq];exact getD_mem (by simp only[AFs,AGp];omega)
  .rw[y]at ha;obtain⟨j,G,rfl⟩:=mem_getD ha;rw[AFs,AGp]at G;rw[<-numAt_eq];exact R j U
 rw[B];exact⟨.int _,H,I.kept F,⟨_,rfl⟩,q⟩
theorem om(hc:X.calm=true):C4 X (.builtin "min") (λxs H Q=>∃(p:Addr)(m:Int)(ns:List Int),xs=[.ref p]/\Rd H p (.lst<|(m::ns).map V.int)/\Q (.int<|Dt m ns) H):=by
 intro AB s σ H xs us Q I r h;obtain⟨p,m,ns,rfl,O,q⟩:=h;obtain⟨u,rfl,P⟩:=vals1 r;cases P;obtain⟨z,its,n,rv,e⟩:=O.ok I.AZ;have hi:=intsAre_of rv;obtain⟨xs,Z⟩:=hi.allInts.items;have y:(m::ns)=xs.toList.map (·.1):=by rw[<-hi.numsOf,<-nums_intItems,<-Z]
 have hsz:0<xs.size:=by have h3:=AG5 List.length y;simp at h3;lia
 have Y:s.heap.IsList p its.toArray:=⟨_,e,rfl,n,rfl⟩;rw[Z]at Y;refine min_intList (I.ok.hd hc) Y hsz λv h' tk D F=>?_;obtain⟨t,rfl⟩:=intItems_at D;obtain⟨h1,R⟩:=argBest_lt (numAt xs)<|xs.size-1;have B:numAt xs (argBest (λi j=>decide (numAt xs i<numAt xs j))<|xs.size-1)=Dt m ns:=by
  refine xg ?_ λa ha=>?_
  .rw[y,numAt_eq];exact getD_mem (by simp only[AFs,AGp];omega)
  .rw[y]at ha;obtain⟨j,G,rfl⟩:=mem_getD ha;rw[AFs,AGp]at G;rw[<-numAt_eq];exact R j U
 rw[B];exact⟨.int _,H,I.kept F,⟨_,rfl⟩,q⟩
set_option tactic.hygienic true
def Ob:List RV->Option RV
 |[r]=>match r.list.bind C1 with|some (m::ns)=>some (.cl<|.int<|Ds m ns)|_=>none
 |_=>none
def Oc:List RV->Option RV
 |[r]=>match r.list.bind C1 with|some (m::ns)=>some (.cl<|.int<|Dt m ns)|_=>none
 |_=>none
theorem zH:Eb X.K Ob (λxs H Q=>∃(p:Addr)(m:Int)(ns:List Int),xs=[.ref p]/\Rd H p (.lst<|(m::ns).map V.int)/\Q (.int<|Ds m ns) H):=by
 intro rs z H0 G H vs Q sub sh e rv q;unfold Ob at e;split at e
 .rename_i r;split at e
  .rename_i m ns y;cases e;cases es:r.list with
   |none=>rw[es]at y;contradiction
   |some ps=>
    rw[es]at y;obtain⟨v,rfl,Y⟩:=rv.one;obtain⟨a,us,rfl,Z,O⟩:=Y.list sub es;rw[Iv y O]at Z;exact⟨a,m,ns,rfl,Z,q _ G H (Aq.refl sub)<|by rfl⟩
  .contradiction
 .contradiction
theorem zJ:Eb X.K Oc (λxs H Q=>∃(p:Addr)(m:Int)(ns:List Int),xs=[.ref p]/\Rd H p (.lst<|(m::ns).map V.int)/\Q (.int<|Dt m ns) H):=by
 intro rs z H0 G H vs Q sub sh e rv q;unfold Oc at e;split at e
 .rename_i r;split at e
  .rename_i m ns y;cases e;cases es:r.list with
   |none=>rw[es]at y;contradiction
   |some ps=>
    rw[es]at y;obtain⟨v,rfl,Y⟩:=rv.one;obtain⟨a,us,rfl,Z,O⟩:=Y.list sub es;rw[Iv y O]at Z;exact⟨a,m,ns,rfl,Z,q _ G H (Aq.refl sub)<|by rfl⟩
  .contradiction
 .contradiction
def OT(T:String):PV->Option Bool
 |.bl _=>if T = "bool" then some true else if T = "int" then some true else none
 |.int _=>if T = "int" then some true else if T = "bool" then some false else none
 |.str _=>if T = "str" then some true else none
 |.lst _=>if T = "list" then some true else none
 |_=>none
def Ik(T:String)(f:EF):EF:=λρ=>match f ρ with|some r=>(OT T r.any).map λb=>.cl (.bl b)|none=>none
set_option tactic.hygienic false
theorem tyK{K:W.Frag}{H:Hp}{T:String}{p:PV}{v:V}{k:Bool}(h:Rep K H p v)(e:OT T p=some k) (y:T = "bool"->W.kitOne K (.type "bool") (.type T)=some true/\W.kitOne K (.type "int") (.type T)=some false) (q:T = "int"->W.kitOne K (.type "int") (.type T)=some true/\W.kitOne K (.type "bool") (.type T)=some true) (h3:T = "str"->W.kitOne K (.type "str") (.type T)=some true) (Z:T = "list"->W.kitOne K (.type "list") (.type T)=some true):∃t,FY K H v t/\W.kitOne K t (.type T)=some k:=by
 unfold OT at e;split at e
 .subst h;split at e
  .cases e;exact⟨_,.bl _,(y ‹_›).1⟩
  .split at e
   .cases e;exact⟨_,.bl _,(q ‹_›).2⟩
   .contradiction
 .subst h;split at e
  .cases e;exact⟨_,.int _,(q ‹_›).1⟩
  .split at e
   .cases e;exact⟨_,.int _,(y ‹_›).2⟩
   .contradiction
 .subst h;split at e
  .cases e;exact⟨_,.str _,h3 ‹_›⟩
  .contradiction
 .obtain⟨a,vs,rfl,z,_⟩:=h;split at e
  .cases e;rcases z with z|⟨o,z⟩
   .exact⟨_,.lst z,Z ‹_›⟩
   .exact⟨_,.EO z,Z ‹_›⟩
  .contradiction
 .contradiction
theorem oW{T:String}(z:T = "bool"->W.kitOne X.K (.type "bool") (.type T)=some true/\W.kitOne X.K (.type "int") (.type T)=some false)(y:T = "int"->W.kitOne X.K (.type "int") (.type T)=some true/\W.kitOne X.K (.type "bool") (.type T)=some true) (h3:T = "str"->W.kitOne X.K (.type "str") (.type T)=some true) (v:T = "list"->W.kitOne X.K (.type "list") (.type T)=some true) : C4 X (.builtin "isinstance") (λxs H Q=>∃x p k,xs=[x,.ty T]/\Rep X.K H p x/\OT T p=some k/\Q (.bl k) H):=by rintro AB s σ H xs us Q I r ⟨x,p,k,Z,hp,Y,q⟩;subst Z;obtain⟨u,O,rfl,P,D⟩:=vals2 r;obtain rfl:O=Value.type T:=D;obtain⟨t,ty,F⟩:=tyK hp Y z y h3 v;exact v9 I P ty F λtk=>⟨.bl k,H,I.tok _,rfl,q⟩
set_option tactic.hygienic true
theorem Xd{T:String}{x:Str}{p z:Pos}(O:T = "bool"->W.kitOne X.K (.type "bool") (.type T)=some true/\W.kitOne X.K (.type "int") (.type T)=some false)(P:T = "int"->W.kitOne X.K (.type "int") (.type T)=some true/\W.kitOne X.K (.type "bool") (.type T)=some true) (h3:T = "str"->W.kitOne X.K (.type "str") (.type T)=some true) (D:T = "list"->W.kitOne X.K (.type "list") (.type T)=some true) (hm:X.mg "isinstance" = none) (F:X.mg x=none) (B:bootBuiltins x=some (.type T)) (ha:PX X a fa) (S:Gl X "isinstance":=by rfl) (C:Gl X x:=by rfl) (E:x≠"__name__":=by decide) (y:(x==("__debug__"))=false:=by decide) (he:starEach [a,.Name x z] X.env=(false,eval a X.env)::starEach [.Name x z] X.env:=by rfl) (I:starEach [.Name x z] X.env=(false,eval (.Name x z) X.env)::starEach [] X.env:=by rfl) (n:(backTo pos<|starEach [.Name x z] X.env).any (·.1)=false:=by rfl) : PX X (.Call (.Name "isinstance" p) [a,.Name x z] [] pos)<|Ik T fa:=by
 refine PE.imp (PF (oW O P h3 D) S hm Uh (FN ha (FN (XW (v:=.ty T) C F B rfl E y) Gq I) he) AFp AFp he n) ?_;rintro σ H Q ⟨G,ρ,r,R,e,q⟩;unfold Ik at e;split at e
 .rename_i Z t;cases Y:OT T Z.any with
  |none=>rw[Y]at e;contradiction
  |some k=>
   rw[Y]at e;cases e;refine⟨G,ρ,Z,R,t,λv G' H' s rv=>?_⟩;exact⟨v,Z.any,k,rfl,rv.any s.sub,Y,q _ G' H' s<|by rfl⟩
 .contradiction
theorem ABH{p y:Pos}(hm:X.mg "isinstance" = none)(q:X.mg "bool" = none)(ha:PX X a fa)(v:Gl X "isinstance")(Z:Gl X "bool") (he:starEach [a,.Name "bool" y] X.env=(false,eval a X.env)::starEach [.Name "bool" y] X.env) (Y:starEach [.Name "bool" y] X.env=(false,eval (.Name "bool" y) X.env)::starEach [] X.env) (Q:(backTo pos<|starEach [.Name "bool" y] X.env).any (·.1)=false) : PX X (.Call (.Name "isinstance" p) [a,.Name "bool" y] [] pos)<|Ik "bool" fa:=
 Xd (λ_=>⟨rfl,rfl⟩) (λz=>absurd z AFp) (λz=>absurd z AFp) (λz=>absurd z AFp) hm q oG ha v Z AFp AFp he Y Q
theorem ABI{p y:Pos}(hm:X.mg "isinstance" = none)(q:X.mg "int" = none)(ha:PX X a fa)(v:Gl X "isinstance")(Z:Gl X "int") (he:starEach [a,.Name "int" y] X.env=(false,eval a X.env)::starEach [.Name "int" y] X.env) (Y:starEach [.Name "int" y] X.env=(false,eval (.Name "int" y) X.env)::starEach [] X.env) (Q:(backTo pos<|starEach [.Name "int" y] X.env).any (·.1)=false) : PX X (.Call (.Name "isinstance" p) [a,.Name "int" y] [] pos)<|Ik "int" fa:=
 Xd (λz=>absurd z AFp) (λ_=>⟨rfl,rfl⟩) (λz=>absurd z AFp) (λz=>absurd z AFp) hm q oH ha v Z AFp AFp he Y Q
end
section
variable{X:Cx}{AR AO:Hp}{a b c e:Expr}{es:List Expr}{fa fb f:EF}{ga:AF}{pos:Pos}
noncomputable def UO(a:Addr)(n:Nat):HO:=.ext λh=>∃o es z t,h.get? a=some o/\o.ExactSet/\o.data=.set es z t/\t.fits es.size=true/\es.size=n/\n<=1000
theorem ADA{P:Program}{w:World}{H:Hp}{h:Heap}{a:Addr}{ks:List (List Int)}(x:Internal.ST.IM P w h a ks)(hz:ks.length<=1000):Bx P w H h a<|UO a ks.length:=by
 obtain⟨o,es,z,t,kk,ho,y,hd,T,hp⟩:=x;refine⟨⟨o,es,z,t,ho,y,hd,T.fits,?_,hz⟩,⟨o,ho⟩,?_⟩
 .rw[<-T.len,hp.length_eq]
 .rintro h1 h2 ⟨o,es,z,t,q,v⟩ k;exact⟨o,es,z,t,k o q,v⟩
def TupAt(K:W.Frag)(H:Hp)(v:V)(ks:List Int):Prop:=∃a,v=.ref a/\Bi K H a (ks.map V.int)
theorem gO{P:Program}{w:World}:∀{ks:List Int}{us:List Value},Ao (ks.map V.int) us->ItemsAre (intKind P w) ks us
 |[],us,r=>by cases r;exact .nil
 |k::ks,us,r=>by
  cases r with
  |cons r1 r2=>
   obtain⟨t,rfl⟩:=r1;exact .cons (by show Value.isInt k (.int k t)=true;simp[Value.isInt])<|gO r2
theorem oo(hc:X.calm=true)(hu:X.A.units+64<cLine):C4 X (.type "set") (λxs H Q=>∃(p:Addr)(vs:List V)(kks:List<|List Int),xs=[.ref p]/\Rd H p (.lst vs)/\Paired (λk v=>TupAt X.K H v k) kks vs/\kks.length<=17/\∀d,H d=none->Q (.ref d) (upd H d<|UO d (Internal.ST.EY [] kks).length)):=by
 intro AB s σ H xs us Q I r h;obtain⟨p,vs,kks,rfl,O,hp,hz,q⟩:=h;obtain⟨u,rfl,y⟩:=vals1 r;cases y;obtain⟨z,its,n,rv,e⟩:=O.ok I.AZ;have P:s.heap.IsList p its.toArray:=⟨_,e,rfl,n,rfl⟩;have Ir:=Paired.length hp;have K4:=rv.length;refine Internal.ST.oq (kks:=kks) (I.ok.hd hc) U P (by rw[AF9];lia) (by rw[AF9];lia) (λj v D=>?_) λh' tk F R=>?_
 .have B:=by simpa using D
  obtain⟨x,ex,y⟩:=jG rv B;obtain⟨k,G,a,rfl,ha⟩:=jG hp ex;cases y;obtain⟨S,Z,⟨o,ho,T,C,hd⟩,_⟩:=I.tuple ha;exact⟨k,a,G,rfl,o,S.toArray,C,ho,T,hd,by simpa using gO Z⟩
 .have hn:=I.AZ.fresh<|AF5 _;have Y:=Internal.ST.lL kks [];refine⟨.ref s.heap.objs.size,_,I.laid R (AF5 _)<|ADA F ?_,rfl,q _ hn⟩;simp at Y;lia
theorem oX:C4 X (.builtin "len") (λxs H Q=>∃(p:Addr)(n:Nat),xs=[.ref p]/\H p=some (UO p n)/\Q (.int n) H):=by intro AB s σ H xs us Q I r h;obtain⟨p,n,rfl,y,q⟩:=h;obtain⟨u,rfl,v⟩:=vals1 r;cases v;obtain⟨⟨o,es,ep,t,ho,z,hd,Z,hn,hz⟩,_⟩:=I.AZ p _ y;exact call_len_set ho z hd Z (by rw[hn];lia) ⟨.int n,H,I.tok _,⟨s.toks+1,by rw[hn]⟩,q⟩
set_option tactic.hygienic true
def KZ:List PV->Option (List<|List Int)
 |[]=>some []
 |.tup xs::r=>match C1 xs,KZ r with|some k,some ks=>some (k::ks)|_,_=>none
 |_=>none
theorem lF{K:W.Frag}{G H:Hp}(s:Ai G H):∀{ps:List PV}{vs:List V}{ks:List (List Int)},KZ ps=some ks->AW K G ps vs->Paired (λk v=>TupAt K H v k) ks vs
 |[],vs,ks,e,h=>by cases e;subst h;exact .nil
 |.tup xs::r,vs,ks,e,h=>by
  unfold KZ at e;split at e
  .rename_i k Rt y q;cases e;obtain⟨v,us,rfl,p,t⟩:=h;obtain⟨a,ws,rfl,z,Z⟩:=p;rw[Iv y Z]at z;exact .cons ⟨a,rfl,Bi.same s z⟩<|lF s q t
  .contradiction
 |.Au::_,_,_,e,_=>by contradiction
 |.bl _::_,_,_,e,_=>by contradiction
 |.int _::_,_,_,e,_=>by contradiction
 |.str _::_,_,_,e,_=>by contradiction
 |.lst _::_,_,_,e,_=>by contradiction
 |.rd _::_,_,_,e,_=>by contradiction
 |.Co _ _::_,_,_,e,_=>by contradiction
def Kp(f:EF):EF:=λρ=>match f ρ with
 |some r=>(match r.list.bind KZ with|some ks=>if ks.length<=17 then some (.cl<|.int (Internal.ST.EY [] ks).length)else none|none=>none)
 |none=>none
theorem ABN{p y z:Pos}(hc:X.calm=true)(hm:X.mg "len" = none)(D:X.mg "set" = none)(F:X.A.units+64<cLine)(ha:PX X a fa)(B:Gl X "len")(S:Gl X "set") (O:starEach [a] X.env=(false,eval a X.env)::starEach [] X.env) (T:(backTo z<|starEach [] X.env).any (·.1)=false) (he:starEach [.Call (.Name "set" y) [a] [] z] X.env=(false,eval (.Call (.Name "set" y) [a] [] z) X.env)::starEach [] X.env) (C:(backTo pos<|starEach [] X.env).any (·.1)=false) : PX X (.Call (.Name "len" p) [.Call (.Name "set" y) [a] [] z] [] pos)<|Kp fa:=by
 refine PE.imp (PF oX B hm PySem.boot_len (FN (jP (oo hc F) S D oJ (FN ha Gq O) AFp AFp O T) Gq he) AFp AFp he C) ?_;rintro σ H Q ⟨G,ρ,r,R,e,q⟩;unfold Kp at e;split at e
 .rename_i P E;split at e
  .rename_i ks Z;split at e
   .rename_i hz;cases e;cases Y:P.list with
    |none=>rw[Y]at Z;contradiction
    |some ps=>
     rw[Y]at Z;refine⟨G,ρ,P,R,E,λv G' H' s rv=>?_⟩;obtain⟨d,vs,rfl,I,n⟩:=rv.list s.sub Y;refine⟨d,vs,ks,rfl,I,lF s.sub Z n,hz,λx t=>?_⟩;refine⟨x,_,rfl,DE,q _ G' _ (s.trans<|Aq.Hq s.sub _ t) ?_⟩
     rfl
   .contradiction
  .contradiction
 .contradiction
end
section
set_option tactic.hygienic true
variable{X:Cx}{AR AO:Hp}{a b c e:Expr}{es:List Expr}{fa fb f:EF}{ga:AF}{pos:Pos}
def Jr(i j:Nat)(ga:AF):SF:=λρ=>match ga ρ with
 |some rs=>(match CZ rs with|some [p,q]=>some (.nx<|(ρ.set i<|some<|.im p).set j<|some<|.im q)|_=>none)
 |none=>none
theorem ABy(i j:Nat){x y:Str}{Z Y pt:Pos}{kt k2 LO}(hc:X.calm=true)(P:X.N.Nodup)(ha:CY X [a,b] ga)(hi:X.N[i]? = some x)(F:X.N[j]? = some y)(R:i≠j) (B:X.env.scope.names.lookup x=some .local) (T:X.env.scope.names.lookup y=some .local) (C:swappedStores [.Tuple [.Name x Z,.Name y Y] kt pt] (.Tuple [a,b] k2 LO) X.env=pure (some [x,y])) (hs:swapsWithSole [.Tuple [.Name x Z,.Name y Y] kt pt] (.Tuple [a,b] k2 LO) pos.line X.env=pure false) : CQ X AR AO (.Assign [.Tuple [.Name x Z,.Name y Y] kt pt] (.Tuple [a,b] k2 LO) pos)<|Jr i j ga:=PS.imp (AAd hc P hi F R B T ha C hs) (by
 rintro D σ H ⟨G,ρ,o,S,e,k⟩;unfold Jr at e;split at e
 .rename_i rs E;split at e
  .rename_i p q I;cases e;refine⟨G,ρ,rs,S.r,E,λvs G' H' s rv=>?_⟩;have z:=Kg s.sub rv I;obtain⟨v,r,rfl,n,z⟩:=z;obtain⟨w,r,rfl,rq,z⟩:=z;subst z;have Q:=S.step s.all;have O:=Q.turn (Q.r.Gw (i:=i) n) D4.Gw;have t:=O.turn (O.r.Gw (i:=j) rq) D4.Gw;exact⟨v,w,rfl,k _ _ _ s.all.gg t⟩
  .contradiction
 .contradiction)
noncomputable def F3(f:EF):SF:=λρ=>match f ρ with|some _=>some (.nx ρ)|none=>none
theorem ABr(he:PX X e f)(y:swapsWith e none pos.line X.env=pure false):CQ X AR AO (.Expr e pos)<|F3 f:=PS.imp (Sh he y) (by
 rintro D σ H ⟨G,ρ,o,S,z,k⟩;unfold F3 at z;split at z
 .rename_i r q;cases z;exact⟨G,ρ,r,S.r,q,λv G' H' s rv=>k _ _ _ s.gg<|S.step s⟩
 .contradiction)
end
section
variable{X:Cx}{AR AO:Hp}{a b c d e:Expr}{es:List Expr}{fa fb fc fd f:EF}{ga:AF}{pos:Pos}
def YC(r Z Y:R2)(O tb P D:TE):TE:=λσ H Q=>O σ H λx F=>tb σ F λy R=>r x y R λz q=>∃k,z=.bl k/\
 (if k=true then P σ q λw B=>Z y w B λG v=>∃p,G=.bl p/\(if p=true then D σ v λS T=>Y w S T Q else Q (.bl false) v)else Q (.bl false) q)
theorem zk{Z tb Y O:TE}{op q p:CmpOp}{r P D:R2}(ho:Be X (compareOp op) r)(t:Be X (compareOp q) P)(K6:Be X (compareOp p) D)(ha:PE X a Z)(hb:PE X b tb)(hc:PE X c Y)(hd:PE X d O) (hm:lastMarks [op,q,p] [b,c,d]=false:=by with_unfolding_all rfl):PE X (.Compare a [op,q,p] [b,c,d] pos)<|YC r P D Z tb Y O:=by
 intro AB s σ H Q I h;refine Compare_chain (Ag (ha AB s σ H _ I h) ?_) hm;rintro v s1 ⟨x,H1,I1,r1,q1⟩;refine chain_link<|Ag (hb AB s1 σ H1 _ I1 q1) ?_;rintro u s2 ⟨y,H2,I2,F,q2⟩;refine Ag (ho AB s2 σ H2 x y v u _ I2 r1 F q2) ?_;rintro d s3 ⟨z,R,B,r3,k,e,q3⟩;subst e;cases r3;refine wpAny_truthy_bool ?_;cases k with
 |false=>exact ite_ff ⟨.bl false,R,B,rfl,q3⟩
 |true=>
  refine ite_tt<|chain_link<|Ag (hc AB s3 σ R _ B q3) ?_;rintro G s4 ⟨S,H4,I4,T,q4⟩;refine Ag (t AB s4 σ H4 y S u G _ I4 F T q4) ?_;rintro d' s5 ⟨z2,C,E,r5,k2,e2,n⟩;subst e2;cases r5;refine wpAny_truthy_bool ?_;cases k2 with
  |false=>exact ite_ff ⟨.bl false,C,E,rfl,n⟩
  |true=>exact ite_tt<|chain_last<|Ag (hd AB s5 σ C _ E n) (by rintro w2 s6 ⟨z3,H6,I6,r6,q6⟩;exact K6 AB s6 σ H6 S z3 G w2 Q I6 T r6 q6)
theorem AAk{O tb P D:TE}{op q p:CmpOp}{r F R:R2}(ho:Be X (compareOp op) r)(B2:Be X (compareOp q) F)(K6:Be X (compareOp p) R)(ha:PE X a O)(hb:PE X b tb)(hc:PE X c P)(hd:PE X d D) (hm:lastMarks [op,q,p] [b,c,d]=false:=by with_unfolding_all rfl):PT X (.Compare a [op,q,p] [b,c,d] pos)<|YE<|YC r F R O tb P D:=by
 intro AB s σ H Q I h;refine isTrue_chain (Ag (ha AB s σ H _ I h) ?_) hm;rintro v s1 ⟨x,H1,I1,r1,q1⟩;refine test_link<|Ag (hb AB s1 σ H1 _ I1 q1) ?_;rintro u s2 ⟨y,H2,I2,B,q2⟩;refine Ag (ho AB s2 σ H2 x y v u _ I2 r1 B q2) ?_;rintro d s3 ⟨z,G,S,r3,k,e,q3⟩;subst e;cases r3;refine wpAny_truthy_bool ?_;cases k with
 |false=>
  obtain⟨k',Z,Y⟩:=q3;cases Z;exact ite_ff ⟨G,S,Y⟩
 |true=>
  refine ite_tt<|test_link<|Ag (hc AB s3 σ G _ S q3) ?_;rintro T s4 ⟨C,H4,I4,E,q4⟩;refine Ag (B2 AB s4 σ H4 y C u T _ I4 B E q4) ?_;rintro d' s5 ⟨z2,n,t,r5,k2,e2,q5⟩;subst e2;cases r5;refine wpAny_truthy_bool ?_;cases k2 with
  |false=>
   obtain⟨k',Z,Y⟩:=q5;cases Z;exact ite_ff ⟨n,t,Y⟩
  |true=>
   refine ite_tt<|test_last<|Ag (hd AB s5 σ n _ t q5) ?_;rintro w2 s6 ⟨z3,H6,I6,r6,q6⟩;refine Ag (K6 AB s6 σ H6 C z3 T w2 _ I6 E r6 q6) ?_;rintro d2 s7 ⟨z4,H7,I7,r7,k3,e3,q7⟩;subst e3;cases r7;exact wpAny_truthy_bool ⟨H7,I7,q7⟩
set_option tactic.hygienic true
noncomputable def Fb(k q v:RV->RV->Option RV)(fa fb fc fd:EF):EF:=λρ=>match fa ρ,fb ρ with
 |some x,some y=>match k x y with
  |some (.cl<|.bl true)=>(match fc ρ with
   |some z=>(match q y z with
    |some (.cl<|.bl true)=>(match fd ρ with|some w=>v z w|none=>none)
    |some (.cl<|.bl false)=>some<|.cl<|.bl false
    |_=>none)
   |none=>none)
  |some (.cl<|.bl false)=>some<|.cl<|.bl false
  |_=>none
 |_,_=>none
theorem k9{K:W.Frag}{k k' Hh:RV->RV->Option RV}{r r' F9:R2}(hk:Dg K k r)(BE:Dg K k' r')(OK:Dg K Hh F9){σ:St}{H:Hp}{Q:VK}(h:tX K (Fb k k' Hh fa fb fc fd) σ H Q):YC r r' F9 (tX K fa) (tX K fb) (tX K fc) (tX K fd) σ H Q:=by
 obtain⟨G,ρ,z,R,e,q⟩:=h;unfold Fb at e;split at e
 .rename_i x y ea eb;refine⟨G,ρ,x,R,ea,λvx G1 H1 s1 rx=>⟨G1,ρ,y,R.step s1,eb,λO G2 H2 s2 P=>?_⟩⟩;split at e
  .rename_i S;cases T:fc ρ with
   |none=>rw[T]at e;contradiction
   |some w=>
    rw[T]at e;dsimp only at e;refine hk x y _ H G2 H2 vx O _ s2.sub (s1.hh.trans s2.hh) S (rx.step s2) (P.back s1.hh) λv C H3 Y rv=>⟨true,rv.bl,?_⟩;have p:=(s1.trans s2).trans Y;refine⟨C,ρ,w,R.step p,T,λE G4 H4 Z I=>?_⟩;split at e
    .rename_i n;cases t:fd ρ with
     |none=>rw[t]at e;contradiction
     |some w2=>
      rw[t]at e;refine BE y w _ H G4 H4 O E _ Z.sub (p.trans Z).hh n ((P.back s1.hh).step<|Y.trans Z) (I.back p.hh) λv5 G5 H5 D Xm=>⟨true,Xm.bl,?_⟩;have F:=(p.trans Z).trans D;refine⟨G5,ρ,w2,R.step F,t,λvw2 G6 H6 B rw2=>?_⟩;exact OK w w2 z H G6 H6 E vw2 Q B.sub (F.trans B).hh e ((I.back p.hh).step<|D.trans B) (rw2.back F.hh) λv7 G7 H7 s7 rv7=>q v7 G7 H7 ((F.trans B).trans s7) rv7
    .rename_i n;cases e;refine BE y w _ H G4 H4 O E _ Z.sub (p.trans Z).hh n ((P.back s1.hh).step<|Y.trans Z) (I.back p.hh) λv5 G5 H5 D Xm=>⟨false,Xm.bl,?_⟩;exact q _ G5 H5 ((p.trans Z).trans D)<|by rfl
    .contradiction
  .rename_i S;cases e;refine hk x y _ H G2 H2 vx O _ s2.sub (s1.hh.trans s2.hh) S (rx.step s2) (P.back s1.hh) λv C H3 Y rv=>⟨false,rv.bl,?_⟩;exact q _ C H3 ((s1.trans s2).trans Y)<|by rfl
  .contradiction
 .contradiction
set_option tactic.hygienic false
theorem AA4{op z y:CmpOp}{k q v:RV->RV->Option RV}(p:Ck X op k)(Z:Ck X z q)(h3:Ck X y v)(ha:PX X a fa)(Y:PX X b fb)(Q:PX X c fc)(hd:PX X d fd)(hm:lastMarks [op,z,y] [b,c,d]=false) : PX X (.Compare a [op,z,y] [b,c,d] pos)<|Fb k q v fa fb fc fd:=by obtain⟨r,ho,O⟩:=p.ex;obtain⟨r',P,D⟩:=Z.ex;obtain⟨F9,F,R⟩:=h3.ex;exact PE.imp (zk ho P F ha Y Q hd hm) λ_ _ _ h=>k9 O D R h
theorem ACB{op z y:CmpOp}{k q v:RV->RV->Option RV}(p:Ck X op k)(Z:Ck X z q)(h3:Ck X y v)(ha:PX X a fa)(Y:PX X b fb)(Q:PX X c fc)(hd:PX X d fd)(hm:lastMarks [op,z,y] [b,c,d]=false) : DT X (.Compare a [op,z,y] [b,c,d] pos)<|AU<|Fb k q v fa fb fc fd:=by obtain⟨r,ho,O⟩:=p.ex;obtain⟨r',P,D⟩:=Z.ex;obtain⟨F9,F,R⟩:=h3.ex;exact PT.imp (AAk ho P F ha Y Q hd hm) λ_ _ _ h=>k9 O D R<|TF h
noncomputable def Ec(h:Heap)(dx:PyData)(u:Value):Bool:=@decide (∃(dd:PyData)(z:List Addr),Reads h u dd z/\dd.canLay0=true/\PyData.eqv dd dx=true)<|Classical.propDecidable _
theorem c7{h:Heap}{dx dd:PyData}{u:Value}{z:List Addr}(r:Reads h u dd z)(hc:dd.canLay0=true):Ec h dx u=PyData.eqv dd dx:=by
 cases he:PyData.eqv dd dx with
 |true=>exact @decide_eq_true _ (Classical.propDecidable _) ⟨dd,z,r,hc,he⟩
 |false=>
  refine @decide_eq_false _ (Classical.propDecidable _) ?_;rintro⟨y,q,v,_,p⟩;have:=SeqAt.Reads.unique dd y u z q hc r v;subst this;rw[he]at p;contradiction
def inD(ps:List PV)(x:PV):Bool:=ps.any λp=>PyData.eqv (Ah p)<|Ah x
def Xh(K:W.Frag)(neg:Bool):R2:=λx y H Q=>∃(z:PV)(ps:List PV)(vs:List V)(p:Addr),y=.ref p/\(CF K H p vs\/Bi K H p vs)/\AW K H ps vs/\Rep K H z x/\SeqAt.shaped (Ah z)=true/\(∀p∈ps,SeqAt.shaped (Ah p)=true)/\Q (.bl (if neg=true then !inD ps z else inD ps z)) H
theorem Na{AB:List (Addr×Obj)}{σ:St}{H:Hp}{s:Shared}(I:Inv X AB σ H s){dx:PyData}:∀{ps:List PV}{vs:List V}{us:List Value},AW X.K H ps vs->Ao vs us->(∀p∈ps,SeqAt.shaped (Ah p)=true)->us.any (Ec s.heap dx)=ps.any λp=>PyData.eqv (Ah p) dx
 |[],vs,us,h,r,_=>by subst h;cases r;rfl
 |p::ps,vs,us,h,r,hs=>by
  obtain⟨v,vr,rfl,z,y⟩:=h;cases r with
  |cons r1 r2=>
   obtain⟨as,Z⟩:=Rep.reads I (SeqAt.canLay_of_shaped<|hs p AF3) z r1;simp only[AG8,AG8,c7 Z<|SeqAt.canLay_of_shaped<|hs p AF3,Na I y r2 λq Y=>hs q<|AFz _ Y]
theorem O3{AB:List (Addr×Obj)}{σ:St}{H:Hp}{s:Shared}(I:Inv X AB σ H s)(Z:X.A.units+66<cLine){z:PV}{Y:V}{Q:Value}(O:Rep X.K H z Y)(P:RelV Y Q)(y:SeqAt.shaped (Ah z)=true):∀{ps:List PV}{vs:List V}{us:List Value},AW X.K H ps vs->Ao vs us->(∀p∈ps,SeqAt.shaped (Ah p)=true)->∀u∈us,SeqAt.EqAt X.A.in1 s u Q (Ec s.heap (Ah z) u)
 |[],vs,us,h,r,_=>by subst h;cases r;intro u Z;contradiction
 |p::ps,vs,us,h,r,hs=>by
  obtain⟨v,vr,rfl,F,R⟩:=h;cases r with
  |cons r1 r2=>
   intro u hm;rcases AF4.mp hm with rfl|hm
   .have sp:=hs p AF3;obtain⟨B,D⟩:=Rep.reads I (SeqAt.canLay_of_shaped sp) F r1;obtain⟨bs,G⟩:=Rep.reads I (SeqAt.canLay_of_shaped y) O P;rw[c7 D<|SeqAt.canLay_of_shaped sp];exact SeqAt.eqAt_reads _ _ _ _ _ _ B bs D G (SeqAt.canLay_of_shaped sp) (SeqAt.canLay_of_shaped y) (SeqAt.room_of_shaped sp (by show X.A.units+1+64<cLine;lia))
   .exact O3 I Z O P y R r2 (λq S=>hs q<|AFz _ S) u hm
theorem yo(F:X.A.units+66<cLine):Be X (compareOp .In)<|Xh X.K false:=by
 intro AB s σ H x y v u Q I R S h;obtain⟨z,ps,vs,p,rfl,Z,Y,B,G,O,q⟩:=h;cases S;rcases Z with Z|Z
 .obtain⟨its,r,P,hz⟩:=I.list Z;refine SeqAt.in_listAt (Ec s.heap<|Ah z) P.isList (λw D=>O3 I F B R G Y r O w<|by simpa using D) ⟨.bl _,H,I,rfl,?_⟩;rw[show its.toArray.any (Ec s.heap<|Ah z)=its.any (Ec s.heap<|Ah z)by simp,Na I Y r O];exact q
 .obtain⟨its,r,P,hz⟩:=I.tuple Z;refine SeqAt.in_tupleAt (Ec s.heap<|Ah z) P (λw D=>O3 I F B R G Y r O w<|by simpa using D) ⟨.bl _,H,I,rfl,?_⟩;rw[show its.toArray.any (Ec s.heap<|Ah z)=its.any (Ec s.heap<|Ah z)by simp,Na I Y r O];exact q
theorem y8(F:X.A.units+66<cLine):Be X (compareOp .NotIn)<|Xh X.K true:=by
 intro AB s σ H x y v u Q I R S h;obtain⟨z,ps,vs,p,rfl,Z,Y,B,G,O,q⟩:=h;cases S;rcases Z with Z|Z
 .obtain⟨its,r,P,hz⟩:=I.list Z;refine SeqAt.notIn_listAt (Ec s.heap<|Ah z) P.isList (λw D=>O3 I F B R G Y r O w<|by simpa using D) ⟨.bl _,H,I,rfl,?_⟩;rw[show its.toArray.any (Ec s.heap<|Ah z)=its.any (Ec s.heap<|Ah z)by simp,Na I Y r O];exact q
 .obtain⟨its,r,P,hz⟩:=I.tuple Z;refine SeqAt.notIn_tupleAt (Ec s.heap<|Ah z) P (λw D=>O3 I F B R G Y r O w<|by simpa using D) ⟨.bl _,H,I,rfl,?_⟩;rw[show its.toArray.any (Ec s.heap<|Ah z)=its.any (Ec s.heap<|Ah z)by simp,Na I Y r O];exact q
set_option tactic.hygienic true
def Ms(ps:List PV):Bool:=ps.all λp=>SeqAt.shaped<|Ah p
def DL(neg:Bool)(x y:RV):Option RV:=match y.seq with
 |some ps=>if SeqAt.shaped (Ah x.any)=true/\Ms ps=true then some (.cl (.bl (if neg=true then !inD ps x.any else inD ps x.any)))else none
 |none=>none
theorem jB{K:W.Frag}{neg:Bool}:Dg K (DL neg)<|Xh K neg:=by
 intro x y z H0 G H vx vy Q sub sh e v Z q;unfold DL at e;split at e
 .rename_i ps es;split at e
  .rename_i hs;cases e;obtain⟨a,vs,rfl,Y,O⟩:=Z.seq sub es;refine⟨x.any,ps,vs,a,rfl,Y,AW.same sub O,v.any sub,hs.1,λp hp=>AHE.mp hs.2 p hp,q _ G H (Aq.refl sub) ?_⟩
   rfl
  .contradiction
 .contradiction
theorem pI(z:X.A.units+66<cLine):Ck X .In<|DL false:=⟨_,yo z,jB⟩
theorem pS(z:X.A.units+66<cLine):Ck X .NotIn<|DL true:=⟨_,y8 z,jB⟩
end
theorem lJ{k:Nat}{A:Around}(r:B7 k A):A.units+66<cLine:=by have:=r.un;lia
inductive IJ where
 |o (x:Out)|ex (nm:Str)
abbrev YF:=AS->Option IJ
def QH(K:W.Frag)(E:XK)(AR AO G:Hp)(D:Ends):IJ->Prop
 |.o x=>Ke K AR AO G D x
 |.ex nm=>∀C H',DS K nm C->Ai AO H'->Ai G H'->E (.ref C) none H'
theorem QH.mono{K:W.Frag}{E:XK}{AR AO G z:Hp}{D:Ends}{o:IJ}(s:Ai G z)(h:QH K E AR AO G D o):QH K E AR AO z D o:=by
 cases o with
 |o x=>exact Ke.mono s h
 |ex nm=>exact λC H' e a b=>h C H' e a<|s.trans b
def YI(K:W.Frag)(E:XK)(AR AO:Hp)(g:YF):TS:=λD σ H=>∃G ρ o,SR K AR AO G H ρ σ/\g ρ=some o/\QH K E AR AO G D o
def HH(X:Cx)(E:XK)(AR AO:Hp)(st:Stmt)(g:YF):Prop:=PS X st<|YI X.K E AR AO g
def HI(X:Cx)(E:XK)(AR AO:Hp)(st:List Stmt)(g:YF):Prop:=CP X st<|YI X.K E AR AO g
noncomputable def yL(g:SF):YF:=λρ=>(g ρ).map .o
noncomputable def Dz(g h:YF):YF:=λρ=>match g ρ with|some (.o<|.nx ρ')=>h ρ'|o=>o
noncomputable def Ka(t:BF)(g h:YF):YF:=λρ=>match t ρ with|some true=>g ρ|some false=>h ρ|none=>none
noncomputable def YW(nm:Str):YF:=λ_=>some<|.ex nm
def Xx(K:W.Frag)(n:Nat)(F:List PV->Option RV)(z:List PV->Option Str):Sp:=λvs H Q E=>vs.length=n/\∃G ps,Ai G H/\AW K G ps vs/\
 ((∃r,F ps=some r/\∀v G' H',Aq G H G' H'->Bu K H G' H' r v->Q v H')\/(∃nm,z ps=some nm/\∀C H',DS K nm C->Ai H H'->E (.ref C) none H'))
def IC(F:List PV->Option RV)(z:List PV->Option Str)(ga:AF):YF:=λρ=>match ga ρ with
 |some rs=>(match CZ rs with
  |some ps=>(match F ps with|some _=>some (.o<|.nx ρ)|none=>(match z ps with|some nm=>some (.ex nm)|none=>none))
  |none=>none)
 |none=>none
section
variable{X:Cx}{E:XK}{AR AO:Hp}{a b c e tg iter:Expr}{es:List Expr}{fa fb fc f:EF}{ga:AF}{t:BF}{pos:Pos}{st:Stmt}{BB body N1:List Stmt}{g h:YF}
theorem jh{g:SF}(h:CQ X AR AO st g):HH X E AR AO st<|yL g:=PS.imp h (by
 rintro D σ H ⟨G,ρ,o,S,e,k⟩;unfold yL at e;cases z:g ρ with
 |none=>rw[z]at e;contradiction
 |some x=>rw[z]at e;cases e;exact⟨G,ρ,x,S,z,k⟩)
theorem ACR{g:SF}(h:D5 X AR AO BB g):HI X E AR AO BB<|yL g:=CP.imp h (by
 rintro D σ H ⟨G,ρ,o,S,e,k⟩;unfold yL at e;cases z:g ρ with
 |none=>rw[z]at e;contradiction
 |some x=>rw[z]at e;cases e;exact⟨G,ρ,x,S,z,k⟩)
theorem ACS(z:HH X E AR AO st g):HI X E AR AO [st] g:=jf z
theorem ACO(y:HH X E AR AO st g)(q:HI X E AR AO BB h):HI X E AR AO (st::BB)<|Dz g h:=CP.imp (je y q) (by
 rintro D σ H ⟨G,ρ,o,S,e,k⟩;unfold Dz at e;cases z:g ρ with
 |none=>rw[z]at e;contradiction
 |some o1=>
  rw[z]at e;cases o1 with
  |ex nm=>cases e;exact⟨G,ρ,_,S,z,k⟩
  |o x=>
   cases x with
   |nx A6=>exact⟨G,ρ,_,S,z,λAV G' H' s v=>⟨G',A6,o,v,e,k.mono s⟩⟩
   |rt r=>cases e;exact⟨G,ρ,_,S,z,k⟩
   |bk r=>cases e;exact⟨G,ρ,_,S,z,k⟩
   |ct r=>cases e;exact⟨G,ρ,_,S,z,k⟩)
theorem ACP(hc:DT X c t)(ha:HI X E AR AO body g)(q:HI X E AR AO N1 h):HH X E AR AO (.If c body N1 pos)<|Ka t g h:=PS.imp (jd hc ha q) (by
 rintro D σ H ⟨G,ρ,o,S,e,k⟩;unfold Ka at e;split at e
 .rename_i z;exact⟨G,ρ,true,S.r,z,λy v s1=>gN ⟨y,ρ,o,S.step s1,e,k.mono s1.gg⟩⟩
 .rename_i z;exact⟨G,ρ,false,S.r,z,λy v s1=>gM ⟨y,ρ,o,S.step s1,e,k.mono s1.gg⟩⟩
 .contradiction)
theorem ACT{x:Str}{v z:Pos}{m:Str}{j:Nat}{mp:Pos}{y:List Value}{B q p:String}(O:∃C,DS X.K x C/\OwnCls x C y q X.mg X.base)(Z:ExcBaseFacts B q p y)(hc:X.calm=true)(Y:Raises X E)(Q:Gl X x)(hd:(x==("__debug__"))=false) (he:starEach [.Constant (.str m) j mp] X.env=(false,eval (.Constant (.str m) j mp) X.env)::starEach [] X.env) (P:(backTo z<|starEach [] X.env).any (·.1)=false) : HH X E AR AO (.Raise (some<|.Call (.Name x v) [.Constant (.str m) j mp] [] z) none pos)<|YW x:=by obtain⟨C,F,O⟩:=O;refine PS.imp (AAe O Z hc Q (FN jR Gq) Y hd he P) ?_;rintro D σ H ⟨G,ρ,o,S,e,k⟩;cases e;exact⟨by show 1<=sizeLine;decide,k C H F S.hh S.r.sub⟩
set_option tactic.hygienic true
theorem ACL{x:Str}{n:Nat}{F:List PV->Option RV}{y:List PV->Option Str}{p:Pos}{CX:Ea}{k:Nat}{fa:Addr}{fd:FuncData}{ps:List Str}(Fn:Cw X.prog X.w X.K X.mg X.base CX k fa fd ps<|Xx X.K n F y)(Z:B7 k X.A)(hm:X.mg x=some (.ref fa))(Y:W.keepIn X.K (.ref fa)=true)(Q:Binds X.K fd ps []) (hp:Passes CX X E) (ha:CY X (e::es) ga) (O:∀ρ rs,ga ρ=some rs->rs.length=n) (P:Gl X x:=by rfl) (R:(x==("__debug__"))=false:=by decide) (he:starEach (e::es) X.env=(false,eval e X.env)::starEach es X.env:=by rfl) {z:Pos} (B:(backTo z<|starEach es X.env).any (·.1)=false:=by rfl) (hs:swapsWith (.Call (.Name x p) (e::es) [] z) none pos.line X.env=pure false:=by rfl):HH X E AR AO (.Expr (.Call (.Name x p) (e::es) [] z) pos)<|IC F y ga:=by
 refine PS.imp (Sh (XX Fn Z P hm Y Q .nil hp ha R he B) hs) ?_;rintro D σ H ⟨G,ρ,o,S,e,k⟩;unfold IC at e;split at e
 .rename_i rs q;split at e
  .rename_i qs T;refine⟨G,ρ,rs,S.r,q,λvs I H1 s1 rv=>⟨?_,Eg I H H1,qs,s1.all.sub,?_,?_⟩⟩
   .rw[AGt,<-O ρ rs q];exact(Paired.length rv).symm
   .rw[AGt];exact Kg s1.sub rv T
   .split at e
    .rename_i r er;cases e;exact .inl ⟨r,er,λv G' H' s _=>k σ _ H' (s1.all.gg.trans s.gg)<|(S.step s1.all).step s⟩
    .split at e
     .rename_i nm ex;cases e;exact .inr ⟨nm,ex,λC H' hC sm=>k C H' hC (S.hh.trans<|s1.hh.trans sm)<|S.r.sub.trans<|s1.hh.trans sm⟩
     .contradiction
  .contradiction
 .contradiction
end
def IJ.val:IJ->Option RV
 |.o x=>x.val
 |.ex _=>none
noncomputable def IJ.exc:IJ->Option Str
 |.ex nm=>some nm
 |.o _=>none
def Fz(N n:Nat)(g:YF):List PV->Option RV:=λps=>if ps.length=n then(g<|A9 N ps).bind IJ.val else none
def Jc(N n:Nat)(g:YF):List PV->Option Str:=λps=>if ps.length=n then(g<|A9 N ps).bind IJ.exc else none
theorem sD{P:Program}{w:World}{K:W.Frag}{mg:Str->Option Value}{base:Heap}{x qual:Str}{st:Stmt}{f:Addr}{fd:FuncData}{N ps:List Str}{k:Nat}{g:YF}(F:Ex K x qual st f fd)(S:IG N ps<|BR st) (p:∀(As:Value)(A:Around)(outer:List Env)(s:Shared)(H:Hp)(E:XK)(AR AO:Hp),B7 k (A.deeper<|envOfC qual (BR st) s.heap.objs.size f As)->HI (Np P w K mg base N qual (BR st) f As A outer s H E) E AR AO (EN st) g) : Cw P w K mg base (ID P w) (k+1) f fd ps<|Xx K ps.length (Fz N.length ps.length g)<|Jc N.length ps.length g:=by
 obtain⟨oc,od,kV,doc,pm,an,As,ct,Gp,rfl,Z,Y⟩:=F.ex;refine dk Z Y S (λvs H Q E h=>h.1) λA outer s H vs Q E O h=>?_;obtain⟨hl,G,qs,sub,y,h⟩:=h;refine⟨_,p As A outer s H E G H O,?_⟩;rcases h with⟨r,e,q⟩|⟨nm,e,q⟩
 .unfold Fz at e;split at e
  .cases z:g (A9 N.length qs)with
   |none=>rw[z]at e;contradiction
   |some o=>
    rw[z]at e;refine⟨G,A9 N.length qs,o,Xy sub y,z,?_⟩;cases o with
    |ex nm=>contradiction
    |o x=>
     cases x with
     |rt r'=>cases e;exact λv G' H' s rv=>q v G' H' s rv
     |nx ρ=>cases e;exact λAV G' H' s D=>q .Au G' H' D.My<|by rfl
     |bk ρ=>contradiction
     |ct ρ=>contradiction
  .contradiction
 .unfold Jc at e;split at e
  .cases z:g (A9 N.length qs)with
   |none=>rw[z]at e;contradiction
   |some o=>
    rw[z]at e;refine⟨G,A9 N.length qs,o,Xy sub y,z,?_⟩;cases o with
    |ex nm'=>cases e;exact λC H' R sm _=>q C H' R sm
    |o x=>contradiction
  .contradiction
def IH(P:Program)(w:World)(K:W.Frag)(mg:Str->Option Value)(base:Heap)(x:Str)(k n:Nat)(F:List PV->Option RV)(z:List PV->Option Str):Prop:=
 ∃f fd ps,Cw P w K mg base (ID P w) k f fd ps (Xx K n F z)/\mg x=some (.ref f)/\W.keepIn K (.ref f)=true/\Binds K fd ps []/\ps.length=n
theorem IH.toG{P:Program}{w:World}{K:W.Frag}{mg:Str->Option Value}{base:Heap}{x:Str}{k n:Nat}{F:List PV->Option RV}{p:List PV->Option Str}(h:IH P w K mg base x k n F p):BD P w K mg base x k n F:=by
 obtain⟨f,fd,ps,Z,Y,h3,O,y⟩:=h;refine⟨f,fd,ps,⟨λvs H Q E z=>by rw[y];exact z.1,λA outer s H args us vs Q E D R B r z=>?_⟩,Y,h3,O,y⟩;obtain⟨S,G,qs,T,sub,C,e,q⟩:=z;refine codeAny_mono (Z.run A outer s H args us vs Q E0 D R B r ⟨S,G,qs,sub,C,.inl ⟨T,e,q⟩⟩) λres s' v=>?_;cases res with
 |error e=>
  obtain⟨_,_,_,_,_,_,z⟩:=v;exact z.elim
 |ok fl=>cases fl<;>exact v
noncomputable def Wd(nm c:Str):Bool:=c==("ValueError" : Str)||c==("WardError" : Str)||nm==c
def Il(L:List Str)(i:Nat)(c:Str):EF:=λρ=>match ρ[i]? with|some (some<|.exc nm)=>if L.contains nm=true then some (.cl<|.bl<|Wd nm c)else none|_=>none
def ACe(K:W.Frag)(c:Value):List V->Hp->VK->Prop:=λvs H Q=>∃a D y b,vs=[.ref a,y]/\(∀u,RelV y u->u=c)/\H a=some (.ext<|Ey a D)/\NG K D/\W.kitOne K (.ref D) c=some b/\Q (.bl b) H
section
variable{X:Cx}{AR AO:Hp}{a b e:Expr}{es:List Expr}{fa fb f:EF}{ga:AF}{pos:Pos}
theorem oU{c:Value}:C4 X (.builtin "isinstance")<|ACe X.K c:=by intro AB s σ H xs us Q I r h;obtain⟨x,D,y,k,rfl,v,ha,Z,p,q⟩:=h;obtain⟨u,Y,rfl,O,P⟩:=vals2 r;cases (show u=Value.ref x from O);rw[v Y P];have F:=(show Bx X.prog X.w H s.heap x (.ext<|Ey x D)from I.AZ x _ ha).1;exact W.kia_one (wq Z) I.BS F p (λz=>nomatch z) λtk=>⟨.bl k,H,I.tok _,rfl,q⟩
set_option tactic.hygienic true
def JS(K:W.Frag)(L:List Str)(x:Str)(c:Value):Prop:=∀nm D,L.contains nm=true->DS K nm D->NG K D/\W.kitOne K (.ref D) c=some (Wd nm x)
theorem jg{L:List Str}(i:Nat){n x:Str}{u:Value}{y:V}{O p Y:Pos}(T:JS X.K L x u)(P:∀z,RelV y z->z=u)(hc:PE X (.Name x Y)<|tC y)(hm:X.mg "isinstance" = none)(F:X.N[i]? = some n:=by rfl)(B:Ez X.env.scope n:=by first|exact Or.inl rfl|exact Or.inr (Or.inl rfl)|exact Or.inr<|Or.inr rfl) (hd:(n==("__debug__"))=false:=by decide) (S:(n==("__classdict__"))=false:=by decide) (C:Gl X "isinstance":=by rfl) (he:starEach [.Name n O,.Name x Y] X.env=(false,eval (.Name n O) X.env)::starEach [.Name x Y] X.env:=by rfl) (E:starEach [.Name x Y] X.env=(false,eval (.Name x Y) X.env)::starEach [] X.env:=by rfl) (I:(backTo pos<|starEach [.Name x Y] X.env).any (·.1)=false:=by rfl) : PX X (.Call (.Name "isinstance" p) [.Name n O,.Name x Y] [] pos)<|Il L i x:=by
 refine PE.imp (PF (oU (c:=u)) C hm Uh (FN (Hr F B hd S) (FN hc Gq E) he) AFp AFp he I) ?_;rintro σ H Q ⟨G,ρ,r,R,e,q⟩;unfold Il at e;split at e
 .rename_i nm hn;split at e
  .rename_i t;cases e;obtain⟨v,h,x,D,rfl,hD,hG⟩:=R.slot i _ hn;obtain⟨Z,hk⟩:=T nm D t hD;exact⟨_,h,x,D,y,_,rfl,P,R.sub _ _ hG,Z,hk,q _ G H (Aq.refl R.sub)<|by rfl⟩
  .contradiction
 .contradiction
theorem ze{x:Str}{C:Addr}{p:Pos}(hm:X.mg x=some (.ref C))(z:Gl X x:=by rfl)(hd:(x==("__debug__"))=false:=by decide):PE X (.Name x p)<|tC<|.ref C:=XY z hm rfl hd
theorem zd{x:Str}{T:String}{p:Pos}(hm:X.mg x=none)(z:bootBuiltins x=some (.type T))(y:Gl X x:=by rfl)(hn:x≠"__name__":=by decide)(hd:(x==("__debug__"))=false:=by decide):PE X (.Name x p)<|tC<|.ty T:=XW y hm z rfl hn hd
def ACb:V->List V->Hp->VK->Prop:=λx vs H Q=>∃(l:Addr)(bs:List Bool)(b:Bool),x=.ref l/\vs=[.bl b]/\Rd H l (.lst<|bs.map V.bl)/\Q (.int (bs.countP (· == b))) H
set_option tactic.hygienic false
theorem ZC{bs:List Bool}{us:List Value}(r:Ao (bs.map V.bl) us):us=bs.map Value.bool:=by
 induction bs generalizing us with
 |nil=>cases r;rfl
 |cons b bs ih=>
  cases r with
  |cons r1 r2=>rw[show _=Value.bool b from r1,ih r2];rfl
theorem xk:Lg X "list.count" ACb:=by
 intro AB s σ H x vs v us Q I Z rv h;obtain⟨l,bs,b,rfl,rfl,Y,q⟩:=h;cases Z;obtain⟨u,rfl,O⟩:=rv.one;obtain rfl:u=Value.bool b:=O;obtain⟨z,its,n,r,e⟩:=Y.ok I.AZ;have hi:=ZC r;subst hi;refine call_meets F.slot_list_count ⟨_,e,rfl⟩ F.entry_list_count (F.args_list_count_2 _ _) (SeqAt.list_countAt l _ n none _ (.bool b) (λy=>match y with|.bool k=>k==b|_=>false)) ⟨e,λy p=>?_,?_⟩
 .rw[AJT]at p;obtain⟨k,_,rfl⟩:=AGe.mp p;exact SeqAt.EqAt.bool_bool k b
 .refine⟨.int _,H,I.tok _,⟨_,rfl⟩,?_⟩;have:((bs.map Value.bool).toArray.toList.countP λy=>match y with|.bool k=>k==b|_=>false)=bs.countP (· == b):=by rw[AJd];rfl
  rw[this];exact q
def ACd:V->List V->Hp->VK->Prop:=λx vs H Q=>∃(l:Addr)(bs:List Bool)(b:Bool),x=.ref l/\vs=[.bl b]/\Rd H l (.lst<|bs.map V.bl)/\bs.idxOf b<bs.length/\Q (.int<|bs.idxOf b) H
theorem xX{bs:List Bool}{y:Value}(h:y∈(bs.map Value.bool).toArray):∃k,y=.bool k:=by rw[AJT]at h;obtain⟨k,_,e⟩:=AGe.mp h;exact⟨k,e.symm⟩
theorem xp:Lg X "list.index" ACd:=by
 intro AB s σ H x vs v us Q I Z rv h;obtain⟨l,bs,b,rfl,rfl,Y,O,q⟩:=h;cases Z;obtain⟨u,rfl,P⟩:=rv.one;obtain rfl:u=Value.bool b:=P;obtain⟨z,its,n,r,e⟩:=Y.ok I.AZ;have hi:=ZC r;subst hi;have hz:=by simpa using z
 have h62:sizeLine<2 ^ 62:=AFp
 have p:bs.idxOf b<(bs.map Value.bool).toArray.size:=by simpa using O
 have D:((bs.idxOf b):Int)<2 ^ 63-1:=U
 refine call_meets F.slot_list_index ⟨_,e,rfl⟩ F.entry_list_index (F.args_list_index_2 _ _) (SeqAt.list_indexAt l _ n none _ (.bool b) (λy=>match y with|.bool k=>k==b|_=>false) (bs.idxOf b) p D ?_ (λm hm p=>?_)) ⟨e,λy R=>?_,?_⟩
 .simp
 .simpa using List.not_of_lt_findIdx p
 .obtain⟨k,rfl⟩:=xX R;exact SeqAt.EqAt.bool_bool k b
 .exact⟨.int _,H,I.tok _,⟨_,rfl⟩,q⟩
end
section
set_option tactic.hygienic true
variable{X:Cx}{E:XK}{AR AO:Hp}{a b e:Expr}{es:List Expr}{fa fb f:EF}{ga:AF}{pos:Pos}
def Rh(x y:RV):Option RV:=match x.list,y with
 |some ps,.cl (.bl b)=>(match Fu ps with|some bs=>some (.cl (.int (bs.countP (· == b))))|none=>none)
 |_,_=>none
def Rk(x y:RV):Option RV:=match x.list,y with
 |some ps,.cl (.bl b)=>(match Fu ps with|some bs=>if bs.idxOf b<bs.length then some (.cl<|.int<|bs.idxOf b)else none|none=>none)
 |_,_=>none
theorem AA7{Z z:Pos}(ha:PX X a fa)(Y:PX X b fb)(O:attributeBase a "count" X.env (eval a X.env)=eval a X.env) (P:((backTo z<|starEach [b] X.env).all (λx=>!x.1)&&(backToKw z<|keywordEach [] X.env).all (λx=>x.1.isSome)&&decide ([b].length+([]:List Keyword).length+(if([]:List Keyword).isEmpty then 0 else 1)<30))=true)
 (D:(Z.endLine==z.line)=true) (hs:starEach [b] X.env=(false,eval b X.env)::starEach [] X.env) (F:(backTo z<|starEach [] X.env).any (·.1)=false) :
 PX X (.Call (.Attribute a "count" Z) [b] [] z) (f2 Rh fa fb):=
 PE.imp (PD AHa AJW AJX xk ha (FN Y Gq hs) O P D hs F) (by
  rintro σ H Q ⟨G,ρ,r,R,e,q⟩;unfold f2 at e;cases ea:fa ρ with
  |none=>rw[ea]at e;contradiction
  |some x=>
   rw[ea]at e;cases v:fb ρ with
   |none=>rw[v]at e;contradiction
   |some y=>
    rw[v]at e;dsimp only at e;unfold Rh at e;split at e
    .rename_i ps k B;split at e
     .rename_i bs S;cases e;refine⟨G,ρ,x,R,ea,λvx T H1 s1 C=>?_⟩;obtain⟨l,vs,rfl,p,I⟩:=C.list s1.sub B;refine⟨.inl ⟨rfl,vs,.inl p⟩,T,ρ,_,R.step s1,v,λvy n t s2 h=>?_⟩;rw[Nj S I]at p;exact⟨l,bs,k,rfl,by rw[h.bl],Rd.same s2.hh p,q _ n t (s1.trans s2)<|by rfl⟩
     .contradiction
    .contradiction)
theorem ABF{Z z:Pos}(ha:PX X a fa)(Y:PX X b fb)(O:attributeBase a "index" X.env (eval a X.env)=eval a X.env) (P:((backTo z<|starEach [b] X.env).all (λx=>!x.1)&&(backToKw z<|keywordEach [] X.env).all (λx=>x.1.isSome)&&decide ([b].length+([]:List Keyword).length+(if([]:List Keyword).isEmpty then 0 else 1)<30))=true)
 (D:(Z.endLine==z.line)=true) (hs:starEach [b] X.env=(false,eval b X.env)::starEach [] X.env) (B:(backTo z<|starEach [] X.env).any (·.1)=false) :
 PX X (.Call (.Attribute a "index" Z) [b] [] z) (f2 Rk fa fb):=
 PE.imp (PD AHa PySem.F.slot_list_index PySem.F.type_list_index xp ha (FN Y Gq hs) O P D hs B) (by
  rintro σ H Q ⟨G,ρ,r,R,e,q⟩;unfold f2 at e;cases ea:fa ρ with
  |none=>rw[ea]at e;contradiction
  |some x=>
   rw[ea]at e;cases v:fb ρ with
   |none=>rw[v]at e;contradiction
   |some y=>
    rw[v]at e;dsimp only at e;unfold Rk at e;split at e
    .rename_i ps k S;split at e
     .rename_i bs T;split at e
      .rename_i C;cases e;refine⟨G,ρ,x,R,ea,λvx I H1 s1 n=>?_⟩;obtain⟨l,vs,rfl,p,t⟩:=n.list s1.sub S;refine⟨.inl ⟨rfl,vs,.inl p⟩,I,ρ,_,R.step s1,v,λvy h H2 s2 ry=>?_⟩;rw[Nj T t]at p;exact⟨l,bs,k,rfl,by rw[ry.bl],Rd.same s2.hh p,C,q _ h H2 (s1.trans s2)<|by rfl⟩
      .contradiction
     .contradiction
    .contradiction)
def Qd(N:Nat)(g:SF):Str->Option RV:=λnm=>(g (some (.exc nm)::List.replicate (N-1) none)).bind Out.val
def Xw(K:W.Frag)(y:Str->Option RV):List V->Hp->VK->Prop:=λvs H Q=>∃a C nm z,vs=[.ref a]/\DS K nm C/\H a=some (.ext<|Ey a C)/\y nm=some (.cl<|.int z)/\∀H',Ai H H'->Q (.int z) H'
theorem sC{P:Program}{w:World}{K:W.Frag}{mg:Str->Option Value}{base:Heap}{x qual y:Str}{st:Stmt}{f:Addr}{fd:FuncData}{N:List Str}{k:Nat}{g:SF}(F:Ex K x qual st f fd)(S:IG N [y]<|BR st) (D:∀(As:Value)(A:Around)(outer:List Env)(s:Shared)(H:Hp)(AR AO:Hp),EL k (A.deeper<|envOfC qual (BR st) s.heap.objs.size f As)->D5 (QY P w K mg base N qual (BR st) f As A outer s H) AR AO (EN st) g) : NP P w K mg base (k+1) f fd [y]<|Xw K<|Qd N.length g:=by
 refine sE F S (λvs H Q h=>by obtain⟨_,_,_,_,rfl,_⟩:=h;rfl) λAs A outer s H vs Q R h=>?_;obtain⟨a,C,nm,z,rfl,B,T,e,q⟩:=h
 let G:Hp:=λb=>if b=a then some (.ext<|Ey a C)else none
 have I:Ai G H:=λb o p=>by
  by_cases Y:b=a
  .subst Y;have:G b=some (.ext<|Ey b C):=AFu rfl;rw[this]at p;rw[T];exact p
  .have:G b=none:=AF0 Y;rw[this]at p;contradiction
 refine⟨_,D As A outer s H G H R,?_⟩;unfold Qd at e;cases Z:g (some (.exc nm)::List.replicate (N.length-1) none)with
 |none=>rw[Z]at e;contradiction
 |some o=>
  rw[Z]at e;have O:∀(i:Nat)(s:SV),(some (SV.exc nm)::List.replicate (N.length-1) none)[i]? = some (some s)->s.FD=true->False:=λi s h o=>by
   cases i with
   |zero=>simp at h;subst h;contradiction
   |succ i=>simp[AGz]at h
  refine⟨G,_,o,⟨⟨I,λi sv h=>?_,λi j ps qs _ _ _ h o=>(O i ps h o).elim,?_⟩,Ai.refl _,Ai.refl _,λ_ _ n=>n,λi ps _ o h=>(O i ps h o).elim⟩,Z,?_⟩
  .cases i with
   |zero=>
    simp at h;subst h;exact⟨.ref a,by rfl,a,C,rfl,B,AFu rfl⟩
   |succ i=>simp[AGz]at h
  .unfold start;simp
  .cases o with
   |rt r=>
    cases e;exact λv G' H' s rv=>by rw[rv.int];exact q H' s.hh
   |nx ρ=>cases e
   |bk ρ=>contradiction
   |ct ρ=>contradiction
def N9(i j:Nat)(y:Str->Option RV):SF:=λρ=>match ρ[j]? with
 |some (some<|.exc nm)=>(match y nm with|some (.cl<|.int z)=>some (.nx<|ρ.set i<|some<|.im<|.int z)|_=>none)
 |_=>none
theorem AB7(i j:Nat){x n y:Str}{p fp q Z:Pos}{Y:Str->Option RV}{k:Nat}{fw:Addr}{fd:FuncData}{ps:List Str}(FM:NP X.prog X.w X.K X.mg X.base k fw fd ps<|Xw X.K Y)(O:EL k X.A)(hm:X.mg y=some (.ref fw))(P:W.keepIn X.K (.ref fw)=true)(F:Binds X.K fd ps [])(R:X.N.Nodup) (hi:X.N[i]? = some x:=by rfl) (B:X.N[j]? = some n:=by rfl) (T:Loc X.env.scope x:=by first|exact Or.inl rfl|exact Or.inr rfl) (I:Ez X.env.scope n:=by first|exact Or.inl rfl|exact Or.inr (Or.inl rfl)|exact Or.inr<|Or.inr rfl) (t:Gl X y:=by rfl) (hd:(n==("__debug__"))=false:=by decide) (h:(n==("__classdict__"))=false:=by decide) (CJ:(y==("__debug__"))=false:=by decide) (he:starEach [.Name n q] X.env=(false,eval (.Name n q) X.env)::starEach [] X.env:=by rfl) (BA:(backTo Z<|starEach [] X.env).any (·.1)=false:=by rfl) (hs:swapsWith (.Call (.Name y fp) [.Name n q] [] Z) (some<|.Name x p) pos.line X.env=pure false:=by rfl) (hf:X.fn x=true\/X.env.scope.names.lookup x=some .local:=by first|exact .inl rfl|exact .inr rfl) : CQ X AR AO (.Assign [.Name x p] (.Call (.Name y fp) [.Name n q] [] Z) pos)<|N9 i j Y:=
 PS.imp (Si R hi T (zi FM O t hm P F (FN (Hr B I hd h) Gq he) CJ he BA) hs hf) (by
  rintro D σ H ⟨G,ρ,o,S,e,ok⟩;unfold N9 at e;split at e
  .rename_i nm hn;split at e
   .rename_i z ez;cases e;obtain⟨v,ev,a,C,rfl,hC,hG⟩:=S.r.slot j _ hn;refine⟨_,ev,a,C,nm,z,rfl,hC,S.r.sub _ _ hG,ez,λH' sm=>?_⟩;have Q:=S.step (show Aq G H G H' from⟨Ai.refl _,sm,S.r.sub.trans sm,λ_ _ n=>n⟩);exact ok _ _ _ (Ai.refl _)<|Q.turn (Q.r.Gw<|by rfl) D4.Gw
   .contradiction
  .contradiction)
theorem SR.ADB{K:W.Frag}{G H:Hp}{ρ:AS}{σ:St}{i:Nat}(S:SR K AR AO G H ρ σ):SR K AR AO G H (ρ.set i none)<|σ.set i none:=by
 have back:∀(j:Nat)(sv:SV),(ρ.set i none)[j]? = some (some sv)->j≠i/\ρ[j]? = some (some sv):=λj sv h=>by
  by_cases z:j=i
  .subst z;rw[List.getElem?_set]at h;simp at h
  .rw[AGN<|AGr z]at h;exact⟨z,h⟩
 have y:∀(j:Nat),j≠i->(σ.set i none)[j]? = σ[j]?:=λj z=>AGN<|AGr z;refine⟨⟨S.r.sub,λj sv h=>?_,λj k ps qs b c Q v p q O h3 Y=>?_,by simpa using S.r.len⟩,S.gg,S.hh,S.ex,λj ps b p v q=>?_⟩
 .obtain⟨z,h'⟩:=back j sv h;rw[y j z];exact S.r.slot j sv h'
 .obtain⟨z,Z⟩:=back j _ v;obtain⟨P,D⟩:=back k _ q;rw[y j z]at h3;rw[y k P]at Y;exact S.r.apart j k ps qs b c Q Z p D O h3 Y
 .obtain⟨z,Z⟩:=back j _ v;rw[y j z]at q;exact S.new j ps b p Z q
def Pj(N i:Nat)(L:List Str)(body:YF)(z:SF):YF:=λρ=>match body ρ with
 |some (.ex nm)=>if L.contains nm=true then(match z ((List.replicate N none).set i<|some<|.exc nm)with|some (.nx ρ')=>some (.o<|.nx<|ρ'.set i none)|_=>none)else none
 |o=>o
theorem ACU{body Q:List Stmt}{O:Stmt}{x n:Str}{np RM:Pos}{P:Addr}{i:Nat}{L:List Str}{v:YF}{p:SF}{N:Nat}(d:NS X)(hn:X.N.length=N)(hN:X.N.Nodup)(hi:X.N[i]? = some n)(hl:X.env.scope.names.lookup n=some .local)(hg:Gl X x)(hm:X.mg x=some (.ref P)) (T:∀nm C,L.contains nm=true->DS X.K nm C->W.exmOne X.K (.ref C) (.ref P)=some true) (Z:∀nm,L.contains nm=true->∃C,DS X.K nm C) (y:∀(q:XK)(F:Value->Shared->Prop)(R:List<|Addr×Obj),Passes (ID X.prog X.w) (X.re F R) q->HI (X.re F R) q AR AO body v) (hs:∀ea,D5 (X.Fd ea) AR AO (O::Q) p) (CJ:(x==("__debug__"))=false) : HH X E AR AO (.Try body [.ExceptHandler (some<|.Name x np) (some n) (O::Q) RM] [] [] pos)<|Pj N i L v p:=by
 refine PS.imp (AAg (tb:=λq=>YI X.K q AR AO v) (ts:=Mz X.K AR AO p) d hN hi hl hg hm y hs CJ) ?_;rintro D σ H ⟨G,ρ,o,S,e,k⟩;unfold Pj at e;split at e
 .rename_i nm eb;split at e
  .rename_i B;split at e
   .rename_i ρ' es;cases e;obtain⟨C,Y⟩:=Z nm B;refine⟨λcls _ H'=>cls=.ref C/\Ai AO H'/\Ai G H',⟨G,ρ,_,S,eb,λC' H' tG s1 s2=>⟨by rw[DS.inj tG Y],s1,s2⟩⟩,?_⟩;rintro cls H' ⟨rfl,s1,s2⟩;refine⟨C,rfl,T nm C B Y,λea AV I he=>?_⟩;have hG:=s2.free he;have t:=s1.free he;have BI:=(AFx.mp hi).1;have gg:Ai G<|upd G ea<|.ext<|Ey ea C:=λb o h=>by rw[BH<|Du h hG];exact h
    have KL:∀(j:Nat)(s:SV),((List.replicate N none).set i<|some<|SV.exc nm)[j]? = some (some s)->s.FD=true->False:=λj s h o=>by
     rcases get_set h with⟨_,z⟩|⟨_,z⟩
     .subst z;contradiction
     .simp[AGz]at z
    refine⟨upd G ea<|.ext<|Ey ea C,_,_,⟨⟨λb o h=>?_,λj sv h=>?_,λj _ ps _ _ _ _ h o=>(KL j ps h o).elim,?_⟩,S.gg.trans gg,λb o h=>?_,λb h g0=>?_,λj ps _ o h=>(KL j ps h o).elim⟩,es,λDQ G2 H2 sg S2=>k _ G2 H2 (gg.trans sg) S2.ADB⟩
    .by_cases y:b=ea
     .subst y;rw[DE]at h ⊢;exact h
     .rw[BH y]at h ⊢;exact s2 _ _ h
    .rcases get_set h with⟨rfl,z⟩|⟨_,z⟩
     .cases z;exact⟨.ref ea,set_slot (by rw[I];exact BI),ea,C,rfl,Y,DE⟩
     .simp[AGz]at z
    .simp only[AJc,AJc,AHU,I,hn]
    .rw[BH<|Du h t];exact s1 _ _ h
    .obtain⟨o,y⟩:=h.get;rw[BH<|Du y t];exact S.ex b h g0
   .contradiction
  .contradiction
 .rename_i Ax;refine⟨λ_ _ _=>False,⟨G,ρ,o,S,e,?_⟩,λ_ _ z=>z.elim⟩;cases o with
  |ex nm=>exact(Ax nm e).elim
  |o x=>exact k
end
theorem _root_.Internal.L2.EL.units{k:Nat}{A:Around}(r:EL k A):A.units+64<cLine:=by have:=r.un;lia
theorem _root_.Internal.L2.EL.mono{j k:Nat}{A:Around}(r:EL k A)(h:j<=k):EL j A:=⟨by have:=r.dp;lia,by have:=r.un;lia⟩
theorem ACu{k:Nat}{X:Cx}{ea:Addr}(r:B7 k X.A):EL k (X.Fd ea).A:=⟨r.dp,r.un⟩
def QG(P:Program)(w:World)(K:W.Frag)(mg:Str->Option Value)(base:Heap)(x:Str)(k:Nat)(z:Str->Option RV):Prop:=
 ∃f fd ps,NP P w K mg base k f fd ps (Xw K z)/\mg x=some (.ref f)/\W.keepIn K (.ref f)=true/\Binds K fd ps []
section
variable{X:Cx}{E:XK}{AR AO:Hp}{a b e:Expr}{es:List Expr}{fa fb f:EF}{ga:AF}{pos:Pos}
theorem ACN{x:Str}{j k n:Nat}{F:List PV->Option RV}{y:List PV->Option Str}{p z:Pos}(c:IH X.prog X.w X.K X.mg X.base x j n F y)(q:B7 k X.A)(hp:Passes (ID X.prog X.w) X E)(ha:CY X (e::es) ga)(v:∀ρ rs,ga ρ=some rs->rs.length=n)(Z:j<=k) (Y:Gl X x) (Q:(x==("__debug__"))=false) (he:starEach (e::es) X.env=(false,eval e X.env)::starEach es X.env) (O:(backTo z<|starEach es X.env).any (·.1)=false) (hs:swapsWith (.Call (.Name x p) (e::es) [] z) none pos.line X.env=pure false):HH X E AR AO (.Expr (.Call (.Name x p) (e::es) [] z) pos)<|IC F y ga:=by obtain⟨f,fd,ps,P,D,h3,R,h5⟩:=c;exact ACL (P.mono Z) q D h3 R hp ha v Y Q he O hs
theorem AB8(i j:Nat){l k:Nat}{x n y:Str}{p fp z q:Pos}{v:Str->Option RV}(c:QG X.prog X.w X.K X.mg X.base y l v)(Z:EL k X.A)(Y:X.N.Nodup)(Q:l<=k) (hi:X.N[i]? = some x) (O:X.N[j]? = some n) (P:Loc X.env.scope x) (D:Ez X.env.scope n) (F:Gl X y) (hd:(n==("__debug__"))=false) (R:(n==("__classdict__"))=false) (B:(y==("__debug__"))=false) (he:starEach [.Name n z] X.env=(false,eval (.Name n z) X.env)::starEach [] X.env) (G:(backTo q<|starEach [] X.env).any (·.1)=false) (hs:swapsWith (.Call (.Name y fp) [.Name n z] [] q) (some<|.Name x p) pos.line X.env=pure false) (S:X.fn x=true\/X.env.scope.names.lookup x=some .local) : CQ X AR AO (.Assign [.Name x p] (.Call (.Name y fp) [.Name n z] [] q) pos)<|N9 i j v:=by obtain⟨f,fd,ps,T,C,h3,H⟩:=c;exact AB7 i j T (Z.mono Q) C h3 H Y hi O P D F hd R B he G hs S
end
theorem zR{K:W.Frag}{C:Addr}{z:List Value}{n:String}(q:W.excIn K C z n=true):(W.clsIn K C).isSome=true/\W.typeIn K (.ref C)=some (.type "type"):=by
 unfold W.excIn at q;split at q
 .rename_i ho;refine⟨by unfold W.clsIn;rw[ho];rfl,by unfold W.typeIn;dsimp only;rw[ho];rfl⟩
 .contradiction
theorem wo{K:W.Frag}{t:Value}:W.kitOne K t t=some true:=by unfold W.kitOne;rw[AFu AFn]
theorem kit_cls{K:W.Frag}{t:Value}{C:Addr}{z:List Value}{n:String}{b:Bool}(q:W.excIn K C z n=true)(h:W.subIn K t (.ref C)=some b):W.kitCls K t (.ref C)=some b:=by obtain⟨y,v⟩:=zR q;unfold W.kitCls;dsimp only;rw[AFu (by rw[y,v];rfl)];exact h
theorem Rq{K:W.Frag}{t:Value}{C:Addr}{z:List Value}{n:String}{b:Bool}(y:(t==Value.ref C)=false)(q:W.excIn K C z n=true)(h:W.subIn K t (.ref C)=some b):W.kitOne K t (.ref C)=some b:=by unfold W.kitOne;rw[AF0 (by rw[y];simp)];exact kit_cls q h
theorem wm{K:W.Frag}{D:Addr}{T:String}{b:Bool}(hm:W.kitMeta T=true)(h:W.subIn K (.ref D) (.type T)=some b):W.kitOne K (.ref D) (.type T)=some b:=by unfold W.kitOne;unfold W.kitCls;dsimp only;rw[AFu hm];exact h
theorem rV{K:W.Frag}{C D:Addr}{z:List Value}{n:String}(q:W.excIn K C z n=true)(y:W.subIn K (.ref C) (.type "BaseException")=some true)(h:W.subIn K (.ref D) (.ref C)=some true):W.exmOne K (.ref D) (.ref C)=some true:=by unfold W.exmOne;rw[AFu (by rw[y];rfl)];exact kit_cls q h
theorem Ur{n nm:Str}(h:List.contains [n] nm=true):nm=n:=by simpa using h
theorem MI{K:W.Frag}{n x:Str}{D:Addr}{c:Value}{b:Bool}(hn:DS K n D)(Z:NG K D)(h:W.kitOne K (.ref D) c=some b)(z:Wd n x=b):JS K [n] x c:=λnm D' y q=>by obtain rfl:=Ur y;obtain rfl:=DS.inj q hn;exact⟨Z,by rw[z];exact h⟩
noncomputable def DG:List (List Int)->List PV->List Int->Option PV
 |k'::ks,x::xs,k=>if k'=k then some x else DG ks xs k
 |_,_,_=>none
noncomputable def HM:List (List Int)->List PV->List Int->PV->List PV
 |k'::ks,x::xs,k,v=>(if k'=k then v else x)::HM ks xs k v
 |_,_,_,_=>[]
noncomputable def GP(ks:List<|List Int)(k:List Int):List<|List Int:=if k∈ks then ks else ks ++ [k]
def Ie(ks:List<|List Int)(xs:List PV)(k:List Int)(v:PV):List PV:=if k∈ks then HM ks xs k v else xs ++ [v]
theorem Wl{a b:List Int}(h:Cd a=Cd b):a=b:=by exact(List.map_inj_right λx y e=>Sum.inl.inj e).mp h
theorem gm(k:List Int):(Cd k).map kV=k.map V.int:=by
 unfold Cd;rw[AGU]
 rfl
section
variable{K:W.Frag}{G:Hp}
theorem aF:∀{ks:List (List Int)}{xs:List PV}{AL:List (List Key×V)}{k:List Int}{p:PV},AL.map (·.1)=ks.map Cd->AW K G xs (AL.map (·.2))->DG ks xs k=some p->∃v,Gz AL (Cd k)=some v/\Rep K G p v
 |[],_,_,_,_,_,_,e=>by contradiction
 |_::_,[],_,_,_,_,_,e=>by contradiction
 |k'::ks,x::xs,[],k,p,h,_,_=>by simp at h
 |k'::ks,x::xs,(q,v)::AL,k,p,h,r,e=>by
  simp only[AF6,AJe]at h;obtain⟨u,us,Z,Y,Q⟩:=r;cases Z;unfold DG at e;by_cases y:k'=k
  .rw[AFu y]at e;cases e;exact⟨v,TU (by rw[h.1,y]),Y⟩
  .rw[AF0 y]at e;obtain⟨w,O,P⟩:=aF h.2 Q e;exact⟨w,by rw[TR λz=>y<|Wl<|h.1.symm.trans z];exact O,P⟩
theorem cZ{k:List Int}{p:PV}{v:V}(hp:Rep K G p v):∀{ks:List (List Int)}{xs:List PV}{AL:List (List Key×V)},AL.map (·.1)=ks.map Cd->AW K G xs (AL.map (·.2))->(AL.map λy=>if y.1=Cd k then(y.1,v)else y).map (·.1)=ks.map Cd/\AW K G (HM ks xs k p) ((AL.map λy=>if y.1=Cd k then(y.1,v)else y).map (·.2))
 |[],xs,[],_,r=>by exact⟨rfl,by rfl⟩
 |[],_,_::_,h,_=>by simp at h
 |_::_,_,[],h,_=>by simp at h
 |k'::ks,[],_::_,_,r=>by unfold AW at r;simp at r
 |k'::ks,x::xs,(q,u)::AL,h,r=>by
  simp only[AF6,AJe]at h;obtain⟨u',us,O,P,D⟩:=r;cases O;obtain⟨Y,Q⟩:=cZ (k:=k) hp h.2 D;obtain⟨rfl,_⟩:=h;unfold HM;by_cases Z:k'=k
  .subst Z;rw[AF6,AFu rfl,AFu rfl,AF6,Y];refine⟨rfl,?_⟩;exact⟨_,_,rfl,hp,Q⟩
  .rw[AF6,AF0 Z,AF0 λz=>Z<|Wl z,AF6,Y];refine⟨rfl,?_⟩;exact⟨_,_,rfl,P,Q⟩
theorem qj{ks:List (List Int)}{xs:List PV}{AL:List (List Key×V)}{k:List Int}{p:PV}{v:V}(h:AL.map (·.1)=ks.map Cd)(r:AW K G xs (AL.map (·.2)))(hp:Rep K G p v) : (Fq AL (Cd k) v).map (·.1)=(GP ks k).map Cd/\AW K G (Ie ks xs k p) ((Fq AL (Cd k) v).map (·.2)):=by
 have e:(AL.any λy=>decide (y.1=Cd k))=decide (k∈ks):=by
  have:(AL.any λy=>decide (y.1=Cd k))=(AL.map (·.1)).any λq=>decide (q=Cd k):=by rw[AHo];rfl
  rw[this,h,AHo,AHM];simp only[List.any_eq_true,Function.comp,AF2];exact⟨(by rintro⟨x,Z,e⟩;exact Wl e ▸ Z),λZ=>⟨k,Z,rfl⟩⟩
 delta Fq GP Ie
 rw[e];by_cases z:k∈ks
 .rw[AFu (by simpa using z),AFu z,AFu z];exact cZ hp h r
 .rw[AF0 (by simpa using z),AF0 z,AF0 z,AGP,AGP,AGP,h];exact⟨rfl,AW.of<|Mi r.paired<|.cons hp .nil⟩
end
theorem qh(ks:List<|List Int)(k:List Int):(GP ks k).length<=ks.length+1:=by
 unfold GP;split
 .lia
 .rw[AGA];exact AF5 _
theorem cY:∀(ks:List<|List Int)(xs:List PV)(k:List Int)(v:PV),ks.length=xs.length->(HM ks xs k v).length=xs.length
 |[],[],_,_,_=>rfl
 |[],_::_,_,_,h=>by simp at h
 |_::_,[],_,_,h=>by simp at h
 |_::ks,_::xs,k,v,h=>by unfold HM;simp only[AGC,AGC,cY ks xs k v<|by simpa using h]
theorem qi{ks:List (List Int)}{xs:List PV}(h:ks.length=xs.length)(k:List Int)(v:PV):(GP ks k).length=(Ie ks xs k v).length:=by
 delta GP Ie
 split
 .rw[cY ks xs k v h,h]
 .simp only[AGA,AGA,h];rfl
theorem aH(k j:List Int)(v:PV):∀(ks:List<|List Int)(xs:List PV),ks.length=xs.length->k∉ks->DG (ks ++ [k]) (xs ++ [v]) j=if j=k then some v else DG ks xs j
 |[],[],_,_=>by
  show(if k=j then some v else DG [] [] j)=_;by_cases e:j=k
  .rw[AFu e,AFu e.symm]
  .rw[AF0 e,AF0<|AGr e]
 |[],_::_,h,_=>by simp at h
 |_::_,[],h,_=>by simp at h
 |k'::ks,x::xs,h,n=>by
  simp only[AF4,not_or]at n;show(if k'=j then some x else DG (ks ++ [k]) (xs ++ [v]) j)=if j=k then some v else if k'=j then some x else DG ks xs j
  rw[aH k j v ks xs (by simpa using h) n.2];by_cases e:k'=j
  .subst e;rw[AFu rfl,AFu rfl,AF0 λz=>n.1 z.symm]
  .rw[AF0 e,AF0 e]
theorem aG(k j:List Int)(v:PV):∀(ks:List<|List Int)(xs:List PV),ks.length=xs.length->k∈ks->DG ks (HM ks xs k v) j=if j=k then some v else DG ks xs j
 |[],_,_,n=>by cases n
 |_::_,[],h,_=>by simp at h
 |k'::ks,x::xs,h,n=>by
  show(if k'=j then some (if k'=k then v else x)else DG ks (HM ks xs k v) j)=if j=k then some v else if k'=j then some x else DG ks xs j
  by_cases e:k'=j
  .subst e;rw[AFu rfl,AFu rfl];split<;>rfl
  .rw[AF0 e,AF0 e];by_cases z:k∈ks
   .exact aG k j v ks xs (by simpa using h) z
   .have:=by simpa[z]using n
    subst this;rw[AF0<|AGr e];have:∀(ks:List<|List Int)(xs:List PV),ks.length=xs.length->k∉ks->HM ks xs k v=xs:=by
     intro ks
     induction ks with
     |nil=>intro xs h _;cases xs with
      |nil=>rfl
      |cons _ _=>simp at h
     |cons q qs ih=>intro xs h n;cases xs with
      |nil=>simp at h
      |cons y ys=>
       simp only[AF4,not_or]at n;unfold HM;rw[AF0<|AGr n.1,ih ys (by simpa using h) n.2]
    rw[this ks xs (by simpa using h) z]
theorem qc{ks:List (List Int)}{xs:List PV}(h:ks.length=xs.length)(k j:List Int)(v:PV):DG (GP ks k) (Ie ks xs k v) j=if j=k then some v else DG ks xs j:=by
 delta GP Ie
 by_cases z:k∈ks
 .rw[AFu z,AFu z];exact aG k j v ks xs h z
 .rw[AF0 z,AF0 z];exact aH k j v ks xs h z
section
variable{X:Cx}{a b c e tg iter:Expr}{es:List Expr}{fa fb fc f:EF}{g ga:AF}{pos:Pos}{AR AO:Hp}
noncomputable def KO:List RV->Option (List Int)
 |[]=>some []
 |.cl (.int i)::r=>(KO r).map (i :: ·)
 |_::_=>none
theorem Xl{K:W.Frag}{H G' H':Hp}:∀{rs:List RV}{vs:List V}{k:List Int},KO rs=some k->D6 K H G' H' rs vs->vs=k.map V.int
 |[],_,_,e,r=>by cases e;cases r;rfl
 |.cl (.int i)::rs,_,k,e,r=>by
  unfold KO at e;cases z:KO rs with
  |none=>rw[z]at e;contradiction
  |some q=>
   rw[z]at e;cases e;cases r with
   |cons r1 r2=>rw[r1.int,Xl z r2];rfl
 |.cl .Au::_,_,_,e,_=>by contradiction
 |.cl (.bl _)::_,_,_,e,_=>by contradiction
 |.cl (.str _)::_,_,_,e,_=>by contradiction
 |.cl (.tup _)::_,_,_,e,_=>by contradiction
 |.cl (.lst _)::_,_,_,e,_=>by contradiction
 |.cl (.rd _)::_,_,_,e,_=>by contradiction
 |.cl (.Co _ _)::_,_,_,e,_=>by contradiction
 |.bo _::_,_,_,e,_=>by contradiction
 |.fr _::_,_,_,e,_=>by contradiction
 |.bd _ _::_,_,_,e,_=>by contradiction
 |.fd _ _::_,_,_,e,_=>by contradiction
 |.tf _ _::_,_,_,e,_=>by contradiction
noncomputable def RV.Co:RV->Option (List (List Int)×List PV)
 |.cl (.Co ks xs)=>some (ks,xs)
 |.bd ks xs=>some (ks,xs)
 |.fd ks xs=>some (ks,xs)
 |_=>none
theorem Bu.Co{K:W.Frag}{H G' H':Hp}{r:RV}{v:V}{ks:List (List Int)}{xs:List PV}(sub:Ai G' H')(h:Bu K H G' H' r v)(e:r.Co=some (ks,xs)):∃a AL,v=.ref a/\Rd H' a (.dT AL)/\AL.map (·.1)=ks.map Cd/\AW K G' xs (AL.map (·.2)):=by
 cases r with
 |cl p=>
  cases p with
  |Co Rt YV=>
   cases e;have h':=h;obtain⟨a,AL,e,q,k,r⟩:=h';exact⟨a,AL,e,Rd.same sub q,k,r⟩
  |_=>contradiction
 |bd Rt YV=>
  cases e;obtain⟨a,AL,e,g,q,k,r⟩:=h;exact⟨a,AL,e,.inl q,k,r⟩
 |fd Rt YV=>
  cases e;obtain⟨a,AL,e,n,g,q,k,r⟩:=h;exact⟨a,AL,e,.inl q,k,r⟩
 |_=>contradiction
set_option tactic.hygienic true
def Ko(f:EF)(g:AF):EF:=λρ=>match f ρ,g ρ with
 |some r,some rs=>(match r.Co,KO rs with|some d,some k=>if k.length<=1000 then(DG d.1 d.2 k).map .cl else none|_,_=>none)
 |_,_=>none
theorem AA9{x1}{Y:Pos}(P:X.A.units+1<cLine)(ho:PX X a f)(h:CY X es g)(hs:UK<|.Tuple es x1 Y):PX X (.Subscript a (.Tuple es x1 Y) pos)<|Ko f g:=PE.imp (zr P ho (XZ h) hs) (by
 rintro σ H Q ⟨G,ρ,z,R,e,q⟩;unfold Ko at e;split at e
 .rename_i r rs D F;split at e
  .rename_i d k B S;split at e
   .rename_i hz;cases y:DG d.1 d.2 k with
    |none=>rw[y]at e;contradiction
    |some p=>
     rw[y]at e;cases e;refine⟨G,ρ,r,R,D,λv T H1 s1 rv=>⟨T,ρ,rs,R.step s1,F,λvs G2 H2 s2 C=>?_⟩⟩;have O:=Xl S C;refine⟨small (by rw[O,AFs];exact hz),λb E=>?_⟩;have Z:=Aq.new s2.sub (.tup vs) E;obtain⟨a,AL,rfl,I,n,t⟩:=(rv.step<|s2.trans Z).Co Z.sub B;obtain⟨w,x,h2⟩:=aF n t y;exact⟨a,w,rfl,.inr ⟨AL,Cd k,b,I,rfl,by rw[DE,gm,O],x.symm⟩,q w _ _ ((s1.trans s2).trans Z) h2⟩
   .contradiction
  .contradiction
 .contradiction)
noncomputable def VV:EF:=λ_=>some<|.fd [] []
theorem ABB:PX X (.Dict [] [] pos) VV:=PE.imp zt (by rintro σ H Q ⟨G,ρ,z,R,e,q⟩;cases e;intro p hp;exact q _ _ _ (Aq.Hq R.sub _ hp) ⟨p,[],rfl,hp,R.sub.free hp,DE,rfl,by rfl⟩)
noncomputable def Q7(i:Nat)(f:EF):SF:=λρ=>match f ρ with|some (.fd ks xs)=>some (.nx<|ρ.set i<|some<|.EG none ks xs)|_=>none
theorem AB5(i:Nat){x:Str}{p:Pos}(y:X.N.Nodup)(he:PX X e f)(hi:X.N[i]? = some x)(q:Loc X.env.scope x)(hs:swapsWith e (some<|.Name x p) pos.line X.env=pure false)(Z:X.fn x=true\/X.env.scope.names.lookup x=some .local) : CQ X AR AO (.Assign [.Name x p] e pos)<|Q7 i f:=PS.imp (Si y hi q he hs Z) (by
 rintro D σ H ⟨G,ρ,o,S,e,k⟩;unfold Q7 at e;split at e
 .rename_i ks xs Y;cases e;refine⟨G,ρ,_,S.r,Y,λv G' H' s rv=>?_⟩;obtain⟨a,AL,rfl,n,ga,ha,Q,O⟩:=rv;exact k _ _ _ s.gg<|(S.step s).kG S.hh S.r.XS n ⟨a,AL,rfl,ga,ha,Q,O,λ_ z=>nomatch z⟩
 .contradiction)
noncomputable def Q6(i:Nat):SF:=λρ=>match ρ[i]? with|some (some<|.EG _ ks xs)=>some (.rt<|.fd ks xs)|_=>none
theorem AB1(i:Nat){x:Str}{p:Pos}(q:X.N[i]? = some x)(Z:Ez X.env.scope x)(hd:(x==("__debug__"))=false) (Y:(x==("__classdict__"))=false):CQ X AR AO (.Return (some<|.Name x p) pos)<|Q6 i:=PS.imp (Xb<|Hr q Z hd Y) (by
 rintro D σ H ⟨G,ρ,o,S,e,k⟩;unfold Q6 at e;split at e
 .rename_i ks xs z;cases e;obtain⟨v,y,a,AL,rfl,ga,ha,Q,O,_⟩:=S.r.slot i _ z;exact⟨_,y,k _ G H S.My ⟨a,AL,rfl,S.new i _ a rfl z y,ga,ha,Q,O⟩⟩
 .contradiction)
def L6(i:Nat)(g:AF)(f:EF):SF:=λρ=>match f ρ,ρ[i]?,g ρ with
 |some r,some<|some<|.EG t ks xs,some rs=>(match r.clean,KO rs with|some p,some k=>if ks.length<1000000/\k.length<=1000 then some (.nx<|ρ.set i<|some<|.EG t (GP ks k)<|Ie ks xs k p)else none|_,_=>none)
 |_,_,_=>none
theorem ABq(i:Nat){x:Str}{p sp q:Pos}{x1}(R:X.A.units+1<cLine)(B:CY X es g)(he:PX X e f)(T:X.N[i]? = some x)(C:Ez X.env.scope x)(hd:(x==("__debug__"))=false) (E:(x==("__classdict__"))=false) (hs:swapsWith e (some<|.Subscript (.Name x p) (.Tuple es x1 q) sp) pos.line X.env=pure false) : CQ X AR AO (.Assign [.Subscript (.Name x p) (.Tuple es x1 q) sp] e pos)<|L6 i g f:=PS.imp (AAa R (Hr T C hd E) (XZ B) he hs) (by
 rintro D σ H ⟨G,ρ,o,S,e,ok⟩;unfold L6 at e;split at e
 .rename_i r t0 ks xs rs I Z n;split at e
  .rename_i p k h ek;split at e
   .rename_i hz;cases e;refine⟨G,ρ,r,S.r,I,λv G1 H1 s1 rv=>?_⟩;have y:=S.step s1.all;obtain⟨w,Y,b,AL,rfl,g,Q,O,rl,ME⟩:=y.r.slot i _ Z;refine⟨_,Y,Eg G1 H H1,ρ,_,y.r,n,λvs G2 H2 s2 Xn=>?_⟩;have P:=Xl ek Xn;refine⟨small (by rw[P,AFs];exact hz.2),λt ht=>?_⟩;have s3:=Aq.new s2.sub (.tup vs) ht;have z:=s2.trans s3;have hl:=by have:=AG5 List.length O;simpa using this
    have rp:=Rep.same z.gg<|rv.clean s1.sub h;obtain⟨h1,h2⟩:=qj O (AW.same z.gg rl) rp;refine⟨b,_,rfl,.inr ⟨AL,Cd k,t,z.hh _ _ Q,rfl,by rw[DE,gm,P],AIg (AJ1 hl)<|AJ3 hz.1 AFp,rfl⟩,?_⟩;have F:=z.ex b (.d Q) g;exact ok _ _ _ (s1.all.gg.trans z.gg)<|(y.step z).chg rfl Z Y F ⟨b,_,rfl,F,DE,h1,h2,ME⟩
   .contradiction
  .contradiction
 .contradiction)
theorem rW(l:Addr)(its:Array Value)(n:Nat)(b:Addr)(o:Obj)(z:Array Value)(q:Nat)(hc:o.cls=.type "list"\/o.cls=.type "tuple")(hd:o.data=.seq z q)(h0:¬(!its.isEmpty&&Builtin.List.listTooLong (its.size+z.size))=true)(v:its.size<=sizeLine)(p:its.size+z.size<=sizeLine+1) : Meets (Builtin.«list.extend» ⟨[.ref l,.ref b],[]⟩) (λ_ R s=>s.heap.get? l=some {cls:=.type "list",dict:=none,data:=.seq its n,slots:=#[]}/\s.heap.get? b=some o/\R (.ok<|.ret Value.none) {s with heap:=s.heap.update l<|Obj.mapSeq λx=>x++z,toks:=s.toks}):=
 .of_wp λprog w A R s h=>by
  obtain⟨hp,g,d,tk,os⟩:=s;obtain⟨y,Z,h⟩:=h;obtain⟨c,dc,dt,sl⟩:=o;cases hd;have f2:=AutoSeq1.sub_tuple_tuple;have f3:=AutoSeq1.sub_list_list;have f4:=AutoSeq1.sub_tuple_list;have f5:=AutoSeq1.sub_list_tuple;have Y:(its++z).size<=sizeLine+1:=by rw[Array.size_append];exact p
  rcases hc with hc|hc<;>cases hc<;>wp_walk using(wpAny_updateSeq y rfl (hz:=v) (_hz':=Y)),AutoSeq1.wpAny_loadPart' y,AutoSeq1.wpAny_loadPart' Z<;>exact⟨_,rfl,h⟩
def ACc(K:W.Frag):V->List V->Hp->VK->Prop:=λx vs H Q=>∃l b xs zs,x=.ref l/\vs=[.ref b]/\H l=some (.lst xs)/\(Rd H b (.lst zs)\/Bi K H b zs)/\xs.length+zs.length<=sizeLine/\Q .Au (upd H l<|.lst<|xs++zs)
theorem xo:Lg X "list.extend"<|ACc X.K:=by
 intro AB s σ H x vs v us Q I D rv h;obtain⟨l,b,xs,zs,rfl,rfl,P,Y,hz,q⟩:=h;cases D;obtain⟨u,rfl,R⟩:=rv.one;cases R;obtain⟨z,its,n,r,hl,e⟩:=I.Wy P;obtain⟨y,p,o,Z,O,hc,hd⟩:∃y p o,Ao zs y/\s.heap.get? b=some o/\(o.cls=.type "list"\/o.cls=.type "tuple")/\o.data=.seq y.toArray p:=by
  rcases Y with Y|Y
  .obtain⟨_,y,p,Z,O⟩:=Y.ok I.AZ;exact⟨y,p,_,Z,O,.inl rfl,rfl⟩
  .obtain⟨y,Z,⟨o,O,hc,p,hd⟩,_⟩:=I.tuple Y;exact⟨y,p,o,Z,O,.inr hc,hd⟩
 have K4:=Z.length;have hsz:its.toArray.size+y.toArray.size<=sizeLine:=by rw[AF9,AF9];lia
 have B:¬ (!its.toArray.isEmpty&&Builtin.List.listTooLong (its.toArray.size+y.toArray.size))=true:=by rw[yF hsz,AI9];exact AHO
 refine call_meets F.slot_list_extend ⟨_,e,rfl⟩ F.entry_list_extend (F.args_list_extend_2 _ _) (rW l its.toArray n b o y.toArray p hc hd B (by rw[AF9];clear hz;lia) U) ⟨e,O,?_⟩
 refine⟨.Au,_,I.Wx P e AFn (r.append Z) ?_,rfl,q⟩;rw[AGA];omega
noncomputable def MM(ps qs:List PV):Option<|List PV:=match qs with|[.lst zs]|[.tup zs]=>if ps.length+zs.length<=1000 then some (ps++zs)else none|_=>none
theorem ABs(i:Nat){x:Str}{p q z:Pos}(ha:CY X (e::es) ga)(B:X.N[i]? = some x)(T:Ez X.env.scope x)(hd:(x==("__debug__"))=false) (C:(x==("__classdict__"))=false) (E:attributeBase (.Name x p) "extend" X.env (eval (.Name x p) X.env)=eval (.Name x p) X.env) (I:((backTo z<|starEach (e::es) X.env).all (λx=>!x.1)&&(backToKw z<|keywordEach [] X.env).all (λx=>x.1.isSome)
  && decide ((e::es).length+([]:List Keyword).length+(if([]:List Keyword).isEmpty then 0 else 1)<30))=true)
 (n:(q.endLine==z.line)=true) (hs:starEach (e::es) X.env=(false,eval e X.env)::starEach es X.env) (t:(backTo z<|starEach es X.env).any (·.1)=false)
 (h:swapsWith (.Call (.Attribute (.Name x p) "extend" q) (e::es) [] z) none pos.line X.env=pure false) :
 CQ X AR AO (.Expr (.Call (.Attribute (.Name x p) "extend" q) (e::es) [] z) pos) (Cr i MM ga):=
 PS.imp (Sh (PD AHa PySem.F.slot_list_extend PySem.F.type_list_extend xo (Hr B T hd C) ha E I n hs t) h) (by
 rintro D σ H ⟨G,ρ,o,S,e,ok⟩;unfold Cr at e;split at e
 .rename_i ps rs Y ea;split at e
  .rename_i qs ec;split at e
   .rename_i Er y;cases e;obtain⟨v,Q,a,vs,rfl,g,ha,rl⟩:=S.r.slot i _ Y;refine⟨_,Q,.inl ⟨rfl,vs,.inl<|.inl ha⟩,G,ρ,rs,S.r,ea,λus G1 H1 s1 rv=>?_⟩;have S1:=S.step s1.all;have rq:=Kg s1.sub rv ec;have O:=AW.same s1.all.gg rl;unfold MM at y;split at y
    iterate 2
     split at y
     .cases y;obtain⟨w,r,rfl,Z,rn⟩:=rq;subst rn;obtain⟨b,ws,rfl,P,R⟩:=Z;have l1:=O.len;have l2:=R.len;refine⟨a,b,vs,ws,rfl,rfl,s1.hh _ _ ha,by first|exact .inl (Rd.same s1.all.sub P)|exact .inr<|Bi.same s1.all.sub P,small U,?_⟩;exact ok _ _ _ s1.all.gg<|S1.change Y Q (s1.all.ex a (.l ha) g)<|AW.of<|Mi O.paired R.paired
     .contradiction
    .contradiction
   .contradiction
  .contradiction
 .contradiction)
end
section
variable{AR AO:Hp}
end
section
variable{X:Cx}{pos:Pos}{AR AO:Hp}{f:Addr}{fd:FuncData}{ps:List Str}{k:Nat}{rec:Rec}
end
section
variable{X:Cx}{a:Expr}{es:List Expr}{f:EF}{g:AF}{pos:Pos}
end
theorem lI{k:Nat}{A:Around}(r:B7 k A):A.units+1<cLine:=by have:=r.un;lia
open Classical in
section
variable{X:Cx}{e:Expr}{es:List Expr}{g:AF}{pos:Pos}
end
section
set_option tactic.hygienic true
variable{X:Cx}{AR AO:Hp}
theorem PS.Gk{st:Stmt}{t:TS}(h:PS X.Gk st t):PS X st t:=λAB s σ H D I y=>
 wpAny_mono (h AB s σ H D (I.G0 _) y) (λ_ _ q=>q.JO) λ_ _ z=>False.elim z
theorem ACQ{E:XK}{st:Stmt}{g:SF}(h:CQ X.Gk AR AO st g):HH X E AR AO st<|yL g:=jh<|PS.Gk h
end
noncomputable def MR(ps:List Str)(q:List Pos):Arguments:=⟨[],(ps.zip q).map λx=>⟨x.1,none,x.2⟩,none,[],[],none,[]⟩
theorem mJ{α β:Type}:∀(a:List α)(b:List β),b.length=a.length->(a.zip b).map (·.1)=a
 |[],_,_=>rfl
 |x::a,y::b,h=>by simp only[AJE,AF6];rw[mJ a b<|by simpa using h]
theorem dj{α β:Type}{f g:α->Option β}:∀l:List α,(∀x∈l,f x=g x)->l.filterMap f=l.filterMap g
 |[],_=>rfl
 |x::l,h=>by simp only[AH6,AH6,h x<|.head _,dj l λy z=>h y<|.tail _ z]
theorem g9{α:Type}:∀(ps:List Str)(us:List α),us.length=ps.length->ps.Nodup->ps.filterMap (λn=>((ps.zip us).lookup n).map λx=>(n,x))=ps.zip us
 |[],_,_,_=>rfl
 |p::ps,u::us,h,nd=>by
  rw[AHL]at nd;have z:=g9 ps us (by simpa using h) nd.2;rw[AJE,AJQ (b:=(p,u))<|by simp[AHQ]]
  congr 1
  refine(dj _ λn hn=>?_).trans z;simp only[AHQ];split
  .rename_i e;exact absurd (eq_of_beq e ▸ hn) nd.1
  .rfl
theorem g8{α:Type}:∀(ps:List Str)(us:List α),us.length=ps.length->∀n∈ps,((ps.zip us).lookup n).isNone=false
 |p::ps,u::us,h,n,hn=>by
  simp only[AJE,AHQ];split
  .rfl
  .rename_i e;refine g8 ps us (by simpa using h) n ?_;rcases AF4.1 hn with rfl|hn
   .simp at e
   .exact hn
theorem oB(nm:Str)(ps:List Str)(q:List Pos)(b:List Stmt)(sc:Scope)(kV doc pm:Value)(an:Option Addr)(As ct:Value)(us:List Value)(y:q.length=ps.length)(z:us.length=ps.length)(nd:ps.Nodup):bindArgs (W.fnOf nm nm (MR ps q) b sc .none kV doc pm an As ct) ⟨us,[]⟩=pure (ps.zip us):=by
 have v:((MR ps q).args.map λx=>x.arg)=ps:=by unfold MR;simp only[AGU];exact(AHk λ_ _=>rfl).trans (mJ ps q y)
 have hs:seqItems? Value.none=pure none:=rfl;have p:ps.filter (λn=>((ps.zip us).lookup n).isNone)=[]:=AIv.2 λn hn=>by rw[g8 ps us z n hn];simp
 delta bindArgs W.fnOf
 dsimp only;rw[v];unfold MR;simp[hs,p,z,g9 ps us z nd]
structure FS(N P:List Str)(st:Stmt):Prop where
 sc:IG N P<|BR st
 qs:∃q:List Pos,q.length=P.length/\IZ st=MR P q
section
variable{N ps:List Str}{st:Stmt}{f:Addr}{fd:FuncData}{x:Str}{k:Nat}{g:SF}{y:YF}{P:Program}{w:World}{K:W.Frag}{mg:Str->Option Value}{base h:Heap}
theorem FS.nd(S:FS N ps st):N.Nodup:=S.sc.nd
theorem PY(h:(BR st).kind=.function/\(BR st).isCoroutine=false/\(BR st).isGenerator=false/\N.Nodup/\N.take ps.length=ps/\(∀x∈ps,(BR st).names.lookup x=some .local\/(BR st).names.lookup x=some .cell)/\∀y∈(BR st).names,y.2≠.free)(q:∃q:List Pos,q.length=ps.length/\IZ st=MR ps q):FS N ps st:=
 ⟨⟨h.1,h.2.1,h.2.2.1,h.2.2.2.1,h.2.2.2.2.1,h.2.2.2.2.2.1,h.2.2.2.2.2.2⟩,q⟩
theorem FS.bs(S:FS N ps st)(kV doc pm:Value)(an:Option Addr)(As ct:Value)(us:List Value)(z:us.length=ps.length) : bindArgs (W.fnOf x x (IZ st) (EN st) (BR st) .none kV doc pm an As ct) ⟨us,[]⟩=pure (ps.zip us):=by obtain⟨q,v,p⟩:=S.qs;rw[p];exact oB x ps q _ _ kV doc pm an As ct us v z<|S.sc.pre ▸ S.nd.sublist (AJJ _ _)
def FM(K:W.Frag)(mg:Str->Option Value)(x:Str)(st:Stmt):Prop:=∃f fd,Ex K x x st f fd/\mg x=some (.ref f)
def dR(K:W.Frag)(x:Str)(st:Stmt):Prop:=∃(f:Addr)(oc:Value)(od:Option Addr)(kV doc pm:Value)(an:Option Addr)(As ct:Value)(sl:Array<|Option Value),W.nsIn K mainGlobals x=some (some<|.ref f)/\K.lookup f=some ⟨oc,od,.func<|W.fnOf x x (IZ st) (EN st) (BR st) .none kV doc pm an As ct,sl⟩/\W.codeIn K As x=true/\W.keepIn K (.ref f)=true
theorem dmk{oc:Value}{od:Option Addr}{kV doc pm:Value}{an:Option Addr}{As ct:Value}{sl:Array (Option Value)}(a:W.nsIn K mainGlobals x=some (some<|.ref f))(l:K.lookup f=some ⟨oc,od,.func<|W.fnOf x x (IZ st) (EN st) (BR st) .none kV doc pm an As ct,sl⟩)(c:W.codeIn K As x=true)(k:W.keepIn K (.ref f)=true):dR K x st:=⟨_,_,_,_,_,_,_,_,_,_,a,l,c,k⟩
theorem Q1(X:K.In h)(G:h.Ns mainGlobals mg)(d:dR K x st):FM K mg x st:=by obtain⟨f,oc,od,kV,doc,pm,an,As,ct,sl,a,l,c,k⟩:=d;exact⟨f,_,sM l c k,W.mg_of X G a⟩
def bR(K:W.Frag):List Str->Prop
 |[]=>True
 |x::l=>W.nsIn K mainGlobals x=some none/\bR K l
def bM(mg:Str->Option Value):List Str->Prop
 |[]=>True
 |x::l=>mg x=none/\bM mg l
theorem ZA(X:K.In h)(G:h.Ns mainGlobals mg):∀{l:List Str},bR K l->bM mg l
 |[],_=>trivial
 |_::_,z=>⟨W.mg_none_of X G z.1,ZA X G z.2⟩
theorem Ex.bt(F:Ex K x x st f fd)(S:FS N ps st)(s:Shared)(us:List Value)(z:us.length=ps.length):BindsTo s fd ⟨us,[]⟩<|ps.zip us:=by obtain⟨oc,od,kV,doc,pm,an,As,ct,Gp,rfl,lk,BO⟩:=F.ex;exact .of_eq<|S.bs _ _ _ _ _ _ us z
theorem gL(F:Ex K x x st f fd)(S:FS N ps st) (q:∀{As:Value}{A:Around}{outer:List Env}{s:Shared}{H:Hp}{E:XK}{AR AO:Hp},let B:=A.deeper<|envOfC x (BR st) s.heap.objs.size f As;B7 k B->B.units+64<cLine->B.units+1<cLine->B.units+66<cLine->true=true->D5 (GN EJ P w K mg base N x (BR st) f As A outer s H E).Gk AR AO (EN st) g) : Cw P w K mg base EJ (k+1) f fd ps<|Mw K ps.length<|denote N.length ps.length g:=sG F S.sc λ_ _ _ _ _ _ _ _ z=>q z z.units (lI z) (lJ z) rfl
theorem gG(F:FM K mg x st)(S:FS N ps st) (z:∀{f:Addr}{As:Value}{A:Around}{outer:List Env}{s:Shared}{H:Hp}{E:XK}{AR AO:Hp},let B:=A.deeper<|envOfC x (BR st) s.heap.objs.size f As;B7 k B->B.units+64<cLine->B.units+1<cLine->B.units+66<cLine->true=true->D5 (GN EJ P w K mg base N x (BR st) f As A outer s H E).Gk AR AO (EN st) g) : BD P w K mg base x (k+1) ps.length<|denote N.length ps.length g:=by obtain⟨f,fd,F,hm⟩:=F;exact⟨f,fd,ps,gL F S z,hm,F.kp,F.binds S.bs,rfl⟩
theorem gY(F:FM K mg x st)(S:FS N ps st) (q:∀{f:Addr}{As:Value}{A:Around}{outer:List Env}{s:Shared}{H:Hp}{E:XK}{AR AO:Hp},let B:=A.deeper<|envOfC x (BR st) s.heap.objs.size f As;B7 k B->B.units+64<cLine->B.units+1<cLine->B.units+66<cLine->true=true->HI (Np P w K mg base N x (BR st) f As A outer s H E) E AR AO (EN st) y) : IH P w K mg base x (k+1) ps.length (Fz N.length ps.length y)<|Jc N.length ps.length y:=by obtain⟨f,fd,F,hm⟩:=F;exact⟨f,fd,ps,sD F S.sc λ_ _ _ _ _ _ _ _ z=>q z z.units (lI z) (lJ z) rfl,hm,F.kp,F.binds S.bs,rfl⟩
theorem gW{z:Str}(F:FM K mg x st)(S:FS N [z] st) (v:∀{f:Addr}{As:Value}{A:Around}{outer:List Env}{s:Shared}{H AR AO:Hp},let B:=A.deeper<|envOfC x (BR st) s.heap.objs.size f As;EL k B->B.units+64<cLine->true=true->D5 (QY P w K mg base N x (BR st) f As A outer s H) AR AO (EN st) g) : QG P w K mg base x (k+1)<|Qd N.length g:=by obtain⟨f,fd,F,hm⟩:=F;exact⟨f,fd,[z],sC F S.sc λ_ _ _ _ _ _ _ q=>v q q.units rfl,hm,F.kp,F.binds S.bs⟩
end
section
variable{X:Cx}{a b c d:Expr}{p q r s:EF}
theorem zY(ha:PX X a p)(z:starEach [a] X.env=(false,eval a X.env)::starEach [] X.env):CY X [a]<|AG p AN:=PN ha Xe z
theorem jJ(ha:PX X a p)(z:PX X b q)(y:starEach [a,b] X.env=(false,eval a X.env)::starEach [b] X.env:=by rfl)(v:starEach [b] X.env=(false,eval b X.env)::starEach [] X.env:=by rfl):CY X [a,b]<|AG p<|AG q AN:=PN ha (PN z Xe v) y
theorem zZ(ha:PX X a p)(z:PX X b q)(hc:PX X c r)(y:starEach [a,b,c] X.env=(false,eval a X.env)::starEach [b,c] X.env)(v:starEach [b,c] X.env=(false,eval b X.env)::starEach [c] X.env)(h3:starEach [c] X.env=(false,eval c X.env)::starEach [] X.env):CY X [a,b,c]<|AG p<|AG q<|AG r AN:=PN ha (jJ z hc v h3) y
theorem Wo:∀ρ rs,AG p AN ρ=some rs->rs.length=1:=Qw rY
theorem ln2:∀ρ rs,AG p (AG q AN) ρ=some rs->rs.length=2:=Qw Wo
theorem Wq:∀ρ rs,AG p (AG q<|AG r AN) ρ=some rs->rs.length=3:=Qw ln2
theorem h9:∀ρ rs,AG p (AG q<|AG r<|AG s AN) ρ=some rs->rs.length=4:=Qw Wq
end
end L2.PL
namespace TL
open PySem PySem.Spec PyProof.Rows PySem.SeqAt
open PySem.AutoSeq1 (wpAny_loadPart')
section
variable{prog:Program}{w:World}{A:Around}{s:Shared}{Q E:Value->Shared->Prop}{a b:Int}{t u:Tok}
theorem jw(h:Q (.bool<|decide (a<b)) s):wpAny (model prog w) A (richCompare .Lt (.int a t)<|.int b u) Q E s:=lt_int h
end
theorem AEJ(l b:Addr)(p q u v:Int)(Z Y Q O:Tok)(n P:Nat)(dd D:Option Addr)(sl y:Array<|Option Value) : Meets (Builtin.«tuple.__lt__» ⟨[.ref l,.ref b],[]⟩)
  (λ_ R s=>s.heap.get? l=some {cls:=.type "tuple",dict:=dd,data:=.seq #[.int p Z,.int q Y] n,slots:=sl}/\s.heap.get? b=some {cls:=.type "tuple",dict:=D,data:=.seq #[.int u Q,.int v O] P,slots:=y}/\
   R (.ok<|.ret<|.bool<|decide (p<u\/(p=u/\q<v))) s):=
 .of_wp λprog w A R s h=>by
  obtain⟨F,B,h⟩:=h;have f2:=AutoSeq1.sub_tuple_tuple
  wp_walk using wpAny_loadPart' F,wpAny_loadPart' B
  refine EqAt.int_int p Z u Q prog w _ _ ?_;cases c:(p==u)with
  |false=>
   have z:=by simpa using c
   wp_walk using jw
   exact⟨_,rfl,by rw[show decide (p<u)=decide (p<u\/p=u/\q<v)by simp[z]];exact h⟩
  |true=>
   have z:=by simpa using c
   wp_walk
   refine EqAt.int_int q Y v O prog w _ _ ?_;cases e:(q==v)with
   |false=>
    wp_walk using jw
    exact⟨_,rfl,by rw[show decide (q<v)=decide (p<u\/p=u/\q<v)by simp[z]];exact h⟩
   |true=>
    have G:=by simpa using e
    wp_walk
    exact⟨_,rfl,by simpa[Builtin.Tuple.tupleCompareSizes,z,G]using h⟩
end TL
namespace L2.PL
open PySem PySem.Spec PyProof.Rows
section
variable{X:Cx}{a:Expr}{fa:EF}{pos:Pos}
theorem ABJ{p y:Pos}(hm:X.mg "isinstance" = none)(q:X.mg "list" = none)(ha:PX X a fa)(v:Gl X "isinstance")(Z:Gl X "list") (he:starEach [a,.Name "list" y] X.env=(false,eval a X.env)::starEach [.Name "list" y] X.env) (Y:starEach [.Name "list" y] X.env=(false,eval (.Name "list" y) X.env)::starEach [] X.env) (Q:(backTo pos<|starEach [.Name "list" y] X.env).any (·.1)=false) : PX X (.Call (.Name "isinstance" p) [a,.Name "list" y] [] pos)<|Ik "list" fa:=
 Xd (λz=>absurd z AFp) (λz=>absurd z AFp) (λz=>absurd z AFp) (λ_=>rfl) hm q ZE ha v Z AFp AFp he Y Q
noncomputable def isTup:PV->Option Bool
 |.tup _=>some true
 |_=>none
def Qx(f:EF):EF:=λρ=>match f ρ with|some r=>(isTup r.any).map λb=>.cl (.bl b)|none=>none
theorem oV:C4 X (.builtin "isinstance") (λxs H Q=>∃x p k,xs=[x,.ty "tuple"]/\Rep X.K H p x/\isTup p=some k/\Q (.bl k) H):=by
 rintro AB s σ H xs us Q I r ⟨x,p,k,v,hp,y,q⟩;subst v;obtain⟨u,Z,rfl,Y,O⟩:=vals2 r;obtain rfl:Z=Value.type "tuple":=O;unfold isTup at y;split at y
 .cases y;obtain⟨a,vs,rfl,P,_⟩:=hp;cases (show u=Value.ref a from Y);obtain⟨its,_,⟨o,D,F,_⟩,_⟩:=I.tuple P;exact W.kia_one W.kitx_tuple I.BS ⟨o,D,F⟩ (show W.kitOne X.K (.type "tuple") (.type "tuple")=some true from rfl) (λz=>nomatch z) λtk=>⟨.bl true,H,I.tok _,rfl,q⟩
 .contradiction
set_option tactic.hygienic true
theorem ABK{p z:Pos}(hm:X.mg "isinstance" = none)(Y:X.mg "tuple" = none)(ha:PX X a fa)(O:Gl X "isinstance")(P:Gl X "tuple") (he:starEach [a,.Name "tuple" z] X.env=(false,eval a X.env)::starEach [.Name "tuple" z] X.env) (D:starEach [.Name "tuple" z] X.env=(false,eval (.Name "tuple" z) X.env)::starEach [] X.env) (F:(backTo pos<|starEach [.Name "tuple" z] X.env).any (·.1)=false) : PX X (.Call (.Name "isinstance" p) [a,.Name "tuple" z] [] pos)<|Qx fa:=by
 refine PE.imp (PF oV O hm Uh (FN ha (FN (XW (v:=.ty "tuple") P Y oM rfl AFp AFp) Gq D) he) AFp AFp he F) ?_;rintro σ H Q ⟨G,ρ,r,R,e,q⟩;unfold Qx at e;split at e
 .rename_i y B;cases Z:isTup y.any with
  |none=>rw[Z]at e;contradiction
  |some k=>
   rw[Z]at e;cases e;refine⟨G,ρ,y,R,B,λv G' H' s rv=>?_⟩;exact⟨v,y.any,k,rfl,rv.any s.sub,Z,q _ G' H' s<|by rfl⟩
 .contradiction
end
def jt(c:Int->Int->Int->Int->Bool)(K:W.Frag):R2:=λx y H Q=>∃p q u v a b,x=.ref a/\y=.ref b/\Bi K H a [.int p,.int q]/\Bi K H b [.int u,.int v]/\Q (.bl<|c p q u v) H
noncomputable def IU(p q u v:Int):Bool:=decide (p<u\/(p=u/\q<v))
noncomputable def MO(c:Int->Int->Int->Int->Bool):RV->RV->Option RV
 |.cl (.tup [.int p,.int q]),.cl (.tup [.int u,.int v])=>some<|.cl<|.bl<|c p q u v
 |_,_=>none
section
variable{X:Cx}
theorem XT{p q:Int}{us:List Value}(h:Ao [.int p,.int q] us):∃t t',us=[.int p t,.int q t']:=by
 cases h with
 |cons a h=>cases h with
  |cons b h=>cases h;obtain⟨t,rfl⟩:=a;obtain⟨t',rfl⟩:=b;exact⟨t,t',rfl⟩
theorem yv(P:X.A.units+1<cLine):Be X (compareOp .Lt)<|jt IU X.K:=by rintro AB s σ H x y v u Q I D R ⟨p,q,u',v',a,b,B,G,ha,S,k⟩;subst B;subst G;cases (show v=Value.ref a from D);cases (show u=Value.ref b from R);obtain⟨i1,T,⟨⟨c1,d1,t1,s1⟩,z,k1,n1,Z⟩,_⟩:=I.tuple ha;obtain⟨i2,C,⟨⟨c2,d2,t2,s2⟩,Y,k2,n2,O⟩,_⟩:=I.tuple S;obtain⟨_,_,rfl⟩:=XT T;obtain⟨_,_,rfl⟩:=XT C;simp only at k1 Z k2 O;subst k1 Z k2 O;exact richCompare_meets_room (op:=.Lt) ⟨_,z,rfl⟩ ⟨_,Y,rfl⟩ F.slot_tuple_lt F.entry_tuple_lt (F.args_tuple_lt_2 _ _) (TL.AEJ _ _ _ _ _ _ _ _ _ _ _ _ _ _ _ _) ⟨z,Y,show Value.bool _≠Value.notImplemented/\_ from⟨(λx=>nomatch x),⟨.bl _,H,I,rfl,k⟩⟩⟩<|LL P
theorem XU{K:W.Frag}{G:Hp}{p q:Int}{v:V}(h:Rep K G (.tup [.int p,.int q]) v):∃a,v=.ref a/\Bi K G a [.int p,.int q]:=by obtain⟨a,vs,rfl,z,y⟩:=h;refine⟨a,rfl,?_⟩;have:=Iv (ns:=[p,q]) rfl y;rw[this]at z;exact z
set_option tactic.hygienic true
theorem yf{K:W.Frag}{c:Int->Int->Int->Int->Bool}:Dg K (MO c)<|jt c K:=by
 intro x y z H0 G H vx vy Q sub sh e Z Y q;unfold MO at e;split at e
 .rename_i p O u v;cases e;obtain⟨a,rfl,ha⟩:=XU<|Z.any sub;obtain⟨b,rfl,P⟩:=XU<|Y.any sub;exact⟨p,O,u,v,a,b,rfl,rfl,ha,P,q _ G H (Aq.refl sub)<|by rfl⟩
 .contradiction
theorem pN(z:X.A.units+1<cLine):Ck X .Lt<|MO IU:=⟨_,yv z,yf⟩
end
set_option tactic.hygienic true
noncomputable def GC(t:BF)(g:SF):Nat->AS->Option Out
 |0,_=>none
 |n+1,ρ=>match t ρ with
  |some true=>(match g ρ with
   |some (.nx Bc)=>GC t g n Bc
   |some (.ct Bc)=>GC t g n Bc
   |some (.bk Bc)=>some<|.nx Bc
   |some (.rt r)=>some<|.rt r
   |none=>none)
  |some false=>some<|.nx ρ
  |none=>none
def Kv(t:BF)(g:SF):SF:=λρ=>GC t g 1000 ρ
section
variable{X:Cx}{AR AO:Hp}{c:Expr}{body:List Stmt}{t:BF}{g:SF}{pos:Pos}
theorem AB9(hp:PassesOwn (model X.prog X.w) X.A X.env X.xe)(hc:DT X c t)(n:D5 X AR AO body g):CQ X AR AO (.While c body [] pos)<|Kv t g:=PS.imp (AAh hp hc n) (by
 rintro D σ H ⟨G,ρ,o,S,e,ok⟩;refine⟨λm O H'=>∃G' ρ',SR X.K AR AO G' H' ρ' O/\Ai G G'/\GC t g m ρ'=some o,⟨1000,G,ρ,S,Ai.refl _,e⟩,?_⟩;rintro m O H' ⟨G',ρ',y,p,z⟩;cases m with
 |zero=>contradiction
 |succ m=>
  unfold GC at z;split at z
  .rename_i P;refine⟨G',ρ',true,y.r,P,λv B s1=>?_⟩;refine⟨λT C=>∃E I,SR X.K AR AO E C I T/\Ai G E/\GC t g m I=some o,λT C b=>⟨m,EU,b⟩,?_⟩;split at z
   .rename_i Q q;exact⟨v,ρ',_,y.step s1,q,λF Z R s2 Y=>⟨Z,Q,Y,(p.trans s1.gg).trans s2,z⟩⟩
   .rename_i Q q;exact⟨v,ρ',_,y.step s1,q,λF Z R s2 Y=>⟨Z,Q,Y,(p.trans s1.gg).trans s2,z⟩⟩
   .rename_i Q q;cases z;exact⟨v,ρ',_,y.step s1,q,λF Z R s2 Y=>ok F Z R ((p.trans s1.gg).trans s2) Y⟩
   .rename_i r q;cases z;exact⟨v,ρ',_,y.step s1,q,Ke.mono (p.trans s1.gg) ok⟩
   .contradiction
  .rename_i P;refine⟨G',ρ',false,y.r,P,λv B s1=>?_⟩;refine gM ?_;cases z;exact ok O v B (p.trans s1.gg)<|y.step s1
  .contradiction)
noncomputable def Ku(i:Nat)(gt:GF):SF:=λρ=>match ρ[i]? with
 |some (some<|.own ps)=>(match ps[ps.length-1]? with
  |some p=>(match gt p (ρ.set i<|some<|.own ps.dropLast)with|some ρ'=>some (.nx ρ')|none=>none)
  |none=>none)
 |_=>none
theorem ABz{tg:Expr}{gt:GF}{x:Str}{p z Z:Pos}(i:Nat)(B:IK X tg gt)(T:X.N[i]? = some x)(C:Ez X.env.scope x)(hd:(x==("__debug__"))=false) (E:(x==("__classdict__"))=false) (I:attributeBase (.Name x p) "pop" X.env (eval (.Name x p) X.env)=eval (.Name x p) X.env) (n:(z.endLine==Z.line)=true) (hs:swapsWithSole [tg] (.Call (.Attribute (.Name x p) "pop" z) [] [] Z) pos.line X.env=pure false) (b:swappedStores [tg] (.Call (.Attribute (.Name x p) "pop" z) [] [] Z) X.env=pure none) (f:(assignEach [tg] X.env).map (·.2)=[assign tg X.env]) : CQ X AR AO (.Assign [tg] (.Call (.Attribute (.Name x p) "pop" z) [] [] Z) pos)<|Ku i gt:=
 PS.imp (AAZ (zh AHa PySem.F.slot_list_pop PySem.F.type_list_pop xr (Hr T C hd E) I n) B hs b f) (by
  rintro D σ H ⟨G,ρ,o,S,e,k⟩;unfold Ku at e;split at e
  .rename_i ps Q;split at e
   .rename_i q h;split at e
    .rename_i ρ' eg;cases e;obtain⟨v,O,a,vs,rfl,g,ha,Y⟩:=S.r.slot i _ Q;obtain⟨y,P,ry⟩:=Mj Y.paired h;rw[Y.len]at P;have DD:AW X.K G ps.dropLast vs.dropLast:=by rw[AJl,AJl,Y.len];exact AW.of<|jH _ Y.paired
     have R:=S.change Q O g DD;exact⟨_,O,.inl ⟨rfl,vs,.inl<|.inl ha⟩,a,vs,y,rfl,rfl,ha,P,G,_,q,ρ',R.r,ry,eg,λAV R' kk=>k _ _ _ (Ai.refl _)<|R.turn R' kk⟩
    .contradiction
   .contradiction
  .contradiction)
end
end L2.PL
set_option maxRecDepth 100000
namespace C5
open PySem PySem.W PyProof.Rows
noncomputable def run(lt:Nat->Nat->Bool){α:Type}:KasT α->α
 |.ret a=>a
 |.ask i j k=>run lt<|k<|lt i j
def Ok(lt:Nat->Nat->Bool)(n:Nat){α:Type}(P:α->Prop):KasT α->Prop
 |.ret a=>P a
 |.ask i j k=>i<n/\j<n/\Ok lt n P (k<|lt i j)
section
variable{lt:Nat->Nat->Bool}{n:Nat}
theorem Ok.bind{α β:Type}{P:α->Prop}{R:β->Prop}{f:α->KasT β}(z:∀a,P a->Ok lt n R (f a)):∀t:KasT α,Ok lt n P t->Ok lt n R (t.bind f)
 |.ret a,h=>z a h
 |.ask i j k,h=>⟨h.1,h.2.1,Ok.bind z (k<|lt i j) h.2.2⟩
theorem Ok.run{α:Type}{P:α->Prop}:∀t:KasT α,Ok lt n P t->P (C5.run lt t)
 |.ret _,h=>h
 |.ask i j k,h=>Ok.run (k<|lt i j) h.2.2
theorem Ok.mono{α:Type}{P R:α->Prop}(f:∀a,P a->R a):∀t:KasT α,Ok lt n P t->Ok lt n R t
 |.ret _,h=>f _ h
 |.ask i j k,h=>⟨h.1,h.2.1,Ok.mono f (k<|lt i j) h.2.2⟩
theorem Ok.wp{α:Type}{P:α->Prop}{z:Nat->Nat->(Bool->Shared->Prop)->Shared->Prop}{Q:α->Shared->Prop}{s:Shared}(hc:∀i j C,i<n->j<n->C (lt i j) s->z i j C s):∀t:KasT α,Ok lt n P t->Q (C5.run lt t) s->t.kasWp z Q s
 |.ret _,_,q=>q
 |.ask i j k,h,q=>hc i j _ h.1 h.2.1<|Ok.wp hc (k<|lt i j) h.2.2 q
noncomputable abbrev BZ(p:Array Nat)(i:Nat):Nat:=p.getD i 0
def Pm(n:Nat)(p:Array Nat):Prop:=p.Perm (List.range n).toArray
theorem Y4{p q:Array Nat}{i j:Nat}(h:p[i]? = q[j]?):BZ p i=BZ q j:=by unfold BZ;rw[AJF,AJF,h]
theorem Pm.size{p:Array Nat}(h:Pm n p):p.size=n:=by rw[Array.Perm.size_eq h];simp
theorem Pm.bd{p:Array Nat}(h:Pm n p){i:Nat}(hi:i<n):BZ p i<n:=by
 have hs:=h.size;have:BZ p i=p[i]:=by simp[BZ,Array.getD,hs,hi]
 rw[this];have m:p[i]∈p.toList:=AFn
 exact AF1.mp<|(AIV.mp h).mem_iff.mp m
theorem Pm.ne{p:Array Nat}(h:Pm n p){i j:Nat}(hi:i<n)(z:j<n)(e:i≠j):BZ p i≠BZ p j:=by
 have hs:=h.size;have nd:=(AIV.mp h).nodup_iff.mpr AJP;have a:BZ p i=p.toList[i]'(by simpa[hs]using hi):=by simp[BZ,Array.getD,hs,hi]
 have b:BZ p j=p.toList[j]'(by simpa[hs]using z):=by simp[BZ,Array.getD,hs,z]
 simp only[a,b];exact λk=>e<|(AIy nd).mp k
theorem Pm.rev{p:Array Nat}(h:Pm n p)(i j:Nat):Pm n<|kas_rev p i j:=Array.Perm.trans (mirror_perm ..) h
def Up(lt:Nat->Nat->Bool)(p:Array Nat)(k:Nat):Prop:=∀i j,i<j->j<k->lt (BZ p i) (BZ p j)=true
def Dn(lt:Nat->Nat->Bool)(p:Array Nat)(k:Nat):Prop:=∀i j,i<j->j<k->lt (BZ p j) (BZ p i)=true
structure UQ(lt:Nat->Nat->Bool)(n:Nat):Prop where
 tr:∀i j k,lt i j=true->lt j k=true->lt i k=true
 to:∀i j,i<n->j<n->i≠j->lt i j=false->lt j i=true
variable(T:UQ lt n)
include T
theorem UQ.at{p:Array Nat}(hp:Pm n p){i j:Nat}(hi:i<n)(z:j<n)(e:i≠j)(h:lt (BZ p i) (BZ p j)=false):lt (BZ p j) (BZ p i)=true:=T.to _ _ (hp.bd hi) (hp.bd z) (hp.ne hi z e) h
theorem Up.step{p:Array Nat}{k:Nat}(h:Up lt p k)(z:lt (BZ p<|k-1) (BZ p k)=true):Up lt p<|k+1:=λi j y hj=>by
 by_cases c:j<k
 .exact h i j y c
 .have e:j=k:=U
  subst e;by_cases d:i=j-1
  .rw[d];exact z
  .exact T.tr _ _ _ (h i (j-1) U U) z
theorem Dn.step{p:Array Nat}{k:Nat}(h:Dn lt p k)(z:lt (BZ p k) (BZ p<|k-1)=true):Dn lt p<|k+1:=λi j y hj=>by
 by_cases c:j<k
 .exact h i j y c
 .have e:j=k:=U
  subst e;by_cases d:i=j-1
  .rw[d];exact z
  .exact T.tr _ _ _ z<|h i (j-1) U U
theorem XE{p:Array Nat}(hp:Pm n p):∀f k,0<k->k+f<=n->Up lt p k->Ok lt n (λm=>k<=m/\m<=k+f/\Up lt p m/\(m<k+f->lt (BZ p m) (BZ p<|m-1)=true)) (kas_asc p f k)
 |0,k,_,_,h=>⟨AF5 _,AF5 _,h,λc=>absurd c (AHq _)⟩
 |f+1,k,h0,hk,h=>by
  refine⟨hp.bd U,hp.bd U,?_⟩;cases c:lt (p.getD k 0)<|p.getD (k-1) 0
  .refine Ok.mono ((by rintro m ⟨a,b,u,d⟩;exact⟨MZ a,iE b,u,λe=>d U⟩)) _<|XE hp f (k+1) iC U<|h.step T<|T.at hp U U U c
  .exact⟨AF5 _,U,h,λ_=>c⟩
theorem i7{p:Array Nat}(hp:Pm n p):∀f k,0<k->k+f<=n->Dn lt p k->Ok lt n (λr=>r.1=p/\r.2.2=0/\k<=r.2.1/\r.2.1<=k+f/\Dn lt p r.2.1) (kas_desc f p k 0)
 |0,k,_,_,h=>⟨rfl,rfl,AF5 _,AF5 _,h⟩
 |f+1,k,h0,hk,h=>by
  refine⟨hp.bd U,hp.bd U,?_⟩;cases c:lt (p.getD k 0)<|p.getD (k-1) 0
  .refine⟨hp.bd U,hp.bd U,?_⟩;rw[show lt (p.getD (k-1) 0) (p.getD k 0)=true from T.at hp U U U c];exact⟨rfl,rfl,AF5 _,Nat.le_add_right _ _,h⟩
  .exact Ok.mono ((by rintro m ⟨a,b,u,d,e⟩;exact⟨a,b,MZ u,iE d,e⟩)) _<|i7 hp f (k+1) iC U<|h.step T c
theorem yX{p:Array Nat}(hp:Pm n p){k:Nat}(v:0<k)(Z:k<=n)(h:Dn lt p k):Ok lt n (λr=>Pm n r.2/\1<=r.1/\r.1<=n/\Up lt r.2 r.1)<|kas_tail3 k n p:=by
 have y:=hp.rev 0 k;refine Ok.bind (λm (⟨a,b,u,_⟩)=>⟨y,AFo,AFo,u⟩) _<|XE T y (n-k) k v U λi j q z=>?_;have e:∀i,i<k->BZ (kas_rev p 0 k) i=BZ p (k-1-i):=λi hi=>Y4 (by unfold kas_rev;rw[getElem?_mirror_all (by rw[hp.size];exact Z),AFu ⟨AHR _,hi⟩,AIJ])
 simp only[e i<|F6 q z,e j z];exact h _ _ AFo (by clear q z;omega)
theorem yW(z:2<=n){p:Array Nat}(hp:Pm n p):Ok lt n (λr=>Pm n r.2/\1<=r.1/\r.1<=n/\Up lt r.2 r.1)<|kas_count n p:=by
 refine Ok.bind (λk (⟨a,b,u,d⟩)=>?_) _<|XE T hp (n-1) 1 Nat.zero_lt_one U λi j _ _=>AFo;split
 .exact⟨hp,a,U,u⟩
 .split
  .refine⟨hp.bd U,hp.bd (by clear z d;omega),?_⟩;rw[show lt (p.getD 0 0) (p.getD (k-1) 0)=true from u 0 (k-1) AFo AFo];exact⟨hp,a,by clear d;omega,u⟩
  .have e:k=1:=AFo
   subst e;refine Ok.bind (λr y=>?_) _<|i7 T hp (n-2) 2 U AFo λi j Bw hj=>?_
   .obtain⟨p',m,q⟩:=r;obtain⟨rfl,rfl,a,b,c⟩:=y;dsimp only at a b c ⊢;exact yX T hp U AFo c
   .have:=d U;simp only[show i=0 by lia,show j=1 by lia];exact this
theorem XG{p:Array Nat}(hp:Pm n p){k:Nat}(z:k<n):∀f l r,l<=r->r<=k->r-l<=f->(∀i,i<l->lt (BZ p i) (BZ p k)=true)->(∀i,r<=i->i<k->lt (BZ p k) (BZ p i)=true)->Up lt p k->Ok lt n (λl=>l<=k/\(∀i,i<l->lt (BZ p i) (BZ p k)=true)/\∀i,l<=i->i<k->lt (BZ p k) (BZ p i)=true) (kas_place p k f l r)
 |0,l,r,h1,h2,h3,a,b,_=>⟨U,a,λi hi=>b i U⟩
 |f+1,l,r,h1,h2,h3,a,b,u=>by
  unfold kas_place;split
  .exact⟨AFm,a,λi hi=>b i U⟩
  .refine⟨hp.bd z,hp.bd U,?_⟩;cases c:lt (p.getD k 0) (p.getD ((l+r) / 2) 0)
   .refine XG hp z f _ r U h2 AFo (λi hi=>?_) b u;have m:=T.at hp z U U c;by_cases e:i=(l+r) / 2
    .rw[e];exact m
    .exact T.tr _ _ _ (u i _ U U) m
   .refine XG hp z f l _ U U (by clear z h2;omega) a (λi hi y=>?_) u;by_cases e:i=(l+r) / 2
    .rw[e];exact c
    .exact T.tr _ _ _ c<|u _ i U y
theorem i6:∀f (p:Array Nat) k,Pm n p->k+f=n->Up lt p k->Ok lt n (λp=>Pm n p/\Up lt p n) (kas_bin f p k)
 |0,_,_,h,e,u=>⟨h,by rw[<-e];exact u⟩
 |f+1,p,k,h,e,u=>by
  refine Ok.bind (λl (⟨hl,a,b⟩)=>i6 f _ _ (Array.Perm.trans (bubble_perm ..) h) (by subst e;lia) λi j q hj=>?_) _ (XG T h (by subst e;lia) k 0 k Rx U U (λi hi=>U) (λi _ _=>AFm) u);have g:∀i,BZ (bubble p k<|k-l) i=BZ p (if i=l then k else if l<i/\i<=k then i-1 else i):=λi=>Y4 (by
   rw[getElem?_bubble (by rw[h.size];lia) _ (by clear q;lia),show k-(k-l)=l by clear e;omega];split
   .rfl
   .split<;>rfl)
  simp only[g,g];by_cases z:i=l
  .rw[AFu z,AF0 U];exact b _ (by split<;>lia) U
  .rw[AF0 z];by_cases y:j=l
   .rw[AFu y,AF0 U];exact a _ U
   .rw[AF0 y];refine u _ _ ?_ ?_<;>(repeat' split)<;>lia
theorem XH(z:2<=n):Ok lt n (λp=>Pm n p/\Up lt p n)<|kas_sort n:=
 Ok.bind (λr (⟨hp,a,b,u⟩)=>by
  split
  .rw[show max r.1 1=r.1 by lia];exact i6 T _ _ _ hp U u
  .exact⟨hp,by exact(U:r.1=n) ▸ u⟩) _ (yW T z<|Array.Perm.refl _)
end
open PySem PySem.W PyProof.Rows PySem.SeqAt
inductive PA(h:Heap):List Value->List (Int×Int)->Prop
 |nil:PA h [] []
 |cons {a:Addr} {o:Obj} {t t':Tok} {n:Nat} {p:Int×Int} {vs:List Value} {ps:List (Int×Int)} (ho:h.get? a=some o) (hc:o.cls=.type "tuple") (hd:o.data=.seq #[.int p.1 t,.int p.2 t'] n) (r:PA h vs ps):PA h (.ref a::vs) (p::ps)
theorem PA.len{h:Heap}:∀{vs:List Value}{ps:List (Int×Int)},PA h vs ps->vs.length=ps.length:=by
 intro vs ps h
 induction h with
 |nil=>rfl
 |cons _ _ _ r ih=>rw[AGC,AGC,ih]
theorem PA.at{h:Heap}:∀{vs:List Value}{ps:List (Int×Int)}{i:Nat},PA h vs ps->i<ps.length->∃a o t t' n,vs.getD i Value.none=.ref a/\h.get? a=some o/\o.data=.seq #[.int (ps.getD i (0,0)).1 t,.int (ps.getD i (0,0)).2 t'] n:=by
 intro vs ps i h
 induction h generalizing i with
 |nil=>intro hi;contradiction
 |cons ho hc hd r ih=>
  intro hi;cases i with
  |zero=>exact⟨_,_,_,_,_,rfl,ho,hd⟩
  |succ i=>exact ih<|Nat.lt_of_succ_lt_succ hi
theorem PA.kept{h h':Heap}{a:Addr}(k:∀b o,b≠a->h.get? b=some o->h'.get? b=some o):∀{vs:List Value}{ps:List (Int×Int)},(∀v∈vs,v≠.ref a)->PA h vs ps->PA h' vs ps:=by
 intro vs ps hn h
 induction h with
 |nil=>exact .nil
 |cons ho hc hd r ih=>exact .cons (k _ _ (λe=>hn _ (.head _)<|by rw[e]) ho) hc hd<|ih λv z=>hn v<|.tail _ z
theorem PA.Dy{h:Heap}:∀{vs:List Value}{ps:List (Int×Int)},PA h vs ps->∃fs,KatTups h vs fs/\fs.length=ps.length/\∀v∈fs,∃i t,v=Value.int i t
 |_,_,.nil=>⟨[],.nil,rfl,λ_ h=>by cases h⟩
 |_,_,.cons (t:=t) (p:=p) ho hc hd r=>by
  obtain⟨fs,a,b,c⟩:=r.Dy;refine⟨.int p.1 t::fs,.cons ho hc hd rfl a,by simp only[AGC,AGC,b],λv z=>?_⟩;rcases AF4.mp z with rfl|z
  .exact⟨_,_,rfl⟩
  .exact c v z
noncomputable def JF(ps:List<|Int×Int)(i j:Nat):Bool:=decide ((ps.getD i (0,0)).1<(ps.getD j (0,0)).1\/((ps.getD i (0,0)).1=(ps.getD j (0,0)).1/\(ps.getD i (0,0)).2<(ps.getD j (0,0)).2))
section
variable{prog:Program}{w:World}{A:Around}{E:Value->Shared->Prop}{s:Shared}{vs:List Value}{ps:List (Int×Int)}
theorem ni(v:PA s.heap vs ps){i j:Nat}(hi:i<ps.length)(p:j<ps.length){C:Bool->Shared->Prop}(h:C (JF ps i j) s):kas_ask prog w A (tuples' true) vs i j C s:=by
 obtain⟨a,o,t,t',n,Z,ho,hd⟩:=v.at hi;obtain⟨b,o2,u,Y,n2,Q,O,z⟩:=v.at p;unfold kas_ask;rw[Z,Q];unfold JF at h;generalize ps.getD i (0,0)=x at h hd;generalize ps.getD j (0,0)=y at h z;refine kat_lt ho hd O z ?_;refine kat_cons<|EqAt.int_int x.1 t y.1 u prog w _ _ ?_;cases e:(x.1==y.1)with
 |false=>
  have q:=by simpa using e
  refine kat_no<|oneLt_int ?_;rw[show decide (x.1<y.1)=decide (x.1<y.1\/(x.1=y.1/\x.2<y.2))by simp[q]];exact h
 |true=>
  have q:x.1=y.1:=by simpa using e
  refine kat_yes<|kat_cons<|EqAt.int_int x.2 t' y.2 Y prog w _ _ ?_;cases k:(x.2==y.2)with
  |false=>
   refine kat_no<|kat_one _ _<|lt_int ?_;rw[show decide (x.2<y.2)=decide (x.1<y.1\/(x.1=y.1/\x.2<y.2))by simp[q]];exact h
  |true=>
   have P:=by simpa using k
   show C false s;rw[show false=decide (x.1<y.1\/(x.1=y.1/\x.2<y.2))by simp[q,P]];exact h
def ord(ps:List<|Int×Int):List Nat:=if ps.length<2 then List.range ps.length else(run (JF ps)<|kas_sort ps.length).toList
theorem M3{ps:List (Int×Int)}(nd:ps.Nodup):UQ (JF ps) ps.length:=by
 refine⟨λi j k=>?_,λi j hi z e=>?_⟩
 .unfold JF;lia
 .unfold JF;simp only[AF2,AH8];have ne:ps.getD i (0,0)≠ps.getD j (0,0):=by simp only[AGn,AGn,AGF hi,AGF z];exact λk=>e<|(AIy nd).mp k
  have:¬ ((ps.getD i (0,0)).1=(ps.getD j (0,0)).1/\(ps.getD i (0,0)).2=(ps.getD j (0,0)).2):=λk=>ne<|AGy k.1 k.2;lia
theorem XR{ps:List (Int×Int)}(nd:ps.Nodup):(ord ps).Perm<|List.range ps.length:=by
 unfold ord;split
 .exact List.Perm.refl _
 .exact AIV.mp (Ok.run _<|XH (M3 nd) U).1
theorem XO{ps:List (Int×Int)}(nd:ps.Nodup):∀i∈ord ps,i<ps.length:=λi h=>AF1.mp<|(XR nd).mem_iff.mp h
theorem zN{ps:List (Int×Int)}(nd:ps.Nodup):(ord ps).length=ps.length:=by rw[(XR nd).length_eq,AGV]
theorem zO{ps:List (Int×Int)}(nd:ps.Nodup):(ord ps).Pairwise λi j=>JF ps i j=true:=by
 unfold ord;split
 .rw[AG0];intro i j hi z y;rw[AGV]at z;lia
 .rw[AG0];intro i j hi z y;have h:=Ok.run _<|XH (M3 nd) U;have hs:=h.1.size;simp only[AGp,hs]at z;have:=h.2 i j y z;simpa[BZ,Array.getD,hs,z,show i<ps.length from F6 y z]using this
theorem ADN{a:Addr}{n:Nat}{P:PySem.Fin->Shared->Prop}(ho:s.heap.get? a=some (seqObj "list" vs.toArray n))(F:PA s.heap vs ps)(nd:ps.Nodup)(G:∀v∈vs,v≠.ref a)(S:vs.length<64) (h:P (.done<|.ret .none) {s with heap:=sortedHeap s.heap a vs ((ord ps).map λi=>vs.getD i Value.none).toArray}) :
 wpAny (model prog w) A (Builtin.«list.sort» ⟨[.ref a],[]⟩) P E s:=by
 have y:=F.len;rw[list_sort_plain];have ha:=Heap.lt_size ho;refine wpAny_bind<|listItems_at ho rfl ?_;refine wpAny_bind (listUpdate_at ho rfl ?_ (by rw[AF9,sizeLine_eq];lia) (AHR _));obtain⟨O,R⟩:∃O,(s.heap.update a<|Obj.mapSeq λ_=>#[]).get? a=some (seqObj "list" #[] O):=⟨_,get?_update_seq ho (λ_=>#[])⟩;refine wpAny_bind<|seqEpoch_at R rfl ?_;refine wpAny_bind (wpAny_newTuple ?_ (by show vs.length<=_;rw[sizeLine_eq];lia));refine wpAny_bind<|wpAny_newList ?_ (AHR _);refine wpAny_holding ?_;have Z:(((s.heap.update a<|Obj.mapSeq λ_=>#[]).push<|seqObj "tuple" vs.toArray 0).push<|seqObj "list" #[] 0).get? a=some (seqObj "list" #[] O):=by rw[Heap.get?_push_ne _ _ _ (by rw[size_push',Heap.size_update];exact AGE<|AIH ha),Heap.get?_push_ne _ _ _ (by rw[Heap.size_update];exact AGE ha)];exact R
 have kp:∀b o,b≠a->s.heap.get? b=some o->(((s.heap.update a<|Obj.mapSeq λ_=>#[]).push<|seqObj "tuple" vs.toArray 0).push<|seqObj "list" #[] 0).get? b=some o:=λb o T q=>
  Heap.get?_push_of_some _ (Heap.get?_push_of_some _ (by rw[Heap.get?_update_ne _ _ _ _ T];exact q))
 have B:=F.kept kp G;dsimp only;have hsz:vs.toArray.size=vs.length:=AFn
 by_cases z:vs.toArray.size<2
 .rw[AFu z,AFu z];refine wpAny_bind<|wpAny_pure ?_;refine wpAny_bind<|wpAny_pure ?_;dsimp only;refine wpAny_bind<|seqEpoch_at Z rfl ?_;refine wpAny_bind (listUpdate_at Z rfl ?_ (hsz2:=by rw[Array.size_map];show(pairsOf vs).size<=_;rw[pairsOf_size,sizeLine_eq];clear hsz;lia));simp only[AIp];have D:((ord ps).map λi=>vs.getD i Value.none).toArray=(vs.toArray.zip vs.toArray).map (·.2):=by
   unfold ord
   match vs,y,z with
   |[],y,_=>rw[<-y];simp
   |[v],y,_=>rw[<-y];simp[AHS]
   |_::_::_,_,z=>exact absurd z AFn
  rw[D]at h;exact wpAny_pure h
 .rw[AF0 z,AF0 z];obtain⟨fs,H,kl,I⟩:=B.Dy;refine wpAny_bind (kat_kind H U (λv f=>by obtain⟨i,t,rfl⟩:=I v f;exact .now) AFp ?_);have x:(kas_sort vs.length).kasWp (kas_ask prog w A (tuples'<|Value.type "int" != Value.type "tuple") vs) (λp s'=>p=run (JF ps) (kas_sort ps.length)/\s'={s with heap:=((s.heap.update a<|Obj.mapSeq λ_=>#[]).push<|seqObj "tuple" vs.toArray 0).push (seqObj "list" #[] 0)}) {s with heap:=((s.heap.update a<|Obj.mapSeq λ_=>#[]).push<|seqObj "tuple" vs.toArray 0).push (seqObj "list" #[] 0)}:=by rw[y];exact Ok.wp (λi j C hi hj hC=>ni B hi hj hC) _ (XH (M3 nd) U) ⟨rfl,rfl⟩
  refine wpAny_bind<|wpAny_mono (kat_run (Q:=λY s'=>∃p:Array Nat,p.size=vs.length/\arrOf Y=p.map (kas_item<|vs.toArray.zip vs.toArray)/\failedOf Y=none/\p=run (JF ps) (kas_sort ps.length)/\s'={s with heap:=((s.heap.update a<|Obj.mapSeq λ_=>#[]).push<|seqObj "tuple" vs.toArray 0).push (seqObj "list" #[] 0)}) rfl U S (λp' Y s' a1 a2 a3 a4=>⟨p',a1,a2,a3,a4⟩) x) ?_ λ_ _ e=>e;rintro⟨⟨⟩,Y⟩ s' ⟨p,hp,t7,hf,WD,rfl⟩;have vE:=kat_snds rfl t7;rw[vE];refine wpAny_bind<|seqEpoch_at Z rfl ?_;refine wpAny_bind (listUpdate_at Z rfl ?_ (hsz2:=by simp only[AF9,AFs,AGp,hp,sizeLine_eq];lia));rw[hf];simp only[AIp];have D:ord ps=p.toList:=by unfold ord;rw[AF0 U,WD]
  rw[D]at h;exact wpAny_pure h
theorem ADO{l:Addr}{Q:Value->Shared->Prop}(O:s.heap.IsList l vs.toArray)(p:PA s.heap vs ps)(nd:ps.Nodup)(P:vs.length<64) (h:Q (.ref<|s.heap.objs.size+1) {s with heap:=sortedAll s.heap vs ((ord ps).map λi=>vs.getD i Value.none).toArray}) :
 wpAny (model prog w) A (call (.builtin "sorted") [.ref l]) Q E s:=by
 refine Calls.call_function_entry kind_sorted plain_sorted entry_sorted (args_sorted1 _) ?_;refine wpAny_bind <|wpAny_pure ?_;refine wpAny_bind (collect_list O ?_ (by rw[sizeLine_eq];lia));refine wpAny_bind (wpAny_newList ?_ (by rw[sizeLine_eq];lia));have hsz:((s.heap.push<|seqObj "list" #[] 0).update s.heap.objs.size (Obj.mapSeq (· ++ vs.toArray))).objs.size=s.heap.objs.size+1:=by rw[Heap.size_update,size_push']
 have Z:(((s.heap.push<|seqObj "list" #[] 0).update s.heap.objs.size (Obj.mapSeq (· ++ vs.toArray))).push<|seqObj "list" vs.toArray 0).get? (s.heap.objs.size+1)=some (seqObj "list" vs.toArray 0):=by rw[<-hsz];exact Heap.get?_push_size _ rfl
 have keep:∀b o,s.heap.get? b=some o->(((s.heap.push<|seqObj "list" #[] 0).update s.heap.objs.size (Obj.mapSeq (· ++ vs.toArray))).push<|seqObj "list" vs.toArray 0).get? b=some o:=λb o q=>by have y:=Heap.lt_size q;rw[Heap.get?_push_ne _ _ _ (by rw[hsz];exact AGE<|AIH y),Heap.get?_update_ne _ _ _ _ (AGE y),Heap.get?_push_ne _ _ _ (AGE y)];exact q
 rw[hsz];have Y:∀v∈vs,v≠Value.ref (s.heap.objs.size+1):=λv z e=>by
  have:∀{vs:List Value}{ps:List (Int×Int)},PA s.heap vs ps->∀v∈vs,∃b,v=.ref b/\b<s.heap.objs.size:=λ{vs ps} h=>by
   induction h with
   |nil=>intro v z;contradiction
   |cons ho hc hd r ih=>
    intro v z;rcases AF4.mp z with rfl|z
    .exact⟨_,rfl,Heap.lt_size ho⟩
    .exact ih v z
  obtain⟨b,D,F⟩:=this p v z;rw[D]at e;cases e;exact absurd F (AJK.mpr<|AJh _)
 refine wpAny_bind<|wpAny_holding<|wpAny_call_entry slot_list_sort ⟨_,Z,rfl⟩ entry_list_sort (ADN Z (p.kept (λb o _ q=>keep b o q) Y) nd Y P ⟨_,rfl,?_⟩)<|args_list_sort _;exact wpAny_pure ⟨_,rfl,h⟩
end
end C5
set_option tactic.hygienic true
namespace L2.PL
open PySem PySem.Spec PyProof.Rows
noncomputable def Ml:List PV->Option (List<|Int×Int)
 |[]=>some []
 |.tup [.int p,.int q]::r=>(Ml r).map ((p,q) :: ·)
 |_=>none
def J6:List RV->Option RV
 |[r]=>match r.list with
  |some ps=>(match Ml ps with
   |some zs=>if ps.length<64/\zs.Nodup then some (.fr<|(C5.ord zs).map λi=>ps.getD i .Au)else none
   |none=>none)
  |none=>none
 |_=>none
def QI(K:W.Frag)(H:Hp)(z:Int×Int)(v:V):Prop:=∃a,v=.ref a/\Bi K H a [.int z.1,.int z.2]
theorem jL{K:W.Frag}{G:Hp}:∀{ps:List PV}{zs:List (Int×Int)}{vs:List V},Ml ps=some zs->AW K G ps vs->Paired (QI K G) zs vs
 |[],_,_,e,h=>by cases e;subst h;exact .nil
 |p::r,zs,vs,e,h=>by
  unfold Ml at e;split at e
  .rename_i z;contradiction
  .rename_i p' q' r' z;cases z;obtain⟨zs',y,rfl⟩:=AIt.mp e;obtain⟨v,us,rfl,q,t⟩:=h;obtain⟨a,rfl,ha⟩:=XU q;exact .cons ⟨a,rfl,ha⟩<|jL y t
  .contradiction
set_option tactic.hygienic false
theorem lY{z:List V}{its:List Value}(h:Ao z its):∀l:List Nat,(∀i∈l,i<z.length)->Ao (l.map λi=>z.getD i .Au) (l.map λi=>its.getD i Value.none)
 |[],_=>.nil
 |i::l,hl=>by have hi:=hl i<|.head _;obtain⟨u,y,q⟩:=h.get<|AGF hi;refine .cons ?_ (lY h l λj v=>hl j<|.tail _ v);show RelV (z.getD i .Au) (its.getD i Value.none);simp only[AGn,AGn,AGF hi,y];exact q
theorem jz{K:W.Frag}{G:Hp}{ps:List PV}{z:List V}(h:Paired (Rep K G) ps z):∀l:List Nat,(∀i∈l,i<ps.length)->Paired (Rep K G) (l.map λi=>ps.getD i .Au) (l.map λi=>z.getD i .Au)
 |[],_=>.nil
 |i::l,hl=>by have hi:=hl i<|.head _;obtain⟨u,y,q⟩:=Mj h<|AGF hi;refine .cons ?_ (jz h l λj v=>hl j<|.tail _ v);show Rep K G (ps.getD i .Au) (z.getD i .Au);simp only[AGn,AGn,AGF hi,y];exact q
section
variable{X:Cx}
theorem za{AB:List (Addr×Obj)}{σ:St}{H:Hp}{s:Shared}(I:Inv X AB σ H s):∀{zs:List (Int×Int)}{z:List V}{its:List Value},Paired (QI X.K H) zs z->Ao z its->C5.PA s.heap its zs:=by
 intro zs z its g h
 induction g generalizing its with
 |nil=>cases h;exact .nil
 |cons q r ih=>
  obtain⟨a,e,ha⟩:=q;cases h with
  |cons ru t=>
   subst e;cases ru;obtain⟨i1,y,⟨o,v,k1,n1,p⟩,_⟩:=I.tuple ha;obtain⟨t1,t2,rfl⟩:=XT y;exact .cons v k1 p<|ih t
theorem ot:C4 X (.builtin "sorted") (λxs H Q=>∃(p:Addr)(z:List V)(zs:List<|Int×Int),xs=[.ref p]/\CF X.K H p z/\Paired (QI X.K H) zs z/\z.length<64/\zs.Nodup/\∀l,H l=none->Q (.ref l) (upd H l<|.lst<|(C5.ord zs).map λi=>z.getD i .Au)):=by
 intro AB s σ H xs us Q I r h;obtain⟨p,z,zs,rfl,v,hp,Im,nd,q⟩:=h;obtain⟨u,rfl,Z⟩:=vals1 r;cases Z;obtain⟨its,y,Y,hz⟩:=I.list v;have BX:=y.length;have K4:=Paired.length hp;have O:=C5.XO nd;refine C5.ADO Y.isList (za I hp y) nd U ?_;obtain⟨e,he⟩:=sortedAll_at s.heap its ((C5.ord zs).map λi=>its.getD i Value.none).toArray;have P:(C5.ord zs).length<=sizeLine:=by rw[C5.zN nd];lia
 exact⟨.ref<|s.heap.objs.size+1,_,I.laid (λb o k=>sortedAll_old k) (AJh _) (show Bx X.prog X.w _ _ _ (.lst _)from⟨by rw[AFs];exact P,_,e,lY y _ (λi hi=>by have:=O i hi;lia),he⟩),rfl,q _<|I.AZ.fresh<|AJh _⟩
set_option tactic.hygienic true
theorem zK:Eb X.K J6 (λxs H Q=>∃(p:Addr)(y:List V)(zs:List<|Int×Int),xs=[.ref p]/\CF X.K H p y/\Paired (QI X.K H) zs y/\y.length<64/\zs.Nodup/\∀l,H l=none->Q (.ref l) (upd H l<|.lst<|(C5.ord zs).map λi=>y.getD i .Au)):=by
 intro rs z H0 G H vs Q sub P e rv q;unfold J6 at e;split at e
 .split at e
  .rename_i ps es;split at e
   .rename_i zs D;split at e
    .rename_i O;cases e;obtain⟨v,rfl,F⟩:=rv.one;obtain⟨a,us,rfl,R,Y⟩:=F.list sub es;have hp:=jL D Y;have Z:=Y.paired.length;have hz:=Paired.length hp;refine⟨a,us,zs,rfl,.inl R,Paired.W0 hp (by rintro _ _ ⟨b,e,h⟩;exact⟨b,e,Bi.same sub h⟩),U,O.2,λl Z=>q _ _ _ (Aq.Hq sub _ Z) ⟨l,_,rfl,P.free Z,sub.free Z,DE,AW.of<|jz Y.paired _ λi hi=>?_⟩⟩;have:=C5.XO O.2 i hi;lia
    .contradiction
   .contradiction
  .contradiction
 .contradiction
end
section
variable{X:Cx}{AR AO:Hp}{e:Expr}{f:EF}{pos:Pos}
end
end L2.PL
namespace L2
open PySem PySem.Spec PyProof.Rows
section
variable{X:Cx}{k j i:Nat}{f Wc:Addr}{fd:FuncData}{ps:List Str}{sp:Sp}{E:XK}{x y n fx:Str}{p yp fp np RM Ap apos pos:Pos}{e:Expr}{es:List Expr}{t:TA}{KS:List Stmt}{Ls:Stmt}{ts:TS}
end
end L2
namespace L2.PL
open PySem PySem.Spec PyProof.Rows
section
variable{X:Cx}{E:XK}{AR AO:Hp}{e:Expr}{es:List Expr}{ga:AF}{pos:Pos}
end
section
variable{X:Cx}
theorem ox(hc:X.calm=true):C4 X (.builtin "sum") (λxs H Q=>∃(p:Addr)(ns:List Int),xs=[.ref p]/\Bi X.K H p (ns.map V.int)/\Q (.int ns.sum) H):=by
 intro AB s σ H xs us Q I r h;obtain⟨p,ns,rfl,y,q⟩:=h;obtain⟨u,rfl,v⟩:=vals1 r;cases v;obtain⟨its,rv,hp,_⟩:=I.tuple y;have Z:=hp;have hi:=intsAre_of rv;obtain⟨xs,z⟩:=hi.allInts.items;have Y:=z ▸ Z;refine W.ktm_sumG (I.ok.hd hc) Y λh' tk t' O=>?_;have P:ns=xs.toList.map (·.1):=by rw[<-nums_intItems,<-z];exact(show numsOf its.toArray.toList=ns from hi.numsOf).symm
 have D:preSum (numAt xs) xs.size=ns.sum:=by rw[preSum_eq,AIu AFn,P]
 rw[D];exact⟨.int ns.sum,H,I.kept O,⟨_,rfl⟩,q⟩
def Ro:List RV->Option RV
 |[.cl<|.tup ps]=>(C1 ps).map λns=>.cl<|.int ns.sum
 |_=>none
theorem zM:Eb X.K Ro (λxs H Q=>∃(p:Addr)(ns:List Int),xs=[.ref p]/\Bi X.K H p (ns.map V.int)/\Q (.int ns.sum) H):=by
 intro rs z H0 G H vs Q sub sh e rv q;unfold Ro at e;split at e
 .rename_i ps;cases y:C1 ps with
  |none=>rw[y]at e;contradiction
  |some ns=>
   rw[y]at e;cases e;obtain⟨v,rfl,Y⟩:=rv.one;obtain⟨a,us,rfl,Z,O⟩:=Y;rw[Iv y O]at Z;exact⟨a,ns,rfl,Bi.same sub Z,q _ G H (Aq.refl sub)<|by rfl⟩
 .contradiction
end
section
variable{X:Cx}
end
section
variable{X:Cx}{a b c e tg iter:Expr}{es:List Expr}{fa fb fc f:EF}{g ga:AF}{pos:Pos}{AR AO:Hp}
theorem PQ{K:W.Frag}{G:Hp}:∀ns:List Int,AW K G (ns.map PV.int) (ns.map V.int)
 |[]=>by show AW _ _ [] _;delta AW;rfl
 |n::ns=>by rw[AF6,AF6];unfold AW;exact⟨_,_,rfl,by delta Rep;rfl,PQ ns⟩
end
end L2.PL
namespace L2
open PySem PySem.Spec PyProof.Rows
section
variable{prog:Program}{w:World}{A:Around}{E:Value->Shared->Prop}{s:Shared}
end
section
variable{X:Cx}{pos:Pos}
end
end L2
namespace L2.PL
open PySem PySem.Spec PyProof.Rows
section
variable{X:Cx}{es:List Expr}{gs:II}{pos:Pos}
end
section
variable{X:Cx}{a b:Expr}{fa fb:EF}{pos:Pos}
noncomputable def Wb(b:Int)(y:Value):Bool:=match y with|.int k _=>k==b|_=>false
theorem vo{y:Value}{ns:List Int}:∀{us:List Value},Ao (ns.map V.int) us->y∈us->∃k t,y=.int k t:=by
 induction ns with
 |nil=>intro us r h;cases r;cases h
 |cons n ns ih=>
  intro us r h;cases r with
  |cons r1 r2=>
   rcases AF4.mp h with rfl|h
   .obtain⟨t,e⟩:=r1;exact⟨n,t,e⟩
   .exact ih r2 h
theorem ints_map{b:Int}{ns:List Int}:∀{us:List Value},Ao (ns.map V.int) us->us.map (Wb b)=ns.map (· == b):=by
 induction ns with
 |nil=>intro us r;cases r;rfl
 |cons n ns ih=>
  intro us r;cases r with
  |cons r1 r2=>
   obtain⟨t,e⟩:=r1;subst e;simp only[AF6,ih r2]
   rfl
theorem xm:Lg X "list.count" (λx vs H Q=>∃(l:Addr)(ns:List Int)(b:Int),x=.ref l/\vs=[.int b]/\Rd H l (.lst<|ns.map V.int)/\Q (.int (ns.countP (· == b))) H):=by
 intro AB s σ H x vs v us Q I Z rv h;obtain⟨l,ns,b,rfl,rfl,Y,q⟩:=h;cases Z;obtain⟨u,rfl,O⟩:=rv.one;obtain⟨t,rfl⟩:=O;obtain⟨z,its,n,r,e⟩:=Y.ok I.AZ;refine call_meets F.slot_list_count ⟨_,e,rfl⟩ F.entry_list_count (F.args_list_count_2 _ _) (SeqAt.list_countAt l _ n none _ (.int b t)<|Wb b) ⟨e,λy p=>?_,?_⟩
 .rw[AJT]at p;obtain⟨k,t',rfl⟩:=vo r p;exact SeqAt.EqAt.int_int k t' b t
 .refine⟨.int _,H,I.tok _,⟨_,rfl⟩,?_⟩;have:its.toArray.toList.countP (Wb b)=ns.countP (· == b):=by have:=AG5 (List.countP id)<|ints_map (b:=b) r;rw[AJd,AJd]at this;exact this
  rw[this];exact q
def Oa(x y:RV):Option RV:=match x.list.bind C1,y with
 |some ns,.cl (.int b)=>some (.cl (.int (ns.countP (· == b):Nat)))
 |_,_=>none
theorem AA8{O z:Pos}(ha:PX X a fa)(P:PX X b fb)(D:attributeBase a "count" X.env (eval a X.env)=eval a X.env) (F:((backTo z<|starEach [b] X.env).all (λx=>!x.1)&&(backToKw z<|keywordEach [] X.env).all (λx=>x.1.isSome)&&decide ([b].length+([]:List Keyword).length+(if([]:List Keyword).isEmpty then 0 else 1)<30))=true)
 (B:(O.endLine==z.line)=true) (hs:starEach [b] X.env=(false,eval b X.env)::starEach [] X.env) (S:(backTo z<|starEach [] X.env).any (·.1)=false) :
 PX X (.Call (.Attribute a "count" O) [b] [] z) (f2 Oa fa fb):=
 PE.imp (PD AHa AJW AJX xm ha (FN P Gq hs) D F B hs S) (by
  rintro σ H Q ⟨G,ρ,r,R,e,q⟩;unfold f2 at e;cases ea:fa ρ with
  |none=>rw[ea]at e;contradiction
  |some x=>
   rw[ea]at e;cases v:fb ρ with
   |none=>rw[v]at e;contradiction
   |some y=>
    rw[v]at e;dsimp only at e;unfold Oa at e;split at e
    .rename_i ns k p;cases e;cases Z:x.list with
     |none=>rw[Z]at p;contradiction
     |some ps=>
      rw[Z]at p;refine⟨G,ρ,x,R,ea,λvx T H1 s1 C=>?_⟩;obtain⟨l,vs,rfl,Y,E⟩:=C.list s1.sub Z;refine⟨.inl ⟨rfl,vs,.inl Y⟩,T,ρ,_,R.step s1,v,λvy I n s2 t=>?_⟩;rw[Iv p E]at Y;exact⟨l,ns,k,rfl,by rw[t.int],Rd.same s2.hh Y,q _ I n (s1.trans s2)<|by rfl⟩
    .contradiction)
end
section
variable{X:Cx}{pos:Pos}{AR AO:Hp}
end
def Dj(F:List PV->Option RV):List PV->Option RV:=λps=>match F ps with|some r=>if r.flat=true then some r else none|none=>none
theorem dh{F:List PV->Option RV}{ps:List PV}{r:RV}(e:Dj F ps=some r):F ps=some r/\r.flat=true:=by
 unfold Dj at e;split at e
 .split at e
  .cases e;exact⟨AFr,AFr⟩
  .contradiction
 .contradiction
theorem r9{F:List PV->Option RV}(ps:List PV)(r:RV)(e:Dj F ps=some r):r.flat=true:=(dh e).2
theorem Fn.Dj{X:Cx}{x:Str}{n:Nat}{F:List PV->Option RV}(h:Fn X x n F):Fn X x n<|Dj F:=by obtain⟨k,f,fd,ps,z,y⟩:=h.ex;exact⟨k,f,fd,ps,z.imp λvs H Q E ⟨a,G,qs,r,b,c,d,e⟩=>⟨a,G,qs,r,b,c,(dh d).1,e⟩,y⟩
def Hz(f:EF):BF:=λρ=>match f ρ with|some r=>r.list.map λps=>!ps.isEmpty|none=>none
theorem ACD{X:Cx}{a:Expr}{fa:EF}(ha:PX X a fa)(he:∀whole,isTrue a X.env whole=(do let v<-whole;standAt a.pos;holding [v] (truthy v))):DT X a<|Hz fa:=
 PT.imp (AAn ha he) (by
  rintro σ H Q ⟨G,ρ,b,R,e,q⟩;unfold Hz at e;split at e
  .rename_i r y;refine⟨G,ρ,r,R,y,λv G' H' s rv=>?_⟩;obtain⟨ps,hp,rfl⟩:=AIt.mp e;obtain⟨a,vs,rfl,p,z⟩:=rv.list s.sub hp;refine⟨_,.inl ⟨vs,.inl p,?_⟩,q G' H' s⟩;cases ps<;>cases vs<;>first|rfl|(obtain⟨_,_,h,_⟩:=z;cases h)|cases z
  .contradiction)
end L2.PL
namespace L2.K
open L2.PL
noncomputable abbrev B9:=(AG (AE 0) AN)
noncomputable abbrev Ca:=(fB Dp B9)
noncomputable abbrev D9:=(f2 Am (AE 0)<|fC<|.int 0)
noncomputable abbrev bG:=(f2 BU (f2 A4 (f2 Dq (f2 BU (AE 2)<|fC<|.int 65521)<|fC<|.int 48271)<|f2 Dq (AE 1)<|fC<|.int 30103)<|fC<|.int 65521)
def Zr:SF:=(AM (Az (AU<|f2 Cc (AE 1) Ca) (A0<|f2 Am (AE 0)<|AE 1) A7)<|AM (Aa 2<|fC<|.int 0)<|AM (Az (AU<|f2 B3 Ca<|fC<|.int 0) (Aa 2 D9) A7)<|A0 bG)
def EK:List PV->Option RV:=denote 3 2 Zr
noncomputable abbrev GR:=(f2 Am (AE 1)<|fC<|.int 0)
noncomputable abbrev cK:=(f2 BK GR D9)
noncomputable abbrev E3:=(f2 Am (AE 1)<|fC<|.int 1)
noncomputable abbrev E4:=(f2 Am (AE 0)<|fC<|.int 1)
noncomputable abbrev cL:=(f2 BK E3 E4)
noncomputable abbrev cM:=(f2 BK (f2 Am (AE 2)<|fC<|.int 1) E4)
noncomputable abbrev cN:=(f2 BK (f2 Am (AE 2)<|fC<|.int 0) D9)
def qT:SF:=(AM (Jr 3 4<|AG cK<|AG cL AN)<|A0<|f2 BK (f2 Dq (AE 3) cM)<|f2 Dq (AE 4) cN)
def FW:List PV->Option RV:=denote 5 3 qT
noncomputable abbrev Nr:=(AG Ca AN)
noncomputable abbrev Lw:=(C0 Nr)
noncomputable abbrev Nw:=(f2 Am (AE 0)<|f2 BK (AE 1)<|fC<|.int 1)
noncomputable abbrev aa:=(f2 Bn (AY FW<|AG (f2 Am (AE 0)<|f2 BK (AE 1)<|fC<|.int 2)<|AG Nw<|AG (f2 Am (AE 0)<|AE 1) AN)<|fC<|.int 0)
noncomputable abbrev Ki:=(A0<|fC<|.bl true)
noncomputable abbrev aU:=(Az (AU aa) Ki A7)
noncomputable abbrev C6:=(A0<|fC<|.bl false)
def Zt:SF:=(AM (B0 Lw (Ac 1) aU) C6)
def P5:List PV->Option RV:=denote 2 1 Zt
noncomputable abbrev VD:=(AY EK<|AG (AE 0)<|AG (f2 A4 (AE 1)<|fC<|.int 1) AN)
noncomputable abbrev Qf:=(f2 BK (AE 2)<|fC<|.int 1)
noncomputable abbrev Qp:=(AG (fC<|.int 1)<|AG Qf AN)
noncomputable abbrev Qg:=(f2 A4 (AE 4)<|fC<|.int 1)
noncomputable abbrev Ql:=(Az (AU<|f2 Bn (f2 BU (AE 8)<|fC<|.int 2)<|fC<|.int 0) (Cr 5 Dm<|AG (A5<|AG (AE 4)<|AG (f2 BK (fC<|.int 0)<|AE 9) AN) AN)<|Cr 6 Dm<|AG (A5<|AG (AE 4)<|AG (AE 9) AN) AN)
noncomputable abbrev U5:=(AM (Aa 8<|AY EK<|AG (AE 0)<|AG (f2 A4 (f2 A4 (AE 1)<|fC<|.int 4)<|AE 7) AN)<|AM (Aa 4<|f2 A4 Qg<|f2 BU (f2 DW (AE 8)<|fC<|.int 2)<|fC<|.int 4)<|AM (Aa 9<|f2 A4 (fC<|.int 1)<|f2 BU (f2 DW (AE 8)<|fC<|.int 8)<|fC<|.int 9)<|AM (Az (AU<|f2 Bn (AE 3)<|fC<|.int 3) (AM (Aa 4<|AE 7)<|Aa 9<|f2 Dq (AE 7)<|f2 BK Qf<|AE 7) A7) Ql)
noncomputable abbrev Nu:=(AG (fC<|.int 0) AN)
noncomputable abbrev VH:=(A5<|AG (fC<|.int 0) Nu)
noncomputable abbrev ah:=(f2 A4 (f2 A4 (Bj<|AG VH AN)<|AE 5)<|Bj<|AG (A5<|AG Qg Nu) AN)
noncomputable abbrev DH:=(AG (AE 2) AN)
noncomputable abbrev Nv:=(C0 DH)
noncomputable abbrev bV:=(A5<|AG (AE 0)<|AG (f2 BK (fC<|.int 0)<|f2 Dq (AE 0)<|f2 BK (f2 BK (AE 1)<|fC<|.int 1)<|AE 0) AN)
def Z0:SF:=(AM (Aa 3<|f2 BU VD<|fC<|.int 4)<|AM (Aa 4<|fC<|.int 0)<|AM (C8 5<|Bj AN)<|AM (C8 6<|Bj AN)<|AM (B0 (DK Qp) (Ac 7) U5)<|AM (Aa 10<|f2 A4 ah<|GU<|AE 6)<|AM (Az (AU<|AY P5<|AG (AE 10) AN) (Aa 10<|BC Nv 1 [2] (Ac 0) Bh bV) A7)<|A0<|AE 10)
def Tz:List PV->Option RV:=denote 11 3 Z0
noncomputable abbrev VA:=(AM (Aa 5<|AY EK<|AG (AE 0)<|AG (f2 A4 (f2 A4 (AE 1)<|fC<|.int 5)<|AE 4) AN)<|AM (Cr 2 Dm<|AG (f2 A4 (f2 A4 (f2 Am (AE 2)<|L3<|fC<|.int 1)<|fC<|.int 1)<|f2 BU (AE 5)<|fC<|.int 4) AN)<|Cr 3 Dm<|AG (f2 A4 (f2 A4 (f2 Am (AE 3)<|L3<|fC<|.int 1)<|fC<|.int 1)<|f2 BU (f2 DW (AE 5)<|fC<|.int 4)<|fC<|.int 4) AN)
noncomputable abbrev GQ:=(HS 2<|HV (Ac 0)<|HV (Ac 1) L7)
def qW:SF:=(AM (C8 2<|Bj Nu)<|AM (C8 3<|Bj Nu)<|AM (B0 (C0<|AG (fC<|.int 5) AN) (Ac 4) VA)<|AM (Aa 6<|Bj<|AG VH<|AG (A5<|AG (fC<|.int 5) Nu)<|AG (A5<|AG (fC<|.int 5)<|AG (fC<|.int 5) AN)<|AG (A5<|AG (fC<|.int 1)<|AG (fC<|.int 5) AN)<|AG (A5<|AG (fC<|.int 1)<|AG (fC<|.int 2) AN)<|AG (A5<|AG (fC<|.int 3)<|AG (fC<|.int 2) AN)<|AG (A5<|AG (fC<|.int 3)<|AG (fC<|.int 3) AN)<|AG (A5<|AG (fC<|.int 2)<|AG (fC<|.int 3) AN)<|AG (A5<|AG (fC<|.int 2)<|AG (fC<|.int 4) AN)<|AG (A5<|AG (fC<|.int 4)<|AG (fC<|.int 4) AN)<|AG (A5<|AG (fC<|.int 4)<|AG (fC<|.int 1) AN)<|AG (A5<|AG (fC<|.int 0)<|AG (fC<|.int 1) AN) AN)<|A0<|BC (CA false<|AE 6) 2 [2,3] GQ Bh<|A5<|AG (f2 Am (AE 2)<|AE 0)<|AG (f2 Am (AE 3)<|AE 1) AN)
def T7:List PV->Option RV:=denote 7 2 qW
noncomputable abbrev bf:=(Jr 3 4<|AG (f2 Am (AE 0) Qf)<|AG (f2 Am (AE 0)<|AE 2) AN)
noncomputable abbrev Nt:=(f2 Am (AE 3)<|fC<|.int 0)
noncomputable abbrev aM:=(AM bf<|Aa 1<|f2 BK (f2 A4 (AE 1)<|f2 Dq Nt<|f2 Am (AE 4)<|fC<|.int 1)<|f2 Dq (f2 Am (AE 3)<|fC<|.int 1)<|f2 Am (AE 4)<|fC<|.int 0)
def Zq:SF:=(AM (Aa 1<|fC<|.int 0)<|AM (B0 Lw (Ac 2) aM)<|A0<|AE 1)
def Tt:List PV->Option RV:=denote 5 1 Zq
noncomputable abbrev Qi:=(AG (AE 1) DH)
noncomputable abbrev Ly:=(AG (AE 0) Qi)
noncomputable abbrev Uz:=(AG GR AN)
noncomputable abbrev b9:=(AG D9 Uz)
noncomputable abbrev VB:=(AG E4<|AG E3 AN)
def Zy:SF:=(AM (Az (AU<|f2 CL (AY FW Ly)<|fC<|.int 0) C6 A7)<|AM (Aa 3<|A5<|AG (fB Hj b9)<|AG (fB Hj VB) AN)<|AM (Aa 4<|A5<|AG (fB F5 b9)<|AG (fB F5 VB) AN)<|A0<|DV (E8 Cs Cs Nt (f2 Am (AE 2)<|fC<|.int 0)<|f2 Am (AE 4)<|fC<|.int 0)<|E8 Cs Cs (f2 Am (AE 3)<|fC<|.int 1) (f2 Am (AE 2)<|fC<|.int 1)<|f2 Am (AE 4)<|fC<|.int 1)
def NJ:List PV->Option RV:=denote 5 3 Zy
noncomputable abbrev E5:=(AG (AE 3) AN)
noncomputable abbrev bO:=(Aa 4<|Bj<|AG (A5 Ly)<|AG (A5<|AG (AE 0)<|AG (AE 1) E5) AN)
noncomputable abbrev Uy:=(AG (AE 2)<|AG (AE 3) B9)
noncomputable abbrev C7:=(AG (AE 1) AN)
noncomputable abbrev bE:=(Aa 4<|f2 A4 (AE 4)<|Bj<|AG (A5 Uy)<|AG (A5<|AG (AE 2)<|AG (AE 3) C7) AN)
noncomputable abbrev Qj:=(HV (Ac 6)<|HV (Ac 7) L7)
noncomputable abbrev Qk:=(AG (AE 6)<|AG (AE 7) AN)
noncomputable abbrev br:=(Az (AU<|AY NJ<|AG (AE 5) Qk) Ki A7)
def Zx:SF:=(AM bO<|AM bE<|AM (B0 (CA true<|AE 4) (HS 3<|HV (Ac 5) Qj) br)<|AM (Aa 8<|f2 CL (f2 B3 (AY FW Ly)<|fC<|.int 0)<|f2 B3 (AY FW<|AG (AE 0)<|AG (AE 1) E5)<|fC<|.int 0)<|A0<|DV (AE 8)<|f2 CL (f2 B3 (AY FW Uy)<|fC<|.int 0)<|f2 B3 (AY FW<|AG (AE 2)<|AG (AE 3) C7)<|fC<|.int 0)
def P8:List PV->Option RV:=denote 9 4 Zx
noncomputable abbrev Jf:=(CA false<|AE 0)
noncomputable abbrev bY:=(f2 B3 (fB F5<|AG (fB Hi B9)<|AG (fB Hi C7) AN)<|fC<|.int 100)
noncomputable abbrev cW:=(DJ (Cz<|AU<|E8 Cs Cs (fC<|.int 3) (AE 1)<|fC<|.int 12)<|AU<|f2 B3 (fB Dp<|AG (BC Jf 2 [] GQ (AU bY)<|fC<|.int 1) AN)<|fC<|.int 0)
noncomputable abbrev bI:=(DJ (AU<|f2 CL (Kp<|AE 0)<|AE 1)<|DJ (AU<|AY P5 B9)<|AU<|f2 Cs (AY Tt B9)<|fC<|.int 0)
noncomputable abbrev cS:=(Bj<|AG (fC<|.int 1)<|AG (f2 BK (AE 1)<|fC<|.int 1) AN)
noncomputable abbrev bS:=(f2 (BS true) (f2 BU (f2 BK (AE 2)<|AE 3)<|AE 1) cS)
noncomputable abbrev aZ:=(AY P8<|AG (f2 Am (AE 0) Qf)<|AG (f2 Am (AE 0)<|AE 2)<|AG (f2 Am (AE 0)<|f2 BK (AE 3)<|fC<|.int 1)<|AG (f2 Am (AE 0)<|AE 3) AN)
noncomputable abbrev cC:=(Az (AU bS) (Az (AU aZ) C6 A7) A7)
def Zu:SF:=(AM (Aa 1 Ca)<|AM (Az cW C6 A7)<|AM (Az bI C6 A7)<|AM (B0 (C0 C7) (Ac 2)<|B0 Nv (Ac 3) cC) Ki)
def Tu:List PV->Option RV:=denote 4 1 Zu
noncomputable abbrev bU:=(AG (f2 BU (f2 DW VD<|fC<|.int 4)<|fC<|.int 5) AN)
noncomputable abbrev bq:=(Aa 4<|AY EK<|AG (AE 0)<|AG (f2 A4 (f2 A4 (AE 1)<|fC<|.int 15)<|AE 3) AN)
noncomputable abbrev Je:=(fB Dp DH)
noncomputable abbrev ay:=(Aa 6<|f2 BK (f2 A4 (f2 Am (f2 Am (AE 2)<|AE 5)<|fC<|.int 0)<|f2 BU (f2 DW (AE 4)<|fC<|.int 16)<|fC<|.int 33)<|fC<|.int 16)
noncomputable abbrev aw:=(Aa 7<|f2 BK (f2 A4 (f2 Am (f2 Am (AE 2)<|AE 5)<|fC<|.int 1)<|f2 BU (f2 DW (AE 4)<|fC<|.int 1024)<|fC<|.int 33)<|fC<|.int 16)
noncomputable abbrev ao:=(Aa 8<|f2 A4 (f2 A4 (F2 (AE 2) GS<|F1<|AE 5)<|Bj<|AG (A5 Qk) AN)<|F2 (AE 2) (F1<|f2 A4 (AE 5)<|fC<|.int 1) GS)
noncomputable abbrev Kj:=(AG (AE 6) AN)
noncomputable abbrev bF:=(Dh (AU<|f2 Cc (fB F5<|AG (fB Hi Kj)<|AG (fB Hi<|AG (AE 7) AN) AN)<|fC<|.int 80)<|AU<|AY Tu<|AG (AE 8) AN)
noncomputable abbrev aL:=(AM bq<|AM (Aa 5<|f2 BU (AE 4) Je)<|AM ay<|AM aw<|AM ao<|Az bF (Aa 2<|AE 8) A7)
def qS:SF:=(AM (B0 (C0 bU) (Ac 3) aL)<|A0<|AE 2)
def T4:List PV->Option RV:=denote 9 3 qS
noncomputable abbrev Jd:=(AG (AE 0) C7)
noncomputable abbrev aQ:=(Az (Dh (AU<|f2 Bn (AE 2)<|fC<|.int 12)<|AU<|f2 Bn (f2 BU (f2 DW VD<|fC<|.int 20)<|fC<|.int 6)<|fC<|.int 5) (Aa 4<|AY T7 Jd) A7)
noncomputable abbrev VE:=(AY EK<|AG (AE 0)<|AG (f2 A4 (AE 1)<|fC<|.int 2) AN)
noncomputable abbrev Ic:=(CA false<|AE 4)
noncomputable abbrev cP:=(A5<|AG (f2 A4 (AE 0)<|f2 Dq (AE 2)<|AE 1) C7)
noncomputable abbrev HK:=(AG (AE 1) B9)
noncomputable abbrev Qo:=(AY EK<|AG (AE 0)<|AG (f2 A4 (AE 1)<|fC<|.int 3) AN)
noncomputable abbrev cQ:=(f2 A4 (F2 (AE 4) (F1<|AE 7) GS)<|F2 (AE 4) GS<|F1<|AE 7)
noncomputable abbrev cR:=(A5<|AG (f2 A4 (AE 0)<|AE 2)<|AG (f2 A4 (AE 1)<|AE 3) AN)
def Z1:SF:=(AM (Aa 3<|AY EK Jd)<|AM (Aa 4<|AY Tz<|AG (AE 0)<|AG (AE 1)<|AG (f2 A4 (fC<|.int 3)<|f2 BU (AE 3)<|f2 BK (AE 2)<|fC<|.int 2) AN)<|AM aQ<|AM (Aa 5<|f2 BK (f2 BU (f2 DW VE<|fC<|.int 8)<|fC<|.int 3)<|fC<|.int 1)<|AM (Aa 4<|AY T4<|AG (AE 0)<|AG (AE 1)<|AG (BC Ic 2 [5] GQ Bh cP) AN)<|AM (Aa 6<|f2 BU VE<|fC<|.int 8)<|AM (Az (AU<|f2 Bn (f2 BU (AE 6)<|fC<|.int 2)<|fC<|.int 1) (Aa 4<|GU<|BC Ic 2 [] GQ Bh<|A5<|AG (f2 BK (fC<|.int 0)<|AE 0) C7) A7)<|AM (Az (AU<|f2 Bn (f2 BU (f2 DW (AE 6)<|fC<|.int 2)<|fC<|.int 2)<|fC<|.int 1) (Aa 4<|GU<|BC Ic 2 [] GQ Bh<|A5<|AG (AE 0)<|AG (f2 BK (fC<|.int 0)<|AE 1) AN) A7)<|AM (Az (AU<|f2 Bn (f2 DW (AE 6)<|fC<|.int 4)<|fC<|.int 1) (Aa 4<|GU<|BC Ic 2 [] GQ Bh<|A5 HK) A7)<|AM (Aa 7<|f2 BU Qo<|fB Dp<|AG (AE 4) AN)<|AM (Aa 8<|f2 BK (f2 BU (f2 DW Qo<|fC<|.int 16)<|fC<|.int 41)<|fC<|.int 20)<|AM (Aa 9<|f2 BK (f2 BU (AY EK<|AG (AE 0)<|AG (f2 A4 (AE 1)<|fC<|.int 4) AN)<|fC<|.int 41)<|fC<|.int 20)<|A0<|BC (CA false cQ) 2 [8,9] GQ Bh cR)
def P9:List PV->Option RV:=denote 10 3 Z1
noncomputable abbrev aY:=(DJ (Cz<|AU<|Fb Cs Cc Cc (fC<|.int 0) (AE 1) (AE 2)<|AE 3)<|AU<|f2 (BS false) (f2 BK (AE 2)<|AE 1)<|Bj<|AG (fC<|.int 1)<|AG (f2 BK (AE 3)<|fC<|.int 1) AN)
noncomputable abbrev VF:=(AG (f2 Am (AE 0)<|AE 1)<|AG (f2 Am (AE 0)<|AE 2) AN)
noncomputable abbrev U3:=(Bj Qi)
noncomputable abbrev bD:=(Dh (AU<|f2 (BS true) (AE 6) U3)<|AU<|AY NJ<|AG (AE 4)<|AG (AE 5)<|AG (f2 Am (AE 0)<|AE 6) AN)
noncomputable abbrev Qh:=(f2 A4 (AE 6)<|fC<|.int 1)
noncomputable abbrev bK:=(Dh (AU<|f2 (BS true) (AE 6) U3)<|AU<|f2 (BS true) (AE 7) U3)
noncomputable abbrev bb:=(AY P8<|AG (AE 4)<|AG (AE 5)<|AG (f2 Am (AE 0)<|AE 6)<|AG (f2 Am (AE 0)<|AE 7) AN)
noncomputable abbrev bH:=(AM (Az bD C6 A7)<|AM (Aa 7<|f2 BU Qh<|AE 3)<|Az bK (Az (AU bb) C6 A7) A7)
noncomputable abbrev Qn:=(f2 Am (AE 0)<|f2 BU (f2 A4 (AE 1)<|fC<|.int 1)<|AE 3)
def Zw:SF:=(AM (Aa 3 Ca)<|AM (Az aY C6 A7)<|AM (Jr 4 5 VF)<|AM (B0 (C0 E5) (Ac 6) bH)<|AM (Aa 8<|f2 B3 (AY FW<|AG (AE 4)<|AG Qn<|AG (AE 5) AN)<|fC<|.int 0)<|AM (Aa 9<|f2 B3 (AY FW<|AG Nw<|AG (AE 4)<|AG (AE 5) AN)<|fC<|.int 0)<|AM (Az (AU<|f2 B3 (AY FW<|AG Nw<|AG (AE 4)<|AG Qn AN)<|fC<|.int 0) (A0<|DV (AE 8)<|AE 9) A7)<|A0<|Ef (AE 8)<|AE 9)
def P6:List PV->Option RV:=denote 10 3 Zw
noncomputable abbrev ai:=(Ef (f2 (BS false) (f2 BK (AE 3)<|AE 4) cS)<|AY P6<|AG (AE 0)<|AG (AE 4) E5)
noncomputable abbrev aW:=(L6 2 (AG (AE 4) E5) ai)
noncomputable abbrev aS:=(B0 (C0 E5) (Ac 4) aW)
def Zv:SF:=(AM (Aa 1 Ca)<|AM (Q7 2 VV)<|AM (B0 (C0 C7) (Ac 3) aS)<|Q6 2)
def Tv:List PV->Option RV:=denote 5 1 Zv
noncomputable abbrev b7:=(AG (fC<|.int 0)<|AG (f2 BK Je<|fC<|.int 1) AN)
noncomputable abbrev VI:=(f2 B3 (f2 BK (AE 7)<|AE 6)<|fC<|.int 1)
noncomputable abbrev bX:=(Dh (AU<|Ko (AE 1)<|AG (AE 2) B9)<|AU<|Ko (AE 1)<|AG (AE 0) E5)
noncomputable abbrev bL:=(f2 BU (f2 DW (AY EK<|AG (AE 0)<|AG (f2 A4 (AE 1)<|AE 6) AN)<|f2 A4 (fC<|.int 1)<|AE 7)<|fB Dp<|AG (AE 8) AN)
noncomputable abbrev bw:=(f2 Cc (f2 BK (AE 7)<|AE 6)<|f2 BK Je<|fC<|.int 1)
noncomputable abbrev U4:=(AM (C8 5<|f2 A4 (AE 5)<|Bj<|AG (A5<|AG (AE 6)<|AG (AE 9) AN)<|AG (A5<|AG (AE 9)<|AG (AE 7) AN) AN)<|Az (AU bw) (Cr 4 Dm<|AG (A5 Qk) AN) A7)
def Zs:SF:=(AM (Aa 3<|AY Tv DH)<|AM (C8 4<|Bj AN)<|AM (C8 5<|Bj<|AG (A5 b7) AN)<|AM (Kv (AU<|f2 B3 (fB Dp<|AG (AE 5) AN)<|fC<|.int 0)<|AM (Ku 5<|HS 2 Qj)<|Az (AU VI) (AM (Aa 8<|BC (DK<|AG Qh<|AG (AE 7) AN) 1 [3,6,7] (Ac 0) bX<|AE 0)<|AM (Aa 9<|f2 Am (AE 8) bL) U4) A7)<|A0<|fB J6<|AG (AE 4) AN)
def P4:List PV->Option RV:=denote 10 3 Zs
noncomputable abbrev au:=(DV (f2 Cs (fB Hi<|AG D9 AN)<|fC<|.int 100)<|f2 Cs (fB Hi<|AG E4 AN)<|fC<|.int 100)
def Zi:SF:=(A0<|fB Fg<|AG (BC Jf 1 [] (Ac 0) Bh au) AN)
def Px:List PV->Option RV:=denote 1 1 Zi
def aB:SF:=(A0<|f2 BK (f2 Dq cK cM)<|f2 Dq cL cN)
def IE:List PV->Option RV:=denote 3 3 aB
noncomputable abbrev af:=(f2 CL (AY IE<|AG (f2 Am (AE 1)<|f2 BK (AE 0)<|fC<|.int 2)<|AG (f2 Am (AE 1)<|f2 BK (AE 0)<|fC<|.int 1)<|AG (f2 Am (AE 1)<|AE 0) AN)<|fC<|.int 0)
def qI:SF:=(A0<|fB Fg<|AG (BC Lw 1 [0] (Ac 0) Bh af) AN)
def Tg:List PV->Option RV:=denote 1 1 qI
noncomputable abbrev Ia:=(fB Dp C7)
noncomputable abbrev bN:=(A5<|AG (f2 Am (AE 1)<|AE 0)<|AG (f2 Am (AE 1)<|f2 BU (f2 A4 (AE 0)<|fC<|.int 1) Ia) AN)
def qZ:SF:=(A0<|BC Lw 1 [0] (Ac 0) Bh bN)
def NO:List PV->Option RV:=denote 1 1 qZ
def Zj:SF:=(A0<|f2 (BS false) (f2 BU (f2 BK (AE 2)<|AE 1)<|AE 0)<|A5<|AG (fC<|.int 1)<|AG (f2 BK (AE 0)<|fC<|.int 1) AN)
def Lb:List PV->Option RV:=denote 3 3 Zj
def Z7:SF:=(AM (Aa 2<|AY IE<|AG D9<|AG E4 Uz)<|AM (Aa 3<|AY IE<|AG D9 VB)<|A0<|Ef (DV (f2 Cc (AE 2)<|fC<|.int 0)<|f2 B3 (AE 3)<|fC<|.int 0)<|DV (f2 B3 (AE 2)<|fC<|.int 0)<|f2 Cc (AE 3)<|fC<|.int 0)
def NL:List PV->Option RV:=denote 4 2 Z7
noncomputable abbrev cA:=(AG (f2 Am (AE 2)<|fC<|.int 0)<|AG Nt AN)
noncomputable abbrev U0:=(AG (f2 Am (AE 3)<|fC<|.int 1) AN)
noncomputable abbrev cD:=(AG (f2 Am (AE 2)<|fC<|.int 1) U0)
def Uu:SF:=(AM (Aa 2 GR)<|AM (Aa 3 E3)<|AM (Az (AU<|f2 CL (AY IE Uy)<|fC<|.int 0) C6 A7)<|AM (Aa 4<|E8 Cs Cs (fB Hj cA) D9<|fB F5 cA)<|AM (Aa 5<|E8 Cs Cs (fB Hj cD) E4<|fB F5 cD)<|A0<|DV (AE 4)<|AE 5)
def HC:List PV->Option RV:=denote 6 2 Uu
def Z4:SF:=(AM (Az (Dh (AU<|AY NL Jd)<|AU<|AY NL HK) Ki A7)<|AM (Aa 2<|Ef (AY HC<|AG GR B9)<|AY HC<|AG E3 B9)<|AM (Aa 3<|Ef (AY HC<|AG D9 C7)<|AY HC<|AG E4 C7)<|A0<|Ef (AE 2)<|AE 3)
def Ld:List PV->Option RV:=denote 4 2 Z4
noncomputable abbrev U2:=(C0<|AG Ia AN)
noncomputable abbrev VC:=(AG (f2 A4 (AE 2)<|fC<|.int 1)<|AG Ia AN)
noncomputable abbrev Lx:=(AG (AE 2) E5)
noncomputable abbrev aj:=(Dh (Cz<|AU<|AY Lb<|AG Ia Lx)<|AU<|AY Ld<|AG (f2 Am (AE 1)<|AE 2)<|AG (f2 Am (AE 1)<|AE 3) AN)
noncomputable abbrev aX:=(Az aj C6 A7)
def aD:SF:=(AM (Aa 1<|AY NO B9)<|AM (B0 U2 (Ac 2)<|B0 (DK VC) (Ac 3) aX) Ki)
def UG:List PV->Option RV:=denote 4 1 aD
noncomputable abbrev Qe:=(CA false<|AY NO B9)
noncomputable abbrev cE:=(AG D9<|AG E4 AN)
noncomputable abbrev U8:=(AY IE<|AG (fC<|.tup [(.int 0),(.int 0)]) cE)
def qO:SF:=(A0<|fB Od<|AG (BC Qe 1 [] (Ac 0) Bh U8) AN)
def Tn:List PV->Option RV:=denote 1 1 qO
def Zo:SF:=(AM (Az (Cz<|AU<|E8 Cs Cs (fC<|.int 3) Ca<|fC<|.int 12) C6 A7)<|AM (Az (AU<|f2 CL (Kp<|AE 0) Ca) C6 A7)<|A0<|DV (AY Px B9)<|DV (AY Tg B9)<|DV (AY UG B9)<|f2 B3 (AY Tn B9)<|fC<|.int 0)
def Tq:List PV->Option RV:=denote 1 1 Zo
def Zm:SF:=(Az (Cz<|AU<|AY Tq B9) Q5 A7)
def Pz:List PV->Option RV:=denote 1 1 Zm
def qY:SF:=(A0<|fB Fg<|AG (BC (DK<|AG (fC<|.int 1) Nr) 1 [0] (Ac 0) Bh<|f2 (MO IU) (f2 Am (AE 1)<|f2 BK (AE 0)<|fC<|.int 1)<|f2 Am (AE 1)<|AE 0) AN)
def UC:List PV->Option RV:=denote 1 1 qY
noncomputable abbrev bZ:=(AY IE<|AG D9<|AG E4 C7)
def qX:SF:=(AM (Aa 2<|f2 B3 (f2 Am D9<|fC<|.int 1) E3)<|AM (Aa 3<|f2 B3 (f2 Am E4<|fC<|.int 1) E3)<|AM (Az (AU<|f2 Bn (AE 2)<|AE 3) C6 A7)<|AM (Aa 4 bZ)<|A0<|Ij (AU<|AE 3) (f2 B3 (AE 4)<|fC<|.int 0)<|f2 Cc (AE 4)<|fC<|.int 0)
def QC:List PV->Option RV:=denote 5 2 qX
def Z8:SF:=(AM (Az (AU<|fB J5<|AG (BC Jf 1 [1] (Ac 0) Bh<|AY HC HK) AN) (A0<|fC<|.str "on") A7)<|AM (Aa 2<|BC Jf 1 [1] (Ac 0) (AU<|AY QC Jd)<|AE 0)<|A0<|Ij (AU<|f2 Bn (f2 BU Je<|fC<|.int 2)<|fC<|.int 1) (fC<|.str "in")<|fC<|.str "out")
def UB:List PV->Option RV:=denote 3 2 Z8
noncomputable abbrev bJ:=(A5<|AG (f2 Dq (fC<|.int 2) D9)<|AG (f2 Dq (fC<|.int 2) E4) AN)
def Z5:SF:=(AM (Aa 2<|BC Jf 1 [] (Ac 0) Bh bJ)<|AM (Aa 3<|A5<|AG (f2 A4 (f2 Am GR<|fC<|.int 0)<|f2 Am E3<|fC<|.int 0)<|AG (f2 A4 (f2 Am GR<|fC<|.int 1)<|f2 Am E3<|fC<|.int 1) AN)<|A0<|f2 Bn (AY UB<|AG (AY NO DH) E5)<|fC<|.str "in")
def T9:List PV->Option RV:=denote 4 2 Z5
noncomputable abbrev ak:=(DJ (Cz<|AU<|Fb Cs Cc Cc (fC<|.int 0) (AE 1) (AE 2) Ca)<|AU<|AY Lb<|AG Ca Qi)
noncomputable abbrev bQ:=(Dh (AU<|f2 (DL true) GR<|AE 0)<|AU<|f2 (DL true) E3<|AE 0)
def Zn:SF:=(AM (Az ak C6 A7)<|AM (Aa 3<|A5 VF)<|AM (Aa 4<|BC Qe 1 [3] (Ac 0) bQ<|AE 0)<|AM (Az (AU<|fB J5<|AG (BC Ic 1 [3] (Ac 0) Bh<|AY Ld HK) AN) C6 A7)<|A0<|AY T9<|AG (AE 0) E5)
def NI:List PV->Option RV:=denote 5 3 Zn
def qL:SF:=(A0<|Ef (Fb Cc Cc Cc D9 GR E4 E3)<|Fb Cc Cc Cc GR D9 E3 E4)
def P0:List PV->Option RV:=denote 2 2 qL
noncomputable abbrev HL:=(CA false<|AE 1)
def qM:SF:=(A0<|Kq<|fB J5<|AG (BC HL 1 [0] (Ac 0) Bh<|AY P0 HK) AN)
def Tj:List PV->Option RV:=denote 2 2 qM
noncomputable abbrev ba:=(AY NI<|AG (AE 1) cE)
def qN:SF:=(AM (Az (AU<|f2 CL Ia<|f2 BK Ca<|fC<|.int 3) C6 A7)<|AM (Az (DJ (Cz<|AU<|AY UC C7)<|Cz<|AU<|fB Fg<|AG (BC HL 1 [0] (Ac 0) Bh ba) AN) C6 A7)<|A0<|fB Fg<|AG (BC U2 1 [1] (Ac 0) Bh<|AY Tj<|AG (f2 Am (AE 1)<|AE 0)<|AG (F2 (AE 1) GS<|F1<|AE 0) AN) AN)
def P1:List PV->Option RV:=denote 2 2 qN
def qK:SF:=(Az (Cz<|AU<|AY P1 Jd) Q5 A7)
def Lc:List PV->Option RV:=denote 2 2 qK
def Zl:YF:=(Ka (AU<|f2 B3 Ca<|fC<|.int 8) (YW "TooMany")<|yL A7)
def Py:List PV->Option RV:=Fz 1 1 Zl
def US:List PV->Option PySem.Str:=Jc 1 1 Zl
def qJ:SF:=(A0<|Ef (AY Lb<|AG (AE 0) Lx)<|f2 (DL false) (A5<|AG (fB Hj Lx)<|AG (fB F5 Lx) AN)<|AE 1)
def NH:List PV->Option RV:=denote 4 4 qJ
noncomputable abbrev bp:=(AY NH<|AG (AE 1)<|AG (AE 2)<|AG (AE 0)<|AG Nt AN)
def Z9:SF:=(AM (Aa 3<|BC (C0 B9) 1 [0,1,2] (Ac 0) (AU bp)<|AE 0)<|A0<|BC (CA false<|AE 3) 1 [0,1,2] (Ac 0) (AU<|AY NH<|AG (AE 1)<|AG (AE 2)<|AG (AE 0) U0)<|AE 0)
def NM:List PV->Option RV:=denote 4 3 Z9
noncomputable abbrev cU:=(AY NH<|AG (AE 0)<|AG (AE 1)<|AG (AE 3)<|AG (AE 4) AN)
noncomputable abbrev b8:=(AY NM<|AG (AE 0)<|AG (AE 1)<|AG (A5<|AG (AE 3)<|AG (AE 4) AN) AN)
noncomputable abbrev bW:=(BC (CA false<|AE 5) 1 [4,3] (Ac 0) (AU<|f2 B3 (AE 0)<|AE 1)<|A5<|AG (AE 2) HK)
noncomputable abbrev cO:=(Az (AU cU) (AM (Aa 5 b8)<|Cr 2 MM<|AG bW AN) A7)
def aA:SF:=(AM (C8 2<|Bj AN)<|AM (B0 (C0 B9) (Ac 3)<|B0 (DK<|AG (f2 A4 (AE 3)<|fC<|.int 1) B9) (Ac 4) cO)<|Js 2)
def UD:List PV->Option RV:=denote 6 2 aA
def qP:SF:=(AM (C8 1<|Bj AN)<|AM (B0 (CA true<|AE 0) (Ac 2)<|Cr 1 MM DH)<|A0<|f2 Am (BC HL 1 [1] (Ac 0) (AU<|f2 Bn (f2 Oa (AE 1)<|AE 0)<|fC<|.int 1)<|AE 0)<|fC<|.int 0)
def To:List PV->Option RV:=denote 3 1 qP
noncomputable abbrev U7:=(AM (Aa 3<|AY To DH)<|AM (Cr 1 Dm E5)<|Aa 2<|BC (CA false<|AE 2) 1 [3] (Ac 0) (AU<|f2 (DL true) (AE 1)<|AE 0)<|AE 0)
def qQ:SF:=(AM (C8 1<|Bj AN)<|AM (Aa 2<|fB Gi B9)<|AM (Kv (Hz<|AE 2) U7)<|Js 1)
def Tp:List PV->Option RV:=denote 4 1 qQ
noncomputable abbrev cF:=(AG Nt U0)
def Z6:SF:=(AM (Aa 3<|AY NM<|AG Ca Qi)<|A0<|A5 cF)
def QA:List PV->Option RV:=denote 4 3 Z6
def Zk:SF:=(AM (Aa 3<|AY QA Ly)<|A0<|AY NI<|AG (AE 0) cF)
def Th:List PV->Option RV:=denote 4 3 Zk
noncomputable abbrev cH:=(Dh (AU<|f2 (DL false) (AE 1)<|AE 0)<|AU<|f2 (DL true) (AE 0)<|AE 2)
def Z3:SF:=(AM (Aa 4<|BC HL 1 [3,2] (Ac 0) cH<|AE 0)<|A0<|BC Ic 1 [0,1] (Ac 0) (AU<|AY Th<|AG (AE 1)<|AG (AE 2) B9)<|AE 0)
def T8:List PV->Option RV:=denote 5 4 Z3
def aC:SF:=(AM (Aa 3<|BC HL 1 [2] (Ac 0) (AU<|f2 CL (AE 0)<|AE 1)<|AE 0)<|A0<|fB J6<|AG (f2 A4 (AE 3)<|Bj<|AG (AY QA Ly) AN) AN)
def UE:List PV->Option RV:=denote 4 3 aC
noncomputable abbrev Qm:=(Aa 6<|AY T8<|AG (AE 0)<|AG (AE 4)<|AG (AE 2)<|AG (AE 5) AN)
noncomputable abbrev VG:=(Cr 3 Dm<|AG (f2 Am (AE 6)<|fC<|.int 0) AN)
noncomputable abbrev bu:=(Aa 4<|AY UE<|AG (AE 0)<|AG (AE 4)<|AG (f2 Am (AE 6)<|fC<|.int 0) AN)
def Qc:YF:=(Dz (yL<|F3<|AY Pz B9)<|Dz (yL<|F3<|AY Lc Jd)<|Dz (yL<|F3<|AY Lc<|AG (AE 0) DH)<|Dz (IC Py US B9)<|Dz (yL<|C8 3<|Bj AN)<|Dz (yL<|Aa 4<|fB Gi C7)<|Dz (yL<|B0 (CA true<|AY Tp<|AG (AY UD<|AG Ca DH) AN) (Ac 5)<|AM Qm<|Kv (Hz<|AE 6)<|AM VG<|AM bu Qm)<|yL<|Js 3)
def Lf:List PV->Option RV:=Fz 7 3 Qc
def QK:List PV->Option PySem.Str:=Jc 7 3 Qc
def qU:SF:=(AM (Aa 1<|Bj<|AG (Il ["TooMany"] 0 "NoRoom")<|AG (Il ["TooMany"] 0 "NoCut")<|AG (Il ["TooMany"] 0 "NoPoint") AN)<|AM (Aa 1<|f2 A4 (AE 1)<|Bj<|AG (Il ["TooMany"] 0 "NoTurn")<|AG (Il ["TooMany"] 0 "TooMany") AN)<|AM (Az (DJ (Cz<|AU<|Il ["TooMany"] 0 "ValueError")<|AU<|f2 CL (f2 Rh (AE 1)<|fC<|.bl true)<|fC<|.int 1) (A0<|fC<|.int 9) A7)<|A0<|f2 Rk (AE 1)<|fC<|.bl true)
def Yc:PySem.Str->Option RV:=Qd 2 qU
def Ut:YF:=(Dz (yL<|Aa 3<|L3<|fC<|.int 1)<|Dz (Pj 5 4 ["TooMany"] (IC Lf QK Ly)<|N9 3 4 Yc)<|yL<|A0<|AE 3)
def Tw:List PV->Option RV:=Fz 5 3 Ut
def nS:List PV->Option PySem.Str:=Jc 5 3 Ut
def qV:SF:=(A0<|DV (Ik "int"<|AE 0)<|Kq<|Ik "bool"<|AE 0)
def T6:List PV->Option RV:=denote 1 1 qV
noncomputable abbrev aN:=(Az (DJ (Cz<|AU<|Qx<|AE 1)<|DJ (AU<|f2 CL Ia<|fC<|.int 2)<|DJ (Cz<|AU<|AY T6 Uz)<|Cz<|AU<|AY T6<|AG E3 AN) C6 A7)
def qR:SF:=(AM (Az (Cz<|AU<|Ik "list"<|AE 0) C6 A7)<|AM (B0 (CA true<|AE 0) (Ac 1) aN) Ki)
def P7:List PV->Option RV:=denote 2 1 qR
noncomputable abbrev aO:=(BC (CA false<|AE 7) 1 [1,2] (Ac 0) (DJ (AU<|f2 (BS false) (f2 BK E4 D9)<|Bj Qp)<|AU<|f2 (DL false) (AE 0)<|AE 1)<|AE 0)
noncomputable abbrev U6:=(AM (Aa 7<|Bj<|AG (A5<|AG (AE 4)<|AG (AE 5) AN)<|AG (A5<|AG (AE 5) Kj)<|AG (A5<|AG (AE 4) Kj) AN)<|Az (AU<|f2 Bn (fB Dp<|AG aO AN)<|fC<|.int 3) (Cr 3 Dm<|AG (A5<|AG (AE 4)<|AG (AE 5) Kj) AN) A7)
def Zz:SF:=(AM (Aa 2 Ca)<|AM (C8 3<|Bj AN)<|AM (B0 Nv (Ac 4)<|B0 (DK<|AG Qg DH) (Ac 5)<|B0 (DK<|AG (f2 A4 (AE 5)<|fC<|.int 1) DH) (Ac 6) U6)<|Js 3)
def Tx:List PV->Option RV:=denote 8 2 Zz
noncomputable abbrev aV:=(BC (CA false<|Kn (Dj Tx)<|AG (AE 0) E5) 1 [4] (Ac 0) (Dh (AU<|f2 (DL false) GR<|AE 0)<|AU<|f2 (DL false) E3<|AE 0)<|AE 0)
noncomputable abbrev bC:=(BC (CA false<|AE 5) 1 [4] (Ac 0) Bh<|f2 BK (f2 BK (fB Ro B9) GR) E3)
noncomputable abbrev cV:=(AG (fB Oc Kj)<|AG (fB Ob Kj) AN)
noncomputable abbrev cG:=AG (AE 0) cV
noncomputable abbrev Ux:=(AM (Az (AU<|f2 (DL true) (AE 4)<|AE 3) (A0<|fC .Au) A7)<|AM (Aa 5 aV)<|AM (Aa 6 bC)<|AM (Az (Cz<|AU<|AY P6 cG) (A0<|fC .Au) A7)<|C8 3<|fB J6<|AG (f2 A4 (BC (CA false<|AE 3) 1 [4] (Ac 0) (AU<|f2 CL (AE 0)<|AE 1)<|AE 0)<|Bj<|AG (A5 cV) AN) AN)
def Z2:SF:=(AM (Az (DJ (Cz<|AU<|AY P7 DH)<|AU<|f2 B3 Je<|fC<|.int 60) (A0<|fC .Au) A7)<|AM (C8 3<|fB Gi C7)<|AM (B0 (CA true<|AE 2) (Ac 4) Ux)<|Js 3)
def T5:List PV->Option RV:=denote 7 3 Z2
noncomputable abbrev bg:=(f2 Bn (f2 BU (AY EK<|AG (AE 0)<|AG (fC<|.int 60) AN)<|fC<|.int 8)<|fC<|.int 1)
noncomputable abbrev cJ:=(Aa 1<|AY P9<|AG (AE 0)<|AG (fC<|.int 0)<|AG (fC<|.int 12) AN)
noncomputable abbrev bj:=(f2 Bn (f2 BU (AY EK<|AG (AE 0)<|AG (fC<|.int 61) AN)<|fC<|.int 8)<|fC<|.int 1)
noncomputable abbrev av:=(DJ (AU<|f2 CL (Kn (Dj T5)<|AG (AE 1)<|AG (AE 2) Kj)<|AE 3)<|AU<|f2 CL (AE 4)<|Bj<|AG (AE 1) Lx)
noncomputable abbrev cT:=(Dh (AU<|f2 Bn (AE 2)<|AE 3)<|AU<|f2 CL (AE 6)<|Bj AN)
noncomputable abbrev U9:=(AM (C8 6<|AY Lf<|AG (f2 Am (AE 4)<|fC<|.int 0)<|AG (f2 Am (AE 4)<|fC<|.int 1)<|AG (f2 Am (AE 4)<|fC<|.int 2) AN)<|AM (Az av C6 A7)<|AM (Az cT C6 A7)<|Cr 6 Dm<|AG VH AN)
def Zp:SF:=(AM (Aa 1<|AY P9<|AG (AE 0)<|AG (fC<|.int 0)<|AG (fC<|.int 8) AN)<|AM (Az (AU bg) cJ A7)<|AM (Aa 2<|AY P4<|AG (AE 0)<|AG (fC<|.int 20) C7)<|AM (Aa 3<|AY P4<|AG (AE 0)<|AG (fC<|.int 34) C7)<|AM (Az (AU bj) (Aa 3<|fB Gi DH) A7)<|AM (Az (AU<|f2 B3 Ia<|fC<|.int 8) (A0<|f2 Bn (AY Tw<|AG (AE 1) Lx)<|fC<|.int 4) A7)<|AM (Aa 4<|Bj<|AG (fB Gi C7)<|AG (fB Gi DH)<|AG (fB Gi E5) AN)<|AM (B0 (C0<|AG (fC<|.int 2) AN) (Ac 5) U9) Ki)
def P2:List PV->Option RV:=denote 7 1 Zp
end L2.K
set_option linter.all false
namespace AH
abbrev Pt:=Int×Int
noncomputable def AD(a b p:Pt):Int:=(b.1-a.1)*(p.2-a.2)-(b.2-a.2)*(p.1-a.1)
def Aj(a b p:Pt):Bool:=decide (AD a b p=0)&&(decide (min a.1 b.1<=p.1/\p.1<=max a.1 b.1)&&decide (min a.2 b.2<=p.2/\p.2<=max a.2 b.2))
def On(a b p:Pt):Prop:=AD a b p=0/\(min a.1 b.1<=p.1/\p.1<=max a.1 b.1)/\(min a.2 b.2<=p.2/\p.2<=max a.2 b.2)
theorem F8{a b p:Pt}:Aj a b p=true↔On a b p:=by simp[Aj,On]
theorem QR{p q u d:Int}(z:0<q)(v:0<=p)(Z:p<=q)(e:q*u=p*d):(0<=u/\u<=d)\/(d<=u/\u<=0):=by
 rcases AHi 0 d with hd|hd
 .left;have y:0<=q*u:=by rw[e];exact AFy v hd
  have h3:q*u<=q*d:=by rw[e];exact AGB Z hd
  exact⟨AG3 (by simpa using y) z,AG3 h3 z⟩
 .right;have y:q*u<=0:=by rw[e];exact AGm v hd
  have h3:q*d<=q*u:=by rw[e];exact Int.mul_le_mul_of_nonpos_right Z hd
  exact⟨AG3 h3 z,AG3 (by simpa using y) z⟩
theorem yY{a b c d:Pt}(h:AD a b c=0)(hs:(AD c d a>0/\AD c d b<=0)\/(AD c d a<=0/\AD c d b>0)\/(AD c d a<0/\AD c d b>=0)\/(AD c d a>=0/\AD c d b<0)):On a b c:=by
 refine⟨h,?_⟩;obtain⟨v,Z⟩:=a;obtain⟨b1,b2⟩:=b;obtain⟨z,y⟩:=c;obtain⟨D,F⟩:=d;simp only[AD]at *
 have Y:∀p q:Int,0<q->0<=p->p<=q->q*(z-v)=p*(b1-v)->q*(y-Z)=p*(b2-Z)->(min v b1<=z/\z<=max v b1)/\(min Z b2<=y/\y<=max Z b2):=by intro p q Q O h3 G S;have r1:=QR Q O h3 G;have r2:=QR Q O h3 S;simp only[AKM,AKN];lia
 generalize P:(D-z)*(y-Z)-(F-y)*(z-v)=eu;generalize hd:(D-z)*(b2-Z)-(F-y)*(b1-v)=ed;have T:(D-z)*(Z-y)-(F-y)*(v-z) = -eu:=by rw[<-P];grind
 have C:(D-z)*(b2-y)-(F-y)*(b1-z)=ed-eu:=by rw[<-P,<-hd];grind
 have R:ed*(z-v)=eu*(b1-v):=by rw[<-P,<-hd];grind
 have B:ed*(y-Z)=eu*(b2-Z):=by rw[<-P,<-hd];grind
 rw[T,C]at hs;have E:(0<=eu/\eu<=ed/\0<ed)\/(eu<=0/\ed<=eu/\ed<0):=by clear h P;lia
 rcases E with⟨Q,O,h3⟩|⟨Q,O,h3⟩
 .exact Y eu ed h3 Q O R B
 .exact Y (-eu) (-ed) (Ot h3) U U (by rw[AHy,AHy,R])<|by rw[AHy,AHy,B]
theorem SO{a b c d:Pt}(n:¬ On a b c)(h:AD a b c=0):(0<AD c d a↔0<AD c d b)/\(AD c d a<0↔AD c d b<0):=by have k:=λz=>n<|yY (d:=d) h z;refine⟨⟨λz=>AHY.mp λy=>k<|.inl ⟨z,y⟩,λz=>AHY.mp λy=>k<|.inr<|.inl ⟨y,z⟩⟩,λz=>AHY.mp λy=>k<|.inr<|.inr<|.inl ⟨z,y⟩,λz=>AHY.mp λy=>k<|.inr<|.inr<|.inr ⟨y,z⟩⟩
theorem C3(a b p:Pt):AD b a p = - AD a b p:=by simp only[AD];grind
theorem FQ(a b:Pt):AD a b a=0/\AD a b b=0:=by unfold AD;exact⟨AFm,AFm⟩
theorem CG(a b c:Pt):AD b c a=AD a b c:=by unfold AD;grind
theorem i8{a b p:Pt}(h:On a b p):On b a p:=by obtain⟨z,h2,h3⟩:=h;refine⟨by rw[C3,z];rfl,?_,?_⟩<;>grind
def parts(a b c d:Pt):Bool:=(decide (AD a b c<0)&&decide (AD a b d>0))||(decide (AD a b c>0)&&decide (AD a b d<0))
def A8(a b c d:Pt):Bool:=(parts a b c d&&parts c d a b)||((Aj a b c||Aj a b d)||(Aj c d a||Aj c d b))
def BP(a b c d:Pt):Bool:=(Aj a b c||Aj a b d||Aj c d a||Aj c d b)||((decide (AD a b c>0) != decide (AD a b d>0))&&(decide (AD c d a>0) != decide (AD c d b>0)))
theorem KN{x y:Int}(h:(x≠0/\y≠0)\/(0<x↔0<y)):(decide (0<x) != decide (0<y))=(decide (x<0)&&decide (0<y)||decide (0<x)&&decide (y<0)):=by by_cases c:0<x<;>by_cases d:0<y<;>simp[c,d]at h ⊢ <;> lia
theorem R9(a b c d:Pt):BP a b c d=A8 a b c d:=by
 by_cases v:Aj a b c=true
 .simp[BP,A8,v]
 by_cases p:Aj a b d=true
 .simp[BP,A8,p]
 by_cases h3:Aj c d a=true
 .simp[BP,A8,h3]
 by_cases Z:Aj c d b=true
 .simp[BP,A8,Z]
 have k1:=SO (d:=d) λz=>v<|F8.mpr z;have k2:=SO (d:=c) λz=>p<|F8.mpr z;have k3:=SO (d:=b) λz=>h3<|F8.mpr z;have Y:=SO (d:=a) λz=>Z<|F8.mpr z;rw[C3 c d a,C3 c d b,AIb,AIb]at k2;rw[C3 a b c,C3 a b d,AIb,AIb]at Y;simp[BP,A8,parts,v,p,h3,Z];by_cases y:0<AD a b c↔0<AD a b d
 .rw[<-KN<|.inr y,AI0.mpr y,AIp,AIK,AIK]
 .by_cases q:0<AD c d a↔0<AD c d b
  .rw[<-KN<|.inr q,AI0.mpr q,AIp,AI9,AI9]
  .rw[<-KN<|.inl ⟨λe=>q (k1 e).1,λe=>q (k2 e).2⟩,<-KN<|.inl ⟨λe=>y (k3 e).1,λe=>y (Y e).2⟩]
theorem SW(a b p:Pt):Aj a b p=Aj b a p:=by rw[AHM,F8,F8];exact⟨i8,i8⟩
theorem meet_comm(a b c d:Pt):A8 a b c d=A8 c d a b:=by simp only[A8];rw[Bool.and_comm<|parts a b c d,AJ7 (Aj a b c||Aj a b d)]
noncomputable def AA(r:List Pt)(i:Int):Pt:=r.getD (i%(r.length:Int)).toNat (0,0)
theorem E2(r:List Pt)(i:Int):AA r (i+r.length)=AA r i:=by unfold AA;rw[AJG]
def M(r:List Pt)(i j:Int):Bool:=A8 (AA r i) (AA r<|i+1) (AA r j)<|AA r<|j+1
theorem HE(r:List Pt)(i j:Int):M r i j=M r j i:=meet_comm ..
theorem Yp(r:List Pt)(i j:Int):M r (i+r.length) j=M r i j:=by unfold M;simp only[E2,show i+(r.length)+1=i+1+r.length by lia,E2]
noncomputable def nb(n d:Int):Bool:=(d%n==1)||(d%n==n-1)
theorem O6{n d:Int}(h0:0<d)(z:d<n):nb n d=(d==1||d==n-1):=by unfold nb;rw[AFt U z]
def Nc(r:List Pt):Prop:=∀k m:Int,0<=k->k<m->m<r.length->nb r.length (m-k)=false->M r k m=false
def UW(r:List Pt):Prop:=∀k j:Int,0<=j->j<k->k<r.length->nb r.length (k-j)=false->M r (k-1) (j-1)=false
set_option tactic.hygienic false
theorem nW(r:List Pt):UW r↔Nc r:=by
 constructor
 .intro h k m z y q hn;by_cases hm:m+1<r.length
  .have:=h (m+1) (k+1) (ET z) U hm (by rw[show m+1-(k+1)=m-k by lia];exact hn);rw[show m+1-1=m from MW,show k+1-1=k from MW]at this;rw[HE];exact this
  .have v:m=r.length-1:=U
   subst v;have:=h (k+1) 0 Bb AFo AFo (by rw[O6 AFo AFo]at hn ⊢;simp only[AGf,AGK]at hn ⊢;lia)
   rw[show k+1-1=k from MW,HE,<-Yp,HE]at this;exact this
 .intro h k j z y q hn;by_cases hj:0<j
  .have:=h (j-1) (k-1) U U U (by rw[show k-1-(j-1)=k-j by lia];exact hn);rw[HE];exact this
  .have p:j=0:=U
   subst p;have:=h (k-1) (r.length-1) U (by
    rw[O6 U U]at hn;simp only[AGf,AGK]at hn;lia) U (by
    rw[O6 U U]at hn;simp only[AGf,AGK]at hn;rw[O6 U U];lia)
   rw[HE,<-Yp,HE];exact this
noncomputable def Af(f:Int->Int):Nat->Int
 |0=>0
 |n+1=>Af f n+f n
theorem kd(f:Int->Int):∀n:Nat,Af (λk=>f<|k-1) (n+1)=f (-1)+Af f n
 |0=>by simp[Af]
 |n+1=>by
  rw[Af,kd f n,Af];simp only[Int.natCast_add,Int.natCast_one]at *
  lia
theorem X6(f:Int->Int)(n:Nat)(h:∀i,f (i+n)=f i):Af (λk=>f<|k-1) n=Af f n:=by
 cases n with
 |zero=>rfl
 |succ n=>
  rw[kd,Af,<-h (-1)];have:(-1:Int)+((n+1:Nat))=n:=U
  rw[this];lia
noncomputable def Bz(a b:Pt):Int:=a.1*b.2-a.2*b.1
def Lo(r:List Pt):Int:=Af (λk=>Bz (AA r<|k-1)<|AA r k) r.length
def CH(r:List Pt):Int:=Af (λk=>Bz (AA r k)<|AA r<|k+1) r.length
theorem ng(r:List Pt):Lo r=CH r:=by
 have:=X6 (λk=>Bz (AA r k)<|AA r<|k+1) r.length (λi=>by simp only[E2,show i+(r.length)+1=i+1+r.length by lia,E2])
 simp only[CH,<-this,Lo]
 congr 1
 funext k
 rw[show k-1+1=k from DZ]
def At(a b p:Pt):Prop:=∃q s:Int,0<q/\0<=s/\s<=q/\q*(p.1-a.1)=s*(b.1-a.1)/\q*(p.2-a.2)=s*(b.2-a.2)
theorem Gn{a b p:Pt}(h:At a b p):On a b p:=by
 obtain⟨q,s,y,v,Z,Y,z⟩:=h;have Q:=QR y v Z Y;have O:=QR y v Z z;refine⟨?_,by clear O;simp only[AKM,AKN];lia,by clear z Q;simp only[AKM,AKN];lia⟩;have hz:q*AD a b p=0:=by
  have:q*AD a b p=(b.1-a.1)*(q*(p.2-a.2))-(b.2-a.2)*(q*(p.1-a.1)):=by unfold AD;grind
  simp only[this,Y,z];grind
 rcases AGJ.mp hz with h|h
 .lia
 .exact h
theorem Nd{a b p:Pt}(h:On a b p):At a b p:=by
 obtain⟨hs,h1,h2⟩:=h;unfold AD at hs;by_cases z:b.1-a.1=0
 .by_cases y:b.2-a.2=0
  .exact⟨1,0,J9,Bb,C2,U,U⟩
  .have hp:p.1-a.1=0:=U
   rcases AGW y with BI|Jv
   .exact⟨-(b.2-a.2),-(p.2-a.2),AFm,AFm,AFm,by rw[z,hp];lia,AFm⟩
   .exact⟨b.2-a.2,p.2-a.2,AFr,AFm,AFm,by rw[z,hp];lia,AFm⟩
 .rcases AGW z with BI|Jv
  .exact⟨-(b.1-a.1),-(p.1-a.1),AFm,AFm,AFm,AFm,AFm⟩
  .exact⟨b.1-a.1,p.1-a.1,AFr,AFm,AFm,AFm,AFm⟩
theorem SX{a b p:Pt}:On a b p↔At a b p:=⟨Nd,Gn⟩
def Bm(a b c d:Pt):Prop:=∃q s t:Int,0<q/\0<=s/\s<=q/\0<=t/\t<=q/\q*a.1+s*(b.1-a.1)=q*c.1+t*(d.1-c.1)/\q*a.2+s*(b.2-a.2)=q*c.2+t*(d.2-c.2)
theorem Bm.symm{a b c d:Pt}(h:Bm a b c d):Bm c d a b:=by obtain⟨q,s,t,z,y,h3,v,p,Z,Y⟩:=h;exact⟨q,t,s,z,v,p,y,h3,Z.symm,Y.symm⟩
theorem Sz{a b c d:Pt}(h:At a b c):Bm a b c d:=by obtain⟨q,s,z,y,v,e1,e2⟩:=h;exact⟨q,s,0,z,y,v,Bb,U,AFm,AFm⟩
theorem Xr{a b c d:Pt}(h:At a b d):Bm a b c d:=by obtain⟨q,s,z,y,v,e1,e2⟩:=h;exact⟨q,s,q,z,y,v,U,ED,AFm,AFm⟩
theorem ADD{a b c d:Pt}(q:parts a b c d=true)(v:parts c d a b=true):Bm a b c d:=by
 have i1:AD a b c-AD a b d=AD c d b-AD c d a:=by unfold AD;grind
 have z:(AD c d a-AD c d b)*a.1+AD c d a*(b.1-a.1)=(AD c d a-AD c d b)*c.1 + -(AD a b c)*(d.1-c.1):=by unfold AD;grind
 have y:(AD c d a-AD c d b)*a.2+AD c d a*(b.2-a.2)=(AD c d a-AD c d b)*c.2 + -(AD a b c)*(d.2-c.2):=by unfold AD;grind
 simp only[parts,AGv,AFw,AF2]at q v;generalize AD a b c=x1 at *
 generalize AD c d a=y1 at *
 generalize AD c d b=y2 at *
 by_cases p:y1-y2>0
 .exact⟨y1-y2,y1,-x1,p,U,U,U,U,z,y⟩
 .refine⟨-(y1-y2),-y1,x1,U,U,U,U,U,?_,?_⟩
  .have : -(y1-y2)*a.1 + -y1*(b.1-a.1) = -((y1-y2)*a.1+y1*(b.1-a.1)):=AFm
   rw[this,z];grind
  .have : -(y1-y2)*a.2 + -y1*(b.2-a.2) = -((y1-y2)*a.2+y1*(b.2-a.2)):=AFm
   rw[this,y];grind
theorem Xs{a b c d:Pt}(h:A8 a b c d=true):Bm a b c d:=by
 simp only[A8,AGv,AFw,F8]at h;rcases h with⟨z,y⟩|(h|h)|(h|h)
 .exact ADD z y
 .exact Sz<|Nd h
 .exact Xr<|Nd h
 .exact(Sz<|Nd h).symm
 .exact(Xr<|Nd h).symm
theorem iP{a b c d:Pt}(h:¬ Bm a b c d):A8 a b c d=false:=by
 cases e:A8 a b c d with
 |false=>rfl
 |true=>exact absurd (Xs e) h
theorem Fx(r:List Pt)(i:Int):AA r (i%r.length)=AA r i:=by unfold AA;rw[AGY _<|AHD _]
theorem Yq(r:List Pt)(i j:Int):M r (i%r.length) j=M r i j:=by
 unfold M;have h:AA r (i%r.length+1)=AA r (i+1):=by unfold AA;rw[Int.emod_add_emod]
 simp only[h,Fx]
theorem nK(r:List Pt)(i j:Int):M r i (j%r.length)=M r i j:=by rw[HE,Yq,HE]
def Bt(n d:Int):Prop:=d%n≠0/\d%n≠1/\d%n≠n-1
theorem Bt.neg{n d:Int}(hn:2<=n)(h:Bt n d):Bt n (-d):=by
 obtain⟨z,h1,h2⟩:=h;have a:=AGQ d (b:=n) U;have b:=AGI d (b:=n) U;have e:(-d)%n=n-d%n:=by
  have : -d=(n-d%n)+n*(-(d / n)-1):=by
   have:=AHV d n
   grind
  rw[this,AG9,AFt AFm U]
 exact⟨AFo,by clear b;lia,by clear z;lia⟩
theorem dZ{n d:Int}(y:0<d)(z:d<n)(h:nb n d=false):Bt n d:=by rw[O6 y z]at h;simp only[AGf,AGK]at h;unfold Bt;rw[AFt AFm z];lia
theorem ic{n d:Int}(h:Bt n d):nb n d=false:=by unfold nb;simp only[AGf,AGK];exact⟨h.2.1,h.2.2⟩
def UX(r:List Pt):Prop:=∀i j:Int,Bt r.length (i-j)->M r i j=false
theorem UY{r:List Pt}(hn:2<=r.length)(h:Nc r):UX r:=by
 intro i j q;rw[<-Yq,<-nK];have v:=AGQ i (b:=(r.length)) U;have p:=AGI i (b:=(r.length)) U;have b1:=AGQ j (b:=(r.length)) U;have b2:=AGI j (b:=(r.length)) U;have z:Bt r.length<|i%r.length-j%r.length:=by
  unfold Bt at *
  rw[<-AHI];exact q
 generalize i%(r.length)=x at *
 generalize j%(r.length)=y at *
 rcases AHc x y with BI|heq|Jv
 .exact h x y v BI b2 (ic (by rw[show y-x = -(x-y)by lia];exact(z.neg U)))
 .exfalso;apply z.1;rw[heq,AGi];rfl
 .rw[HE];exact h y x b1 Jv p<|ic z
theorem nV{r:List Pt}(h:UX r):Nc r:=λk m h0 z h2 hn=>by rw[HE];exact h m k<|dZ (Fi z) U hn
structure Rm(r:List Pt):Prop where
 l3:3<=r.length
 Og:r.length<=12
 nd:r.Nodup
 Ni:∀k:Int,AD (AA r<|k-2) (AA r<|k-1) (AA r k)≠0
 apart:UX r
 HJ:0<CH r
structure Keeps(T:Pt->Pt)(d:Int):Prop where
 one:d=1\/d = -1
 sd:∀a b c,AD (T a) (T b) (T c)=d*AD a b c
 at_:∀a b p,At (T a) (T b) (T p)↔At a b p
 inj:∀a b,T a=T b->a=b
theorem Keeps.on{T:Pt->Pt}{d:Int}(k:Keeps T d)(a b p:Pt):Aj (T a) (T b) (T p)=Aj a b p:=by rw[AHM,F8,F8,SX,SX];exact k.at_ a b p
theorem Keeps.parts{T:Pt->Pt}{d:Int}(k:Keeps T d)(a b c e:Pt):AH.parts (T a) (T b) (T c) (T e)=AH.parts a b c e:=by
 unfold AH.parts;rw[k.sd,k.sd];rcases k.one with rfl|rfl
 .rw[AHX,AHX]
 .lia
theorem Keeps.meet{T:Pt->Pt}{d:Int}(k:Keeps T d)(a b c e:Pt):A8 (T a) (T b) (T c) (T e)=A8 a b c e:=by unfold A8;simp only[k.parts,k.parts,k.on,k.on,k.on,k.on]
theorem GO{T:Pt->Pt}{r:List Pt}(h:0<r.length)(i:Int):AA (r.map T) i=T (AA r i):=by
 unfold AA;have b:=AGI i (b:=(r.length))<|F7 h;have hi:(i%(r.length)).toNat<r.length:=U
 simp[List.getD,hi]
theorem Qa{r:List Pt}(h:0<r.length)(i:Int):AA r.reverse i=AA r (-1-i):=by
 unfold AA;rw[AIa];have a:=AGQ i (b:=(r.length))<|MX h;have b:=AGI i (b:=(r.length))<|F7 h;have e:(-1-i)%(r.length)=r.length-1-i%r.length:=by
  have : -1-i=(r.length-1-i%r.length)+r.length*(-(i / r.length)-1):=by
   have:=AHV i r.length
   grind
  rw[this,AG9,AFt U U]
 rw[e];have hi:(i%(r.length)).toNat<r.length:=U
 have z:(r.length-1-i%(r.length)).toNat=r.length-1-(i%(r.length)).toNat:=AFm
 simp only[z,List.getD,List.getD,List.getElem?_reverse hi]
theorem qB{r:List Pt}{n:Nat}(hn:n<=r.length)(h:0<r.length)(i:Int):AA (r.drop n++r.take n) i=AA r (i+n):=by
 have q:(r.drop n++r.take n).length=r.length:=by simp;grind
 unfold AA;rw[q,AHJ i];have a:=AGQ i (b:=(r.length))<|MX h;have b:=AGI i (b:=(r.length))<|F7 h;generalize z:i%(r.length)=x at *
 simp only[List.getD,List.getD];by_cases y:n=r.length
 .subst y;simp only[AGk,AGG,AJR,List.take_length,AHN];rw[AFt a b]
 rw[AFt (a:=(n)) Br U];by_cases hc:x+n<r.length
 .rw[AFt (by clear z;lia) hc,AGX (by simp;lia),List.getElem?_drop]
  congr 2;subst z;lia
 .have e:(x+n)%(r.length)=x+n-r.length:=by rw[<-Int.sub_emod_right,AFt AFm (by clear z y;lia)]
  rw[AGa (by simp;subst z;lia),List.getElem?_take,AFu (by simp;clear z a;lia)]
  congr 2;simp;clear z a;lia
theorem Cj{f g:Int->Int}:∀{n:Nat},(∀i:Nat,i<n->f i=g i)->Af f n=Af g n
 |0,_=>rfl
 |n+1,h=>by rw[Af,Af,Cj λi hi=>h i<|En hi,h n EU]
theorem Pc(f g:Int->Int):∀n:Nat,Af (λk=>f k+g k) n=Af f n+Af g n
 |0=>rfl
 |n+1=>by simp only[Af,Af,Af,Pc f g n];lia
theorem X7(c:Int)(f:Int->Int):∀n:Nat,Af (λk=>c*f k) n=c*Af f n
 |0=>by simp[Af]
 |n+1=>by simp only[Af,Af,X7 c f n,Int.mul_add]
theorem X9(f:Int->Int):∀n:Nat,Af (λk=>f (k+1)-f k) n=f n-f 0
 |0=>by simp[Af]
 |n+1=>by
  rw[Af,X9 f n];have:((n+1:Nat):Int)=n+1:=U
  rw[this];lia
theorem X8(f:Int->Int)(n:Nat)(h:∀i,f (i+n)=f i):∀m:Nat,Af (λk=>f<|k+m) n=Af f n
 |0=>Cj λi _=>AFn
 |m+1=>by
  have:=X6 (λk=>f<|k+((m+1:Nat))) n (λi=>by rw[show i+(n)+((m+1:Nat))=(i+((m+1:Nat)))+n by lia,h])
  simp only[<-this,<-(X8 f n h m)];exact Cj λi _=>by congr 1;lia
theorem kc(f:Int->Int):∀n:Nat,Af (λk=>f<|(n)-1-k) n=Af f n
 |0=>rfl
 |n+1=>by
  have z:Af (λk=>f<|((n+1:Nat))-1-k) (n+1)=f n+Af (λk=>f<|(n)-1-k) n:=by
   have hs:∀(g:Int->Int)(m:Nat),Af g (m+1)=g 0+Af (λk=>g<|k+1) m:=by
    intro g m
    induction m with
    |zero=>simp[Af]
    |succ m ih=>
     rw[Af,ih,Af];lia
   rw[hs]
   congr 1
   .lia
   .exact Cj λi _=>by congr 1;lia
  rw[z,kc f n,Af];lia
set_option tactic.hygienic true
def ES(t:Pt->Pt->Int)(r:List Pt):Int:=Af (λk=>t (AA r k)<|AA r<|k+1) r.length
theorem Tf{t:Pt->Pt->Int}(z:∀a b,t b a = - t a b){r:List Pt}(h:0<r.length):ES t r.reverse = - ES t r:=by
 unfold ES;have e:Af (λk=>t (AA r.reverse k)<|AA r.reverse<|k+1) r.length=Af (λk=>-1*t (AA r<|r.length-1-k-1) (AA r<|r.length-1-k)) r.length:=Cj λi _=>by rw[Qa h,Qa h,z,<-E2 r (-1-i),<-E2 r (-1-(i+1)),show -1-(i:Int)+r.length=r.length-1-i by lia,show -1-((i:Int)+1)+r.length=r.length-1-i-1 by lia,AHy,AHX]
 rw[AIa,e,X7,kc λk=>t (AA r<|k-1)<|AA r k,<-X6 (λk=>t (AA r k)<|AA r<|k+1) r.length λi=>by rw[E2,show i+(r.length)+1=i+1+r.length by lia,E2],AHy,AHX]
 congr 1
 exact Cj λi _=>by rw[show(i:Int)-1+1=i from Ww]
theorem Us(a b:Pt):Bz b a = - Bz a b:=by unfold Bz;grind
def Ja(r:List Pt)(k:Int):Int:=Bz (AA r k)<|AA r<|k+1
theorem pd(r:List Pt)(k:Int):Ja r (k+r.length)=Ja r k:=by unfold Ja;simp only[E2,show k+(r.length)+1=k+1+r.length by lia,E2]
theorem QM(r:List Pt):CH r=Af (Ja r) r.length:=rfl
theorem Rm.De{r:List Pt}(R:Rm r){n:Nat}(hn:n<=r.length):Rm (r.drop n++r.take n)/\CH (r.drop n++r.take n)=CH r:=by
 have h3:=R.l3;have z:(r.drop n++r.take n).length=r.length:=by simp;lia
 have hc:=λi=>qB hn (Bo h3) i;have ha:CH (r.drop n++r.take n)=CH r:=by simp only[QM,QM,z,<-X8 (Ja r) r.length (pd r) n];refine Cj λi _=>?_;unfold Ja;simp only[hc,hc];lia
 refine⟨⟨U,by have:=R.Og;lia,?_,λk=>?_,λi j y=>?_,by rw[ha];exact R.HJ⟩,ha⟩
 .have hp:(r.drop n++r.take n).Perm r:=List.perm_append_comm.trans (by rw[AJk]);exact hp.nodup_iff.mpr R.nd
 .simp only[hc,hc,hc,show k-2+n=k+n-2 by lia,show k-1+n=k+n-1 by lia];exact R.Ni _
 .rw[z]at y;have:=R.apart (i+n) (j+n) (by rw[show i+n-(j+n)=i-j by lia];exact y);unfold M at this ⊢;simp only[hc,hc,hc,hc,show i+1+n=i+n+1 by lia,show j+1+n=j+n+1 by lia];exact this
theorem ir{T:Pt->Pt}(hi:∀a b,T a=T b->a=b){r:List Pt}(h:r.Nodup):(r.map T).Nodup:=by unfold List.Nodup at h ⊢;rw[AHb];exact h.imp λz e=>z<|hi _ _ e
theorem pf(o a b:Pt):Bz a b=AD o a b+(Bz o b-Bz o a):=by delta Bz AD;grind
theorem UZ(r:List Pt)(o:Pt):CH r=Af (λk=>AD o (AA r k)<|AA r<|k+1) r.length:=by
 rw[QM];have z:Af (Ja r) r.length=Af (λk=>AD o (AA r k) (AA r<|k+1)+(Bz o (AA r<|k+1)-Bz o (AA r k))) r.length:=Cj λi _=>by exact pf o _ _
 rw[z,Pc (λk=>AD o (AA r k)<|AA r<|k+1) λk=>Bz o (AA r<|k+1)-Bz o (AA r k)];have h3:=by have:=E2 r 0;rw[AGj]at this;exact this
 rw[(X9 (λk=>Bz o<|AA r k) r.length),h3];lia
theorem QN{r:List Pt}(h:0<r.length){T:Pt->Pt}{d:Int}(sd:∀a b c,AD (T a) (T b) (T c)=d*AD a b c):CH (r.map T)=d*CH r:=by rw[UZ _<|T (0,0),AFs,UZ r (0,0),<-X7];exact Cj λi _=>by rw[GO h,GO h,sd]
set_option tactic.hygienic false
theorem Rm.map{r:List Pt}(R:Rm r){T:Pt->Pt}(k:Keeps T 1):Rm<|r.map T:=by
 have h3:=R.l3;have hc:=λi=>GO (T:=T) (r:=r) (Bo h3) i;refine⟨by simpa using R.l3,by simpa using R.Og,ir k.inj R.nd,λi=>?_,λi j z=>?_,by rw[QN (Bo h3) k.sd,AHX];exact R.HJ⟩
 .simp only[hc,hc,hc,k.sd,AHX];exact R.Ni i
 .rw[AFs]at z;unfold M;simp only[hc,hc,hc,hc,k.meet];exact R.apart i j z
theorem kM(a b c:Pt):AD c b a = - AD a b c:=by unfold AD;grind
theorem jN(a b c d:Pt):AH.parts b a d c=AH.parts a b c d:=by unfold AH.parts;rw[C3 a b,C3 a b,AHM];simp only[AGv,AFw,AF2];constructor<;>lia
theorem xW(a b c d:Pt):A8 b a d c=A8 a b c d:=by unfold A8;simp only[jN a b c d,jN c d a b,SW b a d,SW b a c,SW d c b,SW d c a,AJ7<|Aj a b d,AJ7<|Aj c d b]
theorem Rm.mapRev{r:List Pt}(R:Rm r){T:Pt->Pt}(k:Keeps T (-1)):Rm (r.map T).reverse:=by
 have h3:=R.l3;have y:(r.map T).reverse.length=r.length:=AFn
 have hc:∀i,AA (r.map T).reverse i=T (AA r (-1-i)):=λi=>by rw[Qa (by simpa using(Bo h3)),GO<|Bo h3]
 refine⟨U,by have:=R.Og;lia,?_,λi=>?_,λi j z=>?_,?_⟩
 .exact(List.reverse_perm _).nodup_iff.mpr (ir k.inj R.nd)
 .rw[hc,hc,hc,k.sd,kM];have:=R.Ni (-1-i+2);lia
 .rw[y]at z;unfold M;rw[hc,hc,hc,hc,k.meet,<-xW];have:=R.apart (-1-(i+1)) (-1-(j+1)) (by rw[show -1-(i+1)-(-1-(j+1)) = -(i-j)by lia];exact z.neg<|KA h3)
  unfold M at this;rw[show -1-(i+1)+1 = -1-i by lia,show -1-(j+1)+1 = -1-j by lia]at this;exact this
 .rw[show CH (r.map T).reverse = - CH (r.map T)from Tf Us (by simpa using Bo h3),QN (Bo h3) k.sd,AHy,AHX,AIE];exact R.HJ
theorem wsum{q s a b m:Int}(z:0<=s)(y:s<=q)(ha:a<=m)(v:b<=m):q*a+s*(b-a)<=q*m:=by have:=AF7 ha (by exact Ce y:0<=q-s);have:=AF7 v z;lia
theorem TX{q s a b m:Int}(z:0<=s)(y:s<=q)(ha:m<=a)(v:m<=b):q*m<=q*a+s*(b-a):=by have:=AF7 ha (by exact Ce y:0<=q-s);have:=AF7 v z;lia
theorem Xp{a b c d:Pt}(m n:Int)(z:a.1<=m)(y:b.1<=m)(p:m<n)(h3:n<=c.1)(Z:n<=d.1):¬ Bm a b c d:=by rintro⟨q,s,t,Y,Q,s1,O,t1,e1,_⟩;have u:=wsum Q s1 z y;have v:=TX O t1 h3 Z;have:=AHr p Y;lia
theorem AC9{a b c d:Pt}(m n:Int)(z:a.2<=m)(y:b.2<=m)(p:m<n)(h3:n<=c.2)(Z:n<=d.2):¬ Bm a b c d:=by rintro⟨q,s,t,Y,Q,s1,O,t1,_,e2⟩;have u:=wsum Q s1 z y;have v:=TX O t1 h3 Z;have:=AHr p Y;lia
structure Rows(n m:Nat)(P:Nat->Pt):Prop where
 hm:m+1<n
 h3:3<=n
 cl:P n=P 0
 xb:∀i,i<=m->(P i).1<(P<|i+1).1
 xt:∀i,m+1<=i->i<n->(P<|i+1).1<(P i).1
 y0:(P 0).2=0
 ym:(P<|m+1).2=0
 yb:∀i,1<=i->i<=m->(P i).2<0
 yt:∀i,m+2<=i->i<n->0<(P i).2
section
variable{n m:Nat}{P:Nat->Pt}(R:Rows n m P)
include R
theorem Rows.TY:∀{i j:Nat},i<=j->j<=m+1->(P i).1<=(P j).1:=by
 intro i j h hj
 induction j with
 |zero=>
  have:i=0:=U
  subst this;exact AGb _
 |succ j ih=>
  by_cases he:i=j+1
  .subst he;exact AGb _
  .have:=R.xb j U;lia
theorem Rows.M9:∀{i j:Nat},m+1<=i->i<=j->j<=n->(P j).1<=(P i).1:=by
 intro i j h1 h hj
 induction j with
 |zero=>lia
 |succ j ih=>
  by_cases he:i=j+1
  .subst he;exact AGb _
  .have:=R.xt j U AFr;lia
theorem Rows.Pk:∀{i:Nat},i<=m+1->(P i).2<=0:=by
 intro i hi;by_cases z:i=0
 .subst z;exact AJ8 R.y0
 by_cases y:i=m+1
 .subst y;exact AJ8 R.ym
 exact AFv<|R.yb i U U
theorem Rows.Ta:∀{i:Nat},m+1<=i->i<=n->0<=(P i).2:=by
 intro i hi hn;by_cases z:i=n
 .subst z;rw[R.cl,R.y0];exact AGb _
 by_cases y:i=m+1
 .subst y;exact AJ8 R.ym.symm
 exact AFv<|R.yt i U U
theorem Rows.apart{i j:Nat}(Bw:i<j)(hj:j<n)(Ax:j≠i+1)(hw:¬ (i=0/\j=n-1)):¬ Bm (P i) (P<|i+1) (P j) (P<|j+1):=by
 by_cases y:j<=m
 .-- both below
  exact Xp (P<|i+1).1 (P j).1 (R.TY U U) (AGb _) (by have:=R.xb (i+1) U;have:=R.TY (i:=i+1+1) (j:=j) U<|Mb y;lia) (AGb _)<|R.TY U<|Oz y
 by_cases fE:m+1<=i
 .-- both above
  intro h;exact Xp (P j).1 (P<|i+1).1 (AGb _) (R.M9 U U U) (by have:=R.xt (i+1) U U;have:=R.M9 (i:=i+1+1) (j:=j) U U U;lia) (R.M9 AFr U U) (AGb _) h.symm
 rintro⟨q,s,t,hq,p,s1,Z,t1,z,e2⟩;have ez:q*(P i).2+s*((P<|i+1).2-(P i).2)=(q-s)*(P i).2+s*(P<|i+1).2:=AFm
 have ez':q*(P j).2+t*((P<|j+1).2-(P j).2)=(q-t)*(P j).2+t*(P<|j+1).2:=AFm
 have p1:(q-s)*(P i).2<=0:=AGm (Ce s1)<|R.Pk (i:=i) U;have p2:=AGm p<|R.Pk (i:=i+1) U;have p3:0<=(q-t)*(P j).2:=AFy (Ce t1)<|R.Ta (i:=j) U U;have p4:=AFy Z<|R.Ta (i:=j+1) U U;have Y:(q-s)*(P i).2=0:=AFo
 have Q:s*(P<|i+1).2=0:=AFo
 have O:(q-t)*(P j).2=0:=AFo
 have D:t*(P<|j+1).2=0:=AFo
 have F:1<=i->q=s:=λh=>by
  rcases AGJ.mp Y with h'|h'
  .lia
  .have:=R.yb i h U;lia
 have B:i+1<=m->s=0:=λh=>by
  rcases AGJ.mp Q with h'|h'
  .exact h'
  .have:=R.yb (i+1) U h;lia
 have w3:m+2<=j->q=t:=λh=>by
  rcases AGJ.mp O with h'|h'
  .lia
  .have:=R.yt j h AFr;lia
 have G:j+1<n->t=0:=λh=>by
  rcases AGJ.mp D with h'|h'
  .exact h'
  .have:=R.yt (j+1) U h;lia
 by_cases S:i=0
 .-- at lB first ZZ,or lB whole AFL
  subst S;have T:j+1<n:=U
  by_cases V1:m=0
  .lia
  .have hs:=B U;rw[hs,(G T)]at z;simp only[AGl,AGG]at z;have v:=AHT U z;have a:=R.xt j U AFr;have b:=R.M9 (i:=j+1) (j:=n) U AFr U;rw[R.cl]at b;lia
 .have hs:=F U;by_cases C:i=m
  .subst C;have E:i+2<=j:=U
   rw[<-hs,<-(w3 E)]at z;have v:q*(P<|i+1).1=q*(P<|j+1).1:=AFm
   have AFM:=AHT U v;have a:=R.xt (i+1) U U;have b:=R.M9 (i:=i+1+1) (j:=j+1) U U U;lia
  .lia
theorem Rows.HJ:0<Af (λk=>Bz (P k.toNat)<|P (k+1).toNat) n:=by
 have hm:=R.hm;have e:∀N:Nat,Af (λk=>Bz (P k.toNat)<|P (k+1).toNat) N=Af (λk=>((P k.toNat).1-(P (k+1).toNat).1)*((P k.toNat).2+(P (k+1).toNat).2)) N+((P N).1*(P N).2-(P 0).1*(P 0).2):=by
  intro N
  induction N with
  |zero=>simp[Af]
  |succ N ih=>
   simp only[Af,Af,ih];have z:((N:Int)).toNat=N:=U
   have y:((N:Int)+1).toNat=N+1:=U
   rw[z,y];unfold Bz
   grind
 rw[e n,R.cl];have Z:∀i:Nat,i<n->0<=((P i).1-(P<|i+1).1)*((P i).2+(P<|i+1).2):=λi hi=>by
  by_cases q:i<=m
  .have a:=R.xb i q;have b:=R.Pk (i:=i)<|Mb q;have c:=R.Pk (i:=i+1)<|Oz q;exact AHs U U
  .have a:=R.xt i U hi;have b:=R.Ta (i:=i) U U;have c:=R.Ta (i:=i+1) U AFr;exact AFy (Fl a) U
 have pos:∃i:Nat,i<n/\0<((P i).1-(P<|i+1).1)*((P i).2+(P<|i+1).2):=by
  by_cases p:m=0
  .refine⟨m+1,AFo,?_⟩;have a:=R.xt (m+1) U U;have b:=R.yt (m+1+1) U (by have:=R.h3;clear hm a;subst p;lia);have c:=R.ym;exact AF8 (Fi a) U
  .refine⟨0,by clear p;lia,?_⟩;have a:=R.xb 0 Rx;have b:=R.yb (0+1) U U;have c:=R.y0;exact AJL U U
 have v:∀N:Nat,N<=n->0<=Af (λk=>((P k.toNat).1-(P (k+1).toNat).1)*((P k.toNat).2+(P (k+1).toNat).2)) N/\(∀i,i<N->0<((P i).1-(P<|i+1).1)*((P i).2+(P<|i+1).2)->0<Af (λk=>((P k.toNat).1-(P (k+1).toNat).1)*((P k.toNat).2+(P (k+1).toNat).2)) N):=by
  intro N
  induction N with
  |zero=>intro _;exact⟨by simp[Af],λi hi=>U⟩
  |succ N ih=>
   intro Y;obtain⟨Q,O⟩:=ih<|MZ Y;have z:((N:Int)).toNat=N:=by clear pos;lia
   have y:((N:Int)+1).toNat=N+1:=by clear pos;lia
   have:=Z N AFr;rw[Af,z,y];refine⟨U,λi hi hp=>?_⟩;by_cases he:i=N
   .subst he;clear pos;omega
   .have:=O i (FG hi he) hp;clear Q;lia
 obtain⟨i,hi,hp⟩:=pos;have:=(v n U).2 i hi hp;lia
theorem Rows.inj{i j:Nat}(y:i<j)(z:j<n):P i≠P j:=by
 intro e;by_cases q:j<=m+1
 .have a:=R.xb i U;have b:=R.TY (i:=i+1) U q;rw[e]at a;lia
 by_cases v:m+1<=i
 .have a:=R.xt i v<|F6 y z;have b:=R.M9 (i:=i+1) (j:=j) U U U;rw[e]at a;lia
 .have a:=R.Pk (i:=i) U;have b:=R.yt j U z;rw[e]at a;lia
end
def Lt(a b c d:Pt):Prop:=∃q s t:Int,0<q/\0<=s/\s<=q/\0<=t/\t<=q/\q*a.2+s*(b.2-a.2)=q*c.2+t*(d.2-c.2)/\q*a.1+s*(b.1-a.1)<q*c.1+t*(d.1-c.1)
theorem Mg{x a b:Int}(z:0<=x)(y:a<=b):a*x<=b*x:=AGB y z
theorem Wz{a b c d:Pt}(v:Lt a b c d)(p:Lt c d a b):∃z s1 t1 q s2 t2 x y:Int,0<x/\0<y/\0<z/\0<q/\0<=s1/\s1<=z/\0<=s2/\s2<=q/\0<=t1/\t1<=z/\0<=t2/\t2<=q/\z*a.1+s1*(b.1-a.1)+x=z*c.1+t1*(d.1-c.1)/\(z*y+q*x)*a.1+(s1*y+s2*x)*(b.1-a.1)=(z*y+q*x)*c.1+(t1*y+t2*x)*(d.1-c.1)/\(z*y+q*x)*a.2+(s1*y+s2*x)*(b.2-a.2)=(z*y+q*x)*c.2+(t1*y+t2*x)*(d.2-c.2):=by
 obtain⟨z,s1,t1,Z,Y,Q,O,P,D,l1⟩:=v;obtain⟨q,t2,s2,F,b1,b2,R,B,G,l2⟩:=p;refine⟨z,s1,t1,q,s2,t2,z*c.1+t1*(d.1-c.1)-(z*a.1+s1*(b.1-a.1)),q*a.1+s2*(b.1-a.1)-(q*c.1+t2*(d.1-c.1)),U,U,Z,F,Y,Q,R,B,O,P,b1,b2,U,AFm,?_⟩;generalize z*c.1+t1*(d.1-c.1)-(z*a.1+s1*(b.1-a.1))=x;generalize q*a.1+s2*(b.1-a.1)-(q*c.1+t2*(d.1-c.1))=y;have f1:(z*y+q*x)*a.2+(s1*y+s2*x)*(b.2-a.2)=y*(z*a.2+s1*(b.2-a.2))+x*(q*a.2+s2*(b.2-a.2)):=AFm
 have f2:(z*y+q*x)*c.2+(t1*y+t2*x)*(d.2-c.2)=y*(z*c.2+t1*(d.2-c.2))+x*(q*c.2+t2*(d.2-c.2)):=AFm
 simp only[f1,f2,D,<-G]
theorem W6{a b c d:Pt}(h:¬ Bm a b c d)(v:Lt a b c d):¬ Lt c d a b:=λp=>by
 obtain⟨q1,s1,t1,q2,s2,t2,x,y,z,q,Z,Y,Q,O,b1,b2,P,D,F,R,_,B,G⟩:=Wz v p;have p1:=AF8 Z q;have p2:=AF8 Y z;refine h ⟨_,_,_,U,?_,?_,?_,?_,B,G⟩
 .have:=AFy Q<|AFv q;have:=AFy b1<|AFv z;lia
 .have:=Mg (AFv q) O;have:=Mg (AFv z) b2;lia
 .have:=AFy P<|AFv q;have:=AFy F<|AFv z;lia
 .have:=Mg (AFv q) D;have:=Mg (AFv z) R;lia
def CD(A X B:Pt):Prop:=∀s t:Int,0<=s->0<=t->s*(X.1-A.1)=t*(B.1-A.1)->s*(X.2-A.2)=t*(B.2-A.2)->s=0/\t=0
theorem N6{u v w:Pt}(z:AD u v w≠0):CD v u w:=λs t _ _ y q=>by
 have f1:s*AD u v w=0:=by
  have:s*AD u v w=(w.1-v.1)*(s*(u.2-v.2))-(w.2-v.2)*(s*(u.1-v.1)):=by unfold AD;grind
  simp only[this,y,q];grind
 have f2:t*AD u v w=0:=by
  have:t*AD u v w=(v.1-u.1)*(t*(w.2-v.2))-(v.2-u.2)*(t*(w.1-v.1)):=by unfold AD;grind
  simp only[this,<-y,<-q];grind
 exact⟨(AGJ.mp f1).resolve_right z,(AGJ.mp f2).resolve_right z⟩
theorem UT{u v w:Pt}(f:CD v u w){q s t:Int}(sq:s<=q)(z:0<=t)(e1:q*u.1+s*(v.1-u.1)=q*v.1+t*(w.1-v.1))(e2:q*u.2+s*(v.2-u.2)=q*v.2+t*(w.2-v.2)):s=q/\t=0:=by obtain⟨a,b⟩:=f (q-s) t (Ce sq) z AFm AFm;exact⟨U,b⟩
theorem ie{u v w:Pt}(Y:CD v u w)(Q:Lt u v v w):¬ Lt v w u v:=λO=>by
 obtain⟨q,s1,t1,q2,s2,t2,x,y,z,p,OO,OP,a1,P,b1,b2,D,c2,F,d2,Z,R,B⟩:=Wz Q O;have m1:=Mg (AFv p) P;have m2:=Mg (AFv z) b2;have n1:=AFy D<|AFv p;have n2:=AFy F<|AFv z;obtain⟨hs,ht⟩:=UT Y (by clear Z;lia) U R B;have k1:(q-s1)*y=0:=by rw[AIw];lia
 have G:s1=q:=by rcases AGJ.mp k1 with h|h<;>lia
 have k2:t1*y=0:=U
 have S:t1=0:=by rcases AGJ.mp k2 with h|h<;>lia
 subst G;subst S;have f:s1*u.1+s1*(v.1-u.1)=s1*v.1:=by clear z;grind
 rw[f,AGl]at Z;lia
def L(r:List Pt)(i j:Int):Prop:=Lt (AA r i) (AA r<|i+1) (AA r j)<|AA r<|j+1
theorem Al{r:List Pt}{i j:Int}(h:(i-j)%(r.length)=0):AA r i=AA r j:=by unfold AA;have:=AHn.mpr h;rw[this]
structure A3(r:List Pt):Prop where
 l3:3<=r.length
 fork:∀k:Int,CD (AA r<|k+1) (AA r k)<|AA r<|k+1+1
 apart:∀i j:Int,Bt r.length (i-j)->¬ Bm (AA r i) (AA r<|i+1) (AA r j) (AA r<|j+1)
section
variable{r:List Pt}(S:A3 r)
include S
theorem A3.cases(i j:Int):(i-j)%(r.length)=0\/(i-j)%(r.length)=1\/(j-i)%(r.length)=1\/Bt r.length (i-j):=by
 have h3:=S.l3;have a:=AGQ (i-j) (b:=(r.length))<|KD h3;by_cases z:(i-j)%(r.length)=0
 .exact .inl z
 by_cases y:(i-j)%(r.length)=1
 .exact .inr<|.inl y
 by_cases q:(i-j)%(r.length)=r.length-1
 .right;right;left;have:j-i=1+r.length*(-((i-j) / r.length)-1):=by
   have:=AHV (i-j) r.length
   grind
  rw[this,AG9,AFt C2<|DC h3]
 .exact .inr<|.inr<|.inr ⟨z,y,q⟩
theorem A3.next{i j:Int}(h:(i-j)%(r.length)=1):AA r i=AA r (j+1)/\AA r (i+1)=AA r (j+1+1):=by
 have h3:=S.l3;have e:(i-(j+1))%(r.length)=0:=by rw[show i-(j+1)=(i-j)-1 by lia,AHI,h,AFt (a:=1) C2<|DC h3];rfl
 exact⟨Al e,Al (by rw[show i+1-(j+1+1)=i-(j+1)by lia];exact e)⟩
theorem A3.nc{i j:Int}(p:(i-j)%(r.length)≠0)(z:L r i j):¬ L r j i:=by
 intro y;rcases S.cases i j with h|h|h|h
 .exact p h
 .obtain⟨q,v⟩:=S.next h
  unfold L at z y;rw[q,v]at z y;exact ie (S.fork j) y z
 .obtain⟨q,v⟩:=S.next h
  unfold L at z y;rw[q,v]at z y;exact ie (S.fork i) z y
 .exact W6 (S.apart i j h) z y
theorem A3.share{i j:Int}(Y:(i-j)%(r.length)≠0){q s t:Int}(Q:0<q)(p:0<=s)(s1:s<=q)(Z:0<=t)(t1:t<=q) (z:q*(AA r i).1+s*((AA r<|i+1).1-(AA r i).1)=q*(AA r j).1+t*((AA r<|j+1).1-(AA r j).1)) (y:q*(AA r i).2+s*((AA r<|i+1).2-(AA r i).2)=q*(AA r j).2+t*((AA r<|j+1).2-(AA r j).2)) : ((i-j)%(r.length)=1/\s=0/\t=q)\/((j-i)%(r.length)=1/\s=q/\t=0):=by
 rcases S.cases i j with h|h|h|h
 .exact absurd h Y
 .obtain⟨f1,f2⟩:=S.next h
  rw[f1,f2]at z y;obtain⟨g1,v⟩:=UT (S.fork j) t1 p z.symm y.symm;exact .inl ⟨h,v,g1⟩
 .obtain⟨f1,f2⟩:=S.next h
  rw[f1,f2]at z y;obtain⟨g1,v⟩:=UT (S.fork i) s1 Z z y;exact .inr ⟨h,g1,v⟩
 .exact absurd ⟨q,s,t,Q,p,s1,Z,t1,z,y⟩ (S.apart i j h)
end
theorem NW(r:List Pt)(i:Int)(Ax:(AA r i).2≠(AA r<|i+1).2):¬ L r i i:=by
 rintro⟨q,s,t,hq,s0,s1,t0,t1,e1,l⟩;have:(s-t)*((AA r<|i+1).2-(AA r i).2)=0:=AFm
 rcases AGJ.mp this with h|h
 .have:s=t:=by clear l;lia
  subst this;lia
 .lia
theorem kK{D z:Int}(h:(0<=z/\z<=D)\/(D<=z/\z<=0))(y:D≠0):∃g:Int,(g=1\/g = -1)/\0<g*D/\0<=g*z/\g*z<=g*D:=by
 rcases AGW y with h0|h0
 .exact⟨-1,.inr rfl,U,U,U⟩
 .exact⟨1,.inl rfl,U,U,U⟩
theorem ZU{a b z:Pt}(y:b.1-a.1≠0)(hs:AD a b z=0)(hz:(0<=z.1-a.1/\z.1-a.1<=b.1-a.1)\/(b.1-a.1<=z.1-a.1/\z.1-a.1<=0)):On a b z:=by
 obtain⟨g,hg,q,v,p3⟩:=kK hz y;refine Gn ⟨g*(b.1-a.1),g*(z.1-a.1),q,v,p3,AFm,?_⟩;unfold AD at hs
 grind
theorem ZV{a b c d:Pt}(q:b.1-a.1≠0)(y:AD a b c=0)(v:AD a b d=0)(hz:(c.1<=a.1/\a.1<=d.1)\/(d.1<=a.1/\a.1<=c.1)):On c d a:=by
 unfold AD at y v;have k1:(b.1-a.1)*(c.2-a.2)=(b.2-a.2)*(c.1-a.1):=U
 by_cases p:d.1-c.1=0
 .have e:c.1-a.1=0:=AFo
  rw[e,AGs]at k1;have e2:c.2-a.2=0:=by
   rcases AGJ.mp k1 with h|h
   .exact absurd h q
   .exact h
  exact Gn ⟨1,0,J9,Bb,C2,U,U⟩
 .obtain⟨g,hg,Z,Y,p3⟩:=kK (z:=a.1-c.1) U p;refine Gn ⟨g*(d.1-c.1),g*(a.1-c.1),Z,Y,p3,AFm,?_⟩;have k3:(b.1-a.1)*(g*(d.1-c.1)*(a.2-c.2)-g*(a.1-c.1)*(d.2-c.2))=0:=by
   have Q:(b.1-a.1)*(a.2-c.2)=(b.2-a.2)*(a.1-c.1):=by clear y;grind
   have O:(b.1-a.1)*(d.2-c.2)=(b.2-a.2)*(d.1-c.1):=by clear y;grind
   have:(b.1-a.1)*(g*(d.1-c.1)*(a.2-c.2)-g*(a.1-c.1)*(d.2-c.2))=g*(d.1-c.1)*((b.1-a.1)*(a.2-c.2))-g*(a.1-c.1)*((b.1-a.1)*(d.2-c.2)):=AFm
   simp only[this,Q,O];grind
  rcases AGJ.mp k3 with h|h
  .exact absurd h q
  .omega
theorem pU{a b c d:Pt}(hD:b.1-a.1≠0)(z:AD a b c=0)(y:AD a b d=0):AD b a c=0/\AD b a d=0:=by simp only[C3 a b,C3 a b,z,y];exact⟨rfl,rfl⟩
theorem ZW{a b c d:Pt}(z:b.1-a.1≠0)(y:AD a b c=0)(v:AD a b d=0)(hs:Bm a b c d):On a b c\/On a b d\/On c d a\/On c d b:=by
 obtain⟨q,s,t,p,Z,s1,Y,t1,e1,_⟩:=hs;have u1:=wsum (a:=a.1) (b:=b.1) (m:=max a.1 b.1) Z s1 AFo U;have u2:=TX (a:=a.1) (b:=b.1) (m:=min a.1 b.1) Z s1 U AFo;have v1:=wsum (a:=c.1) (b:=d.1) (m:=max c.1 d.1) Y t1 U U;have v2:=TX (a:=c.1) (b:=d.1) (m:=min c.1 d.1) Y t1 U U;have w1:min a.1 b.1<=max c.1 d.1:=AG3 U p;have w2:min c.1 d.1<=max a.1 b.1:=AG3 U p;by_cases hc:min a.1 b.1<=min c.1 d.1
 .by_cases BO:c.1<=d.1
  .exact .inl<|ZU z y (by clear z;lia)
  .exact .inr<|.inl<|ZU z v AFm
 .by_cases Bf:a.1<=b.1
  .exact .inr<|.inr<|.inl<|ZV z y v U
  .obtain⟨g1,Q⟩:=pU z y v;exact .inr<|.inr<|.inr<|ZV U g1 Q (by clear z;lia)
noncomputable def sw(p:Pt):Pt:=(p.2,p.1)
theorem Xu(a b c:Pt):AD (sw a) (sw b) (sw c) = - AD a b c:=by delta AD sw;grind
theorem SY{a b p:Pt}(h:On (sw a) (sw b)<|sw p):On a b p:=by obtain⟨z,y,h3⟩:=h;rw[Xu]at z;exact⟨U,h3,y⟩
theorem ADE{a b c d:Pt}(h:Bm a b c d):Bm (sw a) (sw b) (sw c)<|sw d:=by obtain⟨q,s,t,z,y,h3,v,p,Z,Y⟩:=h;exact⟨q,s,t,z,y,h3,v,p,Y,Z⟩
theorem W4{a b c d:Pt}(h:Bm a b c d):A8 a b c d=true:=by
 cases hm:A8 a b c d with
 |true=>rfl
 |false=>
  exfalso;have Q:¬ A8 a b c d=true:=by rw[hm];simp
  simp only[A8,AGv,AFw,F8,not_or,not_and]at Q;obtain⟨hp,⟨O,P⟩,Z,D⟩:=Q;obtain⟨q,s,t,p,F,s1,Y,t1,R,B⟩:=id h;have I:AD a b c-AD a b d=AD c d b-AD c d a:=by unfold AD;grind
  have f1:(q-t)*AD a b c+t*AD a b d=0:=by
   have:(q-t)*AD a b c+t*AD a b d=(b.1-a.1)*(q*c.2+t*(d.2-c.2)-q*a.2)-(b.2-a.2)*(q*c.1+t*(d.1-c.1)-q*a.1):=by unfold AD;grind
   simp only[this,<-R,<-B];grind
  have f2:(q-s)*AD c d a+s*AD c d b=0:=by
   have:(q-s)*AD c d a+s*AD c d b=(d.1-c.1)*(q*a.2+s*(b.2-a.2)-q*c.2)-(d.2-c.2)*(q*a.1+s*(b.1-a.1)-q*c.1):=by unfold AD;grind
   simp only[this,R,B];grind
  have hc:t=0->On a b c:=λz=>by subst z;refine Gn ⟨q,s,p,F,s1,?_,?_⟩<;>grind
  have hd:t=q->On a b d:=λz=>by subst z;refine Gn ⟨t,s,p,F,s1,?_,?_⟩<;>grind
  have ha:s=0->On c d a:=λz=>by refine Gn ⟨q,t,p,Y,t1,?_,?_⟩<;>grind
  have hb:s=q->On c d b:=λz=>by subst z;refine Gn ⟨s,t,p,Y,t1,?_,?_⟩<;>grind
  have n:0<t:=U
  have f:0<q-t:=U
  have G:0<s:=U
  have S:0<q-s:=U
  have KN:∀{x y u v:Int},0<u->0<v->u*x+v*y=0->(x=0/\y=0)\/(x<0/\0<y)\/(0<x/\y<0):=λ{x y u v} T C e=>by
   rcases AHc x 0 with hx|hx|hx
   .right;left;refine⟨hx,?_⟩;have:=AHg T hx;by_cases h:0<y
    .exact h
    .have h:y<=0:=U
     have:=AGm (AFv C) h;lia
   .left;subst hx;refine⟨rfl,?_⟩;have:v*y=0:=U
    rcases AGJ.mp this with h|h
    .lia
    .exact h
   .right;right;refine⟨hx,?_⟩;have:=AF8 T hx;by_cases h:y<0
    .exact h
    .have h:0<=y:=Ow h;have:=AFy (AFv C) h;lia
  rcases KN f n f1 with⟨E,H⟩|z|z
  .-- on one line
   by_cases hD:b.1-a.1=0
   .by_cases hE:b.2-a.2=0
    .-- a way of one point
     refine Z<|Gn ⟨q,t,p,Y,t1,?_,?_⟩
     .grind
     .grind
    .have k1:AD (sw a) (sw b) (sw c)=0:=by rw[Xu,E];rfl
     have k2:AD (sw a) (sw b) (sw d)=0:=by rw[Xu,H];rfl
     rcases ZW hE k1 k2 (ADE h)with k|k|k|k
     .exact O<|SY k
     .exact P<|SY k
     .exact Z<|SY k
     .exact D<|SY k
   .rcases ZW hD E H h with k|k|k|k
    .exact O k
    .exact P k
    .exact Z k
    .exact D k
  .rcases KN S G f2 with⟨y1,y2⟩|y|y
   .lia
   .exact hp U U
   .exact hp (by simp[parts];grind) (by simp[parts];right;lia)
  .rcases KN S G f2 with⟨y1,y2⟩|y|y
   .lia
   .exact hp (by simp[parts];clear I;omega) (by simp[parts];left;lia)
   .exact hp U U
theorem Rm.DF{r:List Pt}(R:Rm r)(k:Int):AD (AA r k) (AA r<|k+1) (AA r<|k+1+1)≠0:=by have:=R.Ni<|k+1+1;rw[show k+1+1-2=k by lia,show k+1+1-1=k+1 by lia]at this;exact this
theorem Rm.simple{r:List Pt}(R:Rm r):A3 r:=
 ⟨R.l3,λk=>N6<|R.DF k,λi j z hs=>by have:=R.apart i j z;unfold M at this;rw[W4 hs]at this;cases this⟩
open Classical
def yy(r:List Pt)(i:Int):Int:=(AA r i).2
def Ae(r:List Pt)(h i:Int):Int:=if yy r i<=h/\h<yy r (i+1)then 1 else if yy r (i+1)<=h/\h<yy r i then -1 else 0
noncomputable def ind(p:Prop):Int:=if p then 1 else 0
theorem BG{p:Prop}(h:p):ind p=1:=AFu h
theorem A2{p:Prop}(h:¬ p):ind p=0:=AF0 h
def Rr(r:List Pt)(h i:Int):Int:=Af (λj=>ind (L r i j)*Ae r h j) r.length
theorem G8{r:List Pt}{i j:Int}(h:(i-j)%(r.length)=0):yy r i=yy r j:=by unfold yy;rw[Al h]
theorem CB{n i j:Int}(h:(i-j)%n=0):(i+1-(j+1))%n=0:=by rw[show i+1-(j+1)=i-j by lia];exact h
theorem PZ{r:List Pt}{h i j:Int}(e:(i-j)%(r.length)=0):Ae r h i=Ae r h j:=by unfold Ae;rw[G8 e,G8<|CB e]
theorem NV{r:List Pt}{i i' j z:Int}(e:(i-i')%(r.length)=0)(f:(j-z)%(r.length)=0):L r i j=L r i' z:=by unfold L;simp only[Al e,Al<|CB e,Al f,Al<|CB f]
theorem Xq(r:List Pt)(h j:Int):Ae r h j-Ae r (h-1) j=ind (yy r j=h)-ind (yy r (j+1)=h):=by
 delta Ae ind
 generalize yy r j=a;generalize yy r (j+1)=b;by_cases z:a=h<;>by_cases y:b=h<;>simp only[z,y,AHl,AIz]<;>(repeat' split)<;>lia
theorem comb{u a b g1 z x y:Int}(hs:a=b+(x-y))(q:(x=1/\g1=u)\/(x=0/\g1=0))(v:(y=1/\z=u)\/(y=0/\z=0)):u*a=u*b+(g1-z):=by rcases q with⟨rfl,rfl⟩|⟨rfl,rfl⟩<;>rcases v with⟨rfl,h⟩|⟨rfl,rfl⟩<;>(try subst h)<;>subst hs<;>grind
theorem O2{a b c d:Pt}(h:Lt a b c c):Lt a b c d:=by obtain⟨q,s,t,z,y,h3,h4,h5,e,l⟩:=h;exact⟨q,s,0,z,y,h3,Bb,U,AFm,AFm⟩
theorem iF{a b c d:Pt}(h:Lt a b d d):Lt a b c d:=by obtain⟨q,s,t,z,y,h3,h4,h5,e,l⟩:=h;exact⟨q,s,q,z,y,h3,U,ED,AFm,AFm⟩
theorem R7{a b c d:Pt}(h:Lt a a c d):Lt a b c d:=by obtain⟨q,s,t,z,h2,h3,y,v,e,l⟩:=h;exact⟨q,0,t,z,Bb,U,y,v,AFm,AFm⟩
theorem xQ{a b c d:Pt}(h:Lt b b c d):Lt a b c d:=by obtain⟨q,s,t,z,h2,h3,y,v,e,l⟩:=h;exact⟨q,q,t,z,U,ED,y,v,AFm,AFm⟩
set_option tactic.hygienic true
theorem PK{a b:Pt}{h:Int}(z:a.2≠b.2)(hr:(a.2<=h/\h<=b.2)\/(b.2<=h/\h<=a.2)):∃q s:Int,0<q/\0<=s/\s<=q/\q*a.2+s*(b.2-a.2)=q*h/\(s=0->h=a.2)/\(s=q->h=b.2):=by
 rcases AGW z with hl|hl
 .exact⟨b.2-a.2,h-a.2,U,U,U,AFm,U,U⟩
 .exact⟨a.2-b.2,a.2-h,U,U,U,AFm,U,U⟩
theorem Xc{a b:Pt}{h:Int}(z:(a.2<=h/\h<b.2)\/(b.2<=h/\h<a.2)):∃q s:Int,0<q/\0<s/\s<q/\2*(q*a.2+s*(b.2-a.2))=q*(2*h+1):=by
 rcases z with hl|hl
 .exact⟨2*(b.2-a.2),2*h+1-2*a.2,iD hl,by cases hl;lia,U,AFm⟩
 .exact⟨2*(a.2-b.2),2*a.2-(2*h+1),iD hl,U,U,AFm⟩
theorem EX{r:List Pt}{h i:Int}(hs:Ae r h i≠0):(yy r i<=h/\h<yy r (i+1))\/(yy r (i+1)<=h/\h<yy r i):=by
 unfold Ae at hs;by_cases z:yy r i<=h/\h<yy r (i+1)
 .exact .inl z
 .by_cases y:yy r (i+1)<=h/\h<yy r i
  .exact .inr y
  .rw[AF0 z,AF0 y]at hs;exact absurd rfl hs
def RQ(r:List Pt)(h:Int)(A B:Pt):Int:=Af (λk=>ind (Lt A B (AA r k)<|AA r<|k+1)*Ae r h k) r.length
theorem kg{f g G:Int->Int}{n:Nat}(z:∀k,f k=g k+(G k-G (k+1)))(p:G n=G 0):Af f n=Af g n:=by have y:=X9 (λk=>-G k) n;rw[Cj (g:=λk=>g k+(-G (k+1) - -G k)) λk _=>by rw[z];lia,Pc g λk=>-G (k+1) - -G k,y];lia
theorem Ze(r:List Pt):AA r (r.length)=AA r 0:=Al AFn
theorem kX{r:List Pt}{A B:Pt}{h:Int}(nc:∀k:Int,Lt A B (AA r k) (AA r<|k+1)->¬ Lt (AA r k) (AA r<|k+1) A B)(v:∀m:Int,yy r m=h->Lt A B (AA r m) (AA r m)\/Lt (AA r m) (AA r m) A B):RQ r h A B=RQ r (h-1) A B:=by
 refine kg (G:=λk=>ind<|yy r k=h/\Lt A B (AA r k) (AA r k)) (λk=>comb (x:=ind<|yy r k=h) (y:=ind<|yy r (k+1)=h) (xP<|Xq r h k) ?_ ?_) (by unfold yy;rw[Ze])
 .by_cases a:yy r k=h
  .refine .inl ⟨BG a,?_⟩;rcases v k a with z|z
   .rw[BG ⟨a,z⟩,BG<|O2 z]
   .have q:=λc=>nc k c<|R7 z;rw[A2 q,A2 λc=>q<|O2 c.2]
  .exact .inr ⟨A2 a,A2 λc=>a c.1⟩
 .by_cases a:yy r (k+1)=h
  .refine .inl ⟨BG a,?_⟩;rcases v (k+1) a with z|z
   .rw[BG ⟨a,z⟩,BG<|iF z]
   .have q:=λc=>nc k c<|xQ z;rw[A2 q,A2 λc=>q<|iF c.2]
  .exact .inr ⟨A2 a,A2 λc=>a c.1⟩
theorem Yz{r:List Pt}{A B:Pt}(st:∀h,(A.2<h/\h<B.2)\/(B.2<h/\h<A.2)->RQ r h A B=RQ r (h-1) A B){h h':Int}(y:(A.2<=h/\h<B.2)\/(B.2<=h/\h<A.2))(q:(A.2<=h'/\h'<B.2)\/(B.2<=h'/\h'<A.2)):RQ r h A B=RQ r h' A B:=by
 have z:∀(m:Nat)(h:Int),((A.2<=h/\h<B.2)\/(B.2<=h/\h<A.2))->((A.2<=h+m/\h+m<B.2)\/(B.2<=h+m/\h+m<A.2))->RQ r (h+m) A B=RQ r h A B:=by
  intro m
  induction m with
  |zero=>simp
  |succ m ih=>
   intro h a b;rw[<-ih h a U,st (h+((m+1:Nat))) U,show h+((m+1:Nat))-1=h+m by lia]
 rcases AHi h h' with hl|hl
 .have:=z (h'-h).toNat h y (by rw[AGL<|Ce hl,R5];exact q);rw[AGL<|Ce hl,R5]at this;exact this.symm
 .have:=z (h-h').toNat h' q (by rw[AGL<|Ce hl,R5];exact y);rw[AGL<|Ce hl,R5]at this;exact this
set_option tactic.hygienic false
section
variable{r:List Pt}(S:A3 r)
include S
theorem A3.M3{h i j:Int}(Q:(i-j)%(r.length)≠0)(hi:Ae r h i≠0)(O:Ae r h j≠0):L r i j\/L r j i:=by
 obtain⟨y,s1,v,P,p3,D⟩:=Xc <|EX hi;obtain⟨q,s2,p,F,R,B⟩:=Xc <|EX O;have Z:=AF8 v p;have m2:=AF8 P p;have m3:=AF8 F v;have m4:=AHp p3 p;have m5:s2*y<y*q:=by rw[AH2 y];exact AHp R v
 have Y:y*q*(AA r i).2+s1*q*((AA r<|i+1).2-(AA r i).2)=y*q*(AA r j).2+s2*y*((AA r<|j+1).2-(AA r j).2):=by
  have f1:2*(y*q*(AA r i).2+s1*q*((AA r<|i+1).2-(AA r i).2))=q*(2*(y*(AA r i).2+s1*((AA r<|i+1).2-(AA r i).2))):=AFm
  have f2:2*(y*q*(AA r j).2+s2*y*((AA r<|j+1).2-(AA r j).2))=y*(2*(q*(AA r j).2+s2*((AA r<|j+1).2-(AA r j).2))):=AFm
  rw[D]at f1;rw[B]at f2;lia
 rcases AHc (y*q*(AA r i).1+s1*q*((AA r<|i+1).1-(AA r i).1)) (y*q*(AA r j).1+s2*y*((AA r<|j+1).1-(AA r j).1))with hl|he|hg
 .exact .inl ⟨_,_,_,Z,U,U,U,U,Y,hl⟩
 .rcases S.share Q Z U U U U he Y with⟨_,z,_⟩|⟨_,z,_⟩<;>lia
 .exact .inr ⟨_,_,_,Z,U,U,U,U,Y.symm,hg⟩
theorem A3.off{m j:Int}(y:(m-j)%(r.length)≠0)(v:(m-j)%(r.length)≠1){q s:Int}(p:0<q)(Z:0<=s)(s1:s<=q)(Y:q*(AA r j).2+s*((AA r<|j+1).2-(AA r j).2)=q*(AA r m).2):q*(AA r j).1+s*((AA r<|j+1).1-(AA r j).1)≠q*(AA r m).1:=by
 intro Q;rcases S.share y (s:=0) p Bb U Z s1 (by rw[Q];lia) (by rw[Y];lia)with⟨z,_⟩|⟨_,z,_⟩
 .exact v z
 .lia
theorem A3.M6{m i:Int}(v:(m-i)%(r.length)≠0)(p:(m-i)%(r.length)≠1)(Z:yy r i≠yy r (i+1))(Y:(yy r i<=yy r m/\yy r m<=yy r (i+1))\/(yy r (i+1)<=yy r m/\yy r m<=yy r i)) : Lt (AA r i) (AA r<|i+1) (AA r m) (AA r m)\/Lt (AA r m) (AA r m) (AA r i) (AA r<|i+1):=by
 obtain⟨q,s,z,y,s1,e,_,_⟩:=PK Z Y;rcases AGW (S.off v p z y s1 e)with hl|hl
 .exact .inl ⟨q,s,0,z,y,s1,Bb,U,by unfold yy at e;rw[e];exact Wt,Ws hl⟩
 .exact .inr ⟨q,0,s,z,Bb,U,y,s1,by unfold yy at e;rw[e];exact R3,R6 hl⟩
set_option tactic.hygienic true
theorem A3.VM{i h h':Int}(y:Ae r h i≠0)(q:Ae r h' i≠0):Rr r h i=Rr r h' i:=by
 have ne:yy r i≠yy r (i+1):=O1<|EX y;refine Yz (λh hh=>kX (λk c d=>?_) λm e=>?_) (EX y)<|EX q
 .by_cases z:(i-k)%(r.length)=0
  .rw[<-Al z,<-Al<|CB z]at c;exact NW r i ne c
  .exact S.nc z c d
 .unfold yy at e;refine S.M6 (λz=>?_) (λz=>?_) ne (by unfold yy;lia)
  .rw[Al z]at e;lia
  .rw[(S.next z).1]at e;lia
end
theorem S6{f:Int->Int}{n:Nat}(hn:0<n)(hp:∀a b:Int,(a-b)%(n)=0->f a=f b)(i:Int):Af (λm=>f<|i+m) n=Af f n:=by
 have z:Af (λm=>f<|i+m) n=Af (λm=>f<|m+((i%(n)).toNat)) n:=Cj λm _=>hp _ _ (by
  rw[AGL<|AGQ i (b:=(n))<|MX hn,show i+(m)-(m+i%(n))=i-i%n by lia];have:=AHV i n;have e:i-i%(n)=n*(i / n):=U
  rw[e];exact AGR _ _)
 rw[z];exact X8 f n (λx=>hp _ _ (by rw[show x+(n)-x=n by lia];exact AGk)) _
theorem S7{f:Int->Int}:∀{n:Nat},(∀m:Nat,m<n->f m=0)->Af f n=0
 |0,_=>rfl
 |n+1,h=>by rw[Af,S7 λm hm=>h m<|En hm,h n EU];rfl
theorem S5{f:Int->Int}{d:Nat}:∀{n:Nat},d<n->(∀m:Nat,m<n->m≠d->f m=0)->Af f n=f d
 |0,h,_=>U
 |n+1,h,hz=>by
  simp only[Af];by_cases hd:d=n
  .subst hd;rw[S7 λm hm=>hz m (En hm) U];lia
  .rw[S5 (FG h hd) λm hm z=>hz m (En hm) z,hz n EU (by rintro rfl;lia)];lia
theorem ADU{f:Int->Int}{c d n:Nat}(hc:c<d)(hd:d<n)(hz:∀m:Nat,m<n->m≠c->m≠d->f m=0):Af f n=f c+f d:=by
 induction n with
 |zero=>lia
 |succ n ih=>
  simp only[Af];by_cases h:d=n
  .subst h;rw[S5 hc λm hm z=>hz m (En hm) z U]
  .rw[ih (FG hd h) λm hm=>hz m<|En hm,hz n EU U U];lia
theorem Eo{n a b:Int}(h:(a-b)%n=0):(b-a)%n=0:=by rw[show b-a = -(a-b)by lia];exact AJY<|Int.dvd_neg.mpr<|AJZ h
theorem Fo{n a b:Int}(hn:1<n)(h:(a-b)%n=1):(a-1-b)%n=0:=by rw[show a-1-b=(a-b)-1 by lia,AHI,h,AFt C2 hn];rfl
def cc(r:List Pt)(h i:Int):Int:=Rr r h i+ind (yy r i<yy r (i+1))
theorem o6{r:List Pt}{h i j:Int}(e:(i-j)%(r.length)=0):cc r h i=cc r h j:=by
 delta cc Rr
 simp only[G8 e,G8<|CB e]
 congr 1
 exact Cj λm _=>by rw[NV e (AFn:((m:Int)-m)%(r.length)=0)]
theorem Sw{r:List Pt}{h i:Int}(z:yy r i<=h)(y:h<yy r (i+1)):Ae r h i=1:=AFu ⟨z,y⟩
theorem Sv{r:List Pt}{h i:Int}(z:yy r (i+1)<=h)(y:h<yy r i):Ae r h i = -1:=by unfold Ae;rw[AF0 U,AFu ⟨z,y⟩]
theorem Dw{r:List Pt}{h i:Int}(y:(yy r i<=h/\h<yy r (i+1))\/(yy r (i+1)<=h/\h<yy r i)):Ae r h i≠0:=by
 rcases y with z|z
 .rw[Sw z.1 z.2];lia
 .rw[Sv z.1 z.2];lia
theorem Vd{C:Nat->Prop}{N D:Nat->Int}(v:∀j,C j->0<D j):∀n:Nat,(∃j,j<n/\C j)->∃e,e<n/\C e/\∀j,j<n->C j->N j*D e<=N e*D j
 |0,⟨j,h,_⟩=>U
 |n+1,⟨j,z,hc⟩=>by
  by_cases y:∃j,j<n/\C j
  .obtain⟨e,he,p,hm⟩:=Vd v n y;by_cases hn:C n
   .by_cases Z:N n*D e<=N e*D n
    .exact⟨e,En he,p,λj z q=>by
      by_cases h:j=n
      .subst h;exact Z
      .exact hm j (FG z h) q⟩
    .refine⟨n,EU,hn,λj z q=>?_⟩;by_cases h:j=n
     .subst h;exact AGb _
     .have m1:=AGB (hm j (FG z h) q)<|AFv<|v n hn;have m2:=AGB (U:N e*D n<=N n*D e)<|AFv<|v j q;exact AG3 U<|v e p
   .exact⟨e,En he,p,λj z q=>by
     by_cases h:j=n
     .subst h;exact absurd q hn
     .exact hm j (FG z h) q⟩
  .have Y:j=n:=by
    by_cases h:j=n
    .exact h
    .exact absurd ⟨j,FG z h,hc⟩ y
   subst Y;exact⟨j,EU,hc,λm hm Q=>by
    by_cases h:m=j
    .subst h;exact AGb _
    .exact absurd ⟨m,FG hm h,Q⟩ y⟩
theorem kL(r:List Pt)(h j:Int):Ae r h j=ind (yy r j<=h)-ind (yy r (j+1)<=h):=by
 delta Ae ind
 generalize yy r (j+1)=b
 (repeat' split)<;>lia
theorem FI{a b c d:Pt}(h:Lt a b c d):Lt b a c d:=by obtain⟨q,s,t,z,y,h3,v,p,e,l⟩:=h;exact⟨q,q-s,t,z,Ce h3,LK y,v,p,AFm,AFm⟩
theorem Fm{a b c d:Pt}(h:Lt a b c d):Lt a b d c:=by obtain⟨q,s,t,z,y,h3,v,p,e,l⟩:=h;exact⟨q,s,q-t,z,y,h3,Ce p,LK v,AFm,AFm⟩
theorem Mv{a b c d:Pt}(h:Bm a b c d):Bm b a c d:=by obtain⟨q,s,t,z,y,h3,v,p,e1,e2⟩:=h;exact⟨q,q-s,t,z,Ce h3,LK y,v,p,AFm,AFm⟩
theorem JW{a b p:Pt}(h:At a b p):At b a p:=by obtain⟨q,s,z,y,h3,e1,e2⟩:=h;exact⟨q,q-s,z,Ce h3,LK y,AFm,AFm⟩
theorem SK{A X B:Pt}(f:CD A X B)(p:Lt A B A X):¬ Lt A X A B:=λZ=>by
 obtain⟨q1,s1,t1,q2,s2,t2,x,y,z,q,OO,OP,Y,a2,b1,b2,Q,c2,O,d2,v,e1,e2⟩:=Wz p Z;have n1:=AFy Y<|AFv q;have n2:=AFy b1<|AFv z;have n3:=AFy Q<|AFv q;have n4:=AFy O<|AFv z;obtain⟨z1,z2⟩:=f (t1*y+t2*x) (s1*y+s2*x) U U U U;have k1:s1*y=0:=by clear v;lia
 have k2:t1*y=0:=U
 have P:s1=0:=by rcases AGJ.mp k1 with h|h<;>omega
 have D:t1=0:=by rcases AGJ.mp k2 with h|h<;>omega
 rw[P,D]at v;lia
theorem CD.symm{A X B:Pt}(f:CD A X B):CD A B X:=λs t hs z y q=>(f t s z hs y.symm q.symm).symm
theorem Jp{A X B:Pt}(Z:X≠A)(Y:B≠A)(Q:¬ At A B X)(O:¬ At A X B):CD A X B:=λa b ha p z y=>by
 by_cases a0:a=0
 .refine⟨a0,?_⟩;by_cases q:b=0
  .exact q
  .exfalso;apply Y;rw[a0,AGl]at z y;have g1:=AGJ.mp z.symm;have v:=AGJ.mp y.symm;exact AGy (KC g1 q)<|KC v q
 by_cases q:b=0
 .exfalso;apply Z;rw[q,AGl]at z y;have g1:=AGJ.mp z;have v:=AGJ.mp y;exact AGy (KC g1 a0)<|KC v a0
 exfalso;rcases AHi b a with h|h
 .exact Q ⟨a,b,Hn ha a0,p,h,z,y⟩
 .exact O ⟨b,a,Hn p q,ha,h,z.symm,y.symm⟩
structure Probe(r:List Pt)(i j:Int):Prop where
 Ba:Bt r.length<|i-j
 f1:CD (AA r i) (AA r<|i+1)<|AA r j
 f2:CD (AA r i) (AA r<|i-1)<|AA r j
 f3:CD (AA r j) (AA r<|j+1)<|AA r i
 f4:CD (AA r j) (AA r<|j-1)<|AA r i
 nt:∀k:Int,(i-k)%(r.length:Int)≠0->(i-k)%(r.length:Int)≠1->(j-k)%(r.length:Int)≠0->(j-k)%(r.length:Int)≠1->¬ Bm (AA r i) (AA r j) (AA r k) (AA r<|k+1)
theorem mod_succ{n a b:Int}(hn:1<n)(h:(a-b)%n=0):(a+1-b)%n=1:=by simp only[show a+1-b=(a-b)+1 by lia,AHJ,h,AFt C2 hn,AGj,AFt C2 hn]
theorem dX{n d:Int}(hn:2<=n)(h:Bt n d):d%n≠0/\d%n≠1/\(-d)%n≠0/\(-d)%n≠1:=⟨h.1,h.2.1,(h.neg hn).1,(h.neg hn).2.1⟩
section
variable{r:List Pt}(S:A3 r)
include S
theorem Probe.symm{i j:Int}(p:Probe r i j):Probe r j i:=
 ⟨by have:=p.Ba.neg (by have:=S.l3;exact KA this);rw[show -(i-j)=j-i by lia]at this;exact this,p.f3,p.f4,p.f1,p.f2,λk a b c d h=>p.nt k c d a b<|Mv h⟩
theorem A3.distinct{m j:Int}(z:(m-j)%(r.length)≠0)(y:(m-j)%(r.length)≠1):AA r m≠AA r j:=λe=>by
 refine S.off z y (q:=1) (s:=0) J9 Bb C2 ?_ ?_
 .rw[e];lia
 .rw[e];lia
theorem Probe.Q2{i j:Int}(p:Probe r i j):CD (AA r i) (AA r<|i+1)<|AA r j:=p.f1
theorem Probe.L5{i j:Int}(p:Probe r i j):CD (AA r i) (AA r<|i-1)<|AA r j:=p.f2
theorem A3.EW{m j:Int}(z:(m-j)%(r.length)≠0)(y:(m-j)%(r.length)≠1):¬ At (AA r j) (AA r<|j+1) (AA r m):=by rintro⟨q,s,v,p,s1,e1,e2⟩;exact S.off z y v p s1 AFm AFm
theorem du(DF:∀k:Int,AD (AA r k) (AA r<|k+1) (AA r<|k+1+1)≠0){i j:Int}(Ba:Bt r.length<|i-j)(nt:∀k:Int,(i-k)%(r.length)≠0->(i-k)%(r.length)≠1->(j-k)%(r.length)≠0->(j-k)%(r.length)≠1->¬ Bm (AA r i) (AA r j) (AA r k) (AA r<|k+1)):CD (AA r i) (AA r<|i+1)<|AA r j:=by
 have h3:=S.l3;obtain⟨f0,f1,f2,f3⟩:=dX (KA h3) Ba;rw[show -(i-j)=j-i by lia]at f2 f3;have z:=DF i;refine Jp (λc=>z (by rw[c];unfold AD;grind)) (S.distinct f2 f3) (λy=>?_)<|S.EW f2 f3;by_cases q:(j-(i+1))%(r.length)=1
 .apply z;rw[<-(S.next q).1,CG,C3,(Gn y).1];rfl
 .have:(-1:Int)%(r.length)=r.length-1:=by rw[show(-1:Int)=(r.length-1)+r.length*(-1)by lia,AG9,AFt U U]
  refine nt (i+1) (λc=>U) (λc=>U) (λc=>f3 ?_) q<|Sz y;have:=mod_succ (DC h3) c;rw[show j+1-(i+1)=j-i by clear f3;lia]at this;exact this
theorem dv(DF:∀k:Int,AD (AA r k) (AA r<|k+1) (AA r<|k+1+1)≠0){i j:Int}(Ba:Bt r.length<|i-j)(nt:∀k:Int,(i-k)%(r.length)≠0->(i-k)%(r.length)≠1->(j-k)%(r.length)≠0->(j-k)%(r.length)≠1->¬ Bm (AA r i) (AA r j) (AA r k) (AA r<|k+1)):CD (AA r i) (AA r<|i-1)<|AA r j:=by
 have h3:=S.l3;obtain⟨f0,f1,f2,f3⟩:=dX (KA h3) Ba;rw[show -(i-j)=j-i by lia]at f2 f3;have v:i-2+1=i-1:=U
 have y:i-1+1=i:=DZ;have q:=DF<|i-2;rw[v,y]at q;have p:(j-(i-1))%(r.length)≠0:=λc=>f1 (by have:=mod_succ (DC h3)<|Eo c;rw[y]at this;exact this)
 refine Jp (λc=>q (by rw[c];unfold AD;grind)) (S.distinct f2 f3) (λZ=>?_) λz=>S.EW (m:=j) (j:=i-1) p (λc=>?_) (by rw[y];exact JW z)
 .by_cases Y:(j-(i-2))%(r.length)=0
  .apply q;rw[<-Al Y,<-CG,<-CG,(Gn Z).1]
  .refine nt (i-2) (λc=>?_) (λc=>?_) Y (λc=>p ?_) (by rw[v];exact Xr Z)
   .rw[show i-(i-2)=2 by lia,AFt U U]at c;lia
   .rw[show i-(i-2)=2 by lia,AFt U U]at c;lia
   .have:=Fo (DC h3) c;rw[show j-1-(i-2)=j-(i-1)by lia]at this;exact this
 .have:=Fo (DC h3) c;rw[show j-1-(i-1)=j-i by lia]at this;exact f2 this
theorem jZ(DF:∀k:Int,AD (AA r k) (AA r<|k+1) (AA r<|k+1+1)≠0){i j:Int}(Ba:Bt r.length<|i-j)(nt:∀k:Int,(i-k)%(r.length)≠0->(i-k)%(r.length)≠1->(j-k)%(r.length)≠0->(j-k)%(r.length)≠1->¬ Bm (AA r i) (AA r j) (AA r k) (AA r<|k+1)):Probe r i j:=by
 have z:=by have:=Ba.neg (by have:=S.l3;exact KA this);rw[show -(i-j)=j-i by lia]at this;exact this
 have y:=λk a b c d h=>nt k c d a b<|Mv h;exact⟨Ba,du S DF Ba nt,dv S DF Ba nt,du S DF z y,dv S DF z y,nt⟩
theorem Probe.nc{i j:Int}(p:Probe r i j)(k:Int)(y:Lt (AA r i) (AA r j) (AA r k)<|AA r<|k+1):¬ Lt (AA r k) (AA r<|k+1) (AA r i) (AA r j):=by
 have h3:=S.l3;have Y:=p.symm S;by_cases a:(i-k)%(r.length)=0
 .have q:=Al a;have v:=Al<|CB a;simp only[<-q,<-v]at y ⊢;exact SK (p.Q2 S) y
 by_cases b:(i-k)%(r.length)=1
 .have Z:=(Al (by have:=Fo (DC h3) b;exact this)).symm;simp only[<-(S.next b).1,Z]at y ⊢;exact λc=>SK (p.L5 S) (Fm y)<|FI c
 by_cases c:(j-k)%(r.length)=0
 .have q:=Al c;have v:=Al<|CB c;rw[<-q,<-v]at y ⊢;exact λz=>SK (Y.Q2 S) (FI y)<|Fm z
 by_cases d:(j-k)%(r.length)=1
 .have Z:=(Al (by have:=Fo (DC h3) d;exact this)).symm;rw[<-(S.next d).1,Z]at y ⊢;exact λz=>SK (Y.L5 S) (FI<|Fm y)<|FI<|Fm z
 .exact W6 (p.nt k a b c d) y
theorem Probe.LZ{i j:Int}(p:Probe r i j){m:Int}(a:(i-m)%(r.length)≠0)(c:(j-m)%(r.length)≠0):¬ At (AA r i) (AA r j) (AA r m):=by
 have h3:=S.l3;intro z;by_cases b:(i-m)%(r.length)=1
 .have y:=(Al (by have:=Fo (DC h3) b;exact this)).symm;rw[y]at z;obtain⟨q,s,Q,v,s1,Z,Y⟩:=z;have:=(p.L5 S q s U v Z Y).1;lia
 by_cases d:(j-m)%(r.length)=1
 .have y:=(Al (by have:=Fo (DC h3) d;exact this)).symm;rw[y]at z;obtain⟨q,s,Q,v,s1,Z,Y⟩:=JW z;have:=((p.symm S).L5 S q s U v Z Y).1;lia
 .exact p.nt m a b c d<|Sz z
end
section
variable{r:List Pt}(S:A3 r)
include S
theorem A3.kY(k:Int):AA r (k+1)≠AA r k:=λc=>by have:=(S.fork k 1 0 C2 Bb U U).1;lia
theorem A3.inj{m j:Int}(e:AA r m=AA r j):(m-j)%(r.length)=0:=by
 rcases S.cases m j with a|a|a|a
 .exact a
 .exact absurd ((S.next a).1.symm.trans e) (S.kY j)
 .exact absurd ((S.next a).1.symm.trans e.symm) (S.kY m)
 .exact absurd e (S.distinct a.1 a.2.1)
end
section
variable{r:List Pt}(S:A3 r){i j:Int}(p:Probe r i j)
include S p
theorem Probe.M6{m:Int}(a:(i-m)%(r.length)≠0)(c:(j-m)%(r.length)≠0)(v:yy r i≠yy r j)(Z:(yy r i<=yy r m/\yy r m<=yy r j)\/(yy r j<=yy r m/\yy r m<=yy r i)) : Lt (AA r i) (AA r j) (AA r m) (AA r m)\/Lt (AA r m) (AA r m) (AA r i) (AA r j):=by
 obtain⟨q,s,z,y,s1,e,_,_⟩:=PK v Z;unfold yy at e;rcases AHc (q*(AA r i).1+s*((AA r j).1-(AA r i).1)) (q*(AA r m).1)with hl|he|hg
 .exact .inl ⟨q,s,0,z,y,s1,Bb,U,by rw[e];exact Wt,Ws hl⟩
 .exact absurd ⟨q,s,z,y,s1,AFm,AFm⟩ (p.LZ S a c)
 .exact .inr ⟨q,0,s,z,Bb,U,y,s1,by rw[e];exact R3,R6 hg⟩
theorem Probe.along{h h':Int}(z:(yy r i<=h/\h<yy r j)\/(yy r j<=h/\h<yy r i))(y:(yy r i<=h'/\h'<yy r j)\/(yy r j<=h'/\h'<yy r i)):RQ r h (AA r i) (AA r j)=RQ r h' (AA r i) (AA r j):=
 Yz (λh hh=>kX (p.nc S) λm e=>p.M6 S (λc=>by have:=G8 c;unfold yy at *;lia) (λc=>by have:=G8 c;unfold yy at *;lia) (O1 z) (by unfold yy at *;lia)) z y
end
noncomputable def dbl(p:Pt):Pt:=(2*p.1,2*p.2)
section
variable{r:List Pt}(S:A3 r){i j:Int}(p:Probe r i j)
include S p
theorem Probe.iS(k:Int):¬ At (dbl<|AA r k) (dbl<|AA r<|k+1) ((AA r i).1+(AA r j).1,(AA r i).2+(AA r j).2):=by
 have h3:=S.l3;have Y:=p.symm S;rintro⟨q,s,hq,s0,s1,z,y⟩;unfold dbl at z y;dsimp only at z y;by_cases a:(i-k)%(r.length)=0
 .have Q:=Al a;have v:=Al<|CB a;rw[<-Q,<-v]at z y;have:=(p.Q2 S (2*s) q U U AFm AFm).2;lia
 by_cases b:(i-k)%(r.length)=1
 .have e:=S.next b;have Z:=(Al (by have:=Fo (DC h3) b;exact this)).symm;rw[<-e.1,Z]at z y;have:=(p.L5 S (2*(q-s)) q U U AFm AFm).2;lia
 by_cases c:(j-k)%(r.length)=0
 .have v:=Al<|CB c;rw[<-(Al c),<-v]at z y;have:=(Y.Q2 S (2*s) q U U AFm AFm).2;lia
 by_cases d:(j-k)%(r.length)=1
 .have Z:=(Al (by have:=Fo (DC h3) d;exact this)).symm;rw[<-(S.next d).1,Z]at z y;have:=(Y.L5 S (2*(q-s)) q U U AFm AFm).2;lia
 .exact p.nt k a b c d ⟨2*q,q,2*s,U,U,U,U,U,AFm,AFm⟩
end
def NN(r:List Pt)(h i:Int):Int:=Af (λk=>ind (Lt (AA r i) (AA r i) (AA r k)<|AA r<|k+1)*Ae r h k) r.length
theorem Uk{A X Y:Pt}(z:A.2<X.2)(y:A.2<Y.2):Lt A X A Y↔AD A Y X>0:=by
 constructor
 .rintro⟨q,s,t,hq,s0,s1,Z,t1,e,l⟩;have v:s*(X.2-A.2)=t*(Y.2-A.2):=U
  have p:s*(X.1-A.1)<t*(Y.1-A.1):=U
  have Q:0<t:=by
   by_cases c:t=0
   .rw[c,AGl]at v p;have:s=0:=by rcases AGJ.mp v with h|h<;>lia
    rw[this]at p;lia
   .exact Hn Z c
  have k:t*AD A Y X=(X.2-A.2)*(t*(Y.1-A.1)-s*(X.1-A.1)):=by
   have:t*AD A Y X=(t*(Y.1-A.1))*(X.2-A.2)-(t*(Y.2-A.2))*(X.1-A.1):=by unfold AD;grind
   simp only[this,<-v];grind
  have:=AF8 (show 0<X.2-A.2 from Fi z) (U:0<t*(Y.1-A.1)-s*(X.1-A.1));by_cases c:AD A Y X>0
  .exact c
  .have:=AGm (AFv Q) (U:AD A Y X<=0);omega
 .intro h;have m1:(Y.2-A.2)*1<=(Y.2-A.2)*(X.2-A.2):=AF7 U<|Fl y;have m2:(X.2-A.2)*1<=(X.2-A.2)*(Y.2-A.2):=AF7 U<|Fl z;exact⟨(X.2-A.2)*(Y.2-A.2),Y.2-A.2,X.2-A.2,AF8 (Fi z)<|Fi y,Fl y,AFm,Fl z,AFm,AFm,by unfold AD at h;grind⟩
set_option tactic.hygienic true
noncomputable def E9(p:Pt):Pt:=(p.1,-p.2)
theorem iG{a b c d:Pt}(h:Lt a b c d):Lt (E9 a) (E9 b) (E9 c)<|E9 d:=by obtain⟨q,s,t,z,y,h3,v,p,e,l⟩:=h;exact⟨q,s,t,z,y,h3,v,p,by unfold E9;dsimp only;grind,l⟩
theorem VY(a:Pt):E9 (E9 a)=a:=AGy rfl<|AIE _
theorem o9{A X Y:Pt}(z:X.2<A.2)(y:Y.2<A.2):Lt A X A Y↔AD A X Y>0:=by have:=Uk (A:=E9 A) (X:=E9 X) (Y:=E9 Y) (Int.neg_lt_neg z)<|Int.neg_lt_neg y;rw[show AD (E9 A) (E9 Y) (E9 X)=AD A X Y by unfold AD E9;grind]at this;exact⟨λh=>this.mp<|iG h,λh=>by have:=iG<|this.mpr h;rw[VY,VY,VY]at this;exact this⟩
theorem Q4{A X B:Pt}(f:CD A X B)(h:(A.2<X.2/\A.2<B.2)\/(X.2<A.2/\B.2<A.2)):AD A X B≠0:=λc=>by
 unfold AD at c;rcases h with⟨z,y⟩|⟨z,y⟩
 .have:=(f (B.2-A.2) (X.2-A.2) (Fl y) (Fl z) AFm AFm).1;lia
 .have:=(f (A.2-B.2) (A.2-X.2) (Fl y) (Fl z) AFm AFm).1;lia
section
variable{r:List Pt}(S:A3 r){i:Int}(gU:yy r (i-1)≠yy r i)(gV:yy r (i+1)≠yy r i)
include S gU gV
set_option tactic.hygienic false
theorem A3.A9{k:Int}(h:(i-k)%(r.length)=0\/(i-k)%(r.length)=1):¬ Lt (AA r i) (AA r i) (AA r k) (AA r<|k+1):=by
 have h3:=S.l3;rcases h with a|b
 .simp only[<-Al a,<-Al<|CB a];rintro⟨q,s,t,y,v,s1,p,t1,e,l⟩;unfold yy at gV;have:t*((AA r<|i+1).2-(AA r i).2)=0:=AFm
  rcases AGJ.mp this with z|z
  .rw[z]at l;grind
  .lia
 .have e:=S.next b;have Z:=(Al (by have:=Fo (DC h3) b;exact this)).symm;rw[<-e.1];rintro⟨q,s,t,y,v,s1,p,t1,e,l⟩;unfold yy at gU;have:(q-t)*((AA r<|i-1).2-(AA r i).2)=0:=AFm
  rcases AGJ.mp this with z|z
  .have:t=q:=AFo
   rw[this]at l;grind
  .clear Z;lia
theorem A3.Xt{k:Int}(a:(i-k)%(r.length)≠0)(b:(i-k)%(r.length)≠1){q s:Int}(y:0<q)(v:0<=s)(s1:s<=q)(e:q*(AA r k).2+s*((AA r<|k+1).2-(AA r k).2)=q*yy r i) : (q*(AA r i).1<q*(AA r k).1+s*((AA r<|k+1).1-(AA r k).1)/\Lt (AA r i) (AA r i) (AA r k) (AA r<|k+1))\/(q*(AA r k).1+s*((AA r<|k+1).1-(AA r k).1)<q*(AA r i).1/\Lt (AA r k) (AA r<|k+1) (AA r i) (AA r i)/\¬ Lt (AA r i) (AA r i) (AA r k) (AA r<|k+1)):=by
 unfold yy at e;have ns:¬ Bm (AA r i) (AA r i) (AA r k) (AA r<|k+1):=by rintro⟨q',s',t',p,h2,h3,Z,Y,e1,e2⟩;exact S.off a b p Z Y AFm AFm
 rcases AGW (S.off a b y v s1 e)with z|z
 .have l:Lt (AA r k) (AA r<|k+1) (AA r i)<|AA r i:=⟨q,s,0,y,v,s1,Bb,U,by rw[e];exact Wt,Ws z⟩;exact .inr ⟨z,l,λc=>W6 ns c l⟩
 .exact .inl ⟨z,⟨q,0,s,y,Bb,U,v,s1,by rw[e];exact R3,R6 z⟩⟩
theorem A3.nL:NN r (yy r i) i=NN r (yy r i-1) i:=by
 have Y:∀k:Int,ind (Lt (AA r i) (AA r i) (AA r k)<|AA r<|k+1)*Ae r (yy r i) k=ind (Lt (AA r i) (AA r i) (AA r k)<|AA r<|k+1)*Ae r (yy r i-1) k+(ind (yy r k=yy r i/\(AA r i).1<(AA r k).1)-ind (yy r (k+1)=yy r i/\(AA r i).1<(AA r<|k+1).1)):=by
  intro k;have hd:=Xq r (yy r i) k;by_cases Z:(i-k)%(r.length)=0\/(i-k)%(r.length)=1
  .rw[A2<|S.A9 gU gV Z];have g:ind (yy r k=yy r i/\(AA r i).1<(AA r k).1)=0/\ind (yy r (k+1)=yy r i/\(AA r i).1<(AA r<|k+1).1)=0:=by
    have h3:=S.l3;rcases Z with a|b
    .rw[<-Al a,<-G8<|CB a];exact⟨A2 λc=>U,A2 λc=>gV c.1⟩
    .have Q:=by have:=Fo (DC h3) b;exact this
     refine⟨A2 λc=>?_,A2 λc=>?_⟩
     .rw[<-G8 Q]at c;exact gU c.1
     .rw[<-(S.next b).1]at c;lia
   simp only[g.1,g.2];lia
  .have a:=λc=>Z<|.inl c;have b:=λc=>Z<|.inr c;refine comb (x:=ind<|yy r k=yy r i) (y:=ind<|yy r (k+1)=yy r i) U ?_ ?_
   .by_cases v:yy r k=yy r i
    .refine .inl ⟨BG v,?_⟩;rcases S.Xt gU gV a b (q:=1) (s:=0) J9 Bb C2 (by rw[show(AA r k).2=yy r i from v];lia)with⟨z,l⟩|⟨z,_,l⟩
     .rw[BG l,BG ⟨v,U⟩]
     .rw[A2 l,A2 λc=>U]
    .exact .inr ⟨A2 v,A2 λc=>v c.1⟩
   .by_cases p:yy r (k+1)=yy r i
    .refine .inl ⟨BG p,?_⟩;rcases S.Xt gU gV a b (q:=1) (s:=1) J9 C2 U (by rw[show(AA r<|k+1).2=yy r i from p];lia)with⟨z,l⟩|⟨z,_,l⟩
     .rw[BG l,BG ⟨p,U⟩]
     .rw[A2 l,A2 λc=>U]
    .exact .inr ⟨A2 p,A2 λc=>p c.1⟩
 exact kg (G:=λk=>ind<|yy r k=yy r i/\(AA r i).1<(AA r k).1) Y (by unfold yy;rw[Ze])
theorem A3.star{Z:Pt}(p:∀k:Int,(i-k)%(r.length)≠0->(i-k)%(r.length)≠1->Lt (AA r i) Z (AA r k) (AA r<|k+1)->¬ Lt (AA r k) (AA r<|k+1) (AA r i) Z){H:Int}(y:H=yy r i\/H=yy r i-1) : RQ r H (AA r i) Z=NN r (yy r i) i+(ind (Lt (AA r i) Z (AA r i)<|AA r<|i-1)*Ae r H (i-1)+ind (Lt (AA r i) Z (AA r i)<|AA r<|i+1)*Ae r H i):=by
 have h3:=S.l3;have Y:NN r (yy r i) i=NN r H i:=by
  rcases y with rfl|rfl
  .rfl
  .exact S.nL gU gV
 have hp:∀a b:Int,(a-b)%(r.length)=0->ind (Lt (AA r i) Z (AA r a)<|AA r<|a+1)*Ae r H a-ind (Lt (AA r i) (AA r i) (AA r a)<|AA r<|a+1)*Ae r H a=ind (Lt (AA r i) Z (AA r b)<|AA r<|b+1)*Ae r H b-ind (Lt (AA r i) (AA r i) (AA r b)<|AA r<|b+1)*Ae r H b:=λa b z=>by simp only[Al z,Al<|CB z,PZ z]
 have hd:RQ r H (AA r i) Z=NN r H i+Af (λk=>ind (Lt (AA r i) Z (AA r k)<|AA r<|k+1)*Ae r H k-ind (Lt (AA r i) (AA r i) (AA r k)<|AA r<|k+1)*Ae r H k) r.length:=by
  delta RQ NN
  rw[<-Pc];exact Cj λk _=>U
 simp only[hd,Y,<-S6 (Bo h3) hp<|i-1]
 congr 1
 rw[ADU (c:=0) (d:=1) U U λm hm m0 m1=>?_]
 .show ind (Lt (AA r i) Z (AA r<|i-1+0)<|AA r<|i-1+0+1)*Ae r H (i-1+0)-ind (Lt (AA r i) (AA r i) (AA r<|i-1+0)<|AA r<|i-1+0+1)*Ae r H (i-1+0)+(ind (Lt (AA r i) Z (AA r<|i-1+1)<|AA r<|i-1+1+1)*Ae r H (i-1+1)-ind (Lt (AA r i) (AA r i) (AA r<|i-1+1)<|AA r<|i-1+1+1)*Ae r H (i-1+1))=_;rw[show i-1+0=i-1 by lia,show i-1+1=i from DZ];have v:=S.A9 gU gV (.inr (by rw[show i-(i-1)=1 from R0,AFt C2<|DC h3]));rw[show i-1+1=i from DZ]at v;rw[A2 v,A2<|S.A9 gU gV (k:=i)<|.inl AFn];have e:ind (Lt (AA r i) Z (AA r<|i-1)<|AA r i)=ind (Lt (AA r i) Z (AA r i)<|AA r<|i-1):=by
   by_cases c:Lt (AA r i) Z (AA r<|i-1)<|AA r i
   .rw[BG c,BG<|Fm c]
   .rw[A2 c,A2 λz=>c<|Fm z]
  rw[e];lia
 .have a:(i-(i-1+(m)))%(r.length)≠0:=λc=>by have:=Eo c;rw[show i-1+(m)-i=m-1 by lia,AFt U<|MU hm]at this;lia
  have b:(i-(i-1+(m)))%(r.length)≠1:=λc=>by have:=Eo<|Fo (DC h3) c;rw[show i-1+(m)-(i-1)=m by lia,AFt U<|Dd hm]at this;lia
  generalize i-1+(m)=k at a b ⊢;by_cases hz:Ae r H k=0
  .lia
  .have rs:=EX hz;obtain⟨q,s,Q,O,s1,P,_,_⟩:=PK (h:=yy r i) (by show yy r k≠yy r (k+1);omega) (by unfold yy at rs y ⊢;lia);rcases S.Xt gU gV a b Q O s1 P with⟨_,l⟩|⟨_,l,l'⟩
   .rw[BG l,BG (show Lt (AA r i) Z (AA r k) (AA r<|k+1)from R7 l)];lia
   .have n1:=λc=>p k a b c<|O2 l;lia
end
theorem J3(p:Prop):(p/\ind p=1)\/(¬ p/\ind p=0):=(em p).imp (λh=>⟨h,BG h⟩) λh=>⟨h,A2 h⟩
theorem Hf{x y:Int}(h:x<y):ind (x<y)=1/\ind (y<x)=0:=⟨BG h,A2 U⟩
theorem MH{x:Int}(h:x≠0):1 + -ind (x<0)=ind (0<x):=by rcases AGW h with z|z<;>rw[(Hf z).1,(Hf z).2]<;>rfl
theorem vj{x y:Int}(z:x≠0)(q:y≠0):ind (0<x) + -ind (y<0) = -ind (x<0)+ind (0<y):=by rw[<-MH z,<-MH q];lia
def HB(a b c:Int):Prop:=(a>0/\b>0/\c>0)\/(¬ a>0/\(b>0\/c>0))
def Cq(Q a b c:Int):Prop:=(Q=1/\HB a b c)\/(Q=0/\¬ HB a b c)
theorem Zb{a b c:Int}(T:(0<a\/c<0\/b<0)/\(a<0\/0<c\/0<b))(ha:a≠0)(hb:b≠0)(hc:c≠0):Cq (ind (a<0)+(-ind (c<0)+ind (0<b))) a b c:=by unfold Cq HB;rcases J3 (a<0)with⟨x,i⟩|⟨x,i⟩<;>rw[i]<;>rcases J3 (0<b)with⟨y,i⟩|⟨y,i⟩<;>rw[i]<;>rcases J3 (c<0)with⟨z,i⟩|⟨z,i⟩<;>rw[i]<;>first|(refine .inl ⟨rfl,?_⟩;lia)|(refine .inr ⟨rfl,?_⟩;lia)|(exfalso;lia)
theorem Zc{a b c:Int}(T:(0<a\/0<c\/0<b)/\(a<0\/c<0\/b<0))(ha:a≠0):Cq (ind<|a<0) a b c:=by
 unfold Cq HB;rcases J3 (a<0)with⟨x,i⟩|⟨x,i⟩<;>rw[i]
 .refine .inl ⟨rfl,?_⟩;lia
 .refine .inr ⟨rfl,?_⟩;lia
theorem QV{a b c:Int}(T:(0<a\/c<0\/0<b)/\(a<0\/0<c\/b<0))(hb:b≠0):Cq (ind<|0<b) a b c:=by
 unfold Cq HB;rcases J3 (0<b)with⟨x,i⟩|⟨x,i⟩<;>rw[i]
 .refine .inl ⟨rfl,?_⟩;lia
 .refine .inr ⟨rfl,?_⟩;lia
theorem Cq.sw{Q a b c:Int}(h:Cq Q a c b):Cq Q a b c:=by
 unfold Cq HB at *
 rw[and_comm (a:=b>0),or_comm (a:=b>0)];exact h
theorem tr0{X Y Z:Int}(e:X=Y+Z)(h:X≠0\/Y≠0\/Z≠0):(0<X\/Y<0\/Z<0)/\(X<0\/0<Y\/0<Z):=U
theorem mp{x y:Int}(h:y<x)(c:Int):(0<(x-y)*c↔0<c)/\((x-y)*c<0↔c<0):=by have h:0<x-y:=Fi h;exact⟨⟨λz=>AH3 z h,AF8 h⟩,λz=>AHY.mp λw=>AIR.mpr (AFy (AFv h) w) z,AHg h⟩
theorem mn{x y:Int}(h:x<y)(c:Int):(0<(x-y)*c↔c<0)/\((x-y)*c<0↔0<c):=by have:=mp h (-c);rw[show(y-x) * -c=(x-y)*c by grind]at this;exact⟨this.1.trans U,this.2.trans U⟩
theorem pY{A AFl V B a b c N Q:Int}(Z:AFl≠A)(Y:V≠A)(y:B≠A)(id:(B-A)*a=(V-A)*c+(AFl-A)*b)(fa:(A<AFl/\A<V)\/(AFl<A/\V<A)->a≠0)(fb:(A<V/\A<B)\/(V<A/\B<A)->b≠0)(fc:(A<AFl/\A<B)\/(AFl<A/\B<A)->c≠0) (q:A<V->N=ind (A<AFl)*ind (a<0)) (O:A<AFl->N+ind (A<V)*ind (0<a)=1) (P:AFl<A->N=ind (V<A)*ind (a<0)) (v:A<B->Q=N+(-(ind (A<AFl)*ind (c<0))+ind (A<V)*ind (0<b))) (p:B<A->Q=N+(ind (AFl<A)*ind (0<c) + -(ind (V<A)*ind (b<0)))):Cq Q a b c:=by
 have m:∀{X x:Int},X≠A->x≠0->(X-A)*x≠0:=λh=>AIc U;have T:=λh=>tr0 id h;rcases AGW Z with h1|h1<;>rcases AGW Y with h2|h2<;>simp only[Hf h1,Hf h2,AHX,AGl,Int.neg_zero,AGG,AGj]at * <;> rcases AGW y with h3|h3
 .have ha:=fa<|.inr ⟨h1,h2⟩;have z:=fb<|.inr ⟨h2,h3⟩;have hc:=fc<|.inr ⟨h1,h3⟩;have T:=T<|.inl<|m y ha;simp only[mn h1,mn h2,mn h3]at T;rw[p h3,P h1,vj hc z];exact Zb T.symm ha z hc
 .have ha:=fa<|.inr ⟨h1,h2⟩;have T:=T<|.inl<|m y ha;simp only[mn h1,mn h2,mp h3]at T;rw[v h3,P h1];exact Zc T ha
 .have hc:=fc<|.inr ⟨h1,h3⟩;have T:=T<|.inr<|.inl<|m Y hc;simp only[mn h1,mp h2,mn h3]at T;rw[p h3,q h2,AGj];exact(QV ⟨T.2.imp_right AKG,T.1.imp_right AKG⟩ hc).sw
 .have z:=fb<|.inl ⟨h2,h3⟩;have T:=T<|.inr<|.inr<|m Z z;simp only[mn h1,mp h2,mp h3]at T;rw[v h3,q h2,AGj];exact QV T z
 .have z:=fb<|.inr ⟨h2,h3⟩;have T:=T<|.inr<|.inr<|m Z z;simp only[mp h1,mn h2,mn h3]at T;rw[p h3,O h1,MH z];exact QV T.symm z
 .have hc:=fc<|.inl ⟨h1,h3⟩;have T:=T<|.inr<|.inl<|m Y hc;simp only[mp h1,mn h2,mp h3]at T;rw[v h3,O h1,MH hc];exact(QV ⟨T.1.imp_right AKG,T.2.imp_right AKG⟩ hc).sw
 .have ha:=fa<|.inl ⟨h1,h2⟩;have T:=T<|.inl<|m y ha;simp only[mp h1,mp h2,mn h3]at T;rw[p h3,q h2];exact Zc T.symm ha
 .have ha:=fa<|.inl ⟨h1,h2⟩;have T:=T<|.inl<|m y ha;simp only[mp h1,mp h2,mp h3]at T;rw[v h3,q h2];exact Zb T ha (fb<|.inl ⟨h2,h3⟩)<|fc<|.inl ⟨h1,h3⟩
def Ew(AFl A V B:Pt):Prop:=HB (AD AFl A V) (AD A V B)<|AD AFl A B
theorem R8{A Y Z:Pt}:(A.2<Z.2->ind (Lt A Z A Y)*ind (A.2<Y.2)=ind (A.2<Y.2)*ind (0<AD A Y Z))/\(Z.2<A.2->ind (Lt A Z A Y)*ind (Y.2<A.2)=ind (Y.2<A.2)*ind (0<AD A Z Y)):=by
 constructor<;>intro h
 .rcases J3 (A.2<Y.2)with⟨x,i⟩|⟨x,i⟩
  .rw[propext<|Uk h x,AH2]
  .rw[i,AGs,AGl]
 .rcases J3 (Y.2<A.2)with⟨x,i⟩|⟨x,i⟩
  .rw[propext<|o9 h x,AH2]
  .rw[i,AGs,AGl]
theorem gH{x y:Int}:ind (x<=y)=1 + -ind (y<x):=by
 rcases J3 (y<x)with⟨h,i⟩|⟨h,i⟩
 .rw[i,A2 U];rfl
 .rw[i,BG U];rfl
theorem kH(r:List Pt)(h j:Int):Ae r h j=ind (h<yy r (j+1))-ind (h<yy r j):=by rw[kL,gH,gH];lia
theorem kJ(r:List Pt)(h j:Int):Ae r (h-1) j=ind (yy r j<h)-ind (yy r (j+1)<h):=by rw[kL,Int.le_sub_one_iff,Int.le_sub_one_iff]
section
variable{r:List Pt}(S:A3 r){i:Int}(gU:yy r (i-1)≠yy r i)(gV:yy r (i+1)≠yy r i)
include S gU gV
theorem A3.X0{Z:Pt}(y:∀k:Int,(i-k)%(r.length)≠0->(i-k)%(r.length)≠1->Lt (AA r i) Z (AA r k) (AA r<|k+1)->¬ Lt (AA r k) (AA r<|k+1) (AA r i) Z) : (yy r i<Z.2->RQ r (yy r i) (AA r i) Z=NN r (yy r i) i+(-(ind (yy r i<yy r (i-1))*ind (0<AD (AA r i) (AA r<|i-1) Z))+ind (yy r i<yy r (i+1))*ind (0<AD (AA r i) (AA r<|i+1) Z)))/\(Z.2<yy r i->RQ r (yy r i-1) (AA r i) Z=NN r (yy r i) i+(ind (yy r (i-1)<yy r i)*ind (0<AD (AA r i) Z (AA r<|i-1)) + -(ind (yy r (i+1)<yy r i)*ind (0<AD (AA r i) Z (AA r<|i+1))))):=by
 constructor<;>intro z
 .rw[S.star gU gV y<|.inl rfl,kH,kH,show i-1+1=i from DZ,A2<|AIW _,Int.zero_sub,AIk,AIF]
  delta yy at *
  rw[R8.1 z,R8.1 z]
 .rw[S.star gU gV y<|.inr rfl,kJ,kJ,show i-1+1=i from DZ,A2<|AIW _,Int.zero_sub,AIk,AIF]
  delta yy at *
  rw[R8.2 z,R8.2 z]
theorem A3.kW:(yy r i<yy r (i+1)->cc r (yy r i) i=NN r (yy r i) i+1-ind (yy r i<yy r (i-1))*ind (AD (AA r<|i-1) (AA r i) (AA r<|i+1)<0))/\(yy r (i+1)<yy r i->cc r (yy r i-1) i=NN r (yy r i) i+ind (yy r (i-1)<yy r i)*ind (0<AD (AA r<|i-1) (AA r i) (AA r<|i+1)))/\(yy r i<yy r (i-1)->cc r (yy r i) (i-1)=NN r (yy r i) i+ind (yy r i<yy r (i+1))*ind (0<AD (AA r<|i-1) (AA r i) (AA r<|i+1)))/\(yy r (i-1)<yy r i->cc r (yy r i-1) (i-1)=NN r (yy r i) i+1-ind (yy r (i+1)<yy r i)*ind (AD (AA r<|i-1) (AA r i) (AA r<|i+1)<0)):=by
 have y:i-1+1=i:=DZ;have v:=S.X0 gU gV (Z:=AA r<|i+1) λk a _=>S.nc a;have p:=S.X0 gU gV (Z:=AA r<|i-1) λk _ b c z=>by
  have h3:=S.l3;refine S.nc (i:=i-1) (j:=k) (λw=>b ?_) ?_ ?_
  .have:=mod_succ (DC h3) w;rw[y]at this;exact this
  .unfold L;rw[y];exact FI c
  .unfold L;rw[y];exact Fm z
 have Y:∀H,cc r H (i-1)=RQ r H (AA r i) (AA r<|i-1)+ind (yy r (i-1)<yy r i):=λH=>by
  unfold cc;rw[y]
  congr 1
  refine Cj λk _=>?_;unfold L;rw[y,propext ⟨FI (a:=AA r i) (b:=AA r<|i-1),FI⟩]
 have Q:∀H,cc r H i=RQ r H (AA r i) (AA r<|i+1)+ind (yy r i<yy r (i+1)):=λH=>rfl;have q:=λx:Pt=>(FQ (AA r i) x).2;refine⟨λh=>?_,λh=>?_,λh=>?_,λh=>?_⟩
 .rw[Q,v.1 h,BG h,q,A2<|AIW _,C3,propext AJB];lia
 .rw[Q,v.2 h,(Hf h).2,q,A2<|AIW _,CG];lia
 .rw[Y,p.1 h,(Hf h).2,q,A2<|AIW _,CG];lia
 .rw[Y,p.2 h,BG h,q,A2<|AIW _,C3,propext AJB];lia
end
section
variable{r:List Pt}(S:A3 r)(nl:∀k:Int,yy r (k+1)≠yy r k)
include S nl
theorem A3.o7(i:Int){H H':Int}(q:Ae r H (i-1)≠0)(p:Ae r H' i≠0):cc r H (i-1)=cc r H' i:=by
 have z:i-1+1=i:=DZ;have Q:=nl<|i-1;rw[z]at Q;obtain⟨O,P,D,F⟩:=S.kW Q.symm<|nl i;have fA:=S.fork<|i-1;rw[z]at fA;have fa:((AA r i).2<(AA r<|i-1).2/\(AA r i).2<(AA r<|i+1).2)\/((AA r<|i-1).2<(AA r i).2/\(AA r<|i+1).2<(AA r i).2)->AD (AA r<|i-1) (AA r i) (AA r<|i+1)≠0:=λh c=>Q4 fA h (by rw[C3,c];rfl);have Z:=λ{h h':Int}(x:Ae r h (i-1)≠0)(y:Ae r h' (i-1)≠0)=>show cc r h (i-1)=cc r h' (i-1)by unfold cc;rw[S.VM x y]
 have Y:=λ{h h':Int}(x:Ae r h i≠0)(y:Ae r h' i≠0)=>show cc r h i=cc r h' i by unfold cc;rw[S.VM x y]
 rcases AGW Q with u|u<;>rcases AGW (nl i)with v|v
 .rw[Z q (Dw<|.inr (by rw[z];exact⟨ED,u⟩)),Y p (h':=yy r i-1)<|Dw<|.inr ⟨AHw v,AHx<|AGb _⟩,D u,P v,(Hf v).2,(Hf u).2,AGl]
 .rw[Z q (Dw<|.inr (by rw[z];exact⟨ED,u⟩)),Y p<|Dw<|.inl ⟨ED,v⟩,D u,O v,BG u,BG v,<-MH<|fa<|.inl ⟨u,v⟩];lia
 .rw[Z q (h':=yy r i-1) (Dw<|.inl (by rw[z];exact⟨AHw u,AHx<|AGb _⟩)),Y p (h':=yy r i-1)<|Dw<|.inr ⟨AHw v,AHx<|AGb _⟩,F u,P v,BG u,BG v,<-MH<|fa<|.inr ⟨u,v⟩];lia
 .rw[Z q (h':=yy r i-1) (Dw<|.inl (by rw[z];exact⟨AHw u,AHx<|AGb _⟩)),Y p<|Dw<|.inl ⟨ED,v⟩,F u,O v,(Hf v).2,(Hf u).2,AGl]
theorem A3.ZM{y q:Int}(v:Ae r q y≠0):∀(m:Nat)(H:Int),Ae r H (y+m)≠0->cc r H (y+m)=cc r q y
 |0,H,hs=>by rw[AI1,AGG]at hs ⊢;unfold cc;rw[S.VM hs v]
 |m+1,H,hs=>by
  have Z:y+((m+1:Nat))=y+m+1:=U
  rw[Z]at hs ⊢;obtain⟨p,s1⟩:∃H,Ae r H (y+m)≠0:=by
   rcases AGW (nl<|y+m)with z|z
   .exact⟨_,Dw<|.inr ⟨ED,z⟩⟩
   .exact⟨_,Dw<|.inl ⟨ED,z⟩⟩
  rw[<-A3.ZM v m p s1];have:=S.o7 nl (y+m+1) (H:=p) (by rw[MW];exact s1) hs;rw[MW]at this;exact this.symm
theorem A3.QS{i j H H':Int}(z:Ae r H i≠0)(y:Ae r H' j≠0):cc r H i=cc r H' j:=by
 have h3:=S.l3;have e:(i-(j+((i-j)%(r.length)).toNat))%(r.length)=0:=by
  rw[AGL<|AGQ (i-j) (b:=(r.length))<|KD h3,show i-(j+(i-j)%(r.length))=(i-j)-(i-j)%r.length by lia];have:=AHV (i-j) r.length;have q:(i-j)-(i-j)%(r.length)=r.length*((i-j) / r.length):=AFo
  rw[q];exact AGR _ _
 rw[o6 e];exact S.ZM nl y _ H (by rw[<-PZ e];exact z)
end
set_option tactic.hygienic false
theorem VT(r:List Pt)(h j:Int):∃z:Int×Int,Ae r h j≠0->0<z.1/\0<z.2/\z.2<z.1/\2*(z.1*(AA r j).2+z.2*((AA r<|j+1).2-(AA r j).2))=z.1*(2*h+1):=by
 by_cases hs:Ae r h j=0
 .exact⟨(0,0),λc=>absurd hs c⟩
 .obtain⟨q,s,a,b,c,d⟩:=Xc <|EX hs;exact⟨(q,s),λ_=>⟨a,b,c,d⟩⟩
noncomputable def kD(r:List Pt)(h j:Int):Int:=(choose<|VT r h j).1
noncomputable def kS(r:List Pt)(h j:Int):Int:=(choose<|VT r h j).2
def kN(r:List Pt)(h j:Int):Int:=kD r h j*(AA r j).1+kS r h j*((AA r<|j+1).1-(AA r j).1)
theorem Rp{r:List Pt}{h j:Int}(hs:Ae r h j≠0):0<kD r h j/\0<kS r h j/\kS r h j<kD r h j/\2*(kD r h j*(AA r j).2+kS r h j*((AA r<|j+1).2-(AA r j).2))=kD r h j*(2*h+1):=choose_spec (VT r h j) hs
section
variable{r:List Pt}(S:A3 r)
include S
theorem A3.gq{h i j:Int}(v:(i-j)%(r.length)≠0)(hi:Ae r h i≠0)(Q:Ae r h j≠0)(O:L r i j):kN r h i*kD r h j<kN r h j*kD r h i:=by
 obtain⟨y,P,p3,p⟩:=Rp hi;obtain⟨q,D,F,R⟩:=Rp Q;have Z:=AF8 y q;have m2:=AF8 P q;have m3:=AF8 D y;have m4:=AHp p3 q;have m5:kS r h j*kD r h i<kD r h i*kD r h j:=by rw[AH2<|kD r h i];exact AHp F y
 have Y:kD r h i*kD r h j*(AA r i).2+kS r h i*kD r h j*((AA r<|i+1).2-(AA r i).2)=kD r h i*kD r h j*(AA r j).2+kS r h j*kD r h i*((AA r<|j+1).2-(AA r j).2):=by
  have f1:2*(kD r h i*kD r h j*(AA r i).2+kS r h i*kD r h j*((AA r<|i+1).2-(AA r i).2))=kD r h j*(2*(kD r h i*(AA r i).2+kS r h i*((AA r<|i+1).2-(AA r i).2))):=AFm
  have f2:2*(kD r h i*kD r h j*(AA r j).2+kS r h j*kD r h i*((AA r<|j+1).2-(AA r j).2))=kD r h i*(2*(kD r h j*(AA r j).2+kS r h j*((AA r<|j+1).2-(AA r j).2))):=AFm
  rw[p]at f1;rw[R]at f2;lia
 have B:kN r h i*kD r h j=kD r h i*kD r h j*(AA r i).1+kS r h i*kD r h j*((AA r<|i+1).1-(AA r i).1):=by unfold kN;grind
 have G:kN r h j*kD r h i=kD r h i*kD r h j*(AA r j).1+kS r h j*kD r h i*((AA r<|j+1).1-(AA r j).1):=by unfold kN;grind
 simp only[B,G];rcases AHc (kD r h i*kD r h j*(AA r i).1+kS r h i*kD r h j*((AA r<|i+1).1-(AA r i).1)) (kD r h i*kD r h j*(AA r j).1+kS r h j*kD r h i*((AA r<|j+1).1-(AA r j).1))with hl|he|hg
 .exact hl
 .rcases S.share v Z U U (by clear p;lia) AFm he Y with⟨_,z,_⟩|⟨_,z,_⟩<;>lia
 .exact absurd (show L r j i from⟨_,_,_,Z,U,U,U,U,Y.symm,hg⟩) (S.nc v O)
theorem A3.ACs{h j:Int}(q:Ae r h j≠0):∃e:Int,Ae r h e≠0/\Rr r h e=0:=by
 have h3:=S.l3;have b:=AGI j (b:=(r.length))<|Hm h3;have v:Ae r h (((j%(r.length)).toNat))≠0:=by
  rw[AGL<|AGQ j (b:=(r.length))<|KD h3,PZ (by
   have:=AHV j r.length;have p:j%(r.length)-j=r.length*(-(j / r.length)):=AFm
   rw[p];exact AGR _ _)]
  exact q
 obtain⟨e,he,z,hm⟩:=Vd (N:=λm=>kN r h<|m) (λm hm=>(Rp hm).1) r.length ⟨_,U,v⟩;refine⟨e,z,S7 λm Z=>?_⟩;by_cases hs:Ae r h (m)=0
 .rw[hs,AGs]
 .have:¬ L r (e) (m):=λc=>by
   by_cases y:((e:Int)-m)%(r.length)=0
   .rw[NV (i':=(e)) AFn<|Eo y]at c;exact NW r e (by have:=EX z;show yy r e≠yy r (e+1);exact O1 this) c
   .have k1:=S.gq y z hs c;have k2:=hm m Z hs;lia
  rw[A2 this];lia
theorem A3.Nl(q:∀k:Int,yy r (k+1)≠yy r k){h j:Int}(z:Ae r h j≠0):cc r h j=0\/cc r h j=1:=by
 obtain⟨e,he,hz⟩:=S.ACs z;rw[S.QS q z he];unfold cc;rw[hz];by_cases y:yy r e<yy r (e+1)
 .rw[BG y];lia
 .rw[A2 y];lia
end
def fw(a b p:Pt):Int:=(if a.2<=p.2/\p.2<b.2/\AD a b p>0 then 1 else 0)-(if b.2<=p.2/\p.2<a.2/\AD a b p<0 then 1 else 0)
def W(r:List Pt)(p:Pt):Int:=Af (λj=>fw (AA r j) (AA r<|j+1) p) r.length
theorem iJ{a b p:Pt}(h:Lt p p a b):∃q x:Int,0<q/\0<x/\q*AD a b p=(b.2-a.2)*x:=by
 obtain⟨q,s,t,z,_,_,_,_,e,l⟩:=h;refine⟨q,q*a.1+t*(b.1-a.1)-(q*p.1+s*(p.1-p.1)),z,U,?_⟩;have y:q*(p.2-a.2)=t*(b.2-a.2):=AFm
 have:q*AD a b p=(b.1-a.1)*(q*(p.2-a.2))-(b.2-a.2)*(q*(p.1-a.1)):=by unfold AD;grind
 simp only[this,y];grind
theorem Ve{r:List Pt}{p:Pt}{j:Int}:fw (AA r j) (AA r<|j+1) p=Ae r p.2 j*ind (Lt p p (AA r j)<|AA r<|j+1):=by
 have Y:yy r j<yy r (j+1)->yy r j<=p.2->p.2<=yy r (j+1)->(Lt p p (AA r j) (AA r<|j+1)↔AD (AA r j) (AA r<|j+1) p>0):=λz y h3=>by
  constructor
  .intro h;obtain⟨q,x,v,Z,e⟩:=iJ h;have:=AF8 (show 0<(AA r<|j+1).2-(AA r j).2 by unfold yy at z;exact Fi z) Z;by_cases hc:AD (AA r j) (AA r<|j+1) p>0
   .exact hc
   .have:=AGm (AFv v) (U:AD (AA r j) (AA r<|j+1) p<=0);omega
  .intro h;unfold yy at z y h3;exact⟨(AA r<|j+1).2-(AA r j).2,0,p.2-(AA r j).2,Fi z,Bb,Fl z,Ce y,U,AFm,by unfold AD at h;grind⟩
 have dn:yy r (j+1)<yy r j->yy r (j+1)<=p.2->p.2<=yy r j->(Lt p p (AA r j) (AA r<|j+1)↔AD (AA r j) (AA r<|j+1) p<0):=λz y h3=>by
  constructor
  .intro h;obtain⟨q,x,v,Z,e⟩:=iJ h;have:=AJM (show(AA r<|j+1).2-(AA r j).2<0 by unfold yy at z;lia) Z;by_cases hc:AD (AA r j) (AA r<|j+1) p<0
   .exact hc
   .have:=AFy (AFv v) (show 0<=AD (AA r j) (AA r<|j+1) p from Ow hc);omega
  .intro h;unfold yy at z y h3;exact⟨(AA r j).2-(AA r<|j+1).2,0,(AA r j).2-p.2,Fi z,Bb,Fl z,Ce h3,U,AFm,by unfold AD at h;grind⟩
 unfold fw;by_cases z:yy r j<=p.2/\p.2<yy r (j+1)
 .rw[Sw z.1 z.2,AF0 (show ¬ ((AA r<|j+1).2<=p.2/\p.2<(AA r j).2/\AD (AA r j) (AA r<|j+1) p<0)by unfold yy at z;lia)];by_cases hs:AD (AA r j) (AA r<|j+1) p>0
  .rw[AFu ⟨z.1,z.2,hs⟩,BG<|(Y (LJ z) U U).mpr hs];rfl
  .rw[AF0 λc=>hs c.2.2,A2 λc=>hs<|(Y (LJ z) U U).mp c];rfl
 .by_cases y:yy r (j+1)<=p.2/\p.2<yy r j
  .rw[Sv y.1 y.2,AF0 (show ¬ ((AA r j).2<=p.2/\p.2<(AA r<|j+1).2/\AD (AA r j) (AA r<|j+1) p>0)by unfold yy at y;omega)];by_cases hs:AD (AA r j) (AA r<|j+1) p<0
   .rw[AFu ⟨y.1,y.2,hs⟩,BG<|(dn (LJ y) U U).mpr hs];rfl
   .rw[AF0 λc=>hs c.2.2,A2 λc=>hs<|(dn (LJ y) U U).mp c];rfl
  .have:Ae r p.2 j=0:=by unfold Ae;rw[AF0 z,AF0 y]
   rw[this,AF0 λc=>z ⟨c.1,c.2.1⟩,AF0 λc=>y ⟨c.1,c.2.1⟩];lia
section
variable{r:List Pt}(S:A3 r){p:Pt}
include S
theorem A3.AEV{e j:Int}(he:Ae r p.2 e≠0)(P:Ae r p.2 j≠0)(D:Lt p p (AA r e)<|AA r<|e+1)(Z:L r e j):Lt p p (AA r j)<|AA r<|j+1:=by
 have F:=λc=>by rw[NV (i':=e) AFn<|Eo c]at Z;exact NW r e (by have:=EX he;show yy r e≠yy r (e+1);exact O1 this) Z
 have Y:=EX P;obtain⟨q,s,y,Q,s1,O,_,_⟩:=PK (h:=p.2) (by show yy r j≠yy r (j+1);exact O1 Y) (by unfold yy at Y;lia);rcases Int.lt_or_le (q*p.1) (q*(AA r j).1+s*((AA r<|j+1).1-(AA r j).1))with hl|hg
 .exact⟨q,0,s,y,Bb,U,Q,s1,by rw[O];exact R3,R6 hl⟩
 .exfalso;obtain⟨z,s',t',v,_,_,R,t1,ey',l'⟩:=D;have B:z*(AA r e).2+t'*((AA r<|e+1).2-(AA r e).2)=z*p.2:=AFm
  have G:z*p.1<z*(AA r e).1+t'*((AA r<|e+1).1-(AA r e).1):=AFm
  have m1:=AF7 hg<|AFv v;have m2:=AHr G y;refine S.nc F Z ⟨q*z,s*z,t'*q,AF8 y v,AFy Q<|AFv v,AGB s1<|AFv v,AFy R<|AFv y,by rw[AH2 q];exact AGB t1<|AFv y,?_,?_⟩
  .have T:q*z*(AA r j).2+s*z*((AA r<|j+1).2-(AA r j).2)=z*(q*(AA r j).2+s*((AA r<|j+1).2-(AA r j).2)):=AFm
   have C:q*z*(AA r e).2+t'*q*((AA r<|e+1).2-(AA r e).2)=q*(z*(AA r e).2+t'*((AA r<|e+1).2-(AA r e).2)):=AFm
   simp only[T,C,O,B];grind
  .lia
theorem A3.once:W r p=0\/∃e:Int,Ae r p.2 e≠0/\((yy r e<yy r (e+1)/\W r p=cc r p.2 e)\/(yy r (e+1)<yy r e/\W r p=cc r p.2 e-1)):=by
 have Q:W r p=Af (λj=>Ae r p.2 j*ind (Lt p p (AA r j)<|AA r<|j+1)) r.length:=Cj λj _=>Ve;by_cases y:∃j:Nat,j<r.length/\(Ae r p.2 (j)≠0/\Lt p p (AA r<|j) (AA r<|(j)+1))
 .right;obtain⟨e,he,⟨q,le⟩,hm⟩:=Vd (N:=λm=>- kN r p.2 (m)) (λm hm=>(Rp hm.1).1) r.length y;have re:=EX q;have F:=NW r (e) (by show yy r e≠yy r (e+1);rcases re with re|re<;>lia);have Z:∀m:Nat,m<r.length->Ae r p.2 (m)*ind (Lt p p (AA r<|m)<|AA r<|(m)+1)=ind (L r (e)<|m)*Ae r p.2 (m)+Ae r p.2 (m)*ind (m=e):=λm Y=>by
   by_cases hs:Ae r p.2 (m)=0
   .rw[hs];lia
   .by_cases O:m=e
    .subst O;rw[BG le,A2 F,BG rfl];lia
    .rw[A2 O];have P:((e:Int)-m)%(r.length)≠0:=λc=>by
      rcases AHi (e) m with z|z
      .have R:=Eo c;rw[AFt U U]at R;clear z;lia
      .rw[AFt U U]at c;lia
     by_cases v:L r (e)<|m
     .rw[BG v,BG<|S.AEV q hs le v];lia
     .have B:L r (m)<|e:=by
       rcases S.M3 P q hs with z|z
       .exact absurd z v
       .exact z
      have hn:¬ Lt p p (AA r<|m) (AA r<|(m)+1):=λc=>by have k1:=S.gq (λz=>P<|Eo z) hs q B;have k2:=hm m Y ⟨hs,c⟩;simp only[AHy,AHy]at k2;lia
      rw[A2 v,A2 hn];lia
  have D:W r p=Rr r p.2 e+Ae r p.2 e:=by
   rw[Q,Cj (g:=λj=>ind (L r (e) j)*Ae r p.2 j+Ae r p.2 j*ind (j=(e))) λm Y=>by
    rw[Z m Y]
    congr 2
    by_cases h:m=e
    .rw[BG h,BG U]
    .rw[A2 h,A2 U]]
   rw[Pc (λj=>ind (L r (e) j)*Ae r p.2 j) λj=>Ae r p.2 j*ind (j=(e))];rw[S5 (f:=λj=>Ae r p.2 j*ind (j=(e))) he λm _ Ax=>by rw[A2 U];lia];rw[BG rfl,Int.mul_one]
   rfl
  refine⟨e,q,?_⟩;unfold cc;rcases re with z|z
  .rw[Sw z.1 z.2]at D;exact .inl ⟨LJ z,by rw[BG<|LJ z];omega⟩
  .rw[Sv z.1 z.2]at D;exact .inr ⟨LJ z,by rw[A2 U];lia⟩
 .left;rw[Q];refine S7 λm hm=>?_;by_cases hs:Ae r p.2 (m)=0
  .lia
  .rw[A2 λc=>y ⟨m,hm,hs,c⟩];lia
set_option tactic.hygienic true
theorem A3.nR(z:∀k:Int,yy r (k+1)≠yy r k) : -1<=W r p/\W r p<=1:=by
 rcases S.once (p:=p)with h|⟨e,he,h|h⟩
 .lia
 .have:=S.Nl z he;lia
 .have:=S.Nl z he;lia
end
theorem Probe.pX{r:List Pt}(S:A3 r)(C:∀{h j:Int},Ae r h j≠0->cc r h j=1){i j:Int}(p:Probe r i j)(y:yy r (i-1)≠yy r i)(gV:yy r (i+1)≠yy r i)(v:yy r j≠yy r i) : ∃H,((yy r i<=H/\H<yy r j)\/(yy r j<=H/\H<yy r i))/\((RQ r H (AA r i) (AA r j)=1/\Ew (AA r<|i-1) (AA r i) (AA r<|i+1) (AA r j))\/(RQ r H (AA r i) (AA r j)=0/\¬ Ew (AA r<|i-1) (AA r i) (AA r<|i+1) (AA r j))):=by
 have q:i-1+1=i:=DZ;have Y:=S.X0 y gV (Z:=AA r j) λk _ _=>p.nc S k;obtain⟨O,_,P,D⟩:=S.kW y gV;have fA:=S.fork<|i-1;rw[q]at fA;have F:=C3 (AA r<|i-1) (AA r i)<|AA r<|i+1;have R:yy r i<yy r (i+1)->NN r (yy r i) i=ind (yy r i<yy r (i-1))*ind (AD (AA r<|i-1) (AA r i) (AA r<|i+1)<0):=λh=>by have c:=O h;rw[C<|Dw<|.inl ⟨ED,h⟩]at c;lia
 have B:yy r i<yy r (i-1)->NN r (yy r i) i+ind (yy r i<yy r (i+1))*ind (0<AD (AA r<|i-1) (AA r i) (AA r<|i+1))=1:=λh=>by rw[<-P h];exact C<|Dw<|.inr (by rw[q];exact⟨ED,h⟩)
 have G:yy r (i-1)<yy r i->NN r (yy r i) i=ind (yy r (i+1)<yy r i)*ind (AD (AA r<|i-1) (AA r i) (AA r<|i+1)<0):=λh=>by have c:=D h;rw[C<|Dw<|.inl (by rw[q];exact⟨AHw h,AHx<|AGb _⟩)]at c;lia
 have z:∀Q,(yy r i<yy r j->Q=_)->(yy r j<yy r i->Q=_)->Cq Q _ _ _:=λQ=>pY y gV v (Q:=Q) (a:=AD (AA r<|i-1) (AA r i)<|AA r<|i+1) (b:=AD (AA r i) (AA r<|i+1)<|AA r j) (c:=AD (AA r<|i-1) (AA r i)<|AA r j) (by unfold yy AD;grind) (λh c=>Q4 fA h (by rw[F,c];rfl)) (Q4 p.f1) (λh c=>Q4 p.f2 h (by rw[C3,c];rfl)) R B G;rcases AGW v with h|h
 .refine⟨yy r i-1,.inr ⟨U,U⟩,z _ (λc=>U) λ_=>?_⟩;rw[Y.2 h,CG<|AA r<|i-1,CG<|AA r<|i+1,C3 (AA r i)<|AA r<|i+1,propext AJB]
 .refine⟨yy r i,.inl ⟨ED,h⟩,z _ (λ_=>?_) λc=>U⟩;rw[Y.1 h,C3,propext AJB]
set_option tactic.hygienic true
theorem SN{r:List Pt}(S:A3 r)(g:∀i j:Int,yy r i=yy r j->(i-j)%(r.length)=0)(k:Int):yy r (k+1)≠yy r k:=λc=>by have:=g _ _ c;rw[show k+1-k=1 by lia,AFt C2<|DC S.l3]at this;lia
theorem A3.map{r:List Pt}(S:A3 r){T:Pt->Pt}(y:∀{A X B},CD A X B->CD (T A) (T X) (T B))(hs:∀{a b c d},Bm (T a) (T b) (T c) (T d)->Bm a b c d):A3<|r.map T:=by
 have hc:=λi=>GO (T:=T) (Bo S.l3) i;refine⟨by rw[AFs];exact S.l3,λk=>?_,λi j h z=>?_⟩
 .rw[hc,hc,hc];exact y<|S.fork k
 .rw[AFs]at h;rw[hc,hc,hc,hc]at z;exact S.apart i j h<|hs z
noncomputable def lean(k:Int)(p:Pt):Pt:=(p.2,k*p.2-p.1)
theorem Gx(k:Int)(a b c:Pt):AD (lean k a) (lean k b) (lean k c)=AD a b c:=by delta AD lean;grind
theorem Fy{r:List Pt}(h:0<r.length)(k i:Int):AA (r.map<|lean k) i=lean k (AA r i):=GO h i
theorem Sy{k:Int}{a b c d:Pt}:Bm (lean k a) (lean k b) (lean k c) (lean k d)↔Bm a b c d:=by
 unfold lean;constructor<;>rintro⟨q,s,t,z,y,h3,v,p,Z,Y⟩
 .exact⟨q,s,t,z,y,h3,v,p,AFm,Z⟩
 .exact⟨q,s,t,z,y,h3,v,p,Y,by dsimp only;grind⟩
theorem Q3{k:Int}{A X B:Pt}:CD (lean k A) (lean k X) (lean k B)↔CD A X B:=by
 unfold lean;constructor<;>intro h s t hs z y q
 .exact h s t hs z q (by dsimp only;grind)
 .exact h s t hs z AFm y
theorem Td{k:Int}{AFl A V B:Pt}:Ew (lean k AFl) (lean k A) (lean k V) (lean k B)↔Ew AFl A V B:=by unfold Ew;rw[Gx,Gx,Gx]
theorem A3.lean{r:List Pt}(S:A3 r)(k:Int):A3<|r.map<|lean k:=S.map Q3.mpr Sy.mp
theorem lex{k d u:Int}(h : -k<u/\u<k):0<=k*d+u↔0<d\/(d=0/\0<=u):=by
 rcases AHc d 0 with z|z|z
 .have:=AF7 (U:d<=-1) (U:0<=k);lia
 .rw[z,AGs];lia
 .have:=AF7 (U:1<=d) (U:0<=k);lia
theorem AET{k:Int}{a b p:Pt}(ha : -k<a.1-p.1/\a.1-p.1<k)(q : -k<b.1-p.1/\b.1-p.1<k):((lean k a).2<=(lean k p).2/\(lean k p).2<(lean k b).2/\0<AD a b p)↔(a.2<=p.2/\p.2<b.2/\0<AD a b p):=by
 have e:AD a b p=(b.1-p.1)*(p.2-a.2)-(p.2-b.2)*(a.1-p.1):=by unfold AD;grind
 have c:∀{x:Pt},(lean k x).2<=(lean k p).2↔0<=k*(p.2-x.2)+(x.1-p.1):=λ{x}=>by unfold lean;rw[AIx];lia
 rw[<-AHY (a:=(lean k b).2),c,c,lex ha,lex q,e];refine⟨λ⟨x,y,z⟩=>⟨U,AHY.mp λw=>?_,z⟩,λ⟨x,y,z⟩=>⟨?_,U,z⟩⟩
 .rw[show p.2-b.2=0 by lia,AGl]at z;have:=AIq (U:b.1-p.1<=0) (U:0<=p.2-a.2);lia
 .rcases Int.lt_or_eq_of_le (U:0<=p.2-a.2)with w|w
  .exact .inl w
  .refine .inr ⟨w.symm,AIR.mp λv=>?_⟩;rw[<-w,AGs]at z;have:=AJL (U:p.2-b.2<0) v;lia
theorem dz(a b p:Pt):fw a b p=(if a.2<=p.2/\p.2<b.2/\0<AD a b p then 1 else 0)-(if b.2<=p.2/\p.2<a.2/\0<AD b a p then 1 else 0):=by unfold fw;rw[C3 a b];simp only[AJB,GT.gt]
theorem Yy{r:List Pt}(h:0<r.length){k:Int}{p:Pt}(hp:∀j:Int,-k<(AA r j).1-p.1/\(AA r j).1-p.1<k):W (r.map<|lean k) (lean k p)=W r p:=by unfold W;rw[AFs];refine Cj λj _=>?_;rw[Fy h,Fy h,dz,dz,Gx,Gx];simp only[AET (hp _)<|hp _]
theorem ZD(f:Nat->Int):∀n:Nat,∃M:Int,0<M/\∀k,k<n->-M<f k/\f k<M
 |0=>⟨1,J9,λk h=>U⟩
 |n+1=>by
  obtain⟨M,h0,h⟩:=ZD f n;refine⟨M+(f n).natAbs+1,U,λk z=>?_⟩;by_cases e:k=n
  .rw[e];lia
  .have:=h k<|FG z e;lia
theorem Wn{r:List Pt}(S:A3 r)(p:Pt):∃k:Int,(∀j:Int,-k<(AA r j).1-p.1/\(AA r j).1-p.1<k)/\∀i j:Int,yy (r.map<|lean k) i=yy (r.map<|lean k) j->(i-j)%((r.map<|lean k).length)=0:=by
 have h3:=S.l3;obtain⟨M,M0,y⟩:=ZD (λk=>(AA r k).1-p.1) r.length;have z:∀k:Int,-M<(AA r k).1-p.1/\(AA r k).1-p.1<M:=λk=>by have k1:=AGI k (show(0:Int)<r.length from Hm h3);have:=y (k%(r.length:Int)).toNat U;rw[AGL<|AGQ k (b:=(r.length:Int))<|KD h3,Fx]at this;exact this
 refine⟨2*M,λj=>by have:=z j;lia,λi j e=>?_⟩;unfold yy at e;rw[Fy<|Bo h3,Fy<|Bo h3]at e;unfold lean at e;dsimp only at e;have b1:=z i;have b2:=z j;have q:=lex (k:=2*M) (d:=(AA r i).2-(AA r j).2) (u:=(AA r j).1-(AA r i).1) U;have v:=lex (k:=2*M) (d:=(AA r j).2-(AA r i).2) (u:=(AA r i).1-(AA r j).1) U;rw[AIx]at q v;rw[AFs];exact S.inj<|AGy U U
theorem A3.nQ{r:List Pt}(S:A3 r)(p:Pt) : -1<=W r p/\W r p<=1:=by obtain⟨k,hp,g⟩:=Wn S p;rw[<-Yy (Bo S.l3) hp];exact(S.lean k).nR (SN (S.lean k) g)
def sub(r:List Pt)(s:Int)(l:Nat):List Pt:=(List.range<|l+1).map λk:Nat=>AA r<|s+(k:Int)
theorem sub_len(r:List Pt)(s:Int)(l:Nat):(sub r s l).length=l+1:=by unfold sub;rw[AFs,AGV]
theorem Et(r:List Pt)(s:Int)(l:Nat):((sub r s l).length:Int)=l+1:=by rw[sub_len];lia
theorem Aw(r:List Pt)(s:Int)(l:Nat){k:Int}(z:0<=k)(h1:k<=l):AA (sub r s l) k=AA r (s+k):=by have y:=AGL z;unfold AA;rw[Et,AFt z U];rw[AGn];unfold sub;rw[AG6,AJv U];simp only[AGu,Option.getD_some];unfold AA;rw[y]
theorem GB(r:List Pt)(s:Int)(l:Nat):AA (sub r s l) (l+1)=AA r s:=by have:=Al (r:=sub r s l) (by rw[Et,AIk,AGk]);rw[this,Aw r s l Bb Br,AGG]
theorem Hw(r:List Pt)(s:Int)(l:Nat)(k:Int):∃m:Int,0<=m/\m<=l/\(k-m)%((sub r s l).length)=0:=by
 refine⟨k%((l)+1),AGQ _ U,by have:=AGI k (U:(0:Int)<(l)+1);lia,?_⟩;rw[Et,AHI,AGY _<|AHD _,AGi]
 rfl
theorem IY{r:List Pt}(i:Int):AA r (i+r.length)=AA r i:=E2 r i
def tm(H:Int)(A B a b:Pt):Int:=ind (Lt A B a b)*(if a.2<=H/\H<b.2 then 1 else if b.2<=H/\H<a.2 then -1 else 0)
theorem lE(H:Int)(A B a b:Pt):tm H A B b a = - tm H A B a b:=by
 unfold tm;have e:ind (Lt A B b a)=ind (Lt A B a b):=by
  by_cases c:Lt A B a b
  .rw[BG c,BG<|Fm c]
  .rw[A2 c,A2 λz=>c<|Fm z]
 rw[<-AIF]
 congr 1
 (repeat' split)<;>lia
theorem UN(r:List Pt)(H:Int)(A B:Pt):RQ r H B A=RQ r H A B:=by
 refine Cj λk _=>?_;by_cases c:Lt A B (AA r<|k)<|AA r<|(k)+1
 .rw[BG c,BG<|FI c]
 .rw[A2 c,A2 λz=>c<|FI z]
theorem kb(f:Int->Int)(m:Nat):∀k:Nat,Af f (m+k)=Af f m+Af (λj=>f<|m+j) k
 |0=>by simp[Af]
 |k+1=>by show Af f (m+k)+f ((m+k))=Af f m+(Af (λj=>f<|m+j) k+f (m+(k)));rw[kb f m k];lia
theorem Yb(t:Pt->Pt->Int)(r:List Pt)(s:Int)(l:Nat):ES t (sub r s l)=Af (λk=>t (AA r<|s+k)<|AA r<|s+k+1) l+t (AA r<|s+l) (AA r s):=by
 unfold ES;rw[sub_len];show Af _ l+t (AA (sub r s l) l) (AA (sub r s l)<|(l)+1)=_;rw[GB,Aw r s l Br Dc]
 congr 1
 refine Cj λk z=>?_;rw[Aw r s l Br<|Ox z,Aw r s l U U,Int.add_assoc]
theorem Ya{t:Pt->Pt->Int}(z:∀a b,t b a = - t a b){r:List Pt}{s:Int}{l:Nat}(hl:l<=r.length)(y:0<r.length):ES t r=ES t (sub r s l)+ES t (sub r (s+l)<|r.length-l):=by
 rw[Yb,Yb];have q:s+(l)+((r.length-l:Nat))=s+r.length:=AFm
 rw[q,IY,z (AA r<|s+(l))<|AA r s];have v:ES t r=Af (λk=>t (AA r<|s+k)<|AA r<|s+k+1) r.length:=by exact(S6 (f:=λk=>t (AA r k)<|AA r<|k+1) y (λa b h=>by rw[Al h,Al<|CB h]) s).symm
 rw[v];have e3:=kb (λk=>t (AA r<|s+k)<|AA r<|s+k+1) l<|r.length-l;rw[show l+(r.length-l)=r.length by lia]at e3;simp only[<-Int.add_assoc]at e3;rw[e3];lia
theorem Yv{r:List Pt}{s:Int}{l:Nat}(z:l<=r.length)(y:0<r.length)(H:Int)(A B:Pt):RQ r H A B=RQ (sub r s l) H A B+RQ (sub r (s+l)<|r.length-l) H A B:=Ya (lE H A B) z y
def Line(r:List Pt)(i j:Int):Prop:=Probe r i j/\Ew (AA r<|i-1) (AA r i) (AA r<|i+1) (AA r j)
structure Sm(r:List Pt):Prop where
 s:A3 r
 c:∀{h j:Int},Ae r h j≠0->cc r h j=1
 g:∀i j:Int,yy r i=yy r j->(i-j)%(r.length:Int)=0
theorem KH{n d:Int}(z:0<d)(y:d<n):d%n≠0:=by rw[AFt U y];exact Fj z
set_option tactic.hygienic false
section
variable{r:List Pt}(S:Sm r)
include S
theorem Sm.gn{i j:Int}(h:(i-j)%(r.length)≠0):yy r i≠yy r j:=λc=>h<|S.g i j c
theorem Sm.g1(i:Int):yy r (i+1)≠yy r i:=by have:=S.s.l3;exact S.gn<|by exact KH U U
theorem Sm.g0(i:Int):yy r (i-1)≠yy r i:=λc=>S.g1 (i-1) (by rw[show i-1+1=i from DZ];exact c.symm)
theorem Sm.rq{i j:Int}(p:Probe r i j){H:Int}(h:(yy r i<=H/\H<yy r j)\/(yy r j<=H/\H<yy r i)) : (RQ r H (AA r i) (AA r j)=1/\Ew (AA r<|i-1) (AA r i) (AA r<|i+1) (AA r j))\/(RQ r H (AA r i) (AA r j)=0/\¬ Ew (AA r<|i-1) (AA r i) (AA r<|i+1) (AA r j)):=by obtain⟨H',h',z⟩:=Probe.pX S.s (λh=>S.c h) p (S.g0 i) (S.g1 i) λc=>p.Ba.1<|S.g i j c.symm;rw[p.along S.s h h'];exact z
theorem Sm.lvl{i j:Int}(h:yy r i≠yy r j):∃H,(yy r i<=H/\H<yy r j)\/(yy r j<=H/\H<yy r i):=by
 rcases AGW h with h|h
 .exact⟨yy r i,.inl ⟨ED,h⟩⟩
 .exact⟨yy r j,.inr ⟨ED,h⟩⟩
theorem Line.rq{i j:Int}(l:Line r i j){H:Int}(h:(yy r i<=H/\H<yy r j)\/(yy r j<=H/\H<yy r i)):RQ r H (AA r i) (AA r j)=1:=by
 rcases S.rq l.1 h with⟨a,_⟩|⟨_,b⟩
 .exact a
 .exact absurd l.2 b
theorem Line.symm{i j:Int}(l:Line r i j):Line r j i:=by
 have z:=l.1.symm S.s;refine⟨z,?_⟩;obtain⟨H,y⟩:=S.lvl <|S.gn l.1.Ba.1;rcases S.rq z (H:=H) AFm with⟨_,b⟩|⟨a,_⟩
 .exact b
 .rw[UN,(Line.rq S l y)]at a;cases a
end
theorem Probe.congr{r:List Pt}{i j i' z:Int}(hi:(i-i')%(r.length)=0)(y:(j-z)%(r.length)=0)(p:Probe r i j):Probe r i' z:=by
 have Z:∀k:Int,(i'-k)%(r.length)=(i-k)%(r.length):=λk=>by rw[show i-k=(i-i')+(i'-k)from Oy,AHJ,hi,AGj,AGY _<|AHD _]
 have Y:∀k:Int,(z-k)%(r.length)=(j-k)%(r.length):=λk=>by rw[show j-k=(j-z)+(z-k)from Oy,AHJ,y,AGj,AGY _<|AHD _]
 have Q:(i'-z)%(r.length)=(i-j)%(r.length):=by rw[Z,show i-z=(i-j)+(j-z)from Oy,AHJ<|i-j,y,AGG,AGY _<|AHD _]
 have q:=Al hi;have O:=Al (by rw[show i-1-(i'-1)=i-i' by lia];exact hi);have v:=Al y;have P:=Al (by rw[show j-1-(z-1)=j-z by lia];exact y);refine⟨?_,q ▸ (Al<|CB hi) ▸ v ▸ p.f1,q ▸ O ▸ v ▸ p.f2,v ▸ (Al<|CB y) ▸ q ▸ p.f3,v ▸ P ▸ q ▸ p.f4,λk a b c d=>?_⟩
 .have:=p.Ba;unfold Bt at this ⊢;rw[Q];exact this
 .rw[Z]at a b;rw[Y]at c d;rw[<-q,<-v];exact p.nt k a b c d
theorem Line.congr{r:List Pt}{i j i' z:Int}(hi:(i-i')%(r.length)=0)(y:(j-z)%(r.length)=0)(l:Line r i j):Line r i' z:=by have q:=Al (by rw[show i-1-(i'-1)=i-i' by lia];exact hi);refine⟨l.1.congr hi y,?_⟩;rw[<-(Al hi),<-(Al<|CB hi),<-q,<-(Al y)];exact l.2
theorem Cv{n d:Int}(h0:0<d)(z:d<n):(-d)%n=n-d:=by rw[show -d=(n-d)+n*(-1)by lia,AG9,AFt (Fl z) U]
theorem L4{n d:Int}(h:(2<=d/\d<=n-2)\/(2<=-d/\-d<=n-2)):Bt n d:=by
 unfold Bt;rcases h with h|h
 .rw[AFt U AFo];and_intros<;>lia
 .have:=Cv (n:=n) (d:=-d) AFo AFo;rw[AIE]at this;rw[this];and_intros<;>lia
theorem Kr{n d:Int}(hn:2<=n)(h:Bt n d)(h1 : -n<d)(z:d<n):(2<=d/\d<=n-2)\/(2<=-d/\-d<=n-2):=by
 unfold Bt at h;by_cases c:0<=d
 .rw[AFt c z]at h;clear hn;left;lia
 .have:=Cv (n:=n) (d:=-d) U U;rw[AIE]at this;rw[this]at h;clear hn;right;lia
theorem SH{n d:Int}(h:d%n=0)(h1 : -n<d)(z:d<n):d=0:=by
 by_cases c:0<=d
 .rw[AFt c z]at h;exact h
 .have:=Cv (n:=n) (d:=-d) U U;rw[AIE]at this;lia
theorem O5{n a b c:Int}(z:(a-b)%n=0)(y:(b-c)%n=0):(a-c)%n=0:=by rw[show a-c=(a-b)+(b-c)from Oy,AHJ,z,y];rfl
theorem rZ{n a b c d:Int}(z:(a-b)%n=0)(y:(c-d)%n=0)(h:Bt n<|a-c):Bt n<|b-d:=by
 have e:=by
  have h3:(a-c-(b-d))%n=0:=by rw[show a-c-(b-d)=(a-b)-(c-d)by lia,AHI,z,y];rfl
  exact(AHn.mpr h3).symm
 unfold Bt at h ⊢;rw[e];exact h
section
variable{r:List Pt}(S:Sm r){s:Int}{l:Nat}(l2:2<=l)(ln:l+2<=r.length)
include S l2 ln
theorem X4(i j:Int)(h:yy (sub r s l) i=yy (sub r s l) j):(i-j)%((sub r s l).length)=0:=by
 obtain⟨a,a0,y,ea⟩:=Hw r s l i;obtain⟨b,q,b1,z⟩:=Hw r s l j;rw[G8 ea,G8 z]at h;unfold yy at h;rw[Aw r s l a0 y,Aw r s l q b1]at h;have:=S.g (s+a) (s+b) h;have Bf:=SH this U U;have:a=b:=by clear this;lia
 subst this;exact O5 ea<|Eo z
theorem X5(L:Probe r s<|s+l):A3<|sub r s l:=by
 have Z:=Et r s l;have z:∀a:Int,s+(a+1)=s+a+1:=λa=>FH;refine⟨U,λk=>?_,λi j v hs=>?_⟩
 .obtain⟨a,a0,y,ea⟩:=Hw r s l k;rw[Al ea,Al<|CB ea,Al<|CB<|CB ea];by_cases c1:a+2<=l
  .rw[Aw r s l a0 y,Aw r s l (ET a0) U,Aw r s l U U,z,z,z];exact S.s.fork<|s+a
  by_cases Y:a+1=l
  .rw[Aw r s l a0 y,Y,GB,Aw r s l U Dc];have:=L.f4;rw[show s+(l)-1=s+a by lia]at this;exact this
  .have Q:a=l:=U
   subst Q;rw[GB,Aw r s l a0 y];have e:AA (sub r s l) ((l)+1+1)=AA r (s+1):=by rw[Al (by rw[Z,show(l:Int)+1+1-1=(l)+1 by lia,AGk]),Aw r s l C2 U]
   rw[e];exact L.f1.symm
 .obtain⟨a,a0,y,ea⟩:=Hw r s l i;obtain⟨b,q,b1,p⟩:=Hw r s l j;have v:=rZ ea p v;rw[Z]at v;have hd:=Kr U v U U;rw[Al ea,Al<|CB ea,Al p,Al<|CB p]at hs;by_cases O:a=l
  .rw[O,GB,Aw r s l U Dc,Aw r s l q b1,Aw r s l (ET q) U,z]at hs;refine L.nt (s+b) ?_ ?_ ?_ ?_ (Mv hs)
   .rw[show s-(s+b) = -b from JD,Cv U U];lia
   .rw[show s-(s+b) = -b from JD,Cv U U];lia
   .rw[show s+(l)-(s+b)=l-b by lia,AFt U<|LI q ln];lia
   .rw[show s+(l)-(s+b)=l-b by lia,AFt U<|LI q ln];lia
  by_cases P:b=l
  .rw[P,GB,Aw r s l a0 y,Aw r s l (ET a0) U,Aw r s l U Dc,z]at hs;refine L.nt (s+a) ?_ ?_ ?_ ?_ (Mv hs.symm)
   .rw[show s-(s+a) = -a from JD,Cv U U];lia
   .rw[show s-(s+a) = -a from JD,Cv U U];lia
   .rw[show s+(l)-(s+a)=l-a by lia,AFt U<|LI a0 ln];lia
   .rw[show s+(l)-(s+a)=l-a by lia,AFt U<|LI a0 ln];lia
  .rw[Aw r s l a0 y,Aw r s l (ET a0) U,Aw r s l q b1,Aw r s l (ET q) U,z,z]at hs;exact S.s.apart (s+a) (s+b) (L4 U) hs
theorem Sa(L:Line r s<|s+l):Line r (s+l)<|s+l+(r.length-l:Nat):=by refine(Line.symm S L).congr (by rw[AGi];rfl) ?_;rw[show s-(s+(l)+((r.length-l:Nat)))=r.length*(-1)by lia,AGR]
theorem ka(L:Line r s<|s+l):(∀{h j:Int},Ae (sub r s l) h j≠0->cc (sub r s l) h j=1)/\(∀{h j:Int},Ae (sub r (s+l)<|r.length-l) h j≠0->cc (sub r (s+l)<|r.length-l) h j=1):=by
 have z:=X5 S l2 ln L.1;have y:=X5 S U U (Sa S l2 ln L).1;have v:s+(l)+((r.length-l:Nat))=s+r.length:=U
 obtain⟨H,F⟩:=S.lvl <|S.gn L.1.Ba.1;have p:yy (sub r s l) l=yy r (s+l):=by unfold yy;rw[Aw r s l U Dc]
 have Z:yy (sub r s l) ((l)+1)=yy r s:=by unfold yy;rw[GB]
 have Y:yy (sub r (s+l)<|r.length-l) (r.length-l:Nat)=yy r s:=by unfold yy;rw[Aw r (s+l) (r.length-l) U U,v,IY]
 have Q:yy (sub r (s+l)<|r.length-l) ((r.length-l:Nat)+1)=yy r (s+l):=by unfold yy;rw[GB]
 have g1:Ae (sub r s l) H l≠0:=Dw (by rw[p,Z];lia);have O:=Dw (by rw[Y,Q];omega);have P:=SN z<|X4 S l2 ln;have D:=SN y<|X4 S U U;have c1:=z.Nl P g1;have c2:=y.Nl D O;have R:Rr (sub r s l) H l=RQ (sub r s l) H (AA r s) (AA r<|s+l):=by rw[<-UN];show RQ (sub r s l) H (AA (sub r s l) l) (AA (sub r s l)<|(l)+1)=_;rw[GB,Aw r s l Br Dc]
 have B:Rr (sub r (s+l)<|r.length-l) H (r.length-l:Nat)=RQ (sub r (s+l)<|r.length-l) H (AA r s) (AA r<|s+l):=by show RQ (sub r (s+l)<|r.length-l) H (AA (sub r (s+l)<|r.length-l) (r.length-l:Nat)) (AA (sub r (s+l)<|r.length-l)<|(r.length-l:Nat)+1)=_;rw[GB,Aw r (s+l) (r.length-l) U U,v,IY]
 have e:=Yv (r:=r) (s:=s) (l:=l) U U H (AA r s)<|AA r<|s+l;rw[Line.rq S L F]at e;have d1:cc (sub r s l) H l=RQ (sub r s l) H (AA r s) (AA r<|s+l)+ind (yy r (s+l)<yy r s):=by unfold cc;rw[R,p,Z]
 have d2:cc (sub r (s+l)<|r.length-l) H (r.length-l:Nat)=RQ (sub r (s+l)<|r.length-l) H (AA r s) (AA r<|s+l)+ind (yy r s<yy r (s+l)):=by unfold cc;rw[B,Y,Q]
 have d3:ind (yy r (s+l)<yy r s)+ind (yy r s<yy r (s+l))=1:=by
  by_cases x:yy r s<yy r (s+l)
  .rw[BG x,A2 U];rfl
  .rw[A2 x,BG U];rfl
 have k1:cc (sub r s l) H l=1:=U
 have k2:cc (sub r (s+l)<|r.length-l) H (r.length-l:Nat)=1:=U
 exact⟨λ{h j} q=>by rw[z.QS P q g1];exact k1,λ{h j} q=>by rw[y.QS D q O];exact k2⟩
theorem JM(L:Line r s<|s+l):Sm<|sub r s l:=⟨X5 S l2 ln L.1,(ka S l2 ln L).1,X4 S l2 ln⟩
end
theorem AAM{Q Y a b c d:Int}(q:0<Q)(p:(Q*a<Y/\Y<Q*b)\/(Q*b<Y/\Y<Q*a))(Z:c≠d)(O:(Q*c<=Y/\Y<=Q*d)\/(Q*d<=Y/\Y<=Q*c)) : ∃H,((a<=H/\H<b)\/(b<=H/\H<a))/\((c<=H/\H<d)\/(d<=H/\H<c))/\Q*H<=Y/\Y<=Q*(H+1):=by
 have f1:Q*(Y / Q)<=Y:=Int.mul_ediv_self_le U;have f2:Y<Q*(Y / Q+1):=by have:=Int.lt_mul_ediv_self_add (x:=Y) q;grind
 generalize Y / Q=f at f1 f2;have z:∀{u v:Int},Q*u<Q*v->u<v:=λh=>AId h U;have y:∀{u v:Int},Q*u<=Q*v->u<=v:=λh=>AG3 h q;by_cases hc:(c<=f/\f<d)\/(d<=f/\f<c)
 .refine⟨f,?_,hc,f1,U⟩;rcases p with⟨u,v⟩|⟨u,v⟩
  .have:=z<|AKA u f2;have:=z<|AIl f1 v;left;lia
  .have:=z<|AKA u f2;have:=z<|AIl f1 v;right;lia
 .have P:Y=Q*f/\((c<d/\d=f)\/(d<c/\c=f)):=by
   rcases O with⟨u,v⟩|⟨u,v⟩
   .have D:=z<|AIl u f2;have F:=y<|AHh u v;have h3:=y<|AHh f1 v;have:d=f:=U
    subst this;exact⟨U,by left;lia⟩
   .have D:=z<|AIl u f2;have F:=y<|AHh u v;have h3:=y<|AHh f1 v;have:c=f:=U
    subst this;exact⟨U,by right;lia⟩
  obtain⟨e,g⟩:=P;subst e;refine⟨f-1,?_,by clear Z;rcases g with g|g<;>lia,U,U⟩;rcases p with⟨u,v⟩|⟨u,v⟩
  .have:=z u;have:=z v;left;lia
  .have:=z u;have:=z v;right;lia
def Ll(Q X Y:Int)(A B:Pt):Prop:=∃s:Int,0<=s/\s<=Q/\Q*A.1+s*(B.1-A.1)=X/\Q*A.2+s*(B.2-A.2)=Y
theorem ZQ{Q X Y H:Int}(z:0<Q){E F:Pt}(hs:E.2<=H/\H<F.2)(h1:Q*H<=Y)(h2:Y<=Q*(H+1)) : (∀A B,Ll Q X Y A B->Lt A B E F)\/(∀A B,Ll Q X Y A B->Lt E F A B)\/∃d k:Int,0<d/\0<=k/\k<=Q*d/\Q*d*E.1+k*(F.1-E.1)=d*X/\Q*d*E.2+k*(F.2-E.2)=d*Y:=by
 have a1:=AF7 hs.1<|AFv z;have a2:=AF7 (U:H+1<=F.2)<|AFv z;have hd:0<F.2-E.2:=U
 have Z:=AF8 z hd;have k1:Y-Q*E.2<=Q*(F.2-E.2):=U
 rcases AHc (Q*(F.2-E.2)*E.1+(Y-Q*E.2)*(F.1-E.1)) ((F.2-E.2)*X)with c|c|c
 .refine .inr<|.inl λA B h=>?_;obtain⟨s,y,s1,q,v⟩:=h;have p:=AFy y<|AFv hd;have O:=AGB s1<|AFv hd;refine⟨Q*(F.2-E.2),Y-Q*E.2,s*(F.2-E.2),Z,U,k1,p,O,?_,?_⟩
  .rw[<-v];grind
  .have:Q*(F.2-E.2)*A.1+s*(F.2-E.2)*(B.1-A.1)=(F.2-E.2)*X:=by rw[<-q];grind
   rw[this];exact c
 .exact .inr<|.inr ⟨F.2-E.2,Y-Q*E.2,hd,U,k1,c,AFm⟩
 .refine .inl λA B h=>?_;obtain⟨s,y,s1,q,v⟩:=h;have p:=AFy y<|AFv hd;refine⟨Q*(F.2-E.2),s*(F.2-E.2),Y-Q*E.2,Z,p,(AGB s1<|AFv hd),U,k1,?_,?_⟩
  .rw[<-v];grind
  .have:Q*(F.2-E.2)*A.1+s*(F.2-E.2)*(B.1-A.1)=(F.2-E.2)*X:=by rw[<-q];grind
   rw[this];exact c
theorem pC{Q X Y H:Int}(y:0<Q){E F:Pt}(hs:(E.2<=H/\H<F.2)\/(F.2<=H/\H<E.2))(q:Q*H<=Y)(v:Y<=Q*(H+1)) : (∀A B,Ll Q X Y A B->Lt A B E F)\/(∀A B,Ll Q X Y A B->Lt E F A B)\/∃d k:Int,0<d/\0<=k/\k<=Q*d/\Q*d*E.1+k*(F.1-E.1)=d*X/\Q*d*E.2+k*(F.2-E.2)=d*Y:=by
 rcases hs with hs|hs
 .exact ZQ y hs q v
 .rcases ZQ y hs q v with h|h|⟨d,k,a,b,c,e1,e2⟩
  .exact .inl λA B z=>Fm<|h A B z
  .exact .inr<|.inl λA B z=>FI<|h A B z
  .exact .inr<|.inr ⟨d,Q*d-k,a,U,U,AFm,AFm⟩
section
variable{r:List Pt}(S:Sm r){s:Int}{l:Nat}(l2:2<=l)(ln:l+2<=r.length)(L:Line r s (s+l))
include S l2 ln L
theorem jE{k:Int}(k0:0<=k)(k1:k<r.length-l){H:Int}(q:(yy r (s+l+k)<=H/\H<yy r (s+l+k+1))\/(yy r (s+l+k+1)<=H/\H<yy r (s+l+k))) : RQ (sub r s l) H (AA r<|s+l+k) (AA r<|s+l+k+1)=0:=by
 have e:=Yv (r:=r) (s:=s) (l:=l) U U H (AA r<|s+l+k)<|AA r<|s+l+k+1;have x1:RQ r H (AA r<|s+l+k) (AA r<|s+l+k+1)+ind (yy r (s+l+k)<yy r (s+l+k+1))=1:=S.c <|Dw q;have z:=Aw r (s+l) (r.length-l) k0 U;have y:AA (sub r (s+l)<|r.length-l) (k+1)=AA r (s+l+k+1):=by rw[Aw r (s+l) (r.length-l) (ET k0) U];lia
 have x2:RQ (sub r (s+l)<|r.length-l) H (AA r<|s+l+k) (AA r<|s+l+k+1)+ind (yy r (s+l+k)<yy r (s+l+k+1))=1:=by
  have:=(ka S l2 ln L).2 (Dw (by unfold yy;rw[z,y];exact q));unfold cc at this;unfold yy at this ⊢;rw[z,y]at this;have v:Rr (sub r (s+l)<|r.length-l) H k=RQ (sub r (s+l)<|r.length-l) H (AA r<|s+l+k) (AA r<|s+l+k+1):=by show RQ _ _ _ _=_;rw[z,y]
  rw[v]at this;exact this
 omega
theorem ip{a b:Int}(p:Line (sub r s l) a b){k:Int}(k0:0<=k)(k1:k<r.length-l){Q t X Y:Int}(P:0<Q)(D:0<t)(t1:t<Q) (n:Q*(AA (sub r s l) a).1+t*((AA (sub r s l) b).1-(AA (sub r s l) a).1)=X) (f:Q*(AA (sub r s l) a).2+t*((AA (sub r s l) b).2-(AA (sub r s l) a).2)=Y) (F:Ll Q X Y (AA r<|s+l+k)<|AA r<|s+l+k+1):False:=by
 have v:=JM S l2 ln L;have x:=v.gn p.1.Ba.1;have BO:yy r (s+l+k)≠yy r (s+l+k+1):=(S.g1 _).symm;have e:Ll Q X Y (AA (sub r s l) a)<|AA (sub r s l) b:=⟨t,U,U,n,f⟩;have ra:(Q*yy (sub r s l) a<Y/\Y<Q*yy (sub r s l) b)\/(Q*yy (sub r s l) b<Y/\Y<Q*yy (sub r s l) a):=by
  unfold yy at x ⊢;rcases AGW x with h|h
  .left;have R:=AF8 D<|AIY.mpr h;have B:=AF8 (AIY.mpr t1)<|AIY.mpr h;exact⟨U,U⟩
  .right;have R:=AF8 D<|AIY.mpr h;have B:=AF8 (AIY.mpr t1)<|AIY.mpr h;exact⟨U,U⟩
 have rc:(Q*yy r (s+l+k)<=Y/\Y<=Q*yy r (s+l+k+1))\/(Q*yy r (s+l+k+1)<=Y/\Y<=Q*yy r (s+l+k)):=by
  obtain⟨u,q,Z,_,f2⟩:=F;unfold yy;rcases AHi (AA r<|s+l+k).2 (AA r<|s+l+k+1).2 with h|h
  .left;have R:=AFy q<|AIL.mpr h;have B:=AFy (AIL.mpr Z)<|AIL.mpr h;exact⟨U,U⟩
  .right;have R:=AFy q<|AIL.mpr h;have B:=AFy (AIL.mpr Z)<|AIL.mpr h;exact⟨U,U⟩
 obtain⟨H,ha,hc,h1,h2⟩:=AAM P ra BO rc;have z0:=jE S l2 ln L k0 k1 hc;have:RQ (sub r s l) H (AA (sub r s l) a) (AA (sub r s l) b)=RQ (sub r s l) H (AA r<|s+l+k) (AA r<|s+l+k+1):=by
  refine Cj λm hm=>?_;by_cases hs:Ae (sub r s l) H m=0
  .rw[hs,AGs,AGs]
  rw[sub_len]at hm;rcases pC P (EX hs) h1 h2 with c|c|⟨d,u,G,q,Z,f1,f2⟩
  .rw[BG<|c _ _ e,BG<|c _ _ F]
  .rw[A2 λz=>p.1.nc v.s m z<|c _ _ e,A2 λz=>?_];have O:=c _ _ F;by_cases hl:(m)=l
   .rw[hl,GB,Aw r s l U U]at O z;exact L.1.nc S.s (s+l+k) (FI O)<|Fm z
   .rw[Aw r s l U U,Aw r s l U U,show s+((m)+1)=s+m+1 by lia]at O z;exact S.s.nc (by exact KH U U) z O
  .exfalso;have td:=AF8 G D;have td':=AF8 G<|AIY.mpr t1;by_cases T:(a-(m))%((sub r s l).length)=0
   .rw[<-Al T,<-Al<|CB T]at f1 f2;have:=(p.1.f1 u (d*t) q U AFm AFm).2;lia
   by_cases C:(a-(m))%((sub r s l).length)=1
   .have hn:(1:Int)<((sub r s l).length):=by rw[Et];lia
    have y:=Fo hn C;rw[<-Al y,<-(v.s.next C).1]at f1 f2;have:=(p.1.f2 (Q*d-u) (d*t) U U AFm AFm).2;lia
   by_cases E:(b-(m))%((sub r s l).length)=0
   .rw[<-Al E,<-Al<|CB E]at f1 f2;have:=(p.1.f3 u (d*(Q-t)) q U AFm AFm).2;lia
   by_cases I:(b-(m))%((sub r s l).length)=1
   .have hn:(1:Int)<((sub r s l).length):=by rw[Et];lia
    rw[<-Al<|Fo hn I,<-(v.s.next I).1]at f1 f2;have:=(p.1.f4 (Q*d-u) (d*(Q-t)) U U AFm AFm).2;lia
   .refine p.1.nt m T C E I ⟨Q*d,d*t,u,(AF8 P G),U,U,q,Z,?_,?_⟩
    .rw[f1,<-n];grind
    .rw[f2,<-f];grind
 rw[z0,(Line.rq v p ha)]at this;cases this
end
theorem Sm.ne{r:List Pt}(S:Sm r){i j:Int}(h:(i-j)%(r.length)≠0):AA r i≠AA r j:=λc=>S.gn h (by unfold yy;rw[c])
theorem Sm.st{r:List Pt}(S:Sm r)(k:Int):AA r (k+1)≠AA r k:=λc=>S.g1 k (by unfold yy;rw[c])
section
variable{r:List Pt}(S:Sm r){s:Int}{l:Nat}(l2:2<=l)(ln:l+2<=r.length)(L:Line r s (s+l))
include S l2 ln L
theorem lV{a b:Int}(a0:0<=a)(F:a<=l)(R:0<=b)(b1:b<=l)(p:Line (sub r s l) a b){k:Int}(k0:0<=k)(k1:k<r.length-l){T:Pt} (O:(AA r (s+l+k)=AA r (s+a)/\T=AA r (s+l+k+1))\/(AA r (s+l+k+1)=AA r (s+a)/\T=AA r (s+l+k))) (P:T≠AA r (s+a)) (B:T≠AA r (s+b)) (G:AA r (s+b)≠AA r (s+a)) (C:¬ At (AA r<|s+l+k) (AA r<|s+l+k+1) (AA r<|s+b)):CD (AA r<|s+a) T<|AA r<|s+b:=by
 have ea:=Aw r s l a0 F;have D:=Aw r s l R b1;refine Jp P G ?_ λz=>C ?_
 .rintro⟨u,v,y,E,h,q,Z⟩;by_cases c:u=v
  .apply B;subst c;exact AGy (Rz<|AHT (Fj y) q)<|Rz<|AHT (Fj y) Z
  by_cases v0:v=0
  .apply P;rw[v0,AGl]at q Z;exact AGy (KC (AGJ.mp q)<|Fj y)<|KC (AGJ.mp Z)<|Fj y
  refine ip S l2 ln L p k0 k1 (X:=u*T.1) (Y:=u*T.2) y (Hn E v0) U ?_ ?_ ?_
  .rw[ea,D];grind
  .rw[ea,D];grind
  .rcases O with⟨_,rfl⟩|⟨_,rfl⟩
   .exact⟨u,U,ED,AFm,AFm⟩
   .exact⟨0,Bb,U,AFm,AFm⟩
 .rcases O with⟨Q,rfl⟩|⟨Q,rfl⟩
  .rw[Q];exact z
  .rw[Q];exact JW z
theorem TQ{a b:Int}(a0:0<=a)(a1:a<=l)(b0:0<=b)(b1:b<=l)(p:Line (sub r s l) a b):(2<=a-b/\a-b<=l-1)\/(2<=b-a/\b-a<=l-1):=by
 have:=p.1.Ba;rw[Et]at this;have:=Kr U this U U
 grind
theorem lQ{a b:Int}(a0:0<=a)(y:a<=l)(z:0<=b)(b1:b<=l)(p:Line (sub r s l) a b):CD (AA r<|s+a) (AA r<|s+a+1)<|AA r<|s+b:=by
 have hf:=TQ S l2 ln L a0 y z b1 p;by_cases ha:a<l
 .have:=p.1.f1;rw[Aw r s l a0 y,Aw r s l z b1,Aw r s l (ET a0) (by clear y;lia),show s+(a+1)=s+a+1 from FH]at this;exact this
 .have ha:a=l:=U
  subst ha;have q:s+(l)+0=s+l:=AGG _;refine lV S l2 ln L a0 y z b1 p (k:=0) Bb U (.inl ⟨by rw[q],by rw[q]⟩) (S.st _) (S.ne ?_) (S.ne ?_) ?_
  .exact KH U U
  .rw[show s+b-(s+(l)) = -(l-b)by lia,Cv AFo<|LI z ln];lia
  .rw[q];refine S.s.EW ?_ ?_
   .rw[show s+b-(s+(l)) = -(l-b)by lia,Cv U<|LI z ln];lia
   .rw[show s+b-(s+(l)) = -(l-b)by lia,Cv U<|LI z ln];lia
theorem lU{a b:Int}(a0:0<=a)(y:a<=l)(z:0<=b)(b1:b<=l)(p:Line (sub r s l) a b):CD (AA r<|s+a) (AA r<|s+a-1)<|AA r<|s+b:=by
 have hf:=TQ S l2 ln L a0 y z b1 p;by_cases ha:0<a
 .have:=p.1.f2;rw[Aw r s l a0 y,Aw r s l z b1,Aw r s l U U,show s+(a-1)=s+a-1 from MV]at this;exact this
 .have ha:a=0:=U
  subst ha;have v:s+(l)+(r.length-l-1)=s-1+r.length:=U
  have q:AA r (s+(l)+(r.length-l-1))=AA r (s-1):=by rw[v,IY]
  have Z:AA r (s+(l)+(r.length-l-1)+1)=AA r (s-1+1):=by rw[v,show s-1+(r.length)+1=s-1+1+r.length by clear q;lia,IY]
  have e3:s-1+1=s+0:=U
  have st:AA r (s+0-1)≠AA r (s+0):=λc=>S.st (s-1) (by rw[e3,<-c];congr 1;lia);refine lV S l2 ln L a0 y z b1 p (k:=r.length-l-1) U U (.inr ⟨by rw[Z,e3],by rw[q];congr 1;lia⟩) st (S.ne ?_) (S.ne ?_) ?_
  .rw[show s+0-1-(s+b) = -(b+1)by lia,Cv U U];lia
  .rw[show s+b-(s+0)=b by lia,AFt (Ma z) U];rintro rfl;lia
  .rw[q,Z];refine S.s.EW ?_ ?_
   .rw[show s+b-(s-1)=b+1 from Ou,AFt (ET z) U];lia
   .rw[show s+b-(s-1)=b+1 from Ou,AFt (ET z) U];lia
theorem AEU{a b:Int}(a0:0<=a)(y:a<=l)(q:0<=b)(b1:b<=l)(p:Line (sub r s l) a b):Probe r (s+a)<|s+b:=by
 have hf:=TQ S l2 ln L a0 y q b1 p;have C:=Line.symm (JM S l2 ln L) p;refine⟨L4 AFm,lQ S l2 ln L a0 y q b1 p,lU S l2 ln L a0 y q b1 p,lQ S l2 ln L q b1 a0 y C,lU S l2 ln L q b1 a0 y C,λk Z Y O P h=>?_⟩;have hn:(0:Int)<r.length:=U
 have F:=AGQ (k-s) (b:=(r.length)) U;have m1:=AGI (k-s) hn;have D:(k-(s+(k-s)%(r.length)))%(r.length)=0:=by rw[show k-(s+(k-s)%(r.length))=(k-s)-(k-s)%(r.length)by lia,AHI,AGY _<|AHD _,AGi];rfl
 generalize (k-s)%(r.length)=m at F m1 D;have ek:∀x:Int,(x-k)%(r.length)=(x-(s+m))%(r.length):=λx=>by rw[show x-(s+m)=(x-k)+(k-(s+m))by lia,AHJ,D,AGG,AGY _<|AHD _]
 rw[ek]at Z Y O P;rw[Al D,Al<|CB D]at h;rw[show s+a-(s+m)=a-m by lia]at Z Y;rw[show s+b-(s+m)=b-m by lia]at O P;have ne:∀{d:Int},d%(r.length)≠0->d%(r.length)≠1->d≠0/\d≠1:=λ{d} u v=>⟨λc=>u (by rw[c];rfl),λc=>v (by rw[c];exact AFt C2 (by clear hn;lia))⟩;obtain⟨n1,n2⟩:=ne Z Y;obtain⟨n3,n4⟩:=ne O P;by_cases hm:m<l
 .have E:∀{d:Int},d≠0->d≠1->-(l)<d->d<=l->d%((l)+1)≠0/\d%((l)+1)≠1:=λ{d} u v w z=>by
   by_cases c:0<=d
   .rw[AFt c U];exact⟨u,v⟩
   .have:=Cv (n:=(l)+1) (d:=-d) U U;rw[AIE]at this;rw[this];lia
  have H:=E n1 n2 U U;have I:=E n3 n4 U U;refine p.1.nt m (by rw[Et];exact H.1) (by rw[Et];exact H.2) (by rw[Et];exact I.1) (by rw[Et];exact I.2) ?_;rw[Aw r s l a0 y,Aw r s l q b1,Aw r s l (Ma F) U,Aw r s l (ET F) U,show s+(m+1)=s+m+1 from FH];exact h
 .obtain⟨Q,t,u,R,t0,t1,B,G,f,e⟩:=h;have es:s+m=s+l+(m-l):=U
  have mC:=Z;have mD:=Y;have mE:=O;have mG:=P
  rw[show a-m=s+a-(s+m)by lia]at mC mD;rw[show b-m=s+b-(s+m)by lia]at mE mG;by_cases T:t=0
  .refine S.s.EW mC mD ⟨Q,u,R,B,G,?_,?_⟩
   .rw[T]at f;grind
   .rw[T]at e;grind
  by_cases c1:t=Q
  .refine S.s.EW mE mG ⟨Q,u,R,B,G,?_,?_⟩
   .grind
   .grind
  .refine ip S l2 ln L p (k:=m-l) U U R (t:=t) (Hn t0 T) U rfl rfl ?_;rw[<-es,Aw r s l a0 y,Aw r s l q b1];exact⟨u,B,G,f.symm,e.symm⟩
theorem g6{a b:Int}(a0:0<a)(a1:a<l)(z:0<=b)(b1:b<=l)(p:Line (sub r s l) a b):Line r (s+a)<|s+b:=by refine⟨AEU S l2 ln L U U z b1 p,?_⟩;have:=p.2;rw[Aw r s l U U,Aw r s l z b1,Aw r s l U U,Aw r s l U U,show s+(a+1)=s+a+1 from FH,show s+(a-1)=s+a-1 from MV]at this;exact this
theorem g5{a b:Int}(a0:0<=a)(z:a<=l)(y:0<=b)(b1:b<=l)(p:Line (sub r s l) a b):Line r (s+a)<|s+b:=by
 have hf:=TQ S l2 ln L a0 z y b1 p;by_cases c:0<a/\a<l
 .exact g6 S l2 ln L c.1 c.2 y b1 p
 .exact Line.symm S<|g6 S l2 ln L (by clear z;omega) (by clear a0;omega) a0 z<|Line.symm (JM S l2 ln L) p
end
theorem Ng(AFl V W P:Pt):AD AFl V P+AD V W P+AD W AFl P=AD AFl V W/\AD AFl V W*P.1=AD V W P*AFl.1+AD W AFl P*V.1+AD AFl V P*W.1/\AD AFl V W*P.2=AD V W P*AFl.2+AD W AFl P*V.2+AD AFl V P*W.2:=by unfold AD;exact⟨AFm,AFm,AFm⟩
theorem dO{D Q T y Y Z z bR q p r u v w:Int}(P:y+Y+Z=D)(O:z+bR+q=D)(F:D*p=Y*u+Z*v+y*w)(eR:D*r=bR*u+q*v+z*w) : (D*(-z*Q+((Q-T)*y+T*z)))*p+(D*(-z*T+((Q-T)*y+T*z)))*(r-p)=(D*(-z*Q+((Q-T)*y+T*z)))*u+(-z*((Q-T)*Z+T*q)+((Q-T)*y+T*z)*q)*(v-u):=by
 have R:(D*(-z*Q+((Q-T)*y+T*z)))*p+(D*(-z*T+((Q-T)*y+T*z)))*(r-p)=(-z*(Q-T))*(D*p)+(-z*T+((Q-T)*y+T*z))*(D*r):=AFm
 rw[R,F,eR];have B:D*(-z*Q+((Q-T)*y+T*z))=(-z*((Q-T)*Y+T*bR)+((Q-T)*y+T*z)*bR)+(-z*((Q-T)*Z+T*q)+((Q-T)*y+T*z)*q):=by
  have G:D*(-z*Q) = -z*((Q-T)*D+T*D):=AFm
  have S:D*((Q-T)*y+T*z)=((Q-T)*y+T*z)*D:=AH2 ..;rw[Int.mul_add,G,S];rw[show(Q-T)*D=(Q-T)*(y+Y+Z)by rw[P],show T*D=T*(z+bR+q)by rw[O],show((Q-T)*y+T*z)*D=((Q-T)*y+T*z)*(z+bR+q)by rw[O]]
  grind
 rw[B]
 grind
theorem VU{AFl V W P R:Pt}{Q T ax bx fx:Int}(Z:0<Q)(Y:0<=T)(t1:T<=Q)(O:0<AD AFl V W) (v:ax=(Q-T)*AD AFl V P+T*AD AFl V R) (D:bx=(Q-T)*AD V W P+T*AD V W R) (p:fx=(Q-T)*AD W AFl P+T*AD W AFl R) (a0:0<=ax) (F:AD AFl V R<0) (hb:0<=-AD AFl V R*bx+ax*AD V W R) (B:0<=-AD AFl V R*fx+ax*AD W AFl R) : ∃q s t:Int,0<q/\0<=s/\s<=q/\0<=t/\t<=q/\q*P.1+s*(R.1-P.1)=q*AFl.1+t*(V.1-AFl.1)/\q*P.2+s*(R.2-P.2)=q*AFl.2+t*(V.2-AFl.2)/\t = -AD AFl V R*fx+ax*AD W AFl R/\q-t = -AD AFl V R*bx+ax*AD V W R:=by
 obtain⟨z,G,S⟩:=Ng AFl V W P;obtain⟨y,C,E⟩:=Ng AFl V W R;have m1:=AF8 (show 0 < -AD AFl V R from Ot F) Z;have m2:=AFy (U:0<=-AD AFl V R) Y;have m3:=AFy (U:0<=-AD AFl V R) (show 0<=Q-T from Ce t1);have H:0 < -AD AFl V R*Q+ax:=U
 have I:0<=-AD AFl V R*T+ax:=U
 have n : -AD AFl V R*T+ax<=-AD AFl V R*Q+ax:=U
 have b:AD AFl V W*(-AD AFl V R*Q+ax)-(-AD AFl V R*fx+ax*AD W AFl R) = -AD AFl V R*bx+ax*AD V W R:=by
  have f:ax+bx+fx=Q*AD AFl V W:=by
   rw[v,D,p,show Q*AD AFl V W=(Q-T)*AD AFl V W+T*AD AFl V W by grind,<-z];have:T*(AD AFl V P+AD V W P+AD W AFl P)=T*(AD AFl V R+AD V W R+AD W AFl R):=by rw[z,y]
   rw[this];grind
  have x:AD AFl V W*(-AD AFl V R*Q+ax) = -AD AFl V R*(Q*AD AFl V W)+ax*AD AFl V W:=AFm
  rw[x,<-f,<-y];grind
 refine⟨AD AFl V W*(-AD AFl V R*Q+ax),AD AFl V W*(-AD AFl V R*T+ax),-AD AFl V R*fx+ax*AD W AFl R,(AF8 O H),AFy U I,AF7 n U,B,U,?_,?_,rfl,b⟩
 .rw[v,p];exact dO z y G C
 .rw[v,p];exact dO z y S E
theorem rT{AFl V W P R:Pt}{Q T ax bx fx:Int}(C:0<Q)(E:0<=T)(t1:T<=Q)(H:0<AD AFl V W) (I:ax=(Q-T)*AD AFl V P+T*AD AFl V R) (n:bx=(Q-T)*AD V W P+T*AD V W R) (b:fx=(Q-T)*AD W AFl P+T*AD W AFl R) (a0:0<=ax) (v:0<=bx) (f:0<=fx) (x:0<=AD W AFl R) (out:AD AFl V R<0\/AD V W R<0) : (∃q s t:Int,0<q/\0<=s/\s<=q/\0<=t/\t<=q/\q*P.1+s*(R.1-P.1)=q*AFl.1+t*(V.1-AFl.1)/\q*P.2+s*(R.2-P.2)=q*AFl.2+t*(V.2-AFl.2)/\(0<fx->0<t))\/(∃q s t:Int,0<q/\0<=s/\s<=q/\0<=t/\t<=q/\q*P.1+s*(R.1-P.1)=q*V.1+t*(W.1-V.1)/\q*P.2+s*(R.2-P.2)=q*V.2+t*(W.2-V.2)/\(0<fx->t<q)):=by
 have e:AD V W AFl=AD AFl V W:=by unfold AD;grind
 have oP:AD AFl V R<0->0<=-AD AFl V R*bx+ax*AD V W R->(∃q s t:Int,0<q/\0<=s/\s<=q/\0<=t/\t<=q/\q*P.1+s*(R.1-P.1)=q*AFl.1+t*(V.1-AFl.1)/\q*P.2+s*(R.2-P.2)=q*AFl.2+t*(V.2-AFl.2)/\(0<fx->0<t)):=λy p=>by have Z:=AFy (U:0<=-AD AFl V R) f;have Y:=AFy a0 x;obtain⟨q,s,t,O,D,h3,F,B,G,S,et,_⟩:=VU C E t1 H I n b a0 y p U;refine⟨q,s,t,O,D,h3,F,B,G,S,λh=>?_⟩;have:=AF8 (show 0 < -AD AFl V R from Ot y) h;lia
 have a:AD V W R<0->0<=-AD V W R*ax+bx*AD AFl V R->(∃q s t:Int,0<q/\0<=s/\s<=q/\0<=t/\t<=q/\q*P.1+s*(R.1-P.1)=q*V.1+t*(W.1-V.1)/\q*P.2+s*(R.2-P.2)=q*V.2+t*(W.2-V.2)/\(0<fx->t<q)):=λz ha=>by have Z:=AFy (U:0<=-AD V W R) f;have Y:=AFy v x;obtain⟨q,s,t,O,D,h3,F,B,G,S,_,eq⟩:=VU C E t1 (by rw[e];exact H) n b I v z U ha;refine⟨q,s,t,O,D,h3,F,B,G,S,λh=>?_⟩;have:=AF8 (show 0 < -AD V W R from Ot z) h;lia
 by_cases y:AD AFl V R<0
 .by_cases p:0<=-AD AFl V R*bx+ax*AD V W R
  .exact .inl<|oP y p
  .by_cases z:AD V W R<0
   .refine .inr<|a z ?_;lia
   .exfalso;have Z:=AFy (U:0<=-AD AFl V R) v;have Y:=AFy a0 (show 0<=AD V W R from Ow z);lia
 .have z:AD V W R<0:=U
  refine .inr<|a z ?_;have Z:=AFy (U:0<=-AD V W R) a0;have Y:=AFy v (show 0<=AD AFl V R from Ow y);lia
theorem iV(f:Nat->Int):∀n:Nat,0<n->∃m,m<n/\∀k,k<n->f m<=f k
 |0,h=>U
 |1,_=>⟨0,U,λk z=>by rw[show k=0 by lia];exact AGb _⟩
 |n+2,_=>by
  obtain⟨m,hm,h⟩:=iV f (n+1) U;by_cases c:f m<=f (n+1)
  .refine⟨m,U,λk z=>?_⟩;by_cases e:k=n+1
   .rw[e];exact c
   .exact h k U
  .refine⟨n+1,U,λk z=>?_⟩;by_cases e:k=n+1
   .rw[e];exact AGb _
   .have:=h k U;lia
theorem W2(P:Nat->Prop)(f:Nat->Int):∀n:Nat,(∃k,k<n/\P k)->∃m,m<n/\P m/\∀k,k<n->P k->f k<=f m
 |0,h=>by obtain⟨k,q,_⟩:=h;lia
 |n+1,h=>by
  by_cases c:∃k,k<n/\P k
  .obtain⟨m,hm,pm,v⟩:=W2 P f n c;by_cases d:P n/\f m<f n
   .refine⟨n,EU,d.1,λk q y=>?_⟩;by_cases e:k=n
    .rw[e];exact AGb _
    .have:=v k (FG q e) y;lia
   .refine⟨m,En hm,pm,λk q y=>?_⟩;by_cases e:k=n
    .rw[e]at y ⊢;exact AIR.mp λz=>d ⟨y,z⟩
    .exact v k (FG q e) y
  .obtain⟨k,q,y⟩:=h;have:k=n:=by
    rcases AJU k n with z|z
    .exact absurd ⟨k,z,y⟩ c
    .lia
   subst this;refine⟨k,EU,y,λj p Z=>?_⟩;by_cases e:j=k
   .rw[e];exact AGb _
   .exact absurd ⟨j,FG p e,Z⟩ c
set_option tactic.hygienic true
theorem LR{a b A B C D:Pt}{Q s t:Int}(z:Q*A.1+s*(B.1-A.1)=Q*C.1+t*(D.1-C.1))(y:Q*A.2+s*(B.2-A.2)=Q*C.2+t*(D.2-C.2)):(Q-s)*AD a b A+s*AD a b B=(Q-t)*AD a b C+t*AD a b D:=by
 have f:∀(X Y:Pt)(u:Int),(Q-u)*AD a b X+u*AD a b Y=(b.1-a.1)*((Q*X.2+u*(Y.2-X.2))-Q*a.2)-(b.2-a.2)*((Q*X.1+u*(Y.1-X.1))-Q*a.1):=λX Y u=>by unfold AD;grind
 rw[f,f,z,y]
theorem QO{a b A B X:Pt}{q s:Int}(e1:q*(X.1-A.1)=s*(B.1-A.1))(e2:q*(X.2-A.2)=s*(B.2-A.2)):(q-s)*AD a b A+s*AD a b B=q*AD a b X:=by have:=LR (a:=a) (b:=b) (A:=A) (B:=B) (C:=X) (D:=X) (Q:=q) (s:=s) (t:=0) AFm AFm;rw[AGl,AGG,AIk]at this;exact this
theorem Ua{a b A B X:Pt}(h:At A B X)(z:0<=AD a b A)(y:0<=AD a b B):0<=AD a b X:=by obtain⟨q,s,v,p,s1,Z,Y⟩:=h;have m1:=AFy (show 0<=q-s from Ce s1) z;have m2:=AFy p y;exact AIR.mp λc=>by have:=AHg v c;rw[<-QO Z Y]at this;lia
theorem Nf{AFl V W P:Pt}(q:0<AD AFl V W)(h:AD AFl V P=0)(b:0<=AD V W P)(f:0<=AD W AFl P):At AFl V P:=by obtain⟨sz,z,y⟩:=Ng AFl V W P;rw[h,AGl,AGG]at z y;rw[h,AGj]at sz;exact⟨AD AFl V W,AD W AFl P,q,f,U,by rw[AIx,z,<-sz];grind,by rw[AIx,y,<-sz];grind⟩
def fA(r:List Pt)(v k:Int):Int:=AD (AA r<|v-1) (AA r v)<|AA r k
def fB(r:List Pt)(v k:Int):Int:=AD (AA r v) (AA r<|v+1)<|AA r k
def fF(r:List Pt)(v k:Int):Int:=AD (AA r<|v+1) (AA r<|v-1)<|AA r k
theorem dS(r:List Pt)(v:Int):fA r v v=0/\fA r v (v-1)=0/\fB r v v=0/\fB r v (v+1)=0/\fF r v (v+1)=0/\fF r v (v-1)=0/\fF r v v=fA r v (v+1)/\fB r v (v-1)=fA r v (v+1):=
 ⟨(FQ _ _).2,(FQ _ _).1,(FQ _ _).1,(FQ _ _).2,(FQ _ _).1,(FQ _ _).2,by unfold fF fA;rw[CG,CG],CG ..⟩
section
variable{r:List Pt}(S:Sm r)
include S
theorem Sm.norm(v k:Int):∃e:Int,0<=e/\e<r.length/\(k-(v+e))%(r.length)=0:=by have h3:=S.s.l3;refine⟨(k-v)%(r.length),AGQ _<|KD h3,AGI _<|Hm h3,?_⟩;rw[show k-(v+(k-v)%(r.length))=(k-v)-(k-v)%(r.length)by lia,AHI,AGY _<|AHD _,AGi];rfl
theorem Sm.low:∃v:Int,∀k:Int,yy r v<=yy r k:=by have h3:=S.s.l3;obtain⟨m,hm,h⟩:=iV (λk=>yy r<|k) r.length<|Bo h3;refine⟨m,λk=>?_⟩;obtain⟨e,z,e1,he⟩:=S.norm 0 k;rw[AGj]at he;have:=h e.toNat U;rw[AGL z,<-G8 he]at this;exact this
theorem Sm.conv{v:Int}(z:∀k,yy r v<=yy r k):0<AD (AA r<|v-1) (AA r v) (AA r<|v+1):=by
 have h3:=S.s.l3;have p:v-1+1=v:=DZ;have Z:yy r v<yy r (v-1):=by have:=S.g0 v;have:=z<|v-1;omega
 have y:yy r v<yy r (v+1):=by have:=S.g1 v;have:=z<|v+1;lia
 have Y:=Sv (by rw[p];exact ED) Z;have sw:=Sw ED y;have hc:=S.c (by rw[sw];lia);unfold cc at hc;rw[BG y]at hc;have hR:Rr r (yy r v) v=ind (L r v<|v-1)*(-1):=by
  unfold Rr;have Q:=S6 (f:=λj=>ind (L r v j)*Ae r (yy r v) j) (n:=r.length) (Bo h3) (λa b h=>by rw[PZ h,NV (by rw[AGi];rfl) h]) (v-1)
  rw[<-Q];rw[S5 (d:=0) (Bo h3) λm hm Ax=>?_]
  .rw[AI1,AGG,Y]
  .by_cases O:m=1
   .rw[O,show v-1+((1:Nat))=v by lia,A2<|NW r v λc=>S.g1 v c.symm,AGl]
   .have:Ae r (yy r v) (v-1+(m))=0:=by
     apply AG2;intro c;have hr:=EX c;have h1:=z<|v-1+m;have h2:=z<|v-1+m+1;by_cases x:yy r (v-1+m)<=yy r v
     .have:=S.g (v-1+m) v U;rw[show v-1+(m)-v=m-1 by lia]at this;exact KH U (MU hm) this
     .have:=S.g (v-1+m+1) v (by clear Q;omega);rw[show v-1+(m)+1-v=m by lia]at this;exact KH (by clear O;lia) (Dd hm) this
    rw[this,AGs]
 rw[hR]at hc;have hn:¬ L r v (v-1):=λc=>by rw[BG c]at hc;lia
 have q:=(S.s.M3 (by rw[show v-(v-1)=1 from R0];exact KH J9<|DC h3) (by rw[sw];lia) (by rw[Y];lia)).resolve_left hn;unfold L at q;rw[p]at q;have:=(Uk Z y).mp<|FI q;rw[CG]at this;exact this
theorem Sm.lh{v:Int}(E:0<AD (AA r<|v-1) (AA r v) (AA r<|v+1)){e:Int}(H:1<=e)(I:e<=r.length-2){P R:Pt} (n:(P=AA r (v+e)/\R=AA r (v+e+1))\/(P=AA r (v+e+1)/\R=AA r (v+e))) {Q T ax bx fx:Int} (f:0<Q) (h:0<=T) (t1:T<=Q) (GX:ax=(Q-T)*AD (AA r<|v-1) (AA r v) P+T*AD (AA r<|v-1) (AA r v) R) (Io:bx=(Q-T)*AD (AA r v) (AA r<|v+1) P+T*AD (AA r v) (AA r<|v+1) R) (GZ:fx=(Q-T)*AD (AA r<|v+1) (AA r<|v-1) P+T*AD (AA r<|v+1) (AA r<|v-1) R) (a0:0<=ax) (b0:0<=bx) (f0:0<=fx) (hF:0<=AD (AA r<|v+1) (AA r<|v-1) R) (ok:0<fx\/(e≠r.length-2/\e≠1)) : 0<=AD (AA r<|v-1) (AA r v) R/\0<=AD (AA r v) (AA r<|v+1) R:=by
 apply AG2;intro c;have G:v-1+1=v:=DZ;have C:(v+e-(v-1))%(r.length)=e+1:=by rw[show v+e-(v-1)=e+1 from Ou,AFt U U]
 have m2:(v-1-(v+e))%(r.length)=r.length-(e+1):=by rw[show v-1-(v+e) = -(e+1)by lia,Cv U U]
 have m3:(v+e-v)%(r.length)=e:=by rw[show v+e-v=e from Ry,AFt U U]
 have m4:(v-(v+e))%(r.length)=r.length-e:=by rw[show v-(v+e) = -e from JD,Cv (Oq H) U]
 have rev:∀{q s:Int}{a b:Pt}{x y:Int},0<q->0<=s->s<=q->q*P.1+s*(R.1-P.1)=x->q*P.2+s*(R.2-P.2)=y->∃s':Int,0<=s'/\s'<=q/\q*(AA r<|v+e).1+s'*((AA r<|v+e+1).1-(AA r<|v+e).1)=x/\q*(AA r<|v+e).2+s'*((AA r<|v+e+1).2-(AA r<|v+e).2)=y:=λ{q s a b x y} z p s1 Z Y=>by
  rcases n with⟨rfl,rfl⟩|⟨rfl,rfl⟩
  .exact⟨s,p,s1,Z,Y⟩
  .exact⟨q-s,Ce s1,LK p,by rw[<-Z];grind,by rw[<-Y];grind⟩
 rcases rT f h t1 E GX Io GZ a0 b0 f0 hF AFo with⟨q,s,t,z,p,s1,O,D,Z,Y,st⟩|⟨q,s,t,z,p,s1,O,D,Z,Y,st⟩
 .obtain⟨s',F,B,f1,f2⟩:=rev (a:=P) (b:=P) z p s1 Z Y;have:=S.s.share (by rw[C];lia) z F B O D (by rw[G];exact f1) (by rw[G];exact f2);rw[C,m2]at this;rcases ok with k|k
  .rcases this with this|this<;>lia
  .clear I;rcases this with this|this<;>lia
 .obtain⟨s',F,B,f1,f2⟩:=rev (a:=P) (b:=P) z p s1 Z Y;have:=S.s.share (by rw[m3];lia) z F B O D f1 f2;rw[m3,m4]at this;rcases ok with k|k
  .rcases this with this|this<;>lia
  .lia
theorem Sm.lg{v:Int}(z:0<fA r v (v+1)){e:Int}(q:1<=e)(p:e<=r.length-2){Q T ax bx fx:Int}(Z:0<Q)(Y:0<=T)(t1:T<=Q) (O:ax=(Q-T)*fA r v (v+e)+T*fA r v (v+e+1)) (P:bx=(Q-T)*fB r v (v+e)+T*fB r v (v+e+1)) (D:fx=(Q-T)*fF r v (v+e)+T*fF r v (v+e+1)) (a0:0<=ax) (F:0<=bx) (R:0<=fx) (ok:0<fx\/(e≠r.length-2/\e≠1)) : (0<=fF r v (v+e+1)->0<=fA r v (v+e+1)/\0<=fB r v (v+e+1))/\(0<=fF r v (v+e)->0<=fA r v (v+e)/\0<=fB r v (v+e)):=by
 have sw:∀x y:Int,(Q-T)*x+T*y=(Q-(Q-T))*y+(Q-T)*x:=λx y=>by rw[Int.sub_sub_self];lia
 exact⟨λh=>S.lh z q p (.inl ⟨rfl,rfl⟩) Z Y t1 O P D a0 F R h ok,λh=>S.lh z q p (.inr ⟨rfl,rfl⟩) Z (Ce t1) (LK Y) (O.trans<|sw _ _) (P.trans<|sw _ _) (D.trans<|sw _ _) a0 F R h ok⟩
end
section
variable{r:List Pt}(S:Sm r)
include S
theorem Sm.iw(v k:Int):∃e:Int,0<=e/\e<r.length/\AA r k=AA r (v+e)/\AA r (k+1)=AA r (v+e+1)/\∀x:Int,(x-k)%(r.length:Int)=(x-(v+e))%(r.length:Int):=by obtain⟨e,y,q,z⟩:=S.norm v k;exact⟨e,y,q,Al z,Al<|CB z,λx=>by rw[show x-(v+e)=(x-k)+(k-(v+e))by lia,AHJ,z,AGG,AGY _<|AHD _]⟩
set_option maxHeartbeats 1000000 in
theorem Sm.qd{v:Int}(T:0<fA r v (v+1)){d:Int}(d2:2<=d)(dn:d<=r.length-2)(az:0<=fA r v (v+d))(bz:0<=fB r v (v+d))(F:0<=fF r v (v+d)) (mx:∀e:Int,2<=e->e<=r.length-2->0<=fA r v (v+e)->0<=fB r v (v+e)->0<=fF r v (v+e)->fF r v (v+e)<=fF r v (v+d)):Line r v<|v+d:=by
 have em:v-1+1=v:=DZ;have en:fF r v (v+(r.length-1))=fF r v (v-1):=by unfold fF;rw[show v+((r.length:Int)-1)=v-1+r.length by lia,IY]
 obtain⟨vA,_,vB,_,wF,uF,vF,_⟩:=dS r v;have sz:fA r v (v+d)+fB r v (v+d)+fF r v (v+d)=fA r v (v+1):=(Ng ..).1;have n1:(v+d-(v-1))%(r.length)=d+1:=by rw[Ou,AFt U U]
 have n2:(v+d-v)%(r.length)=d:=by rw[Ry,AFt U U]
 have C:0<fA r v (v+d):=AHZ.mpr ⟨az,λc=>S.s.EW (m:=v+d) (j:=v-1) (by intro h;lia) (by intro h;lia) (by rw[em];exact Nf T c.symm bz F)⟩;have E:0<fB r v (v+d):=AHZ.mpr ⟨bz,λc=>S.s.EW (m:=v+d) (j:=v) U U<|Nf (by rw[CG];exact T) c.symm F az⟩;have mi:∀e:Int,0<e->e<r.length->0<=fA r v (v+e)->0<=fB r v (v+e)->fF r v (v+d)<fF r v (v+e)->False:=λe e0 P ha hb hf=>by
  by_cases R:e=1
  .rw[R,wF]at hf;grind
  by_cases c2:e=r.length-1
  .rw[c2,en,uF]at hf;omega
  .have:=mx e U U ha hb AFm;grind
 have fk:∀e:Int,1<=e->e<=r.length-1->AA r (v+e)≠AA r (v+d)->¬ At (AA r<|v+d) (AA r<|v+e) (AA r v)->CD (AA r<|v+d) (AA r<|v+e) (AA r v):=λe P e2 eM Fc=>by
  refine Jp eM (S.ne (by rw[JD,Cv U U];lia)) (λ⟨q,s,D,s0,s1,p,Z⟩=>?_) Fc;have B:_=q*fA r v (v+e):=QO p Z;have G:_=q*fB r v (v+e):=QO p Z;have Y:_=q*fF r v (v+e):=QO p Z;rw[show AD (AA r<|v-1) (AA r v) (AA r v)=0 from vA,AGs,AGG]at B;rw[show AD (AA r v) (AA r<|v+1) (AA r v)=0 from vB,AGs,AGG]at G;rw[show AD (AA r<|v+1) (AA r<|v-1) (AA r v)=_ from vF]at Y;have h:s<q:=AHZ.mpr ⟨s1,λc=>by subst c;exact S.ne (by rw[Ry];exact KH (Oq P) U)<|AGy (Rz<|AHT (Fj D) p)<|Rz<|AHT (Fj D) Z⟩
  have k:0<s:=Hn s0 λc=>eM (by rw[c,AGl]at p Z;exact AGy (KC (AGJ.mp p)<|Fj D)<|KC (AGJ.mp Z)<|Fj D)
  have pA:0<q*_:=B ▸ AF8 (Fi h) C;have pB:0<q*_:=G ▸ AF8 (Fi h) E;have pF:=AF8 k (U:0<fA r v (v+1)-fF r v (v+d));have tF:0<q*(fF r v (v+e)-fF r v (v+d)):=by rw[AIx]at pF ⊢;rw[<-Y,AIw];unfold fF at *;omega
  exact mi e U U (AFv<|AH3 pA D) (AFv<|AH3 pB D)<|Int.lt_of_sub_pos<|AH3 tF D
 refine⟨⟨L4 (by right;constructor<;>lia),N6 (u:=(AA r<|v+1)) (by rw[C3];exact Int.neg_ne_zero.mpr<|Fj E),N6<|Fj C,?_,?_,λk H I x3 x4 h=>?_⟩,.inl ⟨T,E,C⟩⟩
 .have c:(v-(v+d))%(r.length)=r.length-d:=by rw[JD,Cv U U]
  rw[<-FH];refine fk (d+1) U U ?_ ?_
  .rw[FH];exact S.st _
  .rw[FH];exact S.s.EW (m:=v) (j:=v+d) U U
 .have P:v+(d-1)+1=v+d:=U
  have c:(v-(v+(d-1)))%(r.length)=r.length-(d-1):=by rw[JD,Cv U U]
  rw[<-MV];exact fk (d-1) U U (λc=>S.st (v+(d-1))<|by rw[P,c]) λz=>S.s.EW (m:=v) (j:=v+(d-1)) U U (by rw[P];exact JW z)
 .obtain⟨e,e0,P,n,R,ex⟩:=S.iw v k;rw[ex]at H I x3 x4;rw[n,R]at h;have n1:e≠0:=λc=>H (by rw[c,AGG,AGi];rfl);have n2:e≠r.length-1:=λc=>I (by rw[JD,Cv (by clear d2 c;lia) AFo];grind);obtain⟨Q,s,u,O,s0,s1,t,b,p,Z⟩:=h;have n:0<s:=Hn s0 λc=>S.s.EW H I ⟨Q,u,O,t,b,by rw[c]at p;grind,by rw[c]at Z;grind⟩;have R:s<Q:=AHZ.mpr ⟨s1,λc=>S.s.EW x3 x4 ⟨Q,u,O,t,b,by rw[c]at p;clear O;grind,by rw[c]at Z;clear O;grind⟩⟩;clear H I x3 x4 ex;have B:_=(Q-u)*fA r v (v+e)+u*fA r v (v+e+1):=LR p Z;have G:_=(Q-u)*fB r v (v+e)+u*fB r v (v+e+1):=LR p Z;have Y:_=(Q-u)*fF r v (v+e)+u*fF r v (v+e+1):=LR p Z;rw[show AD (AA r<|v-1) (AA r v) (AA r v)=0 from vA,AGs,AGj]at B;rw[show AD (AA r v) (AA r<|v+1) (AA r v)=0 from vB,AGs,AGj]at G;rw[show AD (AA r<|v+1) (AA r<|v-1) (AA r v)=_ from vF]at Y;have pA:=AF8 n C;have pB:=AF8 n E;have p1:=AF8 (Fi R) (U:0<fA r v (v+1)-fF r v (v+d));have p2:=AFy (AFv O) F;have f:Q*fF r v (v+d)<(Q-s)*fA r v (v+1)+s*fF r v (v+d):=by rw[AIx,AIw Q s<|fF r v<|v+d]at p1;clear Y;grind
  obtain⟨w1,w2⟩:=S.lg T (Oq U) U O t b B G Y (AFv pA) (AFv pB) (by unfold fF at *;clear Y;omega) (.inl (by unfold fF at *;clear Y;omega));have up:∀{x y:Int},x<=y->(Q-u)*x+u*y<=Q*y:=λh=>by have:=AF7 h<|Ce b;rw[AIw Q u]at this;rw[AIw]at *;lia
  have dn:∀{x y:Int},x<=y->(Q-u)*y+u*x<=Q*y:=λh=>by have:=AF7 h t;rw[AIw];lia
  have f:Q*fF r v (v+d)<(Q-u)*fF r v (v+e)+u*fF r v (v+e+1):=Y ▸ f;rcases AHi (fF r v<|v+e) (fF r v<|v+e+1)with hle|hle
  .have hR:=AId (Int.lt_of_lt_of_le f<|up hle)<|AFv O;obtain⟨a,ib⟩:=w1<|AHh F<|AFv hR;rw[<-FH]at a ib hR;exact mi (e+1) U U a ib hR
  .have hR:=AId (Int.lt_of_lt_of_le f<|dn hle)<|AFv O;obtain⟨a,ib⟩:=w2<|AHh F<|AFv hR;exact mi e (Hn e0 n1) P a ib hR
end
section
variable{r:List Pt}(S:Sm r)
include S
set_option maxHeartbeats 1000000 in
theorem Sm.aI{v:Int}(h4:4<=r.length)(y:0<fA r v (v+1))(Y:∀e:Int,2<=e->e<=r.length-2->¬ (0<=fA r v (v+e)/\0<=fB r v (v+e)/\0<=fF r v (v+e))):Line r (v-1)<|v+1:=by
 have em:v-1+1=v:=DZ;have ew:v+1-1=v:=MW;have e2:AA r (v+(r.length-2))=AA r (v-1-1):=by rw[show v+((r.length:Int)-2)=v-1-1+r.length by lia,IY]
 obtain⟨vA,O,_,wB,wF,D,_,p⟩:=dS r v;have seg:∀e:Int,2<=e->e<=r.length-2->¬ At (AA r<|v-1) (AA r<|v+1) (AA r<|v+e):=λe a b c=>Y e a b ⟨Ua c (R4 O)<|AFv y,Ua c (AFv (show 0<fB r v (v-1)by rw[p];exact y))<|R4 wB,Ua c (R4 D)<|R4 wF⟩;have eO:(AA r<|v+1)≠(AA r<|v-1):=S.ne (by rw[show v+1-(v-1)=2 by lia];exact KH Oo U);have t1:v-1-1+1=v-1:=DZ;have tZ:AA r (v-1-1)≠(AA r<|v-1):=λc=>S.st (v-1-1) (by rw[t1,c]);have c3:(v+1-(v-1-1))%(r.length)=3:=by rw[show v+1-(v-1-1)=3 by lia,AFt U U]
 have c2:(v-1-(v+1))%(r.length)=r.length-2:=by rw[show v-1-(v+1) = -2 by lia,Cv Oo U]
 refine⟨⟨L4 (by right;lia),?_,Jp tZ eO (by rw[<-e2];exact seg _ U U) λc=>S.s.EW (m:=v+1) (j:=v-1-1) (by intro h;lia) (by intro h;lia) (by rw[t1];exact JW c),Jp (S.st _) eO.symm (λc=>seg 2 U U (by rw[show v+2=v+1+1 by lia];exact JW c))<|S.s.EW (m:=v-1) (j:=v+1) AFo AFo,?_,λk B G C E h=>?_⟩,?_⟩
 .rw[em];exact N6 (u:=(AA r v)) (by rw[C3];exact Int.neg_ne_zero.mpr<|Fj y)
 .rw[ew];exact N6 (u:=(AA r v)) (v:=(AA r<|v+1)) (w:=(AA r<|v-1)) (by rw[CG];exact Fj y)
 .obtain⟨e,e0,e1,c0,c1,ex⟩:=S.iw v k;rw[ex]at B G C E;rw[c0,c1]at h;have n1:e≠r.length-1:=λc=>B (by rw[show v-1-(v+e)=r.length*(-1)by lia,AGR]);have n2:e≠r.length-2:=λc=>G (by rw[show v-1-(v+e)=1+r.length*(-1)by lia,AG9,AFt C2 U]);have n3:e≠1:=λc=>C (by rw[c,AGi];rfl);have n4:e≠0:=λc=>E (by rw[c,show v+1-(v+0)=1 by lia,AFt C2 U]);clear B G C E ex;obtain⟨Q,s,u,hQ,H,s1,Z,F,I,n⟩:=h;have sA:_=(Q-u)*fA r v (v+e)+u*fA r v (v+e+1):=LR I n;have sB:_=(Q-u)*fB r v (v+e)+u*fB r v (v+e+1):=LR I n;have f:_=(Q-u)*fF r v (v+e)+u*fF r v (v+e+1):=LR I n;rw[show AD (AA r<|v-1) (AA r v) (AA r<|v-1)=0 from O,AGs,AGj]at sA;rw[show AD (AA r v) (AA r<|v+1) (AA r<|v+1)=0 from wB,show AD (AA r v) (AA r<|v+1) (AA r<|v-1)=_ from p,AGs,AGG]at sB;rw[show AD (AA r<|v+1) (AA r<|v-1) (AA r<|v-1)=0 from D,show AD (AA r<|v+1) (AA r<|v-1) (AA r<|v+1)=0 from wF,AGs,AGs,AGG]at f;obtain⟨w1,w2⟩:=S.lg y U (by clear n2;lia) hQ Z F sA sB f (AFy H<|AFv y) (AFy (Ce s1)<|AFv y) (AGb 0)<|.inr ⟨n2,n3⟩;by_cases c:0<=fF r v (v+e+1)
  .have:=w1 c;rw[<-FH]at this c;exact Y (e+1) U U ⟨this.1,this.2,c⟩
  .have z:0<=fF r v (v+e):=AIR.mp λz=>by
    have m1:=AFy (Ce F) (U:0<=-fF r v (v+e));have x:=AFy Z (U:0<=-fF r v (v+e+1));rw[AIF]at m1 x;by_cases cu:u=0
    .have:=AF8 hQ<|Ot z;rw[cu,AIk,AGl,AGG]at f;rw[AIF]at this;lia
    .have:=AF8 (Hn Z cu)<|xM c;rw[AIF]at this;clear x;lia
   have:=w2 z;exact Y e U U ⟨this.1,this.2,z⟩
 .unfold Ew HB;rw[em];by_cases c:AD (AA r<|v-1-1) (AA r<|v-1) (AA r v)>0
  .refine .inl ⟨c,y,AHY.mp λcn=>?_⟩;have aT:0<fA r v (v-1-1):=by unfold fA;rw[CG<|AA r<|v-1-1];exact c
   have fT:0<=fF r v (v-1-1):=by unfold fF;rw[kM];omega
   have bT:¬ 0<=fB r v (v-1-1):=λb=>Y (r.length-2) U U (by delta fA fB fF at *;rw[e2];exact⟨AFv aT,b,fT⟩);unfold fA at aT y O p;unfold fB at bT p;unfold fF at fT D;have m1:=AFy (AFv y) fT;have x:=AFy (AFv y)<|AFv aT;obtain⟨q,s,t,hq,H,s1,Z,F,f1,f2,_,_⟩:=VU (AFl:=(AA r v)) (V:=(AA r<|v+1)) (W:=(AA r<|v-1)) (P:=(AA r<|v-1)) (R:=AA r<|v-1-1) (Q:=1) (T:=0) (ax:=AD (AA r<|v-1) (AA r v)<|AA r<|v+1) (bx:=0) (fx:=0) J9 Bb C2 (by rw[CG];exact y) (by rw[p];lia) (by rw[D];lia) (by rw[O];lia) (AFv y) AFo AFo AFo;have:=S.s.share (i:=v-1-1) (j:=v) (s:=q-s) (by rw[show v-1-1-v = -2 by clear y;lia,Cv Oo U];lia) hq AFm (LK H) Z F (by rw[t1,<-f1];grind) (by rw[t1,<-f2];grind);rw[show v-1-1-v = -2 by lia,Cv Oo U,show v-(v-1-1)=2 by lia,AFt U U]at this;lia
  .exact .inr ⟨c,.inl y⟩
theorem Sm.diag(y:4<=r.length):∃(s:Int)(l:Nat),2<=l/\l+2<=r.length/\Line r s (s+l):=by
 obtain⟨v,p⟩:=S.low;have q:0<fA r v (v+1):=S.conv p;by_cases c:∃k:Nat,k<r.length/\(2<=k/\k+2<=r.length/\0<=fA r v (v+k)/\0<=fB r v (v+k)/\0<=fF r v (v+k))
 .obtain⟨m,hm,⟨Z,hn,a,b,f⟩,Y⟩:=W2 _ (λk:Nat=>fF r v<|v+k) r.length c;refine⟨v,m,Z,hn,S.qd q U (by clear hm;lia) a b f λe Q O ea P D=>?_⟩;have:=Y e.toNat AFm;rw[AGL U]at this;exact this ⟨AFm,AFm,ea,P,D⟩
 .refine⟨v-1,2,U,y,?_⟩;rw[show v-1+((2:Nat):Int)=v+1 by lia];refine S.aI y q λe Q O z=>c ⟨e.toNat,AFm,U,U,?_⟩;rw[AGL U];exact z
end
theorem YJ{t:List Pt}(S:Sm t)(h:t.length=3)(v:Int):0<AD (AA t v) (AA t<|v+1) (AA t<|v+2):=by
 obtain⟨m,hm⟩:=S.low;have c:=S.conv hm;have z:∀{a b:Int},(a-b)%3=0->AA t a=AA t b:=λe=>Al (by rw[h];exact e);have d:(v-(m-1))%3=0\/(v-m)%3=0\/(v-(m+1))%3=0:=U
 rcases d with d|d|d
 .rw[z d,z (a:=v+1) (b:=m) U,z (a:=v+2) (b:=m+1) U];exact c
 .rw[z d,z (a:=v+1) (b:=m+1) U,z (a:=v+2) (b:=m-1) U,CG];exact c
 .rw[z d,z (a:=v+1) (b:=m-1) U,z (a:=v+2) (b:=m) U,<-CG];exact c
theorem Sm.HJ:∀(n:Nat){r:List Pt},r.length=n->Sm r->0<CH r:=by
 intro n
 induction n using Nat.strongRecOn with
 |ind n ih=>
  intro r hn S;have h3:=S.s.l3;by_cases z:r.length=3
  .have t:=YJ S z 0;rw[UZ r<|AA r 0,z];show 0<0+AD _ (AA r 0) (AA r 1)+AD _ (AA r 1) (AA r 2)+AD _ (AA r 2) (AA r 3);rw[CG (AA r 1) (AA r 0)<|AA r 0,(FQ _ _).2,Al (i:=3) (j:=0) (by rw[z];rfl),(FQ _ _).1,AGG,AGj,AGj];exact t
  .obtain⟨s,l,y,ln,L⟩:=S.diag U;have a:=ih (l+1) U (sub_len r s l)<|JM S y ln L;have b:=ih (r.length-l+1) U (sub_len r (s+l)<|r.length-l)<|JM S U U<|Sa S y ln L;have:CH r=CH (sub r s l)+CH (sub r (s+l)<|r.length-l):=Ya Us U U;lia
theorem A3.ZL{r:List Pt}(S:A3 r)(ar:0<CH r)(g:∀i j:Int,yy r i=yy r j->(i-j)%(r.length)=0){h j:Int}(Y:Ae r h j≠0):cc r h j=1:=by
 have h3:=S.l3;have Z:r.reverse.length=r.length:=AIa;have hc:=λi=>Qa (r:=r) (Bo h3) i;have y:∀k:Int,-1-(k+1) = -2-k:=λk=>U
 have v:∀k:Int,-2-k+1 = -1-k:=λk=>U
 have Q:=SN S g;rcases S.Nl Q Y with c|c
 .have g':∀i j:Int,yy r.reverse i=yy r.reverse j->(i-j)%(r.reverse.length)=0:=λi j e=>by unfold yy at e;rw[hc,hc]at e;have:=Eo<|g _ _ e;rw[show -1-j-(-1-i)=i-j by lia]at this;rw[Z];exact this
  have O:A3 r.reverse:=by
   refine⟨by rw[Z];exact h3,λk=>?_,λi j f z=>?_⟩
   .have:=S.fork (-2-(k+1));rw[v,y,v]at this;rw[hc,hc,hc,y,y];exact this.symm
   .rw[Z]at f;rw[hc,hc,hc,hc,y,y]at z;refine S.apart (-2-i) (-2-j) ?_ ?_
    .rw[show -2-i-(-2-j) = -(i-j)by lia];exact f.neg<|KA h3
    .rw[v,v];exact Mv (Mv z.symm).symm
  have C:∀{h j:Int},Ae r.reverse h j≠0->cc r.reverse h j=1:=λ{H i} hi=>by
   have p:=EX hi;unfold yy at p;rw[hc,hc,y]at p;have P:Ae r H (-2-i)≠0:=Dw (by rw[v];exact p.symm);have k:=S.QS Q P Y;rw[c]at k;have q:RQ r.reverse H (AA r (-2-i)) (AA r (-1-i)) = - RQ r H (AA r (-2-i)) (AA r (-1-i)):=Tf (lE H _ _)<|Bo h3;unfold cc at k ⊢;rw[show Rr r.reverse H i=RQ r.reverse H (AA r.reverse i) (AA r.reverse<|i+1)from rfl,hc,hc,y,UN,q];rw[show Rr r H (-2-i)=RQ r H (AA r (-2-i)) (AA r (-2-i+1))from rfl]at k;unfold yy at *
   rw[v]at k;rw[hc,hc,y];rcases p with z|z
   .rw[A2 U]at k;rw[BG U];lia
   .rw[BG U]at k;rw[A2 U];lia
  have a:=Sm.HJ _ rfl ⟨O,C,g'⟩;have b:CH r.reverse = - CH r:=Tf Us<|Bo h3;lia
 .exact c
set_option tactic.hygienic false
theorem Rm.sm{r:List Pt}(R:Rm r):∃k:Int,Sm<|r.map<|lean k:=by have S:=R.simple;have z:=Bo S.l3;obtain⟨k,_,g⟩:=Wn S (0,0);exact⟨k,S.lean k,(S.lean k).ZL (by rw[QN (d:=1) z λa b c=>by rw[Gx,AHX],AHX];exact R.HJ) g,g⟩
def pr(a b p:Pt):Bool:=((decide (a.2>p.2)) != (decide (b.2>p.2)))&&(if decide (b.2>p.2)=true then decide (AD a b p>0)else decide (AD a b p<0))
theorem AAX(a b p:Pt):(pr a b p=true/\(fw a b p=1\/fw a b p = -1))\/(pr a b p=false/\fw a b p=0):=by unfold pr fw;by_cases z:a.2>p.2<;>by_cases y:b.2>p.2<;>by_cases h3:AD a b p>0<;>by_cases q:AD a b p<0<;>simp[z,y,h3,q]<;>grind
theorem iy(r:List Pt)(p:Pt):∀n:Nat,(((List.range n).filter λk:Nat=>pr (AA r k) (AA r<|(k:Int)+1) p).length:Int)%2=Af (λj=>fw (AA r j) (AA r<|j+1) p) n%2
 |0=>rfl
 |n+1=>by
  have ih:=iy r p n;rw[AHS,AJH,AGA,Af];rcases AAX (AA r (n:Int)) (AA r<|(n:Int)+1) p with⟨a,b⟩|⟨a,b⟩
  .have:([n].filter λk:Nat=>pr (AA r k) (AA r<|(k:Int)+1) p).length=1:=by simp[a]
   rw[this];lia
  .have:([n].filter λk:Nat=>pr (AA r k) (AA r<|(k:Int)+1) p).length=0:=by simp[a]
   rw[this,b];lia
theorem A3.yO{r:List Pt}(S:A3 r){p:Pt}(hp:∀j:Int,¬ At (AA r j) (AA r<|j+1) p):(((List.range r.length).filter λk:Nat=>pr (AA r k) (AA r<|(k:Int)+1) p).length:Int)%2=1↔W r p≠0:=by
 rw[iy];have:=S.nQ p;unfold W at *
 constructor<;>lia
def LG(r:List Pt)(i j:Int):Bool:=(List.range r.length).any λk=>((!((k:Int)==i||(k:Int)==j))&&Aj (AA r i) (AA r j) (AA r k))||(((!((k:Int)==i||(k:Int)==j))&&(!(((k:Int)+1)%(r.length:Int)==i||((k:Int)+1)%(r.length:Int)==j)))&&BP (AA r i) (AA r j) (AA r k) (AA r<|((k:Int)+1)%(r.length:Int)))
theorem Md{n i k:Int}(hi:0<=i)(CN:i<n)(hk:0<=k)(BE:k<n):(i-k)%n=0↔k=i:=by
 constructor
 .intro h;have e:(i-k)=n*((i-k) / n):=by have:=AHV (i-k) n;lia
  have z:(i-k) / n=0:=by
   have a:(i-k) / n<1:=by apply Int.ediv_lt_of_lt_mul U;lia
   have b : -1<(i-k) / n:=by
    by_cases c : -1<(i-k) / n
    .exact c
    .exfalso;have y:((i-k) / n+1)<=0:=U
     have h3:((i-k) / n+1)*n<=0:=AIq y U;lia
   lia
  rw[z]at e;lia
 .rintro rfl;simp
theorem SI{n i k:Int}(hn:2<=n)(hi:0<=i)(z:i<n):(i-k)%n=1↔(k+1)%n=i:=by
 constructor
 .intro h;have:(i-(k+1))%n=0:=by rw[show i-(k+1)=(i-k)-1 by lia,AHI,h];simp
  have e:(k+1)%n=i%n:=by rw[show k+1=i-(i-(k+1))by lia,AHI,‹(i-(k+1))%n=0›];simp
  rw[e,AFt hi z]
 .intro h;have:(i-k)%n=((k+1)%n-k)%n:=by rw[h]
  rw[this,AHI,AGY _<|AHD n,<-AHI,show k+1-k=1 by lia,AFt C2 U]
section
variable{r:List Pt}(S:A3 r)
include S
theorem Ru(DF:∀k:Int,AD (AA r k) (AA r<|k+1) (AA r<|k+1+1)≠0){i j:Int}(hi:0<=i)(y:i<r.length)(q:0<=j)(v:j<r.length)(Q:Bt r.length<|i-j):LG r i j=false↔Probe r i j:=by
 have h3:=S.l3;have hn:(0:Int)<r.length:=Hm h3;unfold LG;rw[AHj];constructor
 .intro h;refine jZ S DF Q λk a b c d hs=>?_;have k0:=AGQ k (b:=(r.length))<|KD h3;have k1:=AGI k hn;have hc:=AGL k0;have Z:=h (k%(r.length)).toNat<|AF1.mpr U;rw[hc]at Z;apply Z;have O:∀x:Int,(x-k%(r.length))%(r.length)=(x-k)%(r.length):=λx=>by rw[AHI,AGY _<|AHD _,<-AHI]
  have P:=Fx r k;have D:AA r ((k%(r.length)+1)%(r.length))=AA r (k+1):=by rw[Fx,<-Fx r<|k%(r.length)+1,<-Fx r<|k+1,AHJ,AGY _<|AHD _,<-AHJ]
  rw[<-O]at a b c d;have F:=λz=>a<|(Md hi y k0 k1).mpr z;have R:=λz=>c<|(Md q v k0 k1).mpr z;have B:=λz=>b<|(SI U hi y).mpr z;have G:=λz=>d<|(SI U q v).mpr z;rw[AGv];right;rw[P,D,R9,W4 hs,AGK.mpr F,AGK.mpr B,AGK.mpr R,AGK.mpr G]
  rfl
 .intro p k Z;have Y:=AF1.mp Z;intro h;rw[AGv]at h;rcases h with h|h
  .simp only[AFw,AGd,AGf,AGK]at h;obtain⟨⟨a,b⟩,c⟩:=h;exact p.LZ S (λz=>a<|(Md hi y Br<|Dd Y).mp z) (λz=>b<|(Md q v Br<|Dd Y).mp z)<|SX.mp<|F8.mp c
  .simp only[AFw,AGd,AGf,AGK]at h;obtain⟨⟨⟨a,b⟩,c,d⟩,e⟩:=h;rw[R9,Fx]at e;exact p.nt k (λz=>a<|(Md hi y Br<|Dd Y).mp z) (λz=>c<|(SI U hi y).mp z) (λz=>b<|(Md q v Br<|Dd Y).mp z) (λz=>d<|(SI U q v).mp z)<|Xs e
theorem A3.dbl:A3<|r.map dbl:=S.map (λh s t hs v z y=>by unfold AH.dbl at z y;exact h s t hs v AFm AFm) λ⟨q,s,t,p,Z,Y,Q,O,z,y⟩=>by unfold AH.dbl at z y;exact⟨q,s,t,p,Z,Y,Q,O,AFm,AFm⟩
end
def Ff(w:List Pt)(p:Pt):Bool:=!((List.range w.length).any λk=>Aj (AA w k) (AA w<|(k:Int)+1) p)&&((((List.range w.length).filter λk:Nat=>pr (AA w k) (AA w<|(k:Int)+1) p).length:Int)%2==1)
def Nm(AFl A V B:Pt):Bool:=if AD AFl A V>0 then decide (AD A V B>0)&&decide (AD AFl A B>0)else decide (AD A V B>0)||decide (AD AFl A B>0)
theorem Uq{AFl A V B:Pt}:Nm AFl A V B=true↔Ew AFl A V B:=by
 unfold Nm Ew HB;by_cases h:AD AFl A V>0
 .simp[h]
 .simp[h]
theorem iZ{x y:Int}(hx : -200<=x/\x<=200)(hy : -200<=y/\y<=200) : -40000<=x*y/\x*y<=40000:=by have h1:(x*y).natAbs=x.natAbs*y.natAbs:=Int.natAbs_mul x y;have h2:x.natAbs*y.natAbs<=200*200:=Nat.mul_le_mul U U;lia
def Jn(r:List Pt)(i j:Int):Prop:=(i-j)%(r.length:Int)=1\/(j-i)%(r.length:Int)=1\/Line r i j
theorem Jn.congr{r:List Pt}{i j i' y:Int}(hi:(i-i')%(r.length:Int)=0)(z:(j-y)%(r.length:Int)=0)(h:Jn r i j):Jn r i' y:=by
 have e:∀{a b c d:Int},(a-b)%(r.length:Int)=0->(c-d)%(r.length:Int)=0->(b-d)%(r.length:Int)=(a-c)%(r.length:Int):=λ{a b c d} q v=>by
  have h3:(a-c-(b-d))%(r.length:Int)=0:=by rw[show a-c-(b-d)=(a-b)-(c-d)by lia,AHI,q,v];rfl
  exact(AHn.mpr h3).symm
 unfold Jn;rw[e hi z,e z hi];rcases h with h|h|h
 .exact .inl h
 .exact .inr<|.inl h
 .exact .inr<|.inr<|h.congr hi z
theorem Jn.symm{r:List Pt}(S:Sm r){i j:Int}(h:Jn r i j):Jn r j i:=by
 rcases h with h|h|h
 .exact .inr<|.inl h
 .exact .inl h
 .exact .inr<|.inr<|Line.symm S h
theorem Me{n d:Int}(h:d%n=1)(h1 : -n<d)(z:d<n):d=1\/d=1-n:=by
 by_cases c:0<=d
 .rw[AFt c z]at h;exact .inl h
 .have:=Cv (n:=n) (d:=-d) U U;rw[AIE]at this;right;lia
theorem iW{n:Int}(hn:1<n):(1:Int)%n=1:=AFt C2 hn
section
variable{r:List Pt}(S:Sm r){s:Int}{l:Nat}(l2:2<=l)(ln:l+2<=r.length)(L:Line r s (s+l))
include S l2 ln L
theorem Rg{a b:Int}(a0:0<=a)(y:a<=l)(q:0<=b)(b1:b<=l)(h:Jn (sub r s l) a b):Jn r (s+a)<|s+b:=by
 have z:=iW (n:=(r.length:Int)) U;rcases h with h|h|h
 .rw[Et]at h;rcases Me h U U with c|c
  .exact .inl (by rw[show s+a-(s+b)=1 by lia];exact z)
  .refine .inr<|.inr ?_;rw[show a=0 by lia,show b=l by lia,AGG];exact L
 .rw[Et]at h;rcases Me h U U with c|c
  .exact .inr (.inl (by rw[show s+b-(s+a)=1 by lia];exact z))
  .refine .inr<|.inr ?_;rw[show b=0 by lia,show a=l by lia,AGG];exact Line.symm S L
 .exact .inr<|.inr<|g5 S l2 ln L a0 y q b1 h
theorem nZ{e k:Int}(y:0<=e)(e1:e<l)(k1:(k-e)%((sub r s l).length:Int)≠0)(k2:(k-(e+1))%((sub r s l).length:Int)≠0)(p:Jn (sub r s l) e k)(Z:Jn (sub r s l) k<|e+1) : ∃k:Int,(k-(s+e))%(r.length:Int)≠0/\(k-(s+e+1))%(r.length:Int)≠0/\Jn r (s+e) k/\Jn r k (s+e+1):=by
 obtain⟨a,a0,q,ea⟩:=Hw r s l k;have z:∀x:Int,(x-x)%((sub r s l).length:Int)=0:=λx=>by rw[AGi];rfl
 have n1:a≠e:=λc=>k1 (by rw[<-c];exact ea);have n2:a≠e+1:=λc=>k2 (by rw[<-c];exact ea);have ne:∀{d:Int},d≠0->-(r.length:Int)<d->d<r.length->d%(r.length:Int)≠0:=λ{d} u v w c=>u<|SH c v w;refine⟨s+a,ne U U U,ne U U U,Rg S l2 ln L y U a0 q<|p.congr (z e) ea,?_⟩;rw[show s+e+1=s+(e+1)by lia];exact Rg S l2 ln L a0 q (ET y) U<|Z.congr ea<|z _
end
theorem Sm.IT:∀(n:Nat){r:List Pt},r.length=n->Sm r->∀m:Int,∃k:Int,(k-m)%(r.length:Int)≠0/\(k-(m+1))%(r.length:Int)≠0/\Jn r m k/\Jn r k (m+1):=by
 intro n
 induction n using Nat.strongRecOn with
 |ind n ih=>
  intro r hn S m;have h3:=S.s.l3;by_cases v:r.length=3
  .refine⟨m+2,?_,?_,.inl ?_,.inl ?_⟩
   .rw[show m+2-m=2 by lia,v];decide
   .rw[show m+2-(m+1)=1 by lia,v];decide
   .rw[show m-(m+2) = -2 by lia,v];decide
   .rw[show m+2-(m+1)=1 by lia,v];decide
  .obtain⟨s,l,y,ln,L⟩:=S.diag U;have q:∀(s:Int)(l:Nat),2<=l->l+2<=r.length->Line r s (s+l)->∀e:Int,0<=e->e<l->∃k:Int,(k-(s+e))%(r.length:Int)≠0/\(k-(s+e+1))%(r.length:Int)≠0/\Jn r (s+e) k/\Jn r k (s+e+1):=λs l y ln L e p O=>by obtain⟨k,k1,k2,Z,Y⟩:=ih (l+1) U (r:=sub r s l) (sub_len r s l) (JM S y ln L) e;exact nZ S y ln L p O k1 k2 Z Y
   obtain⟨e,p,O,Q⟩:=S.norm s m;have z:∀x:Int,(x-x)%(r.length:Int)=0:=λx=>by rw[AGi];rfl
   have fin:(∃k:Int,(k-(s+e))%(r.length:Int)≠0/\(k-(s+e+1))%(r.length:Int)≠0/\Jn r (s+e) k/\Jn r k (s+e+1)):=by
    by_cases c:e<l
    .exact q s l y ln L e p c
    .have:=q (s+l) (r.length-l) U AFm (Sa S y ln L) (e-l) U U;rw[show s+(l:Int)+(e-l)=s+e by lia]at this;exact this
   obtain⟨k,k1,k2,Z,Y⟩:=fin;have P:=Eo Q;refine⟨k,λc=>k1<|O5 c Q,λc=>k2<|O5 c<|CB Q,Z.congr P<|z k,Y.congr (z k)<|CB P⟩
theorem Sm.nY{r:List Pt}(S:Sm r){i j:Int}(i0:0<=i)(ij:i+2<=j)(jn:j<r.length)(h:Line r i j\/(i=0/\j=r.length-1)):∃k:Int,i<k/\k<j/\Jn r i k/\Jn r k j:=by
 have h3:=S.s.l3;rcases h with L|⟨rfl,rfl⟩
 .have hf:=Kr U L.1.Ba U U;have Y:i+(((j-i).toNat:Nat):Int)=j:=U
  have q:2<=(j-i).toNat:=U
  have ln:(j-i).toNat+2<=r.length:=U
  rw[<-Y]at L;obtain⟨k,k1,k2,v,p⟩:=Sm.IT _ rfl (JM S q ln L) ((j-i).toNat:Int);obtain⟨a,a0,Z,ea⟩:=Hw r i (j-i).toNat k;have z:∀x:Int,(x-x)%((sub r i (j-i).toNat).length:Int)=0:=λx=>by rw[AGi];rfl
  have y:(((j-i).toNat:Int)+1-0)%((sub r i (j-i).toNat).length:Int)=0:=by rw[(Et r i (j-i).toNat),AIk,AGk]
  have D:a≠((j-i).toNat:Int):=λc=>k1 (by rw[<-c];exact ea);have Q:a≠0:=λc=>k2 (by subst c;exact O5 ea<|Eo y);have O:=Rg S q ln L U Dc a0 Z<|v.congr (z _) ea;have P:=Rg S q ln L a0 Z Bb U<|p.congr ea y;rw[Y]at O;rw[AGG]at P;exact⟨i+a,U,U,P.symm S,O.symm S⟩
 .obtain⟨k,k1,k2,v,p⟩:=Sm.IT _ rfl S<|(r.length:Int)-1;obtain⟨a,a0,Z,ea⟩:=S.norm 0 k;rw[AGj]at ea;have z:∀x:Int,(x-x)%(r.length:Int)=0:=λx=>by rw[AGi];rfl
  have y:((r.length:Int)-1+1-0)%(r.length:Int)=0:=by rw[show(r.length:Int)-1+1-0=r.length by lia,AGk]
  have D:a≠(r.length:Int)-1:=λc=>k1 (by rw[<-c];exact ea);have Q:a≠0:=λc=>k2 (by subst c;exact O5 ea<|Eo y);exact⟨a,Hn a0 Q,U,(p.congr ea y).symm S,(v.congr (z _) ea).symm S⟩
theorem LH{r:List Pt}(z:0<r.length)(k i j:Int):Line (r.map<|lean k) i j↔Line r i j:=by
 have hc:∀m,AA (r.map<|lean k) m=lean k (AA r m):=λm=>Fy z k m;constructor<;>rintro⟨⟨y,q,p3,v,p,Z⟩,c⟩
 .simp only[AFs,hc,Q3,Sy,Td]at *
  exact⟨⟨y,q,p3,v,p,Z⟩,c⟩
 .refine⟨⟨?_,?_,?_,?_,?_,?_⟩,?_⟩<;>simp only[AFs,hc,Q3,Sy,Td]<;>assumption
theorem Rm.IT{r:List Pt}(R:Rm r){i j:Int}(z:0<=i)(p:i+2<=j)(jn:j<r.length)(h:Line r i j\/(i=0/\j=r.length-1)):∃k:Int,i<k/\k<j/\(k=i+1\/Line r i k)/\(j=k+1\/Line r k j):=by
 have h3:=R.l3;obtain⟨K,S⟩:=R.sm;have y:((r.map<|lean K).length:Int)=r.length:=by rw[AFs]
 obtain⟨k,k1,k2,q,v⟩:=S.nY z p (by rw[y];exact jn) (by rw[y,LH<|Bo h3];exact h);unfold Jn at q v;rw[y,LH U]at q v;refine⟨k,k1,k2,?_,?_⟩
 .rcases q with c|c|c
  .have:=Me c U (by clear z h3 c;lia);right;lia
  .have:=Me c (by clear z h3 c;lia) U;clear z p h3 c;left;lia
  .exact .inr c
 .rcases v with c|c|c
  .have:=Me c U (by clear z h3 c;lia);right;lia
  .have:=Me c (by clear z h3 c;lia) U;clear z h3 c;left;lia
  .exact .inr c
section
variable{r:List Pt}(S:Sm r){s:Int}{l:Nat}(l2:2<=l)(ln:l+2<=r.length)(L:Line r s (s+l))
include S l2 ln L
theorem xE{a b:Int}(B:b=0\/b=l)(hd:(2<=a-b/\a<l)\/(2<=b-a/\0<a))(p:Line r (s+a)<|s+b):Line (sub r s l) a b:=by
 have P:=Et r s l;have a0:0<a:=by clear l2;lia
 have Z:a<l:=U
 have b0:0<=b:=by clear hd;clear P;lia
 have b1:b<=l:=by clear hd;clear P;lia
 have fr:Bt ((l:Int)+1)<|a-b:=L4 AFm;clear hd;have v:∀{x y:Int},x≠y->0<=x->x<=l->0<=y->y<=l->(s+x-(s+y))%(r.length)≠0:=λh a b c d z=>h (by clear B a0 Z;have:=SH z U U;clear z;lia);have Q:=Aw r s l (JC a0)<|JE Z;have I:AA (sub r s l) (a+1)=AA r (s+a+1):=by rw[Aw r s l U U,FH]
 have t:AA (sub r s l) (a-1)=AA r (s+a-1):=by rw[Aw r s l U U,MV]
 have q:=Line.symm S p;have G:CD (AA (sub r s l) b) (AA (sub r s l)<|b+1) (AA r<|s+a)/\CD (AA (sub r s l) b) (AA (sub r s l)<|b-1) (AA r<|s+a):=by
  rcases B with rfl|rfl
  .have e:AA (sub r s l) (0-1)=AA r (s+l):=by rw[Al (j:=l) (by rw[P,show(0:Int)-1-l=((l)+1)*(-1)by lia,AGR]),Aw r s l Br Dc]
   rw[e,Aw r s l Bb Br,Aw r s l U U,FH];refine⟨q.1.f1,Jp (S.ne<|v U Br Dc Bb Br) (S.ne<|v U (JC a0) (JE Z) Bb Br) (q.1.LZ S.s (v U Bb Br Br Dc)<|v U (JC a0) (JE Z) Br Dc) ?_⟩;rw[AGG];have h:=v (x:=0) (y:=a) U Bb Br (JC a0)<|JE Z;rw[AGG]at h;exact L.1.LZ S.s h<|v U Br Dc (JC a0)<|JE Z
  .rw[GB,Aw r s l Br Dc,Aw r s l U U,MV];have h:=v (x:=0) (y:=a) U Bb Br (JC a0)<|JE Z;have h':=v (x:=0) (y:=l) U Bb Br Br Dc;have f:=v (x:=l) (y:=0) U Br Dc Bb Br;have h3:=v (x:=a) (y:=0) U (JC a0) (JE Z) Bb Br;rw[AGG]at h h' f h3;exact⟨Jp (S.ne h') (S.ne<|v U (JC a0) (JE Z) Br Dc) (q.1.LZ S.s f h3) λz=>L.1.LZ S.s h (v U Br Dc (JC a0)<|JE Z)<|JW z,q.1.f2⟩
 have Y:=Aw r s l b0 b1;rw[Y]at G;refine⟨⟨by rw[P];exact fr,?_,?_,?_,?_,λk D F R O h=>?_⟩,?_⟩
 .rw[Q,I,Y];exact p.1.f1
 .rw[Q,t,Y];exact p.1.f2
 .rw[Q,Y];exact G.1
 .rw[Q,Y];exact G.2
 .obtain⟨m,m0,m1,T⟩:=Hw r s l k;have ek:∀z:Int,(z-k)%((sub r s l).length)=(z-m)%((sub r s l).length):=λz=>by rw[show z-m=(z-k)+(k-m)from Oy,AHJ,T,AGG,AGY _<|AHD _]
  rw[ek]at D F R O;clear q G;have C:=iW (n:=(sub r s l).length) (by rw[P];lia);have n1:m≠a:=λc=>D (by rw[c,AGi];rfl);have n2:m≠a-1:=λc=>F (by rw[c,R0];exact C);have n3:m≠b:=λc=>R (by rw[c,AGi];rfl);have n4:m≠b-1:=λc=>O (by rw[c,R0];exact C);have n5:m<l:=by
   by_cases c:b=0
   .have:m≠l:=λd=>O (by rw[c,d,show(0:Int)-l=1+((sub r s l).length)*(-1)by lia,AG9];exact C);clear B D F R O;lia
   .clear D F R O;clear n4;lia
  clear B D F R O;rw[Al T,Al<|CB T,Q,Y,Aw r s l m0 m1,Aw r s l (ET m0) (by clear m1;lia),FH]at h;have md:∀{d:Int},d≠0->d≠1->-(l)<d->d<=l->d%(r.length)≠0/\d%(r.length)≠1:=λ{d} k1 k2 k3 k4=>by
   by_cases c:0<=d
   .rw[AFt c U];exact⟨k1,k2⟩
   .have:=Cv (n:=(r.length)) (d:=-d) U U;rw[AIE]at this;rw[this];constructor<;>lia
  have E:=md (d:=a-m) (Ov n1) U U U;have H:=md (d:=b-m) (Ov n3) U U U;rw[show a-m=s+a-(s+m)by lia]at E;rw[show b-m=s+b-(s+m)by lia]at H;exact p.1.nt (s+m) E.1 E.2 H.1 H.2 h
 .rw[Q,I,t,Y];exact p.2
end
theorem pn{s x:Int}(h:x<=0):(0<=s->s*x<=0)/\(s<=0->0<=s*x)/\(0<s->x<0->s*x<0):=⟨λa=>AGm a h,λa=>AHs a h,λa b=>AHg a b⟩
theorem pp{s x:Int}(h:0<x):(0<s->0<s*x)/\(s<0->s*x<0)/\(s=0->s*x=0):=⟨λa=>AF8 a h,λa=>AJM a h,λa=>by rw[a,AGl]⟩
noncomputable def f3(x y s:Int):Int:=(if x<=0/\0<y/\s>0 then 1 else 0)-(if y<=0/\0<x/\s<0 then 1 else 0)
theorem Vf(a b p:Pt):fw a b p=f3 (a.2-p.2) (b.2-p.2) (AD a b p):=by
 unfold fw f3
 congr 1<;>congr 1<;>exact propext ⟨λh=>by and_intros<;>lia,λh=>by and_intros<;>lia⟩
theorem Jk{x y s:Int}(h:(x<=0/\y<=0)\/(0<x/\0<y)):f3 x y s=0:=by unfold f3;rw[AF0 U,AF0 U];rfl
theorem dQ{x y s:Int}(h:x<=0/\0<y):(0<s/\f3 x y s=1)\/(s<=0/\f3 x y s=0):=by
 unfold f3;rw[AF0 (c:=y<=0/\0<x/\s<0) AFo];by_cases c:0<s
 .rw[AFu (by and_intros<;>lia)];exact .inl ⟨c,rfl⟩
 .rw[AF0 AFo];exact .inr ⟨xN c,rfl⟩
theorem dP{x y s:Int}(h:y<=0/\0<x):(s<0/\f3 x y s = -1)\/(0<=s/\f3 x y s=0):=by
 unfold f3;rw[AF0 U];by_cases c:s<0
 .rw[AFu U];exact .inl ⟨c,rfl⟩
 .rw[AF0 U];exact .inr ⟨Ow c,rfl⟩
def Cn(w s1 s2 z:Int):Prop:=0<=w/\(0<s1->0<s2->0<z->w=1)/\(0<w->0<=s1/\0<=s2/\0<=z)
theorem Ul{x y z s1 s2 q:Int}(hs:0<s1+s2+q)(e:s2*x+q*y+s1*z=0)(v:x<=0)(p:0<y)(hz:z<=0):Cn (f3 x y s1+f3 y z s2+f3 z x q) s1 s2 q:=by
 rw[Jk <|.inl ⟨hz,v⟩];have a:=pn (s:=s2) v;have b:=pp (s:=q) p;have c:=pn (s:=s1) hz;generalize s2*x=P at *
 generalize q*y=Q at *
 generalize s1*z=R at *
 unfold Cn;rcases dQ ⟨v,p⟩with⟨Z,f1⟩|⟨Z,f1⟩<;>rcases dP ⟨hz,p⟩with⟨Y,f2⟩|⟨Y,f2⟩<;>rw[f1,f2]<;>lia
theorem Um{x y z s1 s2 q:Int}(hs:0<s1+s2+q)(e:s2*x+q*y+s1*z=0)(v:x<=0)(p:0<y)(hz:0<z):Cn (f3 x y s1+f3 y z s2+f3 z x q) s1 s2 q:=by
 rw[Jk <|.inr ⟨p,hz⟩];have a:=pn (s:=s2) v;have b:=pp (s:=q) p;have c:=pp (s:=s1) hz;generalize s2*x=P at *
 generalize q*y=Q at *
 generalize s1*z=R at *
 unfold Cn;rcases dQ ⟨v,p⟩with⟨Z,f1⟩|⟨Z,f1⟩<;>rcases dP ⟨v,hz⟩with⟨Y,f2⟩|⟨Y,f2⟩<;>rw[f1,f2]<;>lia
theorem Cn.De{w z s1 s2 y:Int}(h:Cn w s2 y s1)(e:z=w):Cn z s1 s2 y:=by
 unfold Cn at *
 exact⟨by cases h;lia,λa b c=>e.trans<|h.2.1 b c a,λa=>have:=h.2.2 AFo;⟨this.2.2,this.1,this.2.1⟩⟩
theorem pD{x y z s1 s2 q:Int}(hs:0<s1+s2+q)(e:s2*x+q*y+s1*z=0)(Ax:¬ (x=0/\y=0/\z=0)):Cn (f3 x y s1+f3 y z s2+f3 z x q) s1 s2 q:=by
 by_cases v:x<=0<;>by_cases p:y<=0<;>by_cases hz:z<=0
 .rw[Jk<|.inl ⟨v,p⟩,Jk<|.inl ⟨p,hz⟩,Jk<|.inl ⟨hz,v⟩];have a:=pn (s:=s2) v;have b:=pn (s:=q) p;have c:=pn (s:=s1) hz;generalize s2*x=P at *
  generalize q*y=Q at *
  generalize s1*z=R at *
  unfold Cn;lia
 .exact((Ul (y:=z) U U p U v).De U)
 .exact Ul hs e v U hz
 .exact Um hs e v U U
 .exact(Cn.De (Cn.De (Ul (y:=x) U U hz U p) rfl) U)
 .exact((Um (y:=z) (z:=x) U U p U U).De U)
 .exact(Cn.De (Cn.De (Um (y:=x) (z:=y) U U hz U U) rfl) U)
 .rw[Jk<|.inr ⟨U,U⟩,Jk<|.inr ⟨U,U⟩,Jk<|.inr ⟨U,U⟩];have a:=pp (s:=s2)<|AHY.mp v;have b:=pp (s:=q)<|AHY.mp p;have c:=pp (s:=s1)<|AHY.mp hz;generalize s2*x=P at *
  generalize q*y=Q at *
  generalize s1*z=R at *
  unfold Cn;lia
def w3(a b c p:Pt):Int:=fw a b p+fw b c p+fw c a p
theorem AEa{a b c:Pt}(h:0<AD a b c)(p:Pt):Cn (w3 a b c p) (AD a b p) (AD b c p)<|AD c a p:=by
 obtain⟨y,_,e3⟩:=Ng a b c p;unfold w3;rw[Vf,Vf,Vf];refine pD U ?_ λz=>?_
 .have:AD b c p*(a.2-p.2)+AD c a p*(b.2-p.2)+AD a b p*(c.2-p.2)=(AD b c p*a.2+AD c a p*b.2+AD a b p*c.2)-(AD a b p+AD b c p+AD c a p)*p.2:=AFm
  rw[this,y,<-e3,AGi]
 .have:AD a b c=0:=by unfold AD;grind
  lia
set_option tactic.hygienic true
theorem Sm.cv{Q:List Pt}(S:Sm Q){v:Int}(h:Q.length=3\/Line Q (v-1) (v+1)):0<AD (AA Q<|v-1) (AA Q v) (AA Q<|v+1):=by
 have h3:=S.s.l3;rcases h with h|L
 .have:=YJ S h<|v-1;rw[show v-1+1=v from DZ,show v-1+2=v+1 by lia]at this;exact this
 .have n4:Q.length≠3:=λc=>by have:=L.1.Ba.2.1;rw[show v-1-(v+1) = -2 by clear L c;lia,c]at this;exact this rfl
  have e:v-1+((2:Nat):Int)=v+1:=U
  have t:=YJ (JM S (s:=v-1) (l:=2) (AF5 _) U (by rw[e];exact L)) (sub_len ..) 0;rw[Aw Q _ _ Bb U,Aw Q _ _ U U,Aw Q _ _ U U,AGG,show v-1+(0+1)=v by lia,show v-1+(0+2)=v+1 by lia]at t;exact t
theorem xR{A B c d:Pt}(h:Lt (A.1+B.1,A.2+B.2) (A.1+B.1,A.2+B.2) (dbl c)<|dbl d):Lt A B c d:=by obtain⟨q,s,t,h1,h2,h3,h4,h5,e,l⟩:=h;unfold dbl at e l;dsimp only at e l;exact⟨2*q,q,2*t,U,U,U,U,U,AFm,AFm⟩
theorem xS{A B c d:Pt}(h:Lt (dbl c) (dbl d) (A.1+B.1,A.2+B.2) (A.1+B.1,A.2+B.2)):Lt c d A B:=by obtain⟨q,s,t,h1,h2,h3,h4,h5,e,l⟩:=h;unfold dbl at e l;dsimp only at e l;exact⟨2*q,2*s,q,U,U,U,U,U,AFm,AFm⟩
section
variable{r:List Pt}(S:A3 r){i j:Int}(p:Probe r i j)
include S p
theorem Probe.mid:W (r.map dbl) ((AA r i).1+(AA r j).1,(AA r i).2+(AA r j).2)=RQ r ((yy r i+yy r j) / 2) (AA r i) (AA r j):=by
 have h3:=S.l3;have hc:∀k:Int,AA (r.map dbl) k=dbl (AA r k):=λk=>GO (Bo h3) k
 delta W RQ
 simp only[AFs];refine Cj λk _=>?_;rw[Ve,hc,hc];have hs:Ae (r.map dbl) ((AA r i).2+(AA r j).2) k=Ae r ((yy r i+yy r j) / 2) k:=by
  delta Ae yy
  rw[hc,hc];unfold dbl;dsimp only;generalize (AA r i).2+(AA r j).2=m;generalize (AA r k).2=a;generalize (AA r<|k+1).2=b
  (repeat' split)<;>lia
 rw[hs,AH2];by_cases hz:Ae r ((yy r i+yy r j) / 2) k=0
 .rw[hz];lia
 .congr 1
  have rs:=EX hz;by_cases z:Lt (AA r i) (AA r j) (AA r k)<|AA r<|k+1
  .rw[BG z];refine BG ?_;obtain⟨q,s,y,v,s1,Z,_,_⟩:=PK (a:=dbl<|AA r k) (b:=dbl<|AA r<|k+1) (h:=(AA r i).2+(AA r j).2) (by unfold dbl;dsimp only;unfold yy at rs;lia) (by unfold dbl;unfold yy at rs;rcases rs with rs|rs<;>lia);rcases AHc (q*((AA r i).1+(AA r j).1)) (q*(dbl<|AA r k).1+s*((dbl<|AA r<|k+1).1-(dbl<|AA r k).1))with u|u|u
   .exact⟨q,0,s,y,Bb,U,v,s1,by rw[Z];lia,AFm⟩
   .exact absurd ⟨q,s,y,v,s1,AFm,AFm⟩ (p.iS S k)
   .exact absurd (xS ⟨q,s,0,y,v,s1,Bb,U,U,AFm⟩) (p.nc S k z)
  .rw[A2 z];exact A2 λc=>z<|xR c
end
theorem Probe.lean{r:List Pt}{i j:Int}(p:Probe r i j)(z:0<r.length)(k:Int):Probe (r.map<|lean k) i j:=by have hc:∀m,AA (r.map<|AH.lean k) m=AH.lean k (AA r m):=λm=>Fy z k m;obtain⟨p1,p2,p3,p4,p5,p6⟩:=p;refine⟨?_,?_,?_,?_,?_,?_⟩<;>simp only[AFs,hc,Q3,Sy]<;>assumption
theorem Rm.ADM{r:List Pt}(R:Rm r){k:Int}(g:∀i j:Int,yy (r.map<|AH.lean k) i=yy (r.map<|AH.lean k) j->(i-j)%((r.map<|AH.lean k).length)=0):Sm<|r.map<|AH.lean k:=
 ⟨R.simple.lean k,(R.simple.lean k).ZL (by rw[QN (d:=1) (Bo R.l3) λa b c=>by rw[Gx,AHX],AHX];exact R.HJ) g,g⟩
theorem Probe.pW{r:List Pt}(R:Rm r){i j:Int}(p:Probe r i j) : (W (r.map dbl) ((AA r i).1+(AA r j).1,(AA r i).2+(AA r j).2)=1/\Ew (AA r<|i-1) (AA r i) (AA r<|i+1) (AA r j))\/(W (r.map dbl) ((AA r i).1+(AA r j).1,(AA r i).2+(AA r j).2)=0/\¬ Ew (AA r<|i-1) (AA r i) (AA r<|i+1) (AA r j)):=by
 have S:=R.simple;have z:=Bo S.l3;obtain⟨k,v,g⟩:=Wn S.dbl ((AA r i).1+(AA r j).1,(AA r i).2+(AA r j).2);have hc:∀m,AA (r.map<|AH.lean k) m=AH.lean k (AA r m):=λm=>Fy z k m;have hd:(r.map dbl).map (AH.lean k)=(r.map<|AH.lean k).map dbl:=by rw[AGU,AGU];exact AHk λx _=>by unfold AH.lean dbl;exact AGy rfl (by dsimp only[Function.comp];grind)
 have y:=R.ADM (k:=k) λa b e=>by
  have:=g a b (by unfold yy at e ⊢;have hm:=λm=>GO (T:=dbl) (r:=r.map<|AH.lean k) (by rw[AFs];exact z) m;rw[hd,hm,hm];show 2*_=2*_;rw[e])
  rw[AFs,AFs]at this;rw[AFs];exact this
 have q:=p.lean z k;rw[<-Yy (by rw[AFs];exact z) v,hd,show AH.lean k ((AA r i).1+(AA r j).1,(AA r i).2+(AA r j).2)=((AA (r.map<|AH.lean k) i).1+(AA (r.map<|AH.lean k) j).1,(AA (r.map<|AH.lean k) i).2+(AA (r.map<|AH.lean k) j).2)by rw[hc,hc];unfold AH.lean;exact AGy rfl (by dsimp only;grind),q.mid y.s];have gy:=y.gn q.Ba.1;have:=y.rq q (H:=(yy (r.map<|AH.lean k) i+yy (r.map<|AH.lean k) j) / 2) U;rw[hc,hc,hc,hc,Td]at this;rw[hc,hc];exact this
def HR(r:List Pt)(A B:Pt)(k:Int):Bool:=(!(decide (A=AA r k)||decide (A=AA r (k+1))))&&(!(decide (B=AA r k)||decide (B=AA r (k+1))))
def JH(r:List Pt)(A B:Pt):Bool:=(List.range r.length).any λk=>HR r A B k&&A8 A B (AA r k) (AA r<|(k:Int)+1)
section
variable{r:List Pt}(S:A3 r)
include S
theorem dW{i j k:Int}:HR r (AA r i) (AA r j) k=true↔((i-k)%(r.length)≠0/\(i-k)%(r.length)≠1)/\((j-k)%(r.length)≠0/\(j-k)%(r.length)≠1):=by
 have h3:=S.l3;have one:∀i:Int,(AA r i=AA r k\/AA r i=AA r (k+1))↔((i-k)%(r.length)=0\/(i-k)%(r.length)=1):=λi=>by
  constructor
  .rintro(h|h)
   .exact .inl<|S.inj h
   .right;have:=S.inj h;rw[show i-k=(i-(k+1))+1 by lia,AHJ,this,AFt (a:=1) C2<|DC h3,AGj,AFt C2<|DC h3]
  .rintro(h|h)
   .exact .inl<|Al h
   .exact .inr (S.next h).1
 have y:=one i;have q:=one j;unfold HR;simp only[AFw,AGd,AGf,AH8];constructor
 .rintro⟨⟨a,b⟩,c,d⟩;exact⟨⟨λz=>(y.mpr<|.inl z).elim a b,λz=>(y.mpr<|.inr z).elim a b⟩,λz=>(q.mpr<|.inl z).elim c d,λz=>(q.mpr<|.inr z).elim c d⟩
 .rintro⟨⟨a,b⟩,c,d⟩;exact⟨⟨λz=>(y.mp<|.inl z).elim a b,λz=>(y.mp<|.inr z).elim a b⟩,λz=>(q.mp<|.inl z).elim c d,λz=>(q.mp<|.inr z).elim c d⟩
theorem jc(DF:∀k:Int,AD (AA r k) (AA r<|k+1) (AA r<|k+1+1)≠0){i j:Int}(v:Bt r.length<|i-j):JH r (AA r i) (AA r j)=false↔Probe r i j:=by
 have h3:=S.l3;have hn:(0:Int)<r.length:=Hm h3;unfold JH;rw[AHj];constructor
 .intro h;refine jZ S DF v λk a b c d hs=>?_;have k1:=AGI k hn;have hc:=AGL<|AGQ k (b:=(r.length))<|KD h3;have z:=h (k%(r.length)).toNat<|AF1.mpr U;rw[hc]at z;apply z;have y:=Fx r k;have q:AA r (k%(r.length)+1)=AA r (k+1):=by rw[<-Fx r<|k%(r.length)+1,<-Fx r<|k+1,AHJ,AGY _<|AHD _,<-AHJ]
  rw[AFw,y,q];refine⟨?_,W4 hs⟩;have:=(dW S).mpr ⟨⟨a,b⟩,c,d⟩;unfold HR at this ⊢;rw[y,q];exact this
 .intro p k z;rw[AFw];rintro⟨Z,Y⟩;obtain⟨⟨a,b⟩,c,d⟩:=(dW S).mp Z;exact p.nt k a b c d<|Xs Y
end
theorem xF{r:List Pt}(R:Rm r){i j:Int}(hi:0<=i)(y:i<r.length)(q:0<=j)(v:j<r.length)(z:Bt r.length<|i-j) : (!JH r (AA r i) (AA r j)&&Ff (r.map dbl) ((AA r i).1+(AA r j).1,(AA r i).2+(AA r j).2))=(!LG r i j&&Nm (AA r<|i-1) (AA r i) (AA r<|i+1) (AA r j)):=by
 have S:=R.simple;have h3:=S.l3;have hn:0<r.length:=Bo h3;by_cases p:Probe r i j
 .rw[(jc S R.DF z).mpr p,(Ru S R.DF hi y q v z).mpr p,AJm,AHG,AHG];have off:∀k:Int,¬ At (AA (r.map dbl) k) (AA (r.map dbl)<|k+1) ((AA r i).1+(AA r j).1,(AA r i).2+(AA r j).2):=λk=>by rw[GO hn,GO hn];exact p.iS S k
  have e:Ff (r.map dbl) ((AA r i).1+(AA r j).1,(AA r i).2+(AA r j).2)=true↔W (r.map dbl) ((AA r i).1+(AA r j).1,(AA r i).2+(AA r j).2)≠0:=by
   unfold Ff;rw[AFw,AHC,(S.dbl.yO off)];constructor
   .exact λh=>h.2
   .refine λh=>⟨?_,h⟩;rw[AGd,AHj];intro k _ Z;exact off k<|SX.mp<|F8.mp Z
  rw[AHM,e,Uq];rcases p.pW R with⟨a,b⟩|⟨a,b⟩
  .rw[a];simp[b]
  .rw[a];simp[b]
 .have a:JH r (AA r i) (AA r j)=true:=by
   cases h:JH r (AA r i)<|AA r j
   .exact absurd ((jc S R.DF z).mp h) p
   .rfl
  have b:LG r i j=true:=by
   cases h:LG r i j
   .exact absurd ((Ru S R.DF hi y q v z).mp h) p
   .rfl
  rw[a,b];rfl
section
variable{r:List Pt}(S:Sm r)(s:Int)
include S
theorem kA(k:Int):AA (sub r s<|r.length-1) k=AA r (s+k):=by have h3:=S.s.l3;obtain⟨m,y,q,z⟩:=Hw r s (r.length-1) k;rw[Al z,Aw r s _ y q];refine Al ?_;rw[sub_len,show r.length-1+1=r.length by lia]at z;rw[show s+m-(s+k)=m-k by lia];exact Eo z
theorem kB:(sub r s<|r.length-1).length=r.length:=by have h3:=S.s.l3;rw[sub_len];lia
theorem Sm.De:Sm<|sub r s<|r.length-1:=by
 have h3:=S.s.l3;have hc:=kA S s;have q:=kB S s;have y:∀k:Int,s+(k+1)=s+k+1:=λk=>FH;have hs:∀h k:Int,Ae (sub r s<|r.length-1) h k=Ae r h (s+k):=λh k=>by unfold Ae yy;rw[hc,hc,y]
 refine⟨⟨U,λk=>?_,λi j f=>?_⟩,λ{h j} e=>?_,λi j e=>?_⟩
 .simp only[hc,y];exact S.s.fork<|s+k
 .rw[q]at f;rw[hc,hc,hc,hc,y,y];exact S.s.apart (s+i) (s+j) (by rw[show s+i-(s+j)=i-j by lia];exact f)
 .rw[hs]at e;rw[<-S.c e];unfold cc Rr;rw[q,<-S6 (f:=λk=>ind (L r (s+j) k)*Ae r h k) (Bo h3) (λa b z=>by rw[PZ z,NV (i':=s+j) (by rw[AGi];rfl) z]) s];unfold L yy;simp only[hc,hs,y]
 .unfold yy at e;rw[hc,hc]at e;have:=S.g _ _ e;rw[show s+i-(s+j)=i-j by lia]at this;rw[q];exact this
theorem Line.De{i j:Int}:Line (sub r s<|r.length-1) i j↔Line r (s+i) (s+j):=by
 have hc:=kA S s;have Q:=kB S s;have z:∀k:Int,s+(k+1)=s+k+1:=λk=>FH;have q:∀k:Int,s+(k-1)=s+k-1:=λk=>MV;have d:∀x y:Int,s+x-(s+y)=x-y:=λx y=>U
 constructor<;>rintro⟨⟨O,P,p3,D,F,R⟩,c⟩
 .simp only[Q,hc,z,q]at *
  refine⟨⟨by rw[d];exact O,P,p3,D,F,λk v p Z Y=>?_⟩,c⟩;have:=R (k-s) (by rw[show i-(k-s)=s+i-k by lia];exact v) (by rw[show i-(k-s)=s+i-k by lia];exact p) (by rw[show j-(k-s)=s+j-k by lia];exact Z) (by rw[show j-(k-s)=s+j-k by lia];exact Y);rw[show s+(k-s)=k by lia]at this;exact this
 .refine⟨⟨by rw[Q,<-d];exact O,?_,?_,?_,?_,λk v p Z Y=>?_⟩,?_⟩
  .rw[hc,hc,hc,z];exact P
  .rw[hc,hc,hc,q];exact p3
  .rw[hc,hc,hc,z];exact D
  .rw[hc,hc,hc,q];exact F
  .rw[Q,<-d]at v p Z Y;rw[hc,hc,hc,hc,z];exact R _ v p Z Y
  .rw[hc,hc,hc,hc,z,q];exact c
end
theorem Sm.half{r:List Pt}(S:Sm r){v:Int}{b:Nat}(b1:1<=b)(z:b+2<=r.length)(h:b=1\/Line r v (v+b)) : Sm (sub r (v+b)<|r.length-b)/\(∀{x y:Int},0<=x->x<=(r.length-b:Nat)->0<=y->y<=(r.length-b:Nat)->Line (sub r (v+b)<|r.length-b) x y->Line r (v+b+x) (v+b+y))/\∀{x y:Int},(y=0\/y=(r.length-b:Nat))->(2<=x-y/\x<(r.length-b:Nat))\/(2<=y-x/\0<x)->Line r (v+b+x) (v+b+y)->Line (sub r (v+b)<|r.length-b) x y:=by
 rcases h with rfl|h
 .exact⟨S.De _,λ_ _ _ _ L=>(Line.De S _).mp L,λ_ _ L=>(Line.De S _).mpr L⟩
 .have f:=Kr U h.1.Ba U U;have b2:2<=b:=U
  have o:=Sa S b2 z h;exact⟨JM S U U o,λq p y0 Z L=>g5 S U U o q p y0 Z L,λY hd L=>xE S U U o Y hd L⟩
theorem Sm.TV{r:List Pt}(S:Sm r){v:Int}{a b:Nat}(B:1<=a)(b1:1<=b)(ab:a+b+2<=r.length)(G:a=1\/Line r (v-a) v)(T:b=1\/Line r v (v+b)) : ∃p:List Pt,Sm p/\p.length+a+b=r.length+2/\AA p 0=AA r v/\AA p (0-1)=AA r (v-a)/\AA p (0+1)=AA r (v+b)/\(∀{k:Int},1<=k->k<p.length->AA p k=AA r (v+b+(k-1)))/\(Line p (0-1) (0+1)->Line r (v-a) (v+b))/\(Line r (v-a) (v+b)->Line p (0-1) (0+1))/\∀{k:Int},2<=k->k+2<=p.length->Line r (v+b+(k-1)) v->Line p k 0:=by
 obtain⟨m,hm⟩:∃m,r.length=a+b+2+m:=⟨r.length-(a+b+2),U⟩;obtain⟨Y,D,dn⟩:=S.half b1 U T;have C:r.length-b=a+2+m:=U
 rw[C]at Y D dn;have lq:(sub r (v+b)<|a+2+m).length=a+3+m:=by rw[sub_len];lia
 have F:∀{k:Int},0<=k->k<=(a+2+m:Nat)->AA (sub r (v+b)<|a+2+m) k=AA r (v+b+k):=λx y=>Aw r _ _ x y;generalize hq:sub r (v+b) (a+2+m)=q at *
 have E:a=1\/Line q ((2+m:Nat)) ((2+m:Nat)+a):=G.imp_right λL=>by
  have:=Kr U L.1.Ba U U;refine dn (.inr U) (.inr ⟨U,U⟩) ?_;refine L.congr ?_ ?_
  .rw[show v-a-(v+b+((2+m:Nat)))=r.length*(-1)by lia,AGR]
  .rw[show v-(v+b+(((2+m:Nat))+a))=r.length*(-1)by lia,AGR]
 obtain⟨Sp,R,Q⟩:=Y.half B U E;have H:q.length-a=3+m:=U
 rw[H]at Sp R Q;have lp:(sub q ((2+m:Nat)+a)<|3+m).length=4+m:=by rw[sub_len];lia
 have z:∀{k:Int},0<=k->k<=(3+m:Nat)->AA (sub q ((2+m:Nat)+a)<|3+m) k=AA q ((2+m:Nat)+a+k):=λx y=>Aw q _ _ x y;generalize hp:sub q ((2+m:Nat)+a) (3+m)=p at *
 have I:AA p 0=AA r v:=by rw[z Bb U,AGG,F U U];exact Al (by rw[show v+b+(((2+m:Nat))+a)-v=r.length by lia];exact AGk)
 have O:∀{k:Int},1<=k->k<=3+m->AA p k=AA r (v+b+(k-1)):=λ{k} x y=>by rw[z U U,Al (i:=((2+m:Nat))+a+k) (j:=k-1) (by rw[show(((2+m:Nat))+a+k-(k-1):Int)=q.length by lia];exact AGk),F U U]
 have n:AA p (0-1)=AA r (v-a):=by rw[Al (i:=0-1) (j:=3+m) (by rw[show(0:Int)-1-(3+m)=p.length*(-1)by lia,AGR]),O U U];exact Al (by rw[show v+b+(3+m-1)-(v-a)=r.length by lia];exact AGk)
 have t:AA p (0+1)=AA r (v+b):=by rw[O U U];congr 1;lia
 refine⟨p,Sp,U,I,n,t,λx y=>O x U,λf=>?_,λP=>?_,λ{k} x y L=>?_⟩
 .have Z:=R (x:=3+m) (y:=1) U U U U (f.congr (by rw[show(0:Int)-1-(3+m)=p.length*(-1)by lia,AGR]) (by rw[show(0:Int)+1-1=0 by lia];rfl));have P:=D (x:=2+m) (y:=0) U U Bb U (Z.congr (by rw[show(((2+m:Nat))+a+(3+m)-(2+m):Int)=q.length by lia];exact AGk) (by rw[show(((2+m:Nat))+a+1-0:Int)=q.length by lia];exact AGk));exact P.congr (by rw[show v+b+(2+m)-(v-a)=r.length by lia];exact AGk) (by rw[AGG,AGi];rfl)
 .have Z:=dn (x:=(2+m:Nat)) (y:=0) (.inl rfl) (.inl ⟨U,U⟩) (P.congr (by rw[show v-a-(v+b+((2+m:Nat)))=r.length*(-1)by lia,AGR]) (by rw[AGG,AGi];rfl));have:=Q (x:=1) (y:=(3+m:Nat)) (.inr rfl) (.inr ⟨U,U⟩) ((Line.symm Y Z).congr (by rw[show(0-(((2+m:Nat))+a+1):Int)=q.length*(-1)by lia,AGR]) (by rw[show((((2+m:Nat)))-(((2+m:Nat))+a+((3+m:Nat))):Int)=q.length*(-1)by lia,AGR]));exact(Line.symm Sp this).congr (by rw[show(((3+m:Nat))-(0-1):Int)=p.length by lia];exact AGk) rfl
 .refine Q (.inl rfl) (.inl ⟨U,U⟩) ?_;have Z:=dn (x:=k-1) (y:=((a+2+m:Nat))) (.inr rfl) (.inr ⟨U,U⟩) (L.congr (by rw[AGi];rfl) (by rw[show v-(v+b+((a+2+m:Nat)))=r.length*(-1)by lia,AGR]));refine Z.congr ?_ ?_
  .rw[show(k-1-(((2+m:Nat))+a+k):Int)=q.length*(-1)by lia,AGR]
  .rw[show((((a+2+m:Nat)))-(((2+m:Nat))+a+0):Int)=0 by lia];rfl
section
variable{r:List Pt}(S:Sm r){v:Int}{a b:Nat}(a1:1<=a)(b1:1<=b)(ab:a+b+2<=r.length)(h1:a=1\/Line r (v-a) v)(h2:b=1\/Line r v (v+b))(D:0<AD (AA r (v-a)) (AA r v) (AA r (v+b)))
include S a1 b1 ab h1 h2 D
theorem Sm.ZZ(Q:∀k:Int,v+b<k->k<v+r.length-a->¬ (0<=AD (AA r<|v-a) (AA r v) (AA r k)/\0<=AD (AA r v) (AA r<|v+b) (AA r k)/\0<=AD (AA r<|v+b) (AA r<|v-a) (AA r k))):Line r (v-a)<|v+b:=by obtain⟨p,Sp,lp,q,Z,Y,O,P,_,_⟩:=S.TV a1 b1 ab h1 h2;refine P (Sp.aI (v:=0) U (by unfold fA;rw[Z,q,Y];exact D) λe x y z=>?_);unfold fA fB fF at z;rw[Z,q,Y,AGj,O U U]at z;exact Q (v+b+(e-1)) U U z
theorem Sm.between{k:Int}(k1:v+b<k)(k2:k<v+r.length-a)(L:Line r k v):0<AD (AA r v) (AA r<|v+b) (AA r k)/\0<AD (AA r<|v-a) (AA r v) (AA r k):=by
 obtain⟨p,Sp,lp,z,y,q,Z,_,_,dn⟩:=S.TV a1 b1 ab h1 h2;have e:v+b+(k-v-b+1-1)=k:=U
 have:=(Line.symm Sp<|dn (k:=k-v-b+1) U U (by rw[e];exact L)).2;unfold Ew HB at this;rw[z,y,q,Z U U,e]at this;lia
end
theorem nM{t:List Pt}{K B:Pt}(y:∀j:Int,yy t j≠K.2)(nc:∀j:Int,Lt K B (AA t j) (AA t<|j+1)->¬ Lt (AA t j) (AA t<|j+1) K B)(of:∀j:Int,Ae t K.2 j≠0->Lt K K (AA t j) (AA t<|j+1)\/Lt (AA t j) (AA t<|j+1) K K) : RQ t K.2 K B=W t K/\RQ t (K.2-1) K B=W t K:=by
 have e:RQ t K.2 K B=W t K:=Cj λj _=>by
  rw[Ve,AH2];by_cases z:Ae t K.2 j=0
  .rw[z,AGl,AGl]
  congr 1
  rcases of j z with x|x
  .rw[BG x,BG<|R7 x]
  .rw[A2 λc=>nc j c<|O2 x,A2 λc=>nc j (R7 c)<|O2 x]
 refine⟨e,e ▸ Cj λj _=>?_⟩;have:=Xq t K.2 j;rw[A2<|y j,A2<|y<|j+1]at this;rw[show Ae t (K.2-1) j=Ae t K.2 j by lia]
theorem W3{t:List Pt}(h:t.length=3)(p:Pt):W t p=w3 (AA t 0) (AA t 1) (AA t 2) p:=by unfold W w3;rw[h];show 0+fw (AA t 0) (AA t 1) p+fw (AA t 1) (AA t 2) p+fw (AA t 2) (AA t 3) p=_;rw[Al (i:=3) (j:=0) (by rw[h];rfl),AGj]
theorem Sm.rC{r:List Pt}(S:Sm r){v:Int}(L:Line r (v-1)<|v+1){e:Int}(e2:2<=e)(en:e<=r.length-2):¬ (0<=fA r v (v+e)/\0<=fB r v (v+e)/\0<=fF r v (v+e)):=λ⟨a,b,f⟩=>by
 have q:v-1+1=v:=DZ;have D:0<fA r v (v+1):=S.cv<|.inr L;have p:∀{d:Int},d≠0->-r.length<d->d<r.length->d%(r.length)≠0:=λx y z c=>x<|SH c y z;have E:(v+e-(v-1))%(r.length)=e+1:=by rw[Ou,AFt U U]
 have m2:(v+e-v)%(r.length)=e:=by rw[Ry,AFt U U]
 have Z:(v-1-(v+e))%(r.length)≠0:=p U U U;have Y:(v+1-(v+e))%(r.length)≠0:=p U U U;have O:=S.s.EW (m:=v+e) (j:=v-1) U U;have I:=S.s.EW (m:=v+e) (j:=v) U U;have n:=L.1.LZ S.s Z Y;rw[q]at O;have P:0<AD (AA r v) (AA r<|v+1) (AA r<|v-1):=by rw[CG];exact D
 have h:0<AD (AA r<|v+1) (AA r<|v-1) (AA r v):=by rw[CG];exact P
 have sa:0<fA r v (v+e):=AHZ.mpr ⟨a,λc=>O<|Nf D c.symm b f⟩;have sb:0<fB r v (v+e):=AHZ.mpr ⟨b,λc=>I<|Nf P c.symm f a⟩;have sf:0<fF r v (v+e):=AHZ.mpr ⟨f,λc=>n<|JW<|Nf h c.symm a b⟩;have L':Line r (v-1)<|v-1+((2:Nat)):=by rw[show v-1+((2:Nat):Int)=v+1 by lia];exact L
 have at_:∀{k:Int},0<=k->k<=2->AA (sub r (v-1) 2) k=AA r (v-1+k):=λx y=>Aw r _ 2 x U;have F:AA (sub r (v-1) 2) 0=AA r (v-1):=by rw[at_ U U,AGG]
 have t1:AA (sub r (v-1) 2) 1=AA r v:=by rw[at_ U U,q]
 have t2:AA (sub r (v-1) 2) 2=AA r (v+1):=by rw[at_ U U,show v-1+2=v+1 by lia]
 have t3:AA (sub r (v-1) 2) (2+1)=AA r (v-1):=GB r (v-1) 2;have R:W (sub r (v-1) 2) (AA r<|v+e)=1:=by rw[W3<|sub_len ..,F,t1,t2];exact(AEa D _).2.1 sa sb sf
 have Q:∀j:Int,(AA (sub r (v-1) 2) j=AA r (v-1)/\AA (sub r (v-1) 2) (j+1)=AA r v)\/(AA (sub r (v-1) 2) j=AA r v/\AA (sub r (v-1) 2) (j+1)=AA r (v+1))\/(AA (sub r (v-1) 2) j=AA r (v+1)/\AA (sub r (v-1) 2) (j+1)=AA r (v-1)):=λj=>by
  obtain⟨m,m0,E,q⟩:=Hw r (v-1) 2 j;rw[Al q,Al<|CB q];rcases(U:m=0\/m=1\/m=2)with rfl|rfl|rfl
  .exact .inl ⟨F,t1⟩
  .exact .inr<|.inl ⟨t1,t2⟩
  .exact .inr<|.inr ⟨t2,t3⟩
 have nk:∀j:Int,yy (sub r (v-1) 2) j≠(AA r<|v+e).2:=λj c=>by
  have g0:=S.gn Z;have g1:=S.gn (i:=v) (j:=v+e)<|p U U U;have g2:=S.gn Y;unfold yy at *
  rcases Q j with z|z|z<;>rw[z.1]at c
  .exact g0 c
  .exact g1 c
  .exact g2 c
 have G:(v+e-(v-1))%(r.length)≠0:=U
 have T:(v+e-v)%(r.length)≠0:=U
 obtain⟨r1,r2⟩:=nM (t:=sub r (v-1) 2) (K:=AA r<|v+e) (B:=AA r<|v+e+1) nk (λj=>by
  rcases Q j with z|z|z<;>rw[z.1,z.2]
  .have:=S.s.nc (i:=v+e) (j:=v-1) G;unfold AH.L at this;rw[q]at this;exact this
  .exact S.s.nc (i:=v+e) (j:=v) T
  .exact λx y=>L.1.nc S.s (v+e) (FI y)<|Fm x) λj z=>by
  have C:=EX z;unfold yy at C;rcases Q j with w|w|w<;>rw[w.1,w.2]at C ⊢
  .have:=S.s.M6 (m:=v+e) (i:=v-1) G U (by rw[q];exact S.g0 v) (by rw[q];unfold yy;lia);rw[q]at this;exact this.symm
  .exact(S.s.M6 (m:=v+e) (i:=v) T U (S.g1 v).symm (by unfold yy;lia)).symm
  .rcases L.1.M6 S.s (m:=v+e) Z Y (S.gn L.1.Ba.1) (by unfold yy;lia)with x|x
   .exact .inr<|FI x
   .exact .inl<|Fm x
 have h3:=S.s.l3;have ek:v-1+((2:Nat):Int)+(e-1)=v+e:=U
 have out:=λ{H:Int}=>jE S (AF5 2) U L' (k:=e-1) U U (H:=H);rw[ek]at out;rcases AGW (S.g1<|v+e)with z|z
 .have:=out (H:=(AA r<|v+e).2-1) (.inr (by unfold yy at *;lia));rw[r2,R]at this;cases this
 .have:=out (H:=(AA r<|v+e).2) (.inl (by unfold yy at *;lia));rw[r1,R]at this;cases this
theorem Sm.M4{r:List Pt}(S:Sm r){v:Int}{a b:Nat}(z:1<=a)(b1:1<=b)(ab:a+b+2<=r.length)(y:a=1\/Line r (v-a) v)(q:b=1\/Line r v (v+b))(h3:Line r (v-a)<|v+b){k:Int}(k1:v+b<k)(k2:k<v+r.length-a) : ¬ (0<=AD (AA r<|v-a) (AA r v) (AA r k)/\0<=AD (AA r v) (AA r<|v+b) (AA r k)/\0<=AD (AA r<|v+b) (AA r<|v-a) (AA r k)):=by obtain⟨p,Sp,lp,Z,Y,Q,O,_,dn,_⟩:=S.TV z b1 ab y q;have:=Sp.rC (v:=0) (dn h3) (e:=k-v-b+1) U U;unfold fA fB fF at this;rw[Y,Z,Q,AGj,O U U,show v+b+(k-v-b+1-1)=k by lia]at this;exact this
theorem mix(e p x q u w:Pt):AD e x q*AD u w p+AD e p x*AD u w q=AD e p q*AD u w x+(AD e x q+AD e p x-AD e p q)*AD u w e:=by unfold AD;grind
theorem n6(e p x q:Pt):AD p x q=AD e p x+AD e x q-AD e p q:=by unfold AD;grind
theorem nz{e a b p x q:Pt}(D:0<AD e a b)(P:0<AD e p x)(Q:0<AD e x q)(z:0<=AD e a p)(y:0<AD e a q)(ax:0<AD e a x)(dp:AD a b x<AD a b p)(v:AD a b x<=AD a b q)(dx:AD a b x<=0):0<AD e p q/\0<AD p x q:=by
 have Z:=mix e p x q e a;rw[(FQ e a).1,AGs,AGG]at Z;have m1:=AFy (AFv Q) z;have m2:=AF8 P y;have R:0<AD e p q:=Int.pos_of_mul_pos_left (U:0<AD e p q*AD e a x) ax;refine⟨R,?_⟩;have Y:=mix e p x q a b;rw[show AD a b e=AD e a b by rw[CG]]at Y;have m3:=AHr dp Q;have m4:=AF7 v<|AFv P;rw[n6 e];refine AHY.mp λc=>?_;have m5:=AGB (U:AD e p x+AD e x q<=AD e p q) (U:0<=AD e a b-AD a b x)
 grind
theorem vi{e p x q K:Pt}(R:0<AD e p q)(P:0<AD e p x)(Q:0<AD e x q)(T:0<AD p x q)(h:0<=AD p x K/\0<=AD x q K/\0<=AD q p K):(0<=AD e p K/\0<=AD p x K/\0<=AD x e K)\/(0<=AD e x K/\0<=AD x q K/\0<=AD q e K):=by
 obtain⟨y,v,h3⟩:=h;have b:∀u w:Pt,AD p x q*AD u w K=AD x q K*AD u w p+AD q p K*AD u w x+AD p x K*AD u w q:=λu w=>by unfold AD;grind
 have pos:∀{u w:Pt},0<=AD u w p->0<=AD u w x->0<=AD u w q->0<=AD u w K:=λ{u w} a c d=>by have:=AFy v a;have:=AFy h3 c;have:=AFy y d;refine AIR.mp λz=>?_;have:=AHg T z;rw[b]at this;lia
 have k1:0<=AD e p K:=pos (by rw[(FQ e p).2];exact AGb _) (AFv P)<|AFv R;have k2:0<=AD q e K:=pos (by rw[CG,CG];exact AFv R) (by rw[CG,CG];exact AFv Q) (by rw[(FQ q e).1];exact AGb _);rcases AHi 0 (AD e x K)with z|z
 .exact .inr ⟨z,v,k2⟩
 .exact .inl ⟨k1,y,by rw[C3];lia⟩
theorem Sm.Pf{r:List Pt}(S:Sm r){v:Int}{a b:Nat}(z:1<=a)(b1:1<=b)(ab:a+b+2<=r.length)(y:a=1\/Line r (v-a) v)(q:b=1\/Line r v (v+b))(h3:Line r (v-a)<|v+b):0<AD (AA r<|v-a) (AA r v) (AA r<|v+b):=by obtain⟨p,Sp,lp,Z,Y,Q,ck,_,dn,_⟩:=S.TV z b1 ab y q;have:=Sp.cv (v:=0)<|.inr<|dn h3;rw[Y,Z,Q]at this;exact this
theorem Sm.turn{r:List Pt}(S:Sm r){e:Int}{A B P X Q:Nat}(Y:1<=A)(AP:A<=P)(PX:P<X)(XQ:X<Q)(QB:Q+B<=r.length)(O:1<=B) (ea:A=1\/Line r e (e+A)) (F:B=1\/Line r (e-B) e) (ab:Line r (e-B)<|e+A) (ex:Line r e<|e+X) (C:P=1\/Line r e (e+P)) (E:r.length-Q=1\/Line r (e+Q) (e+r.length)) (px:X-P=1\/Line r (e+P) (e+X)) (xq:Q-X=1\/Line r (e+X) (e+Q)) (dp:AD (AA r<|e+A) (AA r<|e-B) (AA r<|e+X)<AD (AA r<|e+A) (AA r<|e-B) (AA r<|e+P)) (dq:AD (AA r<|e+A) (AA r<|e-B) (AA r<|e+X)<=AD (AA r<|e+A) (AA r<|e-B) (AA r<|e+Q)):Line r (e+P)<|e+Q:=by
 have n3:=S.s.l3;have G:∀k:Int,(k+r.length-k)%(r.length)=0:=λk=>by rw[show k+(r.length:Int)-k=r.length by lia];exact AGk
 have z:∀x:Int,(x-x)%(r.length)=0:=λx=>by rw[AGi];rfl
 have bt:=λ{k:Int}=>S.between (v:=e) O Y U F ea (S.Pf O Y U F ea ab) (k:=k);have D:=S.Pf (v:=e) O Y U F ea ab;have H:=bt (k:=e+X) U U<|Line.symm S ex;have D':0<AD (AA r e) (AA r<|e+A) (AA r<|e-B):=by rw[CG];exact D
 have ap:0<=AD (AA r e) (AA r<|e+A) (AA r<|e+P):=by
  by_cases c:P=A
  .rw[c,(FQ _ _).2];exact AGb _
  .refine AFv (bt U U<|Line.symm S<|C.resolve_left U).1
 have aq:0<AD (AA r e) (AA r<|e+A) (AA r<|e+Q):=by
  by_cases c:Q+B=r.length
  .rw[Al (i:=e+Q) (j:=e-B) (by rw[show e+Q-(e-B)=(r.length:Int)by lia];exact AGk)];exact D'
  .exact(bt U U<|(E.resolve_left U).congr (z _)<|G e).1
 have VS:Line r (e+P-P)<|e+P+(X-P:Nat):=by rw[show e+P-P=e by lia,show e+P+((X-P:Nat):Int)=e+X by lia];exact ex
 have FU:Line r (e+Q-(Q-X:Nat))<|e+Q+(r.length-Q:Nat):=by
  refine(Line.symm S ex).congr ?_ ?_
  .rw[show e+X-(e+Q-((Q-X:Nat):Int))=0 by lia];rfl
  .rw[show e-(e+Q+((r.length-Q:Nat):Int))=r.length*(-1)by lia,AGR]
 have f:=Kr U ex.1.Ba U U;have h1:P=1\/Line r (e+P-P) (e+P):=C.imp_right λL=>by rw[show e+P-P=e by lia];exact L
 have h2:X-P=1\/Line r (e+P) (e+P+(X-P:Nat)):=px.imp_right λL=>by rw[show e+P+((X-P:Nat):Int)=e+X by lia];exact L
 have g1:Q-X=1\/Line r (e+Q-(Q-X:Nat)) (e+Q):=xq.imp_right λL=>by rw[show e+Q-((Q-X:Nat):Int)=e+X by lia];exact L
 have g2:r.length-Q=1\/Line r (e+Q) (e+Q+(r.length-Q:Nat)):=E.imp_right λL=>by rw[show e+Q+((r.length-Q:Nat):Int)=e+r.length by lia];exact L
 have I:=S.Pf (v:=e+P) U U U h1 h2 VS;have n:=S.Pf (v:=e+Q) U U U g1 g2 FU;rw[show e+P-P=e by lia,show e+P+((X-P:Nat):Int)=e+X by lia]at I;have cq:AA r (e+Q+(r.length-Q:Nat))=AA r e:=Al (by rw[show e+Q+((r.length-Q:Nat):Int)-e=r.length by lia];exact AGk);rw[show e+Q-((Q-X:Nat):Int)=e+X by lia,cq,CG]at n;have dx:AD (AA r<|e+A) (AA r<|e-B) (AA r<|e+X)<=0:=AIR.mp λc=>S.M4 O Y U F ea ab (k:=e+X) U U ⟨AFv H.2,AFv H.1,AFv c⟩;obtain⟨R,T⟩:=nz D' I n ap aq H.1 dp dq dx;have y:e+X-((X-P:Nat):Int)=e+P:=U
 have wx:e+X+((Q-X:Nat):Int)=e+Q:=U
 have gT:X-P=1\/Line r (e+X-(X-P:Nat)) (e+X):=by rw[y];exact px
 have gX:Q-X=1\/Line r (e+X) (e+X+(Q-X:Nat)):=by rw[wx];exact xq
 have res:=S.ZZ (v:=e+X) (a:=X-P) (b:=Q-X) U U U gT gX (by rw[y,wx];exact T) λk l1 l2 h=>?_
 .rw[y,wx]at res;exact res
 rw[y,wx]at h;rw[wx]at l1;have l2:k<e+r.length+P:=U
 by_cases ke:k=e+r.length
 .rw[ke,IY]at h;have:=h.2.2;rw[C3,CG]at this;lia
 rcases vi R I n T h with⟨q,p,Z⟩|⟨q,p,Z⟩
 .by_cases lt:k<e+r.length
  .refine S.M4 (v:=e+P) U U U h1 h2 VS (k:=k) U U ?_;rw[show e+P-P=e by lia,show e+P+((X-P:Nat):Int)=e+X by lia];exact⟨q,p,Z⟩
  .have Lp:=C.resolve_left U;have t:e+X+((r.length-X:Nat):Int)=e+r.length:=U
   refine S.M4 (v:=e+X) (a:=X-P) (b:=r.length-X) U U U gT (.inr (by rw[t];exact(Line.symm S ex).congr (z _) (Eo<|G e))) (by rw[y,t];exact(Line.symm S Lp).congr (z _) (Eo<|G e)) (k:=k) U U ?_;rw[y,t,IY];exact⟨p,Z,q⟩
 .by_cases lt:k<e+r.length
  .have Lq:=E.resolve_left U;have e0:e+X-X=e:=U
   refine S.M4 (v:=e+X) (a:=X) (b:=Q-X) U U U (.inr (by rw[e0];exact ex)) gX (by rw[e0,wx];exact(Line.symm S Lq).congr (G e) (z _)) (k:=k) U U ?_;rw[e0,wx];exact⟨q,p,Z⟩
  .refine S.M4 (v:=e+Q) U U U g1 g2 FU (k:=k) U U ?_;rw[show e+Q-((Q-X:Nat):Int)=e+X by lia,cq];exact⟨p,Z,q⟩
theorem Rm.turn{r:List Pt}(R:Rm r){e:Int}{A B P X Q:Nat}(y:1<=A)(AP:A<=P)(PX:P<X)(q:X<Q)(v:Q+B<=r.length)(p:1<=B) (ea:A=1\/Line r e (e+A)) (Z:B=1\/Line r (e-B) e) (ab:Line r (e-B)<|e+A) (ex:Line r e<|e+X) (Y:P=1\/Line r e (e+P)) (O:r.length-Q=1\/Line r (e+Q) (e+r.length)) (D:X-P=1\/Line r (e+P) (e+X)) (F:Q-X=1\/Line r (e+X) (e+Q)) (dp:AD (AA r<|e+A) (AA r<|e-B) (AA r<|e+X)<AD (AA r<|e+A) (AA r<|e-B) (AA r<|e+P)) (G:AD (AA r<|e+A) (AA r<|e-B) (AA r<|e+X)<=AD (AA r<|e+A) (AA r<|e-B) (AA r<|e+Q)):Line r (e+P)<|e+Q:=by obtain⟨k,S⟩:=R.sm;have z:=Bo R.l3;have:=S.turn (e:=e) (A:=A) (B:=B) (P:=P) (X:=X) (Q:=Q);simp only[LH z,Fy z,Gx,AFs]at this;exact this y AP PX q v p ea Z ab ex Y O D F dp G
theorem Rm.between{r:List Pt}(R:Rm r){e:Int}{A B X:Nat}(q:1<=A)(p:1<=B)(AX:A<X)(XB:X+B<r.length)(ea:A=1\/Line r e (e+A))(y:B=1\/Line r (e-B) e)(ab:Line r (e-B)<|e+A)(ex:Line r e<|e+X):AD (AA r<|e+A) (AA r<|e-B) (AA r<|e+X)<0:=by
 obtain⟨k,S⟩:=R.sm;have z:=Bo R.l3;rw[<-LH z k]at ea y ab ex;have hl:(r.map<|lean k).length=r.length:=AFs _;have Z:=S.between (v:=e) p q U y ea (S.Pf p q U y ea ab) (k:=e+X) U U<|Line.symm S ex;have:=S.M4 p q U y ea ab (k:=e+X) U U;rw[Fy z,Fy z,Fy z,Fy z]at *
 rw[Gx]at *
 rw[Gx]at *
 rw[Gx]at *
 exact AHY.mp λc=>this ⟨AFv Z.2,AFv Z.1,c⟩
end AH
namespace Ad
abbrev NN:=Nat×Nat
def X(e f:NN):Prop:=(e.1<f.1/\f.1<e.2/\e.2<f.2)\/(f.1<e.1/\e.1<f.2/\f.2<e.2)
noncomputable def mc(S:List NN)(i j:Nat):Nat:=S.countP λe=>decide (i<=e.1/\e.2<=j)
def jn(S:List NN)(i j:Nat):Prop:=j=i+1\/(i,j)∈S
structure Nx(S:List NN):Prop where
 nd:S.Nodup
 Ba:∀e∈S,e.1+1<e.2
 nx:∀e∈S,∀f∈S,¬ X e f
set_option tactic.hygienic false
theorem countP_le{α}(p q r:α->Bool):∀l:List α,(∀x∈l,p x=true->q x=true\/r x=true)->l.countP p<=l.countP q+l.countP r
 |[],_=>AFn
 |x::l,h=>by
  have ih:=countP_le p q r l λy z=>h y<|AFz _ z;simp only[AHm,AHm,AHm];by_cases a:p x=true
  .rcases(h x AF3) a with b|b<;>rw[AFu a,AFu b]<;>lia
  .rw[AF0 a];lia
theorem rf(S:List NN){i j:Nat}(h:i+1<j):∃c,i<c/\c<j/\jn S i c/\∀d,c<d->d<j->(i,d)∉S:=by
 suffices ∀k,i+1+k<j->(∀d,i+1+k<d->d<j->(i,d)∉S)->∃c,i<c/\c<j/\jn S i c/\∀d,c<d->d<j->(i,d)∉S from
  this (j-i-2) U λd a b=>U
 intro k
 induction k with
 |zero=>exact λa b=>⟨i+1,EU,a,.inl rfl,b⟩
 |succ k ih=>
  intro a b;by_cases m:(i,i+1+(k+1))∈S
  .exact⟨_,U,a,.inr m,b⟩
  .refine ih U λd p q=>?_;by_cases e:d=i+1+(k+1)
   .rwa [e]
   .exact b d U q
theorem Nx.split{S:List NN}(N:Nx S){i j:Nat}(h:i+1<j):∃c,i<c/\c<j/\jn S i c/\∀e∈S,i<=e.1->e.2<=j->e=(i,j)\/e.2<=c\/c<=e.1:=by
 obtain⟨c,v,Z,z,Y⟩:=rf S h;refine⟨c,v,Z,z,λe he a b=>?_⟩;have y:e.1=i->c<e.2->e.2<j->False:=λp q r=>Y e.2 q r (by rw[<-p];exact he);rcases z with z|z
 .by_cases p:e.1=i
  .by_cases q:e.2=j
   .exact .inl<|AGy p q
   .right;left;have:=y p;lia
  .lia
 .have:=N.nx _ z e he;unfold X at this;by_cases p:e.1=i
  .by_cases q:e.2=j
   .exact .inl<|AGy p q
   .right;left;have:=y p;lia
  .dsimp only at this;lia
theorem Za{S:List NN}(nd:S.Nodup)(e:NN):S.countP (λf=>decide (f=e))<=1:=by have:=List.nodup_iff_count.mp nd e;refine AGZ (AJ1 ?_) this;exact List.countP_congr λx _=>AFn
theorem Nx.cut{S:List NN}(N:Nx S){i j c:Nat}(hc:∀e∈S,i<=e.1->e.2<=j->e=(i,j)\/e.2<=c\/c<=e.1):mc S i j<=S.countP (λf=>decide (f=(i,j)))+(mc S i c+mc S c j):=by
 have a:=countP_le (λe=>decide (i<=e.1/\e.2<=j)) (λf=>decide (f=(i,j))) (λe=>decide (i<=e.1/\e.2<=c)||decide (c<=e.1/\e.2<=j)) S λe he h=>by
  simp only[AF2,AGv]at h ⊢;rcases hc e he h.1 h.2 with z|z|z
  .exact .inl z
  .exact .inr<|.inl ⟨h.1,z⟩
  .exact .inr<|.inr ⟨z,h.2⟩
 have b:=countP_le (λe:NN=>decide (i<=e.1/\e.2<=c)||decide (c<=e.1/\e.2<=j)) (λe=>decide (i<=e.1/\e.2<=c)) (λe=>decide (c<=e.1/\e.2<=j)) S λe _ h=>by simpa using h
 unfold mc;lia
theorem Nx.le{S:List NN}(N:Nx S):∀(k i j:Nat),j-i<=k->i<j->mc S i j<=j-i-1
 |0,i,j,h,h'=>U
 |k+1,i,j,h,h'=>by
  by_cases g:i+1<j
  .obtain⟨c,y,q,_,v⟩:=N.split g;have:=N.cut v;have:=Za N.nd (i,j);have:=N.le k i c U y;have:=N.le k c j U q;lia
  .have:mc S i j=0:=AIZ.mpr λe he z=>by have:=N.Ba e he;simp only[AF2]at z;lia
   lia
def full(S:List NN)(i j:Nat):Prop:=mc S i j=j-i-1
theorem Nx.Jq{S:List NN}(N:Nx S){i j:Nat}(h:i<j)(f:full S i j):jn S i j:=by
 by_cases g:i+1<j
 .right;by_cases m:(i,j)∈S
  .exact m
  .obtain⟨c,y,q,_,v⟩:=N.split g;have a:=N.cut v;have b:=N.le (c-i) i c U y;have d:=N.le (j-c) c j U q;have:S.countP (λf=>decide (f=(i,j)))=0:=AIZ.mpr λe he z=>m (by simp only[AF2]at z;rwa [<-z]);unfold full at f
   grind
 .exact .inl U
theorem Nx.IT{S:List NN}(N:Nx S){i j:Nat}(g:i+1<j)(f:j-i-1<=mc S i j+1/\(i,j)∉S\/full S i j):∃c,i<c/\c<j/\full S i c/\full S c j/\∀e∈S,i<=e.1->e.2<=j->e=(i,j)\/e.2<=c\/c<=e.1:=by
 obtain⟨c,y,q,_,v⟩:=N.split g;have a:=N.cut v;have b:=N.le (c-i) i c U y;have d:=N.le (j-c) c j U q;have o:=Za N.nd (i,j);refine⟨c,y,q,?_,?_,v⟩<;>unfold full at *
 all_goals
  rcases f with⟨f,m⟩|f
  .have:S.countP (λf=>decide (f=(i,j)))=0:=AIZ.mpr λe he z=>m (by simp only[AF2]at z;rwa [<-z]);clear g;grind
  .clear g;grind
structure Ct(n:Nat)(S:List NN):Prop extends Nx S where
 lt:∀e∈S,e.2<n
 rt:(0,n-1)∉S
 ln:S.length+3=n
def J(n:Nat)(S:List NN)(i j:Nat):Prop:=j=i+1\/(i,j)∈S\/(i=0/\j=n-1)
def JJ(n:Nat)(S:List NN)(i j:Nat):Prop:=(i<j/\J n S i j)\/(j<i/\J n S j i)
theorem jn.J{n:Nat}{S:List NN}{i j:Nat}(h:jn S i j):J n S i j:=h.elim .inl λh=>.inr<|.inl h
theorem Ct.nX{n:Nat}{S:List NN}(C:Ct n S){e:NN}(he:e∈S){u v:Nat}(h:J n S u v):¬ X e (u,v):=by
 have b:=C.lt e he;rcases h with h|h|h
 .unfold X;lia
 .exact C.nx e he _ h
 .unfold X;lia
theorem Ct.WW{n:Nat}{S:List NN}(_:Ct n S){u v w:Nat}(h:J n S u v)(h1:u<w)(h2:w<v)(h3:0<u\/v<n-1):(u,v)∈S:=by
 rcases h with h|h|h
 .lia
 .exact h
 .lia
theorem Ct.down{n:Nat}{S:List NN}(C:Ct n S){a b:Nat}(ab:a<b)(h:jn S a b):∀(k i j:Nat),j-i<=k->i+1<j->j<n->J n S i j->(j-i-1<=mc S i j+1/\(i,j)∉S\/full S i j)->i<=a->b<=j->(a,b)≠(i,j)->full S a b/\∃d,d<n/\(d<a\/b<d)/\JJ n S d a/\JJ n S d b
 |0,i,j,h1,h2,_,_,_,_,_,_=>AFm
 |k+1,i,j,h1,h2,h3,h4,h5,h6,h7,h8=>by
  obtain⟨c,y,q,v,p,Q⟩:=C.IT h2 h5;have s:b<=c\/c<=a:=by
   rcases h with h|h
   .lia
   .rcases Q _ h h6 h7 with z|z
    .exact absurd z h8
    .exact z
  have Z:=C.Jq y v;have Y:=C.Jq q p;rcases s with s|s
  .by_cases e:(a,b)=(i,c)
   .obtain⟨rfl,rfl⟩:=AHz e;exact⟨v,j,h3,.inr q,.inr ⟨LL h2,h4⟩,.inr ⟨q,Y.J⟩⟩
   .have:i+1<c:=by
     rcases AJU (i+1) c with z|z
     .exact z
     .exact absurd (AGy (by dsimp only;clear y;lia) (by dsimp only;clear y;lia)) e
    exact C.down ab h k i c AFm this (F6 q h3) Z.J (.inr v) h6 s e
  .by_cases e:(a,b)=(c,j)
   .obtain⟨rfl,rfl⟩:=AHz e;exact⟨p,i,Wu y ab h3,.inl y,.inl ⟨y,Z.J⟩,.inl ⟨F6 y ab,h4⟩⟩
   .have:c+1<j:=by
     rcases AJU (c+1) j with z|z
     .exact z
     .exact absurd (AGy (by dsimp only;clear q;lia) (by dsimp only;clear q;lia)) e
    exact C.down ab h k c j AFm this h3 Y.J (.inr p) s h7 e
theorem Ct.whole{n:Nat}{S:List NN}(C:Ct n S):mc S 0 (n-1)=S.length:=by exact List.countP_eq_length.mpr λe he=>by have:=C.lt e he;lia
theorem Ct.root{n:Nat}{S:List NN}(C:Ct n S):n-1-0-1<=mc S 0 (n-1)+1/\(0,n-1)∉S:=by have:=C.whole;have:=C.ln;exact⟨by subst this;lia,C.rt⟩
theorem Ct.jD{n:Nat}{S:List NN}(C:Ct n S){a b t d:Nat}(ab:a<b)(Q:t<d)(dn:d<n)(bn:b<n)(Z:t<a\/b<t)(hd:d<a\/b<d)(q:JJ n S t a)(tb:JJ n S t b)(Y:JJ n S d a)(p:JJ n S d b):False:=by
 have x:∀{u v x y w},J n S u v->J n S x y->u<w->w<v->v<n-1->¬ X (u,v) (x,y):=λh h' a b c=>C.nX (C.WW h a b<|.inr c) h';rcases Z with Z|Z
 .have q:J n S t a:=by rcases q with z|z;exact z.2;lia
  have tb:J n S t b:=by rcases tb with z|z;exact z.2;lia
  rcases hd with hd|hd
  .have p:J n S d b:=by rcases p with z|z;exact z.2;lia
   exact x q p Q hd AFo (by unfold X;left;lia)
  .have Y:J n S a d:=by rcases Y with z|z;lia;exact z.2
   exact x tb Y Z ab (by clear ab;omega) (by unfold X;left;lia)
 .have q:J n S a t:=by rcases q with z|z;lia;exact z.2
  have p:J n S b d:=by rcases p with z|z;lia;exact z.2
  exact x q p ab Z AFo (by unfold X;left;lia)
theorem Ct.TH{n:Nat}{S:List NN}(C:Ct n S){a b:Nat}(h:(a,b)∈S):∃p q,p<q/\q<n/\X (a,b) (p,q)/\∀t,JJ n S t a/\JJ n S t b↔t=p\/t=q:=by
 have f:=C.Ba _ h;have l:=C.lt _ h;dsimp only at f l;have P:=C.ln;obtain⟨B,d,G,y,Z,Y⟩:=C.down (LL f) (.inr h) (n-1) 0 (n-1) U (by subst P;lia) (Wv P) (.inr<|.inr ⟨rfl,rfl⟩) (.inl C.root) Rx U λe=>C.rt (by rw[<-e];exact h)
 obtain⟨c,Q,O,T,E,_⟩:=C.IT f<|.inr B;have D:J n S a c:=(C.Jq Q T).J;have F:J n S c b:=(C.Jq O E).J;have u:∀t,JJ n S t a/\JJ n S t b->t=c\/t=d:=by
  rintro t ⟨v,tb⟩;unfold JJ at v tb Z Y;by_cases i:a<t/\t<b
  .left;have v:J n S a t:=by rcases v with z|z;lia;exact z.2
   have tb:J n S t b:=by rcases tb with z|z;exact z.2;lia
   rcases AHt t c with z|z|z
   .have H:=C.WW D i.1 z (by right;lia);have:=C.nX H tb;unfold X at this;dsimp only at this;grind
   .exact z
   .have:=C.nX (C.WW v Q z (by cases i;lia)) F;unfold X at this;dsimp only at this;grind
  .right;have I:t<n:=by
    rcases v with⟨z,_⟩|⟨z,w⟩
    .lia
    .rcases w with w|w|w
     .lia
     .have:=C.lt _ w;exact this
     .subst P;lia
   have to:t<a\/b<t:=AFm
   rcases AHt t d with z|z|z
   .exact(C.jD (LL f) z G l to y v tb Z Y).elim
   .exact z
   .exact(C.jD (LL f) z I l y to Z Y v tb).elim
 have R:JJ n S c a/\JJ n S c b:=⟨.inr ⟨Q,D⟩,.inl ⟨O,F⟩⟩;rcases y with y|y
 .exact⟨d,c,F6 y Q,F6 O l,by unfold X;right;lia,λt=>⟨λz=>(u t z).symm,λz=>by rcases z with rfl|rfl;exact⟨Z,Y⟩;exact R⟩⟩
 .exact⟨c,d,F6 O y,AFr,by unfold X;left;lia,λt=>⟨λz=>u t z,λz=>by rcases z with rfl|rfl;exact R;exact⟨Z,Y⟩⟩⟩
theorem J.mono{n:Nat}{S z:List NN}{i j:Nat}(h:J n S i j)(hs:∀e∈S,e=(i,j)->e∈z):J n z i j:=by
 rcases h with h|h|h
 .exact .inl h
 .exact .inr<|.inl<|hs _ h rfl
 .exact .inr<|.inr h
set_option tactic.hygienic true
theorem Ct.QW{n:Nat}{S:List NN}(C:Ct n S){e:NN}(he:e∈S){u v:Nat}(y:e.1<u)(q:u<e.2)(h3:v<e.1\/e.2<v)(j:JJ n S u v):False:=by
 rcases j with⟨c,j⟩|⟨c,j⟩
 .exact C.nX he j<|.inl ⟨y,q,h3.resolve_left λz=>U⟩
 .exact C.nX he j<|.inr ⟨h3.resolve_right λz=>U,y,q⟩
theorem Ct.turn{n:Nat}{S T:List NN}(C:Ct n S){a b p q:Nat}(h:(a,b)∈S)(pq:p<q)(P:q<n)(Y:X (a,b) (p,q))(D:∀t,JJ n S t a/\JJ n S t b↔t=p\/t=q)(Q:T.Perm ((p,q)::S.filter λe=>e != (a,b))):Ct n T/\∀t,JJ n T t p/\JJ n T t q↔t=a\/t=b:=by
 have f:=C.Ba _ h;have l:=C.lt _ h;dsimp only at f l;obtain⟨F,R⟩:=(D p).mpr<|.inl rfl;obtain⟨B,G⟩:=(D q).mpr<|.inr rfl;have Z:∀e,e∈T↔e=(p,q)\/(e∈S/\e≠(a,b)):=λe=>by rw[Q.mem_iff,AF4,AGD,bne_iff_ne]
 have no:=λm=>C.nx _ h _ m Y;have nX:∀e∈S,e≠(a,b)->¬ X e (p,q):=λe he hn z=>by
  have s:∀{t},JJ n S p t->JJ n S q t->t=e.1\/t=e.2:=λ{t} E H=>AG2 λc=>by
   by_cases i:e.1<t/\t<e.2
   .rcases z with z|z
    .exact C.QW he i.1 i.2 (.inr z.2.2) H.symm
    .exact C.QW he i.1 i.2 (.inl z.1) E.symm
   .rcases z with z|z
    .exact C.QW he z.1 z.2.1 U E
    .exact C.QW he z.2.1 z.2.2 U H
  have a1:=s F B;have b1:=s R G;have:=C.Ba e he;exact hn<|AGy U U
 have I:Ct n T:=by
  refine⟨⟨?_,λe he=>?_,λe he g hg=>?_⟩,λe he=>?_,λm=>?_,?_⟩
  .refine Q.symm.nodup<|AHL.mpr ⟨λm=>no (AGD.mp m).1,C.nd.filter _⟩
  .rcases(Z e).mp he with rfl|⟨z,_⟩
   .unfold X at Y;dsimp only at *;clear pq;lia
   .exact C.Ba e z
  .rcases(Z e).mp he with rfl|⟨z,z'⟩<;>rcases(Z g).mp hg with rfl|⟨y,y'⟩
   .unfold X;lia
   .exact λw=>nX g y y' (by unfold X at *;lia)
   .exact nX e z z'
   .exact C.nx e z g y
  .rcases(Z e).mp he with rfl|⟨z,_⟩
   .exact P
   .exact C.lt e z
  .rcases(Z _).mp m with e|⟨z,_⟩
   .obtain⟨rfl,rfl⟩:=AHz e;unfold X at Y;dsimp only at *;clear P;grind
   .exact C.rt z
  .rw[Q.length_eq,AGC];have:=C.ln;have:(S.filter λe=>e != (a,b)).length+1=S.length:=by
    rw[<-C.nd.erase_eq_filter,AIi h];have:=AID h
    grind
   grind
 refine⟨I,?_⟩;obtain⟨p',q',c1,c2,_,O⟩:=I.TH<|(Z (p,q)).mpr<|.inl rfl;have k:∀{u v},JJ n S u v->(u<v/\(u,v)≠(a,b))\/(v<u/\(v,u)≠(a,b))->JJ n T v u:=λ{u v} j z=>by
  have m:∀{x y},(x,y)≠(a,b)->∀e∈S,e=(x,y)->e∈T:=λw e he h=>(Z e).mpr (.inr ⟨he,by rw[h];exact w⟩);rcases j with⟨c,j⟩|⟨c,j⟩
  .exact .inr ⟨c,j.mono<|m (by rcases z with z|z;exact z.2;grind)⟩
  .exact .inl ⟨c,j.mono<|m (by rcases z with z|z;grind;exact z.2)⟩
 have hp:p≠a/\p≠b/\q≠a/\q≠b:=by unfold X at Y;dsimp only at Y;and_intros<;>lia
 have w:∀{u v},u≠v->u≠a/\u≠b->(u<v/\(u,v)≠(a,b))\/(v<u/\(v,u)≠(a,b)):=λ{u v} h1 h2=>by
  rcases Nat.lt_or_gt_of_ne h1 with z|z
  .exact .inl ⟨z,λe=>h2.1 (AHz e).1⟩
  .exact .inr ⟨z,λe=>h2.2 (AHz e).2⟩
 have ta:=(O a).mp ⟨k F<|w hp.1 ⟨hp.1,hp.2.1⟩,k B<|w hp.2.2.1 hp.2.2⟩;have tb:=(O b).mp ⟨k R<|w hp.2.1 ⟨hp.1,hp.2.1⟩,k G<|w hp.2.2.2 hp.2.2⟩;intro t;rw[O];constructor<;>lia
def T3(n:Nat)(S:List NN)(i j k:Nat):Prop:=i<j/\j<k/\k<n/\J n S i j/\J n S j k/\J n S i k
section
variable{n:Nat}{S:List NN}(C:Ct n S){P:Nat->Prop}(h0:P 0)(h1:P 1)(h:∀u v w,T3 n S u v w->(P u->P v->P w)/\(P u->P w->P v))
include C h0 h1 h
end
section
variable{n:Nat}{S:List NN}(C:Ct n S)
include C
variable{L:List (Nat×Nat×Nat)}(nd:L.Nodup)(hL:∀u v w,(u,v,w)∈L↔T3 n S u v w)
include nd hL
end
section
variable{n:Nat}{S:List NN}(C:Ct n S)
include C
theorem Ct.AEG:∃c,T3 n S 0 c<|n-1:=by have z:=C.ln;obtain⟨c,y,q,v,p,_⟩:=C.IT (by subst z;lia)<|.inl C.root;exact⟨c,y,q,Wv z,(C.Jq y v).J,(C.Jq q p).J,.inr<|.inr ⟨rfl,rfl⟩⟩
theorem Ct.dn{a b:Nat}(ab:a<b)(bn:b<n)(h:jn S a b):full S a b/\∃d,d<n/\(d<a\/b<d)/\JJ n S d a/\JJ n S d b:=by
 have z:=C.ln;exact C.down ab h (n-1) 0 (n-1) U U (Wv z) (.inr<|.inr ⟨rfl,rfl⟩) (.inl C.root) Rx U λe=>by
  rcases h with h|h
  .lia
  .exact C.rt (by rw[<-e];exact h)
theorem Ct.lC{a b:Nat}(h:(a,b)∈S):∃c,T3 n S a c b:=by have f:=C.Ba _ h;have l:=C.lt _ h;dsimp only at f l;obtain⟨q,_⟩:=C.dn (LL f) l<|.inr h;obtain⟨c,z,y,v,p,_⟩:=C.IT f<|.inr q;exact⟨c,z,y,l,(C.Jq z v).J,(C.Jq y p).J,.inr<|.inl h⟩
end
noncomputable def off(n e k:Nat):Nat:=if e<=k then k-e else k+n-e
theorem CV{n e k:Nat}(en:e<n):(e<=k/\off n e k+e=k)\/(k<e/\off n e k+e=k+n):=by unfold off;split<;>lia
theorem XD{n e k:Nat}(z:e<n)(kn:k<n):off n e k<n:=by have:=CV (k:=k) z;lia
theorem Gm{n e:Nat}:off n e e=0:=by unfold off;rw[AFu<|AF5 _];lia
theorem iz{n e k:Nat}(z:e<n)(ke:k≠e):0<off n e k:=by have:=CV (k:=k) z;lia
theorem XC{n e x y:Nat}(xn:x<n)(yn:y<n)(z:e<n)(h:off n e x=off n e y):x=y:=by have:=CV (k:=x) z;have:=CV (k:=y) z;lia
section
variable{n:Nat}{S:List NN}(C:Ct n S)
include C
theorem Ct.Rf{i j k l:Nat}(y:i<j)(q:j<k)(kl:k<l)(ln:l<n)(a:JJ n S i k)(b:JJ n S j l):False:=by
 have a:=a.resolve_right λz=>U
 have b:=b.resolve_right λz=>U
 rcases a.2 with x|x|x
 .lia
 .exact C.nX x b.2<|.inl ⟨y,q,kl⟩
 .lia
theorem Ct.MK{e p q t:Nat}(y:e<n)(pn:p<n)(Y:q<n)(tn:t<n)(h1:0<off n e p)(h2:off n e p<off n e q)(h3:off n e q<off n e t)(a:JJ n S e q)(b:JJ n S p t):False:=by
 rcases CV (k:=p) y with o1|o1
 .rcases CV (k:=q) y with Z|Z
  .rcases CV (k:=t) y with v|v
   .exact C.Rf U U U tn a b
   .exact C.Rf v.1 U U Y b.symm a
  .rcases CV (k:=t) y with v|v
   .lia
   .exact C.Rf U v.1 U pn a.symm b.symm
 .have Z:=(CV (k:=q) y).resolve_left λz=>U
  have v:=(CV (k:=t) y).resolve_left λz=>U
  exact C.Rf U U v.1 y b a.symm
theorem Ct.SS{e p:Nat}(y:e<n)(pn:p<n)(h:JJ n S e p)(lt:off n e p+1<n):∃t,t<n/\off n e p<off n e t/\JJ n S e t/\JJ n S p t:=by
 have o:=CV (k:=p) y;rcases h with⟨q,j⟩|⟨pe,j⟩
 .have o:=o.resolve_right λz=>U
  have v:jn S e p:=by
   rcases j with z|z|z
   .exact .inl z
   .exact .inr z
   .lia
  obtain⟨_,d,Z,d1,Y,Q⟩:=C.dn q pn v;have:=CV (k:=d) y;exact⟨d,Z,U,Y.symm,Q.symm⟩
 .have o:=o.resolve_left λz=>U
  obtain⟨c,t1,t2,t3,O,P,t6⟩:∃c,T3 n S p c e:=by
   rcases j with z|z|⟨rfl,rfl⟩
   .lia
   .exact C.lC z
   .exact C.AEG
  have:=CV (k:=c) y;exact⟨c,U,U,.inr ⟨t2,P⟩,.inl ⟨t1,O⟩⟩
theorem Ct.AEf{e:Nat}(z:e<n):∃p,p<n/\off n e p=1/\JJ n S e p:=by
 have n3:=C.ln;by_cases c:e+1<n
 .have:=CV (k:=e+1) z;exact⟨e+1,c,U,.inl ⟨EU,.inl rfl⟩⟩
 .have:=CV (k:=0) z;exact⟨0,U,U,.inr ⟨U,.inr<|.inr ⟨rfl,U⟩⟩⟩
theorem Ct.gap{e x:Nat}(y:e<n)(Z:x<n)(xe:x≠e)(Y:¬ JJ n S e x):∃p q,p<n/\q<n/\0<off n e p/\off n e p<off n e x/\off n e x<off n e q/\JJ n S e p/\JJ n S e q/\JJ n S p q:=by
 have n3:=C.ln;obtain⟨w,Q,w1,O⟩:=C.AEf y;have x0:=iz y xe;have xl:=XD y Z;have v:∀(k p:Nat),off n e x-off n e p<=k->p<n->0<off n e p->off n e p<off n e x->JJ n S e p->∃p q,p<n/\q<n/\0<off n e p/\off n e p<off n e x/\off n e x<off n e q/\JJ n S e p/\JJ n S e q/\JJ n S p q:=by
  intro k
  induction k with
  |zero=>intro p a _ _ b;omega
  |succ k ih=>
   intro p a pn P b j;obtain⟨t,tn,t1,t2,t3⟩:=C.SS y pn j U;rcases AHt (off n e t) (off n e x)with z|z|z
   .exact ih t U tn U z t2
   .exact absurd (XC tn Z y z ▸ t2) Y
   .exact⟨p,t,pn,tn,P,b,z,j,t2,t3⟩
 refine v n w U Q U ?_ O;rcases AJU 1 (off n e x)with z|z
 .lia
 .exact absurd (XC Q Z y U ▸ O) Y
end
theorem oA{n:Nat}{S T:List NN}(C:Ct n S)(D:Ct n T){e a b x:Nat}(y:e<n)(v:x<n)(xe:x≠e)(ab:off n e a<off n e b)(O:JJ n S e x)(nx:¬ JJ n T e x)(dn:∀p q,p<n->q<n->JJ n T e p->JJ n T e q->JJ n T p q->off n e p<off n e q->(p=a/\q=b)\/JJ n S p q):off n e a<off n e x/\off n e x<off n e b:=by
 obtain⟨p,q,pn,Z,P,Y,Q,F,R,B⟩:=D.gap y v xe nx;rcases dn p q pn Z F R B U with⟨rfl,rfl⟩|z
 .exact⟨Y,Q⟩
 .exact(C.MK y pn v Z P Y Q O z).elim
theorem Ct.ADG{n:Nat}{S:List NN}(C:Ct n S){e x:Nat}(z:e<n)(y:x<n)(x1:1<off n e x)(v:off n e x+1<n)(j:JJ n S e x):∃p q,p<n/\q<n/\0<off n e p/\off n e p<off n e x/\off n e x<off n e q/\JJ n S e p/\JJ n S p x/\JJ n S x q/\JJ n S e q:=by
 obtain⟨q,Z,Y,Q,q3⟩:=C.SS z y j v;have o1:=CV (k:=x) z;have o2:=CV (k:=e) y;have x3:off n x e+off n e x=n:=U
 obtain⟨p,pn,O,P,p3⟩:=C.SS y z j.symm U;have o3:=CV (k:=p) y;have o4:=CV (k:=p) z;refine⟨p,q,pn,Z,iz z λc=>?_,U,Y,p3,P.symm,q3,Q⟩;rw[c]at O;lia
open AH (Line Rm)
theorem SU{n e k:Nat}(z:e<n)(y:k<n):(((k:Int)-(e+off n e k))%(n:Int))=0/\off n e k<n:=by
 refine⟨?_,XD z y⟩;rcases CV (k:=k) z with o|o
 .rw[show(k:Int)-(e+off n e k)=0 by lia]
  rfl
 .rw[show(k:Int)-(e+off n e k)=n*(-1)by lia,AGR]
theorem gS{r:List AH.Pt}(R:Rm r){S:List NN}(C:Ct r.length S)(ln:∀f∈S,Line r f.1 f.2){e i j:Nat}(y:e<r.length)(p:i<r.length)(Z:j<r.length)(h:off r.length e i<off r.length e j)(k:JJ r.length S i j):off r.length e j-off r.length e i=1\/off r.length e j-off r.length e i=r.length-1\/Line r (e+off r.length e i) (e+off r.length e j):=by
 have n3:=C.ln;obtain⟨q,_⟩:=SU y p;obtain⟨v,_⟩:=SU y Z;have oi:=CV (k:=i) y;have oj:=CV (k:=j) y;rcases k with⟨Y,z|z|z⟩|⟨Y,z|z|z⟩
 .left;lia
 .exact .inr<|.inr<|(ln _ z).congr q v
 .right;left;lia
 .right;left;lia
 .refine .inr<|.inr ?_;have L:=(ln _ z).congr v q;obtain⟨k,Sm⟩:=R.sm;rw[<-AH.LH (Bo R.l3) k]at L ⊢;exact AH.Line.symm Sm L
 .left;lia
open AH (Line Rm AD AA)
theorem xC{p x n i j:Int}(n0:0<=n)(h : -p*(n+1)-i<=-x*(n+1)-j)(o:i<j):x<p:=AHY.mp λc=>by have:=AGB (U:-x<=-p) (U:0<=n+1);lia
theorem xD{p x n i j:Int}(n0:0<=n)(h : -p*(n+1)-i<=-x*(n+1)-j)(o:i-j<n+1):x<=p:=AIR.mp λc=>by have:=AGB (U:-x+1<=-p) (U:0<=n+1);rw[Int.add_mul,AHX]at this;lia
theorem AEM{r:List AH.Pt}(R:Rm r){S T:List NN}(C:Ct r.length S)(D:Ct r.length T)(lS:∀f∈S,Line r f.1 f.2)(lT:∀f∈T,Line r f.1 f.2){e a b O:Nat}(y:e<r.length)(an:a<r.length)(F:b<r.length)(a0:0<off r.length e a)(ab:off r.length e a<off r.length e b)(ja:JJ r.length S e a)(jb:JJ r.length S e b)(Iw:JJ r.length T a b) (dn:∀p q,p<r.length->q<r.length->JJ r.length T e p->JJ r.length T e q->JJ r.length T p q->off r.length e p<off r.length e q->(p=a/\q=b)\/JJ r.length S p q) (v:O<r.length) (xe:O≠e) (Y:JJ r.length S e O) (nx:¬ JJ r.length T e O) : ∃x p q,x<r.length/\p<r.length/\q<r.length/\JJ r.length S e x/\¬ JJ r.length T e x/\x≠e/\0<off r.length e p/\off r.length e p<off r.length e x/\off r.length e x<off r.length e q/\JJ r.length S e p/\JJ r.length S p x/\JJ r.length S x q/\JJ r.length S e q/\Line r (e+off r.length e p) (e+off r.length e q):=by
 have n3:=C.ln;have ol:∀{k:Nat},k<r.length->off r.length e k<r.length:=λh=>(SU y h).2;obtain⟨x,v,⟨Y,nx,xe⟩,mx⟩:=AH.W2 (λk=>JJ r.length S e k/\¬ JJ r.length T e k/\k≠e) (λk=>-AD (AA r<|e+off r.length e a) (AA r<|e-(r.length-off r.length e b:Nat)) (AA r<|e+off r.length e k)*(r.length+1)-off r.length e k) r.length ⟨O,v,Y,nx,xe⟩;have ax:=oA C D y v xe ab Y nx dn;have lb:=ol F;obtain⟨p,q,pn,Z,E,n,H,jp,OW,OX,jq⟩:=C.ADG y v U U Y;have ap:off r.length e a<=off r.length e p:=AJK.mp λc=>C.MK y pn an v E c ax.1 ja OW;have qb:off r.length e q<=off r.length e b:=AJK.mp λc=>C.MK y v F Z U ax.2 c jb OX;have w:∀{k:Nat},k<r.length->off r.length e a<off r.length e k->off r.length e k<off r.length e b->¬ JJ r.length T e k:=λG h1 h2 t=>D.MK y an G F a0 h1 h2 t Iw;have I:=λ{i j:Nat}=>gS R C lS (e:=e) (i:=i) (j:=j) y;have z0:∀{k:Nat},k<r.length->0<off r.length e k->JJ r.length S e k->off r.length e k+1<r.length->off r.length e k=1\/Line r e (e+off r.length e k):=λ{k} G h j l=>by
  have:=I y G (by rw[Gm];exact h) j;rw[Gm,AKD,AI1,AGG]at this;rcases this with t|t|t
  .exact .inl t
  .lia
  .exact .inr t
 have sy:∀{i j:Int},Line r i j->Line r j i:=λL=>by obtain⟨k,Sm⟩:=R.sm;rw[<-AH.LH (Bo R.l3) k]at L ⊢;exact AH.Line.symm Sm L
 have zz:∀x:Int,(x-x)%(r.length)=0:=λx=>by rw[AGi];rfl
 have z1:∀{k:Nat},k<r.length->1<off r.length e k->JJ r.length S e k->r.length-off r.length e k=1\/Line r (e+off r.length e k) e:=λ{k} G h j=>by
  have:=I y G (by rw[Gm];lia) j;rw[Gm,AKD,AI1,AGG]at this;rcases this with t|t|t
  .lia
  .left;lia
  .exact .inr<|sy t
 have ex:=(z0 v U Y U).resolve_left U;have ea:=z0 an a0 ja U;have eb:r.length-off r.length e b=1\/Line r (e-(r.length-off r.length e b:Nat)) e:=(z1 F U jb).imp_right λL=>L.congr (by rw[show(e:Int)+off r.length e b-(e-((r.length-off r.length e b:Nat):Int))=r.length by lia];exact AGk)<|zz _;have gr:Line r (e-(r.length-off r.length e b:Nat))<|e+off r.length e a:=by
  rcases gS R D lT y an F ab Iw with t|t|t
  .lia
  .lia
  .exact(sy t).congr (by rw[show(e:Int)+off r.length e b-(e-((r.length-off r.length e b:Nat):Int))=r.length by lia];exact AGk) (zz _)
 have dx:=R.between (e:=e) (A:=off r.length e a) (B:=r.length-off r.length e b) (X:=off r.length e x) U U ax.1 U ea eb gr ex;have hp:=mx p pn;have hq:=mx q Z;have s0:=AH.FQ (AA r<|e+off r.length e a)<|AA r<|e-(r.length-off r.length e b:Nat);refine⟨x,p,q,v,pn,Z,Y,nx,xe,E,n,H,jp,OW,OX,jq,R.turn (e:=e) (A:=off r.length e a) (B:=r.length-off r.length e b) (P:=off r.length e p) (X:=off r.length e x) (Q:=off r.length e q) U ap n H U U ea eb gr ex (z0 pn E jp U) ?_ ?_ ?_ ?_ ?_⟩
 .exact(z1 Z U jq).imp_right λL=>L.congr (zz _) (by rw[show(e:Int)-(e+r.length)=r.length*(-1)by lia,AGR])
 .rcases I pn v n OW with t|t|t
  .exact .inl t
  .lia
  .exact .inr t
 .rcases I v Z H OX with t|t|t
  .exact .inl t
  .lia
  .exact .inr t
 .by_cases c:off r.length e p=off r.length e a
  .rw[c,s0.1];exact dx
  .have:=hp ⟨jp,w pn U U,λz=>by rw[z,Gm]at E;lia⟩;exact xC (Int.natCast_nonneg _) this U
 .by_cases c:off r.length e q=off r.length e b
  .rw[c,AH.Al (i:=e+off r.length e b) (j:=e-(r.length-off r.length e b:Nat)) (by rw[show(e:Int)+off r.length e b-(e-((r.length-off r.length e b:Nat):Int))=r.length by lia];exact AGk),s0.2];exact AFv dx
  .have:=hq ⟨jq,w Z U U,λz=>by rw[z,Gm]at H;lia⟩;have:=ol Z;exact xD (Int.natCast_nonneg _) ‹_› U
theorem q9{n:Nat}{S T:List NN}(C:Ct n S)(D:Ct n T){e a b:Nat}(y:e<n)(an:a<n)(q:b<n)(a0:0<off n e a)(ab:off n e a<off n e b)(v:JJ n S e a)(p:JJ n S e b)(Z:JJ n T a b)(all:∀x,x<n->x≠e->JJ n S e x->JJ n T e x):JJ n S a b:=by
 have lb:=XD y q;obtain⟨t,tn,t1,t2,t3⟩:=C.SS y an v U;rcases AHt (off n e t) (off n e b)with z|z|z
 .exact(D.MK y an tn q a0 t1 z (all t tn (λc=>by rw[c,Gm]at t1;lia) t2) Z).elim
 .exact XC tn q y z ▸ t3
 .exact(C.MK y an q tn a0 ab z p t3).elim
theorem JJ.turn{n:Nat}{S y:List NN}{l o:NN}(h:∀f,f∈y↔f=o\/(f∈S/\f≠l)){u v:Nat}(j:JJ n S u v)(d:l≠(u,v)/\l≠(v,u)):JJ n y u v:=by
 have g:∀{i k:Nat},l≠(i,k)->J n S i k->J n y i k:=λq z=>by
  rcases z with z|z|z
  .exact .inl z
  .exact .inr<|.inl<|(h _).mpr<|.inr ⟨z,λc=>q c.symm⟩
  .exact .inr<|.inr z
 rcases j with⟨a,b⟩|⟨a,b⟩
 .exact .inl ⟨a,g d.1 b⟩
 .exact .inr ⟨a,g d.2 b⟩
def hs(t:Nat×Nat×Nat)(u:Nat):Prop:=t.1=u\/t.2.1=u\/t.2.2=u
def Dn(n:Nat)(S:List NN)(t:Nat×Nat×Nat):Prop:=∀u v,hs t u->hs t v->u≠v->JJ n S u v
def Tr(n:Nat)(S:List NN)(t:Nat×Nat×Nat):Prop:=T3 n S t.1 t.2.1 t.2.2
theorem JJ.symm{n:Nat}{S:List NN}{u v:Nat}(h:JJ n S u v):JJ n S v u:=AKG h
theorem Tr.dn{n:Nat}{S:List NN}{t:Nat×Nat×Nat}(h:Tr n S t):Dn n S t:=by
 obtain⟨i,j,k⟩:=t;obtain⟨z,y,h3,q,p,Z⟩:=h;dsimp only at *
 intro u v Y Q d;have a:JJ n S i j:=.inl ⟨z,q⟩;have b:JJ n S j k:=.inl ⟨y,p⟩;have c:JJ n S i k:=.inl ⟨U,Z⟩;rcases Y with rfl|rfl|rfl<;>rcases Q with rfl|rfl|rfl<;>first|exact absurd rfl d|assumption|exact JJ.symm AFr
theorem kT{n:Nat}{S:List NN}{u v w:Nat}(un:u<n)(q:v<n)(p:w<n)(a:JJ n S u v)(b:JJ n S u w)(c:JJ n S v w):∃t,Tr n S t/\hs t u/\hs t v/\hs t w:=by
 have k:∀{i j k:Nat},k<n->i<j/\J n S i j->j<k/\J n S j k->i<k/\J n S i k->Tr n S (i,j,k):=λh x y z=>⟨x.1,y.1,h,x.2,y.2,z.2⟩;unfold hs;rcases a with a|a<;>rcases b with b|b<;>rcases c with c|c
 .exact⟨_,k p a c b,AFn⟩
 .exact⟨_,k q b c a,AFn⟩
 .lia
 .exact⟨_,k q b a c,AFn⟩
 .exact⟨_,k p a b c,AFn⟩
 .lia
 .exact⟨_,k un c b a,AFn⟩
 .exact⟨_,k un c a b,AFn⟩
theorem Tr.off{n:Nat}{S:List NN}{t:Nat×Nat×Nat}(h:Tr n S t){e:Nat}(he:hs t e):e<n/\∃a b,a<n/\b<n/\0<off n e a/\off n e a<off n e b/\hs t a/\hs t b/\∀u,hs t u->u=e\/u=a\/u=b:=by
 obtain⟨i,j,k⟩:=t;obtain⟨h1,h2,h3,h4,h5,h6⟩:=h;unfold hs at *
 dsimp only at *
 have z:e<n:=U
 have oi:=CV (k:=i) z;have oj:=CV (k:=j) z;have ok:=CV (k:=k) z;refine⟨z,?_⟩;rcases he with rfl|rfl|rfl
 .exact⟨j,k,U,h3,U,U,AFn,AFn,U⟩
 .exact⟨k,i,h3,U,U,U,AFn,AFn,U⟩
 .exact⟨i,j,U,U,U,U,AFn,AFn,U⟩
section
variable{n:Nat}{S T:List NN}(C:Ct n S)(D:Ct n T){L:List (Nat×Nat×Nat)}(hL:∀t∈L,Tr n T t)(inv:∀t,Tr n T t->t∈L\/Dn n S t){t0:Nat×Nat×Nat}(m0:t0∈L){e:Nat}(he:hs t0 e)(un:∀t∈L,hs t e->t=t0)
include D hL inv m0 he un
theorem Qq{u:Nat}(Z:hs t0 u)(P:u≠e):JJ n S e u:=by
 have tr:=hL _ m0;obtain⟨H,_⟩:=tr.off he;have I:=(tr.off Z).1;have Y:∀l:NN,l∈T->(l=(e,u)\/l=(u,e))->JJ n S e u:=λl f hl=>by
  obtain⟨p,q,pq,qn,_,v⟩:=D.TH (a:=l.1) (b:=l.2) f;have v:∀t,JJ n T t e/\JJ n T t u↔t=p\/t=q:=λt=>by
   rw[<-v];rcases hl with rfl|rfl
   .exact Iff.rfl
   .exact And.comm
  have ne:∀w,hs t0 w->w≠e->w≠u->w=p\/w=q:=λw Q a b=>(v w).mp ⟨tr.dn w e Q he a,tr.dn w u Q Z b⟩;have ex:∀w,w<n->(w=p\/w=q)->¬ hs t0 w->JJ n S e u:=λw wn Q nw=>by
   obtain⟨a,b⟩:=(v w).mpr Q;obtain⟨t,t1,t2,t3,R⟩:=kT H I wn (tr.dn e u he Z λz=>P z.symm) a.symm b.symm;rcases inv t t1 with z|z
   .rw[un t z t2]at R;exact absurd R nw
   .exact z e u t2 t3 λz=>P z.symm
  have xy:∀x y,hs t0 x->hs t0 y->x=y\/x=e\/x=u\/y=e\/y=u:=λx y hx hy=>by obtain⟨_,a,b,_,_,_,_,_,_,F⟩:=tr.off he;have:=F x hx;have:=F y hy;have:=F u Z;lia
  have B:=(v p).mpr<|.inl rfl;have G:=(v q).mpr<|.inr rfl;have O:∀x,¬ JJ n T x x:=λx h=>by rcases h with h|h<;>lia
  by_cases hp:hs t0 p
  .by_cases E:hs t0 q
   .rcases xy p q hp E with z|z|z|z|z
    .lia
    .exact(O e<|z ▸ B.1).elim
    .exact(O u<|z ▸ B.2).elim
    .exact(O e<|z ▸ G.1).elim
    .exact(O u<|z ▸ G.2).elim
   .exact ex q qn (.inr rfl) E
  .exact ex p U (.inl rfl) hp
 rcases tr.dn e u he Z λz=>P z.symm with⟨a,b|b|b⟩|⟨a,b|b|b⟩
 .exact .inl ⟨a,.inl b⟩
 .exact Y _ b<|.inl rfl
 .exact .inl ⟨a,.inr<|.inr b⟩
 .exact .inr ⟨a,.inl b⟩
 .exact Y _ b<|.inr rfl
 .exact .inr ⟨a,.inr<|.inr b⟩
theorem q8{a b:Nat}(ab:off n e a<off n e b)(Y:∀u,hs t0 u->u=e\/u=a\/u=b)(p q:Nat)(pn:p<n)(P:q<n)(Q:JJ n T e p)(O:JJ n T e q)(h3:JJ n T p q)(lt:off n e p<off n e q):(p=a/\q=b)\/JJ n S p q:=by
 obtain⟨F,_⟩:=(hL _ m0).off he;have v:∀{x y},JJ n T x y->x≠y:=λh=>by rcases h with h|h<;>lia
 obtain⟨t,t1,t2,t3,Z⟩:=kT F pn P Q O h3;rcases inv t t1 with z|z
 .rw[un t z t2]at t3 Z;have:=v Q;have:=v O;have:=v h3;rcases Y p t3 with c|rfl|rfl
  .lia
  .rcases Y q Z with c|c|rfl
   .lia
   .lia
   .exact .inl ⟨rfl,rfl⟩
  .rcases Y q Z with c|rfl|rfl
   .lia
   .lia
   .lia
 .exact .inr<|z p q t3 Z<|v h3
include C
theorem rA(all:∀l∈S,l.1=e\/l.2=e->l∈T):Dn n S t0:=by
 have tr:=hL _ m0;obtain⟨p,a,b,an,Z,a0,ab,ha,y,q⟩:=tr.off he;have Y:a≠e:=λz=>by rw[z,Gm]at a0;lia
 have Q:b≠e:=λz=>by rw[z,Gm]at ab;lia
 have O:a≠b:=λz=>by rw[z]at ab;lia
 have P:=Qq D hL inv m0 he un ha Y;have F:=Qq D hL inv m0 he un y Q;have Iw:=q9 C D p an Z a0 ab P F (tr.dn a b ha y O) λx xn xe j=>by
  rcases j with⟨c,d|d|d⟩|⟨c,d|d|d⟩
  .exact .inl ⟨c,.inl d⟩
  .exact .inl ⟨c,.inr<|.inl<|all _ d<|.inl rfl⟩
  .exact .inl ⟨c,.inr<|.inr d⟩
  .exact .inr ⟨c,.inl d⟩
  .exact .inr ⟨c,.inr<|.inl<|all _ d<|.inr rfl⟩
  .exact .inr ⟨c,.inr<|.inr d⟩
 intro u v R B G;rcases q u R with rfl|rfl|rfl<;>rcases q v B with rfl|rfl|rfl<;>first|exact absurd rfl G|assumption|exact JJ.symm AFr
end
theorem AES{n:Nat}{S T:List NN}{u v:Nat}(j:JJ n S u v)(nx:¬ JJ n T u v):∃l∈S,(l=(u,v)\/l=(v,u))/\l∉T:=by
 have k:∀{a b},J n S a b->¬ J n T a b->(a,b)∈S/\(a,b)∉T:=λh g=>by
  rcases h with h|h|h
  .exact absurd (.inl h) g
  .exact⟨h,λz=>g<|.inr<|.inl z⟩
  .exact absurd (.inr<|.inr h) g
 rcases j with⟨c,d⟩|⟨c,d⟩
 .have z:=k d λz=>nx<|.inl ⟨c,z⟩;exact⟨_,z.1,.inl rfl,z.2⟩
 .have z:=k d λz=>nx<|.inr ⟨c,z⟩;exact⟨_,z.1,.inr rfl,z.2⟩
section
open AH (Line Rm)
variable{r:List AH.Pt}(R:Rm r){S T:List NN}(C:Ct r.length S)(D:Ct r.length T)(lS:∀f∈S,Line r f.1 f.2)(lT:∀f∈T,Line r f.1 f.2){L:List (Nat×Nat×Nat)}(hL:∀t∈L,Tr r.length T t)(inv:∀t,Tr r.length T t->t∈L\/Dn r.length S t){t0:Nat×Nat×Nat}(m0:t0∈L){e:Nat}(he:hs t0 e)(un:∀t∈L,hs t e->t=t0)
include R C D lS lT hL inv m0 he un
theorem rD{Z:NN}(y:Z∈S)(Y:Z.1=e\/Z.2=e)(Q:Z∉T):∃l∈S,(l.1=e\/l.2=e)/\l∉T/\∃p q,p<q/\q<r.length/\X l (p,q)/\(∀t,JJ r.length S t l.1/\JJ r.length S t l.2↔t=p\/t=q)/\Line r p q:=by
 have tr:=hL _ m0;obtain⟨B,a,b,an,bn,a0,ab,ha,G,Ft⟩:=tr.off he;have ae:a≠e:=λz=>by rw[z,Gm]at a0;lia
 have be:b≠e:=λz=>by rw[z,Gm]at ab;lia
 have W5:a≠b:=λz=>by rw[z]at ab;lia
 have f0:=C.Ba _ y;have b0:=C.lt _ y;have E:∃x,x<r.length/\x≠e/\JJ r.length S e x/\¬ JJ r.length T e x:=by
  have nw:∀{u v:Nat},(u,v)∈S->¬ J r.length T u v->u<v->¬ JJ r.length T u v:=λ_ h1 h2 c=>by
   rcases c with c|c
   .exact h1 c.2
   .lia
  have nJ:¬ J r.length T Z.1 Z.2:=λc=>by
   rcases c with c|c|c
   .lia
   .exact Q c
   .exact C.rt (by rw[<-c.1,<-c.2];exact y)
  have H:=nw y nJ U;rcases Y with rfl|rfl
  .exact⟨Z.2,b0,U,.inl ⟨U,.inr<|.inl y⟩,H⟩
  .exact⟨Z.1,U,U,.inr ⟨U,.inr<|.inl y⟩,λc=>H c.symm⟩
 obtain⟨E,O,P,wL,yM⟩:=E;obtain⟨x,p,q,xn,pn,qn,jx,nx,xe,p0,px,xq,jp,OW,OX,jq,ln⟩:=AEM R C D lS lT B an bn a0 ab (Qq D hL inv m0 he un ha ae) (Qq D hL inv m0 he un G be) (tr.dn a b ha G W5) (q8 D hL inv m0 he un ab Ft) O P wL yM;obtain⟨l,y,Y,Q⟩:=AES jx nx;obtain⟨I,n,pq,F,hx,ht⟩:=C.TH (a:=l.1) (b:=l.2) y;have f9:∀t,JJ r.length S t e/\JJ r.length S t x->t=I\/t=n:=λt h=>(ht t).mp (by
  rcases Y with rfl|rfl
  .exact h
  .exact h.symm)
 have hp:=f9 p ⟨jp.symm,OW⟩;have hq:=f9 q ⟨jq.symm,OX.symm⟩;refine⟨l,y,by rcases Y with rfl|rfl<;>simp,Q,I,n,pq,F,hx,ht,?_⟩;have z:∀{k:Nat},k<r.length->((e:Int)+off r.length e k-k)%r.length=0:=λh=>by rw[<-Int.neg_sub];exact AJY<|Int.dvd_neg.mpr<|AJZ (SU B h).1
 have ln:Line r p q:=ln.congr (z pn)<|z qn;rcases hp with rfl|rfl<;>rcases hq with rfl|rfl
 .lia
 .exact ln
 .obtain⟨k,Sm⟩:=R.sm;rw[<-AH.LH (Bo R.l3) k]at ln ⊢;exact AH.Line.symm Sm ln
 .lia
end
theorem Tr.mid{n:Nat}{T:List NN}(D:Ct n T){i j k x:Nat}(h:Tr n T (i,j,k))(z:JJ n T j x)(xn:x<n):i<=x/\x<=k:=by
 obtain⟨h1,h2,h3,h4,h5,y⟩:=h;dsimp only at *
 rcases y with c|c|c
 .lia
 .rcases z with⟨a,b⟩|⟨a,b⟩<;>(have:=D.nX c b;unfold X at this;dsimp only at this;lia)
 .lia
theorem rB{n:Nat}{T:List NN}(D:Ct n T){L:List (Nat×Nat×Nat)}(Y:∀t∈L,Tr n T t){t:Nat×Nat×Nat}(y:t∈L):∃q∈L,∃e,hs q e/\∀t∈L,hs t e->t=q:=by
 suffices ∀m,∀t∈L,t.2.2-t.1<=m->∃q∈L,∃e,hs q e/\∀t∈L,hs t e->t=q from this _ t y (AF5 _)
 intro m
 induction m with
 |zero=>exact λt y h=>by have w:=Y t y;have:=w.1;have:=w.2.1;lia
 |succ m ih=>
  intro t y h;by_cases c:∃u∈L,u.2.2-u.1<t.2.2-t.1
  .obtain⟨u,p,c⟩:=c;exact ih u p U
  .refine⟨t,y,t.2.1,.inr<|.inl rfl,λu p Q=>?_⟩;have c:¬ u.2.2-u.1<t.2.2-t.1:=λz=>c ⟨u,p,z⟩;have v:=Y t y;have Z:=Y u p;have b:∀x,hs u x->t.1<=x/\x<=t.2.2:=λx O=>by
    by_cases z:x=t.2.1
    .have:=v.1;have:=v.2.1;lia
    .exact v.mid D (Z.dn _ _ Q O λw=>z w.symm)<|(Z.off O).1
   have b1:=b u.1<|.inl rfl;have b2:=b u.2.2<|.inr<|.inr rfl;have:=v.1;have:=v.2.1;have:=Z.1;have:=Z.2.1
   have P:u.1=t.1/\u.2.2=t.2.2:=by clear Q;lia
   exact AGy P.1<|AGy (((Q.resolve_left λz=>U).resolve_right λz=>U)) P.2
theorem Xa{α:Type}[BEq α][LawfulBEq α]:∀{T S:List α},T.Nodup->(∀x∈T,x∈S)->S.length<=T.length->T.Perm S
 |[],S,_,_,h=>by rw[List.eq_nil_of_length_eq_zero<|Nat.le_zero.mp h]
 |x::T,S,nd,sb,h=>by obtain⟨v,p⟩:=AHL.mp nd;have m:=sb x AF3;refine .trans (.cons x<|Xa p (λy q=>(AJo (b:=x) λz:y=x=>v (by rw[<-z];exact q)).mpr<|sb y<|AFz _ q) ?_) (AJp m).symm;rw[AIi m];exact Nat.sub_le_of_le_add h
theorem AC0{n:Nat}{S T:List NN}(C:Ct n S)(D:Ct n T)(all:∀t,Tr n T t->Dn n S t):T.Perm S:=Xa D.nd (λl y=>by
 obtain⟨c,hc⟩:=D.lC (a:=l.1) (b:=l.2) y;have f:=D.Ba l y;rcases all (l.1,c,l.2) hc l.1 l.2 (.inl rfl) (.inr<|.inr rfl) U with⟨_,z|z|z⟩|⟨z,_⟩
 .lia
 .exact z
 .exact absurd (by rw[<-z.1,<-z.2];exact y) D.rt
 .lia) (by have:=C.ln;have:=D.ln;lia)
theorem Dn.turn{n:Nat}{S Q T:List NN}(C:Ct n S){l o:NN}(q:l∈S)(D:l∉T)(h:∀f,f∈Q↔f=o\/(f∈S/\f≠l)){t:Nat×Nat×Nat}(O:Tr n T t)(d:Dn n S t):Dn n Q t:=λu v p Z Y=>by
 have f:=C.Ba l q;have P:∀{x y:Nat},JJ n T x y->l≠(x,y):=λj e=>by
  subst e;rcases j with⟨_,z|z|z⟩|⟨z,_⟩
  .dsimp only at f;lia
  .exact D z
  .exact C.rt (by rw[z.1,z.2]at q;exact q)
  .dsimp only at f;lia
 exact(d u v p Z Y).turn h ⟨P<|O.dn u v p Z Y,P<|O.dn v u Z p λe=>Y e.symm⟩
noncomputable def JV(e:Nat)(l:NN):Bool:=decide (l.1=e\/l.2=e)
theorem AEN{S z:List NN}(nd:S.Nodup){l:NN}(y:l∈S){p q e:Nat}(he:l.1=e\/l.2=e)(v:X l (p,q))(h:z.Perm ((p,q)::S.filter λf=>f != l)):z.countP (JV e)+1=S.countP (JV e):=by
 rw[h.countP_eq,(AJp y).countP_eq,nd.erase_eq_filter,AHm,AHm,AF0,AFu]
 .unfold JV;exact AG4 he
 .unfold JV;unfold X at v;rw[AF2];dsimp only at *
  lia
end Ad
namespace L2.EV
open L2.PL
abbrev Pt:=AH.Pt
noncomputable def pv(p:Pt):PV:=.tup [.int p.1,.int p.2]
def AJ(r:List Pt):List PV:=r.map pv
noncomputable abbrev cB(b:Bool):Option RV:=some<|.cl<|.bl b
noncomputable abbrev cI(x:Int):Option RV:=some<|.cl<|.int x
noncomputable abbrev iM(a:PV):Option SV:=some<|.im a
noncomputable abbrev iI(x:Int):Option SV:=some<|.im<|.int x
abbrev iL(r:List Pt):Option SV:=some<|.im<|.lst<|AJ r
theorem Bs(r:List Pt):(AJ r).length=r.length:=AFs ..
def Bd(n:Int)(p:Pt):Prop:=-n<=p.1/\p.1<=n/\-n<=p.2/\p.2<=n
theorem GK{i j:Int}(h : -1000000<=i/\i<=1000000):FV i j:=.inl ⟨AFo,AFo⟩
theorem DM(p:Pt):Am (.cl<|pv p) (.cl<|.int 0)=cI p.1:=rfl
theorem DX(p:Pt):Am (.cl<|pv p) (.cl<|.int 1)=cI p.2:=rfl
theorem LB(i j:Int):Bn (.cl<|.int i) (.cl<|.int j)=cB (i==j):=by simp[Bn,RV.any,Ah,PySem.SeqAt.shaped,PySem.PyData.canLay0,PySem.PyData.depth,PySem.PyData.eqv]
theorem LF(i j:Int):CL (.cl<|.int i) (.cl<|.int j)=cB (!(i==j)):=by simp[CL,RV.any,Ah,PySem.SeqAt.shaped,PySem.PyData.canLay0,PySem.PyData.depth,PySem.PyData.eqv]
theorem wM(i j:Bool):Bn (.cl<|.bl i) (.cl<|.bl j)=cB (i==j):=by simp[Bn,RV.any,Ah,PySem.SeqAt.shaped,PySem.PyData.canLay0,PySem.PyData.depth,PySem.PyData.eqv]
theorem gj(i j:Bool):CL (.cl<|.bl i) (.cl<|.bl j)=cB (!(i==j)):=by simp[CL,RV.any,Ah,PySem.SeqAt.shaped,PySem.PyData.canLay0,PySem.PyData.depth,PySem.PyData.eqv]
theorem JA(i j:Int):Cc (.cl<|.int i) (.cl<|.int j)=cB (decide (i<j)):=rfl
theorem Iz(i j:Int):Cs (.cl<|.int i) (.cl<|.int j)=cB (decide (i<=j)):=rfl
theorem FE(i j:Int):B3 (.cl<|.int i) (.cl<|.int j)=cB (decide (j<i)):=rfl
theorem DB(i j:Int):BK (.cl<|.int i) (.cl<|.int j)=cI (i-j):=rfl
theorem J4(i j:Int):A4 (.cl<|.int i) (.cl<|.int j)=cI (i+j):=rfl
theorem Gj{i j:Int}(h:FV i j):Dq (.cl<|.int i) (.cl<|.int j)=cI (i*j):=by simp[Dq,kI,h]
theorem FF{i j:Int}(h:0<j):BU (.cl<|.int i) (.cl<|.int j)=cI (i%j):=by simp[BU,kI,h]
theorem gd{i j:Int}(h:0<j)(z:j<1073741824):DW (.cl<|.int i) (.cl<|.int j)=cI (i / j):=by simp[DW,kI,NF,h,z]
theorem Fh(ps:List PV):Dp [.cl<|.lst ps]=cI ps.length:=rfl
theorem wQ(ps:List PV):Dp [.bo ps]=cI ps.length:=rfl
theorem gi(ps:List PV):Dp [.fr ps]=cI ps.length:=rfl
theorem vf(i j:Int):(if j<i then j else i)=min i j:=AFm
theorem ve(i j:Int):(if j>i then j else i)=max i j:=U
theorem Rl(i j:Int):Hj [.cl<|.int i,.cl<|.int j]=cI (min i j):=by simp only[Hj,vf]
theorem MN(i j:Int):F5 [.cl<|.int i,.cl<|.int j]=cI (max i j):=by simp only[F5,ve]
noncomputable def Dk(i:Int):Int:=if i<0 then -i else i
theorem OY(i:Int):Hi [.cl<|.int i]=cI (Dk i):=rfl
set_option tactic.hygienic false
theorem ACp(n:Nat):Mq 0 (n)=(List.range n).map λk:Nat=>PV.int<|k:=by apply AHk;intro k _;rw[show(0:Int)+(k)=k by lia]
theorem ju(i j:Int):Mq i j=(List.range (j-i).toNat).map λk:Nat=>PV.int<|i+(k):=rfl
section
variable{α β:Type}{enc:α->PV}
theorem D8{g:GF}{t:BF}{fe:EF}{q:AS}{c:α->Bool}{h:α->PV}:∀{xs:List α},(∀x∈xs,∃z,g (enc x) q=some z/\t z=some (c x)/\(c x=true->∃r,fe z=some r/\r.clean=some (h x)))->collect g t fe q (xs.map enc)=some ((xs.filter c).map h)
 |[],_=>rfl
 |x::xs,H=>by
  have v:=D8 λy p=>H y<|AFz _ p;obtain⟨z,Z,Y,e3⟩:=H x AF3;rw[AF6];unfold collect;rw[Z];dsimp only;rw[Y];cases hc:c x with
  |false=>
   dsimp only;rw[v,List.filter_cons_of_neg<|by simp[hc]]
  |true=>
   obtain⟨r,Q,O⟩:=e3 hc;dsimp only;rw[Q];dsimp only;simp only[O,v,List.filter_cons_of_pos hc,AF6]
theorem GL{g:GF}{fe:EF}{y:AS}{h:α->PV}{xs:List α}(H:∀x∈xs,∃z r,g (enc x) y=some z/\fe z=some r/\r.clean=some (h x)):collect g Bh fe y (xs.map enc)=some (xs.map h):=by
 have:=D8 (t:=Bh) λx q=>by obtain⟨z,r,v,p,e3⟩:=H x q;exact⟨z,v,rfl,λ_=>⟨r,p,e3⟩⟩
 rw[this,AJw.mpr λ_ _=>rfl]
theorem Hk{gt:GF}{body:SF}{c:α->Bool}{r:RV}(I:AS->Prop):∀{xs:List α}{ρ:AS},I ρ->(∀x∈xs,∀ρ,I ρ->∃z,gt (enc x) ρ=some z/\(c x=true->body z=some (.rt r))/\(c x=false->∃q,body z=some (.nx q)/\I q))->(xs.any c=true->DN gt body (xs.map enc) ρ=some (.rt r))/\(xs.any c=false->∃ρ',DN gt body (xs.map enc) ρ=some (.nx ρ')/\I ρ')
 |[],ρ,hI,_=>⟨λh=>by simp at h,λ_=>⟨ρ,rfl,hI⟩⟩
 |x::xs,ρ,hI,H=>by
  obtain⟨z,v,p,Z⟩:=H x AF3 ρ hI;rw[AF6,AG8];unfold DN;rw[v];dsimp only;cases hc:c x with
  |true=>
   rw[p hc];exact⟨λ_=>rfl,λh=>by simp at h⟩
  |false=>
   obtain⟨q,Y,Q⟩:=Z hc;rw[Y];exact Hk I Q λy O=>H y<|AFz _ O
theorem Wr{gt:GF}{body:SF}(f:β->α->β)(R:β->AS->Prop):∀{xs:List α}{b:β}{ρ:AS},R b ρ->(∀x∈xs,∀b ρ,R b ρ->∃z q,gt (enc x) ρ=some z/\body z=some (.nx q)/\R (f b x) q)->∃ρ',DN gt body (xs.map enc) ρ=some (.nx ρ')/\R (xs.foldl f b) ρ'
 |[],b,ρ,hR,_=>⟨ρ,rfl,hR⟩
 |x::xs,b,ρ,hR,H=>by obtain⟨z,q,v,p,Z⟩:=H x AF3 b ρ hR;rw[AF6];unfold DN;rw[v];dsimp only;rw[p];exact Wr f R Z λy Y=>H y<|AFz _ Y
end
theorem nq(r:List Pt)(i:Int)(q : -(r.length)<=i)(y:i<r.length):CM (AJ r) i=some (pv<|AH.AA r i):=by
 delta CM Gh
 rw[Bs];by_cases z:0<=i
 .rw[AFu z,AFu y];have hi:i.toNat<r.length:=U
  simp only[AGS,AJ];unfold AH.AA;rw[AFt z y];simp[List.getD,AGF hi]
 .rw[AF0 z,AFu q];have hi:(i+r.length).toNat<r.length:=U
  simp only[AGS,AJ];unfold AH.AA;rw[<-AJG i r.length,AFt U U];simp[List.getD,AGF hi]
theorem CK(r:List Pt)(i:Int)(z : -(r.length)<=i)(y:i<r.length):Am (.cl<|.lst<|AJ r) (.cl<|.int i)=some (.cl<|pv<|AH.AA r i):=by show(CM (AJ r) i).map _=_;rw[nq r i z y];rfl
theorem QQ(bs:List Bool):Fu (bs.map PV.bl)=some bs:=by
 induction bs with
 |nil=>rfl
 |cons b bs ih=>rw[AF6,Fu,ih];rfl
theorem Ra(bs:List Int):C1 (bs.map PV.int)=some bs:=by
 induction bs with
 |nil=>rfl
 |cons b bs ih=>rw[AF6,C1,ih];rfl
open L2.PL L2.K
open AH (AD Aj A8 AA M nb)
theorem DU{n:Int}{r:List Pt}(hn:0<=n)(h:∀p∈r,Bd n p)(i:Int):Bd n<|AA r i:=by
 unfold AH.AA;simp only[List.getD];cases e:r[(i%(r.length)).toNat]? with
 |none=>exact⟨by simp;exact Ma hn,by simp;exact Ma hn,by simp;exact Ma hn,by simp;exact Ma hn⟩
 |some p=>exact h p<|AHA e
theorem BV{N n:Nat}{g:SF}{ps:List PV}{r:RV}(h:ps.length=n)(e:g (A9 N ps)=some (.rt r)):denote N n g ps=some r:=by unfold denote;rw[AFu h,e];rfl
theorem Cg{f:EF}{ρ:AS}{p:PV}(e:f ρ=some (.cl p)):A0 f ρ=some (.rt<|.cl p):=by unfold A0;rw[e]
theorem LP{f:EF}{ρ:AS}{p:List PV}(e:f ρ=some (.fr p)):A0 f ρ=some (.rt<|.fr p):=by unfold A0;rw[e]
theorem BW{k:List RV->Option RV}{g:AF}{ρ:AS}{rs:List RV}{z:RV}(e:g ρ=some rs)(h:k rs=some z):fB k g ρ=some z:=by unfold fB;rw[e];exact h
theorem AI{f:EF}{g:AF}{ρ:AS}{x:RV}{xs:List RV}(e:f ρ=some x)(h:g ρ=some xs):AG f g ρ=some (x::xs):=by unfold AG;rw[e,h]
theorem AQ{ρ:AS}:AN ρ=some []:=rfl
theorem AK{k:RV->RV->Option RV}{fa fb:EF}{ρ:AS}{x y z:RV}(ha:fa ρ=some x)(q:fb ρ=some y)(h:k x y=some z):f2 k fa fb ρ=some z:=by unfold f2;rw[ha];rw[q];exact h
theorem Ar{F:List PV->Option RV}{g:AF}{ρ:AS}{rs:List RV}{ps:List PV}{z:RV}(e:g ρ=some rs)(c:CZ rs=some ps)(h:F ps=some z):AY F g ρ=some z:=by unfold AY;rw[e];dsimp only;rw[c];exact h
theorem Lz{f g:EF}{ρ:AS}{a b:Bool}(ha:f ρ=cB a)(z:a=true->g ρ=cB b):DV f g ρ=cB (a&&b):=by
 unfold DV;rw[ha];cases a
 .rfl
 .exact z rfl
theorem Qu{f g:EF}{ρ:AS}{a b:Bool}(ha:f ρ=cB a)(z:a=false->g ρ=cB b):Ef f g ρ=cB (a||b):=by
 unfold Ef;rw[ha];cases a
 .exact z rfl
 .rfl
theorem An{f:EF}{ρ:AS}{a:Bool}(ha:f ρ=cB a):AU f ρ=some a:=by unfold AU;rw[ha]
theorem E7{f:BF}{ρ:AS}{a:Bool}(ha:f ρ=some a):Cz f ρ=some (!a):=by unfold Cz;rw[ha];rfl
theorem HP{f g:BF}{ρ:AS}{a b:Bool}(ha:f ρ=some a)(z:a=true->g ρ=some b):Dh f g ρ=some (a&&b):=by
 unfold Dh;rw[ha];cases a
 .rfl
 .exact z rfl
theorem F0{f g:BF}{ρ:AS}{a b:Bool}(ha:f ρ=some a)(z:a=false->g ρ=some b):DJ f g ρ=some (a||b):=by
 unfold DJ;rw[ha];cases a
 .exact z rfl
 .rfl
theorem sq{g h:SF}{ρ ρ':AS}(e:g ρ=some (.nx ρ')):AM g h ρ=h ρ':=by unfold AM;rw[e]
theorem DP{g h:SF}{ρ:AS}{r:RV}(e:g ρ=some (.rt r)):AM g h ρ=some (.rt r):=by unfold AM;rw[e]
theorem Ay{i:Nat}{f:EF}{ρ:AS}{r:RV}{p:PV}(e:f ρ=some r)(c:r.clean=some p):Aa i f ρ=some (.nx<|ρ.set i<|iM p):=by unfold Aa;rw[e];dsimp only;rw[c]
theorem set_own{i:Nat}{f:EF}{ρ:AS}{ps:List PV}(e:f ρ=some (.fr ps)):C8 i f ρ=some (.nx<|ρ.set i<|some<|.own ps):=by unfold C8;rw[e]
theorem Bg{t:BF}{g h:SF}{ρ:AS}(e:t ρ=some true):Az t g h ρ=g ρ:=by unfold Az;rw[e]
theorem BL{t:BF}{g h:SF}{ρ:AS}(e:t ρ=some false):Az t g h ρ=h ρ:=by unfold Az;rw[e]
theorem B8{its:IF}{gt:GF}{body:SF}{ρ:AS}{xs:List PV}(e:its ρ=some xs):B0 its gt body ρ=DN gt body xs ρ:=by unfold B0;rw[e]
theorem Le{a b c:Pt}(ha:Bd 1000 a)(hb:Bd 1000 b):IE [pv a,pv b,pv c]=cI (AD a b c):=by have z:FV (b.1-a.1)<|c.2-a.2:=GK (by unfold Bd at *;omega);have y:FV (b.2-a.2)<|c.1-a.1:=GK (by unfold Bd at *;omega);simp[IE,denote,aB,A9,A0,f2,AE,fC,DM,DX,BK,kI,Dq,z,y,Out.val,AD]
def pw(a b:Pt):PV:=.tup [pv a,pv b]
theorem LC(a b:Pt):Am (.cl<|pw a b) (.cl<|.int 0)=some (.cl<|pv a):=rfl
theorem LD(a b:Pt):Am (.cl<|pw a b) (.cl<|.int 1)=some (.cl<|pv b):=rfl
theorem NK{a b c:Pt}(ha:Bd 1000 a)(q:Bd 1000 b):HC [pv c,pw a b]=cB (Aj a b c):=by
 have y:=Le (c:=c) ha q;have v:Aj a b c=(decide (AD a b c=0)&&((decide (min a.1 b.1<=c.1)&&decide (c.1<=max a.1 b.1))&&(decide (min a.2 b.2<=c.2)&&decide (c.2<=max a.2 b.2)))):=by simp only[Aj,AIe,AIe]
 rw[v];have e3:(!(AD a b c==0)) = !(decide (AD a b c=0)):=rfl;have p:=Iz (min a.1 b.1) c.1;have Z:=Iz c.1<|max a.1 b.1;have Y:=Iz (min a.2 b.2) c.2;have Q:=Iz c.2<|max a.2 b.2;have z:=LF (AD a b c) 0;rw[e3]at z;generalize decide (min a.1 b.1<=c.1)=b1 at *
 generalize decide (c.1<=max a.1 b.1)=b2 at *
 generalize decide (min a.2 b.2<=c.2)=b3 at *
 generalize decide (c.2<=max a.2 b.2)=b4 at *
 generalize decide (AD a b c=0)=b5 at *
 cases b5
 .simp only[HC,denote,Uu,A9,AM,Aa,Az,A0,f2,AE,fC,AU,AY,AG,AN,CZ,Out.val,RV.clean,
  AGC,AHB,AF6,AH1,AHW,AHN,List.replicate,List.getElem?_cons_zero,AG7,AHf,AIm,AGS,
  LC,LD,AHl,Nat.reduceAdd,y,z,AJm,AIK]
 .cases b1<;>cases b2<;>cases b3<;>cases b4<;>simp only[HC,denote,Uu,A9,AM,Aa,Az,A0,f2,AE,fC,AU,AY,AG,AN,CZ,E8,fB,DV,Out.val,RV.clean,
  AGC,AHB,AF6,AH1,AHW,AHN,List.replicate,List.getElem?_cons_zero,AG7,AHf,AIm,AGS,
  DM,DX,LC,LD,A7,Rl,MN,AHl,Nat.reduceAdd,y,z,p,Z,Y,Q,Bool.not_true,AHG,AIK]
theorem Ym{a b c d:Pt}(ha:Bd 1000 a)(z:Bd 1000 b):NL [pw a b,pw c d]=cB (AH.parts a b c d):=by
 have q:=Le (c:=c) ha z;have v:=Le (c:=d) ha z;have e3:=JA (AD a b c) 0;have p:=FE (AD a b c) 0;have Z:=JA (AD a b d) 0;have Y:=FE (AD a b d) 0;unfold AH.parts;generalize AD a b c=x at *
 generalize AD a b d=y at *
 generalize decide (x<0)=b1 at *
 generalize decide (0<x)=b2 at *
 generalize decide (y<0)=b3 at *
 generalize decide (0<y)=b4 at *
 cases b1<;>cases b2<;>cases b3<;>cases b4<;>simp only[NL,denote,Z7,A9,AM,Aa,A0,f2,AE,fC,AY,AG,AN,CZ,DV,Ef,Out.val,RV.clean,AGC,AHB,AF6,AH1,AHW,AHN,List.replicate,List.getElem?_cons_zero,AG7,AHf,AIm,AGS,LC,LD,AHl,Nat.reduceAdd,q,v,e3,p,Z,Y,AHG,AIK,AH9,Bool.or_true]
theorem Yj{a b c d:Pt}(ha:Bd 1000 a)(z:Bd 1000 b)(hc:Bd 1000 c)(hd:Bd 1000 d):Ld [pw a b,pw c d]=cB (A8 a b c d):=by
 have y:=Ym (c:=c) (d:=d) ha z;have q:=Ym (c:=a) (d:=b) hc hd;have e3:=NK (c:=c) ha z;have v:=NK (c:=d) ha z;have p:=NK (c:=a) hc hd;have Z:=NK (c:=b) hc hd;unfold A8;generalize AH.parts a b c d=b1 at *
 generalize AH.parts c d a b=b2 at *
 generalize Aj a b c=b3 at *
 generalize Aj a b d=b4 at *
 generalize Aj c d a=b5 at *
 generalize Aj c d b=b6 at *
 cases b1<;>cases b2<;>cases b3<;>cases b4<;>cases b5<;>cases b6<;>simp only[Ld,denote,Z4,A9,AM,Aa,Az,A0,f2,AE,fC,AU,AY,AG,AN,CZ,Ef,Dh,Out.val,RV.clean,AGC,AHB,AF6,AH1,AHW,AHN,List.replicate,List.getElem?_cons_zero,AG7,AHf,AIm,AGS,LC,LD,A7,AHl,Nat.reduceAdd,y,q,e3,v,p,Z,AHG,AIK,AH9,Bool.or_true]
def FL(p:Pt):Bool:=decide (Dk p.1<=100)&&decide (Dk p.2<=100)
theorem W7{p:Pt}:FL p=true↔Bd 100 p:=by
 have z:∀i:Int,Dk i<=100↔(-100<=i/\i<=100):=λi=>by unfold Dk;split<;>omega
 simp only[FL,AFw,AF2,z];exact⟨λh=>⟨h.1.1,h.1.2,h.2.1,h.2.2⟩,λh=>⟨⟨h.1,h.2.1⟩,h.2.2.1,h.2.2.2⟩⟩
theorem mL{r:List Pt}(z:r.length<=1000):Px [.lst<|AJ r]=cB (r.all FL):=by
 have hc:collect (Ac 0) Bh au (By 1 [] [iL r]) (AJ r)=some ((r.map FL).map PV.bl):=by rw[AGU];refine GL λp _=>⟨_,.cl<|.bl<|FL p,rfl,?_,rfl⟩;simp only[By,DV,f2,fB,AG,AN,AE,fC,List.replicate,AHW,AHN,AHf,List.getElem?_cons_zero,DM,OY,Iz];unfold FL;cases decide (Dk p.1<=100)<;>rfl
 simp only[Px,denote,Zi,A9,A0,fB,AG,AN,BC,CA,AE,AGC,AHB,AF6,AH1,AHW,AHN,List.replicate,List.getElem?_cons_zero,RV.list,AHl,Nat.reduceAdd,Nat.reduceSub,AIB,AIz];rw[AFu (by rw[Bs];exact z),hc];simp only[AGu,Fg,RV.list,AGS,QQ,Out.val];rw[AJS];rfl
def JX(r:List Pt):Bool:=(List.range r.length).all λk=>!(AD (AA r<|(k:Int)-2) (AA r<|(k:Int)-1) (AA r k)==0)
theorem ZJ{n:Nat}(h:n<=1000):JR<|n:=⟨U,U⟩
theorem Di{g:AF}{ρ:AS}{n:Nat}(e:g ρ=some [.cl<|.int<|n])(h:n<=1000):C0 g ρ=some ((List.range n).map λk:Nat=>PV.int<|k):=by unfold C0;rw[e];dsimp only;rw[AFu<|ZJ h,ACp]
theorem CS{its:IF}{own:Nat}{cap:List Nat}{g:GF}{t:BF}{fe:EF}{ρ:AS}{xs z:List PV}(e:its ρ=some xs)(h:xs.length<=1000)(y:collect g t fe (By own cap ρ) xs=some z):BC its own cap g t fe ρ=some (.fr z):=by
 unfold BC;rw[e];dsimp only;rw[AFu h,y]
 rfl
theorem mK{r:List Pt}(z:r.length<=1000)(h2:2<=r.length)(y:∀p∈r,Bd 1000 p):Tg [.lst<|AJ r]=cB (JX r):=by
 have hc:collect (Ac 0) Bh af (By 1 [0] [iL r]) ((List.range r.length).map λk:Nat=>PV.int<|k) =
  some (((List.range r.length).map λk:Nat=>!(AD (AA r<|(k)-2) (AA r<|(k)-1) (AA r k)==0)).map PV.bl):=by
  rw[AGU];refine GL λk v=>⟨_,.cl<|.bl (!(AD (AA r<|(k)-2) (AA r<|(k)-1) (AA r k)==0)),rfl,?_,rfl⟩;have q:=AF1.mp v;simp only[By,f2,AY,AG,AN,AE,fC,CZ,RV.clean,List.replicate,AF6,AHW,AHN,AHf,List.getElem?_cons_zero,AG7,Option.join_some,DB,CK r ((k)-2) U U,CK r ((k)-1) U<|MU q,CK r (k) U<|Dd q,Le (DU EE y _)<|DU EE y _,LF]
 refine BV rfl (Cg<|BW (AI (CS (Di (g:=Nr) (by rw[<-Bs];rfl) z) (by simpa using z) hc) AQ) ?_);simp only[Fg,RV.list,AGS,QQ,AGu,AJS]
 rfl
def BY(r:List Pt):List<|Pt×Pt:=(List.range r.length).map λk:Nat=>(AA r k,AA r<|(k:Int)+1)
def BQ(ws:List<|Pt×Pt):List PV:=ws.map λw=>pw w.1 w.2
theorem QE{r:List Pt}(z:r.length<=1000)(y:0<r.length):NO [.lst<|AJ r]=some (.fr<|BQ<|BY r):=by
 have hc:collect (Ac 0) Bh bN (By 1 [0] [iL r]) ((List.range r.length).map λk:Nat=>PV.int<|k)=some (BQ<|BY r):=by
  delta BQ BY
  rw[AGU];refine GL λk q=>⟨_,.cl<|pw (AA r k)<|AA r<|(k)+1,rfl,?_,rfl⟩;have v:=AF1.mp q;have hm:AA r (((k)+1)%(r.length))=AA r ((k)+1):=by unfold AH.AA;rw[AGY _<|AHD _]
  simp only[By,f2,A5,AG,AN,AE,fC,fB,RV.clean,List.replicate,AF6,AHW,AHN,AHf,List.getElem?_cons_zero,AG7,Option.join_some,J4,Fh,Bs,FF (i:=(k)+1) (j:=(r.length))<|F7 y,CK r (k) U<|Dd v,CK r (((k)+1)%(r.length)) U<|AGI _<|F7 y,hm]
  rfl
 exact BV rfl<|LP<|CS (Di (g:=Nr) (by rw[<-Bs];rfl) z) (by simpa using z) hc
theorem wO(i a b:Int):BS false (.cl<|.int i) (.cl<|.tup [.int a,.int b])=cB (i==a||i==b):=by simp only[BS,RV.seq,C1,AGu,AG8,AI6,AH9,AIB,AIz];rw[AIX,AIX (a:=b)]
theorem UA{n i j:Int}(hn:0<n):Lb [.int n,.int i,.int j]=cB (nb n<|j-i):=by simp only[Lb,denote,Zj,A9,A0,f2,AE,fC,A5,AG,AN,CZ,RV.clean,Out.val,AGC,AHB,AF6,AHW,AHN,List.replicate,List.getElem?_cons_zero,AG7,AGS,DB,FF hn,wO,AHl,Nat.reduceAdd,Nat.reduceSub,Nat.reduceLeDiff,nb]
def YR(r:List Pt)(k:Int):PV:=pw (AA r k)<|AA r<|k+1
theorem ll(r:List Pt)(k:Nat)(h:k<r.length):Am (.cl<|.lst<|BQ<|BY r) (.cl<|.int<|k)=some (.cl<|YR r k):=by
 show(CM _ _).map _=_;have:CM (BQ<|BY r) (k)=some (YR r k):=by
  delta CM Gh BQ BY
  simp[h,YR]
 rw[this];rfl
def Kf(r:List Pt):Bool:=!((List.range r.length).any λk=>(List.range<|r.length-(k+1)).any λd=>!(nb r.length<|((k:Int)+1+d)-k)&&M r k ((k:Int)+1+d))
theorem mM{r:List Pt}(v:r.length<=1000)(Z:0<r.length)(z:∀p∈r,Bd 1000 p):UG [.lst<|AJ r]=cB (Kf r):=by
 have y:(BQ<|BY r).length=r.length:=by simp[BQ,BY]
 refine BV rfl ?_;unfold aD;rw[sq<|Ay (Ar (AI rfl AQ) rfl<|QE v Z) rfl];show AM _ _ [iL r,iM<|.lst<|BQ<|BY r,none,none]=_;have Y:∀a b:Option SV,U2 [iL r,iM<|.lst<|BQ<|BY r,a,b]=some ((List.range r.length).map λk:Nat=>PV.int<|k):=λa b=>Di (by rw[<-y];rfl) v;have H:=Hk (gt:=Ac 2) (λρ=>∃a b,ρ=[iL r,iM<|.lst<|BQ<|BY r,a,b]) (xs:=List.range r.length) ⟨none,none,rfl⟩ (by
  rintro k D ρ ⟨a,b,rfl⟩;have Q:=AF1.mp D;refine⟨_,rfl,?_⟩;have O:DK VC [iL r,iM<|.lst<|BQ<|BY r,iI k,b]=some ((List.range<|r.length-(k+1)).map λd:Nat=>PV.int<|(k)+1+d):=by
   have F:VC [iL r,iM<|.lst<|BQ<|BY r,iI k,b]=some [.cl<|.int<|(k)+1,.cl<|.int<|r.length]:=by rw[<-y];rfl
   unfold DK;rw[F];dsimp only;have R:JR<|(k)+1:=⟨U,U⟩;rw[AFu ⟨R,ZJ v⟩,ju]
   congr 3
   lia
  have P:=Hk (enc:=λd:Nat=>PV.int<|(k)+1+d) (gt:=Ac 3) (body:=aX)
   (c:=λd=>!(nb r.length<|((k)+1+d)-k)&&M r k ((k)+1+d))
   (λρ=>∃b,ρ=[iL r,iM<|.lst<|BQ<|BY r,iI k,b]) (xs:=List.range<|r.length-(k+1)) ⟨b,rfl⟩ (by
   rintro d hd ρ ⟨b,rfl⟩;have Jt:=AF1.mp hd;refine⟨_,rfl,?_⟩;have q:aj [iL r,iM<|.lst<|BQ<|BY r,iI k,iI<|(k)+1+d]=some (!(nb r.length<|((k)+1+d)-k)&&M r k ((k)+1+d)):=by refine HP (E7<|An<|Ar (rs:=[.cl<|.int<|r.length,.cl<|.int k,.cl<|.int<|(k)+1+d]) (by rw[<-y];rfl) rfl<|UA<|F7 Z) λ_=>?_;refine An (Ar (AI (AK rfl rfl<|ll r k Q)<|AI (AK rfl rfl<|ll r (k+1+d) (by clear y Q;omega)) AQ) rfl ?_);exact Yj (DU EE z _) (DU EE z _) (DU EE z _)<|DU EE z _
   refine⟨λh=>?_,λh=>⟨_,?_,iI<|(k)+1+d,rfl⟩⟩
   .show Az _ _ _ [iL r,iM<|.lst<|BQ<|BY r,iI k,iI<|(k)+1+d]=_;rw[h]at q;rw[Bg q];rfl
   .show Az _ _ _ [iL r,iM<|.lst<|BQ<|BY r,iI k,iI<|(k)+1+d]=_;rw[h]at q;rw[BL q];rfl)
  refine⟨λh=>?_,λh=>?_⟩
  .exact(B8 O).trans (P.1 h)
  .obtain⟨ρ',e,b',rfl⟩:=P.2 h;exact⟨_,(B8 O).trans e,_,_,rfl⟩)
 unfold Kf;cases ha:(List.range r.length).any λk=>(List.range<|r.length-(k+1)).any λd=>!(nb r.length<|((k)+1+d)-k)&&M r k ((k)+1+d)with
 |true=>exact DP<|(B8<|Y none none).trans<|H.1 ha
 |false=>
  obtain⟨ρ',e,a,b,rfl⟩:=H.2 ha;rw[sq<|(B8<|Y none none).trans e];rfl
theorem kf(f:Int->Int):∀n:Nat,((List.range n).map λk:Nat=>f k).sum=AH.Af f n
 |0=>rfl
 |n+1=>by simp only[AHS,AGP,AJf,kf f n];simp[AH.Af]
theorem DI{f:EF}{ρ:AS}{r:RV}{ps:List PV}(e:f ρ=some r)(h:r.list=some ps):CA false f ρ=some ps:=by unfold CA;rw[e];exact h
theorem ny:Bd 1000 (0,0):=by unfold Bd;lia
theorem t1{r:List Pt}(z:∀p∈r,Bd 1000 p)(k:Nat):U8 [iM<|pw (AA r k)<|AA r<|(k)+1]=cI (AH.Bz (AA r k)<|AA r<|(k)+1):=by
 refine Ar (ps:=[pv (0,0),pv<|AA r k,pv<|AA r<|(k)+1]) (AI rfl<|AI (AK rfl rfl<|LC _ _)<|AI (AK rfl rfl<|LD _ _) AQ) rfl ?_;rw[Le ny<|DU EE z _];have:AD (0,0) (AA r k) (AA r<|(k)+1)=AH.Bz (AA r k) (AA r<|(k)+1):=by simp[AD,AH.Bz]
 rw[this]
theorem t2{r:List Pt}(z:∀p∈r,Bd 1000 p):collect (Ac 0) Bh U8 (By 1 [] [iL r]) (BQ<|BY r) = some (((List.range r.length).map λk:Nat=>AH.Bz (AA r k)<|AA r<|(k)+1).map PV.int):=by
 delta BQ BY
 simp only[AGU,AGU];exact GL λk hk=>⟨_,.cl<|.int<|AH.Bz (AA r k)<|AA r<|(k)+1,rfl,t1 z k,rfl⟩
theorem t3{r:List Pt}(z:r.length<=1000)(y:0<r.length):Qe [iL r]=some (BQ<|BY r):=by exact DI (Ar (AI rfl AQ) rfl<|QE z y) rfl
theorem mO{r:List Pt}(z:r.length<=1000)(y:0<r.length)(q:∀p∈r,Bd 1000 p):Tn [.lst<|AJ r]=cI (AH.CH r):=by
 have FC:(BQ<|BY r).length=r.length:=by simp[BQ,BY]
 refine BV rfl<|Cg<|BW (AI (CS (t3 z y) U<|t2 q) AQ) ?_;simp only[Od,RV.list,AGS,Ra,AGu];rw[kf λk=>AH.Bz (AA r k)<|AA r<|k+1,AH.CH]
noncomputable def kl(r:List Pt):List<|List Int:=r.map λp=>[p.1,p.2]
theorem YK:∀r:List Pt,KZ (AJ r)=some (kl r)
 |[]=>rfl
 |p::r=>by
  show KZ (pv p::AJ r)=_;unfold pv KZ;rw[(YK r)]
  rfl
def dist(r:List Pt):Nat:=(Internal.ST.EY []<|kl r).length
theorem dJ{f:EF}{ρ:AS}{r:RV}{ps:List PV}{ks:List (List Int)}(e:f ρ=some r)(h:r.list=some ps)(z:KZ ps=some ks)(h3:ks.length<=17):Kp f ρ=cI ((Internal.ST.EY [] ks).length):=by unfold Kp;rw[e];dsimp only;rw[h,AGS,z];dsimp only;rw[AFu h3]
theorem Qs{fa fb fc:EF}{ρ:AS}{i j k:Int}(ha:fa ρ=cI i)(z:fb ρ=cI j)(hc:fc ρ=cI k):E8 Cs Cs fa fb fc ρ=cB (decide (i<=j)&&decide (j<=k)):=by
 unfold E8;rw[ha,z];dsimp only;rw[Iz];cases h:decide (i<=j)
 .rfl
 .dsimp only;rw[hc];dsimp only;rw[Iz,AHG]
def Ci(r:List Pt):Bool:=(decide ((3:Int)<=r.length)&&decide ((r.length:Int)<=12))&&(((dist r:Int)==(r.length:Int))&&(r.all FL&&(JX r&&(Kf r&&decide (0<AH.CH r)))))
theorem mY{r:List Pt}:Tq [.lst<|AJ r]=cB (Ci r):=by
 refine BV rfl ?_;unfold Zo;have Z:Ca (A9 1 [.lst<|AJ r])=cI r.length:=by rw[<-Bs];rfl
 have z:=E7<|An<|Qs (fa:=fC<|.int 3) (fc:=fC<|.int 12) rfl Z rfl;unfold Ci;cases Y:(decide ((3:Int)<=r.length)&&decide ((r.length:Int)<=12))with
 |false=>
  rw[Y]at z;exact DP<|(Bg z).trans rfl
 |true=>
  rw[Y]at z;rw[sq<|(BL z).trans rfl,AHG];have y:=An (AK (dJ (f:=AE 0) rfl rfl (YK r) (by unfold kl;rw[AFs];lia)) Z<|LF _ _);have q:B9 (A9 1 [.lst<|AJ r])=some [.cl<|.lst<|AJ r]:=rfl;cases Q:((dist r:Int)==(r.length))with
  |false=>
   rw[show(((Internal.ST.EY []<|kl r).length:Int)==(r.length))=false from Q]at y;exact DP<|(Bg y).trans rfl
  |true=>
   rw[show(((Internal.ST.EY []<|kl r).length:Int)==(r.length))=true from Q]at y;rw[sq<|(BL y).trans rfl,AHG];refine Cg<|Lz (Ar q rfl<|mL U) λh3=>?_;have v:∀p∈r,Bd 1000 p:=λp hp=>by have:=W7.mp<|AHE.mp h3 p hp;unfold Bd at *;and_intros<;>lia
   refine Lz (Ar q rfl<|mK U U v) λ_=>?_;refine Lz (Ar q rfl<|mM U U v) λ_=>?_;exact AK (Ar q rfl<|mO U U v) rfl<|FE _ _
open AH (AD Aj A8 BP AA M nb)
theorem Ee{g:AF}{ρ:AS}{rs:List RV}{ps:List PV}(e:g ρ=some rs)(c:CZ rs=some ps)(h:Nat.ble ps.length 1000=true:=by rfl):A5 g ρ=some (.cl<|.tup ps):=by unfold A5;rw[e];dsimp only;rw[c];dsimp only;rw[AFu<|AIM h]
theorem EA{g:AF}{ρ:AS}{rs:List RV}{ps:List PV}(e:g ρ=some rs)(c:CZ rs=some ps)(h:Nat.ble ps.length 1000=true:=by rfl):Bj g ρ=some (.fr ps):=by unfold Bj;rw[e];dsimp only;rw[c];dsimp only;rw[AFu<|AIM h]
theorem jM{i j:Nat}{ga:AF}{ρ:AS}{rs:List RV}{p q:PV}(e:ga ρ=some rs)(c:CZ rs=some [p,q]):Jr i j ga ρ=some (.nx<|(ρ.set i<|iM p).set j<|iM q):=by unfold Jr;rw[e];dsimp only;rw[c]
noncomputable def Av(s:List Int):List PV:=s.map PV.int
theorem WZ(s:List Int):(Av s).length=s.length:=AFs ..
noncomputable def Ab(s:List Int)(k:Int):Int:=if k<s.length then s.getD k.toNat 0 else(s.getD 0 0%65521*48271+k*30103)%65521
theorem Y3(s:List Int)(k:Int)(z:0<=k)(h:k<s.length):Am (.cl<|.rd<|Av s) (.cl<|.int k)=cI (s.getD k.toNat 0):=by
 show(CM (Av s) k).map _=_;have y:k.toNat<s.length:=U
 have:CM (Av s) k=some (.int<|s.getD k.toNat 0):=by
  delta CM Gh
  rw[WZ,AFu z,AFu h];simp[Av,y]
 rw[this];rfl
theorem ZR{i j:Int}(h : -1000000<=j/\j<=1000000):FV i j:=.inr ⟨U,U⟩
theorem Ti(s:List Int)(k:Int)(v:0<=k):EK [.rd<|Av s,.int k]=cI (Ab s k):=by
 refine BV rfl ?_;unfold Zr;have p:Ca (A9 3 [.rd<|Av s,.int k])=cI s.length:=by rw[<-WZ];rfl
 have z:=An<|AK (fa:=AE 1) rfl p<|JA k _;unfold Ab;by_cases h:k<s.length
 .rw[AG4 h]at z;rw[AFu h];exact DP<|(Bg z).trans<|Cg<|AK rfl rfl<|Y3 s k v h
 .rw[AGq h]at z;rw[AF0 h,sq<|(BL z).trans rfl,sq<|Ay rfl rfl];have Z:Ca [iM<|.rd<|Av s,iI k,iI 0]=cI s.length:=by rw[<-WZ];rfl
  have y:=An<|AK (fb:=fC<|.int 0) Z rfl<|FE _ _;have fin:∀b:Int,A0 bG [iM<|.rd<|Av s,iI k,iI b]=some (.rt<|.cl<|.int<|(b%65521*48271+k*30103)%65521):=λb=>
   Cg (AK (AK (AK (AK rfl rfl<|FF U) rfl<|Gj<|ZR U) (AK rfl rfl<|Gj<|ZR U)<|J4 _ _) rfl<|FF U)
  by_cases q:(0:Int)<s.length
  .rw[AG4 q]at y;have e3:Aa 2 D9 [iM<|.rd<|Av s,iI k,iI 0]=some (.nx [iM<|.rd<|Av s,iI k,iI<|s.getD 0 0]):=Ay (AK rfl rfl<|Y3 s 0 Bb q) rfl;refine(sq<|(Bg y).trans e3).trans (fin _)
  .have:s=[]:=List.length_eq_zero_iff.mp U;subst this;exact(sq<|(BL y).trans rfl).trans (fin 0)
theorem QD{a b c:Pt}(ha:Bd 1000 a)(hb:Bd 1000 b):FW [pv a,pv b,pv c]=cI (AD a b c):=by have z:FV (b.1-a.1)<|c.2-a.2:=GK (by unfold Bd at *;lia);have y:FV (b.2-a.2)<|c.1-a.1:=GK (by unfold Bd at *;lia);refine BV rfl ?_;exact Cg<|AK (AK rfl rfl<|Gj z) (AK rfl rfl<|Gj y)<|DB _ _
def GV(r:List Pt):Bool:=(List.range r.length).any λk=>AD (AA r<|(k:Int)-2) (AA r<|(k:Int)-1) (AA r k)==0
theorem Ol(r:List Pt)(ρ:AS)(h:ρ[0]? = some (iL r)):Ca ρ=cI r.length:=by rw[<-Bs];exact BW (AI (by unfold AE;rw[h]) AQ) rfl
theorem Ye{r:List Pt}(Z:r.length<=1000)(h2:2<=r.length)(y:∀p∈r,Bd 1000 p):P5 [.lst<|AJ r]=cB (GV r):=by
 refine BV rfl ?_;unfold Zt;have q:Lw (A9 2 [.lst<|AJ r])=some ((List.range r.length).map λk:Nat=>PV.int<|k):=Di (AI (Ol r _ rfl) AQ) Z;have H:=Hk (enc:=λk:Nat=>PV.int<|k) (gt:=Ac 1) (body:=aU)
  (c:=λk=>AD (AA r<|(k)-2) (AA r<|(k)-1) (AA r k)==0)
  (λρ=>∃a,ρ=[iL r,a]) (xs:=List.range r.length) ⟨none,rfl⟩ (by
  rintro k Y ρ ⟨a,rfl⟩;have v:=AF1.mp Y;refine⟨_,rfl,?_⟩;have z:AU aa [iL r,iI k]=some (AD (AA r<|(k)-2) (AA r<|(k)-1) (AA r k)==0):=by refine An<|AK (Ar (AI (AK rfl rfl<|CK r ((k)-2) U U)<|AI (AK rfl rfl<|CK r ((k)-1) U<|MU v)<|AI (AK rfl rfl<|CK r (k) U<|Dd v) AQ) rfl<|QD (DU EE y _)<|DU EE y _) rfl<|LB _ _
  refine⟨λh=>?_,λh=>⟨_,?_,iI k,rfl⟩⟩
  .rw[h]at z;exact(Bg z).trans rfl
  .rw[h]at z;exact(BL z).trans rfl)
 unfold GV;cases ha:(List.range r.length).any λk=>AD (AA r<|(k)-2) (AA r<|(k)-1) (AA r k)==0 with
 |true=>exact DP<|(B8 q).trans<|H.1 ha
 |false=>
  obtain⟨ρ',e,a,rfl⟩:=H.2 ha;rw[sq<|(B8 q).trans e];rfl
theorem dg(r:List Pt):JX r = !GV r:=by
 delta JX GV
 simp only[List.not_any_eq_all_not]
theorem Yk{a b c:Pt}(ha:Bd 1000 a)(y:Bd 1000 b):NJ [pv a,pv b,pv c]=cB (Aj a b c):=by
 refine BV rfl ?_;unfold Zy;have z:=An<|AK (ρ:=A9 5 [pv a,pv b,pv c]) (fb:=fC<|.int 0) (Ar (AI (f:=AE 0) rfl<|AI (f:=AE 1) rfl<|AI (f:=AE 2) rfl AQ) rfl<|QD ha y) rfl<|LF _ _;by_cases h:AD a b c=0
 .rw[show(!(AD a b c==0))=false by simp[h]]at z;rw[sq<|(BL z).trans rfl,sq<|Ay (Ee (AI (BW (AI (AK rfl rfl<|DM a)<|AI (AK rfl rfl<|DM b) AQ)<|Rl _ _)<|AI (BW (AI (AK rfl rfl<|DX a)<|AI (AK rfl rfl<|DX b) AQ)<|Rl _ _) AQ) rfl) rfl,sq<|Ay (Ee (AI (BW (AI (AK rfl rfl<|DM a)<|AI (AK rfl rfl<|DM b) AQ)<|MN _ _)<|AI (BW (AI (AK rfl rfl<|DX a)<|AI (AK rfl rfl<|DX b) AQ)<|MN _ _) AQ) rfl) rfl]
  have q:Aj a b c=((decide (min a.1 b.1<=c.1)&&decide (c.1<=max a.1 b.1))&&(decide (min a.2 b.2<=c.2)&&decide (c.2<=max a.2 b.2))):=by simp only[Aj,AIe,AIe,AG4 h,AHG]
  rw[q];exact Cg<|Lz (Qs rfl rfl rfl) λ_=>Qs rfl rfl rfl
 .rw[show(!(AD a b c==0))=true by simp[h]]at z;rw[show Aj a b c=false by simp[Aj,h]];exact DP<|(Bg z).trans rfl
theorem Yh{a b c d:Pt}(ha:Bd 1000 a)(Q:Bd 1000 b)(hc:Bd 1000 c)(hd:Bd 1000 d):P8 [pv a,pv b,pv c,pv d]=cB (BP a b c d):=by
 refine BV rfl ?_;unfold Zx;have F:∀h:SF,AM bO (AM bE h) (A9 9 [pv a,pv b,pv c,pv d]) = h [iM<|pv a,iM<|pv b,iM<|pv c,iM<|pv d,iM<|.lst [.tup [pv a,pv b,pv c],.tup [pv a,pv b,pv d],.tup [pv c,pv d,pv a],.tup [pv c,pv d,pv b]],none,none,none,none]:=λh=>by rw[sq rfl];rw[sq (ρ':=[iM<|pv a,iM<|pv b,iM<|pv c,iM<|pv d,iM<|.lst [.tup [pv a,pv b,pv c],.tup [pv a,pv b,pv d],.tup [pv c,pv d,pv a],.tup [pv c,pv d,pv b]],none,none,none,none]) rfl]
 rw[F];have H:=Hk (enc:=λt:Pt×Pt×Pt=>PV.tup [pv t.1,pv t.2.1,pv t.2.2]) (gt:=HS 3<|HV (Ac 5) Qj) (body:=br)
  (c:=λt=>Aj t.1 t.2.1 t.2.2)
  (λρ=>∃x y z,ρ=[iM<|pv a,iM<|pv b,iM<|pv c,iM<|pv d,iM<|.lst [.tup [pv a,pv b,pv c],.tup [pv a,pv b,pv d],.tup [pv c,pv d,pv a],.tup [pv c,pv d,pv b]],x,y,z,none]) (xs:=[(a,b,c),(a,b,d),(c,d,a),(c,d,b)]) ⟨none,none,none,rfl⟩ (by
  rintro⟨q,p,Z⟩ O ρ ⟨x,y,z,rfl⟩;refine⟨_,rfl,?_⟩;have P:Bd 1000 q/\Bd 1000 p:=by simp only[AF4,AIU,AHF,AIS]at O;rcases O with⟨rfl,rfl,_⟩|⟨rfl,rfl,_⟩|⟨rfl,rfl,_⟩|⟨rfl,rfl,_⟩<;>constructor<;>assumption
  have Y:AU (AY NJ<|AG (AE 5) Qk) [iM<|pv a,iM<|pv b,iM<|pv c,iM<|pv d,iM<|.lst [.tup [pv a,pv b,pv c],.tup [pv a,pv b,pv d],.tup [pv c,pv d,pv a],.tup [pv c,pv d,pv b]],iM<|pv q,iM<|pv p,iM<|pv Z,none]=some (Aj q p Z):=
   An (Ar (AI rfl<|AI rfl<|AI rfl AQ) rfl<|Yk P.1 P.2)
  refine⟨λh=>?_,λh=>⟨_,?_,iM<|pv q,iM<|pv p,iM<|pv Z,rfl⟩⟩
  .rw[show Aj q p Z=true from h]at Y;exact(Bg Y).trans rfl
  .rw[show Aj q p Z=false from h]at Y;exact(BL Y).trans rfl)
 have ea:([(a,b,c),(a,b,d),(c,d,a),(c,d,b)]).any (λt=>Aj t.1 t.2.1 t.2.2)=(Aj a b c||Aj a b d||Aj c d a||Aj c d b):=by simp only[AG8,AI6,AH9,Bool.or_assoc]
 rw[ea]at H;unfold BP;have D:∀x y z w:Option SV,CA true (AE 4) [iM<|pv a,iM<|pv b,iM<|pv c,iM<|pv d,iM<|.lst [.tup [pv a,pv b,pv c],.tup [pv a,pv b,pv d],.tup [pv c,pv d,pv a],.tup [pv c,pv d,pv b]],x,y,z,w]=some (([(a,b,c),(a,b,d),(c,d,a),(c,d,b)]).map λt=>PV.tup [pv t.1,pv t.2.1,pv t.2.2]):=λ_ _ _ _=>rfl;cases ho:(Aj a b c||Aj a b d||Aj c d a||Aj c d b)with
 |true=>
  exact DP<|(B8<|D _ _ _ _).trans<|H.1 ho
 |false=>
  obtain⟨ρ',e,x,y,z,rfl⟩:=H.2 ho;rw[sq<|(B8<|D _ _ _ _).trans e];have sd:∀(f g h:EF)(u v w:Pt)(ρ:AS),Bd 1000 u->Bd 1000 v->f ρ=some (.cl<|pv u)->g ρ=some (.cl<|pv v)->h ρ=some (.cl<|pv w)->f2 B3 (AY FW<|AG f<|AG g<|AG h AN) (fC<|.int 0) ρ=cB (decide (AD u v w>0)):=λf g h u v w ρ b1 b2 R B e3=>
   AK (Ar (AI R<|AI B<|AI e3 AQ) rfl<|QD b1 b2) rfl (FE _ _)
  rw[sq<|Ay (AK (sd _ _ _ a b c _ ha Q rfl rfl rfl) (sd _ _ _ a b d _ ha Q rfl rfl rfl)<|gj _ _) rfl];exact Cg<|Lz rfl λ_=>AK (sd _ _ _ c d a _ hc hd rfl rfl rfl) (sd _ _ _ c d b _ hc hd rfl rfl rfl)<|gj _ _
section
variable{α β:Type}{enc:α->PV}
theorem Hl{gt:GF}{body:SF}(f:β->α->β)(R:Nat->β->AS->Prop):∀{xs:List α}{n:Nat}{b:β}{ρ:AS},R n b ρ->(∀i x,xs[i]? = some x->∀b ρ,R (n+i) b ρ->∃z q,gt (enc x) ρ=some z/\body z=some (.nx q)/\R (n+i+1) (f b x) q)->∃ρ',DN gt body (xs.map enc) ρ=some (.nx ρ')/\R (n+xs.length) (xs.foldl f b) ρ'
 |[],n,b,ρ,hR,_=>⟨ρ,rfl,hR⟩
 |x::xs,n,b,ρ,hR,H=>by
  obtain⟨z,q,v,p,Z⟩:=H 0 x rfl b ρ hR;rw[AF6];unfold DN;rw[v];dsimp only;simp only[p];obtain⟨ρ',e,h⟩:=Hl f R Z λi y Y b ρ Q=>by have:=H (i+1) y (by simpa using Y) b ρ (by rw[show n+(i+1)=n+1+i by lia];exact Q);rw[show n+1+i+1=n+(i+1)+1 by lia];exact this
  exact⟨ρ',e,by rw[AGC,show n+(xs.length+1)=n+1+xs.length by lia];exact h⟩
end
theorem dr(f:Int->Int):∀(n:Nat)(z:Int),((List.range n).foldl (λt (k:Nat)=>t+f k) z)=z+AH.Af f n
 |0,z=>by simp[AH.Af]
 |n+1,z=>by rw[AHS,AIr,dr f n z];simp[AH.Af];lia
theorem mZ{r:List Pt}(y:r.length<=1000)(h1:0<r.length)(q:∀p∈r,Bd 1000 p):Tt [.lst<|AJ r]=cI (AH.Lo r):=by
 refine BV rfl ?_;unfold Zq;rw[sq (ρ':=[iL r,iI 0,none,none,none]) rfl];have v:Lw [iL r,iI 0,none,none,none]=some ((List.range r.length).map λk:Nat=>PV.int<|k):=Di (AI (Ol r _ rfl) AQ) y;obtain⟨ρ',e,a,b,c,rfl⟩:=Wr (enc:=λk:Nat=>PV.int<|k) (gt:=Ac 2) (body:=aM)
  (λ(t)(k)=>t+AH.Bz (AA r<|(k)-1) (AA r k)) (λt ρ=>∃a b c,ρ=[iL r,iI t,a,b,c]) (xs:=List.range r.length) ⟨none,none,none,rfl⟩ (by
  rintro k Z t ρ ⟨a,b,c,rfl⟩;have z:=AF1.mp Z;refine⟨_,[iL r,iI<|t+AH.Bz (AA r<|(k)-1) (AA r k),iI k,iM<|pv<|AA r<|(k)-1,iM<|pv<|AA r k],rfl,?_,_,_,_,rfl⟩;have h3:=DU EE q<|(k)-1;have Y:bf [iL r,iI t,iI k,b,c] = some (.nx [iL r,iI t,iI k,iM<|pv<|AA r<|(k)-1,iM<|pv<|AA r k]):=by exact jM (AI (AK rfl rfl<|CK r ((k)-1) U<|MU z)<|AI (AK rfl rfl<|CK r (k) U<|Dd z) AQ) rfl
  refine(sq Y).trans ?_;have Q:t+(AA r<|(k)-1).1*(AA r k).2-(AA r<|(k)-1).2*(AA r k).1=t+AH.Bz (AA r<|(k)-1) (AA r k):=by unfold AH.Bz;lia
  rw[<-Q];refine(Ay (AK (AK rfl (AK (AK rfl rfl<|DM _) (AK rfl rfl<|DX _)<|Gj<|GK (by unfold Bd at h3;omega))<|J4 _ _) (AK (AK rfl rfl<|DX _) (AK rfl rfl<|DM _)<|Gj<|GK (by unfold Bd at h3;omega))<|DB _ _) rfl).trans ?_
  rfl)
 rw[sq<|(B8 v).trans e,dr λk=>AH.Bz (AA r<|k-1)<|AA r k,AGj]
 rfl
theorem ZY{f:EF}{t:BF}{fe:EF}{ρ:AS}{cap:List Nat}{rv:RV}{r:List Pt}{c:Pt->Bool}{h:Pt->PV}(e:f ρ=some rv)(hp:rv.list=some (AJ r))(z:r.length<=1000) (H:∀p∈r,t (iI p.1::iI p.2::cap.map λj=>(ρ[j]?).join)=some (c p)/\(c p=true->∃x,fe (iI p.1::iI p.2::cap.map λj=>(ρ[j]?).join)=some x/\x.clean=some (h p))) :
 BC (CA false f) 2 cap GQ t fe ρ=some (.fr<|(r.filter c).map h):=by
 refine CS (DI e hp) (by rw[Bs];exact z) ?_;refine D8 λp hp=>⟨_,rfl,?_⟩;exact H p hp
theorem Uo{f:EF}{fe:EF}{ρ:AS}{cap:List Nat}{rv:RV}{r:List Pt}{h:Pt->PV}(e:f ρ=some rv)(hp:rv.list=some (AJ r))(z:r.length<=1000) (H:∀p∈r,∃x,fe (iI p.1::iI p.2::cap.map λj=>(ρ[j]?).join)=some x/\x.clean=some (h p)) :
 BC (CA false f) 2 cap GQ Bh fe ρ=some (.fr<|r.map h):=by
 have:=ZY (t:=Bh) e hp z λp hp=>⟨rfl,λ_=>H p hp⟩;rw[this,AJw.mpr λ_ _=>rfl]
theorem Rn(i a b:Int):BS true (.cl<|.int i) (.fr [.int a,.int b])=cB (!(i==a||i==b)):=by simp only[BS,RV.seq,RV.list,C1,AGu,AG8,AI6,AH9,AHl];rw[AIX,AIX (a:=b)]
def HR(r:List Pt):Bool:=decide ((0:Int)<((r.filter λp=>decide (max (Dk p.1) (Dk p.2)>100)).length:Int))
def Nn(r:List Pt):Bool:=(List.range r.length).any λk=>(List.range k).any λj=>!(nb r.length<|(k:Int)-j)&&BP (AA r<|(k:Int)-1) (AA r k) (AA r<|(j:Int)-1) (AA r j)
def Kx(r:List Pt):Bool:=!(!(decide ((3:Int)<=r.length)&&decide ((r.length:Int)<=12))||HR r)&&(!(!((dist r:Int)==(r.length:Int))||(GV r||decide (AH.Lo r<=0)))&&!Nn r)
theorem dY(r:List Pt):HR r = !(r.all FL):=by
 have h:∀p:Pt,decide (max (Dk p.1) (Dk p.2)>100) = !FL p:=λp=>by unfold FL;rw[<-AIe,<-decide_not];apply AI0.mpr;omega
 unfold HR;rw[List.filter_congr λp _=>h p];cases ha:r.all FL with
 |true=>
  have:r.filter (λp=>!FL p)=[]:=AIv.mpr λp hp=>by have:=AHE.mp ha p hp;simp[this]
  rw[this];rfl
 |false=>
  obtain⟨p,hp,hn⟩:=List.all_eq_false.mp ha;have hm:p∈r.filter (λp=>!FL p):=AGD.mpr ⟨hp,by simpa using hn⟩;have:=AID hm;rw[AG4<|F7 this];rfl
theorem mX{r:List Pt}(P:r.length<=1000):Tu [.lst<|AJ r]=cB (Kx r):=by
 refine BV rfl ?_;unfold Zu;rw[sq<|Ay (Ol r _ rfl) rfl];show AM _ _ [iL r,iI r.length,none,none]=_;have q:cW [iL r,iI r.length,none,none] = some (!(decide ((3:Int)<=r.length)&&decide ((r.length:Int)<=12))||HR r):=by
  refine F0 (E7<|An<|Qs rfl rfl rfl) λ_=>?_;have v:=ZY (f:=AE 0) (t:=AU bY) (fe:=fC<|.int 1) (ρ:=[iL r,iI r.length,none,none]) (cap:=[]) rfl rfl P λp _=>⟨An<|AK (BW (AI (BW (AI rfl AQ)<|OY p.1)<|AI (BW (AI rfl AQ)<|OY p.2) AQ)<|MN _ _) rfl<|FE _ _,λ_=>⟨_,rfl,rfl⟩⟩
  refine An<|AK (BW (AI v AQ)<|gi _) rfl ?_;rw[AFs]
  rfl
 unfold Kx;cases Z:(!(decide ((3:Int)<=r.length)&&decide ((r.length:Int)<=12))||HR r)with
 |true=>
  rw[Z]at q;exact DP<|(Bg q).trans rfl
 |false=>
  rw[Z]at q;rw[sq<|(BL q).trans rfl];simp only[AGf,Bool.not_eq_false',AFw,AF2]at Z;obtain⟨⟨fQ,RG⟩,D⟩:=Z;rw[dY,Bool.not_eq_false']at D;have z:∀p∈r,Bd 1000 p:=λp hp=>by have:=W7.mp<|AHE.mp D p hp;unfold Bd at *;and_intros<;>lia
  have v:B9 [iL r,iI r.length,none,none]=some [.cl<|.lst<|AJ r]:=rfl;have Y:bI [iL r,iI r.length,none,none] = some (!((dist r:Int)==(r.length))||(GV r||decide (AH.Lo r<=0))):=by refine F0 (An<|AK (dJ rfl rfl (YK r) (by unfold kl;rw[AFs];lia)) rfl<|LF _ _) λ_=>?_;exact F0 (An<|Ar v rfl<|Ye U U z) λ_=>An<|AK (Ar v rfl<|mZ U U z) rfl<|Iz _ _
  cases F:(!((dist r:Int)==(r.length))||(GV r||decide (AH.Lo r<=0)))with
  |true=>
   rw[F]at Y;exact DP<|(Bg Y).trans rfl
  |false=>
   rw[F]at Y;rw[sq<|(BL Y).trans rfl];have R:C0 C7 [iL r,iI r.length,none,none]=some ((List.range r.length).map λk:Nat=>PV.int<|k):=Di rfl P;have H:=Hk (gt:=Ac 2) (λρ=>∃a b,ρ=[iL r,iI r.length,a,b]) (xs:=List.range r.length) ⟨none,none,rfl⟩ (by
    rintro k T ρ ⟨a,b,rfl⟩;have B:=AF1.mp T;refine⟨_,rfl,?_⟩;have G:Nv [iL r,iI r.length,iI k,b]=some ((List.range k).map λd:Nat=>PV.int<|d):=Di rfl U;have S:=Hk (enc:=λk:Nat=>PV.int<|k) (gt:=Ac 3) (body:=cC)
     (c:=λj=>!(nb r.length<|(k)-j)&&BP (AA r<|(k)-1) (AA r k) (AA r<|(j)-1) (AA r j))
     (λρ=>∃b,ρ=[iL r,iI r.length,iI k,b]) (xs:=List.range k) ⟨b,rfl⟩ (by
     rintro j C ρ ⟨b,rfl⟩;have CT:=AF1.mp C;refine⟨_,rfl,?_⟩;have y:AU bS [iL r,iI r.length,iI k,iI j]=some (!(nb r.length<|(k)-j)):=
      An (AK (AK (AK rfl rfl<|DB _ _) rfl<|FF U) (EA rfl rfl)<|Rn _ _ _)
     have Q:AU aZ [iL r,iI r.length,iI k,iI j]=some (BP (AA r<|(k)-1) (AA r k) (AA r<|(j)-1)<|AA r j):=
      An (Ar (AI (AK rfl rfl<|CK r ((k)-1) U<|MU B)<|AI (AK rfl rfl<|CK r (k) U<|Dd B)<|AI (AK rfl rfl<|CK r ((j)-1) U U)<|AI (AK rfl rfl<|CK r (j) U U) AQ) rfl<|Yh (DU EE z _) (DU EE z _) (DU EE z _)<|DU EE z _)
     refine⟨λh=>?_,λh=>⟨_,?_,iI j,rfl⟩⟩
     .simp only[AFw]at h;rw[h.1]at y;rw[h.2]at Q;exact(Bg y).trans ((Bg Q).trans rfl)
     .cases O:(!(nb r.length<|(k)-j))with
      |false=>rw[O]at y;exact(BL y).trans rfl
      |true=>
       rw[O,AHG]at h;rw[O]at y;rw[h]at Q;exact(Bg y).trans ((BL Q).trans rfl))
    refine⟨λh=>?_,λh=>?_⟩
    .exact(B8 G).trans (S.1 h)
    .obtain⟨ρ',e,b',rfl⟩:=S.2 h;exact⟨_,(B8 G).trans e,_,_,rfl⟩)
   unfold Nn;cases ha:(List.range r.length).any λk=>(List.range k).any λj=>!(nb r.length<|(k)-j)&&BP (AA r<|(k)-1) (AA r k) (AA r<|(j)-1) (AA r j)with
   |true=>exact DP<|(B8 R).trans<|H.1 ha
   |false=>
    obtain⟨ρ',e,a,b,rfl⟩:=H.2 ha;rw[sq<|(B8 R).trans e];rfl
theorem Y0(r:List Pt):Kf r=true↔AH.Nc r:=by
 delta Kf AH.Nc
 simp only[AGd,AHj,AF1,AFw,not_and,Bool.not_eq_true];constructor
 .intro h k m y z h2 hn;have:=h k.toNat AFm (m-k-1).toNat;rw[AGL y,AGL U,show k+1+(m-k-1)=m by lia]at this;exact this AFo hn
 .intro h k q d hd z;exact h k (k+1+d) Br (by clear z;lia) (by clear q;omega) z
theorem pZ(r:List Pt):Nn r=false↔AH.UW r:=by
 delta Nn AH.UW
 simp only[AHj,AF1,AFw,not_and,Bool.not_eq_true,AGd];constructor
 .intro h k j y z h2 hn;have:=h k.toNat AFm j.toNat U;rw[AGL y,AGL U]at this;unfold M;rw[<-AH.R9,show k-1+1=k from DZ,show j-1+1=j from DZ];exact this hn
 .intro h k q j v z;have:=h k j Br (Dd v) (Dd q) z;unfold M at this;rw[<-AH.R9,show(k:Int)-1+1=k from Ww,show(j:Int)-1+1=j from Ww]at this;exact this
theorem tD(r:List Pt):Kx r=Ci r:=by
 have z:(!Nn r)=Kf r:=by rw[AHM,AGd,pZ,Y0];exact AH.nW r
 delta Kx Ci
 simp only[z,dY,dg,AH.ng];have y:decide (0<AH.CH r) = !decide (AH.CH r<=0):=by rw[<-decide_not];apply AI0.mpr;lia
 simp only[y];generalize (decide ((3:Int)<=r.length)&&decide ((r.length:Int)<=12))=b1;generalize r.all FL=b2;generalize ((dist r:Int)==(r.length))=b3;generalize GV r=b4;generalize decide (AH.CH r<=0)=b5;generalize Kf r=b6;cases b1<;>cases b2<;>cases b3<;>cases b4<;>cases b5<;>cases b6<;>rfl
theorem HQ{f g:EF}{ρ:AS}{s:List Int}{k:Int}(z:f ρ=some (.cl<|.rd<|Av s))(y:g ρ=cI k)(h:0<=k):AY EK (AG f<|AG g AN) ρ=cI (Ab s k):=
 Ar (AI z<|AI y AQ) rfl (Ti s k h)
theorem Ih{f:EF}{ρ:AS}{i:Int}(n:Int)(e:f ρ=cI i)(h:0<n:=by lia)(z:n<1073741824:=by lia):f2 DW f (fC<|.int n) ρ=cI (i / n):=AK e rfl<|gd h z
theorem E6{f:EF}{ρ:AS}{i:Int}(n:Int)(e:f ρ=cI i)(h:0<n:=by lia):f2 BU f (fC<|.int n) ρ=cI (i%n):=AK e rfl<|FF h
theorem Ji{f g:EF}{ρ:AS}{i j:Int}(e:f ρ=cI i)(z:g ρ=cI j):f2 A4 f g ρ=cI (i+j):=AK e z<|J4 _ _
theorem L1{f g:EF}{ρ:AS}{i j:Int}(e:f ρ=cI i)(z:g ρ=cI j):f2 BK f g ρ=cI (i-j):=AK e z<|DB _ _
theorem Km{f:EF}{ρ:AS}{i:Int}(n:Int)(e:f ρ=cI i):AU (f2 Bn f<|fC<|.int n) ρ=some (i==n):=An<|AK e rfl<|LB _ _
def Fp(s:List Int)(k count mode:Int)(b:Int×List Pt×List Pt)(d:Nat):Int×List Pt×List Pt:=
 let x:=if mode=3 then 1+(d:Int)else b.1+1+Ab s (k+4+(1+(d:Int))) / 2%4
 let y:=if mode=3 then(1+(d:Int))*(count-1-(1+(d:Int)))else 1+Ab s (k+4+(1+(d:Int))) / 8%9
 if Ab s (k+4+(1+(d:Int)))%2=0 then(x,b.2.1 ++ [(x,0-y)],b.2.2)else(x,b.2.1,b.2.2 ++ [(x,y)])
def Cf(s:List Int)(k count:Int):Int×List Pt×List Pt:=(List.range (count-2).toNat).foldl (Fp s k count<|Ab s (k+1)%4) (0,[],[])
noncomputable def E1(count:Int):List Pt:=(List.range count.toNat).map λj:Nat=>((j:Int),0-(j:Int)*(count-1-j))
noncomputable def CO(b:Int×List Pt×List Pt):List Pt:=[(0,0)]++b.2.1 ++ [(b.1+1,0)]++b.2.2.reverse
def Gs(s:List Int)(k count:Int):List Pt:=if GV (CO<|Cf s k count)=true then E1 count else CO (Cf s k count)
structure Lk(i:Nat)(b:Int×List Pt×List Pt):Prop where
 lo:0<=b.1
 hi:b.1<=4*i
 len:b.2.1.length+b.2.2.length=i
 bl:∀p∈b.2.1,Bd 500 p
 bh:∀p∈b.2.2,Bd 500 p
theorem iZ{a b:Int}{n m:Int}(q : -n<=a)(v:a<=n)(h3 : -m<=b)(p:b<=m) : -(n*m)<=a*b/\a*b<=n*m:=by
 have hm:0<=m:=U
 constructor
 .rcases AHi 0 a with ha|ha
  .have z:=AF7 h3 ha;have y:=AGB v hm;rw[AIF]at z;lia
  .have z:=AI8 ha p;have y:=AGB q hm;lia
 .rcases AHi 0 a with ha|ha
  .have z:=AF7 p ha;have y:=AGB v hm;lia
  .have z:=AI8 ha h3;have y:=AGB q hm;rw[AIF]at z;lia
theorem jV{s:List Int}{k count mode:Int}{i:Nat}{b:Int×List Pt×List Pt}(h1:3<=count)(h2:count<=12)(hi:(i)<count-2)(h:Lk i b):Lk (i+1)<|Fp s k count mode b i:=by
 obtain⟨v,low,Bv⟩:=b;obtain⟨lo,hh,len,bl,bh⟩:=h;dsimp only at lo hh len bl bh;have Z:∀x,x=(if mode=3 then 1+(i:Int)else v+1+Ab s (k+4+(1+(i))) / 2%4)->0<=x/\x<=4*((i)+1):=λx e=>by subst e;split<;>lia
 have Y:∀y,y=(if mode=3 then(1+(i))*(count-1-(1+(i)))else 1+Ab s (k+4+(1+(i))) / 8%9)->-121<=y/\y<=121:=λy e=>by
  subst e;split
  .have:=iZ (n:=11) (m:=11) (a:=1+(i)) (b:=count-1-(1+(i))) U U U U
   assumption
  .lia
 unfold Fp;dsimp only;generalize ex:(if mode=3 then 1+(i:Int)else v+1+Ab s (k+4+(1+(i))) / 2%4)=x;generalize Q:(if mode=3 then(1+(i))*(count-1-(1+(i)))else 1+Ab s (k+4+(1+(i))) / 8%9)=y;have q:=Z x ex.symm;have WU:=Y y Q.symm;split
 .refine⟨q.1,by exact q.2,by simp;lia,λp hp=>?_,bh⟩;rcases AGO.mp hp with z|z
  .exact bl p z
  .rw[AGH.mp z];unfold Bd;dsimp only;and_intros<;>lia
 .refine⟨q.1,by exact q.2,by simp;lia,bl,λp hp=>?_⟩;rcases AGO.mp hp with z|z
  .exact bh p z
  .rw[AGH.mp z];unfold Bd;dsimp only;and_intros<;>lia
theorem dm{s:List Int}{k count mode:Int}(z:3<=count)(y:count<=12):∀n:Nat,(n)<=count-2->Lk n ((List.range n).foldl (Fp s k count mode) (0,[],[]))
 |0,_=>⟨AFn,AFn,rfl,(λp hp=>by cases hp),(λp hp=>by cases hp)⟩
 |n+1,hn=>by rw[AHS,AIr];exact jV z y AFr<|dm z y n U
theorem jU(s:List Int)(k:Int){count:Int}(y:3<=count)(z:count<=12):Lk (count-2).toNat<|Cf s k count:=dm y z _ (by clear z;omega)
theorem Ss(b:Int×List Pt×List Pt):(CO b).length=b.2.1.length+b.2.2.length+2:=by simp[CO];lia
theorem ACv{i:Nat}{b:Int×List Pt×List Pt}(h:Lk i b)(hi:i<=100):∀p∈CO b,Bd 1000 p:=λp hp=>by
 unfold CO at hp;simp only[AGO,AGH,AH4]at hp;have:=h.lo;have:=h.hi;rcases hp with((rfl|hp)|rfl)|hp
 .unfold Bd;lia
 .have:=h.bl p hp;unfold Bd at *;lia
 .unfold Bd;lia
 .have:=h.bh p hp;unfold Bd at *;lia
theorem Mo(a b:List Pt):AJ (a++b)=AJ a++AJ b:=AGP ..
theorem gc(l:List Pt)(p:Pt)(h:l.length<1000):Dm (AJ l) [pv p]=some (AJ<|l ++ [p]):=by
 unfold Dm;dsimp only;rw[AFu (by rw[Bs];exact h),Mo]
 rfl
theorem SG{i:Nat}{k:List PV->List PV->Option (List PV)}{ga:AF}{ρ:AS}{ps qs z:List PV}{rs:List RV}(h:ρ[i]? = some (some<|.own ps))(e:ga ρ=some rs)(c:CZ rs=some qs)(y:k ps qs=some z):Cr i k ga ρ=some (.nx<|ρ.set i<|some<|.own z):=by unfold Cr;rw[h,e];dsimp only;rw[c];dsimp only;rw[y]
theorem Iy{x y:RV}{xs z:List PV}(q:x.list=some xs)(v:y.list=some z)(h:xs.length+z.length<=1000):A4 x y=some (.fr<|xs++z):=by
 have hc:OZ x y=some (.fr<|xs++z):=by unfold OZ;rw[q,v];dsimp only;rw[AFu h]
 unfold A4;split
 .contradiction
 .exact hc
theorem dM{f:EF}{ρ:AS}{r:RV}{ps:List PV}(e:f ρ=some r)(h:r.list=some ps):GU f ρ=some (.fr ps.reverse):=by unfold GU;rw[e];dsimp only;rw[h]
theorem m7(s:List Int)(k count:Int)(S:0<=k)(F:3<=count)(R:count<=12):Tz [.rd<|Av s,.int k,.int count]=some (.cl<|.lst<|AJ<|Gs s k count):=by
 refine BV rfl ?_;unfold Z0;rw[sq<|Ay (E6 4<|HQ rfl rfl<|ET S) rfl];generalize T:Ab s (k+1)%4=mode;have C:Cf s k count=(List.range (count-2).toNat).foldl (Fp s k count mode) (0,[],[]):=by unfold Cf;rw[T]
 show AM _ _ [iM<|.rd<|Av s,iI k,iI count,iI mode,iI 0,some<|.own [],some<|.own [],none,none,none,none]=_;have E:DK Qp [iM<|.rd<|Av s,iI k,iI count,iI mode,iI 0,some<|.own [],some<|.own [],none,none,none,none]=some ((List.range (count-2).toNat).map λd:Nat=>PV.int<|1+(d)):=by unfold DK;rw[show Qp [iM<|.rd<|Av s,iI k,iI count,iI mode,iI 0,some<|.own [],some<|.own [],none,none,none,none]=some [.cl<|.int 1,.cl<|.int<|count-1]from rfl];dsimp only;rw[AFu ⟨⟨U,U⟩,⟨U,U⟩⟩,ju,show(count-1-1).toNat=(count-2).toNat by lia]
 obtain⟨ρ',e,⟨q,v,Z,rfl⟩,AZ⟩:=Hl (enc:=λd:Nat=>PV.int<|1+(d)) (gt:=Ac 7) (body:=U5)
  (Fp s k count mode) (λi b ρ=>(∃q v Z,ρ=[iM<|.rd<|Av s,iI k,iI count,iI mode,iI b.1,some<|.own<|AJ b.2.1,some<|.own<|AJ b.2.2,q,v,Z,none])/\Lk i b)
  (xs:=List.range (count-2).toNat) (n:=0) (b:=(0,[],[])) ⟨⟨none,none,none,rfl⟩,AFn,AFn,rfl,(λp hp=>by cases hp),(λp hp=>by cases hp)⟩ (by
  rintro i d hd b ρ ⟨⟨q,v,Z,rfl⟩,AZ⟩;have uV:=by have:=(AFx.mp hd).1;simpa using this
  have H:=by have:=(AFx.mp hd).2;simpa using this.symm
  subst H;rw[AIJ]at AZ;have I:=jV (s:=s) (k:=k) (mode:=mode) F R AFr AZ;have D:=AZ.len;obtain⟨Y,low,z⟩:=b;refine⟨_,[iM<|.rd<|Av s,iI k,iI count,iI mode,iI<|(Fp s k count mode (Y,low,z) d).1,some<|.own<|AJ (Fp s k count mode (Y,low,z) d).2.1,some<|.own<|AJ (Fp s k count mode (Y,low,z) d).2.2,iI<|1+(d),iI<|Ab s<|k+4+(1+(d)),iI (if mode=3 then(1+(d))*(count-1-(1+(d)))else 1+Ab s (k+4+(1+(d))) / 8%9),none],rfl,?_,⟨_,_,_,rfl⟩,by rw[AIJ];exact I⟩;dsimp only at D;unfold Fp
  delta U5
  rw[sq<|Ay (HQ rfl rfl U) rfl];generalize Ab s (k+4+(1+(d)))=c;show AM _ _ [iM<|.rd<|Av s,iI k,iI count,iI mode,iI<|Y+1+c / 2%4,some<|.own<|AJ low,some<|.own<|AJ z,iI<|1+(d),iI c,iI<|1+c / 8%9,none]=_;have Q:=Km (f:=AE 3) (ρ:=[iM<|.rd<|Av s,iI k,iI count,iI mode,iI<|Y+1+c / 2%4,some<|.own<|AJ low,some<|.own<|AJ z,iI<|1+(d),iI c,iI<|1+c / 8%9,none]) 3 rfl;have fin:∀x y:Int,Ql [iM<|.rd<|Av s,iI k,iI count,iI mode,iI x,some<|.own<|AJ low,some<|.own<|AJ z,iI<|1+(d),iI c,iI y,none] = some (.nx [iM<|.rd<|Av s,iI k,iI count,iI mode,iI ((if c%2=0 then(x,low ++ [(x,0-y)],z)else(x,low,z ++ [(x,y)])).1),some (.own (AJ (if c%2=0 then(x,low ++ [(x,0-y)],z)else(x,low,z ++ [(x,y)])).2.1)),some (.own (AJ (if c%2=0 then(x,low ++ [(x,0-y)],z)else(x,low,z ++ [(x,y)])).2.2)),iI<|1+(d),iI c,iI y,none]):=λx y=>by
   have O:=Km (f:=f2 BU (AE 8)<|fC<|.int 2) (ρ:=[iM<|.rd<|Av s,iI k,iI count,iI mode,iI x,some<|.own<|AJ low,some<|.own<|AJ z,iI<|1+(d),iI c,iI y,none]) 0<|E6 2 rfl;by_cases hc:c%2=0
   .rw[show(c%2==0)=true by simp[hc]]at O
    delta Ql
    rw[Bg O,AFu hc];exact SG rfl (AI (x:=.cl<|pv (x,0-y)) rfl AQ) rfl<|gc low _ U
   .rw[show(c%2==0)=false by simp[hc]]at O
    delta Ql
    rw[BL O,AF0 hc];exact SG rfl (AI (x:=.cl<|pv (x,y)) rfl AQ) rfl<|gc z _ U
  by_cases hm:mode=3
  .rw[show(mode==3)=true by simp[hm]]at Q;simp only[AFu hm];refine Eq.trans (sq<|(Bg Q).trans ?_)<|fin _ _;refine(sq<|Ay rfl rfl).trans ?_;refine(Ay (AK rfl rfl<|Gj<|GK U) rfl)
  .rw[show(mode==3)=false by simp[hm]]at Q;simp only[AF0 hm];exact(sq<|(BL Q).trans rfl).trans (fin _ _))
 rw[sq<|(B8 E).trans e,<-C];have B:=jU s k F R;have D:=B.len;have hrl:=Ss<|Cf s k count;have t:f2 A4 ah (GU<|AE 6) [iM<|.rd<|Av s,iI k,iI count,iI mode,iI<|(Cf s k count).1,some<|.own<|AJ (Cf s k count).2.1,some<|.own<|AJ (Cf s k count).2.2,q,v,Z,none]=some (.fr<|AJ<|CO<|Cf s k count):=by
  have l1:=Bs (Cf s k count).2.1;have l2:=Bs (Cf s k count).2.2;refine(AK (AK (AK rfl rfl<|Iy rfl rfl (by simp;grind)) rfl<|Iy rfl rfl (by simp;grind)) (dM rfl rfl)<|Iy rfl rfl (by simp;grind)).trans ?_;unfold CO;rw[Mo,Mo];unfold AJ;rw[List.map_reverse]
  rfl
 rw[sq<|Ay t rfl];have P:=An (Ar (ρ:=[iM<|.rd<|Av s,iI k,iI count,iI mode,iI<|(Cf s k count).1,some<|.own<|AJ (Cf s k count).2.1,some<|.own<|AJ (Cf s k count).2.2,q,v,Z,iL<|CO<|Cf s k count]) (AI (f:=AE 10) rfl AQ) rfl<|Ye AFm (by clear D;lia)<|ACv B AFm);unfold Gs;cases G:GV (CO<|Cf s k count)with
 |false=>
  rw[G]at P;exact(sq<|(BL P).trans rfl).trans rfl
 |true=>
  simp only[G]at P;have a:count=(count.toNat):=AFm
  have h:BC Nv 1 [2] (Ac 0) Bh bV [iM<|.rd<|Av s,iI k,iI count,iI mode,iI<|(Cf s k count).1,some<|.own<|AJ (Cf s k count).2.1,some<|.own<|AJ (Cf s k count).2.2,q,v,Z,iL<|CO<|Cf s k count]=some (.fr<|AJ<|E1 count):=by
   refine CS (Di (by rw[<-a];rfl) U) (by simp;lia) ?_
   delta E1 AJ
   simp only[AGU];refine GL λj hj=>⟨_,.cl<|pv ((j),0-(j)*(count-1-j)),rfl,?_,rfl⟩;have CT:=AF1.mp hj;exact Ee (AI rfl<|AI (L1 rfl<|AK rfl rfl<|Gj<|GK U) AQ) rfl
  exact(sq<|(Bg P).trans<|Ay h rfl).trans rfl
def wx(s:List Int)(k:Int):Nat->Int
 |0=>0
 |i+1=>wx s k i+1+Ab s (k+5+(i:Int))%4
def wy(s:List Int)(k:Int):Nat->Int
 |0=>0
 |i+1=>wy s k i+1+Ab s (k+5+(i:Int)) / 4%4
def M7(s:List Int)(k:Int):List Pt:=
 [(wx s k 0,wy s k 0),(wx s k 5,wy s k 0),(wx s k 5,wy s k 5),(wx s k 1,wy s k 5),(wx s k 1,wy s k 2),(wx s k 3,wy s k 2),(wx s k 3,wy s k 3),(wx s k 2,wy s k 3),(wx s k 2,wy s k 4),(wx s k 4,wy s k 4),(wx s k 4,wy s k 1),(wx s k 0,wy s k 1)]
noncomputable def upTo(f:Nat->Int)(n:Nat):List PV:=(List.range<|n+1).map λi=>PV.int<|f i
theorem lO(f:Nat->Int)(n:Nat):upTo f (n+1)=upTo f n ++ [.int<|f<|n+1]:=by unfold upTo;rw[AHS,AGP];rfl
theorem lN(f:Nat->Int)(n:Nat):Am (.bo<|upTo f n) (.cl<|.int (-1))=cI (f n):=by
 show(CM (upTo f n) (-1)).map _=_;have:CM (upTo f n) (-1)=some (.int<|f n):=by
  have z:(upTo f n).length=n+1:=by simp[upTo]
  delta CM Gh
  rw[z,AF0 U,AFu (by clear z;lia),show(-1+((n+1:Nat):Int)).toNat=n by lia];simp[upTo]
 rw[this];rfl
theorem gZ(l:List PV)(p:PV)(h:l.length<1000):Dm l [p]=some (l ++ [p]):=by unfold Dm;dsimp only;rw[AFu h]
theorem nG(s:List Int)(k:Int)(h0:0<=k):T7 [.rd<|Av s,.int k]=some (.fr<|AJ<|M7 s k):=by
 refine BV rfl ?_;show AM _ _ [iM<|.rd<|Av s,iI k,some<|.own [.int 0],some<|.own [.int 0],none,none,none]=_;have q:C0 (AG (fC<|.int 5) AN) [iM<|.rd<|Av s,iI k,some<|.own [.int 0],some<|.own [.int 0],none,none,none]=some ((List.range 5).map λd:Nat=>PV.int<|d):=Di rfl U;obtain⟨ρ',e,z,y,rfl⟩:=Hl (enc:=λd:Nat=>PV.int<|d) (gt:=Ac 4) (body:=VA)
  (λ(u)(_)=>u) (λi _ ρ=>∃z y,ρ=[iM<|.rd<|Av s,iI k,some<|.own<|upTo (wx s k) i,some<|.own<|upTo (wy s k) i,z,y,none]) (xs:=List.range 5) (b:=()) ⟨none,none,rfl⟩ (by
  rintro i d hd _ ρ ⟨z,y,rfl⟩;have v:=by have:=(AFx.mp hd).2;simpa using this.symm
  have uV:=by have:=(AFx.mp hd).1;simpa using this
  subst v;rw[AIJ];have Ir:(upTo (wx s k) d).length=d+1:=by simp[upTo]
  have K4:(upTo (wy s k) d).length=d+1:=by simp[upTo]
  refine⟨_,[iM<|.rd<|Av s,iI k,some<|.own<|upTo (wx s k)<|d+1,some<|.own<|upTo (wy s k)<|d+1,iI d,iI<|Ab s<|k+5+(d),none],rfl,?_,_,_,rfl⟩
  delta VA
  rw[sq<|Ay (HQ rfl rfl U) rfl];simp only[lO,lO,wx,wy];refine(sq<|SG rfl (AI (Ji (Ji (AK rfl rfl<|lN _ _) rfl)<|E6 4 rfl) AQ) rfl<|gZ _ _ U).trans ?_;exact(SG rfl (AI (Ji (Ji (AK rfl rfl<|lN _ _) rfl)<|E6 4<|Ih 4 rfl) AQ) rfl<|gZ _ _ U))
 rw[sq<|(B8 q).trans e];refine(sq<|Ay rfl rfl).trans ?_;exact LP rfl
theorem Zd(r:List Pt)(n:Nat)(h:n<=r.length):Lv (AJ r) none (some<|n)=AJ (r.take n):=by unfold Lv;rw[HT.kF,HT.kE,Bs,List.drop_zero,AKD,Nat.min_eq_left h,AJ,AJ,List.map_take]
theorem ph(r:List Pt)(n:Nat)(h:n<=r.length):Lv (AJ r) (some<|n) none=AJ (r.drop n):=by unfold Lv;rw[HT.kF,HT.kE,Bs,Nat.min_eq_left h,AIu (by simp[AJ]),AJ,AJ,List.map_drop]
theorem dN{f g:EF}{ρ:AS}{rv:RV}{r:List Pt}{n:Nat}(e:f ρ=some rv)(z:rv.list=some (AJ r))(y:g ρ=cI n)(h:n<=r.length):F2 f GS (F1 g) ρ=some (.fr<|AJ<|r.take n):=by
 delta F2 GS F1
 rw[e,y];dsimp only;rw[z];dsimp only;rw[Zd r n h]
theorem dG{f g:EF}{ρ:AS}{rv:RV}{r:List Pt}{n:Nat}(e:f ρ=some rv)(z:rv.list=some (AJ r))(y:g ρ=cI n)(h:n<=r.length):F2 f (F1 g) GS ρ=some (.fr<|AJ<|r.drop n):=by
 delta F2 GS F1
 rw[e,y];dsimp only;rw[z];dsimp only;rw[ph r n h]
noncomputable def Dv(r:List Pt)(c:Int):Nat:=(c%(r.length:Int)).toNat
theorem Se{r:List Pt}(h:0<r.length)(c:Int):Dv r c<r.length:=by have h2:=AGI c (b:=(r.length))<|F7 h;unfold Dv;lia
theorem jX{r:List Pt}(h:0<r.length)(c:Int):c%(r.length)=(Dv r c):=by have h1:=AGQ c (b:=(r.length))<|MX h;unfold Dv;lia
def FO(r:List Pt)(c:Int):Pt:=((AA r<|Dv r c).1+c / 16%33-16,(AA r<|Dv r c).2+c / 1024%33-16)
def Hs(r:List Pt)(c:Int):List Pt:=r.take (Dv r c) ++ [FO r c]++r.drop (Dv r c+1)
def Mn(s:List Int)(k:Int)(r:List Pt)(d:Nat):List Pt:=
 let c:=Ab s<|k+15+(d:Int)
 if(decide (max (Dk (FO r c).1) (Dk (FO r c).2)<80)&&Kx (Hs r c))=true then Hs r c else r
def Mm(s:List Int)(k:Int)(r:List Pt):List Pt:=(List.range (Ab s (k+1) / 4%5).toNat).foldl (Mn s k) r
theorem AAr{r:List Pt}(h:0<r.length)(c:Int):(Hs r c).length=r.length:=by
 have:=Se h c;unfold Hs;simp only[AGA,AHe,AGC,AHB,AIP]
 grind
theorem m9(s:List Int)(k:Int)(G:0<=k){r:List Pt}(h1:0<r.length)(h2:r.length<=100):T4 [.rd<|Av s,.int k,.lst<|AJ r]=some (.cl<|.lst<|AJ<|Mm s k r)/\(Mm s k r).length=r.length:=by
 have hn:Ab s (k+1) / 4%5=((Ab s (k+1) / 4%5).toNat):=U
 have S:C0 bU (A9 9 [.rd<|Av s,.int k,.lst<|AJ r])=some ((List.range (Ab s (k+1) / 4%5).toNat).map λd:Nat=>PV.int<|d):=
  Di (AI (by rw[<-hn];exact E6 5<|Ih 4<|HQ rfl rfl<|ET G) AQ) U
 obtain⟨ρ',e,⟨O,z,v,p,Z,Y,rfl⟩,T⟩:=Wr (gt:=Ac 3) (body:=aL) (Mn s k) (λ(q) ρ=>(∃O z v p Z Y,ρ=[iM<|.rd<|Av s,iI k,iL q,O,z,v,p,Z,Y])/\q.length=r.length) (ρ:=A9 9 [.rd<|Av s,.int k,.lst<|AJ r]) ⟨⟨none,none,none,none,none,none,rfl⟩,rfl⟩ (by
  rintro d hd q ρ ⟨⟨O,z,v,p,Z,Y,rfl⟩,P⟩;have D:0<q.length:=U
  unfold Mn;dsimp only;have F:=HQ (f:=AE 0) (g:=f2 A4 (f2 A4 (AE 1)<|fC<|.int 15)<|AE 3) (ρ:=[iM<|.rd<|Av s,iI k,iL q,iI d,z,v,p,Z,Y]) rfl rfl U;generalize Ab s (k+15+(d))=c at F ⊢;have hp:=Se D c;have R:Am (.cl<|.lst<|AJ q) (.cl<|.int<|Dv q c)=some (.cl<|pv<|AA q<|Dv q c):=CK q _ (by clear P;lia) (by clear P;lia);have C:=Bs q;have vO:=AAr D c;have pre:∀h:SF,AM bq (AM (Aa 5<|f2 BU (AE 4) Je)<|AM ay<|AM aw<|AM ao h)
    [iM<|.rd<|Av s,iI k,iL q,iI d,z,v,p,Z,Y] =
    h [some<|.im<|.rd<|Av s,some<|.im<|.int k,some<|.im<|.lst<|AJ q,some<|.im<|.int d,some<|.im<|.int c,some<|.im<|.int<|Dv q c,some<|.im<|.int (FO q c).1,some<|.im<|.int (FO q c).2,some<|.im<|.lst<|AJ<|Hs q c]:=λh=>by
   rw[sq<|Ay F rfl];refine(sq (Ay (r:=.cl<|.int<|Dv q c) (by rw[<-(jX D c),<-C];exact AK rfl rfl<|FF U) rfl)).trans ?_
   refine(sq<|Ay (L1 (Ji (AK (AK rfl rfl R) rfl<|DM _)<|E6 33<|Ih 16 rfl) rfl) rfl).trans ?_;refine(sq<|Ay (L1 (Ji (AK (AK rfl rfl R) rfl<|DX _)<|E6 33<|Ih 1024 rfl) rfl) rfl).trans ?_;refine(sq<|Ay (AK (AK (dN rfl rfl rfl AFm) (y:=.fr [pv<|FO q c]) rfl<|Iy rfl rfl (by simp[AJ];grind)) (dG rfl rfl rfl AFr)<|Iy rfl rfl (by simp[AJ];grind)) rfl).trans ?_;unfold Hs;simp only[Mo,Mo]
   rfl
  have Q:bF [iM<|.rd<|Av s,iI k,iL q,iI d,iI c,iI<|Dv q c,iI<|(FO q c).1,iI<|(FO q c).2,iL<|Hs q c] = some (decide (max (Dk (FO q c).1) (Dk (FO q c).2)<80)&&Kx (Hs q c)):=
   HP (An<|AK (BW (AI (BW (AI rfl AQ)<|OY _)<|AI (BW (AI rfl AQ)<|OY _) AQ)<|MN _ _) rfl<|JA _ _) λ_=>An<|Ar (AI rfl AQ) rfl<|mX U
  cases B:(decide (max (Dk (FO q c).1) (Dk (FO q c).2)<80)&&Kx (Hs q c))with
  |true=>
   rw[B]at Q;rw[AFu rfl];exact⟨_,_,rfl,(pre _).trans<|(Bg Q).trans<|Ay rfl rfl,⟨_,_,_,_,_,_,rfl⟩,U⟩
  |false=>
   rw[B]at Q;exact⟨_,_,rfl,(pre _).trans<|(BL Q).trans rfl,⟨_,_,_,_,_,_,rfl⟩,P⟩)
 refine⟨BV rfl ?_,T⟩;exact(sq<|(B8 S).trans e).trans rfl
noncomputable def Hu(z:Int)(p:Pt):Pt:=(p.1+z*p.2,p.2)
noncomputable def Ks(p:Pt):Pt:=(0-p.1,p.2)
noncomputable def Kt(p:Pt):Pt:=(p.1,0-p.2)
noncomputable def LS(p:Pt):Pt:=(p.2,p.1)
noncomputable def KI(x y:Int)(p:Pt):Pt:=(p.1+x,p.2+y)
def EM(s:List Int)(k most:Int):List Pt:=if most=12/\Ab s (k+1) / 20%6=5 then M7 s k else Gs s k (3+Ab s k%(most-2))
def Dx(s:List Int)(k:Int):Int:=Ab s (k+2) / 8%3-1
def FP(s:List Int)(k most:Int):List Pt:=Mm s k<|(EM s k most).map<|Hu<|Dx s k
def IA(s:List Int)(k:Int)(r:List Pt):List Pt:=if Ab s (k+2)%8%2=1 then(r.map Ks).reverse else r
def LY(s:List Int)(k:Int)(r:List Pt):List Pt:=if Ab s (k+2)%8 / 2%2=1 then(r.map Kt).reverse else r
def TK(s:List Int)(k:Int)(r:List Pt):List Pt:=if Ab s (k+2)%8 / 4=1 then(r.map LS).reverse else r
def Df(s:List Int)(k most:Int):List Pt:=TK s k<|LY s k<|IA s k<|FP s k most
noncomputable def De(r:List Pt)(n:Nat):List Pt:=r.drop n++r.take n
def drawn(s:List Int)(k most:Int):List Pt:=(De (Df s k most)<|Dv (Df s k most)<|Ab s<|k+3).map<|KI (Ab s (k+3) / 16%41-20)<|Ab s (k+4)%41-20
theorem AAQ(s:List Int)(k:Int){count:Int}(z:3<=count)(y:count<=12):((Gs s k count).length)=count:=by
 have h:=(jU s k z y).len;unfold Gs;split
 .simp[E1];grind
 .rw[Ss];grind
theorem nu(s:List Int)(k:Int){most:Int}(z:3<=most)(h2:most<=12):3<=(EM s k most).length/\((EM s k most).length)<=most:=by
 unfold EM;split
 .simp[M7];lia
 .have a:=AGQ (Ab s k) (b:=most-2) U;have b:=AGI (Ab s k) (b:=most-2) (by clear a;lia);have:=AAQ s k (count:=3+Ab s k%(most-2)) AFo (by clear z;omega);omega
theorem YL(s:List Int)(k:Int)(r:List Pt):(IA s k r).length=r.length:=by unfold IA;split<;>simp
theorem lG(s:List Int)(k:Int)(r:List Pt):(LY s k r).length=r.length:=by unfold LY;split<;>simp
theorem AEK(s:List Int)(k:Int)(r:List Pt):(TK s k r).length=r.length:=by unfold TK;split<;>simp
theorem ACr(r:List Pt)(q:Pt->Pt):(r.map<|pv∘q).reverse=AJ ((r.map q).reverse):=by unfold AJ;rw[List.map_reverse,AGU]
theorem Yn(s:List Int)(k most:Int)(v:0<=k)(C:3<=most)(E:most<=12):P9 [.rd<|Av s,.int k,.int most]=some (.fr<|AJ<|drawn s k most)/\3<=(drawn s k most).length/\((drawn s k most).length)<=most:=by
 have H:=nu s k C E;have B:=m9 s k v (r:=(EM s k most).map<|Hu<|Dx s k) (by simp;omega) (by simp;lia);have I:(FP s k most).length=(EM s k most).length:=by simp only[FP,B.2,AFs]
 have vO:(Df s k most).length=(EM s k most).length:=by simp only[Df,AEK,lG,YL,I]
 have Fd:(drawn s k most).length=(EM s k most).length:=by
  delta drawn De
  simp only[AFs,AGA,AIP,AHe]
  grind
 refine⟨?_,U,U⟩;refine BV rfl ?_;unfold Z1;have em:=AGQ (Ab s k) (b:=most-2) U;have em2:=AGI (Ab s k) (b:=most-2) U;rw[sq<|Ay (HQ rfl rfl v) rfl];rw[sq<|Ay (Ar (AI rfl<|AI rfl<|AI (Ji rfl<|AK rfl rfl<|FF U) AQ) rfl<|m7 s k (3+Ab s k%(most-2)) v AFo U) rfl];show AM _ _ [iM<|.rd<|Av s,iI k,iI most,iI<|Ab s k,iL<|Gs s k<|3+Ab s k%(most-2),none,none,none,none,none]=_;have x:aQ [iM<|.rd<|Av s,iI k,iI most,iI<|Ab s k,iL<|Gs s k<|3+Ab s k%(most-2),none,none,none,none,none] = some (.nx [iM<|.rd<|Av s,iI k,iI most,iI<|Ab s k,iL<|EM s k most,none,none,none,none,none]):=by
  have y:=HP (Km (f:=AE 2) (ρ:=[iM<|.rd<|Av s,iI k,iI most,iI<|Ab s k,iL<|Gs s k<|3+Ab s k%(most-2),none,none,none,none,none]) 12 rfl) λ_=>Km 5<|E6 6<|Ih 20<|HQ (f:=AE 0) (g:=f2 A4 (AE 1)<|fC<|.int 1) rfl rfl<|ET v;unfold EM;by_cases hc:most=12/\Ab s (k+1) / 20%6=5
  .rw[show(most==12&&Ab s (k+1) / 20%6==5)=true by simp[hc.1,hc.2]]at y;rw[AFu hc];exact(Bg y).trans (Ay (Ar (AI rfl<|AI rfl AQ) rfl<|nG s k v) rfl)
  .rw[show(most==12&&Ab s (k+1) / 20%6==5)=false by rw[AIo];intro z;simp at z;exact hc z]at y
   rw[AF0 hc];exact(BL y).trans rfl
 rw[sq x];have G:∀(Z Y Q O P D:Option SV),VE [iM<|.rd<|Av s,iI k,iI most,iI<|Ab s k,Z,Y,Q,O,P,D]=cI (Ab s<|k+2):=λ_ _ _ _ _ _=>HQ rfl rfl U;have S:∀(Z Y Q O P D:Option SV),Qo [iM<|.rd<|Av s,iI k,iI most,iI<|Ab s k,Z,Y,Q,O,P,D]=cI (Ab s<|k+3):=λ_ _ _ _ _ _=>HQ rfl rfl U;have a:∀(Z Y Q O P D:Option SV),AY EK (AG (AE 0)<|AG (f2 A4 (AE 1)<|fC<|.int 4) AN) [iM<|.rd<|Av s,iI k,iI most,iI<|Ab s k,Z,Y,Q,O,P,D]=cI (Ab s<|k+4):=λ_ _ _ _ _ _=>HQ rfl rfl U;rw[sq<|Ay (L1 (E6 3<|Ih 8<|G _ _ _ _ _ _) rfl) rfl];show AM _ _ [iM<|.rd<|Av s,iI k,iI most,iI<|Ab s k,iL<|EM s k most,iI<|Dx s k,none,none,none,none]=_;have e:BC Ic 2 [5] GQ Bh cP [iM<|.rd<|Av s,iI k,iI most,iI<|Ab s k,iL<|EM s k most,iI<|Dx s k,none,none,none,none] = some (.fr<|AJ<|(EM s k most).map<|Hu<|Dx s k):=by unfold AJ;rw[AGU];refine Uo rfl rfl U λp _=>⟨.cl<|pv<|Hu (Dx s k) p,?_,rfl⟩;exact Ee (AI (Ji rfl<|AK rfl rfl<|Gj<|GK (by unfold Dx;lia))<|AI rfl AQ) rfl
 rw[sq<|Ay (Ar (AI rfl<|AI rfl<|AI e AQ) rfl B.1) rfl];show AM _ _ [iM<|.rd<|Av s,iI k,iI most,iI<|Ab s k,iL<|FP s k most,iI<|Dx s k,none,none,none,none]=_;rw[sq<|Ay (E6 8<|G _ _ _ _ _ _) rfl];show AM _ _ [iM<|.rd<|Av s,iI k,iI most,iI<|Ab s k,iL<|FP s k most,iI<|Dx s k,iI<|Ab s (k+2)%8,none,none,none]=_;have tn:∀(q:Pt->Pt)(f:EF)(t:BF)(b:Bool)(r:List Pt),r.length<=1000->t [iM<|.rd<|Av s,iI k,iI most,iI<|Ab s k,iL r,iI<|Dx s k,iI<|Ab s (k+2)%8,none,none,none]=some b->(∀p:Pt,f [iI p.1,iI p.2]=some (.cl<|pv<|q p))->Az t (Aa 4<|GU<|BC Ic 2 [] GQ Bh f) A7 [iM<|.rd<|Av s,iI k,iI most,iI<|Ab s k,iL r,iI<|Dx s k,iI<|Ab s (k+2)%8,none,none,none] = some (.nx [some<|.im<|.rd<|Av s,some<|.im<|.int k,some<|.im<|.int most,some<|.im<|.int<|Ab s k,some (.im (.lst (AJ (if b=true then(r.map q).reverse else r)))),some<|.im<|.int<|Dx s k,some<|.im<|.int<|Ab s (k+2)%8,none,none,none]):=λq f t b r hl y hf=>by
  cases b with
  |false=>exact(BL y).trans rfl
  |true=>
   rw[AFu rfl,Bg y];rw[<-ACr];exact Ay (dM (Uo (f:=AE 4) (ρ:=[iM<|.rd<|Av s,iI k,iI most,iI<|Ab s k,iL r,iI<|Dx s k,iI<|Ab s (k+2)%8,none,none,none]) (cap:=[]) (h:=pv∘q) rfl rfl hl λp _=>⟨_,hf p,rfl⟩) rfl) rfl
 have F:∀i n:Int,∀r R:List Pt,(if(i==n)=true then r else R)=(if i=n then r else R):=λi n r R=>by
  by_cases h:i=n
  .rw[AFu (by simpa using h),AFu h]
  .rw[AF0 (by simpa using h),AF0 h]
 have t1:=tn Ks (A5<|AG (f2 BK (fC<|.int 0)<|AE 0) C7) _ _ (FP s k most) U (Km (f:=f2 BU (AE 6)<|fC<|.int 2) 1<|E6 2 rfl) λp=>rfl;rw[F]at t1;have t2:=tn Kt (A5<|AG (AE 0)<|AG (f2 BK (fC<|.int 0)<|AE 1) AN) _ _ (IA s k<|FP s k most) (by rw[YL];lia) (Km (f:=f2 BU (f2 DW (AE 6)<|fC<|.int 2)<|fC<|.int 2) 1<|E6 2<|Ih 2 rfl) λp=>rfl;rw[F]at t2;have t3:=tn LS (A5 HK) _ _ (LY s k<|IA s k<|FP s k most) (by rw[lG,YL];lia) (Km (f:=f2 DW (AE 6)<|fC<|.int 4) 1<|Ih 4 rfl) λp=>rfl;rw[F]at t3;rw[sq t1];refine(sq t2).trans ?_;refine(sq t3).trans ?_;show AM _ _ [iM<|.rd<|Av s,iI k,iI most,iI<|Ab s k,iL<|Df s k most,iI<|Dx s k,iI<|Ab s (k+2)%8,none,none,none]=_;have T:0<(Df s k most).length:=U
 have AFV:=Se T<|Ab s<|k+3;have e7:f2 BU Qo (fB Dp<|AG (AE 4) AN) [iM<|.rd<|Av s,iI k,iI most,iI<|Ab s k,iL<|Df s k most,iI<|Dx s k,iI<|Ab s (k+2)%8,none,none,none] = cI (Dv (Df s k most)<|Ab s<|k+3):=by rw[<-(jX T<|Ab s<|k+3)];exact AK (S _ _ _ _ _ _) (by rw[<-Bs];rfl)<|FF (by cases H;lia)
 rw[sq<|Ay e7 rfl];refine(sq<|Ay (L1 (E6 41<|Ih 16<|S _ _ _ _ _ _) rfl) rfl).trans ?_;refine(sq<|Ay (L1 (E6 41<|a _ _ _ _ _ _) rfl) rfl).trans ?_;refine LP ?_;show BC _ _ _ _ _ _ [iM<|.rd<|Av s,iI k,iI most,iI<|Ab s k,iL<|Df s k most,iI<|Dx s k,iI<|Ab s (k+2)%8,iI<|Dv (Df s k most)<|Ab s<|k+3,iI<|Ab s (k+3) / 16%41-20,iI<|Ab s (k+4)%41-20]=_;unfold drawn;have RD:=Uo (f:=cQ) (fe:=cR) (cap:=[8,9]) (h:=pv∘KI (Ab s (k+3) / 16%41-20) (Ab s (k+4)%41-20)) (ρ:=[iM<|.rd<|Av s,iI k,iI most,iI<|Ab s k,iL<|Df s k most,iI<|Dx s k,iI<|Ab s (k+2)%8,iI<|Dv (Df s k most)<|Ab s<|k+3,iI<|Ab s (k+3) / 16%41-20,iI<|Ab s (k+4)%41-20]) (rv:=.fr<|AJ<|De (Df s k most)<|Dv (Df s k most)<|Ab s<|k+3) (by refine(AK (dG rfl rfl rfl AFm) (dN rfl rfl rfl U)<|Iy rfl rfl (by simp[AJ];grind)).trans ?_;unfold De;rw[Mo]) rfl (by unfold De;simp;lia) λp _=>⟨.cl<|pv<|KI (Ab s (k+3) / 16%41-20) (Ab s (k+4)%41-20) p,rfl,rfl⟩
 rw[RD];unfold AJ;rw[AGU]
theorem VP:∀r:List Pt,PySem.PyData.eqvAll (Bk<|AJ r) (Bk<|AJ r)=true
 |[]=>by simp[AJ,Bk,PySem.PyData.eqvAll]
 |p::r=>by
  have e:Bk (AJ (p::r))=Ah (pv p)::Bk (AJ r):=by unfold AJ;rw[AF6,Bk]
  simp only[e,PySem.PyData.eqvAll,(VP r)];simp[pv,Ah,Bk,PySem.PyData.eqv,PySem.PyData.eqvAll]
theorem Oh:∀r:List Pt,PySem.PyData.canLayAll0 (Bk<|AJ r)=true/\PySem.PyData.depthAll (Bk<|AJ r)<=1
 |[]=>by simp[AJ,Bk,PySem.PyData.canLayAll0,PySem.PyData.depthAll]
 |p::r=>by
  have z:=Oh r;have e:Bk (AJ (p::r))=Ah (pv p)::Bk (AJ r):=by unfold AJ;rw[AF6,Bk]
  simp only[e,PySem.PyData.canLayAll0,PySem.PyData.depthAll,z.1];have h2:PySem.PyData.depth (Ah<|pv p)<=1:=by simp[pv,Ah,Bk,PySem.PyData.depth,PySem.PyData.depthAll]
  refine⟨by rfl,U⟩
theorem gf{x y:RV}{b:Bool}(z:PySem.SeqAt.shaped (Ah x.any)=true)(q:PySem.SeqAt.shaped (Ah y.any)=true)(h:PySem.PyData.eqv (Ah x.any) (Ah y.any)=b):Bn x y=cB b:=by unfold Bn;rw[AFu ⟨z,q⟩,h]
theorem Sx(r:List Pt):PySem.SeqAt.shaped (Ah<|.lst<|AJ r)=true/\PySem.PyData.eqv (Ah<|.lst<|AJ r) (Ah<|.lst<|AJ r)=true:=by
 have h:=Oh r;constructor
 .unfold PySem.SeqAt.shaped Ah;simp only[PySem.PyData.canLay0,PySem.PyData.depth,h.1,AHG,AF2];lia
 .exact VP r
open AH (AD Aj A8 BP AA M nb At Keeps Rm Rows Bm)
theorem YO:∀(l acc:List<|List Int),(Internal.ST.EY acc l).length<=acc.length+l.length/\((Internal.ST.EY acc l).length=acc.length+l.length↔(l.Nodup/\∀x∈l,x∉acc))
 |[],acc=>by delta Internal.ST.EY;simp
 |k::r,acc=>by
  unfold Internal.ST.EY;by_cases y:k∈acc
  .rw[AFu y];obtain⟨v,q⟩:=YO r acc;refine⟨by rw[AGC];lia,⟨λh=>by simp only[AGC]at h;lia,λh=>absurd y (h.2 k AF3)⟩⟩
  .rw[AF0 y];obtain⟨v,q⟩:=YO r (k::acc);simp only[AGC]at v q;refine⟨by rw[AGC];lia,?_⟩;rw[AGC,show acc.length+(r.length+1)=acc.length+1+r.length by lia,q,AHL];constructor
   .rintro⟨a,b⟩;refine⟨⟨λhm=>b k hm AF3,a⟩,λx z=>?_⟩;rcases AF4.mp z with rfl|z
    .exact y
    .exact λhm=>b x z<|AFz _ hm
   .rintro⟨⟨a,b⟩,c⟩;refine⟨b,λx z hm=>?_⟩;rcases AF4.mp hm with rfl|hm
    .exact a z
    .exact c x (AFz _ z) hm
theorem wu(r:List Pt):(kl r).Nodup↔r.Nodup:=by
 delta kl List.Nodup
 rw[AHb];constructor
 .exact λh=>h.imp λz e=>z<|by rw[e]
 .exact λh=>h.imp λ{a b} z e=>z (by simp only[AJe,and_true]at e;exact AGy e.1 e.2)
theorem aK(r:List Pt):dist r=r.length↔r.Nodup:=by have:=(YO (kl r) []).2;unfold dist;rw[show(kl r).length=r.length from AFs ..]at this;rw[show r.length=([]).length+r.length by simp,this,wu];simp
theorem QP(r:List Pt):JX r=true↔∀k:Nat,k<r.length->AD (AA r<|(k)-2) (AA r<|(k)-1) (AA r k)≠0:=by unfold JX;simp[AHE]
theorem Ud{r:List Pt}(z:0<r.length)(h:JX r=true)(k:Int):AD (AA r<|k-2) (AA r<|k-1) (AA r k)≠0:=by
 have b:=AGI k (b:=(r.length))<|F7 z;have:=(QP r).mp h (k%(r.length)).toNat U;rw[AGL<|AGQ k (b:=(r.length))<|MX z]at this;have e:∀d:Int,AA r (k%(r.length)-d)=AA r (k-d):=λd=>by unfold AH.AA;rw[Int.emod_sub_emod]
 simp only[e,e,AH.Fx]at this;exact this
theorem KP(r:List Pt):Ci r=true↔Rm r/\∀p∈r,Bd 100 p:=by
 unfold Ci;simp only[AFw,AF2,AHC,AHE,W7,Y0];constructor
 .rintro⟨⟨h1,h2⟩,h3,z,y,q,v⟩;have hd:dist r=r.length:=U
  exact⟨⟨U,U,(aK r).mp hd,Ud U y,AH.UY U q,v⟩,z⟩
 .rintro⟨R,h⟩;have h3:=R.l3;have Bp:=R.Og;refine⟨⟨U,U⟩,by rw[(aK r).mpr R.nd],h,(QP r).mpr λk _=>R.Ni k,AH.nV R.apart,R.HJ⟩
theorem wY(z:Int):Keeps (Hu z) 1 where
 one:=.inl rfl
 sd:=λa b c=>by delta AD Hu;grind
 at_:=λa b p=>by
  delta At Hu
  constructor
  .rintro⟨q,s,v,y,h3,Z,Y⟩;exact⟨q,s,v,y,h3,by dsimp only at *;grind,by dsimp only at *;grind⟩
  .rintro⟨q,s,v,y,h3,Z,Y⟩;exact⟨q,s,v,y,h3,by dsimp only at *;grind,by dsimp only at *;grind⟩
 inj:=λa b h=>by unfold Hu at h;rw[AIU]at h;obtain⟨v,y⟩:=h;rw[y]at v;exact AGy U y
theorem wX(x y:Int):Keeps (KI x y) 1 where
 one:=.inl rfl
 sd:=λa b c=>by delta AD KI;grind
 at_:=λa b p=>by
  delta At KI
  constructor
  .rintro⟨q,s,z,v,h3,Z,Y⟩;exact⟨q,s,z,v,h3,by dsimp only at *;grind,by dsimp only at *;grind⟩
  .rintro⟨q,s,z,v,h3,Z,Y⟩;exact⟨q,s,z,v,h3,by dsimp only at *;grind,by dsimp only at *;grind⟩
 inj:=λa b h=>by unfold KI at h;rw[AIU]at h;exact AGy U U
theorem wV:Keeps Ks (-1) where
 one:=.inr rfl
 sd:=λa b c=>by delta AD Ks;grind
 at_:=λa b p=>by
  delta At Ks
  constructor
  .rintro⟨q,s,z,y,h3,v,Z⟩;exact⟨q,s,z,y,h3,AFm,by dsimp only at *;grind⟩
  .rintro⟨q,s,z,y,h3,v,Z⟩;exact⟨q,s,z,y,h3,by dsimp only at *;grind,by dsimp only at *;grind⟩
 inj:=λa b h=>by unfold Ks at h;rw[AIU]at h;exact AGy U U
theorem wW:Keeps Kt (-1) where
 one:=.inr rfl
 sd:=λa b c=>by delta AD Kt;grind
 at_:=λa b p=>by
  delta At Kt
  constructor
  .rintro⟨q,s,z,y,h3,v,Z⟩;exact⟨q,s,z,y,h3,by dsimp only at *;grind,AFm⟩
  .rintro⟨q,s,z,y,h3,v,Z⟩;exact⟨q,s,z,y,h3,by dsimp only at *;grind,by dsimp only at *;grind⟩
 inj:=λa b h=>by unfold Kt at h;rw[AIU]at h;exact AGy U U
theorem wZ:Keeps LS (-1) where
 one:=.inr rfl
 sd:=λa b c=>by delta AD LS;grind
 at_:=λa b p=>by
  delta At LS
  constructor
  .rintro⟨q,s,z,y,h3,v,Z⟩;exact⟨q,s,z,y,h3,by dsimp only at *;grind,by dsimp only at *;grind⟩
  .rintro⟨q,s,z,y,h3,v,Z⟩;exact⟨q,s,z,y,h3,by dsimp only at *;grind,by dsimp only at *;grind⟩
 inj:=λa b h=>by unfold LS at h;exact AGy U U
theorem Jb{r:List Pt}{i:Nat}(h:i<r.length):AA r (i)=r[i]:=by unfold AH.AA;rw[AFt Br<|Dd h];simp[List.getD,h]
theorem QZ(r:List Pt):AA r (r.length)=AA r 0:=by have:=AH.E2 r 0;rw[AGj]at this;exact this
theorem j7{r:List Pt}{m:Nat}(R:Rows r.length m λi=>AA r<|i)(v:r.length<=12)(p:JX r=true):Rm r:=by
 have h3:=R.h3;refine⟨h3,v,?_,Ud (Bo h3) p,AH.UY U λk j h0 z h2 hn=>?_,?_⟩
 .refine AG0.mpr λi j hi y Z=>?_;have:=R.inj Z y;rw[Jb hi,Jb y]at this;exact this
 .have q:=AH.dZ (Fi z) U hn;unfold AH.Bt at q;rw[AFt (Fl z) U]at q;have:=R.apart (i:=k.toNat) (j:=j.toNat) AFm U (by clear hn;grind) AFm;rw[show((k.toNat))=k by lia,show((k.toNat+1:Nat))=k+1 by lia,show((j.toNat))=j by grind,show((j.toNat+1:Nat))=j+1 by grind]at this;exact AH.iP this
 .have:=R.HJ;simp only[AH.QM];rw[AH.Cj]at this
  .exact this
  .intro i _;unfold AH.Ja;rw[show(((i:Int).toNat):Int)=i by lia,show((((i:Int)+1).toNat):Int)=i+1 by lia]
structure NY(mode:Int)(i:Nat)(b:Int×List Pt×List Pt):Prop where
 lo:0<=b.1
 hi:b.1<=4*i
 m3:mode=3->b.1=i
 len:b.2.1.length+b.2.2.length=i
 lp:b.2.1.Pairwise λp q=>p.1<q.1
 hp:b.2.2.Pairwise λp q=>p.1<q.1
 bl:∀p∈b.2.1,1<=p.1/\p.1<=b.1/\-30<=p.2/\p.2<=-1
 bh:∀p∈b.2.2,1<=p.1/\p.1<=b.1/\1<=p.2/\p.2<=30
theorem iY{a b:Int}(ha:1<=a)(z:1<=b)(h:a+b<=11):1<=a*b/\a*b<=30:=by
 have h1:=AF8 (by exact Oq ha:0<a) (by exact Oq z:0<b);have h2:0<=(a-b)*(a-b):=by
  rcases AHi a b with h|h
  .exact AHs U U
  .exact AFy (Ce h)<|Ce h
 have h3:=Int.mul_le_mul h h U U;lia
theorem AAS{s:List Int}{k count mode:Int}{i:Nat}{b:Int×List Pt×List Pt}(h1:3<=count)(h2:count<=12)(hi:(i)<count-2)(h:NY mode i b):NY mode (i+1)<|Fp s k count mode b i:=by
 obtain⟨q,low,Bv⟩:=b;obtain⟨lo,hh,m3,len,lp,hp,bl,bh⟩:=h;dsimp only at lo hh m3 len lp hp bl bh;unfold Fp;dsimp only;generalize ec:Ab s (k+4+(1+(i)))=c;have Y:∀x,(if mode=3 then 1+(i:Int)else q+1+c / 2%4)=x->q<x/\x<=4*((i)+1)/\(mode=3->x=i+1):=λx e=>by
  subst e;by_cases hm:mode=3
  .rw[AFu hm];exact⟨U,U,λ_=>U⟩
  .rw[AF0 hm];exact⟨U,U,λz=>absurd z hm⟩
 have Q:∀y,(if mode=3 then(1+(i))*(count-1-(1+(i)))else 1+c / 8%9)=y->1<=y/\y<=30:=λy e=>by
  subst e;by_cases hm:mode=3
  .rw[AFu hm];exact iY U U U
  .rw[AF0 hm];lia
 generalize ex:(if mode=3 then 1+(i:Int)else q+1+c / 2%4)=x;generalize O:(if mode=3 then(1+(i))*(count-1-(1+(i)))else 1+c / 8%9)=y;obtain⟨hx1,WS,Z⟩:=Y x ex;have WU:=Q y O;split
 .refine⟨by dsimp only;lia,by push_cast;omega,λz=>by exact Z z,by simp;lia,?_,hp,λp hp=>?_,λp hp=>?_⟩
  .refine AG1.mpr ⟨lp,AFn,λa ha b v=>?_⟩;rw[AGH.mp v];have:=bl a ha;dsimp only;lia
  .rcases AGO.mp hp with z|z
   .have:=bl p z;dsimp only;grind
   .rw[AGH.mp z];dsimp only;and_intros<;>lia
  .have:=bh p hp;dsimp only;grind
 .refine⟨by dsimp only;lia,by push_cast;lia,λz=>by exact Z z,by simp;lia,lp,?_,λp hp=>?_,λp hp=>?_⟩
  .refine AG1.mpr ⟨hp,AFn,λa ha b v=>?_⟩;rw[AGH.mp v];have:=bh a ha;dsimp only;lia
  .have:=bl p hp;dsimp only;lia
  .rcases AGO.mp hp with z|z
   .have:=bh p z;dsimp only;lia
   .rw[AGH.mp z];dsimp only;and_intros<;>lia
theorem jW{s:List Int}{k count mode:Int}(z:3<=count)(y:count<=12):∀n:Nat,(n)<=count-2->NY mode n ((List.range n).foldl (Fp s k count mode) (0,[],[]))
 |0,_=>⟨AFn,AFn,λ_=>rfl,rfl,.nil,.nil,(λp hp=>by cases hp),(λp hp=>by cases hp)⟩
 |n+1,hn=>by rw[AHS,AIr];exact AAS z y AFr<|jW z y n U
theorem ACw{mode:Int}{i:Nat}{b:Int×List Pt×List Pt}(h:NY mode i b)(hi:1<=i):Rows (CO b).length b.2.1.length λi=>AA (CO b)<|i:=by
 obtain⟨y,low,v⟩:=b;obtain⟨lo,hh,m3,len,lp,hp,bl,bh⟩:=h;dsimp only at lo hh m3 len lp hp bl bh ⊢;have F:(CO (y,low,v)).length=low.length+v.length+2:=Ss _;have R:CO (y,low,v)=((0,0)::(low ++ [(y+1,0)]))++v.reverse:=by simp[CO]
 have B:CO (y,low,v) ++ [(0,0)]=((0,0)::low)++((y+1,0)::(v.reverse ++ [(0,0)])):=by simp[CO]
 have G:((0,0)::(low ++ [(y+1,0)]):List Pt).Pairwise λp q=>p.1<q.1:=by
  refine AIh.mpr ⟨λp hp=>?_,AG1.mpr ⟨lp,AFn,λa ha c hc=>?_⟩⟩
  .rcases AGO.mp hp with z|z
   .have:=bl p z;dsimp only;omega
   .rw[AGH.mp z];dsimp only;lia
  .rw[AGH.mp hc];have:=bl a ha;dsimp only;omega
 have pt:((y+1,0)::(v.reverse ++ [(0,0)]):List Pt).Pairwise λp q=>q.1<p.1:=by
  refine AIh.mpr ⟨λp hp=>?_,AG1.mpr ⟨List.pairwise_reverse.mpr hp,AFn,λa ha c hc=>?_⟩⟩
  .rcases AGO.mp hp with z|z
   .have:=bh p<|AH4.mp z;dsimp only;omega
   .rw[AGH.mp z];dsimp only;lia
  .rw[AGH.mp hc];have:=bh a<|AH4.mp ha;dsimp only;omega
 have O:∀j:Nat,(Z:j<=low.length+1)->AA (CO (y,low,v)) (j)=((0,0)::(low ++ [(y+1,0)]):List Pt)[j]'(by simp;lia):=λj Z=>by rw[Jb (by clear len;lia)];simp only[R];rw[AH5]
 have gt:∀j:Nat,(Y:low.length+1<=j)->(Z:j<=low.length+v.length+2)->AA (CO (y,low,v)) (j)=((y+1,0)::(v.reverse ++ [(0,0)]):List Pt)[j-(low.length+1)]'(by simp;clear len;grind):=λj Y Z=>by
  have e:AA (CO (y,low,v)) (j)=(CO (y,low,v) ++ [(0,0)])[j]'(by simp[F];clear len;lia):=by
   by_cases D:j<(CO (y,low,v)).length
   .simp only[Jb D,AH5 D]
   .have P:j=(CO (y,low,v)).length:=by clear len;lia
    subst P;rw[QZ];have:=by have:=O 0 U;simpa using this
    simp only[this];simp
  rw[e];simp only[B];rw[List.getElem_append_right (by simp;assumption)];simp
 refine⟨U,U,QZ _,λj Z=>?_,λj Y Z=>?_,?_,?_,λj Y Z=>?_,λj Y Z=>?_⟩
 .rw[O j<|Mb Z,O (j+1)<|Oz Z];exact AG0.mp G j (j+1) (by simp;lia) (by simp;exact KG Z) EU
 .rw[gt j Y U,gt (j+1) U U];exact AG0.mp pt (j-(low.length+1)) (j+1-(low.length+1)) (by simp;clear Y;omega) (by simp;grind) AFm
 .rfl
 .rw[O (low.length+1) U];simp
 .rw[O j<|Mb Z];obtain⟨Q,rfl⟩:∃Q,j=Q+1:=⟨j-1,U⟩;rw[AIC,AH5 U];have:=bl _<|AIQ (n:=Q) U;omega
 .rw[gt j U U];obtain⟨Q,P⟩:∃Q,j-(low.length+1)=Q+1:=⟨j-(low.length+1)-1,AFm⟩;simp only[P];rw[AIC,AH5 (by simp;clear Y;omega)];have:=bh _ (AH4.mp<|AIQ (n:=Q) (by simp;lia));omega
theorem JZ{c:Int}{i:Nat}(h:(i)<c):AA (E1 c) (i)=((i:Int),0-(i)*(c-1-i)):=by rw[Jb (by simp[E1];assumption)];simp[E1]
theorem ADF(u v w d:Int):AD (u,0-u*(d-u)) (v,0-v*(d-v)) (w,0-w*(d-w))=(v-u)*(w-u)*(w-v):=by unfold AD;grind
theorem oN{c:Int}(h:0<=c):((E1 c).length)=c:=by simp[E1];lia
theorem oO{c:Int}(p:3<=c)(h2:c<=12):Rm<|E1 c:=by
 have z:=oN (c:=c) U;refine j7 (m:=c.toNat-2) ⟨AFm,U,QZ _,λi hi=>?_,λi hi Z=>?_,?_,?_,λi hi Z=>?_,λi hi Z=>AFm⟩ U<|(QP _).mpr λk hk=>?_
 .rw[JZ AFm,JZ AFm];dsimp only;lia
 .have O:i=c.toNat-1:=AFm
  subst O;have P:AA (E1 c) ((c.toNat-1+1:Nat))=AA (E1 c) 0:=by rw[<-QZ];congr 1;grind
  have Y:=JZ (c:=c) (i:=0) (by clear z;lia);rw[P,JZ U];rw[show((0:Nat):Int)=0 from rfl]at Y;rw[Y];dsimp only;lia
 .rw[(JZ (c:=c) (i:=0) U)];simp
 .rw[JZ AFm];dsimp only;rw[show c-1-((c.toNat-2+1:Nat))=0 by grind];lia
 .rw[JZ U];dsimp only;have:=AF8 (U:(0:Int)<i) (AFm:0<c-1-(i));omega
 .have e:∀j:Int,0<=j->j<c->AA (E1 c) j=(j,0-j*(c-1-j)):=λj Q p=>by have:=JZ (c:=c) (i:=j.toNat) (by clear z;lia);rw[AGL Q]at this;exact this
  have q:∀j:Int,-c<=j->j<0->AA (E1 c) j=(j+c,0-(j+c)*(c-1-(j+c))):=λj Q p=>by rw[<-AH.E2,z];exact e (j+c) U U
  have y:∀u v w:Int,u≠v->u≠w->v≠w->AD (u,0-u*(c-1-u)) (v,0-v*(c-1-v)) (w,0-w*(c-1-w))≠0:=λu v w a b d=>by rw[ADF];exact AIc (AIc (Ov a)<|Ov b)<|Ov d
  by_cases K3:2<=k
  .rw[e _ U U,e _ U U,e _ U U];exact y _ _ _ U U U
  .by_cases D:k=1
   .subst D;rw[q _ (by clear z;lia) U,e _ U (by clear z;lia),e _ U U];exact y _ _ _ U U U
   .have F:k=0:=U
    subst F;rw[q _ (by clear z;lia) U,q _ (by clear z;lia) U,e _ U U];exact y _ _ _ U U U
def IP(p:Pt):Prop:=-41<=p.1/\p.1<=41/\-30<=p.2/\p.2<=30
theorem AAR(s:List Int)(k:Int){count:Int}(z:3<=count)(y:count<=12):Rm (Gs s k count)/\∀p∈Gs s k count,IP p:=by
 have st:NY (Ab s (k+1)%4) (count-2).toNat<|Cf s k count:=jW z y _ AFo;unfold Gs;cases v:GV (CO<|Cf s k count)with
 |true=>
  refine⟨oO z y,λp hp=>?_⟩;obtain⟨j,Z,rfl⟩:=AGe.mp hp;have CT:=AF1.mp Z;unfold IP;dsimp only;by_cases q:j=0
  .subst q;simp
  .by_cases hc:(j)=count-1
   .rw[hc,show count-1-(count-1)=0 by lia];lia
   .have:=iY (a:=(j)) (b:=count-1-j) U AFm U;clear q;grind
 |false=>
  rw[AF0 AFn];have hl:=Ss<|Cf s k count;have BX:=st.len;refine⟨j7 (ACw st U) AFm (by rw[dg,v];rfl),λp hp=>?_⟩;unfold CO at hp;simp only[AGO,AGH,AH4]at hp;have:=st.lo;have:=st.hi;unfold IP;rcases hp with((rfl|hp)|rfl)|hp
  .simp
  .have:=st.bl p hp;grind
  .grind
  .have:=st.bh p hp;grind
theorem AEm{a b c d:Pt}(h:a.1<c.1/\a.1<d.1/\b.1<c.1/\b.1<d.1\/a.2<c.2/\a.2<d.2/\b.2<c.2/\b.2<d.2):¬ Bm a b c d:=by
 rcases h with h|h
 .exact AH.Xp (max a.1 b.1) (max a.1 b.1+1) AFo AFo U AFo AFo
 .exact AH.AC9 (max a.2 b.2) (max a.2 b.2+1) AFo AFo U AFo AFo
noncomputable def EH:List Pt:=[(0,0),(5,0),(5,5),(1,5),(1,2),(3,2),(3,3),(2,3),(2,4),(4,4),(4,1),(0,1)]
noncomputable abbrev YU(a b c d:Pt):Bool:=decide <| a.1.toNat<c.1.toNat/\a.1.toNat<d.1.toNat/\b.1.toNat<c.1.toNat/\b.1.toNat<d.1.toNat\/a.2.toNat<c.2.toNat/\a.2.toNat<d.2.toNat/\b.2.toNat<c.2.toNat/\b.2.toNat<d.2.toNat
abbrev wbd(a b c:Pt):Prop:=a.1.toNat=b.1.toNat/\b.2.toNat=c.2.toNat/\a.2.toNat≠b.2.toNat/\b.1.toNat≠c.1.toNat\/a.2.toNat=b.2.toNat/\b.1.toNat=c.1.toNat/\a.1.toNat≠b.1.toNat/\b.2.toNat≠c.2.toNat
theorem IB{X:Nat->Int}(h:∀i,X i<X (i+1)){i j:Nat}(z:i<j):X i<X j:=by
 induction z with
 |refl=>exact h _
 |step _ ih=>exact AKA ih<|h _
theorem M8{X:Nat->Int}(h:∀i,X i<X (i+1)){i j:Nat}(y:i≠j):X i-X j≠0:=by
 rcases Nat.lt_or_gt_of_ne y with z|z
 .have:=IB h z;lia
 .have:=IB h z;lia
theorem AEh{X Y:Nat->Int}(y:∀i,X i<X (i+1))(q:∀i,Y i<Y (i+1)):Rm<|EH.map λp=>(X p.1.toNat,Y p.2.toNat):=by
 have hc:∀k,AA (EH.map λp=>(X p.1.toNat,Y p.2.toNat)) k=(X (AA EH k).1.toNat,Y (AA EH k).2.toNat):=AH.GO AFp;refine⟨by show 3<=12;decide,by show 12<=12;decide,?_,Ud (by show 0<12;decide)<|(QP _).mpr λk v=>?_,AH.UY (by show 2<=12;decide) λk m Z Q O hn=>?_,?_⟩
 .refine List.Pairwise.map _ (λa b P e=>?_) (show EH.Pairwise (λa b=>a.1.toNat≠b.1.toNat\/a.2.toNat≠b.2.toNat)by decide);injection e with e1 e2
  rcases P with z|z
  .exact M8 y z U
  .exact M8 q z U
 .simp only[hc,hc,hc];unfold AD;rcases(AFq:∀k:Nat,k<12->wbd (AA EH<|(k)-2) (AA EH<|(k)-1) (AA EH k)) k v with⟨a,b,c,d⟩|⟨a,b,c,d⟩
  .have:=AIc (M8 q c)<|M8 y d;dsimp only;rw[a,<-b];intro h;grind
  .have:=AIc (M8 y c)<|M8 q d;dsimp only;rw[a,<-b];intro h;grind
 .obtain⟨i,rfl⟩:=AJa Z;obtain⟨j,rfl⟩:=AJa (U:0<=m);have eF:(j:Int)<12:=O;have:=(AFq:∀j:Nat,j<12->∀i:Nat,i<j->nb 12 ((j)-i)=false->YU (AA EH i) (AA EH<|(i)+1) (AA EH j) (AA EH<|(j)+1)\/YU (AA EH j) (AA EH<|(j)+1) (AA EH i) (AA EH<|(i)+1)) j U i (O0 Q) hn;unfold M;simp only[hc,hc,hc,hc];have w:∀{a b c d:Pt},YU a b c d->¬ Bm (X a.1.toNat,Y a.2.toNat) (X b.1.toNat,Y b.2.toNat) (X c.1.toNat,Y c.2.toNat) (X d.1.toNat,Y d.2.toNat):=λh=>AEm<|(of_decide_eq_true h).imp (λh=>⟨IB y h.1,IB y h.2.1,IB y h.2.2.1,IB y h.2.2.2⟩) λh=>⟨IB q h.1,IB q h.2.1,IB q h.2.2.1,IB q h.2.2.2⟩;exact AH.iP<|this.elim w λh z=>w h z.symm
 .unfold AH.CH;have a:=y 0;have b:=y 1;have c:=y 2;have d:=y 3;have e:=y 4
  have f:=q 0;have g:=q 1;have h:=q 2;have i:=q 3;have j:=q 4
  have:=AF8 (U:0<X 5-X 4) (U:0<Y 5-Y 0);have:=AF8 (U:0<X 4-X 0) (U:0<Y 1-Y 0);have:=AF8 (U:0<X 4-X 2) (U:0<Y 5-Y 4);have:=AF8 (U:0<X 3-X 2) (U:0<Y 3-Y 2);have:=AF8 (U:0<X 2-X 1) (U:0<Y 5-Y 2);simp[AH.Af,AA,EH,AH.Bz]
  grind
theorem l8(s:List Int)(k:Int)(i:Nat):wx s k i<wx s k (i+1)/\wx s k (i+1)<=wx s k i+4:=by simp only[wx];lia
theorem mB(s:List Int)(k:Int)(i:Nat):wy s k i<wy s k (i+1)/\wy s k (i+1)<=wy s k i+4:=by simp only[wy];lia
theorem l7(s:List Int)(k:Int):∀i:Nat,0<=wx s k i/\wx s k i<=4*i
 |0=>by simp[wx]
 |i+1=>by have:=l7 s k i;have:=l8 s k i;lia
theorem l9(s:List Int)(k:Int):∀i:Nat,0<=wy s k i/\wy s k i<=4*i
 |0=>by simp[wy]
 |i+1=>by have:=l9 s k i;have:=mB s k i;lia
theorem AEg(s:List Int)(k:Int):Rm (M7 s k)/\∀p∈M7 s k,IP p:=by
 refine⟨AEh (λi=>(l8 s k i).1) λi=>(mB s k i).1,λp hp=>?_⟩;have z:∀i j:Nat,i<=5->j<=5->IP (wx s k i,wy s k j):=λi j hi hj=>by have h1:=l7 s k i;have h2:=l9 s k j;unfold IP;dsimp only;and_intros<;>lia
 unfold M7 at hp;simp only[AF4,AHF,AIS]at hp;rcases hp with rfl|rfl|rfl|rfl|rfl|rfl|rfl|rfl|rfl|rfl|rfl|rfl<;>exact z _ _ U U
theorem nv(s:List Int)(k:Int){most:Int}(h1:3<=most)(h2:most<=12):Rm (EM s k most)/\∀p∈EM s k most,IP p:=by
 unfold EM;split
 .exact AEg s k
 .have a:=AGQ (Ab s k) (b:=most-2) U;have b:=AGI (Ab s k) (b:=most-2) U;exact AAR s k U U
theorem ADI{z:Int}(hz:z = -1\/z=0\/z=1){p:Pt}(h:IP p):Bd 80<|Hu z p:=by
 unfold IP at h
 delta Bd Hu
 dsimp only;rcases hz with rfl|rfl|rfl<;>omega
theorem gF{i:Int}(h:Dk i<80) : -80<=i/\i<=80:=by unfold Dk at h;split at h<;>lia
theorem AAq{s:List Int}{k:Int}{r:List Pt}{d:Nat}(h:Rm r/\∀p∈r,Bd 80 p):Rm (Mn s k r d)/\∀p∈Mn s k r d,Bd 80 p:=by
 unfold Mn;dsimp only;generalize Ab s (k+15+(d))=c;split
 .rename_i hc;simp only[AFw,AF2]at hc;obtain⟨h1,z⟩:=hc;rw[tD]at z;refine⟨((KP _).mp z).1,λp hp=>?_⟩;unfold Hs at hp;simp only[AGO,AGH]at hp;rcases hp with(hp|rfl)|hp
  .exact h.2 p<|AI7 hp
  .have a:=gF (i:=(FO r c).1) U;have b:=gF (i:=(FO r c).2) U;exact⟨a.1,a.2,b.1,b.2⟩
  .exact h.2 p<|AI5 hp
 .exact h
theorem AAp{s:List Int}{k:Int}{r:List Pt}(h:Rm r/\∀p∈r,Bd 80 p):Rm (Mm s k r)/\∀p∈Mm s k r,Bd 80 p:=by
 unfold Mm;generalize List.range (Ab s (k+1) / 4%5).toNat=l
 induction l generalizing r with
 |nil=>exact h
 |cons d l ih=>exact ih<|AAq h
theorem AAs(s:List Int)(k:Int){most:Int}(y:3<=most)(v:most<=12):Rm (FP s k most)/\∀p∈FP s k most,Bd 80 p:=by have z:=nv s k y v;refine AAp ⟨z.1.map<|wY _,λp hp=>?_⟩;obtain⟨q,Z,rfl⟩:=AGe.mp hp;exact ADI (by unfold Dx;lia)<|z.2 q Z
theorem Xj{T:Pt->Pt}(k:Keeps T (-1))(z:∀p,Bd 80 p->Bd 80 (T p)){r:List Pt}(h:Rm r/\∀p∈r,Bd 80 p):Rm (r.map T).reverse/\∀p∈(r.map T).reverse,Bd 80 p:=
 ⟨h.1.mapRev k,λp hp=>by obtain⟨q,y,rfl⟩:=AGe.mp<|AH4.mp hp;exact z q<|h.2 q y⟩
theorem AEQ(s:List Int)(k:Int){most:Int}(z:3<=most)(y:most<=12):Rm (Df s k most)/\∀p∈Df s k most,Bd 80 p:=by
 have h:=AAs s k z y;have t1:Rm (IA s k<|FP s k most)/\∀p∈IA s k (FP s k most),Bd 80 p:=by
  unfold IA;split
  .exact Xj wV (λp hp=>by delta Bd Ks at *;dsimp only at *;and_intros<;>lia) h
  .exact h
 have t2:Rm (LY s k<|IA s k<|FP s k most)/\∀p∈LY s k (IA s k<|FP s k most),Bd 80 p:=by
  unfold LY;split
  .exact Xj wW (λp hp=>by delta Bd Kt at *;dsimp only at *;and_intros<;>lia) t1
  .exact t1
 delta Df TK;split
 .exact Xj wZ (λp hp=>by delta Bd LS at *;dsimp only at *;and_intros<;>lia) t2
 .exact t2
theorem qk(s:List Int)(k:Int){most:Int}(y:3<=most)(v:most<=12):Rm (drawn s k most)/\∀p∈drawn s k most,Bd 100 p:=by
 have h:=AEQ s k y v;have h3:=h.1.l3;have hp:=Se (r:=Df s k most) (Bo h3)<|Ab s<|k+3;refine⟨(h.1.De U).1.map<|wX _ _,λp hp=>?_⟩;obtain⟨q,Z,rfl⟩:=AGe.mp hp;have Y:q∈Df s k most:=by
  rcases AGO.mp Z with z|z
  .exact AI5 z
  .exact AI7 z
 have:=h.2 q Y;unfold Bd KI at *
 clear hp;and_intros<;>lia
set_option tactic.hygienic true
theorem cX(s:List Int)(k:Int){most:Int}(z:3<=most)(y:most<=12):Ci (drawn s k most)=true:=(KP _).mpr<|qk s k z y
open AH (AD Aj A8 BP AA M nb Rm)
theorem cf{f:EF}{ρ:AS}{r:RV}(e:f ρ=some r):F3 f ρ=some (.nx ρ):=by unfold F3;rw[e]
theorem aE{N n:Nat}{g:SF}{ps:List PV}{ρ:AS}(h:ps.length=n)(e:g (A9 N ps)=some (.nx ρ)):denote N n g ps=some (.cl .Au):=by unfold denote;rw[AFu h,e];rfl
theorem mR{r:List Pt}(h:Ci r=true):Pz [.lst<|AJ r]=some (.cl .Au):=by refine aE (ρ:=A9 1 [.lst<|AJ r]) rfl ?_;unfold Zm;have e:=E7<|An<|Ar (ρ:=A9 1 [.lst<|AJ r]) (AI (f:=AE 0) (x:=.cl<|.lst<|AJ r) rfl AQ) rfl<|mY (r:=r);rw[h]at e;exact(BL e).trans rfl
theorem Ht{r:List Pt}(h:Ci r=true):3<=r.length/\r.length<=12/\∀p∈r,Bd 1000 p:=by obtain⟨R,z⟩:=(KP r).mp h;exact⟨R.l3,R.Og,λp hp=>by have:=z p hp;unfold Bd at *;lia⟩
theorem JP{g h:YF}{ρ ρ':AS}(e:g ρ=some (.o<|.nx ρ')):Dz g h ρ=h ρ':=by unfold Dz;rw[e]
theorem NA{g:SF}{ρ ρ':AS}(e:g ρ=some (.nx ρ')):yL g ρ=some (.o<|.nx ρ'):=by unfold yL;rw[e];rfl
theorem Zf{N n:Nat}{g:YF}{ps:List PV}{nm:PySem.Str}(z:ps.length=n)(e:g (A9 N ps)=some (.ex nm)):Fz N n g ps=none/\Jc N n g ps=some nm:=by
 delta Fz Jc
 rw[AFu z,AFu z,e];exact⟨rfl,rfl⟩
theorem Zg{N n:Nat}{g:YF}{ps:List PV}{r:RV}(z:ps.length=n)(e:g (A9 N ps)=some (.o<|.rt r)):Fz N n g ps=some r:=by
 unfold Fz;rw[AFu z,e]
 rfl
theorem dI{t:BF}{f g:EF}{ρ:AS}(e:t ρ=some true):Ij t f g ρ=f ρ:=by unfold Ij;rw[e]
theorem dH{t:BF}{f g:EF}{ρ:AS}(e:t ρ=some false):Ij t f g ρ=g ρ:=by unfold Ij;rw[e]
set_option tactic.hygienic false
theorem dD{fa fb fc fd:EF}{ρ:AS}{i j k l:Int}(ha:fa ρ=cI i)(z:fb ρ=cI j)(hc:fc ρ=cI k)(hd:fd ρ=cI l):Fb Cs Cc Cc fa fb fc fd ρ=cB (decide (i<=j)&&(decide (j<k)&&decide (k<l))):=by
 unfold Fb;rw[ha,z];dsimp only;simp only[Iz];cases h:decide (i<=j)
 .rfl
 .dsimp only;rw[hc];dsimp only;simp only[JA];cases h2:decide (j<k)
  .rfl
  .dsimp only;rw[hd];rfl
theorem m8{a b c:Pt}(ha:Bd 1000 a)(q:Bd 1000 b):QC [pw a b,pv c]=cB (AH.pr a b c):=by
 refine BV rfl ?_;unfold AH.pr;show AM _ _ [iM<|pw a b,iM<|pv c,iM<|.bl<|decide (a.2>c.2),iM<|.bl<|decide (b.2>c.2),none]=_;generalize decide (a.2>c.2)=x;generalize decide (b.2>c.2)=y;have z:AU (f2 Bn (AE 2)<|AE 3) [iM<|pw a b,iM<|pv c,iM<|.bl x,iM<|.bl y,none]=some (x==y):=An<|AK rfl rfl<|wM _ _;have es:Aa 4 bZ [iM<|pw a b,iM<|pv c,iM<|.bl x,iM<|.bl y,none]=some (.nx [iM<|pw a b,iM<|pv c,iM<|.bl x,iM<|.bl y,iI<|AD a b c]):=
  Ay (Ar (AI (AK rfl rfl<|LC a b)<|AI (AK rfl rfl<|LD a b)<|AI rfl AQ) rfl<|Le ha q) rfl
 cases x<;>cases y
 .exact DP<|(Bg z).trans rfl
 .rw[sq<|(BL z).trans rfl,sq es];exact Cg<|(dI rfl).trans<|AK rfl rfl<|FE _ _
 .rw[sq<|(BL z).trans rfl,sq es];exact Cg<|(dH rfl).trans<|AK rfl rfl<|JA _ _
 .exact DP<|(Bg z).trans rfl
theorem VR{f:EF}{ρ:AS}{bs:List Bool}(e:f ρ=some (.fr<|bs.map PV.bl)):fB J5 (AG f AN) ρ=cB (bs.any id):=by refine BW (AI e AQ) ?_;simp only[J5,RV.list,AGS,QQ,AGu]
def place(ws:List<|Pt×Pt)(p:Pt):PySem.Str:=if(ws.any λw=>Aj w.1 w.2 p)=true then "on" else if((((ws.filter λw=>AH.pr w.1 w.2 p).length:Int)%2==1)=true)then "in" else "out"
theorem mw{ws:List (Pt×Pt)}{p:Pt}(Z:ws.length<=1000)(q:∀w∈ws,Bd 1000 w.1/\Bd 1000 w.2):UB [.lst<|BQ ws,pv p]=some (.cl<|.str<|place ws p):=by
 refine BV rfl ?_;unfold Z8;have v:(BQ ws).length<=1000:=by simpa[BQ]using Z
 have Y:collect (Ac 0) Bh (AY HC HK) (By 1 [1]<|A9 3 [.lst<|BQ ws,pv p]) (BQ ws)=some ((ws.map λw=>Aj w.1 w.2 p).map PV.bl):=by rw[AGU];exact GL λw z=>⟨_,.cl<|.bl<|Aj w.1 w.2 p,rfl,Ar (AI rfl<|AI rfl AQ) rfl<|NK (q w z).1 (q w z).2,rfl⟩
 have Q:collect (Ac 0) (AU<|AY QC Jd) (AE 0) (By 1 [1]<|A9 3 [.lst<|BQ ws,pv p]) (BQ ws)=some (BQ<|ws.filter λw=>AH.pr w.1 w.2 p):=by exact D8 λw z=>⟨_,rfl,An<|Ar (AI rfl<|AI rfl AQ) rfl<|m8 (q w z).1 (q w z).2,λ_=>⟨.cl<|pw w.1 w.2,rfl,rfl⟩⟩
 have y:=An<|VR<|CS (its:=Jf) (DI rfl rfl) v Y;rw[show(ws.map λw=>Aj w.1 w.2 p).any id=ws.any λw=>Aj w.1 w.2 p by rw[AHo];rfl]at y;unfold place;cases h:ws.any λw=>Aj w.1 w.2 p with
 |true=>
  rw[h]at y;exact DP<|(Bg y).trans rfl
 |false=>
  rw[h]at y;rw[sq<|(BL y).trans rfl,sq<|Ay (CS (its:=Jf) (DI rfl rfl) v Q) rfl];have O:(BQ<|ws.filter λw=>AH.pr w.1 w.2 p).length=(ws.filter λw=>AH.pr w.1 w.2 p).length:=by simp[BQ]
  generalize (ws.filter λw=>AH.pr w.1 w.2 p)=vs at *
  have P:Je ((A9 3 [.lst<|BQ ws,pv p]).set 2<|iM<|.lst<|BQ vs)=cI vs.length:=by rw[<-O];rfl
  have e3:=An<|AK (AK P (fb:=fC<|.int 2) rfl<|FF Oo) (fb:=fC<|.int 1) rfl<|LB _ _;refine Cg ?_;cases h3:((vs.length:Int)%2==1)with
  |true=>rw[h3]at e3;exact(dI e3).trans rfl
  |false=>rw[h3]at e3;exact(dH e3).trans rfl
theorem Wf{a b:PySem.Str}{c:Bool}(ha:PySem.SeqAt.shaped (Ah<|.str a)=true)(z:PySem.SeqAt.shaped (Ah<|.str b)=true)(h:(a==b)=c):Bn (.cl<|.str a) (.cl<|.str b)=cB c:=
 gf ha z (by rw[<-h];show PySem.PyData.eqv (Ah<|.str a) (Ah<|.str b)=_;delta Ah;simp[PySem.PyData.eqv])
theorem AAP(ws:List<|Pt×Pt)(p:Pt):Bn (.cl<|.str<|place ws p) (.cl<|.str "in")=cB (!(ws.any λw=>Aj w.1 w.2 p)&&(((ws.filter λw=>AH.pr w.1 w.2 p).length:Int)%2==1)):=by
 have s1:PySem.SeqAt.shaped (Ah<|.str "on")=true:=AFq
 have s2:PySem.SeqAt.shaped (Ah<|.str "in")=true:=AFq
 have z:PySem.SeqAt.shaped (Ah<|.str "out")=true:=AFq
 unfold place;cases (ws.any λw=>Aj w.1 w.2 p)
 .cases (((ws.filter λw=>AH.pr w.1 w.2 p).length:Int)%2==1)
  .exact Wf z s2 AFq
  .exact Wf s2 s2 AFq
 .refine Wf (a:="on") s1 s2 ?_;show(("on")==("in"))=false
  decide +kernel
theorem YS{r:List Pt}(z:∀p∈r,Bd 1000 p):∀w∈BY r,Bd 1000 w.1/\Bd 1000 w.2:=λw y=>by obtain⟨k,_,rfl⟩:=AGe.mp y;exact⟨DU AFo z _,DU AFo z _⟩
theorem lj(r:List Pt):(BY r).length=r.length:=by simp[BY]
theorem qG{r:List Pt}(z:∀p∈r,Bd 100 p):∀p∈r.map AH.dbl,Bd 1000 p:=λp hp=>by
 obtain⟨q,y,rfl⟩:=AGe.mp hp;have:=z q y;unfold Bd AH.dbl at *
 dsimp only
 and_intros<;>lia
theorem vg(w:List Pt)(p:Pt):(!((BY w).any λz=>Aj z.1 z.2 p)&&((((BY w).filter λz=>AH.pr z.1 z.2 p).length:Int)%2==1))=AH.Ff w p:=by
 delta AH.Ff BY
 simp only[AHo,List.filter_map,AFs]
 rfl
theorem mh{r:List Pt}(q:0<r.length)(z:r.length<=1000)(v:∀p∈r,Bd 100 p)(A B:Pt):T9 [.lst<|AJ r,pw A B]=cB (AH.Ff (r.map AH.dbl) (A.1+B.1,A.2+B.2)):=by
 refine BV rfl ?_;unfold Z5;have Z:collect (Ac 0) Bh bJ (By 1 []<|A9 4 [.lst<|AJ r,pw A B]) (AJ r)=some (AJ<|r.map AH.dbl):=by unfold AJ;rw[AGU];exact GL λp hp=>⟨_,.cl<|pv<|AH.dbl p,rfl,Ee (AI (AK rfl (AK rfl rfl<|DM p)<|Gj<|GK U)<|AI (AK rfl (AK rfl rfl<|DX p)<|Gj<|GK U) AQ) rfl,rfl⟩
 rw[sq<|Ay (CS (its:=Jf) (DI rfl rfl) (by rw[Bs];exact z) Z) rfl];rw[sq<|Ay (r:=.cl<|pv (A.1+B.1,A.2+B.2)) rfl rfl];refine Cg ?_;have y:(r.map AH.dbl).length<=1000:=by simpa using z
 refine(AK (Ar (AI (Ar (AI rfl AQ) rfl<|QE y<|by simpa using q)<|AI rfl AQ) rfl<|mw (by rw[lj];exact y)<|YS<|qG v) rfl<|AAP _ _).trans ?_;rw[vg]
theorem N2(a b:Pt):PySem.PyData.eqv (Ah<|pv a) (Ah<|pv b)=decide (a=b):=by
 have:decide (a=b)=(a.1==b.1&&a.2==b.2):=by rw[AHM];simp[Prod.ext_iff]
 rw[this];simp[pv,Ah,Bk,PySem.PyData.eqv,PySem.PyData.eqvAll]
theorem Mt(a:Pt):PySem.SeqAt.shaped (Ah<|pv a)=true:=by
 have h1:PySem.PyData.canLay0 (Ah<|pv a)=true:=by simp[pv,Ah,Bk,PySem.PyData.canLay0,PySem.PyData.canLayAll0]
 have h2:PySem.PyData.depth (Ah<|pv a)<=1:=by simp[pv,Ah,Bk,PySem.PyData.depth,PySem.PyData.depthAll]
 unfold PySem.SeqAt.shaped
 assumption
theorem gh(a c d:Pt):DL true (.cl<|pv a) (.cl<|pw c d)=cB (!(decide (a=c)||decide (a=d))):=by unfold DL;have e:(RV.cl<|pw c d).seq=some [pv c,pv d]:=rfl;rw[e];dsimp only;have z:(RV.cl<|pv a).any=pv a:=rfl;rw[z,AFu ⟨Mt a,by unfold Ms;simp[Mt]⟩,AFu rfl];unfold inD;simp only[AG8,AG8,AI6,AH9,N2,N2,show decide (c=a)=decide (a=c)by simp[eq_comm],show decide (d=a)=decide (a=d)by simp[eq_comm]]
noncomputable def Jl(A B:Pt)(w:Pt×Pt):Bool:=(!(decide (A=w.1)||decide (A=w.2)))&&(!(decide (B=w.1)||decide (B=w.2)))
theorem AAY(r:List Pt)(A B:Pt):(((BY r).filter<|Jl A B).map λw=>A8 A B w.1 w.2).any id=AH.JH r A B:=by
 delta AH.JH BY
 simp only[AHo,List.any_filter,AHo]
 rfl
def Kh(n i j:Int):Bool:=(decide (0<=i)&&(decide (i<j)&&decide (j<n)))&&!(nb n<|j-i)
def Sg(r:List Pt)(i j:Int):Bool:=Kh r.length i j&&(!AH.JH r (AA r i) (AA r j)&&AH.Ff (r.map AH.dbl) ((AA r i).1+(AA r j).1,(AA r i).2+(AA r j).2))
theorem Yf{r:List Pt}(h:Ci r=true)(i j:Int):NI [.lst<|AJ r,.int i,.int j]=cB (Sg r i j):=by
 obtain⟨h3,q,z⟩:=Ht h;refine BV rfl ?_;unfold Zn;have p:Ca (A9 5 [.lst<|AJ r,.int i,.int j])=cI r.length:=Ol r _ rfl;have y:ak (A9 5 [.lst<|AJ r,.int i,.int j])=some (!(Kh r.length i j)):=by unfold Kh;rw[Bool.not_and,Bool.not_not];exact F0 (E7<|An<|dD rfl rfl rfl p) λ_=>An<|Ar (AI p<|AI rfl<|AI rfl AQ) rfl<|UA<|Hm h3
 unfold Sg;cases hc:Kh r.length i j with
 |false=>
  rw[hc]at y;exact DP<|(Bg y).trans rfl
 |true=>
  rw[hc]at y;rw[sq<|(BL y).trans rfl];have Bw:=by unfold Kh at hc;simp only[AFw,AF2]at hc;exact hc.1
  have Z:A5 VF (A9 5 [.lst<|AJ r,.int i,.int j])=some (.cl<|pw (AA r i)<|AA r j):=
   Ee (AI (AK rfl rfl<|CK r i U U)<|AI (AK rfl rfl<|CK r j U U) AQ) rfl
  rw[sq<|Ay Z rfl];show AM _ _ [iL r,iI i,iI j,iM<|pw (AA r i)<|AA r j,none]=_;have Y:=DU EE z i;have Q:=DU EE z j;generalize AA r i=A at *
  generalize AA r j=B at *
  have O:(BQ<|BY r).length<=1000:=by simp[BQ,BY];exact J8 q
  have P:collect (Ac 0) bQ (AE 0) (By 1 [3] [iL r,iI i,iI j,iM<|pw A B,none]) (BQ<|BY r)=some (BQ<|(BY r).filter<|Jl A B):=by exact D8 λw v=>⟨_,rfl,HP (An<|AK (AK rfl rfl<|LC A B) rfl<|gh _ _ _) λ_=>An<|AK (AK rfl rfl<|LD A B) rfl<|gh _ _ _,λ_=>⟨.cl<|pw w.1 w.2,rfl,rfl⟩⟩
  rw[sq<|Ay (CS (its:=Qe) (DI (Ar (AI rfl AQ) rfl<|QE (J8 q)<|Bo h3) rfl) O P) rfl];show AM _ _ [iL r,iI i,iI j,iM<|pw A B,iM<|.lst<|BQ<|(BY r).filter<|Jl A B]=_;have D:(BQ<|(BY r).filter<|Jl A B).length<=1000:=by have:=AGw (Jl A B)<|BY r;rw[lj]at this;simp only[BQ,AFs];lia
  have F:collect (Ac 0) Bh (AY Ld HK) (By 1 [3] [iL r,iI i,iI j,iM<|pw A B,iM<|.lst<|BQ<|(BY r).filter<|Jl A B]) (BQ<|(BY r).filter<|Jl A B)=some ((((BY r).filter<|Jl A B).map λw=>A8 A B w.1 w.2).map PV.bl):=by rw[AGU];exact GL λw v=>⟨_,.cl<|.bl<|A8 A B w.1 w.2,rfl,Ar (AI rfl<|AI rfl AQ) rfl<|Yj Y Q (YS z w (AGD.mp v).1).1 (YS z w (AGD.mp v).1).2,rfl⟩
  have e3:=An<|VR<|CS (its:=Ic) (DI rfl rfl) D F;rw[AAY]at e3;cases hp:AH.JH r A B with
  |true=>
   rw[hp]at e3;exact DP<|(Bg e3).trans rfl
  |false=>
   rw[hp]at e3;rw[sq<|(BL e3).trans rfl];exact Cg<|Ar (AI rfl<|AI rfl AQ) rfl<|mh (Bo h3) (J8 q) (((KP r).mp h).2) A B
theorem Wg(i a b:Int):BS false (.cl<|.int i) (.fr [.int a,.int b])=cB (i==a||i==b):=by simp only[BS,RV.seq,RV.list,C1,AGu,AG8,AI6,AH9,AIB,AIz];rw[AIX,AIX (a:=b)]
noncomputable def Fv(n i j:Int):Bool:=(decide (0<=i)&&(decide (i<j)&&decide (j<n)))&&!((j-i)==1||(j-i)==n-1)
def DY(r:List Pt)(i j:Int):Bool:=Fv r.length i j&&(!AH.LG r i j&&AH.Nm (AA r<|i-1) (AA r i) (AA r<|i+1) (AA r j))
theorem Yg{r:List Pt}(h3:3<=r.length)(T:r.length<=12)(C:∀p∈r,Bd 1000 p)(i j:Int):P6 [.lst<|AJ r,.int i,.int j]=cB (DY r i j):=by
 refine BV rfl ?_;unfold Zw;rw[sq<|Ay (Ol r (A9 10 [.lst<|AJ r,.int i,.int j]) rfl) rfl];show AM _ _ [iL r,iI i,iI j,iI r.length,none,none,none,none,none,none]=_;have Z:aY [iL r,iI i,iI j,iI r.length,none,none,none,none,none,none]=some (!(Fv r.length i j)):=by unfold Fv;rw[Bool.not_and,Bool.not_not];exact F0 (E7<|An<|dD rfl rfl rfl rfl) λ_=>An<|AK (AK rfl rfl<|DB _ _) (EA (AI rfl<|AI (AK rfl rfl<|DB _ _) AQ) rfl)<|Wg _ _ _
 unfold DY;cases hc:Fv r.length i j with
 |false=>
  rw[hc]at Z;exact DP<|(Bg Z).trans rfl
 |true=>
  rw[hc]at Z;rw[sq<|(BL Z).trans rfl,AHG];have D:=by unfold Fv at hc;simp only[AFw,AF2]at hc;exact hc.1
  rw[sq<|jM (AI (AK rfl rfl<|CK r i (by cases D;lia) U)<|AI (AK rfl rfl<|CK r j U AFo) AQ) rfl];show AM _ _ [iL r,iI i,iI j,iI r.length,iM<|pv<|AA r i,iM<|pv<|AA r j,none,none,none,none]=_;have q:=λk=>DU EE C k;have F:C0 E5 [iL r,iI i,iI j,iI r.length,iM<|pv<|AA r i,iM<|pv<|AA r j,none,none,none,none]=some ((List.range r.length).map λk:Nat=>PV.int<|k):=Di (AI rfl AQ)<|J8 T;have H:=Hk (enc:=λk:Nat=>PV.int<|k) (gt:=Ac 6) (body:=bH)
   (c:=λk=>((!((k)==i||(k)==j))&&Aj (AA r i) (AA r j) (AA r k))||(((!((k)==i||(k)==j))&&(!(((k)+1)%(r.length)==i||((k)+1)%(r.length)==j)))&&BP (AA r i) (AA r j) (AA r k) (AA r<|((k)+1)%(r.length))))
   (λρ=>∃a b,ρ=[iL r,iI i,iI j,iI r.length,iM<|pv<|AA r i,iM<|pv<|AA r j,a,b,none,none]) (xs:=List.range r.length) ⟨none,none,rfl⟩ (by
   rintro k E ρ ⟨a,b,rfl⟩;have R:=AF1.mp E;refine⟨_,rfl,?_⟩;have I:=AGI ((k)+1) (b:=(r.length))<|Hm h3;have Y:bD [iL r,iI i,iI j,iI r.length,iM<|pv<|AA r i,iM<|pv<|AA r j,iI k,b,none,none]=some ((!((k)==i||(k)==j))&&Aj (AA r i) (AA r j) (AA r k)):=
    HP (An<|AK rfl (EA (AI rfl<|AI rfl AQ) rfl)<|Rn _ _ _) λ_=>An<|Ar (AI rfl<|AI rfl<|AI (AK rfl rfl<|CK r (k) U<|Dd R) AQ) rfl<|Yk (q _)<|q _
   have es:Aa 7 (f2 BU Qh<|AE 3) [iL r,iI i,iI j,iI r.length,iM<|pv<|AA r i,iM<|pv<|AA r j,iI k,b,none,none]=some (.nx [iL r,iI i,iI j,iI r.length,iM<|pv<|AA r i,iM<|pv<|AA r j,iI k,iI<|((k)+1)%(r.length),none,none]):=
    Ay (AK (AK rfl rfl<|J4 _ _) rfl<|FF<|Hm h3) rfl
   have P:bK [iL r,iI i,iI j,iI r.length,iM<|pv<|AA r i,iM<|pv<|AA r j,iI k,iI<|((k)+1)%(r.length),none,none]=some ((!((k)==i||(k)==j))&&(!(((k)+1)%(r.length)==i||((k)+1)%(r.length)==j))):=
    HP (An<|AK rfl (EA (AI rfl<|AI rfl AQ) rfl)<|Rn _ _ _) λ_=>An<|AK rfl (EA (AI rfl<|AI rfl AQ) rfl)<|Rn _ _ _
   have B:(AU bb) [iL r,iI i,iI j,iI r.length,iM<|pv<|AA r i,iM<|pv<|AA r j,iI k,iI<|((k)+1)%(r.length),none,none]=some (BP (AA r i) (AA r j) (AA r k)<|AA r<|((k)+1)%(r.length)):=
    An (Ar (AI rfl<|AI rfl<|AI (AK rfl rfl<|CK r (k) U<|Dd R)<|AI (AK rfl rfl<|CK r (((k)+1)%(r.length)) U AFr) AQ) rfl<|Yh (q _) (q _) (q _)<|q _)
   generalize ((!((k)==i||(k)==j))&&Aj (AA r i) (AA r j) (AA r k))=b1 at *
   generalize ((!((k)==i||(k)==j))&&(!(((k)+1)%(r.length)==i||((k)+1)%(r.length)==j)))=b2 at *
   generalize BP (AA r i) (AA r j) (AA r k) (AA r<|((k)+1)%(r.length))=b3 at *
   cases b1 with
   |true=>exact⟨λ_=>DP<|(Bg Y).trans rfl,λh=>by simp at h⟩
   |false=>
    cases b2 with
    |false=>exact⟨λh=>by simp at h,λ_=>⟨_,(sq<|(BL Y).trans rfl).trans<|(sq es).trans<|(BL P).trans rfl,_,_,rfl⟩⟩
    |true=>
     cases b3 with
     |false=>exact⟨λh=>by simp at h,λ_=>⟨_,(sq<|(BL Y).trans rfl).trans<|(sq es).trans<|(Bg P).trans<|(BL B).trans rfl,_,_,rfl⟩⟩
     |true=>exact⟨λ_=>(sq<|(BL Y).trans rfl).trans<|(sq es).trans<|(Bg P).trans<|(Bg B).trans rfl,λh=>by simp at h⟩)
  cases G:AH.LG r i j with
  |true=>exact DP<|(B8 F).trans<|H.1 G
  |false=>
   obtain⟨ρ',e,a,b,rfl⟩:=H.2 G;rw[sq<|(B8 F).trans e,AJm,AHG];have l0:=AGQ (i+1) (b:=(r.length))<|KD h3;have I:=AGI (i+1) (b:=(r.length))<|Hm h3;have n:AA r ((i+1)%(r.length))=AA r (i+1):=AH.Fx r _;have S:=CK r ((i+1)%(r.length)) U AFr;rw[n]at S;have fn:∀x y z w:Option SV,Qn [iL r,iI i,iI j,iI r.length,iM<|pv<|AA r i,iM<|pv<|AA r j,x,y,z,w]=some (.cl<|pv<|AA r<|i+1):=λ_ _ _ _=>
    AK rfl (AK (AK rfl rfl<|J4 _ _) rfl<|FF<|Hm h3) S
   have fp:∀x y z w:Option SV,Nw [iL r,iI i,iI j,iI r.length,iM<|pv<|AA r i,iM<|pv<|AA r j,x,y,z,w]=some (.cl<|pv<|AA r<|i-1):=λ_ _ _ _=>
    AK rfl (AK rfl rfl<|DB _ _) (CK r (i-1) (by cases D;lia) U)
   have sd:∀(f g h:EF)(u v w:Pt)(ρ:AS),Bd 1000 u->Bd 1000 v->f ρ=some (.cl<|pv u)->g ρ=some (.cl<|pv v)->h ρ=some (.cl<|pv w)->f2 B3 (AY FW<|AG f<|AG g<|AG h AN) (fC<|.int 0) ρ=cB (decide (AD u v w>0)):=λf g h u v w ρ b1 b2 t e2 e3=>
    AK (Ar (AI t<|AI e2<|AI e3 AQ) rfl<|QD b1 b2) rfl (FE _ _)
   rw[sq<|Ay (sd _ _ _ (AA r i) (AA r<|i+1) (AA r j) _ (q _) (q _) rfl (fn _ _ _ _) rfl) rfl];show AM _ _ [iL r,iI i,iI j,iI r.length,iM<|pv<|AA r i,iM<|pv<|AA r j,a,b,iM<|.bl<|decide (AD (AA r i) (AA r<|i+1) (AA r j)>0),none]=_;rw[sq<|Ay (sd _ _ _ (AA r<|i-1) (AA r i) (AA r j) _ (q _) (q _) (fp _ _ _ _) rfl rfl) rfl];show AM _ _ [iL r,iI i,iI j,iI r.length,iM<|pv<|AA r i,iM<|pv<|AA r j,a,b,iM<|.bl<|decide (AD (AA r i) (AA r<|i+1) (AA r j)>0),iM<|.bl<|decide (AD (AA r<|i-1) (AA r i) (AA r j)>0)]=_;have Q:=An<|sd Nw (AE 4) Qn (AA r<|i-1) (AA r i) (AA r<|i+1) [iL r,iI i,iI j,iI r.length,iM<|pv<|AA r i,iM<|pv<|AA r j,a,b,iM<|.bl<|decide (AD (AA r i) (AA r<|i+1) (AA r j)>0),iM<|.bl<|decide (AD (AA r<|i-1) (AA r i) (AA r j)>0)] (q _) (q _) (fp _ _ _ _) rfl<|fn _ _ _ _;unfold AH.Nm;by_cases O:AD (AA r<|i-1) (AA r i) (AA r<|i+1)>0
   .rw[AG4 O]at Q;rw[AFu O];exact DP<|(Bg Q).trans<|Cg<|Lz rfl λ_=>rfl
   .rw[AGq O]at Q;rw[AF0 O,sq<|(BL Q).trans rfl];exact Cg<|Qu rfl λ_=>rfl
theorem g4{r:List Pt}(h:Ci r=true)(i j:Int):Sg r i j=DY r i j:=by
 obtain⟨R,_⟩:=(KP r).mp h;have h3:=R.l3
 delta Sg DY
 have z:Kh r.length i j=Fv r.length i j:=by
  delta Kh Fv
  cases hd:(decide (0<=i)&&(decide (i<j)&&decide (j<(r.length))))with
  |false=>rfl
  |true=>
   simp only[AFw,AF2]at hd;unfold AH.nb;rw[AFt U U]
 simp only[z];cases hc:Fv r.length i j with
 |false=>rfl
 |true=>
  simp only[Fv,AFw,AFw,AFw,AF2,AF2,AF2,AGd,AGf,AGK,AGK]at hc;obtain⟨⟨a,b,c⟩,d,e⟩:=hc;refine AH.xF R a U U c ?_;have f:AH.Bt r.length<|j-i:=by unfold AH.Bt;rw[AFt U<|xO a c];exact⟨U,d,e⟩
  have:=f.neg<|KA h3;rw[show -(j-i)=i-j by lia]at this;exact this
theorem N5{g:AF}{ρ:AS}{i j:Nat}(e:g ρ=some [.cl<|.int<|i,.cl<|.int<|j])(hi:i<=1000)(hj:j<=1000):DK g ρ=some ((List.range<|j-i).map λt:Nat=>PV.int<|(i+t:Nat)):=by unfold DK;rw[e];dsimp only;rw[AFu (by unfold JR;and_intros<;>lia)];unfold Mq;rw[show((j:Int)-(i)).toNat=j-i by lia];dsimp only[Int.natCast_add]
theorem dE{fa fb fc fd:EF}{ρ:AS}{i j k l:Int}(ha:fa ρ=cI i)(z:fb ρ=cI j)(hc:fc ρ=cI k)(hd:fd ρ=cI l):Fb Cc Cc Cc fa fb fc fd ρ=cB (decide (i<j)&&(decide (j<k)&&decide (k<l))):=by
 unfold Fb;rw[ha,z];dsimp only;simp only[JA];cases h:decide (i<j)
 .rfl
 .dsimp only;rw[hc];dsimp only;simp only[JA];cases h2:decide (j<k)
  .rfl
  .dsimp only;rw[hd];rfl
noncomputable def xB(e f:Pt):Bool:=(decide (e.1<f.1)&&(decide (f.1<e.2)&&decide (e.2<f.2)))||(decide (f.1<e.1)&&(decide (e.1<f.2)&&decide (f.2<e.2)))
theorem mS(e f:Pt):P0 [pv e,pv f]=cB (xB e f):=by refine BV rfl ?_;exact Cg<|Qu (dE (AK rfl rfl<|DM e) (AK rfl rfl<|DM f) (AK rfl rfl<|DX e)<|AK rfl rfl<|DX f) λ_=>dE (AK rfl rfl<|DM f) (AK rfl rfl<|DM e) (AK rfl rfl<|DX f)<|AK rfl rfl<|DX e
theorem rQ{f:EF}{ρ:AS}{b:Bool}(e:f ρ=cB b):Kq f ρ=cB (!b):=by unfold Kq;rw[e]
theorem rO{f:EF}{ρ:AS}{bs:List Bool}(e:f ρ=some (.fr<|bs.map PV.bl)):fB Fg (AG f AN) ρ=cB (bs.all id):=by refine BW (AI e AQ) ?_;simp only[Fg,RV.list,AGS,QQ,AGu]
theorem UU{its:IF}{own:Nat}{cap:List Nat}{g:GF}{fe:EF}{ρ:AS}{α:Type}{enc:α->PV}{h:α->Bool}{xs:List α}(e:its ρ=some (xs.map enc))(y:xs.length<=1000)(H:∀x∈xs,∃z,g (enc x) (By own cap ρ)=some z/\fe z=cB (h x)):fB Fg (AG (BC its own cap g Bh fe) AN) ρ=cB (xs.all h):=by have:=rO ((CS e (by rw[AFs];exact y)<|GL λx q=>(by obtain⟨z,a,b⟩:=H x q;exact⟨z,_,a,b,rfl⟩)).trans (by rw[AGU];rfl));rw[AJS]at this;exact this
theorem mq(e:Pt){N:List Pt}(z:N.length<=1000):Tj [pv e,.lst<|AJ N]=cB (!N.any (xB e)):=by refine BV rfl ?_;have:=rQ (VR <|(CS (own:=1) (cap:=[0]) (its:=HL) (ρ:=A9 2 [pv e,.lst<|AJ N]) (DI rfl rfl) (by rw[Bs];exact z)<|GL (g:=Ac 0) (fe:=AY P0 HK) λf _=>⟨_,_,rfl,Ar (AI rfl<|AI rfl AQ) rfl<|mS e f,rfl⟩).trans (by rw[AGU];rfl));rw[AHo]at this;exact Cg this
theorem kp(c:Int->Int->Int->Int->Bool)(e f:Pt):MO c (.cl<|pv e) (.cl<|pv f)=cB (c e.1 e.2 f.1 f.2):=rfl
section
set_option tactic.hygienic true
variable{r N:List Pt}(h:Ci r=true)(hN:N.length<=1000)
def ltB(N:List Pt)(k:Nat):Bool:=IU (AA N k).1 (AA N k).2 (AA N<|(k:Int)+1).1 (AA N<|(k:Int)+1).2
def j0(N:List Pt):Bool:=(List.range<|N.length-1).all<|ltB N
def yN(N:List Pt):Bool:=(List.range N.length).all λk=>!(N.take k).any (xB<|AA N k)
include hN in
theorem nA:UC [.lst<|AJ N]=cB (j0 N):=by
 refine BV rfl ?_;have y:Ca (A9 1 [.lst<|AJ N])=cI N.length:=BW (AI rfl AQ) (by rw[Fh,Bs]);refine Cg (UU (N5 (g:=AG (fC<|.int 1) Nr) (i:=1) (AI rfl<|AI y AQ) U hN) (by rw[AGV];omega) λt z=>?_);have z:=AF1.mp z;refine⟨_,rfl,?_⟩;refine AK (AK rfl (AK rfl rfl (by rw[DB,show((1+t:Nat):Int)-1=(t)by lia]))<|CK _ _ U (by clear hN;omega)) (AK rfl rfl<|CK _ _ U AFo) ?_;rw[show((1+t:Nat))=(t)+1 by lia]
 rfl
include h hN
theorem mU(nl:N.length+3=r.length)(p:j0 N=true)(Z:∀e∈N,NI [.lst<|AJ r,.int e.1,.int e.2]=cB true)(nx:yN N=true):P1 [.lst<|AJ r,.lst<|AJ N]=cB true:=by
 refine BV rfl ?_;show AM _ _ [iL r,iL N]=_;have y:Ia [iL r,iL N]=cI N.length:=BW (AI rfl AQ) (by rw[Fh,Bs]);have Y:Ca [iL r,iL N]=cI r.length:=BW (AI rfl AQ) (by rw[Fh,Bs]);have q:=An<|AK y (AK (fb:=fC<|.int 3) Y rfl<|DB _ _)<|LF _ _;rw[show((N.length:Int)==(r.length)-3)=true by rw[AHC];lia]at q;rw[sq<|(BL q).trans rfl];have v:=F0 (E7<|An<|Ar (g:=C7) (ρ:=[iL r,iL N]) (AI rfl AQ) rfl<|nA hN) λ_=>E7<|An<|UU (own:=1) (cap:=[0]) (its:=HL) (g:=Ac 0) (fe:=ba) (h:=λ_=>true) (DI rfl rfl) hN λe he=>⟨_,rfl,Ar (AI rfl<|AI (AK rfl rfl<|DM e)<|AI (AK rfl rfl<|DX e) AQ) rfl<|Z e he⟩;rw[p,show(N.all λ_=>true)=true from AHE.mpr λ_ _=>rfl]at v;rw[sq<|(BL v).trans rfl];rw[<-nx];refine Cg (UU (Di (AI y AQ) hN) (by rw[AGV];exact hN) λk z=>⟨_,rfl,?_⟩);have z:=AF1.mp z;refine Ar (rs:=[.cl<|pv<|AA N k,.fr<|AJ<|N.take k]) (AI (AK rfl rfl<|CK _ _ U<|Dd z)<|AI ?_ AQ) rfl (mq _ (by rw[AHe];grind));rw[<-Zd N k U]
 rfl
end
theorem iB{gt:GF}{body:SF}{enc:Nat->PV}(R:Nat->AS->Prop){n:Nat}{ρ:AS}(p:R 0 ρ)(step:∀i,i<n->∀ρ,R i ρ->∃z y,gt (enc i) ρ=some z/\body z=some (.nx y)/\R (i+1) y) : ∃ρ',DN gt body ((List.range n).map enc) ρ=some (.nx ρ')/\R n ρ':=by
 have H:=Hl (λ(u)(_)=>u) (λi _ ρ=>R i ρ) (xs:=List.range n) (b:=()) p λi x q b ρ hR=>by have hi:=(AFx.mp q).1;have v:=(AFx.mp q).2;simp at hi v;subst v;rw[AIJ]at hR ⊢;exact step i hi ρ hR
 rw[AGV,AIJ]at H;exact H
theorem dF{f:EF}{g:AF}{ρ:AS}{r:RV}{rs:List RV}{ks:List (List Int)}{xs:List PV}{k:List Int}{p:PV}(e:f ρ=some r)(z:g ρ=some rs)(y:r.Co=some (ks,xs))(q:KO rs=some k)(v:DG ks xs k=some p)(Z:Nat.ble k.length 1000=true:=by rfl):Ko f g ρ=some (.cl p):=by
 unfold Ko;rw[e,z];dsimp only;rw[y,q];dsimp only;rw[AFu<|AIM Z,v]
 rfl
theorem rP{i:Nat}{g:AF}{f:EF}{ρ:AS}{r:RV}{rs:List RV}{t:Option PySem.Addr}{ks:List (List Int)}{xs:List PV}{k:List Int}{p:PV}(e:f ρ=some r)(z:ρ[i]? = some (some<|.EG t ks xs))(y:g ρ=some rs)(q:r.clean=some p)(v:KO rs=some k)(Z:ks.length<1000000)(Y:Nat.ble k.length 1000=true:=by rfl) : L6 i g f ρ=some (.nx<|ρ.set i<|some<|.EG t (GP ks k)<|Ie ks xs k p):=by unfold L6;rw[e,z,y];dsimp only;rw[q,v];dsimp only;rw[AFu ⟨Z,AIM Y⟩]
noncomputable def kN(i j:Nat):List Int:=[(i:Int),(j:Int)]
theorem wU{i j k l:Nat}:kN i j=kN k l↔i=k/\j=l:=by unfold kN;constructor<;>lia
def Dl(r:List Pt)(i j:Nat):Bool:=((j:Int)-(i:Int)==1||(j:Int)-(i:Int)==(r.length:Int)-1)||DY r (i:Int) (j:Int)
def NU(r:List Pt)(ok:Nat->Nat->Prop)(b:Nat)(ks:List<|List Int)(xs:List PV):Prop:=ks.length=xs.length/\ks.length<=b/\∀x y,x<y->y<r.length->ok x y->DG ks xs (kN x y)=some (.bl<|Dl r x y)
theorem NU.put{r:List Pt}{ok z:Nat->Nat->Prop}{b:Nat}{ks:List (List Int)}{xs:List PV}(h:NU r ok b ks xs)(i j:Nat)(AZ:∀x y,x<y->y<r.length->z x y->(x=i/\y=j)\/ok x y):NU r z (b+1) (GP ks<|kN i j)<|Ie ks xs (kN i j)<|.bl<|Dl r i j:=by
 refine⟨qi h.1 _ _,AGZ (qh _ _) (by have:=h.2.1;exact Oz this),λx y q v h3=>?_⟩;rw[qc h.1];by_cases e:kN x y=kN i j
 .rw[AFu e];obtain⟨rfl,rfl⟩:=wU.mp e
  rfl
 .rw[AF0 e];rcases AZ x y q v h3 with⟨rfl,rfl⟩|p
  .exact absurd rfl e
  .exact h.2.2 x y q v p
theorem me{r:List Pt}(h:Ci r=true):∃ks xs,Tv [.lst<|AJ r]=some (.fd ks xs)/\ks≠[]/\∀x y,x<y->y<r.length->DG ks xs (kN x y)=some (.bl<|Dl r x y):=by
 obtain⟨h3,Y,Q⟩:=Ht h;have O:Ca (A9 5 [.lst<|AJ r])=cI r.length:=by rw[<-Bs];rfl
 obtain⟨ρ',e,ks,xs,c,d,rfl,q⟩:=iB (gt:=Ac 3) (body:=aS) (λm ρ=>∃ks xs c d,ρ=[iL r,iI r.length,some<|.EG none ks xs,c,d]/\NU r (λ_ y=>y<m) (12*m) ks xs) (n:=r.length) ⟨[],[],none,none,rfl,rfl,AFn,λx y _ _ h=>U⟩ (by
  rintro m hm ρ ⟨ks,xs,c,d,rfl,q⟩;obtain⟨ρ',e,Rt,YV,d',rfl,Z⟩:=iB (gt:=Ac 4) (body:=aW) (λf ρ=>∃ks xs d,ρ=[iL r,iI r.length,some<|.EG none ks xs,iI m,d]/\NU r (λx y=>y<m\/(y=m/\x<f)) (12*m+f) ks xs) (n:=m) ⟨ks,xs,d,rfl,q.1,q.2.1,λx y p v h3=>q.2.2 x y p v U⟩ (by
   rintro f hf ρ ⟨ks,xs,d,rfl,q⟩;have P:ai [iL r,iI r.length,some<|.EG none ks xs,iI m,iI f]=cB (Dl r f m):=by exact Qu (AK (AK rfl rfl<|DB _ _) (EA (AI rfl<|AI (AK rfl rfl<|DB _ _) AQ) rfl)<|Wg _ _ _) λ_=>Ar (AI rfl<|AI rfl<|AI rfl AQ) rfl<|Yg h3 Y Q _ _
   exact⟨_,_,rfl,rP (k:=kN f m) P rfl rfl rfl rfl (by have:=q.2.1;lia),_,_,_,rfl,q.put f m λx y p v h3=>by rcases h3 with h3|h3<;>lia⟩)
  exact⟨_,_,rfl,(B8<|Di (AI rfl AQ) U).trans e,_,_,_,_,rfl,Z.1,by have:=Z.2.1;lia,λx y p v h3=>Z.2.2 x y p v U⟩)
 refine⟨ks,xs,BV rfl ?_,λz=>?_,λx y p v=>q.2.2 x y p v v⟩
 .unfold Zv;rw[sq<|Ay O rfl];rw[sq (ρ':=[iL r,iI r.length,some<|.EG none [] [],none,none]) rfl];rw[sq<|(B8<|Di (AI rfl AQ)<|J8 Y).trans e]
  rfl
 .have:=q.2.2 0 1 U U U;rw[z]at this
  contradiction
theorem Om{r:List Pt}(h:Ci r=true){i j:Nat}(y:i<j)(q:j<r.length):DY r (i) (j)=true↔AH.Line r (i) (j):=by
 obtain⟨R,_⟩:=(KP r).mp h;have h3:=R.l3;unfold DY;constructor
 .intro e;rw[AFw,AFw,AGd]at e;obtain⟨hc,v,z⟩:=e;simp only[Fv,AFw,AFw,AFw,AF2,AF2,AF2,AGd,AGf,AGK,AGK]at hc;obtain⟨⟨a,b,c⟩,d,e⟩:=hc;have f:AH.Bt r.length<|(i)-j:=AH.L4 (by clear z;right;lia);exact⟨(AH.Ru R.simple R.DF a AFo AFo c f).mp v,AH.Uq.mp z⟩
 .rintro⟨p,k⟩;have f:=AH.Kr (KA h3) p.Ba (by clear y;lia) U;simp only[AFw,AFw,AGd];refine⟨?_,(AH.Ru R.simple R.DF Br AFo U (Dd q) p.Ba).mpr p,AH.Uq.mpr k⟩;simp only[Fv,AFw,AFw,AFw,AF2,AF2,AF2,AGd,AGf,AGK,AGK];clear h3;omega
theorem OV{r:List Pt}{i j:Nat}:Dl r i j=true↔(j:Int)-i=1\/(j:Int)-i=(r.length)-1\/DY r i j=true:=by unfold Dl;rw[AGv,AGv,AHC,AHC,or_assoc]
theorem wK{r:List Pt}(h:Ci r=true){a b:Nat}(y:a+1<b)(z:b<r.length)(q:Dl r a b=true):∃c,a<c/\c<b/\Dl r a c=true/\Dl r c b=true:=by
 obtain⟨R,_⟩:=(KP r).mp h;obtain⟨k,k1,k2,k3,v⟩:=R.IT (i:=(a)) (j:=(b)) Br U (Dd z) (by
  rcases OV.mp q with c|c|c
  .lia
  .right;lia
  .exact .inl<|(Om h (LL y) z).mp c)
 obtain⟨c,rfl⟩:∃c:Nat,k=(c):=⟨k.toNat,U⟩;refine⟨c,O0 k1,O0 k2,OV.mpr ?_,OV.mpr ?_⟩
 .rcases k3 with e|e
  .left;lia
  .exact .inr<|.inr<|(Om h (O0 k1) U).mpr e
 .rcases v with e|e
  .left;lia
  .exact .inr<|.inr<|(Om h (O0 k2) AFr).mpr e
abbrev NN:=Nat×Nat
noncomputable def GD(T:List NN):Nat:=(T.map λe=>e.2-e.1-1).sum
noncomputable def FJ(T:List NN):Nat:=(T.map λe=>2*(e.2-e.1)-1).sum
structure Dr(r:List Pt)(T L:List NN):Prop where
 seg:∀e∈T,e.1<e.2/\e.2<r.length/\Dl r e.1 e.2=true
 aJ:T.Pairwise λe f=>e.2<=f.1\/f.2<=e.1
 ln:∀e∈L,e.1<e.2/\e.2<r.length/\DY r e.1 e.2=true
 out:∀e∈L,∀f∈T,(e.1<=f.1/\f.2<=e.2/\(e.1<f.1\/f.2<e.2))\/e.2<=f.1\/f.2<=e.1
 nx:L.Pairwise λe f=>e≠f/\¬ Ad.X e f
 ct:(T=[(0,r.length-1)]/\L=[])\/L.length+GD T+3=r.length
theorem YT(T AFl:List NN):GD (T++AFl)=GD T+GD AFl:=by unfold GD;rw[AGP,AJf]
theorem xa(T AFl:List NN):FJ (T++AFl)=FJ T+FJ AFl:=by unfold FJ;rw[AGP,AJf]
theorem Dr.drop{r:List Pt}{T L:List NN}{a b:Nat}(D:Dr r (T ++ [(a,b)]) L)(h3:3<=r.length)(h:¬ a+1<b):Dr r T L:=by
 have m:∀e∈T,e∈T ++ [(a,b)]:=λe he=>AHP _ he;refine⟨λe he=>D.seg e<|m e he,(AG1.mp D.aJ).1,D.ln,λe he f z=>D.out e he f<|m f z,D.nx,?_⟩;rcases D.ct with⟨c,_⟩|c
 .have:=AG5 List.getLast? c;simp at this;omega
 .rw[YT,show GD [(a,b)]=0 by simp[GD];clear c;omega]at c;exact .inr c
theorem Dr.step{r:List Pt}{T L:List NN}{a b c:Nat}(D:Dr r (T ++ [(a,b)]) L)(y:a<c)(P:c<b)(F:Dl r a c=true)(R:Dl r c b=true):Dr r (T ++ [(a,c),(c,b)]) (if(b:Int)-a<(r.length:Int)-1 then L ++ [(a,b)]else L):=by
 obtain⟨p,Z,B⟩:=D.seg (a,b) AFn;have m:∀e∈T,e∈T ++ [(a,b)]:=λe he=>AHP _ he;obtain⟨G,_,v⟩:=AG1.mp D.aJ;have v:∀e∈T,e.2<=a\/b<=e.1:=λe he=>v e he (a,b) AFn;have Y:∀e∈T ++ [(a,c),(c,b)],e.1<e.2/\e.2<r.length/\Dl r e.1 e.2=true:=λe he=>by
  rcases AGO.mp he with he|he
  .exact D.seg e<|m e he
  .simp only[AF4,AHF,AIS]at he;rcases he with rfl|rfl
   .exact⟨y,U,F⟩
   .exact⟨P,Z,R⟩
 have Q:(T ++ [(a,c),(c,b)]).Pairwise λe f=>e.2<=f.1\/f.2<=e.1:=by refine AG1.mpr ⟨G,AFn,λe he f z=>?_⟩;have:=v e he;simp only[AF4,AHF,AIS]at z;rcases z with rfl|rfl<;>dsimp only<;>lia
 have O:∀e∈L,∀f∈T ++ [(a,c),(c,b)],(e.1<=f.1/\f.2<=e.2/\(e.1<f.1\/f.2<e.2))\/e.2<=f.1\/f.2<=e.1:=λe he f z=>by
  rcases AGO.mp z with z|z
  .exact D.out e he f<|m f z
  .have:=D.out e he (a,b) AFn;simp only[AF4,AHF,AIS]at z;rcases z with rfl|rfl<;>dsimp only at this ⊢ <;> grind
 have w:GD [(a,b)]=GD [(a,c),(c,b)]+1:=by simp[GD];grind
 have w0:GD [(a,b)]=b-a-1:=by simp[GD]
 split
 .refine⟨Y,Q,λe he=>?_,λe he f z=>?_,AG1.mpr ⟨D.nx,AFn,λe he f z=>?_⟩,?_⟩
  .rcases AGO.mp he with he|he
   .exact D.ln e he
   .rw[AGH]at he;subst he;refine⟨p,Z,?_⟩;rcases OV.mp B with q|q|q
    .dsimp only at q;lia
    .dsimp only at q;lia
    .exact q
  .rcases AGO.mp he with he|he
   .exact O e he f z
   .rw[AGH]at he;subst he;rcases AGO.mp z with z|z
    .have:=v f z;dsimp only;right;lia
    .simp only[AF4,AHF,AIS]at z;rcases z with rfl|rfl<;>dsimp only<;>(left;lia)
  .rw[AGH]at z;subst z;have o:=D.out e he (a,b) AFn;dsimp only at o;refine⟨λq=>?_,λq=>?_⟩
   .rw[q]at o;dsimp only at o;clear y;lia
   .unfold Ad.X at q;dsimp only at q;clear y;grind
  .rcases D.ct with⟨q,_⟩|q
   .have:=AG5 List.getLast? q;simp at this;clear p;omega
   .rw[YT]at q ⊢;simp only[AGA,AGh]
    grind
 .refine⟨Y,Q,D.ln,O,D.nx,?_⟩;rcases D.ct with⟨q,rfl⟩|q
  .have:=by have:=AG5 List.length q;simp at this;exact this
   subst this;simp only[AHN]at q ⊢;simp only[AHB];dsimp only at *
   clear p;omega
  .rw[YT]at q;clear y w;grind
set_option tactic.hygienic true
noncomputable def zz(e:NN):Pt:=((e.1:Int),(e.2:Int))
abbrev zs(L:List NN):List PV:=AJ<|L.map zz
theorem NB(L:List NN):(zs L).length=L.length:=by rw[Bs,AFs]
theorem Mc{i:Nat}{k:List PV->List PV->Option (List PV)}{ga:AF}{ρ:AS}{rs:List RV}{ps qs zs:List PV}(z:ρ[i]? = some (some<|.own ps))(ea:ga ρ=some rs)(y:CZ rs=some qs)(h:k ps qs=some zs):Cr i k ga ρ=some (.nx<|ρ.set i<|some<|.own zs):=by unfold Cr;rw[z,ea];dsimp only;rw[y];dsimp only;rw[h]
theorem iR{i:Nat}{ga:AF}{ρ:AS}{rs:List RV}{ps:List PV}{p:PV}(z:ρ[i]? = some (some<|.own ps))(ea:ga ρ=some rs)(y:CZ rs=some [p])(h:ps.length<1000):Cr i Dm ga ρ=some (.nx<|ρ.set i<|some<|.own<|ps ++ [p]):=Mc z ea y<|AFu h
theorem AAV{i:Nat}{gt:GF}{ρ ρ':AS}{ps:List PV}{p:PV}(z:ρ[i]? = some (some<|.own<|ps ++ [p]))(y:gt p (ρ.set i<|some<|.own ps)=some ρ'):Ku i gt ρ=some (.nx ρ'):=by unfold Ku;rw[z];dsimp only;simp only[AGA,AGh,Nat.add_sub_cancel,AGa<|AF5 _,Nat.sub_self];dsimp only[List.getElem?_cons_zero];rw[List.dropLast_concat,y]
def wT:BF:=AU<|f2 B3 (fB Dp<|AG (AE 5) AN)<|fC<|.int 0
def wS:EF:=BC (DK<|AG Qh<|AG (AE 7) AN) 1 [3,6,7] (Ac 0) bX<|AE 0
def wA:EF:=f2 Am (AE 8) bL
def wG:SF:=AM (Ku 5<|HS 2 Qj)<|Az (AU VI) (AM (Aa 8 wS)<|AM (Aa 9 wA) U4) A7
set_option tactic.hygienic false
section
variable{s:List Int}{kk:Nat}{r:List Pt}{ks:List (List Int)}{xs:List PV}(h:Ci r=true)(hd:∀x y,x<y->y<r.length->DG ks xs (kN x y)=some (.bl (Dl r x y)))
def wR(s:List Int)(kk:Nat)(r:List Pt)(ks:List<|List Int)(xs:List PV)(L T:List NN)(x:List<|Option SV):AS:=iM (.rd<|Av s)::iI kk::iL r::iM (.Co ks xs)::some (.own<|zs L)::some (.own<|zs T)::x
include h hd
theorem AEc{L T:List NN}{a b:Nat}(z:a+1<b)(v:b<r.length)(p Z:Option SV):wS (wR s kk r ks xs L T [iI a,iI b,p,Z])=some (.fr (((List.range<|b-(a+1)).filter λt=>Dl r a (a+1+t)&&Dl r (a+1+t) b).map λt:Nat=>PV.int<|(a+1+t:Nat))):=by obtain⟨h3,Bp,_⟩:=Ht h;refine CS (N5 (AI (AK rfl rfl<|by rfl)<|AI rfl AQ) U U) (by rw[AFs,AGV];clear z h3;omega)<|D8 λt q=>⟨_,rfl,?_,λ_=>⟨.cl<|.int<|(a+1+t:Nat),rfl,rfl⟩⟩;have q:=AF1.mp q;exact HP (An<|dF rfl rfl rfl rfl<|hd a (a+1+t) U (by clear z;omega)) λ_=>An<|dF rfl rfl rfl rfl<|hd (a+1+t) b (by clear z;omega) v
theorem AEb{L T:List NN}{a b:Nat}(D:Dr r (T ++ [(a,b)]) L)(hT:T.length<=900)(x:List<|Option SV)(Z:x.length=4):∃H Y I,wG (wR s kk r ks xs L (T ++ [(a,b)]) x)=some (.nx<|wR s kk r ks xs H Y I)/\I.length=4/\Dr r Y H/\Y.length<=T.length+2/\FJ Y<FJ (T ++ [(a,b)]):=by
 obtain⟨h3,Bp,_⟩:=Ht h;obtain⟨Q,O,v,z,rfl⟩:∃Q O v z,x=[Q,O,v,z]:=by
  match x,Z with
  |[Q,O,v,z],_=>exact⟨Q,O,v,z,rfl⟩
 obtain⟨G,S,n⟩:=D.seg (a,b) AFn;dsimp only at G S n;unfold wG;rw[sq (ρ':=wR s kk r ks xs L T [iI a,iI b,v,z])<|AAV (by delta wR zs AJ;simp only[AGP,AGP];rfl) rfl];have P:AU VI (wR s kk r ks xs L T [iI a,iI b,v,z])=some (decide ((1:Int)<(b)-a)):=An<|AK (AK rfl rfl<|DB _ _) rfl<|FE _ _;by_cases c:a+1<b
 .rw[AG4 (by clear G;lia)]at P;rw[Bg P];have f:=AEc (s:=s) (kk:=kk) (L:=L) (T:=T) h hd c S v z;generalize e:((List.range<|b-(a+1)).filter λt=>Dl r a (a+1+t)&&Dl r (a+1+t) b)=F at f;have C:0<F.length:=by
   obtain⟨c,c1,c2,c3,c4⟩:=wK h c S n;have:c-(a+1)∈F:=by
    rw[<-e];refine AGD.mpr ⟨AF1.mpr (by clear Z;omega),?_⟩;rw[show a+1+(c-(a+1))=c by grind,c3,c4]
    rfl
   exact AID this
  have um:=AGI (Ab s (kk+a) / (1+b)) (b:=(F.length))<|F7 C;have hm:(Ab s (kk+a) / (1+b)%(F.length)).toNat<F.length:=by clear Z;omega
  have p:=AIQ hm;have eA:wA (wR s kk r ks xs L T [iI a,iI b,iM<|.lst (F.map λt:Nat=>PV.int<|(a+1+t:Nat)),z])=cI ((a+1+F[(Ab s (kk+a) / (1+b)%(F.length)).toNat]:Nat)):=by
   refine AK rfl (AK (AK (Ar (AI rfl<|AI (AK rfl rfl<|J4 _ _) AQ) rfl<|Ti s _ U) (AK rfl rfl<|J4 _ _)<|gd U U) (BW (AI rfl AQ)<|by rw[Fh,AFs])<|FF<|F7 C) ?_;show(CM (F.map λt:Nat=>PV.int<|(a+1+t:Nat)) _).map _=_
   delta CM Gh
   rw[AFu<|AGQ (Ab s (kk+a) / (1+b)) (b:=(F.length))<|MX C,AFu (by rw[AFs];exact um),AGS,AG6,AGF hm]
   rfl
  generalize F[(Ab s (kk+a) / (1+b)%(F.length)).toNat]=t at p eA;rw[<-e]at p;obtain⟨p,E⟩:=AGD.mp p;have p:=AF1.mp p;rw[AFw]at E;have R:=D.step U (by clear Z c;omega) E.1 E.2;rw[sq (ρ':=wR s kk r ks xs L T [iI a,iI b,iM<|.lst (F.map λt:Nat=>PV.int<|(a+1+t:Nat)),z])<|Ay f rfl];rw[sq <|Ay eA rfl]
  delta U4
  rw[sq (ρ':=wR s kk r ks xs L (T ++ [(a,a+1+t),(a+1+t,b)]) [iI a,iI b,iM<|.lst (F.map λt:Nat=>PV.int<|(a+1+t:Nat)),iI<|(a+1+t:Nat)]) ((set_own (AK rfl rfl (Iy rfl rfl (by rw[NB];show T.length+2<=_;lia)))).trans (by delta wR zs AJ;simp only[AGP,AGP];rfl))];have B:AU bw (wR s kk r ks xs L (T ++ [(a,a+1+t),(a+1+t,b)]) [iI a,iI b,iM<|.lst (F.map λt:Nat=>PV.int<|(a+1+t:Nat)),iI<|(a+1+t:Nat)])=some (decide ((b:Int)-a<(r.length)-1)):=An (AK (AK rfl rfl<|DB _ _) (AK (BW (AI rfl AQ)<|by rw[Fh,Bs]) rfl<|DB _ _)<|JA _ _);have K5:FJ (T ++ [(a,a+1+t),(a+1+t,b)])<FJ (T ++ [(a,b)]):=by simp[FJ];clear c;lia
  have ug:L.length<1000:=by
   rcases D.ct with⟨_,q⟩|q
   .rw[q];decide
   .lia
  by_cases q:(b:Int)-a<(r.length)-1
  .rw[AG4 q]at B;rw[AFu q]at R;rw[Bg B,iR rfl (AI rfl AQ) rfl (by rw[NB];exact ug)];refine⟨L ++ [(a,b)],_,[iI a,iI b,iM<|.lst (F.map λt:Nat=>PV.int<|(a+1+t:Nat)),iI<|(a+1+t:Nat)],?_,rfl,R,AFn,K5⟩
   delta wR zs AJ
   rw[AGP (l₁:=L),AGP (l₁:=L.map zz)]
   rfl
  .rw[AGq q]at B;rw[AF0 q]at R;rw[BL B];exact⟨L,_,_,rfl,rfl,R,AFn,K5⟩
 .rw[AGq (by clear G;lia)]at P;rw[BL P];refine⟨L,T,[iI a,iI b,v,z],rfl,rfl,D.drop h3 c,U,?_⟩;rw[xa];simp[FJ];clear Z c;omega
theorem l4:∀(f:Nat)(L T:List NN)(x:List<|Option SV),Dr r T L->FJ T<f->T.length+2*FJ T<=900->x.length=4->∃z q,GC wT wG f (wR s kk r ks xs L T x)=some (.nx<|wR s kk r ks xs z [] q)/\q.length=4/\Dr r [] z
 |0,_,_,_,_,hm,_,_=>absurd hm U
 |f+1,L,T,x,D,hm,hT,hx=>by
  have v:wT (wR s kk r ks xs L T x)=some (decide ((0:Int)<(T.length))):=An (AK (BW (AI rfl AQ)<|by rw[wQ,NB]) rfl<|FE _ _);unfold GC;rw[v];rcases List.eq_nil_or_concat T with rfl|⟨T',⟨a,b⟩,rfl⟩
  .exact⟨L,x,rfl,hx,D⟩
  .rw[List.concat_eq_append]at *
   rw[AG4 AFn];dsimp only;simp only[AGA,AGh]at hT;obtain⟨z,p,q,e,Z,Y,hl,C9⟩:=AEb h hd D U x hx;rw[e];exact l4 f z p q Y U U Z
end
theorem jK:∀Q:List Pt,Ml (AJ Q)=some Q
 |[]=>rfl
 |q::Q=>by
  show(Ml<|AJ Q).map _=_;rw[jK Q]
  rfl
theorem sY(Q:List Pt)(i:Nat)(hi:i<Q.length):(AJ Q).getD i .Au=pv (Q.getD i (0,0)):=by
 unfold AJ;rw[AGn,AGn,AG6,AGF hi]
 rfl
def CW(Q:List Pt):List Pt:=(C5.ord Q).map λi=>Q.getD i (0,0)
theorem Xv{f:EF}{ρ:AS}{r:RV}{Q:List Pt}(e:f ρ=some r)(z:r.list=some (AJ Q))(y:Q.length<64)(nd:Q.Nodup):fB J6 (AG f AN) ρ=some (.fr<|AJ<|CW Q):=by
 refine BW (AI e AQ) ?_;unfold J6;dsimp only;rw[z];dsimp only;rw[jK];dsimp only;rw[AFu ⟨by rw[Bs];exact y,nd⟩];unfold CW;rw[show AJ ((C5.ord Q).map λi=>Q.getD i (0,0))=(C5.ord Q).map λi=>pv (Q.getD i (0,0))by unfold AJ;rw[AGU];rfl]
 congr 2
 exact AHk λi hi=>sY Q i<|C5.XO nd i hi
theorem S4{Q:List Pt}(nd:Q.Nodup):(CW Q).Perm Q:=by have:=(C5.XR nd).map λi=>Q.getD i (0,0);rw[show(List.range Q.length).map (λi=>Q.getD i (0,0))=Q from List.ext_getElem AFn λi h1 z=>by simp[List.getD,z]]at this;exact this
theorem kU{Q:List Pt}(nd:Q.Nodup):(CW Q).Pairwise λp q=>IU p.1 p.2 q.1 q.2=true:=by unfold CW;rw[AHb];exact C5.zO nd
theorem Tb{e f:NN}(h:zz e=zz f):e=f:=by unfold zz at h;exact AGy U U
theorem AEn{e f:NN}(h:¬ Ad.X e f):xB (zz e) (zz f)=false:=by
 unfold Ad.X at h
 delta xB zz
 simp only[AH8]
 grind
theorem Dr.cut{r:List Pt}{L:List NN}(D:Dr r [] L)(h3:3<=r.length):(L.map zz).Nodup/\∃S:List NN,CW (L.map zz)=S.map zz/\Ad.Ct r.length S/\∀e∈S,DY r e.1 e.2=true:=by
 have p:L.length+3=r.length:=by
  rcases D.ct with⟨q,_⟩|q
  .contradiction
  .exact q
 have Z:L.Nodup:=D.nx.imp λk=>k.1;have nd:(L.map zz).Nodup:=by unfold List.Nodup;rw[AHb];exact D.nx.imp λ{a b} k e=>k.1<|Tb e
 have hp:=S4 nd;have uz:∀e:NN,((zz e).1.toNat,(zz e).2.toNat)=e:=λe=>rfl;have es:CW (L.map zz)=((CW<|L.map zz).map λe=>(e.1.toNat,e.2.toNat)).map zz:=by
  rw[AGU];refine(AJV _).symm.trans (AHk λe he=>?_);obtain⟨f,_,rfl⟩:=AGe.mp<|hp.mem_iff.mp he
  rfl
 have y:=hp.map λe:Pt=>(e.1.toNat,e.2.toNat);rw[AGU,show(L.map<|(λe:Pt=>(e.1.toNat,e.2.toNat))∘zz)=L from AJV L]at y;have ln:∀e∈L,e.1+1<e.2/\e.2<r.length/\e≠(0,r.length-1):=λe he=>by
  obtain⟨a,b,c⟩:=D.ln e he;unfold DY Fv at c;simp only[AFw,AF2,AGd,AGf,AGK]at c;obtain⟨⟨_,k1,k2⟩,_⟩:=c;refine⟨U,b,λz=>?_⟩;subst z;dsimp only at k2
  grind
 refine⟨nd,_,es,⟨⟨y.nodup_iff.mpr Z,λe he=>(ln e<|y.mem_iff.mp he).1,λe he f Y=>?_⟩,λe he=>(ln e<|y.mem_iff.mp he).2.1,λm=>(ln _<|y.mem_iff.mp m).2.2 rfl,by rw[y.length_eq];exact p⟩,λe he=>(D.ln e<|y.mem_iff.mp he).2.2⟩;obtain⟨i,hi,rfl⟩:=AH7<|y.mem_iff.mp he;obtain⟨j,v,rfl⟩:=AH7<|y.mem_iff.mp Y;have P:=AG0.mp D.nx;rcases AHt i j with c|c|c
 .exact(P i j hi v c).2
 .subst c;unfold Ad.X;lia
 .exact λz=>(P j i v hi c).2 z.symm
theorem Yd(s:List Int)(kk:Nat){r:List Pt}(h:Ci r=true):∃S:List NN,P4 [.rd<|Av s,.int kk,.lst<|AJ r]=some (.fr<|AJ<|S.map zz)/\Ad.Ct r.length S/\(∀e∈S,DY r e.1 e.2=true)/\(S.map zz).Pairwise λp q=>IU p.1 p.2 q.1 q.2=true:=by
 obtain⟨h3,y,_⟩:=Ht h;obtain⟨ks,xs,v,_,hd⟩:=me h;obtain⟨L,x,Z,hx,D⟩:=l4 h hd 1000 [] [(0,r.length-1)] [none,none,none,none] ⟨λe he=>by rw[AGH]at he;subst he;exact⟨by dsimp only;lia,by dsimp only;clear y;omega,OV.mpr<|.inr<|.inl U⟩,AFn,λe he=>(nomatch he),λe he=>(nomatch he),.nil,.inl ⟨rfl,rfl⟩⟩ (by simp[FJ];clear h3;omega) (by simp[FJ];grind) rfl
 obtain⟨nd,S,z,C,Y⟩:=D.cut h3;have lz:=C.ln;have Q:=AG5 List.length z;rw[(S4 nd).length_eq,AFs,AFs]at Q;refine⟨S,?_,C,Y,z ▸ kU nd⟩;rw[<-z];refine BV rfl ?_;unfold Zs;rw[sq<|Ay (Ar (AI rfl AQ) rfl v) rfl];rw[sq<|set_own<|EA AQ rfl];have O:A5 b7 (((A9 10 [.rd<|Av s,.int kk,.lst<|AJ r]).set 3<|iM<|.Co ks xs).set 4<|some<|.own [])=some (.cl<|pv<|zz (0,r.length-1)):=(Ee (AI rfl<|AI (AK (BW (AI rfl AQ)<|by rw[Fh,Bs]) rfl<|DB _ _) AQ) rfl).trans (by delta pv zz;rw[show((r.length-1:Nat):Int)=(r.length)-1 by grind];rfl);rw[sq <|(set_own<|EA (AI O AQ) rfl).trans rfl];refine(sq Z).trans ?_;exact LP<|Xv rfl rfl (by rw[AFs];lia) nd
theorem vh(N:List Pt)(a:Pt):inD (AJ N) (pv a)=decide (a∈N):=by
 delta inD AJ
 rw[AHo,AHM];simp only[List.any_eq_true,Function.comp,N2,AF2];exact⟨(by rintro⟨x,z,e⟩;exact e ▸ z),λz=>⟨a,z,rfl⟩⟩
theorem Ri(neg:Bool)(N:List Pt)(a:Pt):DL neg (.cl<|pv a) (.cl<|.lst<|AJ N)=cB (if neg=true then !decide (a∈N)else decide (a∈N)):=by
 have:Ms (AJ N)=true:=by delta Ms AJ;simp[Mt]
 show(if PySem.SeqAt.shaped (Ah<|pv a)=true/\Ms (AJ N)=true then some (RV.cl (.bl (if neg=true then !inD (AJ N) (pv a)else inD (AJ N) (pv a))))else none)=_;rw[AFu ⟨Mt _,this⟩,vh]
def Cb(n:Nat)(N:List Pt)(i j:Nat):Bool:=nb (n:Int) ((j:Int)-(i:Int))||decide ((min (i:Int) j,max (i:Int) j)∈N)
theorem Ts{n:Nat}(N:List Pt)(z:0<n)(i j:Nat):NH [.int<|n,.lst<|AJ N,.int<|i,.int<|j]=cB (Cb n N i j):=by refine BV rfl ?_;refine Cg<|Qu (Ar (AI rfl<|AI rfl<|AI rfl AQ) rfl<|UA<|F7 z) λ_=>?_;refine AK ?_ rfl (Ri false _ _);exact Ee (AI (BW (AI rfl<|AI rfl AQ)<|Rl _ _)<|AI (BW (AI rfl<|AI rfl AQ)<|MN _ _) AQ) rfl
theorem xw{n i j:Nat}(h3:3<=n)(hi:i<n)(hj:j<n):nb (n) ((j)-i)=true↔j=i+1\/i=j+1\/(i=0/\j=n-1)\/(j=0/\i=n-1):=by
 unfold AH.nb;rw[AGv,AHC,AHC];by_cases c:i<=j
 .rw[AFt U U];clear hi;constructor<;>lia
 .rw[<-AJG,AFt U U];constructor<;>lia
theorem O4{S:List NN}{a b:Nat}:((a:Int),(b:Int))∈S.map zz↔(a,b)∈S:=by rw[AGe];exact⟨(by rintro⟨e,he,z⟩;rwa [<-Tb (f:=(a,b)) z]),λh=>⟨_,h,rfl⟩⟩
theorem MJ{n:Nat}{S:List NN}(C:Ad.Ct n S){i j:Nat}(hi:i<n)(z:j<n):Cb n (S.map zz) i j=true↔Ad.JJ n S i j:=by
 have h3:=C.ln
 delta Cb Ad.JJ Ad.J
 simp only[AGv,xw (by subst h3;lia) hi z,AF2];rcases AHt i j with c|c|c
 .rw[Int.min_eq_left<|Ox c,Int.max_eq_right<|Ox c,O4];clear hi;constructor<;>lia
 .subst c;rw[Int.min_eq_left Dc,Int.max_eq_right Dc,O4];have:(i,i)∉S:=λm=>by have:=C.Ba _ m;lia
  subst h3;lia
 .rw[Int.min_eq_right<|Ox c,Int.max_eq_left<|Ox c,O4];constructor<;>lia
theorem rm{P:Nat->Bool}:∀{n p q:Nat},p<q->q<n->(∀t,t<n->(P t=true↔t=p\/t=q))->(List.range n).filter P=[p,q]:=by
 have z:∀n,(∀t,t<n->P t=false)->(List.range n).filter P=[]:=λn h=>AIv.mpr λt y e=>by rw[h t<|AF1.mp y]at e;contradiction
 have s1:∀n,[n].filter P=if P n=true then[n]else[]:=λn=>by simp only[AI2,List.filter_nil]
 have one:∀n p,p<n->(∀t,t<n->(P t=true↔t=p))->(List.range n).filter P=[p]:=λn=>by
  induction n with
  |zero=>intro p h;lia
  |succ n ih=>
   intro p h k;rw[AHS,AJH,s1];by_cases e:p=n
   .subst e;rw[z p λt y=>AIo.mpr λq=>by have:=(k t<|En y).mp q;lia,AFu<|(k p h).mpr rfl]
    rfl
   .rw[ih p (FG h e) λt y=>k t<|En y,AF0 λq=>e ((k n EU).mp q).symm,AGt]
 intro n
 induction n with
 |zero=>intro p q _ h;lia
 |succ n ih=>
  intro p q v h k;rw[AHS,AJH,s1];by_cases e:q=n
  .subst e;rw[one q p v λt y=>by rw[k t<|En y];constructor<;>lia,AFu<|(k q h).mpr<|.inr rfl]
   rfl
  .rw[ih v (FG h e) λt y=>k t<|En y,AF0 λz=>by have:=(k n EU).mp z;lia,AGt]
theorem Yo{n:Nat}(N:List Pt)(y:0<n)(z:n<=1000)(a b:Nat):NM [.int<|n,.lst<|AJ N,pv<|zz (a,b)]=some (.fr (((List.range n).filter λt=>Cb n N t b&&Cb n N t a).map λt:Nat=>PV.int<|t)):=by
 refine BV rfl ?_;unfold Z9;have q:BC (C0 B9) 1 [0,1,2] (Ac 0) (AU bp) (AE 0) (A9 4 [.int<|n,.lst<|AJ N,pv<|zz (a,b)])=some (.fr (((List.range n).filter λt=>Cb n N t a).map λt:Nat=>PV.int<|t)):=
  CS (Di (AI rfl AQ) z) (by rw[AFs,AGV];exact z) (D8 λt _=>⟨_,rfl,An<|Ar rfl rfl<|Ts N y t a,λ_=>⟨_,rfl,rfl⟩⟩)
 rw[sq<|Ay q rfl];rw[<-List.filter_filter];refine LP<|CS (DI rfl rfl) ?_ (D8 λt _=>⟨_,rfl,An<|Ar rfl rfl<|Ts N y t b,λ_=>⟨_,rfl,rfl⟩⟩);rw[AFs];exact AGZ (AGw _ _) (by rw[AGV];exact z)
theorem AEB{n:Nat}{S:List NN}(C:Ad.Ct n S)(Z:n<=1000){a b p q:Nat}(z:(a,b)∈S)(y:p<q)(Y:q<n)(Q:∀t,Ad.JJ n S t a/\Ad.JJ n S t b↔t=p\/t=q):NM [.int<|n,.lst<|AJ<|S.map zz,pv<|zz (a,b)]=some (.fr [.int<|p,.int<|q]):=by
 have:=C.Ba _ z;have v:=C.lt _ z;dsimp only at this v;rw[Yo _ (by clear y;lia) Z,rm y Y λt tn=>by rw[AFw,MJ C tn v,MJ C tn U,<-Q,and_comm]]
 rfl
theorem Yl{r:List Pt}{S:List NN}(C:Ad.Ct r.length S)(z:r.length<=1000){a b p q:Nat}(y:(a,b)∈S)(v:p<q)(Z:q<r.length)(Y:∀t,Ad.JJ r.length S t a/\Ad.JJ r.length S t b↔t=p\/t=q):QA [.lst<|AJ r,.lst<|AJ<|S.map zz,pv<|zz (a,b)]=some (.cl<|pv<|zz (p,q)):=by refine BV rfl ?_;unfold Z6;rw[sq<|Ay (Ar (AI (BW (AI rfl AQ)<|by rw[Fh,Bs]) rfl) rfl<|AEB C z y v Z Y) rfl];exact Cg<|Ee (ps:=[.int<|p,.int<|q]) (AI (AK rfl rfl rfl)<|AI (AK rfl rfl rfl) AQ) rfl
theorem mQ{r:List Pt}(h:Ci r=true){S:List NN}(C:Ad.Ct r.length S)(z:r.length<=1000){a b p q:Nat}(y:(a,b)∈S)(v:p<q)(Z:q<r.length)(Y:∀t,Ad.JJ r.length S t a/\Ad.JJ r.length S t b↔t=p\/t=q):Th [.lst<|AJ r,.lst<|AJ<|S.map zz,pv<|zz (a,b)]=cB (DY r p q):=by refine BV rfl ?_;unfold Zk;rw[sq<|Ay (Ar rfl rfl<|Yl C z y v Z Y) rfl];rw[<-g4 h];exact Cg<|Ar rfl rfl<|Yf h _ _
abbrev N3:=Nat×Nat×Nat
noncomputable def e3(x:N3):PV:=.tup [.int (x.1:Int),.int (x.2.1:Int),.int (x.2.2:Int)]
def Hg(n:Nat)(N:List Pt)(e:NN):Bool:=((zz e).2-(zz e).1==1||(zz e).2-(zz e).1==(n:Int)-1)||decide (zz e∈N)
def p3(n:Nat)(N:List Pt)(i j k:Nat):Bool:=(([(i,j),(j,k),(i,k)].filter (Hg n N)).length:Int)==3
theorem zT{n:Nat}{N:List Pt}{i j k:Nat}:p3 n N i j k=true↔Hg n N (i,j)=true/\Hg n N (j,k)=true/\Hg n N (i,k)=true:=by unfold p3;rw[AI2,AI2,AI2];cases Hg n N (i,j)<;>cases Hg n N (j,k)<;>cases Hg n N (i,k)<;>simp
def MP(n:Nat)(N:List Pt)(i j:Nat)(b:List N3)(u:Nat):List N3:=if p3 n N i j (j+1+u)=true then b ++ [(i,j,j+1+u)]else b
def OU(n:Nat)(N:List Pt)(i:Nat)(b:List N3)(t:Nat):List N3:=(List.range<|n-(i+1+t+1)).foldl (MP n N i<|i+1+t) b
def LA(n:Nat)(N:List Pt)(b:List N3)(i:Nat):List N3:=(List.range<|n-(i+1)).foldl (OU n N i) b
def Gr(n:Nat)(N:List Pt):List N3:=(List.range n).foldl (LA n N) []
theorem LM{α β:Type}{f:List β->α->List β}{g:α->β->Prop}{y:β}:∀{xs:List α}{b:List β},(∀b,∀x∈xs,y∈f b x↔y∈b\/g x y)->(y∈xs.foldl f b↔y∈b\/∃x∈xs,g x y)
 |[],b,_=>AFn
 |x::xs,b,h=>by simp only[AJb,LM λb z hz=>h b z<|AFz _ hz,h b x AF3];simp only[AF4,exists_eq_or_imp,or_assoc]
theorem xY{n:Nat}{N:List Pt}{i j k:Nat}:(i,j,k)∈Gr n N↔i<j/\j<k/\k<n/\p3 n N i j k=true:=by
 have Z:∀(x t:Nat)(b:List N3),(i,j,k)∈OU n N x b t↔(i,j,k)∈b\/(i=x/\j=x+1+t/\j<k/\k<n/\p3 n N i j k=true):=λx t b=>by
  unfold OU;rw[LM (g:=λu y=>y=(x,x+1+t,x+1+t+1+u)/\p3 n N x (x+1+t) (x+1+t+1+u)=true) λb u _=>by
   unfold MP;split
   .rename_i h;simp[h]
   .rename_i h;simp[h]]
  refine AJA ⟨λ⟨u,Y,e,h⟩=>?_,λ⟨z,p,h3,v,q⟩=>⟨k-(x+1+t+1),AF1.mpr AFm,?_⟩⟩
  .have:=AF1.mp Y;obtain⟨rfl,e⟩:=AHz e;obtain⟨rfl,rfl⟩:=AHz e;exact⟨rfl,rfl,U,AFo,h⟩
  .subst z p;rw[show i+1+t+1+(k-(i+1+t+1))=k by omega];exact⟨rfl,q⟩
 have Q:∀(x:Nat)(b:List N3),(i,j,k)∈LA n N b x↔(i,j,k)∈b\/(i=x/\i<j/\j<k/\k<n/\p3 n N i j k=true):=λx b=>by unfold LA;rw[LM (g:=λt _=>i=x/\j=x+1+t/\j<k/\k<n/\p3 n N i j k=true) λb t _=>Z x t b];refine AJA ⟨(by rintro⟨t,_,z,p,h3,v,q⟩;exact⟨z,U,h3,v,q⟩),(by rintro⟨z,p,h3,v,q⟩;exact⟨j-(x+1),AF1.mpr AFm,z,AFm,h3,v,q⟩)⟩
 unfold Gr;rw[LM (g:=λx _=>i=x/\i<j/\j<k/\k<n/\p3 n N i j k=true) λb x _=>Q x b];refine⟨λh=>?_,λh=>.inr ⟨i,AF1.mpr U,rfl,h⟩⟩;rcases h with h|⟨x,_,_,h⟩
 .cases h
 .exact h
theorem ML{n:Nat}{S:List NN}{u v:Nat}(h:u<v)(hv:v<n):Hg n (S.map zz) (u,v)=true↔Ad.J n S u v:=by
 delta Hg Ad.J
 rw[AGv,AGv,AHC,AHC,AF2];have m:zz (u,v)∈S.map zz↔(u,v)∈S:=O4;simp only[m];show((v:Int)-u=1\/(v:Int)-u=(n)-1)\/_↔_;clear h;constructor<;>lia
section
variable{r N:List Pt}(hN:N.length<=1000)
def pR(r N:List Pt)(b:List N3)(x:List<|Option SV):AS:=iL r::iL N::iI (r.length:Int)::some (.own<|b.map e3)::x
noncomputable def pB:SF:=U6
theorem zU{b:List N3}(q:b.length<1000)(i j k:Nat)(z:Option SV):pB (pR r N b [iI i,iI j,iI k,z])=some (.nx (pR r N (if p3 r.length N i j k=true then b ++ [(i,j,k)]else b) [iI i,iI j,iI k,iM<|.lst ([(i,j),(j,k),(i,k)].map λe=>pv<|zz e)])):=by
 have t2:∀(u v:Nat)(a c:Nat)(x:Option SV),AE a (pR r N b [iI i,iI j,iI k,x])=cI u->AE c (pR r N b [iI i,iI j,iI k,x])=cI v->A5 (AG (AE a)<|AG (AE c) AN) (pR r N b [iI i,iI j,iI k,x])=some (.cl<|pv<|zz (u,v)):=λu v a c x p Z=>Ee (AI p<|AI Z AQ) rfl;unfold pB
 delta U6
 rw[sq (ρ':=pR r N b [iI i,iI j,iI k,iM<|.lst ([(i,j),(j,k),(i,k)].map λe=>pv<|zz e)])<|(Ay (EA (AI (t2 i j 4 5 z rfl rfl)<|AI (t2 j k 5 6 z rfl rfl)<|AI (t2 i k 4 6 z rfl rfl) AQ) rfl) rfl).trans rfl];have Y:aO (pR r N b [iI i,iI j,iI k,iM<|.lst ([(i,j),(j,k),(i,k)].map λe=>pv<|zz e)])=some (.fr<|([(i,j),(j,k),(i,k)].filter (Hg r.length N)).map λe=>pv<|zz e):=
  CS (DI rfl rfl) (by show 3<=1000;decide) (D8 λe _=>⟨_,rfl,F0 (An<|AK (AK (AK rfl rfl<|DX<|zz e) (AK rfl rfl<|DM<|zz e)<|DB _ _) (EA (AI rfl<|AI (AK rfl rfl<|DB _ _) AQ) rfl)<|Wg _ _ _) λ_=>An<|AK rfl rfl<|Ri false N<|zz e,λ_=>⟨_,rfl,rfl⟩⟩)
 have y:=An (AK (fb:=fC<|.int 3) (BW (k:=Dp) (AI Y AQ)<|by rw[gi,AFs]) rfl<|LB _ _);split
 .rename_i h;unfold p3 at h;rw[h]at y;rw[Bg y,iR rfl (AI (Ee (AI (x:=.cl<|.int<|i) rfl<|AI (x:=.cl<|.int<|j) rfl<|AI (x:=.cl<|.int<|k) rfl AQ) rfl) AQ) rfl (by rw[AFs];exact q)];unfold pR;rw[AGP]
  rfl
 .rename_i h;unfold p3 at h;rw[AIo.mpr h]at y;rw[BL y]
  rfl
end
noncomputable def tS:Nat->Nat
 |0=>0
 |m+1=>tS m+(10-m)
theorem kz(m:Nat):tS m<=55:=by
 by_cases h:m<10
 .exact(AFp:∀m,m<10->tS m<=55) m h
 .have:∀k,tS (10+k)=55:=λk=>by
   induction k with
   |zero=>rfl
   |succ k ih=>rw[<-AJs,tS,ih];lia
  rw[show m=10+(m-10)by omega,this];lia
theorem PR{n i x:Nat}(h:(List.range n)[i]? = some x):x=i/\i<n:=by obtain⟨z,y⟩:=AFx.mp h;rw[AGV]at z;rw[AJC]at y;exact⟨y.symm,z⟩
section
variable{r N:List Pt}(Bp:r.length<=12)
def pK:SF:=B0 (DK<|AG (f2 A4 (AE 5)<|fC<|.int 1) DH) (Ac 6) pB
def pJ:SF:=B0 (DK<|AG Qg DH) (Ac 5) pK
include Bp
theorem zW{b:List N3}(hb:b.length<=900){i j:Nat}(hj:j<r.length)(v p:Option SV):∃y z,pK (pR r N b [iI i,iI j,v,p])=some (.nx<|pR r N ((List.range<|r.length-(j+1)).foldl (MP r.length N i j) b) [iI i,iI j,y,z])/\((List.range<|r.length-(j+1)).foldl (MP r.length N i j) b).length<=b.length+(r.length-(j+1)):=by
 unfold pK;rw[B8<|N5 (i:=j+1) (AI (AK rfl rfl<|by rfl)<|AI rfl AQ) U<|J8 Bp];obtain⟨ρ',e,⟨y,z,rfl⟩,Z⟩:=Hl (gt:=Ac 6) (MP r.length N i j) (λm q ρ=>(∃y z,ρ=pR r N q [iI i,iI j,y,z])/\q.length<=b.length+m) (xs:=List.range<|r.length-(j+1)) (n:=0) (b:=b) ⟨⟨v,p,rfl⟩,U⟩ (by
  rintro u x Y q ρ ⟨⟨y,z,e⟩,Z⟩;obtain⟨rfl,hu⟩:=PR Y;subst e;refine⟨_,_,rfl,zU (k:=j+1+x) AFo i j z,⟨_,_,rfl⟩,?_⟩;unfold MP;split
  .simp only[AGA,AGh];lia
  .lia)
 rw[AGV]at Z;exact⟨y,z,e,U⟩
theorem zV{b:List N3}(hb:b.length<=800){i:Nat}(hi:i<r.length)(p Z Y:Option SV):∃q z y,pJ (pR r N b [iI i,p,Z,Y])=some (.nx<|pR r N (LA r.length N b i) [iI i,q,z,y])/\(LA r.length N b i).length<=b.length+55:=by
 unfold pJ;rw[B8<|N5 (i:=i+1) (AI (AK rfl rfl<|by rfl)<|AI rfl AQ) U<|J8 Bp];obtain⟨ρ',e,⟨q,z,y,rfl⟩,Q⟩:=Hl (gt:=Ac 5) (OU r.length N i) (λm v ρ=>(∃q z y,ρ=pR r N v [iI i,q,z,y])/\v.length<=b.length+tS m) (xs:=List.range<|r.length-(i+1)) (n:=0) (b:=b) ⟨⟨p,Z,Y,rfl⟩,U⟩ (by rintro t x O v ρ ⟨⟨q,z,y,e⟩,Q⟩;obtain⟨rfl,P⟩:=PR O;subst e;have:=kz<|0+x;obtain⟨z6,z7,D,hk⟩:=zW Bp (b:=v) U (j:=i+1+x) (by clear hi Q;omega) z y;refine⟨_,_,rfl,D,⟨_,_,_,rfl⟩,?_⟩;simp only[tS];unfold OU;clear hi P;omega)
 have:=kz<|0+(List.range<|r.length-(i+1)).length;exact⟨q,z,y,e,by unfold LA;lia⟩
theorem mf:Tx [.lst<|AJ r,.lst<|AJ N]=some (.fr<|(Gr r.length N).map e3)/\(Gr r.length N).length<=700:=by
 obtain⟨ρ',e,⟨y,q,v,p,rfl⟩,Z⟩:=Hl (gt:=Ac 4) (LA r.length N) (λm z ρ=>(∃y q v p,ρ=pR r N z [y,q,v,p])/\z.length<=55*m) (n:=0) (b:=[]) ⟨⟨none,none,none,none,rfl⟩,AFn⟩ (by rintro i x Y z ρ ⟨⟨y4,Q,O,P,e⟩,Z⟩;obtain⟨rfl,D⟩:=PR Y;subst e;obtain⟨z5,z6,z7,F,hk⟩:=zV Bp (b:=z) U D Q O P;exact⟨_,_,rfl,F,⟨_,_,_,_,rfl⟩,U⟩)
 rw[AGV]at Z;refine⟨BV rfl ?_,by unfold Gr;lia⟩;unfold Zz;rw[sq<|Ay (BW (AI rfl AQ)<|by rw[Fh,Bs]) rfl];rw[sq <|(set_own<|EA AQ rfl).trans rfl];exact(sq <|(B8<|Di (AI rfl AQ)<|J8 Bp).trans e).trans rfl
end
theorem gk(a b:Pt):CL (.cl<|pv a) (.cl<|pv b)=cB (!decide (a=b)):=by exact(AFu ⟨Mt a,Mt b⟩).trans (AG5 (λb=>some<|RV.cl<|PV.bl (!b))<|N2 a b)
noncomputable def M5(e:Pt):NN:=(e.1.toNat,e.2.toNat)
theorem Ph(S:List NN):(S.map zz).map M5=S:=by rw[AGU];exact AJV S
noncomputable def Eu(N:List Pt)(l o:Pt):List Pt:=(N.filter λe=>!decide (e=l)) ++ [o]
theorem AEL(S:List NN)(l o:NN):Eu (S.map zz) (zz l) (zz o)=((S.filter λe=>e != l) ++ [o]).map zz:=by
 unfold Eu;simp only[List.filter_map,AGP]
 congr 2
 refine List.filter_congr λe _=>?_;show(!decide (zz e=zz l)) = !(e==l)
 congr 1
 rw[AHM,AF2,AHC];exact⟨Tb,λh=>by rw[h]⟩
section
variable{r:List Pt}{S:List NN}(C:Ad.Ct r.length S){a b p q:Nat}(Bf:(a,b)∈S)(pq:p<q)(qn:q<r.length)(hx:Ad.X (a,b) (p,q))(ht:∀t,Ad.JJ r.length S t a/\Ad.JJ r.length S t b↔t=p\/t=q)
include C Bf pq qn hx ht
theorem YM:∃T:List NN,CW (Eu (S.map zz) (zz (a,b))<|zz (p,q))=T.map zz/\(Eu (S.map zz) (zz (a,b))<|zz (p,q)).Nodup/\T.Perm ((p,q)::S.filter λe=>e != (a,b))/\(T.map zz).Pairwise (λp q=>IU p.1 p.2 q.1 q.2=true):=by
 rw[AEL];generalize v:(S.filter λe=>e != (a,b)) ++ [(p,q)]=Q;have z:Q.Perm ((p,q)::S.filter λe=>e != (a,b)):=by rw[<-v];exact List.perm_append_singleton _ _
 have nd:(Q.map zz).Nodup:=by unfold List.Nodup;rw[AHb];exact(z.symm.nodup ((C.turn Bf pq qn hx ht<|List.Perm.refl _).1).nd).imp λ{a b} k e=>k<|Tb e
 have e:((CW<|Q.map zz).map M5).map zz=CW (Q.map zz):=by
  rw[AGU];refine(AHk λx hx=>?_).trans (AJV _);obtain⟨y,_,rfl⟩:=AGe.mp<|(S4 nd).mem_iff.mp hx
  rfl
 refine⟨(CW<|Q.map zz).map M5,e.symm,nd,?_,by rw[e];exact kU nd⟩;have:=(S4 nd).map M5;rw[Ph]at this;exact this.trans z
theorem mP(h1:r.length<=60):UE [.lst<|AJ r,.lst<|AJ<|S.map zz,pv<|zz (a,b)]=some (.fr<|AJ<|CW<|Eu (S.map zz) (zz (a,b))<|zz (p,q)):=by
 obtain⟨T,_,nd,pT,_⟩:=YM C Bf pq qn hx ht;have hl:=C.ln;have z:(Eu (S.map zz) (zz (a,b))<|zz (p,q)).length<64:=by unfold Eu;simp only[AGA,AGh];have:=AGw (λe=>!decide (e=zz (a,b)))<|S.map zz;rw[AFs]at this;lia
 refine BV rfl ?_;unfold aC;have y:BC HL 1 [2] (Ac 0) (AU<|f2 CL (AE 0)<|AE 1) (AE 0) (A9 4 [.lst<|AJ r,.lst<|AJ<|S.map zz,pv<|zz (a,b)])=some (.fr<|AJ<|(S.map zz).filter λe=>!decide (e=zz (a,b))):=
  CS (DI rfl rfl) (by rw[Bs,AFs];lia) (D8 λe _=>⟨_,rfl,An<|AK rfl rfl<|gk _ _,λ_=>⟨_,rfl,rfl⟩⟩)
 rw[sq<|Ay y rfl];refine LP<|Xv (r:=.fr<|AJ<|Eu (S.map zz) (zz (a,b))<|zz (p,q)) (AK rfl (EA (AI (Ar rfl rfl<|Yl C U Bf pq qn ht) AQ) rfl) ?_) rfl z nd;unfold Eu;rw[show AJ (((S.map zz).filter λe=>!decide (e=zz (a,b))) ++ [zz (p,q)])=AJ ((S.map zz).filter λe=>!decide (e=zz (a,b))) ++ [pv<|zz (p,q)]by unfold AJ;rw[AGP];rfl];refine Iy rfl rfl ?_;rw[Bs,AGh];have:=AGw (λe=>!decide (e=zz (a,b)))<|S.map zz;rw[AFs]at this;lia
end
theorem iU{p q:Int}(z:p<q):∀(ns:List Int)(m:Int),(m=p\/m=q)->(∀x∈ns,x=p\/x=q)->(m=p\/p∈ns)->Dt m ns=p
 |[],m,_,_,h=>by
  rcases h with h|h
  .exact h
  .contradiction
 |n::ns,m,hm,hn,h=>by
  have y:=hn n AF3;have v:=λx Z=>hn x<|AFz _ Z;rw[AF4]at h;refine iU z ns _ (by split;exact y;exact hm) v ?_;split
  .rcases h with h|h|h
   .lia
   .exact .inl h.symm
   .exact .inr h
  .rcases h with h|h|h
   .exact .inl h
   .left;lia
   .exact .inr h
theorem iO{p q:Int}(z:p<q):∀(ns:List Int)(m:Int),(m=p\/m=q)->(∀x∈ns,x=p\/x=q)->(m=q\/q∈ns)->Ds m ns=q
 |[],m,_,_,h=>by
  rcases h with h|h
  .exact h
  .contradiction
 |n::ns,m,hm,hn,h=>by
  have y:=hn n AF3;have v:=λx Z=>hn x<|AFz _ Z;rw[AF4]at h;refine iO z ns _ (by split;exact y;exact hm) v ?_;split
  .rcases h with h|h|h
   .lia
   .exact .inl h.symm
   .exact .inr h
  .rcases h with h|h|h
   .exact .inl h
   .left;lia
   .exact .inr h
set_option tactic.hygienic true
noncomputable def l3(x:N3):List Int:=[(x.1:Int),(x.2.1:Int),(x.2.2:Int)]
def CU(a:Nat)(x:N3):Bool:=(l3 x).contains (a:Int)
theorem He{a:Nat}{x:N3}:CU a x=true↔Ad.hs x a:=by
 delta CU l3 Ad.hs
 simp only[AIN,AF4,AHF,AIS];lia
theorem Rj(neg:Bool)(a:Int)(zs:List Int):DL neg (.cl<|.int a) (.cl<|.tup<|zs.map PV.int)=cB (if neg=true then !zs.contains a else zs.contains a):=by
 have z:∀i:Int,PySem.SeqAt.shaped (Ah<|.int i)=true:=λi=>by simp[Ah,PySem.SeqAt.shaped,PySem.PyData.canLay0,PySem.PyData.depth]
 have e:inD (zs.map PV.int) (.int a)=zs.contains a:=by unfold inD;rw[AHM];simp[Ah,PySem.PyData.eqv]
 rw[<-e];exact AFu ⟨z a,by unfold Ms;simp[z]⟩
noncomputable def Hy(a b:Nat)(x:N3):Int:=((x.1:Int)+((x.2.1:Int)+((x.2.2:Int)+0)))-a-b
set_option tactic.hygienic false
section
variable{n:Nat}{S:List NN}(C:Ad.Ct n S){a b p q:Nat}(Bf:(a,b)∈S)(pq:p<q)(qn:q<n)(ht:∀t,Ad.JJ n S t a/\Ad.JJ n S t b↔t=p\/t=q)
include C
theorem SD{i j k:Nat}:(i,j,k)∈Gr n (S.map zz)↔i<j/\j<k/\k<n/\Ad.J n S i j/\Ad.J n S j k/\Ad.J n S i k:=by
 rw[xY,zT];constructor
 .rintro⟨z,y,h3,v,Z,Y⟩;exact⟨z,y,h3,(ML z U).mp v,(ML y h3).mp Z,(ML U h3).mp Y⟩
 .rintro⟨z,y,h3,v,Z,Y⟩;exact⟨z,y,h3,(ML z U).mpr v,(ML y h3).mpr Z,(ML U h3).mpr Y⟩
include Bf pq qn ht
theorem AD9(z:Int):z∈((Gr n<|S.map zz).filter λx=>CU a x&&CU b x).map (Hy a b)↔z=p\/z=q:=by
 have fa:=C.Ba _ Bf;have D:=C.lt _ Bf;dsimp only at fa D;have F:Ad.J n S a b:=.inr<|.inl Bf;rw[AGe];have I:∀t:Nat,t<n->(Ad.JJ n S t a/\Ad.JJ n S t b)->∃x∈(Gr n<|S.map zz).filter (λx=>CU a x&&CU b x),Hy a b x=(t):=(by
  rintro t tn ⟨O,v⟩;have R:∀x:N3,x∈Gr n (S.map zz)->(x.1=a\/x.2.1=a\/x.2.2=a)->(x.1=b\/x.2.1=b\/x.2.2=b)->Hy a b x=(t)->∃x∈(Gr n<|S.map zz).filter (λx=>CU a x&&CU b x),Hy a b x=(t):=λx Z ha y e=>⟨x,AGD.mpr ⟨Z,AJq.mpr ⟨He.mpr ha,He.mpr y⟩⟩,e⟩;rcases O with⟨B,P⟩|⟨B,P⟩
  .have Y:Ad.J n S t b:=by rcases v with z|z;exact z.2;lia
   exact R (t,a,b) ((SD C).mpr ⟨B,U,D,P,F,Y⟩) (.inr<|.inl rfl) (.inr<|.inr rfl) (by unfold Hy;dsimp only;lia)
  .rcases v with⟨G,Y⟩|⟨G,Y⟩
   .exact R (a,t,b) ((SD C).mpr ⟨B,G,D,P,Y,F⟩) (.inl rfl) (.inr<|.inr rfl) (by unfold Hy;dsimp only;lia)
   .exact R (a,b,t) ((SD C).mpr ⟨U,G,tn,F,Y,P⟩) (.inl rfl) (.inr<|.inl rfl) (by unfold Hy;dsimp only;lia))
 constructor
 .rintro⟨⟨i,j,k⟩,Z,rfl⟩;obtain⟨Z,hi⟩:=AGD.mp Z;obtain⟨O,v,h3,T,E,H⟩:=(SD C).mp Z;rw[AFw,He,He]at hi;unfold Ad.hs at hi;unfold Hy;dsimp only at hi ⊢;have fin:∀t:Nat,(Ad.JJ n S t a/\Ad.JJ n S t b)->((t:Int)=p\/(t:Int)=q):=λt h=>by
   rcases(ht t).mp h with e|e
   .exact .inl U
   .exact .inr U
  rcases hi with⟨ha|ha|ha,y|y|y⟩<;>try lia
  .subst ha y;rw[show((i:Int)+((j)+((k)+0)))-i-j=(k)by lia];exact fin k ⟨.inr ⟨U,H⟩,.inr ⟨v,E⟩⟩
  .subst ha y;rw[show((i:Int)+((j)+((k)+0)))-i-k=(j)by lia];exact fin j ⟨.inr ⟨O,T⟩,.inl ⟨v,E⟩⟩
  .subst ha y;rw[show((i:Int)+((j)+((k)+0)))-j-k=(i)by lia];exact fin i ⟨.inl ⟨O,T⟩,.inl ⟨U,H⟩⟩
 .intro h;have Q:=λt e=>by exact I t U<|(ht t).mpr e
  rcases h with rfl|rfl
  .exact Q p<|.inl rfl
  .exact Q q<|.inr rfl
end
def TJ(n:Nat)(N:List Pt)(i j:Nat):List Nat:=((List.range n).filter λt=>Cb n N t j&&Cb n N t i).filter λu=>decide ((j:Int)<(u:Int))
def LU(n:Nat)(N:List Pt)(i j:Nat)(b:List N3):List N3:=if Cb n N i j=true then b++(TJ n N i j).map (λu=>(i,j,u))else b
def LV(n:Nat)(N:List Pt)(i:Nat)(b:List N3)(t:Nat):List N3:=LU n N i (i+1+t) b
def KY(n:Nat)(N:List Pt)(b:List N3)(i:Nat):List N3:=(List.range<|n-(i+1)).foldl (LV n N i) b
def JN(n:Nat)(N:List Pt):List N3:=(List.range n).foldl (KY n N) []
def q3(n:Nat)(N:List Pt)(i j k:Nat):Prop:=Cb n N i j=true/\Cb n N k j=true/\Cb n N k i=true
theorem xZ{n:Nat}{N:List Pt}{i j k:Nat}:(i,j,k)∈JN n N↔i<j/\j<k/\k<n/\q3 n N i j k:=by
 have Y:∀(x t:Nat)(b:List N3),(i,j,k)∈LV n N x b t↔(i,j,k)∈b\/(i=x/\j=x+1+t/\j<k/\k<n/\q3 n N i j k):=λx t b=>by
  delta LV LU TJ q3
  have m:(i,j,k)∈((((List.range n).filter λt'=>Cb n N t' (x+1+t)&&Cb n N t' x).filter λu:Nat=>decide (((x+1+t:Nat):Int)<(u))).map λu:Nat=>(x,x+1+t,u))↔i=x/\j=x+1+t/\j<k/\k<n/\Cb n N k j=true/\Cb n N k i=true:=by
   rw[AGe];constructor
   .rintro⟨u,Z,e⟩;rw[AGD,AGD,AF1,AFw,AF2]at Z;obtain⟨y,Q⟩:=AHz e;obtain⟨q,h3⟩:=AHz Q;subst y q h3;exact⟨rfl,rfl,AFo,Z.1.1,Z.1.2⟩
   .rintro⟨rfl,rfl,y,q,h3⟩;exact⟨k,by rw[AGD,AGD,AF1,AFw];exact⟨⟨q,h3⟩,U⟩,rfl⟩
  split
  .rename_i h;rw[AGO,m];refine AJA ⟨?_,?_⟩
   .rintro⟨y,q,h3,v,p⟩;subst y q;exact⟨rfl,rfl,h3,v,h,p⟩
   .rintro⟨y,q,h3,v,_,p⟩;exact⟨y,q,h3,v,p⟩
  .rename_i h;refine⟨.inl,λz=>z.resolve_right ?_⟩;rintro⟨y,q,_,_,h3,_⟩;subst y q;exact h h3
 have O:∀(x:Nat)(b:List N3),(i,j,k)∈KY n N b x↔(i,j,k)∈b\/(i=x/\i<j/\j<k/\k<n/\q3 n N i j k):=λx b=>by unfold KY;rw[LM (g:=λt _=>i=x/\j=x+1+t/\j<k/\k<n/\q3 n N i j k) λb t _=>Y x t b];refine AJA ⟨λ⟨t,_,y,q,h3,v,p⟩=>⟨y,U,h3,v,p⟩,λ⟨y,q,h3,v,p⟩=>⟨j-(x+1),AF1.mpr (by subst y;lia),y,AFo,h3,v,p⟩⟩
 unfold JN;rw[LM (g:=λx _=>i=x/\i<j/\j<k/\k<n/\q3 n N i j k) λb x _=>O x b];refine⟨λh=>?_,λh=>.inr ⟨i,AF1.mpr U,rfl,h⟩⟩;rcases h with h|⟨x,_,_,h⟩
 .cases h
 .exact h
theorem iQ{n:Nat}{S:List NN}(C:Ad.Ct n S){i j k:Nat}:(i,j,k)∈JN n (S.map zz)↔Ad.T3 n S i j k:=by
 rw[xZ]
 delta Ad.T3 q3
 constructor
 .rintro⟨q,y,h3,v,p,Z⟩;rw[MJ C U U]at v p Z;exact⟨q,y,h3,by rcases v with z|z;exact z.2;lia,by rcases p with z|z;lia;exact z.2,by rcases Z with z|z;lia;exact z.2⟩
 .rintro⟨q,y,h3,v,p,Z⟩;rw[MJ C (Wu q y h3)<|F6 y h3,MJ C U<|F6 y h3,MJ C U<|Wu q y h3];exact⟨q,y,h3,.inl ⟨q,v⟩,.inr ⟨y,p⟩,.inr ⟨F6 q y,Z⟩⟩
def tR(n:Nat)(N:List Pt)(b:List N3)(x:List<|Option SV):AS:=iI (n:Int)::iL N::some (.own<|b.map e3)::x
noncomputable def tB:SF:=cO
theorem lD(n:Nat)(N:List Pt)(i j:Nat):(TJ n N i j).length<=n:=by refine AGZ (AGw _ _)<|AGZ (AGw _ _) ?_;rw[AGV];exact AF5 _
theorem ADw(n:Nat)(N:List Pt)(i j:Nat)(b:List N3):(LU n N i j b).length<=b.length+n:=by
 have:=lD n N i j;unfold LU;split
 .simp only[AGA,AFs];lia
 .lia
section
variable{n:Nat}{N:List Pt}(h0:0<n)(Bp:n<=8)
include h0 Bp
theorem ADY{b:List N3}(hb:b.length<=900)(i j:Nat)(z:Option SV):∃q,tB (tR n N b [iI i,iI j,z])=some (.nx<|tR n N (LU n N i j b) [iI i,iI j,q]):=by
 have y:AU cU (tR n N b [iI i,iI j,z])=some (Cb n N i j):=An<|Ar rfl rfl<|Ts N h0 i j
 delta tB LU
 cases h:Cb n N i j
 .rw[h]at y;exact⟨z,(BL y).trans rfl⟩
 .rw[h]at y;have v:b8 (tR n N b [iI i,iI j,z])=some (.fr (((List.range n).filter λt=>Cb n N t j&&Cb n N t i).map λt:Nat=>PV.int<|t)):=
   Ar (AI rfl<|AI rfl<|AI (Ee (ps:=[.int<|i,.int<|j]) rfl rfl) AQ) rfl (Yo N h0 U i j)
  have hl:=lD n N i j;have p:bW (tR n N b [iI i,iI j,iM<|.lst (((List.range n).filter λt=>Cb n N t j&&Cb n N t i).map λt:Nat=>PV.int<|t)])=some (.fr<|(TJ n N i j).map λu=>e3 (i,j,u)):=
   CS (DI rfl rfl) (by rw[AFs];exact AGZ (AGw _ _) (by rw[AGV];lia)) (D8 λu _=>⟨_,rfl,An<|AK rfl rfl<|FE _ _,λ_=>⟨_,Ee rfl rfl,rfl⟩⟩)
  refine⟨iM<|.lst (((List.range n).filter λt=>Cb n N t j&&Cb n N t i).map λt:Nat=>PV.int<|t),(Bg y).trans<|(sq<|Ay v rfl).trans<|(Mc rfl (AI p AQ) rfl<|AFu ?_).trans ?_⟩
  .rw[AFs,AFs];lia
  .rw[AFu rfl];unfold tR;rw[AGP,AGU]
   rfl
end
noncomputable def tQ:Nat->Nat
 |0=>0
 |m+1=>tQ m+(7-m)
theorem ky(m:Nat):tQ m<=28:=by
 by_cases h:m<7
 .exact(AFp:∀m,m<7->tQ m<=28) m h
 .have:∀k,tQ (7+k)=28:=λk=>by
   induction k with
   |zero=>rfl
   |succ k ih=>rw[<-AJs,tQ,ih];lia
  rw[show m=7+(m-7)by omega,this];lia
section
variable{n:Nat}{N:List Pt}(h0:0<n)(Bp:n<=8)
def tJ:SF:=B0 (DK<|AG (f2 A4 (AE 3)<|fC<|.int 1) B9) (Ac 4) tB
include h0 Bp
theorem ADg{b:List N3}{i:Nat}(hi:i<n)(hb:b.length<=8*tQ i)(p Z:Option SV):∃y z,tJ (tR n N b [iI i,p,Z])=some (.nx<|tR n N (KY n N b i) [iI i,y,z])/\(KY n N b i).length<=8*tQ (i+1):=by
 have q:=ky<|i+1;simp only[tQ]at q;unfold tJ;rw[B8<|N5 (i:=i+1) (AI (AK rfl rfl<|by rfl)<|AI rfl AQ) U U];obtain⟨ρ',e,⟨y,z,rfl⟩,Y⟩:=Hl (enc:=λt:Nat=>PV.int<|(i+1+t:Nat)) (gt:=Ac 4) (LV n N i) (λm v ρ=>(∃y z,ρ=tR n N v [iI i,y,z])/\v.length<=b.length+8*m) (xs:=List.range<|n-(i+1)) (n:=0) (b:=b) ⟨⟨p,Z,rfl⟩,U⟩ λt x Q v ρ ⟨⟨y,z,e⟩,Y⟩=>by obtain⟨rfl,hu⟩:=PR Q;subst e;obtain⟨z5,O⟩:=ADY h0 Bp (b:=v) AFm i (i+1+x) z;refine⟨_,_,rfl,O,⟨_,_,rfl⟩,?_⟩;have:=ADw n N i (i+1+x) v;unfold LV;lia
 rw[AGV]at Y;exact⟨y,z,e,by rw[tQ];unfold KY;grind⟩
theorem nC:UD [.int<|n,.lst<|AJ N]=some (.fr<|(JN n N).map e3)/\(JN n N).length<=224:=by
 obtain⟨ρ',e,⟨q,v,p,rfl⟩,z⟩:=Hl (gt:=Ac 3) (KY n N) (λm y ρ=>(∃q v p,ρ=tR n N y [q,v,p])/\y.length<=8*tQ m) (n:=0) (b:=[]) ⟨⟨none,none,none,rfl⟩,AFn⟩ λi x Z y ρ ⟨⟨y3,Y,Q,e⟩,z⟩=>by obtain⟨rfl,O⟩:=PR Z;subst e;rw[AIJ]at z ⊢;obtain⟨z4,z5,P,D⟩:=ADg h0 Bp O z Y Q;exact⟨_,_,rfl,P,⟨_,_,_,rfl⟩,D⟩
 have:=ky<|0+(List.range n).length;refine⟨BV rfl ?_,by unfold JN;lia⟩;unfold aA;rw[sq <|(set_own<|EA AQ rfl).trans rfl];exact(sq <|(B8 <|Di (AI rfl AQ) U).trans e).trans rfl
end
theorem Va{β:Type}{f:β->Nat->β}(I:Nat->β->Prop){b:β}:∀m:Nat,I 0 b->(∀t b,t<m->I t b->I (t+1) (f b t))->I m ((List.range m).foldl f b)
 |0,h,_=>h
 |m+1,h,k=>by rw[AHS,AIr];exact k m _ EU<|Va I m h λt b z=>k t b<|En z
def lx(x y:N3):Prop:=x.1<y.1\/(x.1=y.1/\(x.2.1<y.2.1\/(x.2.1=y.2.1/\x.2.2<y.2.2)))
theorem AEF(n:Nat)(N:List Pt):(JN n N).Pairwise lx:=by
 refine(Va (f:=KY n N) (λi b=>b.Pairwise lx/\∀x∈b,x.1<i) n ⟨.nil,λx m=>by cases m⟩ ?_).1;rintro i b _ ⟨q,z⟩;obtain⟨v,p⟩:=Va (f:=LV n N i) (λt b=>b.Pairwise lx/\∀x∈b,x.1<i\/(x.1=i/\x.2.1<i+1+t)) (n-(i+1)) ⟨q,λx m=>.inl<|z x m⟩ λt b _ ⟨q,z⟩=>by
  delta LV LU
  split
  .refine⟨AG1.mpr ⟨q,?_,λx m y Z=>?_⟩,λx m=>?_⟩
   .rw[AHb];exact((AJg.filter _).filter _).imp λ{a b} h=>by unfold lx;dsimp only;lia
   .obtain⟨u,_,rfl⟩:=AGe.mp Z;have:=z x m;unfold lx;lia
   .rcases AGO.mp m with m|m
    .have:=z x m;lia
    .obtain⟨u,_,rfl⟩:=AGe.mp m;dsimp only;lia
  .exact⟨q,λx m=>by have:=z x m;lia⟩
 exact⟨v,λx m=>by have:=p x m;lia⟩
set_option tactic.hygienic true
theorem AEE(n:Nat)(N:List Pt):(JN n N).Nodup:=(AEF n N).imp λh e=>by subst e;unfold lx at h;lia
theorem Qt{f:EF}{ρ:AS}{r:RV}{ps:List PV}(e:f ρ=some r)(h:r.clean=some (.lst ps)):CA true f ρ=some ps:=by unfold CA;rw[e];dsimp only;rw[AFu rfl,h]
theorem Wh{r:RV}{p:PV}{ps:List PV}(h:r.seq=some (p::ps)):Am r (.cl<|.int 0)=some (.cl p):=by
 unfold Am;rw[h];dsimp only
 delta CM Gh
 rw[AFu<|AGb _,AFu (by rw[AGC];lia)]
 rfl
def alone(L:List N3)(e:Nat):Prop:=∃z∈L,Ad.hs z e/\∀t∈L,Ad.hs t e->t=z
theorem i9{L:List N3}(nd:L.Nodup){u:Nat}:L.countP (CU u)=1↔alone L u:=by
 rw[List.countP_eq_length_filter];constructor
 .intro h;obtain⟨y,e⟩:=List.length_eq_one_iff.mp h;have m:∀t,t∈L/\Ad.hs t u↔t=y:=λt=>by rw[<-He,<-AGD,e,AGH]
  have:=(m y).mpr rfl;exact⟨y,this.1,this.2,λt a b=>(m t).mp ⟨a,b⟩⟩
 .rintro⟨y,m,h,un⟩;exact((AJI (nd.filter _)<|List.pairwise_singleton _ y).mpr λt=>by rw[AGD,AGH,He];exact⟨λz=>un t z.1 z.2,λe=>e ▸ ⟨m,h⟩⟩).length_eq
theorem ZS{u:Nat}:∀{L:List N3}{b:List Int},(∀t∈L,t.1<t.2.1/\t.2.1<t.2.2)->(L.foldl (λb x=>b++l3 x) b).countP (· == (u:Int))=b.countP (· == (u:Int))+L.countP (CU u)
 |[],_,_=>rfl
 |x::L,b,h=>by
  rw[AJb,ZS λt m=>h t<|AFz _ m,List.countP_append,AHm,AJs,Nat.add_comm<|L.countP _]
  congr 2
  have:=h x AF3
  delta CU l3
  simp only[AHm,List.countP_nil,AIN,AF4,AHF,AIS,AHC];split<;>split<;>split<;>split<;>lia
section
variable{n:Nat}{T:List NN}(D:Ad.Ct n T)
include D
theorem mV{L:List N3}(z:∀t∈L,Ad.Tr n T t)(nd:L.Nodup)(q:L≠[])(hl:L.length<=224):∃e:Nat,To [.lst<|L.map e3]=cI e/\alone L e:=by
 obtain⟨ρ',e,⟨y,rfl⟩,hz⟩:=Hl (enc:=e3) (gt:=Ac 2) (body:=Cr 1 MM DH) (λb x=>b++l3 x) (λm b ρ=>(∃y,ρ=[iM<|.lst<|L.map e3,some<|.own<|b.map PV.int,y])/\b.length<=3*m) (xs:=L) (n:=0) (b:=[]) ⟨⟨none,rfl⟩,AF5 _⟩ λi x R b ρ ⟨⟨y,e⟩,hb⟩=>by
  subst e;have hi:=(AFx.mp R).1;have hc:b.length+3<=1000:=U
  exact⟨_,_,rfl,Mc rfl (AI rfl AQ) rfl (AFu (by rw[AFs];exact hc)),⟨iM<|e3 x,by rw[AGP];rfl⟩,by rw[AGA];show b.length+3<=_;lia⟩
 have v:=λu=>ZS (u:=u) (b:=[]) λt m=>⟨(z t m).1,(z t m).2.1⟩;have Q:=λy=>LM (f:=λb x=>b++l3 x) (y:=y) (xs:=L) (b:=[]) λ_ _ _=>AGO;generalize L.foldl (λb x=>b++l3 x) []=W at e hz v Q;have O:BC HL 1 [1] (Ac 0) (AU<|f2 Bn (f2 Oa (AE 1)<|AE 0)<|fC<|.int 1) (AE 0) [iM<|.lst<|L.map e3,some<|.own<|W.map PV.int,y]=some (.fr ((W.filter λd=>((W.countP (· == d)):Int)==1).map PV.int)):=
  CS (DI rfl rfl) (by rw[AFs];lia) (D8 λd _=>⟨_,rfl,An (AK (AK rfl rfl (by show(match C1 (W.map PV.int),RV.cl (.int d)with|some ns,.cl (.int b)=>some (RV.cl (.int (ns.countP (· == b))))|_,_=>none)=_;rw[Ra])) rfl (LB _ _)),λ_=>⟨_,rfl,rfl⟩⟩)
 have p:∀d,d∈(W.filter λd=>((W.countP (· == d)):Int)==1)↔∃u:Nat,d=u/\alone L u:=λd=>by
  rw[AGD,Q,AHC];constructor
  .rintro⟨m,h⟩;rcases m with m|⟨x,mx,m⟩
   .contradiction
   .obtain⟨u,rfl⟩:∃u:Nat,d=u:=by unfold l3 at m;simp only[AF4,AHF,AIS]at m;rcases m with m|m|m<;>exact⟨_,m⟩
    rw[v]at h;exact⟨u,rfl,(i9 nd).mp (by rw[List.countP_nil]at h;lia)⟩
  .rintro⟨u,rfl,h⟩;rw[v,(i9 nd).mpr h];obtain⟨Z,Y,q,_⟩:=h;exact⟨.inr ⟨Z,Y,AIN.mp<|He.mpr q⟩,rfl⟩
 obtain⟨t,B⟩:=List.exists_mem_of_ne_nil _ q;obtain⟨Z,Y,P,G,S⟩:=Ad.rB D z B;have C:=(p P).mpr ⟨P,rfl,Z,Y,G,S⟩;generalize (W.filter λd=>((W.countP (· == d)):Int)==1)=F at O p C;cases F with
 |nil=>contradiction
 |cons d F=>
  obtain⟨u,rfl,h⟩:=(p d).mp AF3;refine⟨u,BV rfl ?_,h⟩;exact(sq<|(B8<|Qt rfl rfl).trans e).trans (Cg<|AK O rfl<|Wh rfl)
def La:List N3->List Nat->Prop
 |L,[]=>L=[]
 |L,e::es=>alone L e/\La (L.filter λt=>!CU e t) es
noncomputable def iN(e:Nat):PV:=.int (e:Int)
theorem cx{v0:Option SV}:∀(f:Nat)(L:List N3)(ps:List PV)(x:Option SV),(∀t∈L,Ad.Tr n T t)->L.Nodup->L.length<=224->L.length<f->ps.length+L.length<=300->∃es y,GC (Hz<|AE 2) U7 f [v0,some<|.own ps,iM<|.lst<|L.map e3,x]=some (.nx [v0,some<|.own<|ps++es.map iN,iM<|.lst [],y])/\La L es
 |0,_,_,_,_,_,_,h,_=>absurd h (Nat.not_lt_zero _)
 |f+1,[],ps,x,_,_,_,_,_=>⟨[],x,by rw[AH1,AH1,AGt];rfl,rfl⟩
 |f+1,t::L,ps,x,hL,nd,h2,h3,h4=>by
  obtain⟨e,v,z⟩:=mV D hL nd AFn h2;generalize p:t::L=M at *
  have Z:Hz (AE 2) [v0,some<|.own ps,iM<|.lst<|M.map e3,x]=some true:=by rw[<-p];rfl
  obtain⟨Y,Q,O,_⟩:=id z;have lt:(M.filter λt=>!CU e t).length<M.length:=List.length_filter_lt_length_iff_exists.mpr ⟨Y,Q,by rw[He.mpr O];decide⟩;obtain⟨es,y,q,P⟩:=cx f (M.filter λt=>!CU e t) (ps ++ [iN e]) (iM<|iN e) (λt m=>hL t (AGD.mp m).1) (nd.filter _) U U (by rw[AGA,AGh];lia);refine⟨e::es,y,?_,z,P⟩;unfold GC;rw[Z];dsimp only
  delta U7
  rw[sq<|Ay (Ar (AI rfl AQ) rfl v) rfl,sq<|Mc rfl (AI rfl AQ) rfl<|AFu U,Ay (CS (DI rfl rfl) (by rw[AFs];lia)<|D8 (c:=λt=>!CU e t) λt _=>⟨_,rfl,An<|AK rfl rfl<|Rj true e<|l3 t,λ_=>⟨_,rfl,rfl⟩⟩) rfl];rw[AII]at q;exact q
theorem mW{L:List N3}(z:∀t∈L,Ad.Tr n T t)(nd:L.Nodup)(q:L.length<=224):∃es,Tp [.lst<|L.map e3]=some (.fr<|es.map iN)/\La L es:=by obtain⟨es,y,v,p⟩:=cx D (v0:=iM<|.lst<|L.map e3) 1000 L [] none z nd q U (by rw[AHB];lia);refine⟨es,BV rfl ?_,p⟩;exact(sq v).trans rfl
end
structure Cut(r:List Pt)(S:List NN):Prop where
 c:Ad.Ct r.length S
 l:∀e∈S,DY r e.1 e.2=true
 u:(S.map zz).Pairwise λp q=>IU p.1 p.2 q.1 q.2=true
def QJ(r:List Pt)(S:List NN)(l:NN)(p q:Nat):Prop:=p<q/\q<r.length/\Ad.X l (p,q)/\∀t,Ad.JJ r.length S t l.1/\Ad.JJ r.length S t l.2↔t=p\/t=q
def Pw(r:List Pt)(S:List NN)(l:NN):Prop:=∃p q,QJ r S l p q/\DY r p q=true
section
variable{r:List Pt}{S T:List NN}(K:Cut r S)
include K
theorem Cut.line(h:Ci r=true):∀f∈S,AH.Line r f.1 f.2:=λf m=>(Om h (by have:=K.c.Ba f m;lia)<|K.c.lt f m).mp<|K.l f m
theorem Cut.turn{l:NN}(y:l∈S){p q:Nat}(t:QJ r S l p q)(Q:DY r p q=true):∃z,CW (Eu (S.map zz) (zz l)<|zz (p,q))=z.map zz/\Cut r z/\z.Perm ((p,q)::S.filter λf=>f != l):=by
 obtain⟨v,Z,h3,Y⟩:=t;obtain⟨z,e,_,hp,O⟩:=YM K.c y v Z h3 Y;refine⟨z,e,⟨(K.c.turn y v Z h3 Y hp).1,λf m=>?_,O⟩,hp⟩;rcases AF4.mp (hp.mem_iff.mp m)with rfl|m
 .exact Q
 .exact K.l f (AGD.mp m).1
open Classical in
theorem Yi(h:Ci r=true)(e:Nat):∃AFl:List NN,T8 [.lst<|AJ r,.lst<|zs S,.lst<|zs T,.int e]=some (.fr<|zs AFl)/\∀l,l∈AFl↔l∈S/\(l.1=e\/l.2=e)/\l∉T/\Pw r S l:=by
 obtain⟨h3,Bp,_⟩:=Ht h;have ln:=K.c.ln;have Z:∀S:List NN,zs S=S.map (pv∘zz):=λS=>AGU;refine⟨(S.filter λl=>[(l.1:Int),(l.2)].contains (e)&&!decide (zz l∈T.map zz)).filter λl=>decide (Pw r S l),BV rfl ?_,λl=>?_⟩
 .unfold Z3;have Y:BC HL 1 [3,2] (Ac 0) cH (AE 0) (A9 5 [.lst<|AJ r,.lst<|zs S,.lst<|zs T,.int e])=some (.fr<|(S.filter λl=>[(l.1:Int),(l.2)].contains (e)&&!decide (zz l∈T.map zz)).map<|pv∘zz):=
   CS ((DI rfl rfl).trans<|AG5 some<|Z S) (by rw[AFs];lia) (D8 λl _=>⟨_,rfl,HP (An<|AK rfl rfl<|Rj false e [(l.1),(l.2)]) λ_=>An<|AK rfl rfl<|Ri true (T.map zz)<|zz l,λ_=>⟨_,rfl,rfl⟩⟩)
  rw[sq<|Ay Y rfl];refine(LP<|CS (DI rfl rfl) (by rw[AFs];exact AGZ (AGw _ _) U)<|D8 λl Q=>?_).trans (by rw[Z]);have m:=(AGD.mp Q).1;obtain⟨p,q,t⟩:=K.c.TH m;refine⟨_,rfl,An<|Ar rfl rfl<|(mQ h K.c U m t.1 t.2.1 t.2.2.2).trans ?_,λ_=>⟨_,rfl,rfl⟩⟩;rw[show DY r p q=decide (Pw r S l)by
   rw[AHM,AF2];refine⟨λz=>⟨p,q,t,z⟩,λ⟨y,v,t',z⟩=>?_⟩;have h1:=(t.2.2.2 y).mp<|(t'.2.2.2 y).mpr<|.inl rfl;have h2:=(t.2.2.2 v).mp<|(t'.2.2.2 v).mpr<|.inr rfl;have:=t'.1
   rwa [show y=p by lia,show v=q by lia]at z]
 .have O:zz l∈T.map zz↔l∈T:=O4;simp only[AGD,AFw,AIN,AF4,AHF,AIS,AGd,AH8,AF2,and_assoc];rw[O];refine and_congr_right λ_=>and_congr ?_ Iff.rfl;lia
def Wk(r:List Pt)(T:List NN):List NN->List NN->List NN->Prop
 |S,[],S'=>S'=S
 |S,l::W,S'=>l∈S/\l∉T/\∃p q z,QJ r S l p q/\DY r p q=true/\CW (Eu (S.map zz) (zz l)<|zz (p,q))=z.map zz/\Cut r z/\Wk r T z W S'
end
theorem Wk.app{r:List Pt}{T:List NN}:∀{W S z V y:List NN},Wk r T S W z->Wk r T z V y->Wk r T S (W++V) y
 |[],_,_,_,_,a,b=>by cases a;exact b
 |_::_,_,_,_,_,⟨h1,h2,p,q,z,h3,h4,h5,h6,h7⟩,b=>⟨h1,h2,p,q,z,h3,h4,h5,h6,h7.app b⟩
theorem AEx(W V:List NN):zs (W++V)=zs W++zs V:=by delta zs AJ;rw[AGP,AGP]
noncomputable def yU:SF:=Qm
def yB:SF:=AM VG<|AM bu yU
def yR(r:List Pt)(S0 T W S:List NN)(x:List<|Option SV):AS:=iL r::iM (.lst<|zs S0)::iM (.lst<|zs T)::some (.own<|zs W)::iM (.lst<|zs S)::x
section
variable{r:List Pt}(h:Ci r=true){S0 T:List NN}(Q:Cut r T)
include h Q
theorem ly{L:List N3}(D:∀t∈L,Ad.Tr r.length T t){Y:N3}(F:Y∈L){e:Nat}(he:Ad.hs Y e)(un:∀t∈L,Ad.hs t e->t=Y):∀(f:Nat)(S W AFl:List NN),Cut r S->(∀t,Ad.Tr r.length T t->t∈L\/Ad.Dn r.length S t)->(∀l,l∈AFl↔l∈S/\(l.1=e\/l.2=e)/\l∉T/\Pw r S l)->S.countP (Ad.JV e)<f->W.length+S.countP (Ad.JV e)<1000->∃V z,GC (Hz<|AE 6) yB f (yR r S0 T W S [iI e,iM<|.lst<|zs AFl])=some (.nx<|yR r S0 T (W++V) z [iI e,iM<|.lst []])/\Wk r T S V z/\Cut r z/\(∀t,Ad.Tr r.length T t->t∈L\/Ad.Dn r.length z t)/\(∀l∈z,l.1=e\/l.2=e->l∈T)/\V.length<=S.countP (Ad.JV e)
 |0,_,_,_,_,_,_,hf,_=>absurd hf (Nat.not_lt_zero _)
 |f+1,S,W,[],K,inv,hU,_,_=>⟨[],S,by rw[AGt];rfl,rfl,K,inv,λl y O=>AG2 λZ=>(by obtain⟨I,n,h',x,p,q,a,b,c,d,ln⟩:=Ad.rD ((KP r).mp h).1 K.c Q.c (K.line h) (Q.line h) D inv F he un y O Z;cases (hU I).mpr ⟨n,h',x,p,q,⟨a,b,c,d⟩,(Om h a b).mpr ln⟩),AHR _⟩
 |f+1,S,W,l::AFl,K,inv,hU,hf,hW=>by
  obtain⟨y,O,Z,p,q,v,R⟩:=(hU l).mp AF3;obtain⟨B,G,P,hp⟩:=K.turn y v R;obtain⟨U1,eU,tw⟩:=Yi P h e;have hc:=Ad.AEN K.c.nd y O v.2.2.1 hp;obtain⟨V,z,C,hw,K',vq,al,Iq⟩:=ly D F he un f B (W ++ [l]) U1 P (λt E=>(inv t E).imp_right λd=>Ad.Dn.turn K.c y Z (λf=>by rw[hp.mem_iff,AF4,AGD,bne_iff_ne]) E d) tw U (by rw[AGA,AGh];lia);refine⟨l::V,z,?_,⟨y,Z,p,q,B,v,R,G,P,hw⟩,K',vq,al,by rw[AGC];lia⟩;have a1:VG (yR r S0 T W S [iI e,iM<|.lst<|zs (l::AFl)])=some (.nx<|yR r S0 T (W ++ [l]) S [iI e,iM<|.lst<|zs (l::AFl)]):=(Mc rfl (AI (AK rfl rfl<|Wh rfl) AQ) rfl<|AFu (by rw[NB];lia)).trans (by unfold yR;rw[AEx];rfl);have H:=mP K.c y v.1 v.2.1 v.2.2.1 v.2.2.2 (by have:=(Ht h).2.1;lia);rw[G]at H;unfold GC;rw[show Hz (AE 6) (yR r S0 T W S [iI e,iM<|.lst<|zs (l::AFl)])=some true from rfl];dsimp only;unfold yB;rw[sq a1,sq<|Ay (Ar (AI rfl<|AI rfl<|AI (AK rfl rfl<|Wh rfl) AQ) rfl H) rfl];unfold yU
  delta Qm
  rw[Ay (Ar rfl rfl eU) rfl];rw[AII]at C;exact C
theorem lr(P:r.length<=8):∀(es:List Nat)(L:List N3)(S W:List NN)(x y:Option SV),La L es->(∀t∈L,Ad.Tr r.length T t)->Cut r S->(∀t,Ad.Tr r.length T t->t∈L\/Ad.Dn r.length S t)->W.length+5*es.length<900->∃V q v Z,DN (Ac 5) (AM yU<|Kv (Hz<|AE 6) yB) (es.map iN) (yR r S0 T W S [x,y])=some (.nx<|yR r S0 T (W++V) q [v,Z])/\Wk r T S V q/\Cut r q/\(∀t,Ad.Tr r.length T t->Ad.Dn r.length q t)/\V.length<=5*es.length
 |[],L,S,W,x,y,hE,_,K,inv,_=>⟨[],S,x,y,by rw[AGt];rfl,rfl,K,λt Y=>(inv t Y).resolve_left (by rw[show L=[]from hE];exact AHF),AHR _⟩
 |e::es,L,S,W,x,y,⟨⟨t0,m0,h0,un⟩,hE⟩,hL,K,inv,hW=>by
  have ln:=K.c.ln;rw[AGC]at hW;have cl:=AJj (p:=Ad.JV e) (l:=S);obtain⟨AFl,D,F⟩:=Yi K h e;obtain⟨V,R,B,G,O,z,C,v1⟩:=ly h Q hL m0 h0 un 1000 S W AFl K inv F U U;have E:=Ad.rA O.c Q.c hL z m0 h0 un C;obtain⟨H,I,v,Z,n,b,f,a,v2⟩:=lr P es (L.filter λt=>!CU e t) R (W++V) (iI e) (iM<|.lst []) hE (λt m=>hL t (AGD.mp m).1) O (λt Y=>by
   rcases z t Y with m|m
   .cases c:CU e t
    .exact .inl<|AGD.mpr ⟨m,by rw[c];rfl⟩
    .rw[un t m<|He.mp c];exact .inr E
   .exact .inr m) (by rw[AGA];lia)
  refine⟨V++H,I,v,Z,?_,G.app b,f,a,by rw[AGA,AGC];lia⟩;rw[AF6,<-AII];unfold DN;rw[show Ac 5 (iN e) (yR r S0 T W S [x,y])=some (yR r S0 T W S [iI e,y])from rfl];dsimp only;rw[sq (ρ':=yR r S0 T W S [iI e,iM<|.lst<|zs AFl])<|Ay (Ar rfl rfl D) rfl];unfold Kv;rw[B];exact n
end
theorem La.nd:∀{es:List Nat}{L:List N3},La L es->es.Nodup/\∀e∈es,∃t∈L,Ad.hs t e
 |[],_,_=>⟨.nil,λ_ m=>nomatch m⟩
 |e::es,L,⟨⟨t0,m0,h0,_⟩,hE⟩=>by
  obtain⟨nd,q⟩:=hE.nd;refine⟨AHL.mpr ⟨λm=>?_,nd⟩,λu m=>?_⟩
  .obtain⟨t,z,y⟩:=q e m;have:=(AGD.mp z).2;rw[He.mpr y]at this;cases this
  .rcases AF4.mp m with rfl|m
   .exact⟨t0,m0,h0⟩
   .obtain⟨t,z,y⟩:=q u m;exact⟨t,(AGD.mp z).1,y⟩
theorem AEw{t:BF}{g h:YF}{ρ:AS}(e:t ρ=some true):Ka t g h ρ=g ρ:=by unfold Ka;rw[e]
theorem AEv{t:BF}{g h:YF}{ρ:AS}(e:t ρ=some false):Ka t g h ρ=h ρ:=by unfold Ka;rw[e]
section
variable{F:List PV->Option RV}{XF:List PV->Option PySem.Str}{ga:AF}{ρ:AS}{rs:List RV}{ps:List PV}
theorem mH{nm:PySem.Str}(ea:ga ρ=some rs)(z:CZ rs=some ps)(h:F ps=none/\XF ps=some nm):IC F XF ga ρ=some (.ex nm):=by unfold IC;rw[ea];dsimp only;rw[z];dsimp only;rw[h.1,h.2]
theorem AEu{r:RV}(ea:ga ρ=some rs)(z:CZ rs=some ps)(h:F ps=some r):IC F XF ga ρ=some (.o<|.nx ρ):=by unfold IC;rw[ea];dsimp only;rw[z];dsimp only;rw[h]
end
theorem qD{N n:Nat}{g:YF}{ps:List PV}{ρ:AS}(z:ps.length=n)(e:g (A9 N ps)=some (.o<|.nx ρ)):Fz N n g ps=some (.cl .Au):=by
 unfold Fz;rw[AFu z,e]
 rfl
theorem de(r:List Pt):AU (f2 B3 Ca<|fC<|.int 8) (A9 1 [.lst<|AJ r])=some (decide ((8:Int)<r.length)):=An<|AK (BW (AI rfl AQ)<|by rw[Fh,Bs]) rfl<|FE _ _
theorem rh{r:List Pt}(h8:8<r.length):Py [.lst<|AJ r]=none/\US [.lst<|AJ r]=some "TooMany":=Zf rfl<|(AEw<|(de r).trans<|by rw[AG4 U]).trans rfl
theorem rk{r:List Pt}(h8:r.length<=8):Py [.lst<|AJ r]=some (.cl .Au):=qD rfl<|(AEv<|(de r).trans<|by rw[AGq U]).trans rfl
section
variable{r:List Pt}(h:Ci r=true)
include h
theorem Cut.ok{S:List NN}(K:Cut r S){i:Nat}{ρ:AS}(e:AE 0 ρ=some (.cl<|.lst<|AJ r))(q:AE i ρ=some (.cl<|.lst<|zs S)):F3 (AY Lc<|AG (AE 0)<|AG (AE i) AN) ρ=some (.nx ρ):=by
 obtain⟨h3,Bp,_⟩:=Ht h;have y:(S.map zz).length=S.length:=AFs _;have ln:=K.c.ln;have hc:P1 [.lst<|AJ r,.lst<|zs S]=cB true:=mU h U U (AHE.mpr λk z=>by
  have z:=AF1.mp z;unfold ltB;rw[show(k:Int)+1=((k+1:Nat))by lia,Jb (show k<_ by clear y;omega),Jb (show k+1<_ by clear y;omega)];exact AG0.mp K.u k (k+1) U U EU) (λe he=>by
  obtain⟨f,m,rfl⟩:=AGe.mp he;rw[Yf h,g4 h];exact AG5 _<|K.l f m) (AHE.mpr λk z=>by
  have z:=AF1.mp z;rw[AGd,AHj];intro e he;obtain⟨f,v,rfl⟩:=AGe.mp<|AI7 he;obtain⟨g,p,Z⟩:=AGe.mp (show AA (S.map zz) k∈S.map zz by rw[Jb z];exact AIQ z);rw[<-Z,AEn<|K.c.nx g p f v];exact AHO)
 exact cf<|Ar (AI e<|AI q AQ) rfl<|aE rfl<|(BL<|E7<|An<|Ar rfl rfl hc).trans rfl
variable{S T:List NN}(K:Cut r S)(Q:Cut r T)
include K Q
theorem lu(g:YF):Dz (yL<|F3<|AY Pz B9) (Dz (yL<|F3<|AY Lc Jd)<|Dz (yL<|F3<|AY Lc<|AG (AE 0) DH) g) (A9 7 [.lst<|AJ r,.lst<|zs S,.lst<|zs T])=g (A9 7 [.lst<|AJ r,.lst<|zs S,.lst<|zs T]):=by rw[JP<|NA<|cf<|Ar (AI rfl AQ) rfl<|mR h,JP<|NA<|K.ok h rfl rfl,JP<|NA<|Q.ok h rfl rfl]
theorem nF(z:8<r.length):Lf [.lst<|AJ r,.lst<|zs S,.lst<|zs T]=none/\QK [.lst<|AJ r,.lst<|zs S,.lst<|zs T]=some "TooMany":=by refine Zf rfl ?_;unfold Qc;rw[lu h K Q];unfold Dz;rw[mH rfl rfl<|rh z]
theorem nE(z:r.length<=8):∃W,Lf [.lst<|AJ r,.lst<|zs S,.lst<|zs T]=some (.fr<|zs W)/\Wk r T S W T/\W.length<=60:=by
 obtain⟨h3,_,_⟩:=Ht h;obtain⟨O,P⟩:=nC (U:0<r.length) z;have q:∀t∈JN r.length (T.map zz),Ad.Tr r.length T t:=λt m=>(iQ Q.c).mp m;obtain⟨es,D,Z⟩:=mW Q.c q (AEE _ _) P;have le:es.length<=r.length:=by
  obtain⟨nd,F⟩:=Z.nd;refine Nat.le_of_not_lt λc=>?_;have:=(Ad.Xa nd (λe m=>by obtain⟨t,R,p⟩:=F e m;exact AF1.mpr ((q t R).off p).1) (by rw[AGV];lia)).length_eq
  rw[AGV]at this;lia
 obtain⟨V,B,x,y,G,C,Y,d,hv⟩:=lr h Q (S0:=S) z es _ S [] none none Z q K (λt p=>.inl<|(iQ Q.c).mpr p) (by rw[AHB];lia);have E:=by
  have:=List.Perm.eq_of_pairwise (λa b _ _ u v=>by unfold IU at u v;rw[AF2]at u v;exact AGy U U) Y.u Q.u ((Ad.AC0 Y.c Q.c d).symm.map zz)
  exact(Ph B).symm.trans ((AG5 (List.map M5) this).trans<|Ph T)
 subst E;refine⟨V,Zg rfl ?_,C,U⟩;unfold Qc;rw[lu h K Q,JP<|AEu rfl rfl<|rk z,JP<|NA<|set_own<|EA AQ rfl,JP<|NA<|Ay (BW (AI rfl AQ) rfl) rfl];refine(JP<|NA<|(B8<|Qt (Ar (AI (Ar (AI (BW (AI rfl AQ)<|by rw[Fh,Bs])<|AI rfl AQ) rfl O) AQ) rfl D) rfl).trans G).trans rfl
end
theorem dC{F:List PV->Option RV}{g:AF}{ρ:AS}{rs:List RV}{z:RV}(e:g ρ=some rs)(h:F (rs.map RV.any)=some z)(f:z.flat=true):Kn (Dj F) g ρ=some z:=by
 delta Kn Dj
 rw[e];dsimp only;rw[h];exact AFu f
theorem VX{α:Type}{f:α->PV}(h:∀x,(f x).flat=true):∀L:List α,PV.Jo (L.map f)=true
 |[]=>rfl
 |x::L=>by
  show((f x).flat&&PV.Jo (L.map f))=true;rw[h,VX h L]
  rfl
theorem nB(N:List Pt):P7 [.lst<|AJ N]=cB true:=by
 refine BV rfl ?_;have H:=Hk (gt:=Ac 1) (body:=aN) (c:=λ_=>false) (r:=.cl<|.bl false) (λρ=>∃x,ρ=[iL N,x]) (xs:=N) ⟨none,rfl⟩ (by
  rintro e he ρ ⟨x,rfl⟩;refine⟨_,rfl,λh=>(nomatch h),λ_=>⟨_,(BL (?_)).trans rfl,_,rfl⟩⟩;exact F0 (E7 (a:=true)<|An rfl) λ_=>F0 (a:=false) (An<|AK rfl rfl<|LF 2 2) λ_=>
   F0 (E7 (a:=true)<|An<|Ar (AI (AK rfl rfl<|DM e) AQ) rfl rfl) λ_=>E7 (a:=true)<|An<|Ar (AI (AK rfl rfl<|DX e) AQ) rfl rfl)
 obtain⟨ρ',e,x,rfl⟩:=H.2 AFn;exact(sq<|(B8<|Qt rfl rfl).trans e).trans rfl
theorem AER{p q:Int}(y:p<q){Z:List Int}(hz:∀z,z∈Z↔z=p\/z=q):Oc [.cl<|.lst<|Z.map PV.int]=cI p/\Ob [.cl<|.lst<|Z.map PV.int]=cI q:=by
 have v:=(hz p).mpr<|.inl rfl;have Y:=(hz q).mpr<|.inr rfl;cases Z with
 |nil=>contradiction
 |cons m ns=>
  have hm:=(hz m).mp AF3;have hn:=λx Q=>(hz x).mp<|AFz _ Q;rw[AF4]at v Y;constructor
  .show(match C1 ((m::ns).map PV.int)with|some (m::ns)=>some (RV.cl<|.int<|Dt m ns)|_=>none)=_;rw[Ra];dsimp only;rw[iU y ns m hm hn<|v.imp_left Eq.symm]
  .show(match C1 ((m::ns).map PV.int)with|some (m::ns)=>some (RV.cl<|.int<|Ds m ns)|_=>none)=_;rw[Ra];dsimp only;rw[iO y ns m hm hn<|Y.imp_left Eq.symm]
noncomputable def vB:SF:=Ux
section
variable{r:List Pt}(h:Ci r=true){a b:Option SV}
def vR(r:List Pt)(a b:Option SV)(S:List NN)(x:List<|Option SV):AS:=iL r::a::b::some (.own<|zs S)::x
include h
theorem AEX{S O:List NN}(K:Cut r S){l:NN}(y:l∈S){p q:Nat}(t:QJ r S l p q)(T:DY r p q=true)(C:CW (Eu (S.map zz) (zz l)<|zz (p,q))=O.map zz)(v z:Option SV):∃E H,vB (vR r a b S [iM<|pv<|zz l,v,z])=some (.nx<|vR r a b O [iM<|pv<|zz l,E,H]):=by
 obtain⟨h3,P,I⟩:=Ht h;have ln:=K.c.ln;obtain⟨t1,t2,t3,D⟩:=t;obtain⟨F,n⟩:=mf P;have hz:=AD9 K.c y t1 t2 D;obtain⟨_,_,nd,_⟩:=YM K.c y t1 t2 t3 D;have fl:((S.map zz).filter λe=>!decide (e=zz l)).length<=12:=AGZ (AGw _ _) (by rw[AFs];lia);generalize Gr r.length (S.map zz)=L at F n hz;have R:aV (vR r a b S [iM<|pv<|zz l,v,z])=some (.fr<|(L.filter λx=>CU l.1 x&&CU l.2 x).map e3):=
  CS (DI (dC rfl F<|VX (λ_=>rfl) L) rfl) (by rw[AFs];lia) (D8 λx _=>⟨_,rfl,HP (An<|AK (AK rfl rfl<|DM<|zz l) rfl<|Rj false l.1<|l3 x) λ_=>An<|AK (AK rfl rfl<|DX<|zz l) rfl<|Rj false l.2<|l3 x,λ_=>⟨_,rfl,rfl⟩⟩)
 have Y:bC (vR r a b S [iM<|pv<|zz l,iM<|.lst<|(L.filter λx=>CU l.1 x&&CU l.2 x).map e3,z])=some (.fr<|(((L.filter λx=>CU l.1 x&&CU l.2 x).map<|Hy l.1 l.2)).map PV.int):=by rw[AGU];exact CS (DI rfl rfl) (by rw[AFs];exact AGZ (AGw _ _) U)<|GL λx _=>⟨_,_,rfl,AK (AK (BW (AI rfl AQ) rfl) (AK rfl rfl<|DM<|zz l)<|DB _ _) (AK rfl rfl<|DX<|zz l)<|DB _ _,rfl⟩
 generalize (L.filter λx=>CU l.1 x&&CU l.2 x)=M at R Y hz;obtain⟨mn,Q⟩:=AER U hz;generalize M.map (Hy l.1 l.2)=Z at Y mn Q;refine⟨iM<|.lst<|M.map e3,iM<|.lst<|Z.map PV.int,?_⟩;unfold vB;have B:AU (f2 (DL true) (AE 4)<|AE 3) (vR r a b S [iM<|pv<|zz l,v,z])=some (if true=true then !decide (zz l∈S.map zz)else decide (zz l∈S.map zz)):=An<|AK rfl rfl<|Ri true (S.map zz)<|zz l;rw[AG4<|List.mem_map_of_mem y]at B
 delta Ux
 rw[sq<|(BL B).trans rfl,sq<|Ay R rfl];refine(sq<|Ay Y rfl).trans ?_;have G:=E7<|An<|Ar (g:=cG) (ρ:=vR r a b S [iM<|pv<|zz l,iM<|.lst<|M.map e3,iM<|.lst<|Z.map PV.int]) (AI rfl<|AI (BW (AI rfl AQ) mn)<|AI (BW (AI rfl AQ) Q) AQ) rfl<|Yg h3 P I p q;rw[T]at G;refine(sq<|(BL G).trans rfl).trans ?_;refine(set_own<|Xv (r:=.fr<|AJ<|Eu (S.map zz) (zz l)<|zz (p,q)) (AK (CS (DI rfl rfl) (by rw[AFs,AFs];lia)<|D8 λe _=>⟨_,rfl,An<|AK rfl rfl<|gk _ _,λ_=>⟨_,rfl,rfl⟩⟩) (EA (AI (Ee (AI (BW (AI rfl AQ) mn)<|AI (BW (AI rfl AQ) Q) AQ) rfl) AQ) rfl) ?_) rfl ?_ nd).trans ?_
 .unfold Eu;rw[show AJ (((S.map zz).filter λe=>!decide (e=zz l)) ++ [zz (p,q)])=AJ ((S.map zz).filter λe=>!decide (e=zz l)) ++ [pv<|zz (p,q)]by unfold AJ;rw[AGP];rfl];exact Iy rfl rfl (by rw[Bs,AGh];lia)
 .unfold Eu;rw[AGA,AGh];lia
 .rw[C]
  rfl
theorem lZ{T V:List NN}:∀(W S:List NN)(v z y:Option SV),Cut r S->Wk r T S W V->∃Q Z Y,DN (Ac 4) vB (zs W) (vR r a b S [v,z,y])=some (.nx<|vR r a b V [Q,Z,Y])
 |[],S,v,z,y,_,e=>⟨v,z,y,by cases e;rfl⟩
 |l::W,S,v,z,y,K,⟨ml,_,p,q,S1,t,lw,e1,K1,hw⟩=>by obtain⟨Z,Y,O⟩:=AEX h K ml t lw e1 z y;obtain⟨P,D,F,e3⟩:=lZ W S1 (iM<|pv<|zz l) Z Y K1 hw;refine⟨P,D,F,?_⟩;show DN (Ac 4) vB (pv (zz l)::zs W) _=_;unfold DN;rw[show Ac 4 (pv<|zz l) (vR r a b S [v,z,y])=some (vR r a b S [iM<|pv<|zz l,z,y])from rfl];dsimp only;rw[O];exact e3
theorem nD{S T V W:List NN}(K:Cut r S)(y:Wk r T S W V)(hl:W.length<=60):T5 [.lst<|AJ r,.lst<|zs S,.lst<|zs W]=some (.fr<|zs V):=by refine BV rfl ?_;unfold Z2;have z:DJ (Cz<|AU<|AY P7 DH) (AU<|f2 B3 Je<|fC<|.int 60) (A9 7 [.lst<|AJ r,.lst<|zs S,.lst<|zs W])=some (!true||decide ((60:Int)<W.length)):=F0 (E7<|An<|Ar (AI rfl AQ) rfl<|nB _) λ_=>An (AK (BW (AI rfl AQ)<|by rw[Fh,NB]) rfl<|FE _ _);rw[AGq U]at z;obtain⟨y4,y5,y6,e⟩:=lZ h (a:=iM<|.lst<|zs S) (b:=iM<|.lst<|zs W) W S none none none K y;rw[sq<|(BL z).trans rfl];exact(sq<|(B8<|Qt rfl rfl).trans e).trans rfl
end
theorem c9:∀N M:List Pt,PySem.PyData.eqvAll (Bk<|AJ N) (Bk<|AJ M)=decide (N=M)
 |[],[]=>by simp[AJ,Bk,PySem.PyData.eqvAll]
 |[],_::_=>by simp[AJ,Bk,PySem.PyData.eqvAll]
 |_::_,[]=>by simp[AJ,Bk,PySem.PyData.eqvAll]
 |a::N,b::M=>by
  have e:∀(p:Pt) r,Bk (AJ (p::r))=Ah (pv p)::Bk (AJ r):=λp r=>by unfold AJ;rw[AF6,Bk]
  rw[e,e];simp only[PySem.PyData.eqvAll,c9 N M,N2];simp
theorem wN(S T:List NN):Bn (.cl<|.lst<|zs S) (.cl<|.lst<|zs T)=cB (decide (S.map zz=T.map zz)):=gf (Sx _).1 (Sx _).1<|c9 _ _
theorem AEA(r N M:List Pt):PySem.SeqAt.shaped (Ah<|.lst [.lst<|AJ r,.lst<|AJ N,.lst<|AJ M])=true/\PySem.PyData.eqv (Ah<|.lst [.lst<|AJ r,.lst<|AJ N,.lst<|AJ M]) (Ah<|.lst [.lst<|AJ r,.lst<|AJ N,.lst<|AJ M])=true:=by
 have h:=Oh r;have h':=Oh N;have h2:=Oh M;constructor
 .dsimp only[PySem.SeqAt.shaped,Ah,Bk,PySem.PyData.canLay0,PySem.PyData.canLayAll0,PySem.PyData.depth,PySem.PyData.depthAll];lia
 .simp only[Ah,Bk,PySem.PyData.eqv,PySem.PyData.eqvAll,VP,Bool.and_self]
theorem Wi{x y:RV}{p:PV}(z:x.any=p)(q:y.any=p)(h:PySem.SeqAt.shaped (Ah p)=true/\PySem.PyData.eqv (Ah p) (Ah p)=true):CL x y=cB false:=by unfold CL;rw[z,q];exact(AFu ⟨h.1,h.1⟩).trans (AG5 (λb=>some<|RV.cl<|PV.bl (!b)) h.2)
theorem xc{a b c:PV}(h:Lf [a,b,c]=none/\QK [a,b,c]=some "TooMany"):Tw [a,b,c]=cI 4:=by
 refine Zg rfl ?_;unfold Ut;rw[JP rfl,JP (ρ':=[none,none,none,iI 4,none])]
 .rfl
 .unfold Pj;rw[mH rfl rfl h]
  rfl
def lR(s:List Int)(r:List Pt)(S T:List NN)(z:List<|Option SV):AS:=iM (.rd<|Av s)::iL r::iM (.lst<|zs S)::iM (.lst<|zs T)::z
set_option tactic.hygienic false
theorem ma(s:List Int):P2 [.rd<|Av s]=cB true:=by
 obtain⟨O,_⟩:=Yn s 0 8 AFo AFo AFo;obtain⟨P,_⟩:=Yn s 0 12 AFo AFo AFo;have D:=cX s 0 (most:=8) AFo AFo;have y:=cX s 0 (most:=12) AFo AFo;have Z:∀(k:Int)(ρ:AS),0<=k->AE 0 ρ=some (.cl<|.rd<|Av s)->AU (f2 Bn (f2 BU (AY EK<|AG (AE 0)<|AG (fC<|.int k) AN)<|fC<|.int 8)<|fC<|.int 1) ρ=some (Ab s k%8==1):=λk ρ F e=>An<|AK (AK (Ar (AI e<|AI rfl AQ) rfl<|Ti s k F) rfl<|FF U) rfl<|LB _ _;refine BV rfl ?_;unfold Zp;rw[sq<|Ay (Ar (AI rfl<|AI rfl<|AI rfl AQ) rfl O) rfl];obtain⟨r,z,R⟩:∃r,Ci r=true/\Az (AU bg) cJ A7 [iM<|.rd<|Av s,iL<|drawn s 0 8,none,none,none,none,none]=some (.nx [iM<|.rd<|Av s,iL r,none,none,none,none,none]):=by
  have e:=Z 60 [iM<|.rd<|Av s,iL<|drawn s 0 8,none,none,none,none,none] U rfl;cases c:(Ab s 60%8==1)<;>rw[c]at e
  .exact⟨_,D,(BL e).trans rfl⟩
  .exact⟨_,y,(Bg e).trans<|Ay (Ar (AI rfl<|AI rfl<|AI rfl AQ) rfl P) rfl⟩
 obtain⟨S,B,G,C,E⟩:=Yd s 20 z;have K:Cut r S:=⟨G,C,E⟩;obtain⟨Y,I,n,t,b⟩:=Yd s 34 z;refine(sq R).trans ?_;rw[sq<|Ay (Ar rfl rfl B) rfl,sq<|Ay (Ar rfl rfl I) rfl];obtain⟨T,Q,f⟩:∃T,Cut r T/\Az (AU bj) (Aa 3<|fB Gi DH) A7 (lR s r S Y [none,none,none])=some (.nx<|lR s r S T [none,none,none]):=by
  have e:=Z 61 (lR s r S Y [none,none,none]) U rfl;cases c:(Ab s 61%8==1)<;>rw[c]at e
  .exact⟨_,⟨n,t,b⟩,(BL e).trans rfl⟩
  .exact⟨_,K,(Bg e).trans<|Ay (BW (AI rfl AQ) rfl) rfl⟩
 refine(sq f).trans ?_;have e3:AU (f2 B3 Ia<|fC<|.int 8) (lR s r S T [none,none,none])=some (decide ((8:Int)<r.length)):=An (AK (BW (AI rfl AQ)<|by rw[Fh,Bs]) rfl<|FE _ _);by_cases x:r.length<=8
 .rw[AGq U]at e3;rw[sq<|(BL e3).trans rfl];obtain⟨W,eW,q,lW⟩:=nE z K Q x;have ew:=nD z K q lW;have H:=Hk (gt:=Ac 5) (body:=U9) (c:=λ_=>false) (r:=.cl<|.bl false)
   (λρ=>∃v p,ρ=lR s r S T [iM<|.lst [.lst<|AJ r,.lst<|zs S,.lst<|zs T],v,p]) (xs:=List.range 2) (ρ:=lR s r S T [iM<|.lst [.lst<|AJ r,.lst<|zs S,.lst<|zs T],none,none]) ⟨_,_,rfl⟩ (by
   rintro k _ ρ ⟨v,p,rfl⟩;refine⟨_,rfl,λh=>(nomatch h),λ_=>⟨lR s r S T [iM<|.lst [.lst<|AJ r,.lst<|zs S,.lst<|zs T],iI k,some<|.own<|zs W ++ [.tup [.int 0,.int 0]]],?_,_,_,rfl⟩⟩
   delta U9
   rw[sq (ρ':=lR s r S T [iM<|.lst [.lst<|AJ r,.lst<|zs S,.lst<|zs T],iI k,some<|.own<|zs W])<|set_own<|Ar (AI (AK rfl rfl rfl)<|AI (AK rfl rfl rfl)<|AI (AK rfl rfl rfl) AQ) rfl eW];have t1:av (lR s r S T [iM<|.lst [.lst<|AJ r,.lst<|zs S,.lst<|zs T],iI k,some<|.own<|zs W])=some false:=
    F0 (a:=false) (An<|AK (dC rfl ew<|VX (λ_=>rfl) _) rfl<|Wi rfl rfl<|Sx _) λ_=>An<|AK rfl (EA rfl rfl)<|Wi rfl rfl<|AEA _ _ _
   rw[sq<|(BL t1).trans rfl];have t2:cT (lR s r S T [iM<|.lst [.lst<|AJ r,.lst<|zs S,.lst<|zs T],iI k,some<|.own<|zs W])=some (decide (S.map zz=T.map zz)&&false):=HP (An<|AK rfl rfl<|wN S T) λc=>by
    have e:=(Ph S).symm.trans<|(AG5 (List.map M5)<|of_decide_eq_true c).trans<|Ph T;cases W with
    |nil=>exact An<|AK rfl (EA AQ rfl)<|Wi rfl rfl<|Sx []
    |cons l W=>exact absurd (e ▸ q.1) q.2.1
   rw[AI9]at t2;rw[sq<|(BL t2).trans rfl];exact(Mc rfl (AI (Ee rfl rfl) AQ) rfl<|AFu (by rw[NB];lia)).trans rfl)
  obtain⟨ρ',e,v,p,rfl⟩:=H.2 AFn;exact(sq<|(B8<|Di rfl AFo).trans e).trans rfl
 .rw[AG4 U]at e3;refine(DP<|(Bg e3).trans<|Cg<|AK (Ar rfl rfl<|xc<|nF z K Q U) rfl<|LB 4 4).trans rfl
end L2.EV
namespace L2.K
open PySem L2.PL
theorem nI(ns:List Int)(_:ns.length<=63):P2 [.rd<|ns.map PV.int]=some (.cl<|.bl true):=L2.EV.ma ns
open PySem PySem.Spec PyProof.Rows L2.PL
set_option maxHeartbeats 0
seal AU f2 DV Dh fB fC AY Kn E8 Fb BC AG Ko VV Ij Ik Il Qx CA Kp Bj L3 AN GS Kq Cz Ef DJ F1 GU C0 DK F2 Bh A5 AE Dj L6 F3 B0 Az Cr Q5 A7 Jr Ku A0 Q6 Js AM Q7 Aa C8 N9 Ac HS Kv Hz IC Ka yL YW Dz Pj Hi A4 Fg J5 Dm Rh Oa DW Bn MM B3 BS DL Rk Am Cs Dp Gi Cc F5 Ob Hj Oc BU Dq CL MO J6 BK Od Ro dR BD IH QG PX DT IL CY CQ D5 IK Lh JU Li Lj
noncomputable def top (i : Nat) : Stmt := PySem.Challenge.pw_threewards_k12_whole_led_into_one_anothe.main.body.getD i (.Pass ⟨0,0,0,0⟩)
def ND:List Prop->Prop
 |[]=>True
 |p::l=>p/\ND l
theorem YX:∀{L:List Prop}{k:Nat}{p:Prop},ND L->L[k]? = some p->p
 |[],_,_,_,e=>by simp at e
 |_::_,0,_,h,e=>by cases e;exact h.1
 |_::_,_+1,_,h,e=>YX h.2 e
theorem qm{L:List Prop}{k:Nat}{p:Prop}(h:L[k]? = some p)(x:p)(f:p->ND (L.drop<|k+1)):ND<|L.drop k:=by obtain⟨z,e⟩:=AFx.mp h;rw[AHv z,e];exact⟨x,f x⟩
def Nq(K:W.Frag):List (Str×Nat)->Prop
 |[]=>True
 |(x,i)::l=>dR K x (top i)/\Nq K l
theorem dcs{K:W.Frag}{x:Str}{i:Nat}{l:List (Str×Nat)}(h:dR K x<|top i)(t:Nq K l):Nq K ((x,i)::l):=⟨h,t⟩
theorem dnl{K:W.Frag}:Nq K []:=trivial
theorem Cm{X:Cx}{N ps:List Str}{st:Stmt}{scope:Scope}{Nb:List Str}{own:Nat}{cap:List Nat}(_:FS N ps st)(z:X.env.scope=BR st)(y:X.N=N)(h:(Ui (BR st).names N scope Nb own cap&&(Nb.take own).all λx=>scope.names.lookup x==some .local||scope.names.lookup x==some .cell)=true):HA X scope Nb own cap:=oy (by rw[z,y];exact(AJq.mp h).1)
theorem AC7:FS ["script","room","one","other","handed","lap","found"] ["script"]<|top 71:=PY AFq ⟨[_],rfl,rfl⟩
def S3(K:W.Frag):Sp:=λvs H Q _=>∃(a:Addr)(ns:List Int),vs=[.ref a]/\CF K H a (ns.map V.int)/\ns.length<=63/\∀H',Q (.bl true) H'
set_option tactic.hygienic false
theorem PQ{K:W.Frag}{H:Hp}:∀ns:List Int,AW K H (ns.map PV.int) (ns.map V.int)
 |[]=>by simp[AW]
 |n::ns=>by rw[AF6,AF6,AW];exact⟨_,_,rfl,by simp[Rep],PQ ns⟩
theorem AEI{K:W.Frag}{G:Hp}{a:Addr}(ns:List Int)(h:∃(o:Obj)(its:Array Value)(n:Nat),K.lookup a=some o/\o.cls=.type "tuple"/\o.data=.seq its n/\its.size<=sizeLine/\Ao (ns.map V.int) its.toList):Rep K G (.tup<|ns.map PV.int)<|.ref a:=by unfold Rep;exact⟨a,ns.map V.int,rfl,.inr h,PQ ns⟩
theorem ADP{K:W.Frag}{vs:List V}{H:Hp}{Q:VK}{E:XK}(h:S3 K vs H Q E):Mw K 1 P2 vs H Q E:=by
 obtain⟨a,ns,rfl,z,y,k⟩:=h;refine⟨rfl,H,[.rd<|ns.map PV.int],.cl<|.bl true,Ai.refl _,?_,nI ns y,λv G' H' _ r=>?_⟩
 .unfold AW;refine⟨_,_,rfl,?_,by unfold AW;rfl⟩;unfold Rep;exact⟨a,_,rfl,z,PQ ns⟩
 .rw[r.bl];exact k H'
def eR(K:W.Frag)(x:Str)(C:Addr):Prop:=W.nsIn K mainGlobals x=some (some<|.ref C)/\W.excIn K C [.type "ValueError",.type "Exception",.type "BaseException",.type "object"] "ValueError.__new__" = true
def nO(l:W.OpenLaw)(w:World)(K:W.Frag)(mg:Str->Option Value)(base:Heap)(fa:Addr)(fd:FuncData):List Prop:=[FS ["script","k","base"] ["script","k"]<|top 49,BD l.prog w K mg base "_law_cell" 1 2 EK,FS ["one","two","point","across","up"] ["one","two","point"]<|top 51,BD l.prog w K mg base "_law_side" 1 3 FW,FS ["room","k"] ["room"]<|top 52,BD l.prog w K mg base "_law_flat" 2 1 P5,FS ["script","k","count","mode","x","low","high","j","cell","y","room"] ["script","k","count"]<|top 53,BD l.prog w K mg base "_law_plain_room" 3 3 Tz,FS ["script","k","xs","ys","j","cell","plan"] ["script","k"]<|top 54,BD l.prog w K mg base "_law_winding" 2 2 T7,FS ["room","total","k","one","two"] ["room"]<|top 59,BD l.prog w K mg base "_law_area" 1 1 Tt,FS ["one","two","point","low","high"] ["one","two","point"]<|top 57,BD l.prog w K mg base "_law_on" 2 3 NJ,FS ["one","two","three","four","some","a","b","point","first"] ["one","two","three","four"]<|top 58,BD l.prog w K mg base "_law_meet" 3 4 P8,FS ["room","count","k","j"] ["room"]<|top 60,BD l.prog w K mg base "_law_good" 4 1 Tu,FS ["script","k","room","j","cell","at","x","y","tried"] ["script","k","room"]<|top 55,BD l.prog w K mg base "_law_pushed" 5 3 T4,FS ["script","k","most","cell","room","slant","turn_v","first","x","y"] ["script","k","most"]<|top 56,BD l.prog w K mg base "_law_room" 6 3 P9,FS ["room","one","other","count","here","there","k","later","left","right"] ["room","one","other"]<|top 61,BD l.prog w K mg base "_law_line" 4 3 P6,FS ["room","count","joined","other","one"] ["room"]<|top 65,BD l.prog w K mg base "_law_joined" 5 1 Tv,FS ["script","k","room","joined","lines","todo","one","other","some","at"] ["script","k","room"]<|top 66,BD l.prog w K mg base "_law_drawn_cut" 6 3 P4,FS ["corners"] ["corners"]<|top 21,BD l.prog w K mg base "all_near" 1 1 Px,FS ["one","other","third"] ["one","other","third"]<|top 8,BD l.prog w K mg base "turn" 1 3 IE,FS ["corners"] ["corners"]<|top 22,BD l.prog w K mg base "all_bend" 2 1 Tg,FS ["corners"] ["corners"]<|top 24,BD l.prog w K mg base "walls_of" 1 1 NO,FS ["count","one","other"] ["count","one","other"]<|top 23,BD l.prog w K mg base "are_neighbours" 1 3 Lb,FS ["way","other","start_side","end_side"] ["way","other"]<|top 10,BD l.prog w K mg base "parts" 2 2 NL,FS ["point","way","start","end","in_width","in_height"] ["point","way"]<|top 9,BD l.prog w K mg base "lies_on" 2 2 HC,FS ["way","other","touches_way","touches_other"] ["way","other"]<|top 11,BD l.prog w K mg base "meet" 3 2 Ld,FS ["corners","walls","k","m"] ["corners"]<|top 25,BD l.prog w K mg base "walls_keep_apart" 4 1 UG,FS ["corners"] ["corners"]<|top 26,BD l.prog w K mg base "doubled_area" 2 1 Tn,FS ["room"] ["room"]<|top 18,BD l.prog w K mg base "is_room" 5 1 Tq,FS ["room"] ["room"]<|top 20,BD l.prog w K mg base "check_room" 6 1 Pz,FS ["lines"] ["lines"]<|top 34,BD l.prog w K mg base "rises" 1 1 UC,FS ["way","point","start_above","end_above","side"] ["way","point"]<|top 12,BD l.prog w K mg base "passes_right_of" 2 2 QC,FS ["walls","point","passed"] ["walls","point"]<|top 27,BD l.prog w K mg base "place_within" 3 2 UB,FS ["corners","way","doubled","middle"] ["corners","way"]<|top 28,BD l.prog w K mg base "middle_is_inside" 4 2 T9,FS ["room","one","other","way","far_walls"] ["room","one","other"]<|top 19,BD l.prog w K mg base "has_line" 5 3 NI,FS ["one","other"] ["one","other"]<|top 35,BD l.prog w K mg base "cross" 1 2 P0,FS ["line","lines"] ["line","lines"]<|top 36,BD l.prog w K mg base "crosses_none" 2 2 Tj,FS ["room","lines"] ["room","lines"]<|top 33,BD l.prog w K mg base "cuts_up" 6 2 P1,FS ["room","lines"] ["room","lines"]<|top 31,BD l.prog w K mg base "check_cut" 7 2 Lc,FS ["room"] ["room"]<|top 32,IH l.prog w K mg base "check_few_corners" 1 1 Py US,FS ["count","lines","one","other"] ["count","lines","one","other"]<|top 37,BD l.prog w K mg base "are_joined" 2 4 NH,FS ["count","lines","side","near"] ["count","lines","side"]<|top 38,BD l.prog w K mg base "tips_of" 3 3 NM,FS ["count","lines","told","one","other","tips"] ["count","lines"]<|top 39,BD l.prog w K mg base "triangles_of" 4 2 UD,FS ["found","corners","triangle"] ["found"]<|top 46,BD l.prog w K mg base "ear_of" 1 1 To,FS ["found","told","left","ear"] ["found"]<|top 45,BD l.prog w K mg base "ears_in_turn" 2 1 Tp,FS ["room","lines","line","tips"] ["room","lines","line"]<|top 42,BD l.prog w K mg base "other_line" 4 3 QA,FS ["room","lines","line","put"] ["room","lines","line"]<|top 43,BD l.prog w K mg base "can_turn" 6 3 Th,FS ["room","lines","wanted","ear","unwanted"] ["room","lines","wanted","ear"]<|top 47,BD l.prog w K mg base "lines_to_turn" 7 4 T8,FS ["room","lines","line","kept"] ["room","lines","line"]<|top 44,BD l.prog w K mg base "turned_at" 5 3 UE,FS ["room","one","other","told","now","ear","unwanted"] ["room","one","other"]<|top 41,IH l.prog w K mg base "way" 8 3 Lf QK,FS ["e","told"] ["e"]<|top 68,QG l.prog w K mg base "_law_which" 1 Yc,FS ["room","one","other","which","e"] ["room","one","other"]<|top 70,IH l.prog w K mg base "_law_met" 9 3 Tw nS,FS ["found"] ["found"]<|top 50,BD l.prog w K mg base "_law_whole" 1 1 T6,FS ["lines","line"] ["lines"]<|top 63,BD l.prog w K mg base "_law_lines_told" 2 1 P7,FS ["room","lines","count","found","one","two","three","sides"] ["room","lines"]<|top 67,BD l.prog w K mg base "_law_parts" 1 2 Tx,FS ["room","lines","found","here","line","parts_v","some"] ["room","lines","found"]<|top 69,BD l.prog w K mg base "_law_walked" 5 3 T5,FS ["script","room","one","other","handed","lap","found"] ["script"]<|top 71,Cw l.prog w K mg base EJ 10 fa fd ["script"]<|Mw K 1 P2]
theorem all_mk{l:W.OpenLaw}{w:World}{K:W.Frag}{h:Heap}{mg:Str->Option Value}{fa:Addr}(X:K.In h)(G:h.Ns mainGlobals mg)(uO:mg "law" = some (.ref fa)) {b:Tok} {x AD8:Tok} {jI:Addr} {W9:Obj} {xu:Nat} {AD4:Tok} {AD5:Tok} {AD6:Tok} {q:Addr} {P:Addr} {R:Addr} {B:Addr} {S:Addr} {I:Addr} (D:Nq K (("_law_cell",49)::("_law_side",51)::("_law_flat",52)::("_law_plain_room",53)::("_law_winding",54)::("_law_area",59)::("_law_on",57)::("_law_meet",58)::("_law_good",60)::("_law_pushed",55)::("_law_room",56)::("_law_line",61)::("_law_joined",65)::("_law_drawn_cut",66)::("all_near",21)::("turn",8)::("all_bend",22)::("walls_of",24)::("are_neighbours",23)::("parts",10)::("lies_on",9)::("meet",11)::("walls_keep_apart",25)::("doubled_area",26)::("is_room",18)::("check_room",20)::("rises",34)::("passes_right_of",12)::("place_within",27)::("middle_is_inside",28)::("has_line",19)::("cross",35)::("crosses_none",36)::("cuts_up",33)::("check_cut",31)::("check_few_corners",32)::("are_joined",37)::("tips_of",38)::("triangles_of",39)::("ear_of",46)::("ears_in_turn",45)::("other_line",42)::("can_turn",43)::("lines_to_turn",47)::("turned_at",44)::("way",41)::("_law_which",68)::("_law_met",70)::("_law_whole",50)::("_law_lines_told",63)::("_law_parts",67)::("_law_walked",69)::("law",71) :: [])) (zs:bR K ["len","range","min","max","abs","set","sorted","all","sum","any","list","isinstance","ValueError","int","bool","tuple"]) (AEp:W.nsIn K mainGlobals "FARTHEST" = some (some<|.int 100 b)) (AEt:W.nsIn K mainGlobals "ORIGIN" = some (some<|.ref jI)) (AEo:K.lookup jI=some W9) (AEd:W9.cls=.type "tuple") (AEY:W9.data=.seq #[.int 0 x,.int 0 AD8] xu) (AEq:W.nsIn K mainGlobals "FEWEST_CORNERS" = some (some<|.int 3 AD4)) (AEr:W.nsIn K mainGlobals "MOST_CORNERS" = some (some<|.int 12 AD5)) (AEs:W.nsIn K mainGlobals "MOST_CORNERS_FOR_ALL" = some (some<|.int 8 AD6)) (ACl:eR K "TooMany" q) (ACj:eR K "NoRoom" P) (ACh:eR K "NoCut" R) (ACi:eR K "NoPoint" B) (ACk:eR K "NoTurn" S) (ACm:eR K "WardError" I) (sW:W.findIn K (.ref q) "__getattribute__" = some (some<|.builtin "BaseException.__getattribute__")) (so:W.findIn K (.ref q) "__getattr__" = some none) (o8:W.findIn K (.ref q) "__class__" = some (some<|.builtin "object.__class__")) (ADQ:W.specialIn K (.builtin "object.__class__") "__get__" = some (some<|.builtin "getset_descriptor.__get__")) (AEC:W.takesIn K (.builtin "object.__class__")=some true) (xj:W.mroIn K q (.type "object")=some true) (xV:W.mroIn K q (.type "BaseException")=some true) (uL:W.hasDictIn K q=true) (yI:(Value.ref q==Value.ref P)=false) (AC3:W.subIn K (.ref q) (.ref P)=some false) (yG:(Value.ref q==Value.ref R)=false) (AC1:W.subIn K (.ref q) (.ref R)=some false) (yH:(Value.ref q==Value.ref B)=false) (AC2:W.subIn K (.ref q) (.ref B)=some false) (yJ:(Value.ref q==Value.ref S)=false) (AC4:W.subIn K (.ref q) (.ref S)=some false) (AC5:W.subIn K (.ref q) (.type "ValueError")=some true) (AC6:W.subIn K (.ref I) (.type "BaseException")=some true) (ADR:W.subIn K (.ref q) (.ref I)=some true) : ∃fd:FuncData,(∀(s:Shared)(v:Value),BindsTo s fd ⟨[v],[]⟩ [("script",v)])/\∀base:Heap,K.In base->base.Ns mainGlobals mg->Cw l.prog w K mg base EJ 10 fa fd ["script"] (S3 K):=by
 have AFN:∃t,mg "FARTHEST" = some (.int 100 t):=⟨_,W.mg_of X G AEp⟩;have AFR:∃a,mg "ORIGIN" = some (.ref a)/\∀G,Rep K G (.tup [(.int 0),(.int 0)])<|.ref a:=⟨_,W.mg_of X G AEt,λG=>AEI [0,0] ⟨_,_,_,AEo,AEd,AEY,(by show 2<=sizeLine;decide),(.cons ⟨_,rfl⟩<|.cons ⟨_,rfl⟩ .nil)⟩⟩;have AFO:∃t,mg "FEWEST_CORNERS" = some (.int 3 t):=⟨_,W.mg_of X G AEq⟩;have AFP:∃t,mg "MOST_CORNERS" = some (.int 12 t):=⟨_,W.mg_of X G AEr⟩;have AFQ:∃t,mg "MOST_CORNERS_FOR_ALL" = some (.int 8 t):=⟨_,W.mg_of X G AEs⟩;obtain⟨AFC,AFG,AFF,AFE,AE6,AFH,AFI,AE7,AFJ,AE8,AFD,AFB,AE5,AFA,AE9,AFK,_⟩:=ZA X G zs;obtain⟨p,ACZ⟩:=ACl;have xT:=W.mg_of X G p;obtain⟨qy,ACX⟩:=ACj;have AFb:=W.mg_of X G qy;obtain⟨qw,ACV⟩:=ACh;have AFZ:=W.mg_of X G qw;obtain⟨qx,ACW⟩:=ACi;have AFa:=W.mg_of X G qx;obtain⟨qz,ACY⟩:=ACk;have AFc:=W.mg_of X G qz;obtain⟨q0,ACa⟩:=ACm;have AFd:=W.mg_of X G q0;have Y:NG K q:=⟨sW,so,o8,ADQ,AEC,xj,xV,uL⟩;have AE1:JS K ["TooMany"] "NoRoom"<|.ref P:=MI p Y (Rq yI ACX AC3) rfl;have AEz:JS K ["TooMany"] "NoCut"<|.ref R:=MI p Y (Rq yG ACV AC1) rfl;have AE0:JS K ["TooMany"] "NoPoint"<|.ref B:=MI p Y (Rq yH ACW AC2) rfl;have AE2:JS K ["TooMany"] "NoTurn"<|.ref S:=MI p Y (Rq yJ ACY AC4) rfl;have AE3:JS K ["TooMany"] "TooMany"<|.ref q:=MI p Y wo rfl;have AE4:JS K ["TooMany"] "ValueError"<|.type "ValueError":=MI p Y (wm AFq AC5) rfl;have AFj:∀(nm:Str) C,List.contains (["TooMany"]:List Str) nm=true->DS K nm C->W.exmOne K (.ref C) (.ref I)=some true:=λnm C hL hC=>by obtain rfl:=Ur hL;obtain rfl:=DS.inj hC p;exact rV ACa AC6 ADR
 have AFk:∀(nm:Str),List.contains (["TooMany"]:List Str) nm=true->∃C,DS K nm C:=λnm hL=>by obtain rfl:=Ur hL;exact⟨_,p⟩
 obtain⟨d0,d1,d2,d3,d4,d5,d6,d7,d8,d9,d10,d11,d12,d13,d14,d15,d16,d17,d18,d19,d20,d21,d22,d23,d24,d25,d26,d27,d28,d29,d30,d31,d32,d33,d34,d35,d36,d37,d38,d39,d40,d41,d42,d43,d44,d45,d46,d47,d48,d49,d50,d51,qC,_⟩:=D;obtain⟨f,fd,F,hm⟩:=Q1 X G qC;have e:=uO.symm.trans hm;cases e;refine⟨fd,λs v=>Ex.bt F AC7 s [v] rfl,λbase KB _=>?_⟩;have H:ND<|(nO l w K mg base fa fd).drop 0:=by
  have AFf:∃C,DS K "TooMany" C/\OwnCls "TooMany" C [.type "ValueError",.type "Exception",.type "BaseException",.type "object"] "ValueError.__new__" mg base:=⟨_,p,zS KB xT ACZ⟩
  iterate 106
   refine qm rfl ?_ λsc=>?_
   .first
     |exact PY AFq ⟨[_],rfl,rfl⟩|exact PY AFq ⟨[_,_],rfl,rfl⟩|exact PY AFq ⟨[_,_,_],rfl,rfl⟩|exact PY AFq ⟨[_,_,_,_],rfl,rfl⟩
     |refine gG (Q1 X G AFr) sc λZ O WQ n hc=>?_
     |refine gY (Q1 X G AFr) sc λZ O WQ n hc=>?_
     |refine gW (Q1 X G AFr) sc λZ O hc=>?_
     |refine gL F sc λZ O WQ n hc=>?_
    repeat' first|(show _=_;first|exact rfl|exact iu _|exact Wo|exact ln2|exact Wq|exact h9|assumption|decide|with_unfolding_all rfl)|(show _\/_;first|exact Or.inl rfl|exact Or.inr rfl|exact Or.inr<|Or.inl rfl)|(show PX _ _ _;first|apply ABc|apply ABG|apply ABL|apply AA1 (Fn.of (by first|assumption|exact IH.toG AFr) Z)|apply ABZ|apply AAy|apply ABM|apply ABa|apply ABP|apply AA0|apply AA5|apply ABO|apply AA6|apply ABA|apply ABQ|apply AAz|apply ABV|apply ABU|apply AA3|apply AA4|apply ABW|apply ABX|apply ABE|apply ABY|apply ABR|apply ABT|apply ABN|apply ABC|apply ABD|apply ABH|apply ABJ|apply ABK|apply AA9|apply AA7|apply ABF|apply ABB|apply ABS|apply AA8|apply ABI|apply Gu (oh hc) zI AFr ZG|apply Gu (oa hc) zG AFr ZF|apply Gu oQ zB AFr oD|apply Gu ot zK AFr oK|apply Gu (oR hc) zC AFr oE|apply Gu (ow hc) zL AFr ZH|apply Gu (oS hc) zD AFr oF|apply ABb oZ zF AFr ZE|apply Gu (ox hc) zM AFr ZH|apply Gu (om hc) zJ AFr ZG|apply Gu (og hc) zH AFr ZF|apply AA2 (Fn.Dj<|Fn.of AFr Z) r9|exact jg (L:=["TooMany"]) (y:=.ref _) _ AFr (λ_ z=>z) (ze AFr) AFr|exact jg (L:=["TooMany"]) (y:=.ty "ValueError") _ AFr (λ_ z=>z) (zd (T:="ValueError") AFr AFq) AFr)|(show CY _ _ _;first|apply zY|apply jJ|apply zZ|apply PN|apply Xe)|(show DT _ _ _;first|apply ACC|apply ACE|apply ACA|apply ACB|apply ACD|apply ACF|apply ACG)|(show CQ _ _ _ _ _;first|apply AB4|apply AB3|apply AB0|apply ABu|apply ABt|apply AB6|apply ABo|apply AB2|apply ABy|apply AB9|apply ABr|apply ABv|apply ABs|apply AB5|apply ABq|apply AB1|apply ABz|apply AB8)|(show D5 _ _ _ _ _;first|apply ABp|apply ABx|apply ABw)|(show IL _ _ _;first|apply ACJ|apply ACH|apply ACI|apply ACK)|(show HH _ _ _ _ _ _;first|apply ACN AFr Z|apply ACP|apply ACT|apply ACU|apply ACQ|apply jh)|(show HI _ _ _ _ _ _;first|apply ACS|apply ACO|apply ACR)|(show JU _ _ _ _ _;first|apply ABh|apply ABi|apply ABj)|(show Lj _ _ _;first|apply ABm|apply ABn)|(show Li _ _ _;first|apply ABk|apply ABl)|(show Lh _ _ _;first|apply ABf|apply ABg)|(show IK _ _ _;first|apply ABd|apply ABe)|(show NQ _ _;first|apply sj|apply sk)|(show Kc _ _;first|apply se|apply si)|(show Ck _ _ _;first|exact pG|exact pE O|exact pL|exact pM|exact pO O|exact pS n|exact pI n|exact pP|exact pH|exact pN WQ)|(show HA _ _ _ _ _;first|exact Cm sc rfl rfl (Nb:=["wall"]) AFq|exact Cm sc rfl rfl (Nb:=["x","y"]) AFq|exact Cm sc rfl rfl (Nb:=["corner"]) AFq|exact Cm sc rfl rfl (Nb:=["j","count"]) AFq|exact Cm sc rfl rfl (Nb:=["k","lines"]) AFq|exact Cm sc rfl rfl (Nb:=["wall","way"]) AFq|exact Cm sc rfl rfl (Nb:=["one","line"]) AFq|exact Cm sc rfl rfl (Nb:=["k","corners"]) AFq|exact Cm sc rfl rfl (Nb:=["line","room"]) AFq|exact Cm sc rfl rfl (Nb:=["part","line"]) AFq|exact Cm sc rfl rfl (Nb:=["wall","point"]) AFq|exact Cm sc rfl rfl (Nb:=["other","line"]) AFq|exact Cm sc rfl rfl (Nb:=["x","y","slant"]) AFq|exact Cm sc rfl rfl (Nb:=["triangle","ear"]) AFq|exact Cm sc rfl rfl (Nb:=["a","b","x","y"]) AFq|exact Cm sc rfl rfl (Nb:=["corner","corners"]) AFq|exact Cm sc rfl rfl (Nb:=["a","b","xs","ys"]) AFq|exact Cm sc rfl rfl (Nb:=["tip","other","one"]) AFq|exact Cm sc rfl rfl (Nb:=["line","ear","wanted"]) AFq|exact Cm sc rfl rfl (Nb:=["line","room","lines"]) AFq|exact Cm sc rfl rfl (Nb:=["pair","lines","count"]) AFq|exact Cm sc rfl rfl (Nb:=["j","joined","one","other"]) AFq|exact Cm sc rfl rfl (Nb:=["corner","count","lines","side"]) AFq)|(show List.Nodup _;first|exact sc.nd|decide|(dsimp only[CI];decide +kernel))|assumption|decide|exact Wo|exact ln2|exact Wq|exact h9|exact iu _|exact PassesOwn.never|exact zc λ_ _ z=>z|exact Wa|exact ACo|exact PySem.F.excBase_ValueError|exact ACu Z|(intro;first|rfl|skip)
  exact trivial
 exact(YX (k:=105) H rfl).imp λvs H Q E h=>ADP h
theorem walk{l:W.OpenLaw}{q:Program}{y:List Str}{p:(Str->Option Value)->Heap->Prop}{v:World->Heap->Prop}{d:DefRec}{K:Params->W.Frag}(hn:l.most=some 63)(Z:d.params.defaults=[]) (Y:∀(w:World)(h:Heap),v w h->(K w.params).In h) (F:∀(w:World)(mg:Str->Option Value)(fa:Addr)(h:Heap),(K w.params).In h->h.Ns mainGlobals mg->mg d.name=some (.ref fa)->
  ∃fd:FuncData,(∀(s:Shared)(u:Value),BindsTo s fd ⟨[u],[]⟩ [("script",u)])/\∀base:Heap,(K w.params).In base->base.Ns mainGlobals mg->Cw l.prog w (K w.params) mg base EJ 10 fa fd ["script"] (S3<|K w.params)) :
 W.WalkO q y p v l.row.toRowW d [] (λf vs=>PySem.call f vs):=
 L2.AEe (n:=63) (k:=10) (x:="script") (CX:=λ_=>EJ) (sp:=λw=>S3<|K w.params) hn AFp Z ⟨rfl,AFp,AFp⟩ Y F (λ_ _ a ns Q _ O=>⟨a,ns,rfl,O,Q,λ_=>rfl⟩) λ_ _ _ _ _ z=>z
end L2.K
end
end Internal
open Internal
namespace PySem.W.Fast
def N:=Nat
def tw13728101828417473613:=N
def tw9413629967579982858:=N
def tw5111049822574094647:=N
def tw8188364847050857807:=N
def tw15267721817109462339:=N
def tw11193280348877300046:=N
def tw16229902333283358629:=N
def tw17750567303637554404:=N
def tw5016887778386883114:=N
def tw15060306571567879386:=N
def tw6814548545959158432:=N
def tw10537138975820467212:=N
def tw12013395971915162472:=N
def tw13716665480479924403:=N
def tw12490400451225836750:=N
def tw9012622818461219192:=N
def tw17656150818857547744:=N
def tw4537371188564975307:=N
def tw9256472970383309391:=N
def tw13612857703732391941:=N
def tw2561597085734337552:=N
def tw574141256949075254:=N
def tw768174084956214106:=N
def tw909744462014497192:=N
def tw15877422154789753505:=N
def tw11730734324873207191:=N
def tw8620300220095199669:=N
def tw18025537107492140880:=N
def tw12554630966972110036:=N
def tw4612278291288598514:=N
def tw11668103568092154928:=N
def tw13597815324391314657:=N
def tw15038259170945020840:=N
def tw10654863150322739173:=N
def tw1020989059645543809:=N
def tw17166331068656801583:=N
def tw8764866088801924738:=N
def tw11129451932329921934:=N
def tw12660541291892398954:=N
def tw783586899339814448:=N
def tw12416501107937633483:=N
def tw2247394579895630438:=N
def tw8113346297764297063:=N
def tw4153403108341788440:=N
def tw1733730797102565664:=N
def tw2550288358608071615:=N
def tw2705656398151407309:=N
def tw10918624155915657294:=N
def tw9652616193754278209:=N
def tw7712909097749435380:=N
def tw3204394211215391:=N
def tw48914232111617951:=N
def tw13647408766924455417:=N
def tw1944208108346135804:=N
def tw14010516660558365545:=N
def tw9487834792379204759:=N
def tw14909041449249798210:=N
def tw13793989934196753198:=N
def tw16322094045188670718:=N
def tw3032988404327055407:=N
def tw9357800458852464382:=N
def tw5158740134587667114:=N
def tw11444650471897245119:=N
def tw7628747589451178943:=N
def tw16815551299460565579:=N
def tw11069737674033655971:=N
def tw16302261073601572475:=N
def tw1388205432269654184:=N
def tw18124046377184711509:=N
def tw579806717696570099:=N
def tw8664846610121374531:=N
def tw17969910789321075175:=N
def tw5623048081799090611:=N
def tw15084555332158294846:=N
def tw10469255111649831839:=N
def tw1113871385543661980:=N
def tw2451176593389998990:=N
def tw9727810617314691471:=N
def tw15931597693046913968:=N
def tw5184899705915713614:=N
def tw7846224021989341268:=N
def tw4280795027984133407:=N
def tw2702094674700038548:=N
def tw5267408036747053421:=N
def tw9881887800833479197:=N
def tw9544496309252285806:=N
def tw13062401071209599681:=N
def tw7057084369404261555:=N
def tw16862176212604517339:=N
def tw7667525644438702485:=N
def tw5421506098136042056:=N
def tw3323064279631703578:=N
def tw9844140068218411975:=N
def tw5310803816921842067:=N
def tw6958385160881376127:=N
def tw16474130392808221466:=N
def tw10276583014306908191:=N
def tw9944064487362586711:=N
def tw12510734292092480823:=N
def tw10022513934873485017:=N
def tw16406032783869116086:=N
def tw10122834393967228745:=N
def tw9694401557601090099:=N
def tw14116523603812796273:=N
def tw18387463010586590725:=N
def tw16174087877595680767:=N
def tw5974316640373332172:=N
def tw2831190510726153497:=N
def tw16062710272843965121:=N
def tw9102692111044287065:=N
def tw11508840663209882560:=N
def tw10361779190758622699:=N
def tw2403666689340619271:=N
def tw8688306906582136408:=N
def tw13119401218225789775:=N
def tw13539144364935802342:=N
def tw6226481004692650907:=N
def tw6566972174802074926:=N
def tw14462393291942719486:=N
def tw10599564964317752575:=N
def tw9129336727508605242:=N
def tw13042538035675623590:=N
def tw17352899301984910145:=N
def tw8920005023785300493:=N
def tw17132615562014272642:=N
def tw6234885052062752089:=N
def tw12086345489411214301:=N
def tw8678365050797197940:=N
def tw9848566032950838944:=N
def tw2226097034270319166:=N
def tw136036291940151403:=N
def tw11479957072370974373:=N
def tw68954217724429925:=N
def tw8081657458042857397:=N
def tw13396992314733803758:=N
def tw5806477199825372721:=N
def tw6791988892134665258:=N
def tw7039357700977554911:=N
def tw5049501093439696487:=N
def tw339327702684060734:=N
def tw13222499263574659353:=N
def tw17946524873345112848:=N
def tw17798119458374172807:=N
def tw3233347102395509876:=N
def tw1812343808308413918:=N
def tw13353260000793727098:=N
def tw9088244873422133006:=N
def tw12148075784637327084:=N
def tw11721323769990791410:=N
def tw8093420533733959739:=N
def tw561367281416823769:=N
def tw5536833053806075782:=N
def tw175433538885422522:=N
def tw15267650451692752966:=N
def tw10317190393808704921:=N
def tw18190144552576193400:=N
def tw12837087966626418905:=N
def tw4869749667209259284:=N
def tw12657951815948203803:=N
def tw9732884174840041899:=N
def tw2820654826411089647:=N
def tw16605819819476190938:=N
def tw14408363486805793471:=N
def tw9351936657358179583:=N
def tw12441801835204625545:=N
def tw16274171058284529222:=N
def tw11836980763771643459:=N
def tw11342711080993096278:=N
def tw3776870771346205427:=N
def tw235237429517871341:=N
def tw14976941976262632460:=N
def tw5118210099343793693:=N
def tw14023279274166960146:=N
def tw135494900649014105:=N
def tw6207972379777186082:=N
def tw2715107044531298323:=N
def tw3318111500007234268:=N
def tw9510518317024906777:=N
def tw17488313729377408362:=N
def tw17453331802775853104:=N
def tw18056063653721828782:=N
def tw5982037699204867865:=N
def tw7163435434325567082:=N
def tw14190802755811060998:=N
def tw7882041602352138642:=N
def tw18430758465918432287:=N
def tw16862337515876752430:=N
def tw13655782542342299957:=N
def tw269369420824990653:=N
def tw11471726151730684470:=N
def tw8612028875067124269:=N
def tw3732368727617457725:=N
def tw11672968472633860575:=N
def tw10772215925952360470:=N
def tw8767487608716105172:=N
def tw6191079376725286917:=N
def tw18322273808296876254:=N
def tw15941468474142496409:=N
def tw4713705319682029766:=N
def tw2233374132938481999:=N
def tw9421103837400113354:=N
def tw2999893058904272466:=N
def tw13571635850710491204:=N
def tw5023378441269568548:=N
def tw3072834054688436120:=N
def tw6344996569630544415:=N
def tw18252196731232997161:=N
def tw16612202397529623703:=N
def tw4395303855973538996:=N
def tw2188279251548711968:=N
def tw17389488846408070941:=N
def tw16393866851304011575:=N
def tw14945227749873538344:=N
def tw2750702478228597466:=N
def tw18175644124915854544:=N
def tw785715701895741883:=N
def tw17101001815490690026:=N
def tw1946869818454159733:=N
def tw10458774204433006527:=N
def tw6183559678042851251:=N
def tw12472140028674283986:=N
def tw5878633683053208758:=N
def tw8793211526035866547:=N
def tw6168868457114974212:=N
def tw173316720066274275:=N
def tw7861979074010316584:=N
def tw3975958729964471482:=N
def tw2669303845390592646:=N
def tw15948539523508978416:=N
def tw13604922993418399326:=N
def tw10017948662344834448:=N
def tw7814240264615248525:=N
def tw4552387736061099909:=N
def tw17895691997421174861:=N
def tw501310193724523597:=N
def tw4830996876924127164:=N
def tw12863228270591654864:=N
def tw8591313347712287100:=N
def tw342835915529837101:=N
def tw10740019169074607846:=N
def tw1324707093581259354:=N
def tw11247126664850089917:=N
def tw14310192385753129079:=N
def tw12733634721066868719:=N
def tw9232589242947964101:=N
def tw1935331852025871633:=N
def tw7520988143290489538:=N
def tw247649543419217963:=N
def tw10183909686910807639:=N
def tw1736521240234805937:=N
def tw3032595703267542778:=N
def tw4492412639415477064:=N
def tw3791279068965491932:=N
def tw16106480257938830687:=N
def tw15116895201792895191:=N
def tw11118119543789643969:=N
def tw10420281660460906610:=N
def tw14873247466146989496:=N
def tw10433803612381309357:=N
def tw14958095388194707530:=N
def tw3095742210333370032:=N
def tw17710281694975570728:=N
def tw14894779313482682625:=N
def tw121032282978153411:=N
def tw2650877835302386186:=N
end PySem.W.Fast
open PySem PySem.W PyProof.Rows
set_option maxHeartbeats 0 in
theorem PySem.Challenge.cw_threewards_k12_whole_led_into_one_anothe_holds : PySem.Challenge.rw_threewards_k12_whole_led_into_one_anothe.Holds := by
  w_on; o_law; k_head; (case hw => w_witness2)
  k_fill
  refine L2.K.walk (l := PySem.Challenge.rw_threewards_k12_whole_led_into_one_anothe) rfl rfl (fun w h Y => PySem.W.kIn_of Y) ?F
  case F =>
    intro w mg fa h KX G hmg
    refine' L2.K.all_mk KX G hmg ..
    all_goals try first | ((refine' L2.K.dcs (L2.PL.dmk ?a ?b ?c ?d) ?_; (case a => k_is); (case b => k_is); (case c => k_is); (case d => k_is)); (repeat (refine' L2.K.dcs (L2.PL.dmk ?a ?b ?c ?d) ?_; (case a => k_is); (case b => k_is); (case c => k_is); (case d => k_is))); exact L2.K.dnl) | k_is | (refine' L2.PL.dmk ?a ?b ?c ?d; (case a => k_is); (case b => k_is); (case c => k_is); (case d => k_is)) | (refine' ⟨?_, ?_⟩; k_is; k_exc) | exact rfl | (refine' ⟨?_, ?_⟩; k_is; refine' ⟨?_, ?_⟩; k_is; refine' ⟨?_, ?_⟩; k_is; refine' ⟨?_, ?_⟩; k_is; refine' ⟨?_, ?_⟩; k_is; refine' ⟨?_, ?_⟩; k_is; refine' ⟨?_, ?_⟩; k_is; refine' ⟨?_, ?_⟩; k_is; refine' ⟨?_, ?_⟩; k_is; refine' ⟨?_, ?_⟩; k_is; refine' ⟨?_, ?_⟩; k_is; refine' ⟨?_, ?_⟩; k_is; refine' ⟨?_, ?_⟩; k_is; refine' ⟨?_, ?_⟩; k_is; refine' ⟨?_, ?_⟩; k_is; refine' ⟨?_, ?_⟩; k_is; trivial)
