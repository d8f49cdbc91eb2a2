import PyProof.Rows.All
import Wide.All
import OpenK.AllK
import Wide.FinOn
import Lean
import PyProof.EqAt
import PyProof.EqKinds
import PyProof.TupleCall
import PyProof.CompFree
import PyProof.CompUse
import PySem.SetOps
import PyProof.SetScanFacts
import PyProof.TupleKey
import PyProof.SetKind
import PyProof.Rows.SetFrom
import PyProof.IsRules
import PyProof.P3Eq
import PyProof.NeKinds
import KE.KSortTup
import KE.KTupSum
import PySem.Challenge.RW_threewards_k13_whole_all_cuts
set_option Elab.async false
set_option linter.all false
set_option maxRecDepth 100000
set_option compiler.extract_closed false
set_option bootstrap.genMatcherCode false
namespace Internal
noncomputable section
theorem J{p:Prop}(h:p:=by first|with_reducible(first|assumption|exact Int.le_of_lt (by assumption)|exact Nat.le_of_lt (by assumption)|exact Int.ne_of_gt (by assumption)|exact Int.ne_of_lt (by assumption))|lia):p:=h
theorem ADi{p:Prop}(h:p:=by grind):p:=h
theorem ADj{p:Prop}(h:p:=by omega):p:=h
theorem ADk{p:Prop}(h:p:=by simp):p:=h
theorem ADl{p:Prop}(h:p:=by decide):p:=h
theorem ADm{p:Prop}(h:p:=by decide +kernel):p:=h
theorem ADn{p:Prop}(h:p:=by assumption):p:=h
def ADo:=@List.length_map
def ADp:=@List.getElem?_eq_getElem
def ADq:=@Int.emod_eq_of_lt
def ADr:=@if_pos
def ADs:=@if_neg
def ADt:=@Nat.le_refl
def ADu:=@decide_eq_true_eq
def ADv:=@List.mem_singleton
def ADw:=@List.getElem?_eq_some_iff
def ADx:=@Bool.and_eq_true
def ADy:=@Int.le_of_lt
def ADz:=@Int.mul_nonneg
def AD0:=@List.map_cons
def AD1:=@List.length_append
def AD2:=@List.mem_range
def AD3:=@List.size_toArray
def AD4:=@List.mem_cons_of_mem
def AD5:=@List.length_cons
def AD6:=@List.mem_cons_self
def AD7:=@List.mem_append
def AD8:=@Int.mul_le_mul_of_nonneg_left
def AD9:=@Int.mul_pos
def AEA:=@Nat.ne_of_lt
def AEB:=@Nat.lt_of_lt_of_le
def AEC:=@List.mem_map
def AED:=@List.getElem?_append_right
def AEE:=@List.pairwise_append
def AEF:=@Nat.le_trans
def AEG:=@beq_eq_false_iff_ne
def AEH:=@List.map_map
def AEI:=@Int.mul_eq_zero
def AEJ:=@Int.toNat_of_nonneg
def AEK:=@Array.getElem?_toList
def AEL:=@Int.emod_lt_of_pos
def AEM:=@List.getElem?_append_left
def AEN:=@List.mem_cons
def AEO:=@List.getD_eq_getElem?_getD
def AEP:=@Int.mul_le_mul_of_nonneg_right
def AEQ:=@Bool.not_eq_true'
def AER:=@List.pairwise_iff_getElem
def AES:=@Option.bind_some
def AET:=@getElem?_pos
def AEU:=@Option.some.inj
def AEV:=@Bool.or_eq_true
def AEW:=@List.append_assoc
def AEX:=@List.mem_of_getElem?
def AEY:=@List.mem_filter
def AEZ:=@Int.emod_nonneg
def AEa:=@List.pairwise_map
def AEb:=@List.getElem?_set_ne
def AEc:=@List.take_append_drop
def AEd:=@Int.lt_or_gt_of_ne
def AEe:=@Bool.or_eq_false_iff
def AEf:=@Int.emod_emod_of_dvd
def AEg:=@Nat.le_of_lt
def AEh:=@Array.getElem?_eq_getElem
def AEi:=@Option.some.injEq
def AEj:=@Int.add_zero
def AEk:=@Bool.eq_iff_iff
def AEl:=@List.map_append
def AEm:=@Int.le_refl
def AEn:=@List.mem_append_right
def AEo:=@Array.length_toList
def AEp:=@List.mem_append_left
def AEq:=@List.length_take
def AEr:=@Option.map_some
def AEs:=@decide_eq_true
def AEt:=@Prod.ext
def AEu:=@Nat.zero_le
def AEv:=@Nat.add_sub_cancel_left
def AEw:=@List.pairwise_singleton
def AEx:=@List.drop_eq_getElem_cons
def AEy:=@List.getElem?_map
def AEz:=@Nat.lt_of_le_of_lt
def AE0:=@Int.zero_add
def AE1:=@List.append_nil
def AE2:=@PySem.mem_of_lookup
def AE3:=@List.getElem_of_mem
def AE4:=@Array.getElem?_eq_some_iff
def AE5:=@Bool.true_and
def AE6:=@List.getElem?_cons_zero
def AE7:=@Int.mul_nonpos_of_nonneg_of_nonpos
def AE8:=@Int.zero_mul
def AE9:=@Int.mul_zero
def AFA:=@List.eq_nil_of_length_eq_zero
def AFB:=@List.extract_eq_take_drop
def AFC:=@Int.le_of_mul_le_mul_left
def AFD:=@Nat.zero_add
def AFE:=@Array.toList_append
def AFF:=@List.any_eq_false
def AFG:=@List.getElem?_cons_succ
def AFH:=@Ne.symm
def AFI:=@List.any_cons
def AFJ:=@Array.perm_iff_toList_perm
def AFK:=@decide_eq_false
def AFL:=@Bool.false_ne_true
def AFM:=@List.getElem?_of_mem
def AFN:=@List.range_succ
def AFO:=@Option.map_eq_some_iff
def AFP:=@List.getElem_mem
def AFQ:=@decide_eq_decide
def AFR:=@List.cons_append
def AFS:=@List.length_singleton
def AFT:=@Int.dvd_refl
def AFU:=@Int.sub_emod
def AFV:=@PySem.W.kia_one
def AFW:=@List.nil_append
def AFX:=@congrArg
def AFY:=@List.lookup_cons
def AFZ:=@Array.toList_extract
def AFa:=@List.perm_ext_iff_of_nodup
def AFb:=@Int.add_mul_emod_self_left
def AFc:=@Int.add_emod
def AFd:=@List.nodup_cons
def AFe:=@List.length_nil
def AFf:=@beq_iff_eq
def AFg:=@Classical.byContradiction
def AFh:=@Int.eq_of_mul_eq_mul_left
def AFi:=@List.length_replicate
def AFj:=@List.eq_nil_or_concat
def AFk:=@List.concat_eq_append
def AFl:=@Int.mul_ediv_add_emod
def AFm:=@List.length_drop
def AFn:=@List.pairwise_cons
def AFo:=@List.all_eq_true
def AFp:=@List.set_cons_zero
def AFq:=@Int.sub_self
def AFr:=@List.mem_of_mem_drop
def AFs:=@List.getElem?_replicate
def AFt:=@Int.lt_trichotomy
def AFu:=@List.map_congr_left
def AFv:=@List.take_of_length_le
def AFw:=@Int.one_mul
def AFx:=@List.mem_reverse
def AFy:=@List.countP_cons
def AFz:=@List.mem_flatMap
def AF0:=@List.any_map
def AF1:=@Array.getElem_toList
def AF2:=@List.mem_of_mem_take
def AF3:=@if_true
def AF4:=@List.length_range
def AF5:=@Nat.lt_succ_of_lt
def AF6:=@List.foldl_append
def AF7:=@Nat.lt_irrefl
def AF8:=@decide_eq_false_iff_not
def AF9:=@List.countP_eq_zero
def AGA:=@Int.emod_eq_emod_iff_emod_sub_eq_zero
def AGB:=@Nat.lt_trans
def AGC:=@Int.le_total
def AGD:=@Int.mul_lt_mul_of_pos_right
def AGE:=@Nat.le_of_ble_eq_true
def AGF:=@List.length_filter_le
def AGG:=@Prod.mk.injEq
def AGH:=@List.take_sublist
def AGI:=@List.getElem_take
def AGJ:=@bne_self_eq_false
def AGK:=@PySem.F.slot_dict_keyiterator_next
def AGL:=@Int.le_sub_one_of_lt
def AGM:=@Int.sub_one_lt_of_le
def AGN:=@Int.neg_mul
def AGO:=@Nat.le_of_eq
def AGP:=@Int.mul_comm
def AGQ:=@Int.pos_of_mul_pos_right
def AGR:=@Int.le_trans
def AGS:=@List.getElem_append_left
def AGT:=@List.filterMap_cons
def AGU:=@List.reverse_append
def AGV:=@PySem.F.plainAttrs_list
def AGW:=@Bool.or_false
def AGX:=@List.find?_cons
def AGY:=@List.getElem_range
def AGZ:=@List.foldl_cons
def AGa:=@List.cons.injEq
def AGb:=@Int.mul_emod_right
def AGc:=@List.getElem?_set_self
def AGd:=@List.getElem_cons_succ
def AGe:=@List.pairwise_lt_range
def AGf:=@Int.mul_neg
def AGg:=@List.getElem_drop
def AGh:=@Nat.le_of_lt_succ
def AGi:=@List.map_nil
def AGj:=@List.pairwise_reverse
def AGk:=@Bool.false_and
def AGl:=@Int.sub_nonneg
def AGm:=@List.pairwise_flatMap
def AGn:=@PyProof.Rows.callWith_type1
def AGo:=@Nat.le_add_right
def AGp:=@Array.toList_reverse
def AGq:=@Int.not_le
def AGr:=@Int.lt_iff_le_and_ne
def AGs:=@Int.emod_self
def AGt:=@Int.mul_lt_mul_of_pos_left
def AGu:=@Int.lt_irrefl
def AGv:=@Bool.beq_comm
def AGw:=@Int.neg_neg
def AGx:=@Int.sub_pos
def AGy:=@List.length_reverse
def AGz:=@Int.neg_neg_iff_pos
def AG0:=@Nat.zero_lt_one
def AG1:=@Int.mul_neg_of_pos_of_neg
def AG2:=@Int.mul_ne_zero
def AG3:=@Int.lt_of_mul_lt_mul_left
def AG4:=@Bool.decide_and
def AG5:=@PyProof.Rows.F.entry_set_update_loop
def AG6:=@List.zip_cons_cons
def AG7:=@List.Perm.eq_of_pairwise
def AG8:=@Int.sub_zero
def AG9:=@Int.lt_of_le_of_lt
def AHA:=@List.set_cons_succ
def AHB:=@Nat.sub_le
def AHC:=@List.reverse_cons
def AHD:=@List.reverse_perm
def AHE:=@Int.mul_nonneg_of_nonpos_of_nonpos
def AHF:=@Int.mul_nonpos_of_nonpos_of_nonneg
def AHG:=@List.drop_of_length_le
def AHH:=@Nat.le_succ
def AHI:=@List.filter_eq_nil_iff
def AHJ:=@Int.sub_mul
def AHK:=@Int.mul_sub
def AHL:=@List.getElem_inj
def AHM:=@Array.toList_inj
def AHN:=@List.ext_getElem
def AHO:=@List.Perm.append_left
def AHP:=@List.getElem?_toArray
def AHQ:=@Array.getElem?_setIfInBounds_ne
def AHR:=@List.any_nil
def AHS:=@Int.mul_le_mul_of_nonpos_left
def AHT:=@List.length_pos_iff
def AHU:=@List.flatMap_append
def AHV:=@List.countP_eq_length_filter
def AHW:=@Int.neg_pos
def AHX:=@List.mem_filterMap
def AHY:=@List.getElem?_drop
def AHZ:=@List.lookup_append
def AHa:=@List.map_inj_right
def AHb:=@Array.getD_eq_getD_getElem?
def AHc:=@Nat.lt_or_eq_of_le
def AHd:=@Nat.pos_of_ne_zero
def AHe:=@List.getElem?_take
def AHf:=@List.drop_sublist
def AHg:=@List.nodup_append
def AHh:=@Array.toList_push
def AHi:=@of_decide_eq_true
def AHj:=@Nat.lt_of_succ_lt
def AHk:=@List.getElem?_inj
def AHl:=@PySem.F.slot_dict_getitem
def AHm:=@Int.mul_pos_of_neg_of_neg
def AHn:=@Int.not_lt
def AHo:=@List.getElem?_take_of_lt
def AHp:=@Nat.succ_pos
def AHq:=@List.nodup_range
def AHr:=@List.filterMap_cons_some
def AHs:=@Nat.lt_succ_self
def AHt:=@List.drop_length
def AHu:=@PySem.F.slot_list_append
def AHv:=@PySem.F.type_list_append
def AHw:=@List.all_map
def AHx:=@Nat.sub_self
def AHy:=@Nat.max_eq_right
def AHz:=@List.take_length
def AH0:=@List.not_mem_nil
def AH1:=@List.length_eq_zero_iff
def AH2:=@Int.eq_ofNat_of_zero_le
def AH3:=@List.of_mem_zip
def AH4:=@Nat.min_eq_left
def AH5:=@PySem.W.cellsFrom_some
def AH6:=@List.length_pos_of_mem
def AH7:=@PySem.F.slot_dict_iter
def AH8:=@List.nodup_nil
def AH9:=@List.getElem?_eq_none
def AIA:=@Bool.and_false
def AIB:=@List.Perm.refl
def AIC:=@Array.size_map
def AID:=@List.perm_append_comm
def AIE:=@List.drop_drop
def AIF:=@List.take_succ
def AIH:=@List.set_append_right
def AII:=@List.drop_left
def AIJ:=@Classical.choose_spec
def AIK:=@Bool.not_false
def AIL:=@Int.pow_nonneg
def AIM:=@List.foldl_nil
def AIN:=@Nat.mod_lt
def AIO:=@List.getLast?_concat
def AIQ:=@Nat.add_assoc
def AIR:=@List.getElem?_range
def AIS:=@Nat.add_lt_add_left
def AIT:=@List.length_flatMap
def AIU:=@List.filter_eq_self
def AIZ:=@List.map_id'
def AIb:=@Bool.or_comm
def AId:=@Int.le_of_eq
def AIf:=@Int.lt_trans
def AIi:=@Bool.or_true
def AIo:=@Int.min_def
def AIp:=@Int.max_def
def AIq:=@Prod.mk.inj
theorem RL{y q v:Nat}(h0:y<v)(h1:v<q):y<q:=J
theorem CI{y:Nat}(h0:3<=y):0<y:=J
theorem Ci{y q:Int}(h0:q<=y):(0:Int)<=(y-q):=J
theorem Jq{y q v:Int}(h0:(v=(0:Int))\/((y-q)=(0:Int)))(h1:¬(v=(0:Int))):y=q:=J
theorem Df{y q:Nat}(h0:y<q):(↑y:Int)<(↑q:Int):=J
theorem CM : (0:Int)<=(0:Int):=J
theorem Ew{y:Nat} : (0:Int)<=(↑y:Int):=J
theorem HZ{y:Int}(h0:(0:Int)<=y)(h1:¬(y=(0:Int))):(0:Int)<y:=J
theorem Ha{y:Nat} : y<(y+1):=J
theorem C1 : (0:Int)<=(1:Int):=J
theorem Ds{y:Int} : y<=y:=J
theorem ET{y:Int}(h0:(0:Int)<=y):(0:Int)<=(y+(1:Int)):=J
theorem FV{y q:Int}(h0:q<y):(0:Int)<(y-q):=J
theorem Fy{y q:Nat}(h0:y<(q+1))(h1:¬(y=q)):y<q:=J
theorem Dt{y:Int} : ((y-(1:Int))+(1:Int))=y:=J
theorem Ob{y:Nat}(h0:y<=12):y<=1000:=J
theorem FW{y:Int}(h0:(0:Int)<y):¬(y=(0:Int)):=J
theorem Jo : (0:Int)<(1:Int):=J
theorem FX{y q:Int}(h0:q<y):(0:Int)<=(y-q):=J
theorem Ij{y:Nat}(h0:0<y):(0:Int)<(↑y:Int):=J
theorem Kx{y:Nat} : (↑y:Int)<=(↑y:Int):=J
theorem HX{y q:Nat}(h0:y<q):y<(q+1):=J
theorem Wb{y q:Int}(h0:¬(q=y)):¬((y-q)=(0:Int)):=J
theorem Ky{y q v:Int}(h0:(y<=v)/\(v<q)):y<q:=J
theorem HY{y:Nat}(h0:3<=y):(0:Int)<(↑y:Int):=J
theorem Jp{y:Nat}(h0:3<=y):(2:Int)<=(↑y:Int):=J
theorem RN{y:Int}(h0:¬(y<(0:Int))):(0:Int)<=y:=J
theorem ADa{y q v u:Nat}(h0:y<v)(h1:v<u)(h2:u<q):y<q:=J
theorem Ik{y q:Int} : (y+(q+(1:Int)))=((y+q)+(1:Int)):=J
theorem Oc{y:Nat}(h0:0<y):¬((↑y:Int)=(0:Int)):=J
theorem MI{y q:Nat}(h0:¬(q<y)):y<=q:=J
theorem Il{y q:Int} : (y-(y+q))=(-q):=J
theorem MJ{y q:Nat}(h0:(y+1)<=q):y<=q:=J
theorem gN{y:Nat} : 0<=y:=J
theorem Kz{y q:Int}(h0:(0:Int)<=q):(y-q)<=y:=J
theorem gO{y q:Nat}(h0:(y+1)<q):y<q:=J
theorem Jr{y:Nat}(h0:3<=y):¬((↑y:Int)=(0:Int)):=J
theorem Du : (0:Int)<=(1000:Int):=J
theorem DB{y:Nat}(h0:3<=y):(1:Int)<(↑y:Int):=J
theorem Js{y q:Nat}(h0:y<=q):y<(q+1):=J
theorem wL{y q:Nat}(h0:y<q):(↑y:Int)<=(↑q:Int):=J
theorem RP{y q v:Int} : (y-q)=((y-v)+(v-q)):=J
theorem gP{y q v:Int}(h0:(q<=v)/\(v<y)):(0:Int)<((2:Int)*(y-q)):=J
theorem MK{y:Int}(h0:(0:Int)<=y):(0:Int)<=y:=J
theorem Wd{y q:Int} : ((y+q)-y)=q:=J
theorem wM{y q:Int}{v:Nat}(h0:(0:Int)<=q)(h1:y<(↑v:Int)):(y-q)<(↑v:Int):=J
theorem RT{y q v:Int}(h0:(y-v)=(q-v)):y=q:=J
theorem MM{y q:Nat}(h0:y<=q):y<=(q+1):=J
theorem gQ{y:Int} : (y-(y-(1:Int)))=(1:Int):=J
theorem RU{q y:Int} : ((q*y)+((0:Int)*(y-y)))=(q*y):=J
theorem Od{y q:Nat}(h0:y<=q):(y+1)<=(q+1):=J
theorem RW{y:Int}(h0:y=(0:Int)):(0:Int)<=y:=J
theorem wN{y q v u:Int}(h0:(y-q)=(v-u)):y=(q+(v-u)):=J
theorem RX{y q:Int} : (y+(q-y))=q:=J
theorem RY{y q v u Z:Int}(h0:(y*q)<((y*v)+(u*(Z-v)))):((y*q)+((0:Int)*(q-q)))<((y*v)+(u*(Z-v))):=J
theorem Oe{y q:Nat}(h0:(↑y:Int)<(↑q:Int)):y<q:=J
theorem ADb{y q:Nat}(h0:(q+3)=y):(y-1)<y:=J
theorem We{y:Nat} : (((↑y:Int)-(1:Int))+(1:Int))=(↑y:Int):=J
theorem gR{y q v:Nat}(h0:y<=((q+1)+v)):y<=(q+(v+1)):=J
theorem Of{q v y:Int}(h0:((q<=y)/\(y<v))\/((v<=y)/\(y<q))):¬(q=v):=J
theorem MF{y q:Nat}(h0:y<q):((↑y:Int)-(1:Int))<(↑q:Int):=J
theorem WY{y q:Int} : (y+(q-(1:Int)))=((y+q)-(1:Int)):=J
theorem OY : (0:Int)<(2:Int):=J
theorem Kw{y:Int}{q v:Nat}(h0:(0:Int)<=y)(h1:(q+2)<=v):((↑q:Int)-y)<(↑v:Int):=J
theorem OZ{y:Int}(h0:(1:Int)<=y):(0:Int)<y:=J
theorem WZ{y q u Z v:Int}(h0:((y*q)+(u*(Z-q)))<(y*v)):((y*q)+(u*(Z-q)))<((y*v)+((0:Int)*(v-v))):=J
theorem Wa{q y:Int} : (q*y)=((q*y)+((0:Int)*(y-y))):=J
theorem Oa{y:Int}(h0:y<(0:Int)):(0:Int)<(-y):=J
theorem wK{y:Int}(h0:¬((0:Int)<=y)):(0:Int)<(-y):=J
theorem RM{y q:Int} : ((y+q)-(y-(1:Int)))=(q+(1:Int)):=J
theorem gM{y:Nat} : 0<(y+1):=J
theorem MG{y:Int} : ((y+(1:Int))-(1:Int))=y:=J
namespace L2
open PySem PySem.Spec PyProof.Rows
abbrev Key:=Sum Int Str
noncomputable def L9:Key->Value->Bool
 |.inl k,v=>Value.isInt k v
 |.inr x,v=>Value.isStrOf x v
noncomputable def vc(w:World):Key->Int
 |.inl k=>hashInt k
 |.inr x=>hashStr w x
theorem Ih:∀{k:Key}{v:Value},L9 k v=true->(∃i t,k=Sum.inl i/\v=Value.int i t)\/(∃x t,k=Sum.inr x/\v=Value.str x t)
 |.inl i,v,h=>by obtain⟨t,e⟩:=Value.isInt_shape h;exact .inl ⟨i,t,rfl,e⟩
 |.inr x,v,h=>by obtain⟨t,e⟩:=Value.isStrOf_shape h;exact .inr ⟨x,t,rfl,e⟩
theorem vd(i:Int)(t:Tok):L9 (.inl i) (.int i t)=true:=by simp[L9,Value.isInt]
theorem ve(x:Str)(t:Tok):L9 (.inr x) (.str x t)=true:=by simp[L9,Value.isStrOf]
theorem vg(a b:Int):decide ((Sum.inl a:Key)=Sum.inl b)=(a==b):=by
 by_cases e:a=b
 .subst e;simp
 .have h:¬ (Sum.inl a:Key)=Sum.inl b:=λq=>e<|Sum.inl.inj q;rw[AFK h];exact(AEG.mpr e).symm
theorem vj(a b:Str):decide ((Sum.inr a:Key)=Sum.inr b)=decide (a=b):=by
 by_cases e:a=b
 .simp
 .have h:¬ (Sum.inr a:Key)=Sum.inr b:=λq=>e<|Sum.inr.inj q;simp only[AFK h,AFK e]
theorem vh(a:Int)(b:Str):decide ((Sum.inl a)=Sum.inr b)=false:=AFK λq=>nomatch q
theorem vi(a:Str)(b:Int):decide ((Sum.inr a)=Sum.inl b)=false:=AFK λq=>nomatch q
def Ex(prog:Program)(w:World):PySem.KeyKind prog w Key where
 is:=L9
 hash:=vc w
 inj:=λv a b ha hb=>by
  rcases Ih ha with⟨i,t,rfl,rfl⟩|⟨x,t,rfl,rfl⟩
  .rcases Ih hb with⟨j,u,rfl,e⟩|⟨y,u,rfl,e⟩
   .injection e with e1 _;rw[e1]
   .exact nomatch e
  .rcases Ih hb with⟨j,u,rfl,e⟩|⟨y,u,rfl,e⟩
   .exact nomatch e
   .injection e with e1 _;rw[e1]
 byValue:=λk v h=>by rcases Ih h with⟨i,t,rfl,rfl⟩|⟨x,t,rfl,rfl⟩<;>rfl
 pyHash:=λq h=>by
  rcases Ih q with⟨i,t,rfl,rfl⟩|⟨x,t,rfl,rfl⟩
  .exact wpAny_pyHash_int h
  .exact wpAny_pyHash_str h
 eqBool:=λZ q h=>by
  rcases Ih Z with⟨i,t,rfl,rfl⟩|⟨x,t,rfl,rfl⟩
  .rcases Ih q with⟨j,u,rfl,rfl⟩|⟨y,u,rfl,rfl⟩
   .rw[vg]at h;exact wpAny_eqBool_int h
   .rw[vh]at h;exact SeqAt.EqAt.int_str i t y u _ _ _ _ h
  .rcases Ih q with⟨j,u,rfl,rfl⟩|⟨y,u,rfl,rfl⟩
   .rw[vi]at h;exact SeqAt.EqAt.str_int x t j u _ _ _ _ h
   .rw[vj]at h;exact wpAny_eqBool_str h
 «strs»:=λk x t v h=>by
  rcases Ih h with⟨i,u,rfl,e⟩|⟨y,u,rfl,e⟩
  .exact nomatch e
  .injection e with e1 _
   subst e1;cases v<;>rfl
theorem wd(prog:Program)(w:World)(i:Int)(t:Tok):(Ex prog w).is (.inl i) (.int i t)=true:=vd i t
theorem we(prog:Program)(w:World)(x:Str)(t:Tok):(Ex prog w).is (.inr x) (.str x t)=true:=ve x t
inductive V where
 |Aw|bl (b:Bool)|int (i:Int)|str (x:Str)|NO (b:Array UInt8)|KU (b:UInt64)|ref (a:Addr)|ty (n:String)
def RelV:V->Value->Prop
 |.Aw,u=>u=Value.none
 |.bl b,u=>u=Value.bool b
 |.int i,u=>∃t,u=Value.int i t
 |.str x,u=>∃t,u=Value.str x t
 |.NO b,u=>∃t,u=Value.bytes b t
 |.KU b,u=>∃t,u=Value.float b t
 |.ref a,u=>u=Value.ref a
 |.ty n,u=>u=Value.type n
abbrev An:List V->List Value->Prop:=Paired RelV
theorem An.length{xs:List V}{us:List Value}(r:An xs us):xs.length=us.length:=Paired.length r
set_option tactic.hygienic false
theorem An.get:∀{xs:List V}{us:List Value}{i:Nat}{x:V},An xs us->xs[i]? = some x->∃u,us[i]? = some u/\RelV x u:=by
 intro xs us i x h
 induction h generalizing i with
 |nil=>intro e;contradiction
 |cons r t ih=>
  intro e;cases i with
  |zero=>cases e;exact⟨_,rfl,r⟩
  |succ i=>exact ih e
theorem An.append:∀{xs ys:List V}{us ws:List Value},An xs us->An ys ws->An (xs++ys) (us++ws):=by
 intro xs ys us ws h s
 induction h with
 |nil=>exact s
 |cons r t ih=>exact .cons r ih
theorem An.take:∀{xs:List V}{us:List Value}(n:Nat),An xs us->An (xs.take n) (us.take n)
 |_,_,0,_=>.nil
 |_,_,_+1,.nil=>.nil
 |_,_,n+1,.cons r t=>.cons r<|An.take n t
theorem An.drop:∀{xs:List V}{us:List Value}(n:Nat),An xs us->An (xs.drop n) (us.drop n)
 |_,_,0,r=>r
 |_,_,_+1,.nil=>.nil
 |_,_,n+1,.cons _ t=>An.drop n t
def Ff:Option V->Option Value->Prop
 |some v,some u=>RelV v u
 |none,none=>True
 |_,_=>False
def KV{κ:Type}:List (κ×V)->List (κ×Value)->Prop:=Paired λ(p:κ×V)(q:κ×Value)=>p.1=q.1/\RelV p.2 q.2
noncomputable def kV:Key->V
 |.inl i=>.int i
 |.inr x=>.str x
inductive HO where
 |lst (xs:List V)
 |tup (xs:List V)
 |dK (AI:List<|Key×V)|dT (AI:List<|List Key×V)
 |set (S:Int->Bool) (n:Nat)
 |ins (C dx:Addr) (fs:List<|Str×V)
 |own (x:Addr)
 |xd (fs:List<|Str×V)
 |met (f x:Addr)
 |XU (lo hi:Int)
 |BK (o:Obj) (u:HO)
 |LM (ps:Array Value)
 |ext (φ:Heap->Prop)
abbrev Hp:=Addr->Option HO
noncomputable def upd(H:Hp)(a:Addr)(o:HO):Hp:=λb=>if b=a then some o else H b
theorem Bu{H:Hp}{a:Addr}{o:HO}:upd H a o a=some o:=by unfold upd;rw[ADr rfl]
theorem Av{H:Hp}{a b:Addr}{o:HO}(h:b≠a):upd H a o b=H b:=by unfold upd;rw[ADs h]
theorem w9{H:Hp}{a b:Addr}{o u:HO}(h:H a=some o)(h':H b=some u)(d:o≠u):a≠b:=by intro e;subst e;rw[h]at h';exact d<|AEU h'
theorem Dv{H:Hp}{a b:Addr}{o:HO}(h:H a=some o)(h':H b=none):a≠b:=by intro e;subst e;rw[h]at h';contradiction
section
variable(P:Program)(w:World)
def Bw(H:Hp)(h:Heap)(a:Addr):HO->Prop
 |.lst xs=>xs.length<=sizeLine/\∃(its:List Value)(n:Nat),An xs its/\h.get? a=some {cls:=.type "list",data:=.seq its.toArray n}
 |.tup xs=>xs.length<=sizeLine/\∃its:List Value,An xs its/\IsTup h a its.toArray
 |.dK AI=>AI.length<=sizeLine/\(a==sysModules)=false/\∃vs,KV AI vs/\h.DictOf (Ex P w) a vs
 |.dT AI=>AI.length<=sizeLine/\(a==sysModules)=false/\∃xs:List<|List Key×Addr×Value,
  Paired (λ(p:List Key×V)(q:List Key×Addr×Value)=>p.1=q.1/\H q.2.1=some (.tup<|p.1.map kV)/\RelV p.2 q.2.2) AI xs/\
  ∃o es Y,h.get? a=some o/\o.ExactDict/\o.data=.dict es Y/\es.toList=xs.map (entryOfKey<|tupleKind<|Ex P w)/\(xs.map (·.1)).Nodup
 |.set S n=>h.SetOf (intKind P w) a S n
 |.ins C dx fs=>H dx=some (.own a)/\fs.length<=1000/\dx≠a/\h.get? a=some (PySem.W.instObj C dx)/\
  ∃mA,h.Ns1 dx mA/\(∀f,Ff (fs.lookup f)<|mA f)/\PySem.Within mA (fs.map (·.1))
 |.own _=>∃o,h.get? a=some o
 |.xd fs=>∃mA,h.Ns1 a mA/\∀f,Ff (fs.lookup f)<|mA f
 |.XU lo hi=>∃t u v,h.get? a=some {cls:=.type "range",data:=.fields #[.int lo t,.int hi u,.int 1 v]}
 |.BK o u=>h.get? a=some o/\Bw H h a u
 |.LM ps=>h.get? a=some {cls:=.none,data:=.fields ps}
 |.met f x=>h.get? a=some (PySem.W.methodObj (.ref f)<|.ref x)
 |.ext φ=>φ h/\(∃o,h.get? a=some o)/\∀y Z:Heap,φ y->(∀o,y.get? a=some o->Z.get? a=some o)->φ Z
def Bn(H:Hp)(h:Heap):Prop:=∀a o,H a=some o->Bw P w H h a o
end
section
variable{P:Program}{w:World}{H H':Hp}{h h':Heap}{a:Addr}{o:HO}
theorem Bw.lt(x:Bw P w H h a o):a<h.objs.size:=by
 cases o with
 |lst xs=>obtain⟨_,_,_,_,e⟩:=x;exact Heap.lt_size e
 |tup xs=>obtain⟨_,_,_,p⟩:=x;exact p.lt
 |dK AI=>obtain⟨_,_,_,_,o,_,_,e,_⟩:=x;exact Heap.lt_size e
 |dT AI=>obtain⟨_,_,_,_,o,_,_,e,_⟩:=x;exact Heap.lt_size e
 |set S n=>obtain⟨o,_,_,_,e,_⟩:=x;exact Heap.lt_size e
 |ins C dx fs=>obtain⟨_,_,_,e,_⟩:=x;exact Heap.lt_size e
 |own y=>obtain⟨_,e⟩:=x;exact Heap.lt_size e
 |xd fs=>obtain⟨_,⟨_,_,_,e,_⟩,_⟩:=x;exact Heap.lt_size e
 |XU lo hi=>obtain⟨_,_,_,e⟩:=x;exact Heap.lt_size e
 |BK ob u=>obtain⟨e,_⟩:=x;exact Heap.lt_size e
 |LM ps=>exact Heap.lt_size (show h.get? a=some _ from x)
 |met f y=>exact Heap.lt_size (show h.get? a=some _ from x)
 |ext φ=>obtain⟨_,⟨_,e⟩,_⟩:=x;exact Heap.lt_size e
theorem Paired.Og{α β:Type}{F G:α->β->Prop}:∀{l₁:List α}{l₂:List β},Paired F l₁ l₂->(∀a b,F a b->G a b)->Paired G l₁ l₂:=by
 intro l m h f
 induction h with
 |nil=>exact .nil
 |cons r t ih=>exact .cons (f _ _ r) ih
theorem Bw.Me(x:Bw P w H h a o)(k:∀b u,(b=a\/H b=some (.own a))->h.get? b=some u->h'.get? b=some u) (ho:∀b,H b=some (.own a)->H' b=some (.own a)) (Q:∀b xs,H b=some (.tup xs)->H' b=some (.tup xs)):Bw P w H' h' a o:=by
 induction o with
 |lst xs=>obtain⟨z,its,n,r,e⟩:=x;exact⟨z,its,n,r,k _ _ (.inl rfl) e⟩
 |tup xs=>obtain⟨z,its,r,Z,e,c⟩:=x;exact⟨z,its,r,Z,k _ _ (.inl rfl) e,c⟩
 |dK AI=>obtain⟨z,y,vs,r,Z,es,Y,e,c⟩:=x;exact⟨z,y,vs,r,Z,es,Y,k _ _ (.inl rfl) e,c⟩
 |dT AI=>
  obtain⟨z,y,xs,r,Z,es,Y,e,c⟩:=x;exact⟨z,y,xs,Paired.Og r λp q z=>⟨z.1,Q _ _ z.2.1,z.2.2⟩,Z,es,Y,k _ _ (.inl rfl) e,c⟩
 |set S n=>obtain⟨Z,es,Y,t,e,c⟩:=x;exact⟨Z,es,Y,t,k _ _ (.inl rfl) e,c⟩
 |ins C dx fs=>
  obtain⟨d,z,ne,e,mA,⟨od,es,Y,O,c⟩,r⟩:=x;exact⟨ho _ d,z,ne,k _ _ (.inl rfl) e,mA,⟨od,es,Y,k _ _ (.inr d) O,c⟩,r⟩
 |own y=>obtain⟨Z,e⟩:=x;exact⟨Z,k _ _ (.inl rfl) e⟩
 |xd fs=>obtain⟨mA,⟨od,es,Y,e,c⟩,r⟩:=x;exact⟨mA,⟨od,es,Y,k _ _ (.inl rfl) e,c⟩,r⟩
 |XU lo hi=>obtain⟨t,u,v,e⟩:=x;exact⟨t,u,v,k _ _ (.inl rfl) e⟩
 |BK Z u ih=>obtain⟨e,q⟩:=x;exact⟨k _ _ (.inl rfl) e,ih q⟩
 |LM ps=>
  have e:=x;exact k a _ (.inl rfl) e
 |met f y=>
  have e:=x;exact k a _ (.inl rfl) e
 |ext φ=>obtain⟨p,⟨o,e⟩,st⟩:=x;exact⟨st _ _ p λo q=>k _ _ (.inl rfl) q,⟨o,k _ _ (.inl rfl) e⟩,st⟩
theorem Bn.lt(x:Bn P w H h)(e:H a=some o):a<h.objs.size:=(x a o e).lt
theorem Bn.fresh(x:Bn P w H h)(e:h.objs.size<=a):H a=none:=by
 cases q:H a with
 |none=>rfl
 |some u=>exact absurd (AEB (x.lt q) e) (AF7 _)
theorem Bn.kept(x:Bn P w H h)(k:∀b u,h.get? b=some u->h'.get? b=some u):Bn P w H h':=λa o e=>
 (x a o e).Me (λb u _ q=>k b u q) (λ_ q=>q) λ_ _ q=>q
theorem Bn.laid(x:Bn P w H h)(k:∀b u,h.get? b=some u->h'.get? b=some u)(hp:h.objs.size<=a)(new:Bw P w (upd H a o) h' a o):Bn P w (upd H a o) h':=λb u e=>by
 have hn:=x.fresh hp;by_cases hb:b=a
 .subst hb;rw[Bu]at e;cases e;exact new
 .rw[Av hb]at e;exact(x b u e).Me (λc v _ q=>k c v q) (λc q=>by rw[Av<|Dv q hn];exact q) λc xs q=>by rw[Av<|Dv q hn];exact q
end
def Rd(H:Hp)(a:Addr)(u:HO):Prop:=H a=some u\/∃o,H a=some (.BK o u)
theorem Rd.ok{P:Program}{w:World}{H:Hp}{h:Heap}{a:Addr}{u:HO}(r:Rd H a u)(x:Bn P w H h):Bw P w H h a u:=by
 rcases r with r|⟨o,r⟩
 .exact x a u r
 .obtain⟨_,q⟩:=x a _ r;exact q
def ND:Option HO->Prop
 |some (.lst _)=>True
 |some (.dK _)=>True
 |some (.dT _)=>True
 |some (.set _ _)=>True
 |some (.ins _ _ _)=>True
 |some (.ext _)=>True
 |_=>False
section
variable{P:Program}{w:World}{H:Hp}{h h':Heap}{x e:Addr}{o':HO}
theorem Bn.write(ok:Bn P w H h)(Z:ND<|H x)(he:e=x\/H e=some (.own x))(k:∀b u,b≠e->h.get? b=some u->h'.get? b=some u)(D:∃u,h'.get? e=some u) (new:Bw P w (upd H x o') h' x o'):Bn P w (upd H x o') h':=λb u q=>by
 have Q:∀c y,H c=some (.own y)->c≠x:=λc y r z=>by subst z;rw[r]at Z;exact Z
 have F:∀c xs,H c=some (.tup xs)->c≠x:=λc xs r z=>by subst z;rw[r]at Z;exact Z
 by_cases hb:b=x
 .subst hb;rw[Bu]at q;cases q;exact new
 .rw[Av hb]at q;by_cases Y:b=e
  .have O:H b=some (.own x):=by
    rcases he with z|z
    .exact absurd (Y.trans z) hb
    .rw[Y];exact z
   rw[q]at O;cases O;obtain⟨v,R⟩:=D;exact⟨v,by rw[Y];exact R⟩
  .refine(ok b u q).Me (λc v hc r=>k c v ?_ r) (λc r=>by rw[Av<|Q c b r];exact r) λc xs r=>by rw[Av<|F c xs r];exact r
   rcases hc with rfl|hc
   .exact Y
   .rintro rfl;rcases he with z|z
    .exact Q c b hc z
    .rw[hc]at z;cases z;exact hb rfl
end
structure Un(fs ex:List Addr)(H H':Hp)(h h':Heap):Prop where
 keep:∀b o,h.get? b=some o->H b=none->b∉fs->b∉ex->h'.get? b=some o
 slot:∀b o,h.get? b=some o->H b=none->b∈fs->b∉ex->∃sl,h'.get? b=some {o with slots:=sl}
 free:∀b o,h.get? b=some o->H b=none->b∉ex->H' b=none
 there:∀b o,h.get? b=some o->b∉ex->∃o',h'.get? b=some o'
 F7:∀b xs,H b=some (.tup xs)->H' b=some (.tup xs)
 Fp:∀b o u,H b=some (.BK o u)->H' b=some (.BK o u)
 Iz:∀b ps,H b=some (.LM ps)->∃more,H' b=some (.LM<|ps++more)
section
variable{fs rE ex Nk:List Addr}{H H1 H2:Hp}{h h1 h2 h':Heap}{a x e:Addr}{o:HO}
theorem Un.any(u:Un fs ex H H1 h h1){b:Addr}{y:Obj}(q:h.get? b=some y)(n:H b=none)(v:b∉ex):∃sl,h1.get? b=some {y with slots:=sl}:=by
 by_cases hb:b∈fs
 .exact u.slot b y q n hb v
 .exact⟨y.slots,u.keep b y q n hb v⟩
theorem Un.kept(k:∀b u,h.get? b=some u->h'.get? b=some u):Un fs ex H H h h':=
 ⟨λb y q _ _ _=>k b y q,λb y q _ _ _=>⟨y.slots,k b y q⟩,λ_ _ _ n _=>n,λb y q _=>⟨y,k b y q⟩,λ_ _ q=>q,λ_ _ _ q=>q,λ_ ps q=>⟨#[],by rw[q];simp⟩⟩
theorem Un.refl:Un fs ex H H h h:=Un.kept λ_ _ q=>q
theorem Un.laid(k:∀b u,h.get? b=some u->h'.get? b=some u)(hp:h.objs.size<=a)(hn:H a=none):Un fs ex H (upd H a o) h h' where
 keep:=λb u q _ _ _=>k b u q
 slot:=λb u q _ _ _=>⟨u.slots,k b u q⟩
 free:=λb u q n _=>by rw[Av<|AEA<|AEB (Heap.lt_size q) hp];exact n
 there:=λb u q _=>⟨u,k b u q⟩
 F7:=λb xs q=>by rw[Av<|Dv q hn];exact q
 Fp:=λb u xs q=>by rw[Av<|Dv q hn];exact q
 Iz:=λb ps q=>⟨#[],by rw[Av<|Dv q hn,q];simp⟩
theorem Un.write(y:ND<|H x)(he:e=x\/H e=some (.own x))(k:∀b u,b≠e->h.get? b=some u->h'.get? b=some u)(Y:∃u,h'.get? e=some u):Un fs ex H (upd H x o) h h':=by
 have v:∀b,H b=none->b≠x:=λb n z=>by subst z;rw[n]at y;exact y
 have hb:∀b,H b=none->b≠e:=λb n z=>by
  subst z;rcases he with r|r
  .exact v b n r
  .rw[n]at r;contradiction
 have hm:∀b u,H b=some u->¬ ND (some u)->b≠x:=λb u q nm z=>by subst z;rw[q]at y;exact nm y
 refine⟨λb u q n _ _=>k b u (hb b n) q,λb u q n _ _=>⟨u.slots,k b u (hb b n) q⟩,λb u q n _=>by rw[Av<|v b n];exact n,λb u q _=>?_,
  λb xs q=>by rw[Av<|hm b _ q λz=>z];exact q,λb u xs q=>by rw[Av<|hm b _ q λz=>z];exact q,λb ps q=>⟨#[],by rw[Av<|hm b _ q λz=>z,q];simp⟩⟩
 by_cases Z:b=e
 .subst Z;exact Y
 .exact⟨u,k b u Z q⟩
end
noncomputable def Sz(h:Heap)(H:Hp):List Addr:=(List.range h.objs.size).filter λa=>(H a).isSome
def Jc(h:Heap)(H:Hp):Heap:=PySem.W.hideAll h<|Sz h H
theorem tU(h:Heap)(H:Hp):(Jc h H).objs.size=h.objs.size:=PySem.W.hideAll_size _ _
theorem tT{h:Heap}{H:Hp}{b:Addr}{o:Obj}(e:h.get? b=some o)(n:H b=none):(Jc h H).get? b=some o:=
 PySem.W.hideAll_get _ e λhm=>by have q:=(AEY.mp hm).2;rw[n]at q;simp at q
theorem xJ{h:Heap}{H:Hp}{b:Addr}{o:Obj}(e:(Jc h H).get? b=some o):h.get? b=some o/\H b=none:=by
 have y:=PySem.W.of_hideAll (Sz h H) e;refine⟨y,?_⟩;cases q:H b with
 |none=>rfl
 |some x=>
  have hm:b∈Sz h H:=AEY.mpr ⟨AD2.mpr<|Heap.lt_size y,by simp[q]⟩;have z:(Jc h H).get? b=none:=PySem.W.hideAll_none (Sz h H) hm;rw[z]at e;contradiction
structure Mod(K:PySem.W.Frag)(mg:Str->Option Value)(base:Heap):Prop where
 WN:K.In base
 glob:base.Ns mainGlobals mg
 blt:∃mb,base.Ns builtinsNs mb/\∀x:Str,x≠"__name__"->mb x=bootBuiltins x
 nolimit:base.NoLimit
structure Cx where
 prog:Program
 w:World
 K:PySem.W.Frag
 mg:Str->Option Value
 base:Heap
 A:Around
 N:List Str
 Cm:Shared
 AU:Hp
 env:Env
 outer:List Env
 stack:List Env
 ex:List Addr
 fn:Str->Bool
 calm:Bool
 pn:List<|Addr×Obj
 xe:Value->Shared->Prop
noncomputable def En(l:List Env):List Addr:=l.filterMap (·.frame)
abbrev Cx.fs(X:Cx):List Addr:=En X.outer
def FG(sc:Scope)(x:Str):Prop:=sc.names.lookup x=some .local\/sc.names.lookup x=some .cell\/sc.names.lookup x=some .free
def Loc(sc:Scope)(x:Str):Prop:=sc.names.lookup x=some .local\/sc.names.lookup x=some .cell
def Look(env:Env)(h:Heap)(m:Str->Option Value)(x:Str)(u:Value):Prop:=
 (env.kindOf x=some .local/\m x=some u)\/((env.kindOf x=some .cell\/env.kindOf x=some .free)/\∃c,env.cells.lookup x=some c/\h.IsCell c (some u))
structure Cx.Ok(X:Cx):Prop where
 mod:Mod X.K X.mg X.base
 kind:X.env.scope.kind=.function
 glob:X.env.globals=mainGlobals
 blt:X.env.builtins=builtinsNs
 above:X.Cm.heap.objs.size<=X.env.locals
 inj:∀x y c,X.env.cells.lookup x=some c->X.env.cells.lookup y=some c->x=y
 has:∀x,(X.env.kindOf x=some .cell\/X.env.kindOf x=some .free)->∃c,X.env.cells.lookup x=some c
 NP:∀x c,X.fn x=true->X.env.cells.lookup x=some c->X.Cm.heap.objs.size<=c
 hd:X.calm=true->X.A.handled=none
 frames:X.A.frames=some X.stack
 O5:X.stack=X.outer\/(X.stack=X.env::X.outer/\X.env.frame=some X.env.locals)
 QV:∀b∈X.ex,b≠X.env.locals/\∀x c,X.env.cells.lookup x=some c->c≠b
 bs:∀b o,X.base.get? b=some o->X.Cm.heap.get? b=some o/\X.AU b=none
 JI:X.base.objs.size<=X.Cm.heap.objs.size
 Om:∀b o,X.base.get? b=some o->b∉X.ex
 Nl:∀b∈X.ex,b∉X.fs
 GS:X.Cm.heap.FunFrames X.base X.outer
 Lv:∀b∈X.fs,X.AU b=none
structure Inv(X:Cx)(AB:List (Addr×Obj))(σ:List (Option V))(H:Hp)(s:Shared):Prop where
 ok:X.Ok
 os:s.os=X.Cm.os
 bare:AllBare s.gens
 base:Un X.fs X.ex X.AU H X.Cm.heap s.heap
 loc:∃m,s.heap.Ns X.env.locals m/\∀(i:Nat)(x:Str)(v:V),X.N[i]? = some x->σ[i]? = some (some v)->FG X.env.scope x->∃u,RelV v u/\Look X.env s.heap m x u
 cell:∀x c,X.env.cells.lookup x=some c->∃v,s.heap.IsCell c v
 free:H X.env.locals=none
 GR:∀x c,X.env.cells.lookup x=some c->H c=none
 pin:∀p∈X.pn++AB,s.heap.get? p.1=some p.2/\H p.1=none/\p.1≠X.env.locals/\p.1∉X.fs/\∀v,p.2.data≠.cell v
 AX:Bn X.prog X.w H s.heap
 len:σ.length=X.N.length
section
variable{X:Cx}{AB:List (Addr×Obj)}{σ:List (Option V)}{H H':Hp}{s:Shared}{h':Heap}
theorem Cx.Ok.xA(ok:X.Ok){b:Addr}{o:Obj}(e:X.base.get? b=some o):b∉X.fs:=λhb=>by have:=(ok.GS.mem hb).1;rw[e]at this;contradiction
theorem Inv.bs(I:Inv X AB σ H s):∀b o,X.base.get? b=some o->s.heap.get? b=some o/\H b=none:=λb o e=>
 ⟨I.base.keep b o (I.ok.bs b o e).1 (I.ok.bs b o e).2 (I.ok.xA e)<|I.ok.Om b o e,I.base.free b o (I.ok.bs b o e).1 (I.ok.bs b o e).2<|I.ok.Om b o e⟩
theorem Inv.bk(I:Inv X AB σ H s):∀b o,X.base.get? b=some o->s.heap.get? b=some o:=λb o e=>(I.bs b o e).1
theorem Inv.mod(I:Inv X AB σ H s):Mod X.K X.mg X.base:=I.ok.mod
theorem Inv.Bc(I:Inv X AB σ H s):X.K.In s.heap:=I.ok.mod.WN.keeps I.bk
theorem Inv.lt(I:Inv X AB σ H s):X.env.locals<s.heap.objs.size:=let ⟨_,hn,_⟩:=I.loc;hn.lt
theorem Inv.sz(I:Inv X AB σ H s):X.Cm.heap.objs.size<=s.heap.objs.size:=AEF I.ok.above<|AEg I.lt
theorem Inv.xD(I:Inv X AB σ H s){a:Addr}(h:s.heap.objs.size<=a):a∉X.fs:=λhb=>by obtain⟨_,o,ho,_⟩:=I.ok.GS.mem hb;exact absurd (AEB (Heap.lt_size ho)<|AEF I.sz h) (AF7 _)
theorem Inv.J9(I:Inv X AB σ H s):∀x c,X.env.cells.lookup x=some c->c≠X.env.locals:=λx c e z=>by obtain⟨v,o,ho,hd⟩:=I.cell x c e;obtain⟨m,⟨o',es,ep,y,q,_⟩,_⟩:=I.loc;rw[z,y]at ho;cases ho;rw[q]at hd;contradiction
theorem Inv.GS(I:Inv X AB σ H s):s.heap.FunFrames X.base X.outer:=by
 have all:∀(l:List Env),(∀b∈En l,b∈X.fs)->X.Cm.heap.FunFrames X.base l->s.heap.FunFrames X.base l:=by
  intro l
  induction l with
  |nil=>intro _ _;trivial
  |cons env r ih=>
   intro hs v;obtain⟨u,⟨L,o,y,hn,ho,hd⟩,Z⟩:=v;have q:=hs L (by unfold En;simp only[AGT,y];exact AD6);obtain⟨sl,e⟩:=I.base.slot L o ho (I.ok.Lv L q) q λz=>I.ok.Nl L z q
   exact⟨u,⟨L,_,y,hn,e,hd⟩,ih (λb hb=>hs b (by unfold En;simp only[AGT,y];exact AD4 _ hb)) Z⟩
 exact all X.outer (λ_ hb=>hb) I.ok.GS
theorem Inv.stack(I:Inv X AB σ H s):s.heap.FunFrames X.base X.stack:=by
 rcases I.ok.O5 with e|⟨e,y⟩
 .rw[e];exact I.GS
 .rw[e];obtain⟨m,hn,_⟩:=I.loc;refine .cons (by rw[I.ok.kind];decide) y hn ?_ I.GS;exact Heap.get?_none_of_le (AEF I.ok.JI I.ok.above)
theorem Inv.Si(I:Inv X AB σ H s):∀b∈En X.stack,b∈X.env.locals::X.fs:=λb hb=>by
 rcases I.ok.O5 with e|⟨e,y⟩
 .rw[e]at hb;exact AD4 _ hb
 .rw[e]at hb;unfold En at hb;simp only[AGT,y]at hb;exact hb
theorem Inv.kJ(I:Inv X AB σ H s):∀b∈En X.stack,H b=none:=λb hb=>by
 rcases AEN.mp (I.Si b hb)with e|hb
 .rw[e];exact I.free
 .obtain⟨_,o,ho,_⟩:=I.ok.GS.mem hb;exact I.base.free b o ho (I.ok.Lv b hb) λz=>I.ok.Nl b z hb
theorem Inv.step{g':Array GenState}{t':Nat}{G:Drawn}{ch:List Addr}(I:Inv X AB σ H s) (Q:∀b∈ch,(b∈X.ex\/X.Cm.heap.objs.size<=b)/\b≠X.env.locals/\(∀x c,X.env.cells.lookup x=some c->c≠b)/\∀p∈X.pn++AB,p.1≠b) (keep:∀b o,b≠X.env.locals->b∉X.fs->b∉ch->s.heap.get? b=some o->H b=none->h'.get? b=some o) (slot:∀b o,b≠X.env.locals->b∈X.fs->b∉ch->s.heap.get? b=some o->H b=none->∃sl,h'.get? b=some {o with slots:=sl}) (free:∀b o,b∉ch->s.heap.get? b=some o->H b=none->H' b=none) (there:∀b o,b∉ch->s.heap.get? b=some o->∃o',h'.get? b=some o') (F7:∀b xs,H b=some (.tup xs)->H' b=some (.tup xs)) (Fp:∀b o u,H b=some (.BK o u)->H' b=some (.BK o u)) (Iz:∀b ps,H b=some (.LM ps)->∃more,H' b=some (.LM<|ps++more)) (ns:∀m,s.heap.Ns X.env.locals m->h'.Ns X.env.locals m) (AX:Bn X.prog X.w H' h') (S:AllBare g') : Inv X AB σ H' {s with heap:=h',gens:=g',drawn:=G,toks:=t'}:=by
 have R:∀b o,X.Cm.heap.get? b=some o->b≠X.env.locals:=λb o e=>AEA<|AEB (Heap.lt_size e) I.ok.above;have D:∀b o,X.Cm.heap.get? b=some o->b∉X.ex->b∉ch:=λb o e y hb=>by
  rcases(Q b hb).1 with z|z
  .exact y z
  .exact absurd (AEB (Heap.lt_size e) z) (AF7 _)
 have Z:∀x c,X.env.cells.lookup x=some c->∀v,s.heap.IsCell c v->h'.IsCell c v:=(by
  rintro x c e v ⟨o,ho,hd⟩;have O:=λz=>(Q c z).2.2.1 x c e rfl;by_cases hc:c∈X.fs
  .obtain⟨sl,q⟩:=slot c o (I.J9 x c e) hc O ho<|I.GR x c e;exact⟨_,q,hd⟩
  .exact⟨o,keep c o (I.J9 x c e) hc O ho<|I.GR x c e,hd⟩)
 refine⟨I.ok,I.os,S,⟨λb o e n hb y=>?_,λb o e n hb y=>?_,λb o e n y=>?_,λb o e y=>?_,λb xs e=>F7 b xs<|I.base.F7 b xs e,λb o xs e=>Fp b o xs<|I.base.Fp b o xs e,λb ps e=>?_⟩,?_,λx c e=>?_,?_,λx c e=>?_,λp hp=>?_,AX,I.len⟩
 .exact keep b o (R b o e) hb (D b o e y) (I.base.keep b o e n hb y)<|I.base.free b o e n y
 .obtain⟨sl,Y⟩:=I.base.slot b o e n hb y;obtain⟨F,P⟩:=slot b _ (R b o e) hb (D b o e y) Y<|I.base.free b o e n y;exact⟨F,P⟩
 .obtain⟨o',Y⟩:=I.base.there b o e y;exact free b o' (D b o e y) Y<|I.base.free b o e n y
 .obtain⟨o',Y⟩:=I.base.there b o e y;exact there b o' (D b o e y) Y
 .obtain⟨T,Y⟩:=I.base.Iz b ps e;obtain⟨C,P⟩:=Iz b _ Y;exact⟨T++C,by rw[P,Array.append_assoc]⟩
 .obtain⟨m,hn,E⟩:=I.loc;refine⟨m,ns m hn,λi x v Y P U=>?_⟩;obtain⟨u,r,l⟩:=E i x v Y P U;refine⟨u,r,?_⟩;rcases l with l|⟨k,c,e,z⟩
  .exact .inl l
  .exact .inr ⟨k,c,e,Z x c e _ z⟩
 .obtain⟨v,z⟩:=I.cell x c e;exact⟨v,Z x c e v z⟩
 .obtain⟨m,⟨o,_,_,ho,_⟩,_⟩:=I.loc;exact free _ o (λz=>(Q _ z).2.1 rfl) ho I.free
 .obtain⟨v,o,ho,hd⟩:=I.cell x c e;exact free c o (λz=>(Q c z).2.2.1 x c e rfl) ho<|I.GR x c e
 .obtain⟨e,n,ne,B,d⟩:=I.pin p hp;have O:=λz=>(Q p.1 z).2.2.2 p hp rfl;exact⟨keep p.1 p.2 ne B O e n,free p.1 p.2 O e n,ne,B,d⟩
theorem Inv.un{t':Nat}(I:Inv X AB σ H s)(u:Un X.fs [] H H' s.heap h')(AX:Bn X.prog X.w H' h'):Inv X AB σ H' {s with heap:=h',toks:=t'}:=by obtain⟨m,⟨o,es,ep,ho,r⟩,_⟩:=id I.loc;obtain⟨sl,q⟩:=u.any ho I.free ADk;exact I.step (ch:=[]) (λ_ z=>nomatch z) (λb o _ hb _ e n=>u.keep b o e n hb ADk) (λb o _ hb _ e n=>u.slot b o e n hb ADk) (λb o _ e n=>u.free b o e n ADk) (λb o _ e=>u.there b o e ADk) u.F7 u.Fp u.Iz (λm' hm=>by obtain⟨o',es',v,y,Z⟩:=hm;rw[ho]at y;cases y;exact⟨_,es',v,q,Z⟩) AX I.bare
theorem Inv.call{g':Array GenState}{t':Nat}{Z:Drawn}{ch:List Addr}(I:Inv X AB σ H s)(u:Un (En X.stack) ch H H' s.heap h')(AX:Bn X.prog X.w H' h')(Y:AllBare g') (q:∀b∈ch,(b∈X.ex\/X.Cm.heap.objs.size<=b)/\b≠X.env.locals/\(∀x c,X.env.cells.lookup x=some c->c≠b)/\∀p∈X.pn++AB,p.1≠b) : Inv X AB σ H' {s with heap:=h',gens:=g',drawn:=Z,toks:=t'}:=by
 obtain⟨m,⟨o,es,ep,ho,r⟩,_⟩:=id I.loc;obtain⟨sl,y⟩:=u.any ho I.free λz=>(q _ z).2.1 rfl
 exact I.step q (λb o y hb hc e n=>u.keep b o e n (λz=>(AEN.mp<|I.Si b z).elim y hb) hc) (λb o _ _ hc e n=>u.any e n hc) (λb o hc e n=>u.free b o e n hc) (λb o hc e=>u.there b o e hc) u.F7 u.Fp u.Iz (λm' hm=>by obtain⟨o',es',Q,v,O⟩:=hm;rw[ho]at v;cases v;exact⟨_,es',Q,y,O⟩) AX Y
theorem Inv.turned{t':Nat}{it:Addr}(I:Inv X AB σ H s)(k:∀b o,b≠it->s.heap.get? b=some o->h'.get? b=some o)(hn:H it=none)(y:it≠X.env.locals) (Y:it∈X.ex\/X.Cm.heap.objs.size<=it) (Q:∀x c,X.env.cells.lookup x=some c->c≠it) (h3:∀p∈X.pn++AB,p.1≠it):Inv X AB σ H {s with heap:=h',toks:=t'}:=by
 have Z:∀b u,H b=some u->b≠it:=λb u e z=>by rw[z,hn]at e;contradiction
 refine I.step (ch:=[it]) (λb hb=>?_) (λb o _ _ hc e _=>k b o (λz=>hc<|by simp[z]) e) (λb o _ _ hc e _=>⟨o.slots,k b o (λz=>hc<|by simp[z]) e⟩) (λ_ _ _ _ n=>n)
  (λb o hc e=>⟨o,k b o (λz=>hc<|by simp[z]) e⟩) (λ_ _ e=>e) (λ_ _ _ e=>e) (λb ps e=>⟨#[],by rw[e];simp⟩) (λm hm=>?_) (λb u e=>?_) I.bare
 .have e:=by simpa using hb
  subst e;exact⟨Y,y,Q,h3⟩
 .obtain⟨o,es,O,ho,r⟩:=hm;exact⟨o,es,O,k _ o (AFH y) ho,r⟩
 .refine(I.AX b u e).Me (λc v hc q=>k c v ?_ q) (λ_ q=>q) λ_ _ q=>q;rcases hc with z|z
  .rw[z];exact Z b u e
  .exact Z c _ z
theorem Inv.tok(I:Inv X AB σ H s)(t:Nat):Inv X AB σ H {s with toks:=t}:=I.un Un.refl I.AX
theorem Inv.kept{t':Nat}(I:Inv X AB σ H s)(k:∀b u,s.heap.get? b=some u->h'.get? b=some u):Inv X AB σ H {s with heap:=h',toks:=t'}:=I.un (Un.kept k)<|I.AX.kept k
theorem Inv.laid{a:Addr}{o:HO}{t':Nat}(I:Inv X AB σ H s)(k:∀b u,s.heap.get? b=some u->h'.get? b=some u)(hp:s.heap.objs.size<=a)(new:Bw X.prog X.w (upd H a o) h' a o) : Inv X AB σ (upd H a o) {s with heap:=h',toks:=t'}:=I.un (Un.laid k hp<|I.AX.fresh hp)<|I.AX.laid k hp new
theorem Inv.write{x e:Addr}{o:HO}{t':Nat}(I:Inv X AB σ H s)(y:ND<|H x)(he:e=x\/H e=some (.own x))(k:∀b u,b≠e->s.heap.get? b=some u->h'.get? b=some u)(q:∃u,h'.get? e=some u) (new:Bw X.prog X.w (upd H x o) h' x o):Inv X AB σ (upd H x o) {s with heap:=h',toks:=t'}:=I.un (Un.write y he k q)<|I.AX.write y he k q new
theorem Inv.jE{y:List (Addr×Obj)}(I:Inv X AB σ H s)(h:∀p∈y,s.heap.get? p.1=some p.2/\H p.1=none/\p.1≠X.env.locals/\p.1∉X.fs/\∀v,p.2.data≠.cell v):Inv X y σ H s:=
 ⟨I.ok,I.os,I.bare,I.base,I.loc,I.cell,I.free,I.GR,λp hp=>(AD7.mp hp).elim (λz=>I.pin p<|AEp _ z)<|h p,I.AX,I.len⟩
theorem iJ{N:List Str}(y:N.Nodup){i j:Nat}{x:Str}(a:N[i]? = some x)(b:N[j]? = some x):i=j:=by obtain⟨h1,q⟩:=ADw.mp a;obtain⟨h2,v⟩:=ADw.mp b;exact(AHL y).mp (q.trans v.symm)
theorem kK{M:Model}{A:Around}{E:Value->Shared->Prop}{i:Nat}{x:Str}{v:V}{u:Value}{Q:Unit->Shared->Prop}(I:Inv X AB σ H s)(t:X.N.Nodup)(hi:X.N[i]? = some x)(O:Loc X.env.scope x)(r:RelV v u) (h:∀s',Inv X AB (σ.set i<|some v) H s'->(∃a,Heap.SameBut a s.heap s'.heap/\(a=X.env.locals\/X.env.cells.lookup x=some a))->Q () s') (hf:X.fn x=true\/X.env.scope.names.lookup x=some .local:=by first|exact .inl rfl|exact .inr rfl|assumption):wpAny M A (storeName X.env x u) Q E s:=by
 obtain⟨m,hn,hl⟩:=id I.loc;have tH:(X.env.scope.kind == .class||(X.env.scope.kind == .module&&X.env.locals != X.env.globals))=false:=by rw[I.ok.kind];rfl
 have dh:i<σ.length:=by rw[I.len];exact(ADw.mp hi).1
 have J9:=I.J9;have Z:∀{a:Addr}{h':Heap},(∃o,s.heap.get? a=some o/\H a=none)->Heap.SameBut a s.heap h'->Bn X.prog X.w H h':=λ{a h'} ha hs b ob e=>by
  obtain⟨_,_,Ja⟩:=ha;refine(I.AX b ob e).Me (λc F hc q=>(hs.2 c ?_).trans q) (λ_ q=>q) λ_ _ q=>q;rintro rfl;rcases hc with rfl|hc
  .rw[Ja]at e;contradiction
  .rw[Ja]at hc;contradiction
 rcases O with hk|hk
 .refine wpAny_storeName_local hk hn (λh' Vn hs=>?_) tH;obtain⟨oL,_,_,Kk,_⟩:=id hn;refine h _ ⟨I.ok,I.os,I.bare,⟨λb o e n hb O=>?_,λb o e n hb O=>?_,I.base.free,λb o e O=>?_,I.base.F7,I.base.Fp,I.base.Iz⟩,⟨_,Vn,λj y B Y P G=>?_⟩,λy c e=>?_,I.free,I.GR,λp hp=>?_,Z ⟨oL,Kk,I.free⟩ hs,by simpa using I.len⟩ ⟨_,hs,.inl rfl⟩
  .exact(hs.2 b<|AEA<|AEB (Heap.lt_size e) I.ok.above).trans (I.base.keep b o e n hb O)
  .obtain⟨sl,Y⟩:=I.base.slot b o e n hb O;exact⟨sl,(hs.2 b<|AEA<|AEB (Heap.lt_size e) I.ok.above).trans Y⟩
  .obtain⟨o',Y⟩:=I.base.there b o e O;exact⟨o',(hs.2 b<|AEA<|AEB (Heap.lt_size e) I.ok.above).trans Y⟩
  .by_cases D:j=i
   .subst D;rw[hi]at Y;cases Y;rw[AGc dh]at P;cases P;exact⟨u,r,.inl ⟨hk,ADk⟩⟩
   .rw[AEb<|AFH D]at P;obtain⟨S,T,q⟩:=hl j y B Y P G;refine⟨S,T,?_⟩;rcases q with⟨k,e⟩|⟨k,c,e,z⟩
    .refine .inl ⟨k,?_⟩;have:y≠x:=λe=>D<|iJ t Y<|e ▸ hi;simp[this,e]
    .exact .inr ⟨k,c,e,z.sameBut hs<|J9 y c e⟩
  .obtain⟨F,z⟩:=I.cell y c e;exact⟨F,z.sameBut hs<|J9 y c e⟩
  .obtain⟨e,n,ne,C,d⟩:=I.pin p hp;exact⟨(hs.2 p.1 ne).trans e,n,ne,C,d⟩
 .have U:X.fn x=true:=by
   rcases hf with z|z
   .exact z
   .rw[z]at hk;contradiction
  obtain⟨c,hc⟩:=I.ok.has x<|.inl hk;obtain⟨F,z⟩:=I.cell x c hc;refine wpAny_storeName_cell I.ok.kind hk hc z λh' HF hs=>?_;obtain⟨oc,eD,uK⟩:=id z;refine h {s with heap:=h'} ⟨I.ok,I.os,I.bare,⟨λb o e n hb O=>?_,λb o e n hb O=>?_,I.base.free,λb o e O=>?_,I.base.F7,I.base.Fp,I.base.Iz⟩,⟨m,hn.sameBut hs<|AFH<|J9 x c hc,λj y B Y P G=>?_⟩,λy R e=>?_,I.free,I.GR,λp hp=>?_,Z ⟨oc,eD,I.GR x c hc⟩ hs,by simpa using I.len⟩ ⟨c,hs,.inr hc⟩
  .exact(hs.2 b<|AEA<|AEB (Heap.lt_size e)<|I.ok.NP x c U hc).trans (I.base.keep b o e n hb O)
  .obtain⟨sl,Y⟩:=I.base.slot b o e n hb O;exact⟨sl,(hs.2 b<|AEA<|AEB (Heap.lt_size e)<|I.ok.NP x c U hc).trans Y⟩
  .obtain⟨o',Y⟩:=I.base.there b o e O;exact⟨o',(hs.2 b<|AEA<|AEB (Heap.lt_size e)<|I.ok.NP x c U hc).trans Y⟩
  .by_cases D:j=i
   .subst D;rw[hi]at Y;cases Y;rw[AGc dh]at P;cases P;exact⟨u,r,.inr ⟨.inl hk,c,hc,HF⟩⟩
   .rw[AEb<|AFH D]at P;obtain⟨S,T,q⟩:=hl j y B Y P G;refine⟨S,T,?_⟩;rcases q with q|⟨k,R,e,z'⟩
    .exact .inl q
    .refine .inr ⟨k,R,e,z'.sameBut hs ?_⟩;rintro rfl;exact D<|iJ t Y<|I.ok.inj _ _ _ e hc ▸ hi
  .by_cases HG:R=c
   .subst HG;exact⟨_,HF⟩
   .obtain⟨w2,z2⟩:=I.cell y R e;exact⟨w2,z2.sameBut hs HG⟩
  .obtain⟨e,n,ne,C,d⟩:=I.pin p hp;refine⟨(hs.2 p.1 ?_).trans e,n,ne,C,d⟩;intro q;rw[q,eD]at e;have q':=AEU e;exact d F (by rw[<-q'];exact uK)
theorem Sj{M:Model}{A:Around}{E:Value->Shared->Prop}{i:Nat}{x:Str}{v:V}{u:Value}{Q:Unit->Shared->Prop}(I:Inv X AB σ H s)(y:X.N.Nodup)(hi:X.N[i]? = some x)(q:Loc X.env.scope x)(r:RelV v u) (h:∀s',Inv X AB (σ.set i<|some v) H s'->Q () s') (Z:X.fn x=true\/X.env.scope.names.lookup x=some .local:=by first|exact .inl rfl|exact .inr rfl|assumption):wpAny M A (storeName X.env x u) Q E s:=
 kK I y hi q r (λs' Y _=>h s' Y) Z
theorem Inv.oJ{s':Shared}{ch:List Addr}(I:Inv X AB σ H s)(ho:s'.os=s.os)(u:Un (En X.stack) ch H H' s.heap s'.heap)(AX:Bn X.prog X.w H' s'.heap)(y:AllBare s'.gens) (q:∀b∈ch,(b∈X.ex\/X.Cm.heap.objs.size<=b)/\b≠X.env.locals/\(∀x c,X.env.cells.lookup x=some c->c≠b)/\∀p∈X.pn++AB,p.1≠b):Inv X AB σ H' s':=by obtain⟨h',g',d',t',o'⟩:=s';have e:o'=s.os:=ho;subst e;exact I.call u AX y q
end
abbrev XK:=Value->Option Addr->Hp->Prop
abbrev St:=List<|Option V
abbrev VK:=V->Hp->Prop
abbrev TE:=St->Hp->VK->Prop
abbrev TT:=St->Hp->(Bool->Hp->Prop)->Prop
abbrev TA:=St->Hp->(List V->Hp->Prop)->Prop
structure Ends where
 nx:St->Hp->Prop
 rt:VK
 bk:St->Hp->Prop:=λ_ _=>False
 ct:St->Hp->Prop:=λ_ _=>False
abbrev TS:=Ends->St->Hp->Prop
def EP(X:Cx)(AB:List<|Addr×Obj)(σ:St)(Q:VK)(u:Value)(s':Shared):Prop:=∃v H',Inv X AB σ H' s'/\RelV v u/\Q v H'
def TP(X:Cx)(AB:List<|Addr×Obj)(σ:St)(Q:Bool->Hp->Prop)(b:Bool)(s':Shared):Prop:=∃H',Inv X AB σ H' s'/\Q b H'
def AP(X:Cx)(AB:List<|Addr×Obj)(σ:St)(Q:List V->Hp->Prop)(us:List Value)(s':Shared):Prop:=∃vs H',Inv X AB σ H' s'/\An vs us/\Q vs H'
def SP(X:Cx)(AB:List<|Addr×Obj)(D:Ends)(f:Flow)(s':Shared):Prop:=
 match f with
 |.next=>∃y H',Inv X AB y H' s'/\D.nx y H'
 |.brk=>∃y H',Inv X AB y H' s'/\D.bk y H'
 |.cont=>∃y H',Inv X AB y H' s'/\D.ct y H'
 |.ret u=>∃v y H',Inv X AB y H' s'/\RelV v u/\D.rt v H'
def PE(X:Cx)(e:Expr)(t:TE):Prop:=
 ∀(AB:List<|Addr×Obj)(s:Shared)(σ:St)(H:Hp)(Q:VK),Inv X AB σ H s->t σ H Q->wpAny (model X.prog X.w) X.A (eval e X.env) (EP X AB σ Q) X.xe s
def PT(X:Cx)(e:Expr)(t:TT):Prop:=
 ∀(AB:List<|Addr×Obj)(s:Shared)(σ:St)(H:Hp)(Q:Bool->Hp->Prop),Inv X AB σ H s->t σ H Q->wpAny (model X.prog X.w) X.A (isTrue e X.env<|eval e X.env) (TP X AB σ Q) X.xe s
def PW(X:Cx)(e:Expr)(t:TT):Prop:=
 ∀(y:Sem Value)(AB:List<|Addr×Obj)(s:Shared)(σ:St)(H:Hp)(Q:Bool->Hp->Prop),Inv X AB σ H s->t σ H Q->wpAny (model X.prog X.w) X.A (isTrue e X.env y) (TP X AB σ Q) X.xe s
theorem PW.pt{X:Cx}{e:Expr}{t:TT}(h:PW X e t):PT X e t:=h _
def PA(X:Cx)(es:List Expr)(t:TA):Prop:=
 ∀(pos:Pos)(AB:List<|Addr×Obj)(s:Shared)(σ:St)(H:Hp)(Q:List V->Hp->Prop),Inv X AB σ H s->t σ H Q->wpAny (model X.prog X.w) X.A (spliced<|backTo pos<|starEach es X.env) (AP X AB σ Q) X.xe s
def PS(X:Cx)(st:Stmt)(t:TS):Prop:=
 ∀(AB:List<|Addr×Obj)(s:Shared)(σ:St)(H:Hp)(D:Ends),Inv X AB σ H s->t D σ H->wpAny (model X.prog X.w) X.A (exec st X.env) (SP X AB D) X.xe s
def C5(X:Cx)(st:List Stmt)(t:TS):Prop:=
 ∀(AB:List<|Addr×Obj)(s:Shared)(σ:St)(H:Hp)(D:Ends),Inv X AB σ H s->t D σ H->wpAny (model X.prog X.w) X.A (execs st X.env) (SP X AB D) X.xe s
theorem Af{α:Type}{t:Sem α}{Q y:α->Shared->Prop}{M:Model}{A:Around}{E:Value->Shared->Prop}{s:Shared}(h:wpAny M A t Q E s)(q:∀a s,Q a s->y a s):wpAny M A t y E s:=wpAny_mono h q λ_ _ x=>x
section
variable{X:Cx}
def O9(i:Nat):TE:=λσ H Q=>∃v,σ[i]? = some (some v)/\Q v H
def tC(v:V):TE:=λ_ H Q=>Q v H
theorem He{i:Nat}{x:Str}{pos:Pos}(Z:X.N[i]? = some x)(Y:FG X.env.scope x)(hd:(x==("__debug__"))=false:=by decide)(O:(x==("__classdict__"))=false:=by decide):PE X (.Name x pos)<|O9 i:=by
 intro AB s σ H Q I h;obtain⟨v,e,h⟩:=h;obtain⟨m,hn,P⟩:=I.loc;obtain⟨u,r,l⟩:=P i x v Z e Y;have fin:EP X AB σ Q u s:=⟨v,H,I,r,h⟩;rcases l with⟨y,hm⟩|⟨y,c,hc,q⟩
 .exact wpAny_Name (wpAny_loadName_local I.ok.kind y hn hm fin) hd
 .rcases y with y|y
  .exact wpAny_Name (wpAny_loadName_cell I.ok.kind y hc q fin) hd
  .exact wpAny_Name (wpAny_loadName_free I.ok.kind y hc q fin O) hd
theorem W8{i j pos}:PE X (.Constant (.int i) j pos)<|tC<|.int i:=λ_ _ _ H _ I h=>wpAny_Constant_int ⟨.int i,H,I.tok _,⟨_,rfl⟩,h⟩
theorem yM{b j pos}:PE X (.Constant (.bool b) j pos)<|tC<|.bl b:=λ_ _ _ H _ I h=>Constant_bool ⟨.bl b,H,I,rfl,h⟩
theorem yd{x j pos}:PE X (.Constant (.str x) j pos)<|tC<|.str x:=λ_ _ _ H _ I h=>Calls.Constant_str ⟨.str x,H,I.tok _,⟨_,rfl⟩,h⟩
def Gl(X:Cx)(x:Str):Prop:=X.env.kindOf x=some .globalImplicit
theorem fo{E:Value->Shared->Prop}{AB:List (Addr×Obj)}{s:Shared}{σ:St}{H:Hp}{x:Str}{u:Value}{pos:Pos}{Q:Value->Shared->Prop}(I:Inv X AB σ H s)(y:Gl X x)(hm:X.mg x=some u)(h:Q u s) (hd:(x==("__debug__"))=false:=by decide):wpAny (model X.prog X.w) X.A (eval (.Name x pos) X.env) Q E s:=
 Calls.Name_function_global I.ok.kind y (Calls.loadGlobal_global (by rw[I.ok.glob];exact I.mod.glob.keeps I.bk) hm h) hd
theorem OU{E:Value->Shared->Prop}{AB:List (Addr×Obj)}{s:Shared}{σ:St}{H:Hp}{x:Str}{u:Value}{pos:Pos}{Q:Value->Shared->Prop}(I:Inv X AB σ H s)(y:Gl X x)(hm:X.mg x=none)(q:bootBuiltins x=some u)(h:Q u s) (hn:x≠"__name__":=by decide) (hd:(x==("__debug__"))=false:=by decide):wpAny (model X.prog X.w) X.A (eval (.Name x pos) X.env) Q E s:=by obtain⟨mb,v,Z⟩:=I.mod.blt;exact Calls.Name_function_global I.ok.kind y (Calls.loadGlobal_builtin (by rw[I.ok.glob];exact I.mod.glob.keeps I.bk) hm (by rw[I.ok.blt];exact v.keeps I.bk) ((Z x hn).trans q) h) hd
theorem jA{x:Str}{v:V}{u:Value}{pos:Pos}(y:Gl X x)(hm:X.mg x=some u)(r:RelV v u)(hd:(x==("__debug__"))=false:=by decide):PE X (.Name x pos)<|tC v:=
 λ_ _ _ H _ I h=>fo I y hm ⟨v,H,I,r,h⟩ hd
theorem i6{x:Str}{v:V}{u:Value}{pos:Pos}(y:Gl X x)(hm:X.mg x=none)(q:bootBuiltins x=some u)(r:RelV v u)(hn:x≠"__name__":=by decide)(hd:(x==("__debug__"))=false:=by decide):PE X (.Name x pos)<|tC v:=
 λ_ _ _ H _ I h=>OU I y hm q ⟨v,H,I,r,h⟩ hn hd
variable{a b:Expr}{ta tb:TE}{pos:Pos}
def tB(t:TE):TT:=λσ H Q=>t σ H λx y=>∃c,x=.bl c/\Q c y
theorem zN{e:Expr}{t:TE}(h:PE X e t)(he:∀y,isTrue e X.env y=(do let v<-y;standAt e.pos;holding [v] (truthy v)):=by intro _;rfl):PT X e<|tB t:=by intro AB s σ H Q I u;refine isTrue_plain (Af (h AB s σ H _ I u) ?_)<|he _;rintro v s1 ⟨x,Z,Y,O,P⟩;obtain⟨d,rfl,q⟩:=P;cases O;exact wpAny_truthy_bool ⟨Z,Y,q⟩
variable{tA Sr:TT}{rest:List Expr}
def kZ(t u:TT):TT:=λσ H Q=>t σ H λc y=>if c=true then u σ y Q else Q false y
def kg(t u:TT):TT:=λσ H Q=>t σ H λc y=>if c=true then Q true y else u σ y Q
def ABx(t:TT):TT:=λσ H Q=>t σ H λc y=>Q (!c) y
theorem zU(ha:PT X a tA):PW X (.BoolOp .And [a] pos) tA:=by
 intro wh AB s σ H Q I h;refine isTrue_and<|Af (ha AB s σ H Q I h) λc s1 e=>?_;cases c with
 |true=>exact isTrue_and_nil e
 |false=>exact e
theorem zW(ha:PT X a tA):PW X (.BoolOp .Or [a] pos) tA:=by
 intro wh AB s σ H Q I h;refine isTrue_or<|Af (ha AB s σ H Q I h) λc s1 e=>?_;cases c with
 |false=>exact isTrue_or_nil e
 |true=>exact e
theorem zT(ha:PT X a tA)(hb:PW X (.BoolOp .And (b::rest) pos) Sr):PW X (.BoolOp .And (a::b::rest) pos)<|kZ tA Sr:=by
 intro u AB s σ H Q I h;refine isTrue_and<|Af (ha AB s σ H _ I h) ?_;rintro c s1 ⟨y,q,v⟩;cases c with
 |true=>exact hb u AB s1 σ y Q q v
 |false=>exact⟨y,q,v⟩
theorem zV(ha:PT X a tA)(hb:PW X (.BoolOp .Or (b::rest) pos) Sr):PW X (.BoolOp .Or (a::b::rest) pos)<|kg tA Sr:=by
 intro u AB s σ H Q I h;refine isTrue_or<|Af (ha AB s σ H _ I h) ?_;rintro c s1 ⟨y,q,v⟩;cases c with
 |true=>exact⟨y,q,v⟩
 |false=>exact hb u AB s1 σ y Q q v
theorem zL(ha:PT X a tA):PT X (.UnaryOp .Not a pos)<|ABx tA:=by intro AB s σ H Q I h;exact isTrue_not<|ha AB s σ H (λc y=>Q (!c) y) I h
def ABi(ta tb:TE):TE:=λσ H Q=>ta σ H λx y=>∃c,x=.bl c/\if c=true then tb σ y Q else Q (.bl false) y
def ABz(ta tb:TE):TE:=λσ H Q=>ta σ H λx y=>∃c,x=.bl c/\if c=true then Q (.bl true) y else tb σ y Q
def ABy(ta:TE):TE:=λσ H Q=>ta σ H λx y=>∃c,x=.bl c/\Q (.bl (!c)) y
theorem yX{op}{t:TE}(h:PE X a t):PE X (.BoolOp op [a] pos) t:=λAB s σ H Q I y=>BoolOp_one<|h AB s σ H Q I y
theorem yL(ha:PE X a ta)(hb:PE X (.BoolOp .And (b::rest) pos) tb):PE X (.BoolOp .And (a::b::rest) pos)<|ABi ta tb:=by
 intro AB s σ H Q I h;refine BoolOp_and<|Af (ha AB s σ H _ I h) ?_;rintro v s1 ⟨x,q,u,Z,y⟩;obtain⟨c,rfl,y⟩:=y;cases Z;refine wpAny_truthy_bool ?_;cases c with
 |true=>exact hb AB s1 σ q Q u y
 |false=>exact⟨.bl false,q,u,rfl,y⟩
theorem yZ(ha:PE X a ta)(hb:PE X (.BoolOp .Or (b::rest) pos) tb):PE X (.BoolOp .Or (a::b::rest) pos)<|ABz ta tb:=by
 intro AB s σ H Q I h;refine BoolOp_or<|Af (ha AB s σ H _ I h) ?_;rintro v s1 ⟨x,q,u,Z,y⟩;obtain⟨c,rfl,y⟩:=y;cases Z;refine wpAny_truthy_bool ?_;cases c with
 |false=>exact hb AB s1 σ q Q u y
 |true=>exact⟨.bl true,q,u,rfl,y⟩
theorem yW(ha:PE X a ta):PE X (.UnaryOp .Not a pos)<|ABy ta:=by intro AB s σ H Q I h;refine UnaryOp_<|Af (ha AB s σ H _ I h) ?_;rintro v s1 ⟨x,q,u,Z,y⟩;obtain⟨c,rfl,y⟩:=y;cases Z;exact not_of<|wpAny_truthy_bool ⟨.bl (!c),q,u,rfl,y⟩
def tIf(t:TT)(ta tb:TE):TE:=λσ H Q=>t σ H λc y=>if c=true then ta σ y Q else tb σ y Q
theorem yU{c:Expr}(hc:PT X c tA)(ha:PE X a ta)(hb:PE X b tb):PE X (.IfExp c a b pos)<|tIf tA ta tb:=by
 intro AB s σ H Q I h;refine wpAny_IfExp<|Af (hc AB s σ H _ I h) ?_;rintro d s1 ⟨y,q,v⟩;cases d with
 |true=>exact ha AB s1 σ y Q q v
 |false=>exact hb AB s1 σ y Q q v
end
def B6(K:PySem.W.Frag)(H:Hp)(a:Addr)(xs:List V):Prop:=
 Rd H a (.lst xs)\/∃(o:Obj)(its:Array Value)(n:Nat),K.lookup a=some o/\o.cls=.type "list"/\o.dict=none/\o.data=.seq its n/\its.size<=sizeLine/\An xs its.toList
def BS(K:PySem.W.Frag)(H:Hp)(a:Addr)(xs:List V):Prop:=
 Rd H a (.tup xs)\/∃(o:Obj)(its:Array Value)(n:Nat),K.lookup a=some o/\o.cls=.type "tuple"/\o.data=.seq its n/\its.size<=sizeLine/\An xs its.toList
noncomputable def nK:Value->Option V
 |.none=>some .Aw
 |.bool b=>some<|.bl b
 |.int i _=>some<|.int i
 |.str x _=>some<|.str x
 |.bytes b _=>some<|.NO b
 |.float b _=>some<|.KU b
 |.ref a=>some<|.ref a
 |.type n=>some<|.ty n
 |_=>none
theorem RelV.abs{x:V}{u:Value}(r:RelV x u):nK u=some x:=by
 cases x with
 |Aw=>cases r;rfl
 |bl _=>cases r;rfl
 |int _=>obtain⟨t,rfl⟩:=r;rfl
 |str _=>obtain⟨t,rfl⟩:=r;rfl
 |NO _=>obtain⟨t,rfl⟩:=r;rfl
 |KU _=>obtain⟨t,rfl⟩:=r;rfl
 |ref _=>cases r;rfl
 |ty _=>cases r;rfl
theorem RelV.inj{x y:V}{u:Value}(r:RelV x u)(q:RelV y u):x=y:=AEU<|r.abs.symm.trans q.abs
theorem An.inj:∀{xs ys:List V}{us:List Value},An xs us->An ys us->xs=ys:=by
 intro xs ys us h
 induction h generalizing ys with
 |nil=>intro g;cases g;rfl
 |cons r t ih=>
  intro g;cases g with
  |cons r' t'=>rw[r.inj r',ih t']
section
variable{X:Cx}{AB:List (Addr×Obj)}{σ:St}{H:Hp}{s:Shared}{a:Addr}{xs ys:List V}
theorem Inv.list(I:Inv X AB σ H s)(h:B6 X.K H a xs):∃its:List Value,An xs its/\PlainL s.heap a its.toArray/\xs.length<=sizeLine:=by
 rcases h with h|⟨o,its,n,y,hc,hd,hs,hz,r⟩
 .obtain⟨z,its,n,r,e⟩:=h.ok I.AX;exact⟨its,r,⟨_,n,e,rfl,rfl,rfl⟩,z⟩
 .refine⟨its.toList,r,⟨o,n,I.Bc a o y,hc,hd,by simpa using hs⟩,?_⟩;have e:=r.length;simp only[AEo]at e;lia
theorem Inv.tuple(I:Inv X AB σ H s)(h:BS X.K H a xs):∃its:List Value,An xs its/\IsTup s.heap a its.toArray/\xs.length<=sizeLine:=by
 rcases h with h|⟨o,its,n,y,hc,hs,hz,r⟩
 .obtain⟨z,its,r,p⟩:=h.ok I.AX;exact⟨its,r,p,z⟩
 .refine⟨its.toList,r,⟨o,I.Bc a o y,hc,n,by simpa using hs⟩,?_⟩;have e:=r.length;simp only[AEo]at e;lia
theorem Inv.wA(I:Inv X AB σ H s)(h:B6 X.K H a xs)(h':B6 X.K H a ys):xs=ys:=by
 obtain⟨its,r,⟨o,n,e,_,_,d⟩,_⟩:=I.list h;obtain⟨its',v,⟨o',n',y,_,_,q⟩,_⟩:=I.list h';rw[e]at y;cases y;rw[d]at q;injection q with d1 _
 have:=by simpa using AFX Array.toList d1
 subst this;exact r.inj v
theorem Inv.ACJ(I:Inv X AB σ H s)(h:BS X.K H a xs)(h':BS X.K H a ys):xs=ys:=by
 obtain⟨its,r,⟨o,e,_,n,d⟩,_⟩:=I.tuple h;obtain⟨its',v,⟨o',y,_,n',q⟩,_⟩:=I.tuple h';rw[e]at y;cases y;rw[d]at q;injection q with d1 _
 have:its=its':=by simpa using AFX Array.toList d1
 subst this;exact r.inj v
end
noncomputable abbrev Cx.Hk(X:Cx)(E:Value->Shared->Prop):Cx:={X with xe:=E}
abbrev Cx.K3(X:Cx):Cx:=X.Hk λ_ _=>False
theorem Cx.Ok.Hk{X:Cx}(ok:X.Ok)(E:Value->Shared->Prop):(X.Hk E).Ok:=
 ⟨ok.mod,ok.kind,ok.glob,ok.blt,ok.above,ok.inj,ok.has,ok.NP,ok.hd,ok.frames,ok.O5,ok.QV,ok.bs,ok.JI,ok.Om,ok.Nl,ok.GS,ok.Lv⟩
theorem Cx.Ok.J4{X:Cx}{E:Value->Shared->Prop}(ok:(X.Hk E).Ok):X.Ok:=
 ⟨ok.mod,ok.kind,ok.glob,ok.blt,ok.above,ok.inj,ok.has,ok.NP,ok.hd,ok.frames,ok.O5,ok.QV,ok.bs,ok.JI,ok.Om,ok.Nl,ok.GS,ok.Lv⟩
section
variable{X:Cx}{AB:List (Addr×Obj)}{σ:St}{H:Hp}{s:Shared}{E:Value->Shared->Prop}
theorem Inv.Hk(I:Inv X AB σ H s)(E:Value->Shared->Prop):Inv (X.Hk E) AB σ H s:=⟨I.ok.Hk E,I.os,I.bare,I.base,I.loc,I.cell,I.free,I.GR,I.pin,I.AX,I.len⟩
theorem Inv.J4(I:Inv (X.Hk E) AB σ H s):Inv X AB σ H s:=⟨I.ok.J4,I.os,I.bare,I.base,I.loc,I.cell,I.free,I.GR,I.pin,I.AX,I.len⟩
theorem SP.J4{D:Ends}{f:Flow}{s':Shared}(h:SP (X.Hk E) AB D f s'):SP X AB D f s':=by
 cases f with
 |next=>obtain⟨y,H',I,q⟩:=h;exact⟨y,H',I.J4,q⟩
 |brk=>obtain⟨y,H',I,q⟩:=h;exact⟨y,H',I.J4,q⟩
 |cont=>obtain⟨y,H',I,q⟩:=h;exact⟨y,H',I.J4,q⟩
 |ret u=>obtain⟨v,y,H',I,r,q⟩:=h;exact⟨v,y,H',I.J4,r,q⟩
theorem C5.K3{st:List Stmt}{t:TS}(h:C5 X.K3 st t):C5 X st t:=λAB s σ H D I y=>
 wpAny_mono (h AB s σ H D (I.Hk _) y) (λ_ _ q=>q.J4) λ_ _ z=>False.elim z
end
section
variable{X:Cx}{st:Stmt}{rest:List Stmt}{t u:TS}{e:Expr}{te:TE}{pos:Pos}
def ABu:TS:=λD σ H=>D.nx σ H
def AB3(t u:TS):TS:=λD σ H=>t {D with nx:=u D} σ H
theorem XB:C5 X [] ABu:=λ_ _ σ H _ I h=>wpAny_execs_nil ⟨σ,H,I,h⟩
theorem K9(y:PS X st t)(Z:C5 X rest u):C5 X (st::rest)<|AB3 t u:=by
 intro AB s σ H D I h;refine wpAny_execs_cons<|Af (y AB s σ H {D with nx:=u D} I h) λf s1 q=>?_;cases f with
 |next=>
  obtain⟨Y,H',Q,q⟩:=q;exact Z AB s1 Y H' D Q q
 |ret v=>exact q
 |brk=>exact q
 |cont=>exact q
theorem jM(y:PS X st t):C5 X [st] t:=by
 intro AB s σ H D I h;refine wpAny_execs_cons<|Af (y AB s σ H D I h) λf s1 q=>?_;cases f with
 |next=>exact wpAny_execs_nil q
 |ret v=>exact q
 |brk=>exact q
 |cont=>exact q
theorem Inv.quiet{AB:List (Addr×Obj)}{σ:St}{H:Hp}{s:Shared}(I:Inv X AB σ H s):interactive X.env=false:=by simp[interactive,I.ok.kind]
def Su(te:TE):TS:=λD σ H=>te σ H λ_ y=>D.nx σ y
theorem Ow(he:PE X e te)(hs:swapsWith e none pos.line X.env=pure false:=by rfl):PS X (.Expr e pos)<|Su te:=by intro AB s σ H D I h;exact wpAny_Expr_any (Af (he AB s σ H _ I h) (by rintro v s1 ⟨x,y,q,r1,Z⟩;exact⟨σ,y,q,Z⟩)) I.quiet hs
def kh(te:TE):TS:=λD σ H=>te σ H D.rt
theorem SA(he:PE X e te):PS X (.Return (some e) pos)<|kh te:=by intro AB s σ H D I h;exact wpAny_Return_some<|Af (he AB s σ H _ I h) (by rintro v s1 ⟨x,y,q,Z,Y⟩;exact⟨x,σ,y,q,Z,Y⟩)
def ABq(c:TT)(t u:TS):TS:=λD σ H=>c σ H λb y=>if b=true then t D σ y else u D σ y
theorem XA{c:Expr}{a b:List Stmt}{y:TT}(hc:PT X c y)(ha:C5 X a t)(hb:C5 X b u):PS X (.If c a b pos)<|ABq y t u:=by
 intro AB s σ H D I h;refine wpAny_If<|Af (hc AB s σ H _ I h) ?_;rintro d s1 ⟨q,v,Z⟩;cases d with
 |true=>exact ha AB s1 σ q D v Z
 |false=>exact hb AB s1 σ q D v Z
def ABt:TS:=λ_ _ _=>False
theorem zE:PS X st ABt:=λ_ _ _ _ _ _ h=>h.elim
end
abbrev TG:=V->St->Hp->(St->Hp->Prop)->Prop
abbrev Hy:=List V->St->Hp->(St->Hp->Prop)->Prop
def PG(X:Cx)(q:Expr)(t:TG):Prop:=
 ∀(AB:List<|Addr×Obj)(s:Shared)(σ:St)(H:Hp)(v:V)(u:Value)(Q:St->Hp->Prop),Inv X AB σ H s->RelV v u->t v σ H Q->wpAny (model X.prog X.w) X.A (assign q X.env u) (λ_ s'=>∃y H',Inv X AB y H' s'/\Q y H') X.xe s
def Gw(X:Cx)(q:List Expr)(t:Hy):Prop:=
 ∀(AB:List<|Addr×Obj)(s:Shared)(σ:St)(H:Hp)(vs:List V)(us:List Value)(Q:St->Hp->Prop),Inv X AB σ H s->An vs us->t vs σ H Q->wpAny (model X.prog X.w) X.A (assignInOrder ((assignEach q X.env).map (·.2)) us) (λ_ s'=>∃y H',Inv X AB y H' s'/\Q y H') X.xe s
section
variable{X:Cx}{pos:Pos}
def KY(i:Nat):TG:=λv σ H Q=>Q (σ.set i<|some v) H
theorem yg{i:Nat}{x:Str}(y:X.N.Nodup)(hi:X.N[i]? = some x)(q:Loc X.env.scope x)(Z:X.fn x=true\/X.env.scope.names.lookup x=some .local:=by first|exact .inl rfl|exact .inr rfl|assumption):PG X (.Name x pos)<|KY i:=by intro AB s σ H v u Q I r h;exact wpAny_assign_Name<|Sj I y hi q r (λs' Y=>⟨_,H,Y,h⟩) Z
def rJ:Hy:=λvs σ H Q=>vs=[]/\Q σ H
def rG(t:TG)(u:Hy):Hy:=λvs σ H Q=>∃v r,vs=v::r/\t v σ H λy H'=>u r y H' Q
theorem yj:Gw X [] rJ:=by intro AB s σ H vs us Q I r h;obtain⟨e,h⟩:=h;exact assignInOrder_nil ⟨σ,H,I,h⟩
theorem yi{e:Expr}{es:List Expr}{t:TG}{u:Hy}(y:PG X e t)(q:Gw X es u) (hs:(assignEach (e::es) X.env).map (·.2)=assign e X.env::(assignEach es X.env).map (·.2):=by rfl):Gw X (e::es)<|rG t u:=by
 intro AB s σ H vs us Q I r h;obtain⟨v,vr,Z,h⟩:=h;subst Z;cases r with
 |cons r rr=>
  rw[hs];refine assignInOrder_cons<|Af (y AB s σ H _ _ _ I r h) ?_;rintro _ s1 ⟨Y,O,P,D⟩;exact q AB s1 Y O _ _ Q P rr D
def rK(K:PySem.W.Frag)(n:Nat)(t:Hy):TG:=λv σ H Q=>∃a xs,v=.ref a/\BS K H a xs/\xs.length=n/\t xs σ H Q
theorem yh{es:List Expr}{k:Nat}{t:Hy}{n:Nat}(hc:X.calm=true)(h:Gw X es t) (hn:(assignEach es X.env).length=n:=by rfl) (q:(assignEach es X.env).findIdx? (·.1)=none:=by rfl):PG X (.Tuple es k pos)<|rK X.K n t:=by intro AB s σ H v u Q I r y;obtain⟨a,xs,Z,Y,O,y⟩:=y;subst Z;cases r;obtain⟨its,rv,P,hz⟩:=I.tuple Y;refine assign_Tuple_tuple (I.ok.hd hc) P (by simp[hn,<-O,rv.length]) q λh' D=>?_;have F:Inv X AB σ H {s with heap:=h'}:=I.kept λb o e=>D b o (AEA<|Heap.lt_size e) e;exact h AB _ σ H xs _ Q F (by simpa using rv) y
def Mf(te:TE)(g:TG):TS:=λD σ H=>te σ H λx y=>g x σ y D.nx
theorem Ox{i:Nat}{x:Str}{e:Expr}{te:TE}{q:Pos}(u:X.N.Nodup)(hi:X.N[i]? = some x)(Z:Loc X.env.scope x)(he:PE X e te)(hs:swapsWith e (some<|.Name x q) pos.line X.env=pure false:=by rfl)(Y:X.fn x=true\/X.env.scope.names.lookup x=some .local:=by first|exact .inl rfl|exact .inr rfl|assumption) : PS X (.Assign [.Name x q] e pos)<|Mf te<|KY i:=by intro AB s σ H D I h;refine wpAny_Assign_Name (Af (he AB s σ H _ I h) ?_) hs;rintro v s1 ⟨y,Q,O,P,F⟩;exact Sj O u hi Z P (λs2 R=>⟨_,Q,R,F⟩) Y
def AB0(i j:Nat)(y:TA):TS:=λD σ H=>y σ H λvs q=>∃v w,vs=[v,w]/\D.nx ((σ.set i<|some v).set j<|some w) q
theorem zF{i j:Nat}{x y:Str}{a b:Expr}{P:TA}{Y Q pt:Pos}{kt k2 LA}(hc:X.calm=true)(F:X.N.Nodup)(hi:X.N[i]? = some x)(T:X.N[j]? = some y)(C:i≠j) (R:X.env.scope.names.lookup x=some .local) (B:X.env.scope.names.lookup y=some .local) (ha:PA X [a,b] P) (E:swappedStores [.Tuple [.Name x Y,.Name y Q] kt pt] (.Tuple [a,b] k2 LA) X.env=pure (some [x,y])) (hs:swapsWithSole [.Tuple [.Name x Y,.Name y Q] kt pt] (.Tuple [a,b] k2 LA) pos.line X.env=pure false:=by rfl) : PS X (.Assign [.Tuple [.Name x Y,.Name y Q] kt pt] (.Tuple [a,b] k2 LA) pos)<|AB0 i j P:=by
 intro AB s σ H D I h;refine wpAny_bind<|wpAny_standAt ?_;refine wpAny_bind<|wpAny_pure ?_;refine wpAny_bind<|Tuple_<|Af (ha _ AB s σ H _ I h) ?_;rintro us s1 ⟨vs,G,U,n,O⟩;obtain⟨v,w,t,O⟩:=O;subst t;obtain⟨u,Z,rfl,rv,DC⟩:∃u Z,us=[u,Z]/\RelV v u/\RelV w Z:=by
  cases n with
  |cons p q=>
   cases q with
   |cons p' q'=>
    cases q';exact⟨_,_,rfl,p,p'⟩
 refine wpAny_newObj_type ?_ (by show 2<=sizeLine;decide);have I2:Inv X AB σ G {s1 with heap:=s1.heap.push {cls:=.type "tuple",data:=.seq [u,Z].toArray}}:=U.kept λb o e=>Heap.get?_push_of_some _ e;rw[E];refine wpAny_bind<|wpAny_pure ?_;refine wpAny_bind<|wpAny_rule<|wpAny_bind<|unpackItems_tuple (items:=#[u,Z]) (I.ok.hd hc) (IsTup.new s1.heap _) λh' Jh=>?_;have I3:=I2.kept (t':=s1.toks) λb o e=>Jh b o (AEA<|Heap.lt_size e) e;refine wpAny_bind<|assignInOrder_cons<|wpAny_bindName<|Sj I3 F T (.inl B) DC (λs2 I4=>?_)<|.inr B;refine assignInOrder_cons<|wpAny_bindName<|Sj I4 F hi (.inl R) rv (λs3 S=>assignInOrder_nil<|wpAny_pure ?_)<|.inr R;rw[List.set_comm _ _<|AFH C]at S;exact⟨_,G,S,O⟩
end
section
variable{X:Cx}{pos:Pos}
end
structure It where
 go:Nat->Hp->Prop
 TH:Nat->Hp->V->Hp->Prop
 stop:Nat->Hp->Prop
def GA(X:Cx)(AB:List<|Addr×Obj)(H:Hp)(b:Addr):Prop:=
 H b=none/\b≠X.env.locals/\b∉X.fs/\(b∈X.ex\/X.Cm.heap.objs.size<=b)/\(∀x c,X.env.cells.lookup x=some c->c≠b)/\∀p∈X.pn++AB,p.1≠b
theorem Inv.Qf{X:Cx}{AB:List (Addr×Obj)}{σ:St}{H H':Hp}{s:Shared}{b:Addr}(I:Inv X AB σ H s)(hb:s.heap.objs.size<=b)(hn:H' b=none):GA X AB H' b:=by
 refine⟨hn,Nat.ne_of_gt<|AEB I.lt hb,I.xD hb,.inr<|AEF I.sz hb,λx c e z=>?_,λp hp z=>?_⟩
 .obtain⟨v,q⟩:=I.cell x c e;exact absurd (AEB q.lt (by rw[z];exact hb)) (AF7 _)
 .exact absurd (AEB (Heap.lt_size (I.pin p hp).1) (by rw[z];exact hb)) (AF7 _)
structure Turn(P:Program)(w:World)(K:PySem.W.Frag)(tg:Expr)(ADh:It)(fp:List Addr)(it:Addr)(tn:Nat->Heap->Prop):Prop where
 mem:it∈fp
 obj:∀i h,tn i h->∀b∈fp,∃o,h.get? b=some o/\∀v,o.data≠.cell v
 keep:∀i h h',tn i h->(∀b∈fp,∀o,h.get? b=some o->h'.get? b=some o)->tn i h'
 item:∀(X:Cx),X.prog=P->X.w=w->X.K=K->X.calm=true->∀(i:Nat)(AB:List<|Addr×Obj)(s:Shared)(σ:St)(H:Hp)(E:Value->Shared->Prop),Inv X AB σ H s->(∀b∈fp,GA X AB H b)->tn i s.heap->ADh.go i H->wpAny (model P w) X.A (pyNext<|.ref it) (λr s1=>∃u,r=some u/\
   wpAny (model P w) X.A (letOwnedTupleGo tg (.ref it) u) (λ_ s2=>∃x H',Inv X AB σ H' s2/\RelV x u/\ADh.TH i H x H'/\tn (i+1) s2.heap/\∀b∈fp,H' b=none) E s1) E s
 done:∀(X:Cx),X.prog=P->X.w=w->X.K=K->X.calm=true->∀(i:Nat)(AB:List<|Addr×Obj)(s:Shared)(σ:St)(H:Hp)(E:Value->Shared->Prop),Inv X AB σ H s->(∀b∈fp,GA X AB H b)->tn i s.heap->ADh.stop i H->wpAny (model P w) X.A (pyNext<|.ref it) (λr s1=>r=none/\Inv X AB σ H s1) E s
 self:∀(A:Around)(i:Nat)(s:Shared)(Q:Value->Shared->Prop)(E:Value->Shared->Prop),tn i s.heap->Q (.ref it) s->wpAny (model P w) A (pyIter<|.ref it) Q E s
abbrev TI:=St->Hp->(It->Hp->Prop)->Prop
def Yd(X:Cx)(AB:List<|Addr×Obj)(σ:St)(tg:Expr)(R:It->Hp->Prop)(y:Value)(s2:Shared):Prop:=
 ∃(it:Addr)(fp:List Addr)(tn:Nat->Heap->Prop)(ADh:It)(H':Hp),y=.ref it/\Inv X AB σ H' s2/\Turn X.prog X.w X.K tg ADh fp it tn/\tn 0 s2.heap/\(∀b∈fp,GA X AB H' b)/\R ADh H'
def PI(X:Cx)(tg y:Expr)(q:TI):Prop:=
 ∀(AB:List<|Addr×Obj)(s:Shared)(σ:St)(H:Hp)(R:It->Hp->Prop),Inv X AB σ H s->q σ H R->wpAny (model X.prog X.w) X.A (eval y X.env) (λv s1=>wpAny (model X.prog X.w) X.A (pyIter v) (Yd X AB σ tg R) X.xe s1) X.xe s
theorem VQ{M:Model}{A:Around}{E:Value->Shared->Prop}{s:Shared}{tg:Expr}{it:Addr}{u:Value}{o:Obj}{n:String}{vs:Array Value}{Q:Unit->Shared->Prop}(ho:s.heap.get? it=some o)(hc:o.cls=.type n)(hd:o.data=.fields vs) (hn:["enumerate","zip","dict_itemiterator","dict_reverseitemiterator","odict_iterator","itertools.zip_longest","itertools.pairwise"].contains n=false) (y:Q () s):wpAny M A (letOwnedTupleGo tg (.ref it) u) Q E s:=by
 cases tg<;>first
  |exact wpAny_pure y
  |(cases u<;>first
   |exact wpAny_pure y
   |(
    refine wpAny_bind<|wpAny_load ho ?_;rw[hc,hd];show wpAny M A (if(["enumerate","zip","dict_itemiterator","dict_reverseitemiterator","odict_iterator","itertools.zip_longest","itertools.pairwise"].contains n&&vs[0]? == some (rawInt _))=true then _ else _) Q E s;rw[ADs (by intro h;rw[hn]at h;contradiction)];exact wpAny_pure y))
noncomputable def Tt(K:PySem.W.Frag)(a:Addr):It:=
 ⟨λi H=>∃xs x,B6 K H a xs/\xs[i]? = some x,λi H x H'=>H'=H/\∀xs,B6 K H a xs->xs[i]? = some x,λi H=>∃xs,B6 K H a xs/\xs.length<=i⟩
noncomputable def M9(lo:Int)(n:Nat):It:=⟨λi _=>i<n,λi H x H'=>H'=H/\x=.int (lo+i),λi _=>n<=i⟩
theorem ACN{P:Program}{w:World}{K:PySem.W.Frag}{tg:Expr}(a it:Addr):Turn P w K tg (Tt K a) [it] it (λi h=>h.IsListIter it a i) where
 mem:=ADk
 obj:=λi h st b hb=>by
  have e:=by simpa using hb
  subst e;obtain⟨o,e,c,d⟩:=st;exact⟨o,e,λv z=>by rw[d]at z;injection z⟩
 keep:=λi h h' st k=>st.at λo e=>k it ADk o e
 item:=by intro X Z Y Q hc i AB s σ H E I y st O;subst Z Y Q;obtain⟨xs,x,q,D⟩:=O;obtain⟨its,rv,p,hz⟩:=I.list q;obtain⟨u,B,G⟩:=rv.get D;obtain⟨F,f1,f2,f3,f4,R⟩:=y it ADk;refine wpAny_pyNext_list_item st p.isList (by simpa using B) λh' AL sb=>?_;have S:Inv X AB σ H {s with heap:=h'}:=I.turned (λb o hb e=>(sb.2 b hb).trans e) F f1 f3 f4 R;obtain⟨o,e,c,d⟩:=id AL;exact⟨u,rfl,VQ e c d ADl ⟨x,H,S,G,⟨rfl,λys T=>by rw[I.wA T q];exact D⟩,AL,λb hb=>(y b hb).1⟩⟩
 done:=by intro X Z Y Q hc i AB s σ H E I y st O;subst Z Y Q;obtain⟨xs,q,D⟩:=O;obtain⟨its,rv,p,hz⟩:=I.list q;obtain⟨F,f1,f2,f3,f4,R⟩:=y it ADk;have hl:=rv.length;exact wpAny_pyNext_list_end (I.ok.hd hc) st p.isList (by simp;lia) λh' C=>⟨rfl,I.turned (λb o hb e=>C b o hb e) F f1 f3 f4 R⟩
 self:=λ_ _ _ _ _ st h=>wpAny_pyIter_listiter st h
theorem ACO{P:Program}{w:World}{K:PySem.W.Frag}{tg:Expr}(it:Addr)(lo:Int)(n:Nat):Turn P w K tg (M9 lo n) [it] it (λi h=>IsRangeIter h it (lo+(i)*1) ((n)-(i)) 1) where
 mem:=ADk
 obj:=λi h st b hb=>by
  have e:=by simpa using hb
  subst e;exact⟨_,st,λv z=>by have D:Data.fields _=Data.cell v:=z;injection D⟩
 keep:=λi h h' st k=>k it ADk _ st
 item:=by intro X q u Z hc i AB s σ H E I y st Y;subst q u Z;obtain⟨Q,f1,f2,f3,f4,O⟩:=y it ADk;have W:=Walks.range (prog:=X.prog) (w:=X.w) (I.ok.hd hc) it lo 1 n;refine W.item i s _ _ Y st λv h' tk F AL kk=>?_;obtain⟨t,rfl⟩:=F;have R:Inv X AB σ H {s with heap:=h',toks:=tk}:=I.turned (λb o hb e=>kk b o (by simpa using hb) e) Q f1 f3 f4 O;refine⟨_,rfl,VQ AL rfl rfl ADl ⟨.int<|lo+i,H,R,⟨t,?_⟩,⟨rfl,rfl⟩,AL,λb hb=>(y b hb).1⟩⟩;rw[Int.mul_one]
 done:=by intro X q u Z hc i AB s σ H E I y st Y;subst q u Z;obtain⟨Q,f1,f2,f3,f4,O⟩:=y it ADk;exact wpAny_pyNext_range_end (I.ok.hd hc) st (by have:n<=i:=Y;lia) λh' B=>⟨rfl,I.turned (λb o hb e=>B b o hb e) Q f1 f3 f4 O⟩
 self:=λ_ _ _ _ _ st h=>wpAny_pyIter_rangeiter st h
section
variable{X:Cx}{tg:Expr}
def uu(K:PySem.W.Frag)(q:TE):TI:=λσ H R=>q σ H λx y=>∃a,x=.ref a/\(∃xs,B6 K y a xs)/\R (Tt K a) y
theorem yn{l:Expr}{u:TE}(Z:PE X l u):PI X tg l<|uu X.K u:=by
 intro AB s σ H R I h;refine Af (Z AB s σ H _ I h) ?_;rintro v s1 ⟨x,Y,y,Q,O⟩;obtain⟨a,e,⟨xs,P⟩,q⟩:=O;subst e;cases Q;obtain⟨its,rv,p,hz⟩:=y.list P;refine wpAny_pyIter_list p.isList ?_;refine⟨s1.heap.objs.size,[s1.heap.objs.size],_,_,Y,rfl,y.kept λb o e=>Heap.get?_push_of_some _ e,ACN a _,⟨_,Heap.get?_push_size _ rfl,rfl,rfl⟩,λb hb=>?_,q⟩;have e:=by simpa using hb
 subst e;exact y.Qf (ADt _)<|y.AX.fresh<|ADt _
theorem jU{AB:List (Addr×Obj)}{σ:St}{H:Hp}{s:Shared}{R:It->Hp->Prop}{E:Value->Shared->Prop}{lo hi:Int}{t u v:Tok}{tk:Nat}(I:Inv X AB σ H s)(Z : -(2 ^ 62)<=lo)(Y:lo<2 ^ 62)(h3 : -(2 ^ 62)<=hi)(Q:hi<2 ^ 62) (q:R (M9 lo (hi-lo).toNat) H):wpAny (model X.prog X.w) X.A (pyIter<|.ref s.heap.objs.size) (Yd X AB σ tg R) E {s with heap:=s.heap.push {cls:=.type "range",data:=.fields #[.int lo t,.int hi u,.int 1 v]},toks:=tk}:=by
 refine wpAny_pyIter_range (IsRange.new ..) (small_one Z Y h3 Q) ?_;have y:Inv X AB σ H {s with heap:=s.heap.push {cls:=.type "range",data:=.fields #[.int lo t,.int hi u,.int 1 v]},toks:=tk}:=I.kept λb o e=>Heap.get?_push_of_some _ e;refine⟨(s.heap.push {cls:=.type "range",data:=.fields #[.int lo t,.int hi u,.int 1 v]}).objs.size,[(s.heap.push {cls:=.type "range",data:=.fields #[.int lo t,.int hi u,.int 1 v]}).objs.size],_,_,H,rfl,y.kept λb o e=>Heap.get?_push_of_some _ e,ACO _ lo (hi-lo).toNat,?_,λb hb=>?_,q⟩
 .have O:lo+((0:Nat))*1=lo:=ADk
  have P:(((hi-lo).toNat))-((0:Nat))=Builtin.Range.rangeSize lo hi 1:=by rw[rangeSize_one];split<;>lia
  rw[O,P];exact Heap.get?_push_size _ rfl
 .have e:b=(s.heap.push {cls:=.type "range",data:=.fields #[.int lo t,.int hi u,.int 1 v]}).objs.size:=by simpa using hb
  subst e;exact y.Qf (ADt _)<|y.AX.fresh<|ADt _
def uv(y:TA):TI:=λσ H R=>y σ H λvs q=>∃j:Int,vs=[.int j]/\-(2 ^ 62)<=j/\j<2 ^ 62/\R (M9 0 j.toNat) q
def uw(y:TA):TI:=λσ H R=>y σ H λvs q=>∃i j:Int,vs=[.int i,.int j]/\(-(2 ^ 62)<=i/\i<2 ^ 62/\-(2 ^ 62)<=j/\j<2 ^ 62)/\R (M9 i (j-i).toNat) q
theorem yo{a:Expr}{v:TA}{p pos:Pos}(u:Gl X "range")(hm:X.mg "range" = none)(ha:PA X [a] v)(hs:starEach [a] X.env=[(false,eval a X.env)]:=by rfl):PI X tg (.Call (.Name "range" p) [a] [] pos)<|uv v:=by
 intro AB s σ H R I h;refine Call_<|OU I u hm boot_range<|AGn (Af (ha pos AB s σ H _ I h) ?_) hs rfl;rintro us s1 ⟨vs,H1,Z,Y,y⟩;obtain⟨j,e,y,Q,q⟩:=y;subst e;cases Y with
 |cons r rr=>
  cases rr;obtain⟨t,rfl⟩:=r;exact call_range_1<|jU Z J ADj y Q<|by simpa using q
theorem yq{a b:Expr}{v:TA}{p pos:Pos}(Z:Gl X "range")(hm:X.mg "range" = none)(ha:PA X [a,b] v)(hs:starEach [a,b] X.env=[(false,eval a X.env),(false,eval b X.env)]:=by rfl)(u:starEach [b] X.env=[(false,eval b X.env)]:=by rfl) : PI X tg (.Call (.Name "range" p) [a,b] [] pos)<|uw v:=by
 intro AB s σ H R I h;refine Call_ (OU I Z hm boot_range<|AGn (Af (ha pos AB s σ H _ I h) λus s1 ⟨vs,H1,Y,Q,y⟩=>?_) (by rw[hs,u]) (by rw[u];rfl));obtain⟨i,j,e,⟨y,O,P,D⟩,q⟩:=y;subst e;cases Q with
 |cons r rr=>
  cases rr with
  |cons r' rr=>
   cases rr;obtain⟨t,rfl⟩:=r;obtain⟨t',rfl⟩:=r';exact call_range_2<|jU Y y O P D q
def ABp(v:TI)(g:TG)(u:TS):TS:=λD σ H=>v σ H λADh Z=>∃W:Nat->Nat->St->Hp->Prop,(∃m,W 0 m σ Z)/\∀i m σ H,W i m σ H->
 (ADh.stop i H/\D.nx σ H)\/(ADh.go i H/\∃N:St->Hp->Prop,(∀y H',N y H'->∃q,q<m/\W (i+1) q y H')/\∀x H',ADh.TH i H x H'->g x σ H' λY Q=>u {D with nx:=N,ct:=N,bk:=D.nx} Y Q)
noncomputable def Ov(fp:List Addr)(h:Heap):List<|Addr×Obj:=fp.filterMap λb=>(h.get? b).map λo=>(b,o)
theorem Rg{fp:List Addr}{h:Heap}{b:Addr}{o:Obj}(hb:b∈fp)(e:h.get? b=some o):(b,o)∈Ov fp h:=AHX.mpr ⟨b,hb,by rw[e];rfl⟩
theorem xK{fp:List Addr}{h:Heap}{p:Addr×Obj}(hp:p∈Ov fp h):p.1∈fp/\h.get? p.1=some p.2:=by
 obtain⟨b,hb,e⟩:=AHX.mp hp;cases q:h.get? b with
 |none=>rw[q]at e;contradiction
 |some o=>
  rw[q]at e;have y:=AEU e;subst y;exact⟨hb,q⟩
theorem Inv.pinned{AB:List (Addr×Obj)}{σ:St}{H:Hp}{s:Shared}{fp:List Addr}(I:Inv X AB σ H s)(q:∀b∈fp,GA X AB H b)(ho:∀b∈fp,∃o,s.heap.get? b=some o/\∀v,o.data≠.cell v):Inv X (AB++Ov fp s.heap) σ H s:=
 I.jE λp hp=>(AD7.mp hp).elim (λz=>I.pin p<|AEn _ z) λz=>by obtain⟨hb,e⟩:=xK z;obtain⟨u,f1,f2,_⟩:=q p.1 hb;obtain⟨o,y,d⟩:=ho p.1 hb;rw[e]at y;cases y;exact⟨e,u,f1,f2,d⟩
theorem Inv.S3{AB pl:List (Addr×Obj)}{σ:St}{H:Hp}{s:Shared}(I:Inv X (AB++pl) σ H s):Inv X AB σ H s:=I.jE λp hp=>I.pin p<|AEn _<|AEp _ hp
theorem zD{y:Expr}{body:List Stmt}{U:TI}{g:TG}{t:TS}{pos:Pos}(hp:PassesOwn (model X.prog X.w) X.A X.env X.xe)(hc:X.calm=true)(hi:PI X tg y U)(hg:PG X tg g)(hb:C5 X body t) (hs:∀x,foldedSetIterable y X.env x=pure x:=by intro _;rfl):PS X (.For tg y body [] pos)<|ABp U g t:=by
 intro AB s σ H D I h;refine wpAny_For (Af (hi AB s σ H _ I h) λv s1 h1=>Af h1 λQ6 s2 h2=>?_) hs;obtain⟨it,fp,tn,ADh,H2,e,I2,T,BQ,f2,W,⟨m0,w0⟩,turn⟩:=h2;subst e;have G:∀{H':Hp},(∀b∈fp,H' b=none)->∀b∈fp,GA X AB H' b:=λhn b hb=>⟨hn b hb,(f2 b hb).2⟩;refine codeAny_forLoop_any (λn s'=>∃i P H',Inv X AB P H' s'/\tn i s'.heap/\(∀b∈fp,H' b=none)/\W i n P H') ?_ m0 ⟨0,σ,H2,I2,BQ,λb hb=>(f2 b hb).1,w0⟩;rintro n s3 ⟨i,F,B,I3,BR,Np,w3⟩;rcases turn i n F B w3 with⟨stop,qn⟩|⟨go,N,hN,step⟩
 .refine wpAny_passesOwn hp<|Af (T.done X rfl rfl rfl hc i AB s3 F B X.xe I3 (G Np) BR stop) ?_;rintro r s4 ⟨S,I4⟩;subst S;exact wpAny_execs_nil ⟨F,B,I4,qn⟩
 .refine wpAny_passesOwn hp<|Af (T.item X rfl rfl rfl hc i AB s3 F B X.xe I3 (G Np) BR go) ?_;rintro r s4 ⟨u,S,h4⟩;subst S;refine wpAny_passesOwn hp<|Af h4 ?_;rintro _ s5 ⟨x,H5,I5,r5,y5,C,VJ⟩;have Tr:=I5.pinned (G VJ)<|T.obj _ _ C;refine wpAny_passesOwn hp<|Af (hg _ s5 F H5 x u _ Tr r5<|step x H5 y5) ?_;rintro _ s6 ⟨Mr,H6,I6,q6⟩;refine wpAny_passesOwn hp<|Af (hb _ s6 Mr H6 _ I6 q6) λf E O=>?_;have q:∀{Z:St}{Y:Hp},Inv X (AB++Ov fp s5.heap) Z Y E->N Z Y->∃m,m<n/\∃i P H',Inv X AB P H' E/\tn i E.heap/\(∀b∈fp,H' b=none)/\W i m P H':=λ{Z Y} Q R=>by obtain⟨m',hm,w7⟩:=hN Z Y R;refine⟨m',hm,i+1,Z,Y,Q.S3,T.keep _ _ _ C λb hb o e=>(Q.pin (b,o)<|AEn _<|AEn _<|Rg hb e).1,λb hb=>?_,w7⟩;obtain⟨o,e,d⟩:=T.obj _ _ C b hb;exact(Q.pin (b,o)<|AEn _<|AEn _<|Rg hb e).2.1
  cases f with
  |next=>obtain⟨Z,Y,Q,R⟩:=O;exact q Q R
  |cont=>obtain⟨Z,Y,Q,R⟩:=O;exact q Q R
  |brk=>obtain⟨Z,Y,Q,O⟩:=O;exact⟨Z,Y,Q.S3,O⟩
  |ret v=>obtain⟨x7,Z,Y,Q,r7,O⟩:=O;exact⟨x7,Z,Y,Q.S3,r7,O⟩
end
abbrev R2:=V->V->Hp->VK->Prop
def BZ(X:Cx)(f:Value->Value->Sem Value)(r:R2):Prop:=
 ∀(AB:List<|Addr×Obj)(s:Shared)(σ:St)(H:Hp)(x y:V)(v u:Value)(Q:VK),Inv X AB σ H s->RelV x v->RelV y u->r x y H Q->wpAny (model X.prog X.w) X.A (f v u) (EP X AB σ Q) X.xe s
def T6(X:Cx)(f:Value->Sem Value)(r:V->Hp->VK->Prop):Prop:=
 ∀(AB:List<|Addr×Obj)(s:Shared)(σ:St)(H:Hp)(x:V)(v:Value)(Q:VK),Inv X AB σ H s->RelV x v->r x H Q->wpAny (model X.prog X.w) X.A (f v) (EP X AB σ Q) X.xe s
def DX(X:Cx)(f:Value)(r:List V->Hp->VK->Prop):Prop:=
 ∀(AB:List<|Addr×Obj)(s:Shared)(σ:St)(H:Hp)(xs:List V)(us:List Value)(Q:VK),Inv X AB σ H s->An xs us->r xs H Q->wpAny (model X.prog X.w) X.A (call f us) (EP X AB σ Q) X.xe s
def nG(X:Cx)(r:V->Hp->(Bool->Hp->Prop)->Prop):Prop:=
 ∀(AB:List<|Addr×Obj)(s:Shared)(σ:St)(H:Hp)(x:V)(v:Value)(Q:Bool->Hp->Prop),Inv X AB σ H s->RelV x v->r x H Q->wpAny (model X.prog X.w) X.A (truthy v) (TP X AB σ Q) X.xe s
def Mg(r:R2)(q v:TE):TE:=λσ H Q=>q σ H λx u=>v σ u λy Z=>r x y Z Q
def tUn(r:V->Hp->VK->Prop)(y:TE):TE:=λσ H Q=>y σ H λx q=>r x q Q
def rI(C:Int->Int->Prop)(g:Int->Int->V):R2:=λx y H Q=>∃i j,x=.int i/\y=.int j/\C i j/\Q (g i j) H
def Iu(g:Int->Int->V):R2:=λx y H Q=>∃i j,x=.int i/\y=.int j/\Q (g i j) H
def rU(g:Int->V):V->Hp->VK->Prop:=λx H Q=>∃i,x=.int i/\Q (g i) H
section
variable{X:Cx}{a b c:Expr}{ta tb tc:TE}{pos:Pos}
theorem UK(ha:PE X a ta)(hb:PE X b tb){AB:List (Addr×Obj)}{s:Shared}{σ:St}{H:Hp}{R:V->V->Hp->Prop}(I:Inv X AB σ H s) (h:ta σ H λx Z=>tb σ Z λy q=>R x y q) {Q:Value->Shared->Prop} {f:Value->Value->Sem Value}
 (Y:∀v u s2 x y q,Inv X AB σ q s2->RelV x v->RelV y u->R x y q->wpAny (model X.prog X.w) X.A (f v u) Q X.xe s2) :
 wpAny (model X.prog X.w) X.A (eval a X.env) (λv O=>wpAny (model X.prog X.w) X.A (eval b X.env) (λu P=>wpAny (model X.prog X.w) X.A (f v u) Q X.xe P) X.xe O) X.xe s:=by
 refine Af (ha AB s σ H _ I h) ?_;rintro v s1 ⟨x,Z,D,F,B⟩;refine Af (hb AB s1 σ Z _ D B) ?_;rintro u s2 ⟨y,q,G,S,T⟩;exact Y v u s2 x y q G F S T
theorem yY{op:Operator}{r:R2}(ho:BZ X (binaryOp op) r)(ha:PE X a ta)(hb:PE X b tb):PE X (.BinOp a op b pos)<|Mg r ta tb:=by intro AB s σ H Q I h;exact wpAny_BinOp<|UK ha hb I h λv u s2 x y Z Y O P q=>ho AB s2 σ Z x y v u Q Y O P q
theorem jC{op:UnaryOp}{r:V->Hp->VK->Prop}(ho:T6 X (unaryOp op) r)(ha:PE X a ta):PE X (.UnaryOp op a pos)<|tUn r ta:=by intro AB s σ H Q I h;exact UnaryOp_<|Af (ha AB s σ H _ I h) (by rintro v s1 ⟨x,y,q,u,Z⟩;exact ho AB s1 σ y x v Q q u Z)
theorem Wz{f:Value->Value->Sem Value}{C:Int->Int->Prop}{g:Int->Int->Int} (Z:∀(i j:Int)(t u:Tok)(s:Shared)(Q:Value->Shared->Prop)(E:Value->Shared->Prop),C i j->Q (.int (g i j) s.toks) {s with toks:=s.toks+1}->wpAny (model X.prog X.w) X.A (f (.int i t)<|.int j u) Q E s) : BZ X f<|rI C λi j=>.int<|g i j:=by intro AB s σ H x y v u Q I Y O h;obtain⟨i,j,rfl,rfl,hc,q⟩:=h;obtain⟨t,rfl⟩:=Y;obtain⟨t',rfl⟩:=O;exact Z i j t t' s _ _ hc ⟨.int<|g i j,H,I.tok _,⟨_,rfl⟩,q⟩
theorem iY{f:Value->Value->Sem Value}{g:Int->Int->Int} (Z:∀(i j:Int)(t u:Tok)(s:Shared)(Q:Value->Shared->Prop)(E:Value->Shared->Prop),Q (.int (g i j) s.toks) {s with toks:=s.toks+1}->wpAny (model X.prog X.w) X.A (f (.int i t)<|.int j u) Q E s) : BZ X f<|Iu λi j=>.int<|g i j:=by intro AB s σ H x y v u Q I Y O h;obtain⟨i,j,rfl,rfl,q⟩:=h;obtain⟨t,rfl⟩:=Y;obtain⟨t',rfl⟩:=O;exact Z i j t t' s _ _ ⟨.int<|g i j,H,I.tok _,⟨_,rfl⟩,q⟩
theorem Wy{f:Value->Value->Sem Value}{g:Int->Int->Bool} (Z:∀(i j:Int)(t u:Tok)(s:Shared)(Q:Value->Shared->Prop)(E:Value->Shared->Prop),Q (.bool<|g i j) s->wpAny (model X.prog X.w) X.A (f (.int i t)<|.int j u) Q E s) : BZ X f<|Iu λi j=>.bl<|g i j:=by intro AB s σ H x y v u Q I Y O h;obtain⟨i,j,rfl,rfl,q⟩:=h;obtain⟨t,rfl⟩:=Y;obtain⟨t',rfl⟩:=O;exact Z i j t t' s _ _ ⟨.bl<|g i j,H,I,rfl,q⟩
def Mt(i j:Int):Prop:=0<j/\j<1073741824
def E6(i j:Int):Prop:=(-(2 ^ 64)<i/\i<2 ^ 64)\/(-(2 ^ 64)<j/\j<2 ^ 64)
theorem E6.ok{i j:Int}(h:E6 i j):IntMulOk i j:=by
 rcases h with⟨y,q⟩|⟨y,q⟩
 .exact .of_left<|intBits_le_64 y q
 .exact .of_right<|intBits_le_64 y q
theorem xY:BZ X (binaryOp .Add)<|Iu λi j=>.int<|i+j:=iY λ_ _ _ _ _ _ _ q=>add_int q
theorem xq:BZ X (binaryOp .Sub)<|Iu λi j=>.int<|i-j:=iY λ_ _ _ _ _ _ _ q=>sub_int q
theorem xm:BZ X (binaryOp .Mult)<|rI E6 λi j=>.int<|i*j:=Wz λ_ _ _ _ _ _ _ hc q=>mul_int q hc.ok
theorem xc:BZ X (binaryOp .FloorDiv)<|rI Mt λi j=>.int<|i / j:=Wz λi j _ _ _ _ _ hc q=>by have h1:=hc.1;have h2:=hc.2;exact floordiv_int ADj (by rw[Int.fdiv_eq_ediv_of_nonneg i ADj];exact q)<|.inl<|PyProof.noPylong_small ADj
theorem xl:BZ X (binaryOp .Mod)<|rI (λ_ j=>0<j) λi j=>.int<|i%j:=Wz λi j _ _ _ _ _ hc q=>by exact mod_int' J (by rw[Int.fmod_eq_emod_of_nonneg i J];exact q)
theorem unI{f:Value->Sem Value}{g:Int->Int} (y:∀(i:Int)(t:Tok)(s:Shared)(Q:Value->Shared->Prop)(E:Value->Shared->Prop),Q (.int (g i) s.toks) {s with toks:=s.toks+1}->wpAny (model X.prog X.w) X.A (f<|.int i t) Q E s) : T6 X f<|rU λi=>.int<|g i:=by intro AB s σ H x v Q I u h;obtain⟨i,rfl,q⟩:=h;obtain⟨t,rfl⟩:=u;exact y i t s _ _ ⟨.int<|g i,H,I.tok _,⟨_,rfl⟩,q⟩
theorem lC:T6 X (unaryOp .USub)<|rU λi=>.int (-i):=unI λ_ _ _ _ _ q=>neg_int q
end
section
variable{X:Cx}{a b c:Expr}{ta tb tc:TE}{pos:Pos}
theorem xj:BZ X (compareOp .Lt)<|Iu λi j=>.bl<|decide (i<j):=Wy λ_ _ _ _ _ _ _ q=>lt_int q
theorem xi:BZ X (compareOp .LtE)<|Iu λi j=>.bl<|decide (i<=j):=Wy λ_ _ _ _ _ _ _ q=>le_int q
theorem xf:BZ X (compareOp .Gt)<|Iu λi j=>.bl<|decide (j<i):=Wy λ_ _ _ _ _ _ _ q=>gt_int q
theorem BZ.or{f:Value->Value->Sem Value}{r Z:R2}(h:BZ X f r)(h':BZ X f Z):BZ X f (λx y H Q=>r x y H Q\/Z x y H Q):=by
 intro AB s σ H x y v u Q I Y O q;rcases q with q|q
 .exact h AB s σ H x y v u Q I Y O q
 .exact h' AB s σ H x y v u Q I Y O q
theorem iO(b:Expr){op:CmpOp}(h:op≠.In:=by decide)(y:op≠.NotIn:=by decide):behindInMarks op b=false:=by
 have q:(op==CmpOp.In)=false:=by cases op<;>first|rfl|exact absurd rfl h
 have v:(op==CmpOp.NotIn)=false:=by cases op<;>first|rfl|exact absurd rfl y
 cases b<;>simp[behindInMarks,q,v]
theorem yQ{op:CmpOp}{r:R2}(ho:BZ X (compareOp op) r)(ha:PE X a ta)(hb:PE X b tb)(hm:behindInMarks op b=false):PE X (.Compare a [op] [b] pos)<|Mg r ta tb:=by intro AB s σ H Q I h;exact wpAny_Compare1 (UK ha hb I h λv u s2 x y Z Y O P q=>ho AB s2 σ Z x y v u Q Y O P q) hm
def X1(t:TE):TT:=λσ H Q=>t σ H λx H'=>∃k,x=.bl k/\Q k H'
theorem zK{op:CmpOp}{r:R2}(ho:BZ X (compareOp op) r)(ha:PE X a ta)(hb:PE X b tb)(hm:behindInMarks op b=false):PT X (.Compare a [op] [b] pos)<|X1<|Mg r ta tb:=by intro AB s σ H Q I h;refine wpAny_isTrue_Compare1 (Af (ha AB s σ H _ I h) ?_) hm;rintro v s1 ⟨x,q,Z,Y,O⟩;refine Af (hb AB s1 σ q _ Z O) ?_;rintro u s2 ⟨y,P,D,F,R⟩;refine Af (ho AB s2 σ P x y v u _ D Y F R) ?_;rintro c s3 ⟨z,B,G,S,k,e,T⟩;subst e;cases S;exact wpAny_truthy_bool ⟨B,G,T⟩
def Xz(r v:R2)(ta tb tc:TE):TE:=λσ H Q=>ta σ H λx u=>tb σ u λy Z=>r x y Z λz q=>∃k,z=.bl k/\
 (if k=true then tc σ q λY O=>v y Y O Q else Q (.bl false) q)
theorem yO{op q:CmpOp}{r Z:R2}(ho:BZ X (compareOp op) r)(F:BZ X (compareOp q) Z)(ha:PE X a ta)(hb:PE X b tb)(hc:PE X c tc) (hm:lastMarks [op,q] [b,c]=false:=by with_unfolding_all rfl):PE X (.Compare a [op,q] [b,c] pos)<|Xz r Z ta tb tc:=by
 intro AB s σ H Q I h;refine Compare_chain (Af (ha AB s σ H _ I h) ?_) hm;rintro v s1 ⟨x,R,B,G,S⟩;refine chain_link<|Af (hb AB s1 σ R _ B S) ?_;rintro u s2 ⟨y,T,C,Y,E⟩;refine Af (ho AB s2 σ T x y v u _ C G Y E) ?_;rintro d U ⟨z,O,P,n,k,e,D⟩;subst e;cases n;refine wpAny_truthy_bool ?_;cases k with
 |false=>exact ite_ff ⟨.bl false,O,P,rfl,D⟩
 |true=>exact ite_tt<|chain_last<|Af (hc AB U σ O _ P D) (by rintro t s4 ⟨z',H4,I4,r4,q4⟩;exact F AB s4 σ H4 y z' u t Q I4 Y r4 q4)
theorem zI{op q:CmpOp}{r Z:R2}(ho:BZ X (compareOp op) r)(F:BZ X (compareOp q) Z)(ha:PE X a ta)(hb:PE X b tb)(hc:PE X c tc) (hm:lastMarks [op,q] [b,c]=false:=by with_unfolding_all rfl):PT X (.Compare a [op,q] [b,c] pos)<|X1<|Xz r Z ta tb tc:=by
 intro AB s σ H Q I h;refine isTrue_chain (Af (ha AB s σ H _ I h) ?_) hm;rintro v s1 ⟨x,R,B,G,S⟩;refine test_link<|Af (hb AB s1 σ R _ B S) ?_;rintro u s2 ⟨y,T,C,Y,E⟩;refine Af (ho AB s2 σ T x y v u _ C G Y E) ?_;rintro d U ⟨z,O,P,n,k,e,D⟩;subst e;cases n;refine wpAny_truthy_bool ?_;cases k with
 |false=>
  obtain⟨k',t,q'⟩:=D;cases t;exact ite_ff ⟨O,P,q'⟩
 |true=>
  refine ite_tt<|test_last<|Af (hc AB U σ O _ P D) ?_;rintro w' s4 ⟨z',H4,I4,r4,q4⟩;refine Af (F AB s4 σ H4 y z' u w' _ I4 Y r4 q4) ?_;rintro d' s5 ⟨z2,H5,I5,r5,k2,e2,q5⟩;subst e2;cases r5;exact wpAny_truthy_bool ⟨H5,I5,q5⟩
set_option tactic.hygienic true
def Yh(K:PySem.W.Frag)(x:V)(H:Hp)(k:Bool):Prop:=
 match x with
 |.Aw=>k=false
 |.bl b=>k=b
 |.int i=>k=(i != 0)
 |.str y=>y.length<=sizeLine/\k=((y.length:Int) != 0)
 |.NO y=>y.size<=sizeLine/\k=((y.size:Int) != 0)
 |.ref p=>(∃xs,B6 K H p xs/\k = !xs.isEmpty)\/(∃xs,BS K H p xs/\k = !xs.isEmpty)\/∃AI,H p=some (.dK AI)/\k = !AI.isEmpty
 |_=>False
theorem vG{κ:Type}{AI:List (κ×V)}{vs:List (κ×Value)}(r:KV AI vs):(!vs.isEmpty) = !AI.isEmpty:=by cases r<;>rfl
theorem fH{xs:List V}{its:List Value}(r:An xs its):(!its.toArray.isEmpty) = !xs.isEmpty:=by cases r<;>simp
theorem RG:(sizeLine)<2 ^ 63:=ADl
theorem ACH:nG X (λx H Q=>∃k,Yh X.K x H k/\Q k H):=by
 intro AB s σ H x v Q I Z h;obtain⟨k,e,q⟩:=h;have hl:=RG;have hs:sizeLine=16777216:=sizeLine_eq;cases x with
 |Aw=>
  cases Z;have u:k=false:=e;subst u;exact truthy_none ⟨H,I,q⟩
 |bl b=>
  cases Z;have u:k=b:=e;subst u;exact wpAny_truthy_bool ⟨H,I,q⟩
 |int i=>
  obtain⟨t,rfl⟩:=Z;have u:k=(i != 0):=e;subst u;exact PySem.P.truthy_int ⟨H,I,q⟩
 |str y=>
  obtain⟨t,rfl⟩:=Z;obtain⟨D,u⟩:y.length<=sizeLine/\k=((y.length:Int) != 0):=e;subst u;exact PySem.P.truthy_str J ⟨H,I.tok _,q⟩
 |NO y=>
  obtain⟨t,rfl⟩:=Z;obtain⟨D,u⟩:y.size<=sizeLine/\k=((y.size:Int) != 0):=e;subst u;exact PySem.W.truthy_bytes J ⟨H,I.tok _,q⟩
 |ref p=>
  cases Z;have u:(∃xs,B6 X.K H p xs/\k = !xs.isEmpty)\/(∃xs,BS X.K H p xs/\k = !xs.isEmpty)\/∃AI,H p=some (.dK AI)/\k = !AI.isEmpty:=e;rcases u with⟨xs,Y,u⟩|⟨xs,Y,u⟩|⟨AI,Y,u⟩
  .subst u;obtain⟨its,r,pl,hz⟩:=I.list Y;have O:=r.length;exact wpAny_truthy_list pl.isList (by simp only[AD3];omega) ⟨H,I.tok _,by rw[fH r];exact q⟩
  .subst u;obtain⟨its,r,pl,hz⟩:=I.tuple Y;have O:=r.length;exact truthy_tuple pl (by simp only[AD3];omega) ⟨H,I.tok _,by rw[fH r];exact q⟩
  .subst u;obtain⟨hz,F,vs,r,m⟩:AI.length<=sizeLine/\(p==sysModules)=false/\∃vs,KV AI vs/\s.heap.DictOf (Ex X.prog X.w) p vs:=I.AX p _ Y;have O:AI.length=vs.length:=Paired.length r;exact wpAny_truthy_dict F m ADj ⟨H,I.tok _,by rw[vG r];exact q⟩
 |_=>exact(show False from e).elim
theorem zM(ha:PE X a ta)(he:∀y,isTrue a X.env y=(do let v<-y;standAt a.pos;holding [v] (truthy v))) : PT X a (λσ H Q=>ta σ H λx H'=>∃k,Yh X.K x H' k/\Q k H'):=by intro AB s σ H Q I h;refine isTrue_plain (Af (ha AB s σ H _ I h) ?_)<|he _;rintro v s1 ⟨x,q,u,Z,Y⟩;exact ACH AB s1 σ q x v Q u Z Y
set_option tactic.hygienic false
theorem vals1{x:V}{us:List Value}(r:An [x] us):∃u,us=[u]/\RelV x u:=by
 cases r with
 |cons r1 r2=>cases r2;exact⟨_,rfl,r1⟩
theorem vals2{x y:V}{us:List Value}(r:An [x,y] us):∃u q,us=[u,q]/\RelV x u/\RelV y q:=by
 cases r with
 |cons r1 r2=>
  cases r2 with
  |cons r3 r4=>cases r4;exact⟨_,_,rfl,r1,r3⟩
theorem oK:DX X (.builtin "abs") (λxs H Q=>∃i,xs=[.int i]/\Q (.int (if i<0 then -i else i)) H):=by intro AB s σ H xs us Q I r h;obtain⟨i,rfl,q⟩:=h;obtain⟨u,rfl,t,rfl⟩:=vals1 r;exact call_abs_int λu tk=>⟨.int (if i<0 then -i else i),H,I.tok _,⟨_,rfl⟩,q⟩
theorem oT(hc:X.calm=true):DX X (.builtin "max") (λxs H Q=>∃i j,xs=[.int i,.int j]/\Q (.int (if j>i then j else i)) H):=by
 intro AB s σ H xs us Q I r h;obtain⟨i,j,rfl,q⟩:=h;obtain⟨u,w',rfl,⟨t,rfl⟩,⟨t',rfl⟩⟩:=vals2 r;refine max_two_ints (I.ok.hd hc) λh' tk k=>⟨_,H,I.kept k,?_,q⟩;by_cases y:j>i
 .rw[ADr y,ADr y];exact⟨_,rfl⟩
 .rw[ADs y,ADs y];exact⟨_,rfl⟩
theorem oU(hc:X.calm=true):DX X (.builtin "min") (λxs H Q=>∃i j,xs=[.int i,.int j]/\Q (.int (if j<i then j else i)) H):=by
 intro AB s σ H xs us Q I r h;obtain⟨i,j,rfl,q⟩:=h;obtain⟨u,w',rfl,⟨t,rfl⟩,⟨t',rfl⟩⟩:=vals2 r;refine min_two_ints (I.ok.hd hc) λh' tk k=>⟨_,H,I.kept k,?_,q⟩;by_cases y:j<i
 .rw[ADr y,ADr y];exact⟨_,rfl⟩
 .rw[ADs y,ADs y];exact⟨_,rfl⟩
end
set_option tactic.hygienic true
structure Tw(h:Heap)(x dx C:Addr)(mA:Str->Option Value):Prop where
 obj:h.get? x=some (PySem.W.instObj C dx)
 ns:h.Ns1 dx mA
 ne:dx≠x
theorem wJ{h:Heap}{dx:Addr}{mA:Str->Option Value}(n:h.Ns1 dx mA):∃od,h.get? dx=some od/\∀name,PySem.W.lookIn name od=some (mA name):=by
 obtain⟨o,es,ep,ho,hd,v,_,hm⟩:=n;refine⟨o,ho,λname=>?_⟩;have e:=hm name;unfold nsFind findBy at e;rw[<-Array.find?_toList]at e;unfold PySem.W.lookIn;rw[hd];dsimp only;split
 .rename_i y q;rw[q]at e;exact AFX some e
 .rename_i q;rw[q]at e;have a:es.toList.any (·.refKey)=false:=by rw[AFF];intro y u;obtain⟨z,t,Z⟩:=v y<|Array.mem_toList_iff.mp u;simp[DictEntry.refKey,Z]
  have Y:¬ es.toList.any (·.refKey)=true:=by rw[a];exact AFL
  rw[ADs Y];exact AFX some e
set_option tactic.hygienic false
theorem Tw.look{h:Heap}{x dx C:Addr}{mA:Str->Option Value}(I:Tw h x dx C mA):∃od,PySem.W.InstAt h x (PySem.W.instObj C dx) C (some od)/\∀name,PySem.W.lookIn name od=some (mA name):=
 let ⟨od,ho,hl⟩:=wJ I.ns
 ⟨od,⟨I.obj,rfl,rfl,ho⟩,hl⟩
section
variable{prog:Program}{w:World}{A:Around}{E:Value->Shared->Prop}{s:Shared}{K:PySem.W.Frag}{x dx C f:Addr}{mA:Str->Option Value}{name:Str}{v:Value}
end
theorem Ff.some_of{v:V}{o:Option Value}(r:Ff (some v) o):∃u,o=some u/\RelV v u:=by
 cases o with
 |none=>exact(show False from r).elim
 |some u=>exact⟨u,rfl,r⟩
section
variable{P:Program}{w:World}{H H':Hp}{h h':Heap}{a C dx:Addr}{fs rE:List (Str×V)}
theorem u7(AX:Bn P w H h)(e:H a=some (.ins C dx fs)):∃mA,Tw h a dx C mA/\(∀f,Ff (fs.lookup f)<|mA f)/\PySem.Within mA (fs.map (·.1))/\fs.length<=1000/\H dx=some (.own a):=by obtain⟨d,z,ne,y,mA,n,r,q⟩:=(show Bw P w H h a (.ins C dx fs)from AX a _ e);exact⟨mA,⟨y,n,ne⟩,r,q,z,d⟩
end
structure TK(K:PySem.W.Frag)(C:Addr):Prop where
 pg:PySem.W.plainGet K C Str.empty=true
 hd:PySem.W.hasDictIn K C=true
 po:PySem.W.plainOver K C=true
 sa:PySem.W.findIn K (.ref C) "__setattr__" = some (some<|.builtin "object.__setattr__")
theorem TK.get{K:PySem.W.Frag}{C:Addr}(c:TK K C)(f:Str):PySem.W.plainGet K C f=true:=c.pg
structure Con(K:PySem.W.Frag)(C:Addr)(f:Str)(v:V)(u:Value):Prop where
 at_:PySem.W.findIn K (.ref C) f=some (some u)
 rel:RelV v u
 get:PySem.W.specialIn K u "__get__" = some none
 cp:PySem.W.copiedNames.contains f=false
structure Meth(K:PySem.W.Frag)(C:Addr)(m:Str)(f:Addr):Prop where
 at_:PySem.W.findIn K (.ref C) m=some (some<|.ref f)
 fn:PySem.W.isFn K (.ref f)=true
 kp:PySem.W.keepIn K (.ref f)=true
section
variable{X:Cx}{AB:List (Addr×Obj)}{σ:St}{H:Hp}{s:Shared}{a C dx:Addr}{fs:List (Str×V)}{f:Str}{v:V}{A:Around}{E:Value->Shared->Prop}
end
section
variable{X:Cx}{o e value:Expr}{f:Str}{pos pos' LO:Pos}{ta tv:TE}
end
section
variable{X:Cx}{AB:List (Addr×Obj)}{σ:St}{H:Hp}{s:Shared}{A:Around}{E:Value->Shared->Prop}{Q:Value->Shared->Prop}{c:Value}{b:Bool}
inductive FF(K:PySem.W.Frag)(H:Hp):V->Value->Prop where
 |Aw:FF K H .Aw<|.type "NoneType"
 |bl (x:Bool):FF K H (.bl x)<|.type "bool"
 |int (i:Int):FF K H (.int i)<|.type "int"
 |str (x:Str):FF K H (.str x)<|.type "str"
 |KU (x:UInt64):FF K H (.KU x)<|.type "float"
 |lst {a:Addr} {xs:List V} (e:H a=some (.lst xs)):FF K H (.ref a)<|.type "list"
 |BK {a:Addr} {o:Obj} {xs:List V} (e:H a=some (.BK o<|.lst xs)):FF K H (.ref a)<|.type "list"
 |tup {a:Addr} {xs:List V} (e:H a=some (.tup xs)):FF K H (.ref a)<|.type "tuple"
 |dK {a:Addr} {AI:List (Key×V)} (e:H a=some (.dK AI)):FF K H (.ref a)<|.type "dict"
 |dT {a:Addr} {AI:List (List Key×V)} (e:H a=some (.dT AI)):FF K H (.ref a)<|.type "dict"
 |ins {a C dx:Addr} {fs:List (Str×V)} (e:H a=some (.ins C dx fs)) (cl:TK K C) (ha:PySem.W.findIn K (.ref C) "__class__" = some (some<|.builtin "object.__class__")) (hn:PySem.W.specialIn K (.builtin "object.__class__") "__get__" = some (some<|.builtin "getset_descriptor.__get__")) (eY:PySem.W.takesIn K (.builtin "object.__class__")=some true) (hm:PySem.W.mroIn K C (.type "object")=some true):FF K H (.ref a)<|.ref C
theorem vJ{x:V}{u t:Value}(I:Inv X AB σ H s)(v:RelV x u)(ty:FF X.K H x t)(e:PySem.W.kitOne X.K t c=some b)(h:∀tk,Q (.bool b) {s with toks:=tk}) : wpAny (model X.prog X.w) A (call (.builtin "isinstance") [u,c]) Q E s:=by
 cases ty with
 |Aw=>cases (show u=Value.none from v);exact AFV PySem.W.kitx_none I.Bc True.intro e (λz=>nomatch z) h
 |bl y=>cases (show u=Value.bool y from v);exact AFV PySem.W.kitx_bool I.Bc True.intro e (λz=>nomatch z) h
 |int i=>obtain⟨t,q⟩:=(show ∃t,u=Value.int i t from v);cases q;exact AFV PySem.W.kitx_int I.Bc True.intro e (λz=>nomatch z) h
 |str y=>obtain⟨t,q⟩:=(show ∃t,u=Value.str y t from v);cases q;exact AFV PySem.W.kitx_str I.Bc True.intro e (λz=>nomatch z) h
 |KU y=>obtain⟨t,q⟩:=(show ∃t,u=Value.float y t from v);cases q;exact AFV PySem.W.kitx_float I.Bc True.intro e (λz=>nomatch z) h
 |@lst a xs ea=>
  cases (show u=Value.ref a from v);obtain⟨_,_,n,_,Z⟩:=(show Bw X.prog X.w H s.heap a (.lst xs)from I.AX a _ ea);exact AFV PySem.W.kitx_list I.Bc ⟨_,Z,rfl⟩ e (λz=>nomatch z) h
 |@BK a ob xs ea=>
  cases (show u=Value.ref a from v);obtain⟨_,_,_,n,_,Z⟩:=(show Bw X.prog X.w H s.heap a (.BK ob<|.lst xs)from I.AX a _ ea);exact AFV PySem.W.kitx_list I.Bc ⟨_,Z,rfl⟩ e (λz=>nomatch z) h
 |@tup a xs ea=>
  cases (show u=Value.ref a from v);obtain⟨_,_,_,p⟩:=(show Bw X.prog X.w H s.heap a (.tup xs)from I.AX a _ ea);obtain⟨o,Z,Y,_⟩:=p;exact AFV PySem.W.kitx_tuple I.Bc ⟨o,Z,Y⟩ e (λz=>nomatch z) h
 |@dK a AI ea=>
  cases (show u=Value.ref a from v);obtain⟨_,_,vs,_,p⟩:=(show Bw X.prog X.w H s.heap a (.dK AI)from I.AX a _ ea);obtain⟨o,es,P,Z,Y,_⟩:=p;exact AFV PySem.W.kitx_dict I.Bc ⟨o,Z,Y.1⟩ e (λz=>nomatch z) h
 |@dT a AI ea=>
  cases (show u=Value.ref a from v);obtain⟨_,_,xs,_,o,es,P,Z,Y,_⟩:=(show Bw X.prog X.w H s.heap a (.dT AI)from I.AX a _ ea);exact AFV PySem.W.kitx_dict I.Bc ⟨o,Z,Y.1⟩ e (λz=>nomatch z) h
 |@ins a C dx fs ea cl ha hn eY hm=>
  cases (show u=Value.ref a from v);obtain⟨mA,O,_⟩:=u7 I.AX ea;obtain⟨od,ADh,_⟩:=O.look;exact AFV (PySem.W.kitx_own (cl.get _) cl.hd ha hn eY hm) I.Bc ADh e (λz=>nomatch z) h
end
structure Cd(k:Nat)(A:Around):Prop where
 hd:A.handled=none
 dp:A.depth+3*k+5<recursionLimit
 un:A.units+16*k+200<cLine
theorem Cd.mono{j k:Nat}{A:Around}(r:Cd k A)(h:j<=k):Cd j A:=⟨r.hd,by have:=r.dp;lia,by have:=r.un;omega⟩
theorem Cd.deeper{k:Nat}{A:Around}(r:Cd (k+1) A)(env:Env):Cd k<|A.deeper env:=
 ⟨r.hd,by have:=r.dp;show A.depth+1+3*k+5<_;lia,by have:=r.un;show A.units+3+16*k+200<_;omega⟩
theorem Cd.depth{k:Nat}{A:Around}(r:Cd k A):A.depth<recursionLimit:=by have:=r.dp;lia
theorem Cd.units{k:Nat}{A:Around}(r:Cd k A):A.units+64<cLine:=by have:=r.un;lia
def ABv:TA:=λ_ H Q=>Q [] H
def ABl(y:TE)(tr:TA):TA:=λσ H Q=>y σ H λx q=>tr σ q λxs v=>Q (x::xs) v
section
variable{X:Cx}{e:Expr}{es:List Expr}{te:TE}{t:TA}{pos:Pos}
theorem Ou:PA X [] ABv:=λ_ _ _ _ H Q I h=>Calls.spliced_nil ⟨[],H,I,.nil,h⟩
theorem K7(ha:PE X e te)(y:PA X es t)(hs:starEach (e::es) X.env=(false,eval e X.env)::starEach es X.env:=by rfl):PA X (e::es)<|ABl te t:=by intro pos AB s σ H Q I h;rw[hs];show wpAny _ _ (spliced ((false,eval e X.env)::backTo pos (starEach es X.env))) _ _ s;refine Calls.spliced_cons<|Af (ha AB s σ H _ I h) ?_;rintro u s1 ⟨x,q,v,Z,Y⟩;exact Af (y pos AB s1 σ q _ v Y) (by rintro us s2 ⟨xs,O,P,D,F⟩;exact⟨x::xs,O,P,.cons Z D,F⟩)
def AB4(t:TA):TE:=λσ H Q=>t σ H λxs y=>xs.length<=sizeLine/\∀p,y p=none->Q (.ref p) (upd y p<|.tup xs)
def ABr(t:TA):TE:=λσ H Q=>t σ H λxs y=>xs.length<=sizeLine/\∀p,y p=none->Q (.ref p) (upd y p<|.lst xs)
theorem W9{x1}(h:PA X es t):PE X (.Tuple es x1 pos)<|AB4 t:=by intro AB s σ H Q I v;refine wpAny_Tuple_spliced (Af (h pos AB s σ H _ I v) λus s1 ⟨xs,Z,y,r,z,q⟩=>⟨by rw[<-r.length];exact z,?_⟩);have Y:=y.AX.fresh<|ADt _;refine⟨.ref s1.heap.objs.size,upd Z s1.heap.objs.size<|.tup xs,y.laid (λb u e=>Heap.get?_push_of_some _ e) (ADt _) ?_,rfl,q _ Y⟩;exact⟨z,us,r,⟨_,Heap.get?_push_size _ rfl,rfl,_,rfl⟩⟩
theorem yV(h:PA X es t):PE X (.List es pos)<|ABr t:=by intro AB s σ H Q I v;refine wpAny_List_spliced (Af (h pos AB s σ H _ I v) λus s1 ⟨xs,Z,y,r,z,q⟩=>⟨by rw[<-r.length];exact z,?_⟩);have Y:=y.AX.fresh<|ADt _;refine⟨.ref s1.heap.objs.size,upd Z s1.heap.objs.size<|.lst xs,y.laid (λb u e=>Heap.get?_push_of_some _ e) (ADt _) ?_,rfl,q _ Y⟩;exact⟨z,us,0,r,Heap.get?_push_size _ rfl⟩
end
abbrev Sp:=List V->Hp->VK->XK->Prop
abbrev E7:=List Env->Hp->Shared->XK->Value->Shared->Prop
structure Mv(P:Program)(w:World)(K:PySem.W.Frag)(mg:Str->Option Value)(base:Heap)(A:Around)(outer:List Env)(s:Shared)(H:Hp):Prop where
 frames:A.frames=some outer
 mod:Mod K mg base
 bs:∀b o,base.get? b=some o->s.heap.get? b=some o/\H b=none
 JI:base.objs.size<=s.heap.objs.size
 GS:s.heap.FunFrames base outer
 Lv:∀b∈En outer,H b=none
 AX:Bn P w H s.heap
 bare:AllBare s.gens
def CE(outer:List Env)(P:Program)(w:World)(H:Hp)(s:Shared)(Q:VK)(u:Value)(s':Shared):Prop:=
 ∃v H',s'.os=s.os/\AllBare s'.gens/\Un (En outer) [] H H' s.heap s'.heap/\Bn P w H' s'.heap/\RelV v u/\Q v H'
def CR(CX:E7)(outer:List Env)(P:Program)(w:World)(H:Hp)(s:Shared)(Q:VK)(E:XK)(r:Result)(s':Shared):Prop:=
 match r with
 |.ok (.ret u)=>CE outer P w H s Q u s'
 |.ok _=>False
 |.error e=>CX outer H s E e s'
structure DM(P:Program)(w:World)(K:PySem.W.Frag)(mg:Str->Option Value)(base:Heap)(CX:E7)(k:Nat)(f:Addr)(fd:FuncData)(ps:List Str)(sp:Sp):Prop where
 len:∀vs H Q E,sp vs H Q E->vs.length=ps.length
 run:∀(A:Around)(outer:List Env)(s:Shared)(H:Hp)(args:Args)(us:List Value)(vs:List V)(Q:VK)(E:XK),Cd k A->Mv P w K mg base A outer s H->BindsTo s fd args (ps.zip us)->An vs us->sp vs H Q E->codeAny (model P w) A (.call (.ref f) args) (CR CX outer P w H s Q E) s
theorem DM.mono{P:Program}{w:World}{K:PySem.W.Frag}{mg:Str->Option Value}{base:Heap}{CX:E7}{j k:Nat}{f:Addr}{fd:FuncData}{ps:List Str}{sp:Sp}(F:DM P w K mg base CX j f fd ps sp)(h:j<=k) : DM P w K mg base CX k f fd ps sp:=⟨F.len,λA outer s H args us vs Q E y=>F.run A outer s H args us vs Q E<|y.mono h⟩
theorem DM.imp{P:Program}{w:World}{K:PySem.W.Frag}{mg:Str->Option Value}{base:Heap}{CX:E7}{k:Nat}{f:Addr}{fd:FuncData}{ps:List Str}{sp y:Sp}(F:DM P w K mg base CX k f fd ps sp) (h:∀vs H Q E,y vs H Q E->sp vs H Q E):DM P w K mg base CX k f fd ps y:=
 ⟨λvs H Q E q=>F.len vs H Q E<|h _ _ _ _ q,λA outer s H args us vs Q E v he hb u hs=>F.run A outer s H args us vs Q E v he hb u<|h _ _ _ _ hs⟩
section
variable{X:Cx}{AB:List (Addr×Obj)}{σ:St}{H:Hp}{s s':Shared}
theorem Inv.qY(I:Inv X AB σ H s):Mv X.prog X.w X.K X.mg X.base X.A X.stack s H:=
 ⟨I.ok.frames,I.ok.mod,I.bs,AEF I.ok.JI I.sz,I.stack,I.kJ,I.AX,I.bare⟩
theorem Inv.after{Q:VK}{u:Value}(I:Inv X AB σ H s)(h:CE X.stack X.prog X.w H s Q u s'):EP X AB σ Q u s':=by obtain⟨v,H',os,bare,un,AX,r,q⟩:=h;obtain⟨hh,g,d,t,y⟩:=s';obtain rfl:y=s.os:=os;exact⟨v,H',I.call un AX bare λb z=>absurd z ADk,r,q⟩
end
def ABk(sp:Sp)(y:List V)(E:XK)(t:TA):TE:=λσ H Q=>t σ H λvs q=>sp (vs++y) q Q E
def Binds(K:PySem.W.Frag)(fd:FuncData)(ps:List Str)(y:List Value):Prop:=
 ∀(s:Shared)(us:List Value),K.In s.heap->(us++y).length=ps.length->BindsTo s fd ⟨us,[]⟩ (ps.zip<|us++y)
theorem Binds.all{K:PySem.W.Frag}{fd:FuncData}{ps:List Str}(h:∀us:List Value,us.length=ps.length->bindArgs fd ⟨us,[]⟩=pure (ps.zip us)):Binds K fd ps []:=λs us _ y=>by rw[AE1]at y ⊢;exact .of_eq<|h us y
def Passes(CX:E7)(X:Cx)(E:XK):Prop:=∀(AB:List<|Addr×Obj)(σ:St)(H:Hp)(s:Shared)(e:Value)(s':Shared),Inv X AB σ H s->CX X.stack H s E e s'->X.xe e s'
section
variable{X:Cx}{CX:E7}{k:Nat}{f C:Addr}{fd:FuncData}{ps:List Str}{sp:Sp}{KL:List V}{ds:List Value}{E:XK}{x m:Str}{p pos apos:Pos}{e o:Expr}{es:List Expr}{ta:TE}{t:TA}
theorem ABC{AB:List (Addr×Obj)}{σ:St}{H:Hp}{s:Shared}{Q:VK}{us:List Value}{vs:List V}(F:DM X.prog X.w X.K X.mg X.base CX k f fd ps sp)(v:Cd k X.A)(hb:Binds X.K fd ps ds)(hd:An KL ds)(Z:Passes CX X E) (I:Inv X AB σ H s) (r:An vs us) (h:sp (vs++KL) H Q E):wpAny (model X.prog X.w) X.A (call (.ref f) us) (EP X AB σ Q) X.xe s:=by
 have q:=r.append hd;have Y:(us++ds).length=ps.length:=by rw[<-q.length];exact F.len _ _ _ _ h
 refine wpAny_call<|codeAny_mono (F.run X.A X.stack s H ⟨us,[]⟩ (us++ds) (vs++KL) Q E v I.qY (hb s us I.Bc Y) q h) λr s' y=>?_;cases r with
 |error e=>exact Z AB σ H s e s' I y
 |ok fl=>
  cases fl with
  |ret u=>exact I.after y
  |next=>exact False.elim y
  |brk=>exact False.elim y
  |cont=>exact False.elim y
theorem i7(F:DM X.prog X.w X.K X.mg X.base CX k f fd ps sp)(v:Cd k X.A)(u:Gl X x)(hm:X.mg x=some (.ref f))(Z:PySem.W.keepIn X.K (.ref f)=true)(hb:Binds X.K fd ps ds)(hd:An KL ds)(Y:Passes CX X E) (ha:PA X (e::es) t) (O:(x==("__debug__"))=false:=by decide) (he:starEach (e::es) X.env=(false,eval e X.env)::starEach es X.env:=by rfl) (P:(backTo pos<|starEach es X.env).any (·.1)=false:=by rfl) : PE X (.Call (.Name x p) (e::es) [] pos)<|ABk sp KL E t:=by intro AB s σ H Q I h;refine wpAny_Call_Name_kw<|fo I u hm ?_ O;refine PySem.W.callWith_K I.ok.mod.WN Z (Af (ha pos AB s σ H _ I h) ?_) he P;rintro us s1 ⟨vs,H1,y,r,q⟩;refine⟨y.Bc,?_⟩;exact ABC F v hb hd Y y r q
structure Mk(K:PySem.W.Frag)(C f:Addr):Prop where
 makes:PySem.W.makesIn K C=true
 init:PySem.W.findIn K (.ref C) "__init__" = some (some<|.ref f)
 fn:PySem.W.isFn K (.ref f)=true
 kp:PySem.W.keepIn K (.ref C)=true
end
section
variable{X:Cx}{CX:E7}{k:Nat}{f C:Addr}{fd:FuncData}{ps ks:List Str}{sp:Sp}{E:XK}{x m:Str}{p pos apos ADZ:Pos}{e o:Expr}{es:List Expr}{kws:List Keyword}{te ta:TE}{t tk:TA}{nm:Option Str}
structure AC2(K:PySem.W.Frag)(fd:FuncData)(ps ks:List Str)(g:List Value->List Value->List Value)(gV:List V->List V->List V):Prop where
 to:∀(s:Shared)(us ws:List Value),K.In s.heap->(g us ws).length=ps.length->BindsTo s fd ⟨us,ks.zip ws⟩ (ps.zip<|g us ws)
 rel:∀{vs:List V}{us:List Value}{zs:List V}{ws:List Value},An vs us->An zs ws->An (gV vs zs) (g us ws)
variable{g:List Value->List Value->List Value}{gV:List V->List V->List V}
end
structure M6(N P:List Str)(sc:Scope):Prop where
 kind:sc.kind=.function
 co:sc.isCoroutine=false
 gen:sc.isGenerator=false
 nd:N.Nodup
 pre:N.take P.length=P
 par:∀x∈P,sc.names.lookup x=some .local\/sc.names.lookup x=some .cell
 xC:∀y∈sc.names,y.2≠.free
theorem Yt{kindOf:Str->Option NameKind}{x:Str}:∀{binds:List (Str×Value)}{m:Str->Option Value},(∀v,(x,v)∉binds)->bindL kindOf binds m x=m x
 |[],_,_=>rfl
 |(n,v)::r,m,h=>by
  unfold bindL;rw[Yt λw y=>h w<|AD4 _ y];split
  .have:x≠n:=by rintro rfl;exact h v AD6
   simp[this]
  .rfl
theorem Yr{kindOf:Str->Option NameKind}{x:Str}:∀{binds:List (Str×Value)}{m:Str->Option Value},(∀v,(x,v)∉binds)->bindC kindOf binds m x=m x
 |[],_,_=>rfl
 |(n,v)::r,m,h=>by
  unfold bindC;rw[Yr λw y=>h w<|AD4 _ y];split
  .rfl
  .have:x≠n:=by rintro rfl;exact h v AD6
   simp[this]
theorem Ys{kindOf:Str->Option NameKind}{x:Str}{v:Value}:∀{P:List Str}{vs:List Value}{i:Nat}{m:Str->Option Value},P.Nodup->P[i]? = some x->vs[i]? = some v->kindOf x=some .local->bindL kindOf (P.zip vs) m x=some v
 |[],_,_,_,_,h,_,_=>by simp at h
 |_::_,[],_,_,_,_,h,_=>by simp at h
 |p::P,w::vs,0,m,nd,h1,h2,hk=>by simp at h1 h2;subst h1;subst h2;show bindL kindOf ((p,w)::P.zip vs) m p=_;unfold bindL;rw[Yt λv y=>(AFd.mp nd).1 (AH3 y).1,ADr hk];simp
 |p::P,w::vs,i+1,m,nd,h1,h2,hk=>by show bindL kindOf ((p,w)::P.zip vs) m x=_;exact Ys (AFd.mp nd).2 (by simpa using h1) (by simpa using h2) hk
theorem Yq{kindOf:Str->Option NameKind}{x:Str}{v:Value}:∀{P:List Str}{vs:List Value}{i:Nat}{m:Str->Option Value},P.Nodup->P[i]? = some x->vs[i]? = some v->kindOf x≠some .local->bindC kindOf (P.zip vs) m x=some v
 |[],_,_,_,_,h,_,_=>by simp at h
 |_::_,[],_,_,_,_,h,_=>by simp at h
 |p::P,w::vs,0,m,nd,h1,h2,hk=>by simp at h1 h2;subst h1;subst h2;show bindC kindOf ((p,w)::P.zip vs) m p=_;unfold bindC;rw[Yr λv y=>(AFd.mp nd).1 (AH3 y).1,ADs hk];simp
 |p::P,w::vs,i+1,m,nd,h1,h2,hk=>by show bindC kindOf ((p,w)::P.zip vs) m x=_;exact Yq (AFd.mp nd).2 (by simpa using h1) (by simpa using h2) hk
noncomputable def start(N:List Str)(vs:List V):St:=vs.map some++List.replicate (N.length-vs.length) none
noncomputable def IC(CX:E7)(P:Program)(w:World)(K:PySem.W.Frag)(mg:Str->Option Value)(base:Heap)(N:List Str)(qual:Str)(scope:Scope)(f:Addr)(y:Value)(A:Around)(outer:List Env)(s:Shared)(H:Hp)(E:XK):Cx where
 prog:=P
 w:=w
 K:=K
 mg:=mg
 base:=base
 A:=A.deeper<|envOfC qual scope s.heap.objs.size f y
 N:=N
 Cm:=s
 AU:=H
 env:=envOfC qual scope s.heap.objs.size f y
 outer:=outer
 stack:=envOfC qual scope s.heap.objs.size f y::outer
 ex:=[]
 calm:=true
 fn:=λ_=>true
 pn:=[]
 xe:=λe s'=>wpAny (model P w) (A.deeper<|envOfC qual scope s.heap.objs.size f y) (leaving (envOfC qual scope s.heap.objs.size f y) e) (λ_ q=>CX outer H s E e q) (λv q=>CX outer H s E v q) s'
theorem P4{sc:Scope}{n:Nat}{x:Str}(h:sc.names.lookup x=some .cell):∃c,(cellsFrom n sc.names []).lookup x=some c:=by have q:=AH5 sc.names n []<|.inl h;exact Option.isSome_iff_exists.mp q
theorem vD{CX:E7}{P:Program}{w:World}{K:PySem.W.Frag}{mg:Str->Option Value}{base:Heap}{N ps:List Str}{qual:Str}{scope:Scope}{f:Addr}{Q:Value}{A:Around}{outer:List Env}{s s1:Shared}{H:Hp}{E:XK}{us:List Value}{vs:List V} (S:M6 N ps scope) (hd:A.handled=none) (e0:Mv P w K mg base A outer s H) (hl:vs.length=ps.length) (r:An vs us) (x:InCallC s s.heap.objs.size (bindL (envOfC qual scope s.heap.objs.size f Q).kindOf (ps.zip us) λ_=>none) (cellsFrom (s.heap.objs.size+1) scope.names []) (bindC (envOfC qual scope s.heap.objs.size f Q).kindOf (ps.zip us) λ_=>none) s1) :
 Inv (IC CX P w K mg base N qual scope f Q A outer s H E) [] (start N vs) H s1:=by
 have BU:ps.length<=N.length:=by have:=AFX List.length S.pre;rw[AEq]at this;lia
 obtain⟨O,tk,rfl,F⟩:=x.done;have D:∀b:Addr,b∉(IC CX P w K mg base N qual scope f Q A outer s H E).ex:=λb z=>absurd (show b∈([])from z) ADk;refine⟨⟨e0.mod,S.kind,rfl,rfl,ADt _,λy z c O Z=>?_,λy Y=>?_,λy c _ h=>?_,λ_=>hd,Around.frames_deeper e0.frames,.inr ⟨rfl,rfl⟩,λb z=>absurd z (D b),e0.bs,e0.JI,λb _ _=>D b,λb z=>absurd z (D b),e0.GS,e0.Lv⟩,
  rfl,e0.bare,Un.kept F,⟨_,x.toInCall.ns,λi y v O Z h3=>?_⟩,λy c h=>⟨_,x.cell y c h⟩,e0.AX.fresh<|ADt _,λy c h=>?_,λp hp=>absurd (show p∈([])from hp) ADk,e0.AX.kept F,?_⟩
 .exact name_of_addr x.apart (AE2 O)<|AE2 Z
 .rcases Y with Y|Y
  .exact P4 Y
  .exact absurd rfl (S.xC _<|AE2 Y)
 .exact AEg<|x.above y c<|AE2 h
 .have hi:i<vs.length:=by
   unfold start at Z;by_cases hi:i<vs.length
   .exact hi
   .rw[AED<|by simpa using hi]at Z;rw[AFs]at Z;split at Z<;>nomatch Z
  have ha:vs[i]? = some v:=by
   unfold start at Z;rw[AEM (by simpa using hi),AEy]at Z;cases e:vs[i]? with
   |none=>rw[e]at Z;contradiction
   |some a=>rw[e]at Z;cases Z;rfl
  obtain⟨u,R,rv⟩:=r.get ha;have hp:ps[i]? = some y:=by rw[<-S.pre,AHo J];exact O
  have B:ps.Nodup:=by rw[<-S.pre];exact S.nd.sublist<|AGH _ _
  refine⟨u,rv,?_⟩;rcases S.par y (AEX hp)with k|k
  .exact .inl ⟨k,Ys B hp R k⟩
  .obtain⟨c,e⟩:=P4 k;refine .inr ⟨.inl k,c,e,?_⟩;have q:=x.cell y c e;rw[Yq B hp R (by show scope.names.lookup y≠_;rw[k];decide)]at q;exact q
 .exact e0.AX.fresh<|AEg<|x.above y c<|AE2 h
 .unfold start;show _=N.length;simp only[AD1,ADo,AFi];lia
theorem q0{CX:E7}{P:Program}{w:World}{K:PySem.W.Frag}{mg:Str->Option Value}{base:Heap}{k:Nat}{f:Addr}{name qual:Str}{Z:Arguments}{body:List Stmt}{scope:Scope}{F kV doc pm A9 ct oc:Value}{an od:Option Addr} {Ip:Array (Option Value)} {N ps:List Str} {sp:Sp} (G:K.lookup f=some ⟨oc,od,.func<|PySem.W.fnOf name qual Z body scope F kV doc pm an A9 ct,Ip⟩) (T:PySem.W.codeIn K A9 qual=true) (S:M6 N ps scope) (len:∀vs H Q E,sp vs H Q E->vs.length=ps.length) (C:∀(A:Around)(outer:List Env)(s:Shared)(H:Hp)(vs:List V)(Q:VK)(E:XK),Cd k (A.deeper<|envOfC qual scope s.heap.objs.size f A9)->sp vs H Q E->
  ∃t,C5 (IC CX P w K mg base N qual scope f A9 A outer s H E) body t/\t {nx:=λ_ H'=>Q .Aw H',rt:=Q} (start N vs) H) :
 DM P w K mg base CX (k+1) f (PySem.W.fnOf name qual Z body scope F kV doc pm an A9 ct) ps sp:=by
 refine⟨len,λA outer s H args us vs Q E O e0 hb r R=>?_⟩;have U:=len _ _ _ _ R;have B:=e0.mod.WN.keeps λb o e=>(e0.bs b o e).1;have D:=e0.mod.nolimit.keeps λb o e=>(e0.bs b o e).1;have tw:∀y∈ps.zip us,scope.names.lookup y.1=some .local\/(scope.names.lookup y.1=some .cell/\((cellsFrom (s.heap.objs.size+1) scope.names []).lookup y.1).isSome=true):=(by
  rintro⟨n,v⟩ hy;rcases S.par n (AH3 hy).1 with q|q
  .exact .inl q
  .exact .inr ⟨q,AH5 _ _ _<|.inl q⟩)
 refine codeAny_call_function O.depth (B _ _ G) rfl S.co S.gen rfl (PySem.W.codeRec_of B T)<|hb _ _ _ _ ?_;refine wpAny_newFunctionEnv_cells S.kind tw λenv he s1 x=>?_;subst he;refine⟨D.keeps x.toInCall.keep,codeAny_func ?_⟩;obtain⟨t,ht,hq⟩:=C A outer s H vs Q E (O.deeper _) R;have I:Inv (IC CX P w K mg base N qual scope f A9 A outer s H E) [] (start N vs) H s1:=vD S O.hd e0 U r x;refine wpAny_mono (ht [] s1 (start N vs) H _ I hq) (λfl s' hs=>?_) λe s' hs=>hs;have fin:∀{Y:St}{H':Hp}{v:V}{u:Value},Inv (IC CX P w K mg base N qual scope f A9 A outer s H E) [] Y H' s'->RelV v u->Q v H'->CE outer P w H s Q u s':=
  λ{Y H' v u} ADh rv q=>⟨v,H',ADh.os,ADh.bare,ADh.base,ADh.AX,rv,q⟩
 cases fl with
 |ret u=>
  obtain⟨v,Y,H',ADh,rv,q⟩:=hs;exact fin ADh rv q
 |next=>
  obtain⟨Y,H',ADh,q⟩:=hs;exact fin (v:=V.Aw) ADh rfl q
 |brk=>
  obtain⟨_,_,_,q⟩:=hs;exact False.elim q
 |cont=>
  obtain⟨_,_,_,q⟩:=hs;exact False.elim q
section
variable{X:Cx}{x:Str}{p pos:Pos}{e:Expr}{es:List Expr}{t:TA}{id T:String}{r:List V->Hp->VK->Prop}
def Xy(r:List V->Hp->VK->Prop)(t:TA):TE:=λσ H Q=>t σ H λvs y=>r vs y Q
theorem R0(hc:DX X (.builtin id) r)(y:Gl X x)(hm:X.mg x=none)(q:bootBuiltins x=some (.builtin id))(ha:PA X (e::es) t)(hn:x≠"__name__":=by decide)(v:(x==("__debug__"))=false:=by decide) (he:starEach (e::es) X.env=(false,eval e X.env)::starEach es X.env:=by rfl) (u:(backTo pos<|starEach es X.env).any (·.1)=false:=by rfl):PE X (.Call (.Name x p) (e::es) [] pos)<|Xy r t:=by intro AB s σ H Q I h;refine wpAny_Call_Name_kw<|OU I y hm q ?_ hn v;exact PyProof.Rows.callWith_builtin1 (Af (ha pos AB s σ H _ I h) (by rintro us s1 ⟨vs,Z,Y,O,P⟩;exact hc AB s1 σ Z vs us Q Y O P)) he u
theorem i8(hc:DX X (.type T) r)(y:Gl X x)(hm:X.mg x=none)(q:bootBuiltins x=some (.type T))(ha:PA X (e::es) t)(hn:x≠"__name__":=by decide)(v:(x==("__debug__"))=false:=by decide) (he:starEach (e::es) X.env=(false,eval e X.env)::starEach es X.env:=by rfl) (u:(backTo pos<|starEach es X.env).any (·.1)=false:=by rfl):PE X (.Call (.Name x p) (e::es) [] pos)<|Xy r t:=by intro AB s σ H Q I h;refine wpAny_Call_Name_kw<|OU I y hm q ?_ hn v;exact AGn (Af (ha pos AB s σ H _ I h) (by rintro us s1 ⟨vs,Z,Y,O,P⟩;exact hc AB s1 σ Z vs us Q Y O P)) he u
end
end L2
namespace HT
open PySem PyProof.Rows
section
open PySem.SeqAt
open PySem.AutoSeq1 (wpAny_loadPart')
open PySem.MeetsSeq PySem.MeetsSeq2 PySem.MeetsSeq3
end
section
variable{prog:Program}{w:World}{A:Around}{E:Value->Shared->Prop}{s:Shared}
noncomputable def DD(n d:Nat):Option Int->Nat
 |none=>d
 |some v=>if v<0 then(v+(n:Int)).toNat else min v.toNat n
theorem Xc(n d:Nat):DD n d none=d:=rfl
theorem Xb(n d k:Nat):DD n d (some<|k)=min k n:=by show(if(k:Int)<0 then((k:Int)+(n)).toNat else min (k:Int).toNat n)=min k n;rw[ADs J,Int.toNat_natCast]
end
end HT
set_option tactic.hygienic false
namespace L2
open PySem PySem.Spec PyProof.Rows
abbrev TO:=St->Hp->(Option Int->Hp->Prop)->Prop
def PO(X:Cx)(e:Option Expr)(t:TO):Prop:=
 ∀(AB:List<|Addr×Obj)(s:Shared)(σ:St)(H:Hp)(Q:Option Int->Hp->Prop),Inv X AB σ H s->t σ H Q->wpAny (model X.prog X.w) X.A (evalPart e X.env) (λu s'=>∃o H',Inv X AB σ H' s'/\IsPart u o/\Q o H') X.xe s
def ABw:TO:=λ_ H Q=>Q none H
def AB1(t:TE):TO:=λσ H Q=>t σ H λx y=>∃i,x=.int i/\Q (some i) y
theorem intsAre_of{ns:List Int}:∀{us:List Value},An (ns.map V.int) us->IntsAre us ns:=by
 induction ns with
 |nil=>intro us r;cases r;exact .nil
 |cons n ns ih=>
  intro us r;cases r with
  |cons r1 r2=>
   obtain⟨t,e⟩:=r1;subst e;exact .cons n t<|ih r2
section
variable{X:Cx}{e:Expr}{te:TE}{lo hi:Option Expr}{tl th:TO}{pos p2:Pos}
theorem y7:PO X none ABw:=by intro AB s σ H Q I h;exact wpAny_pure ⟨none,H,I,.none,h⟩
theorem y8(h:PE X e te):PO X (some e)<|AB1 te:=by intro AB s σ H Q I y;refine Af (h AB s σ H _ I y) ?_;rintro u s1 ⟨x,v,Z,Y,O⟩;obtain⟨i,rfl,q⟩:=O;obtain⟨t,rfl⟩:=Y;exact⟨some i,v,Z,.int i t,q⟩
def Yg(X:Cx)(r:V->Option Int->Option Int->Hp->VK->Prop):Prop:=
 ∀(AB:List<|Addr×Obj)(s:Shared)(σ:St)(H:Hp)(x:V)(v y q:Value)(lo hi:Option Int)(sl:Addr)(Q:VK),Inv X AB σ H s->RelV x v->s.heap.IsSliceOf sl y q .none->IsPart y lo->IsPart q hi->r x lo hi H Q->∃T id,typeLookup (.type T) "__getitem__" = pure (some<|.builtin id)/\s.TypeIs v T/\wpAny (model X.prog X.w) X.A (getItem v<|.ref sl) (EP X AB σ Q) X.xe s
def tSl(r:V->Option Int->Option Int->Hp->VK->Prop)(te:TE)(tl th:TO):TE:=λσ H Q=>te σ H λx y=>tl σ y λl q=>th σ q λu v=>r x l u v Q
theorem yc{r:V->Option Int->Option Int->Hp->VK->Prop}(P:Yg X r)(he:PE X e te)(D:PO X lo tl)(F:PO X hi th):PE X (.Subscript e (.Slice lo hi none p2) pos)<|tSl r te tl th:=by intro AB s σ H Q I h;refine Subscript_<|Af (he AB s σ H _ I h) ?_;rintro v s1 ⟨x,R,B,G,S⟩;refine wpAny_Slice<|Af (D AB s1 σ R _ B S) ?_;rintro Z s2 ⟨l,C,E,pl,U⟩;refine Af (F AB s2 σ C _ E U) ?_;rintro Y y ⟨u,O,n,t,q3⟩;refine wpAny_pure ?_;have I4:Inv X AB σ O {y with heap:=y.heap.push {cls:=.type "slice",data:=.fields #[Z,Y,.none]}}:=n.kept λb ob q=>Heap.get?_push_of_some _ q;obtain⟨T,id,hT,ht,hg⟩:=P AB {y with heap:=y.heap.push {cls:=.type "slice",data:=.fields #[Z,Y,.none]}} σ O x v Z Y l u y.heap.objs.size Q I4 G (Heap.IsSliceOf.new ..) pl t q3;exact tail_any ht hT hg<|by with_unfolding_all rfl
def QE(xs:List V)(lo hi:Option Int):List V:=(xs.drop<|HT.DD xs.length 0 lo).take<|HT.DD xs.length xs.length hi-HT.DD xs.length 0 lo
theorem pL(xs:List V)(lo hi:Option Int):(QE xs lo hi).length<=xs.length:=by unfold QE;rw[AEq,AFm];omega
end
noncomputable def Gb(n:Nat)(i:Int):Option Nat:=if 0<=i then(if i<n then some i.toNat else none)else if -(n:Int)<=i then some (i+n).toNat else none
def CP{α:Type}(xs:List α)(i:Int):Option α:=(Gb xs.length i).bind λj=>xs[j]?
theorem vN{n:Nat}{i:Int}{j:Nat}(h:Gb n i=some j):seqIndex? i n=some j/\j<n/\-(n)<=i/\i<n:=by
 unfold Gb at h;by_cases q:0<=i
 .rw[ADr q]at h;by_cases y:i<n
  .rw[ADr y]at h;have e:=AEU h;exact⟨by rw[seqIndex_of q y,e],ADj,ADj,y⟩
  .rw[ADs y]at h;contradiction
 .rw[ADs q]at h;by_cases y : -(n)<=i
  .rw[ADr y]at h;have e:=AEU h;exact⟨by rw[seqIndex_neg ADj y,e],ADj,y,ADj⟩
  .rw[ADs y]at h;contradiction
theorem Yl{α:Type}{xs:List α}{i:Int}{v:α}(h:CP xs i=some v):∃j,seqIndex? i xs.length=some j/\xs[j]? = some v/\j<xs.length/\-(xs.length)<=i/\i<xs.length:=by
 unfold CP at h;cases e:Gb xs.length i with
 |none=>rw[e]at h;contradiction
 |some j=>
  rw[e]at h;obtain⟨y,q,h3,u⟩:=vN e;exact⟨j,y,h,q,h3,u⟩
def Ye(b:Expr):Prop:=∀o i,subscripted b false o i=operate [o,i] (getItem o i)
def JE(X:Cx)(r:R2):Prop:=
 ∀(Z q:Expr)(AB:List<|Addr×Obj)(s:Shared)(σ:St)(H:Hp)(x y:V)(v u:Value)(Q:VK),Inv X AB σ H s->RelV x v->RelV y u->r x y H Q->subscripted q false v u=operate [v,u] (getItem v u)->wpAny (model X.prog X.w) X.A (subscriptTail Z q v u) (EP X AB σ Q) X.xe s
def Yc(X:Cx)(id:String)(r:V->List V->Hp->VK->Prop):Prop:=
 ∀(AB:List<|Addr×Obj)(s:Shared)(σ:St)(H:Hp)(x:V)(xs:List V)(v:Value)(us:List Value)(Q:VK),Inv X AB σ H s->RelV x v->An xs us->r x xs H Q->wpAny (model X.prog X.w) X.A (call (.builtin id) (v::us)) (EP X AB σ Q) X.xe s
section
variable{X:Cx}{a b:Expr}{ta tb:TE}{pos:Pos}
theorem JE.or{r O:R2}(h:JE X r)(h':JE X O):JE X (λx y H Q=>r x y H Q\/O x y H Q):=by
 intro Z Y AB s σ H x y v u Q I P D q hs;rcases q with q|q
 .exact h Z Y AB s σ H x y v u Q I P D q hs
 .exact h' Z Y AB s σ H x y v u Q I P D q hs
theorem jB{r:R2}(Z:JE X r)(ha:PE X a ta)(hb:PE X b tb)(hs:Ye b):PE X (.Subscript a b pos)<|Mg r ta tb:=by intro AB s σ H Q I h;exact Subscript_<|UK ha hb I h λv u s2 x y Y O P D q=>Z a b AB s2 σ Y x y v u Q O P D q<|hs _ _
def XM(K:PySem.W.Frag):R2:=λx y H Q=>∃p xs i v,x=.ref p/\y=.int i/\B6 K H p xs/\CP xs i=some v/\Q v H
def jR(K:PySem.W.Frag):R2:=λx y H Q=>∃p xs i v,x=.ref p/\y=.int i/\BS K H p xs/\CP xs i=some v/\Q v H
theorem fM:JE X<|XM X.K:=by
 intro value slice AB s σ H x y v u Q I D F h hs;obtain⟨p,xs,i,z,rfl,rfl,R,he,q⟩:=h;cases D;obtain⟨t,rfl⟩:=F;obtain⟨its,r,pl,hz⟩:=I.list R;obtain⟨j,Z,B,h3,G,S⟩:=Yl he;obtain⟨w,O,T⟩:=r.get B;have C:=r.length;have hn:=RG;have fin:EP X AB σ Q w s:=⟨z,H,I,T,q⟩;by_cases P:0<=i
 .have Y:=by rw[seqIndex_of P S]at Z;exact AEU Z
  exact item_listR pl.isList P J (by rw[Y];simpa using O) fin hs
 .have Y:(i+(its.toArray.size)).toNat=j:=by rw[seqIndex_neg ADj G]at Z;rw[AD3,<-C];exact AEU Z
  exact subscriptTail_builtinR pl.isList.typeIs slot_list_getitem.lookup (wpAny_getItem_list_neg pl.isList ADj (by rw[AD3]<;>lia) J (by rw[Y];simpa using O) ⟨rfl,fin⟩) hs
theorem vP:JE X<|jR X.K:=by intro value slice AB s σ H x y v u Q I Z Y h hs;obtain⟨p,xs,i,z,rfl,rfl,O,he,q⟩:=h;cases Z;obtain⟨t,rfl⟩:=Y;obtain⟨its,r,pl,hz⟩:=I.tuple O;obtain⟨j,P,D,h3,h4,h5⟩:=Yl he;obtain⟨w,F,R⟩:=r.get D;have B:=r.length;have hn:=RG;have fin:EP X AB σ Q w s:=⟨z,H,I,R,q⟩;exact subscriptTail_builtinR pl.typeIs slot_tuple_getitem.lookup (getItem_tuple pl ADj ADj (by rw[AD3,<-B];exact P) (by simpa using F) ⟨rfl,fin⟩) hs
theorem ABR(lo hi:Option Int)(n:Nat):(sliceBounds lo hi none n).1=((HT.DD n 0 lo))/\(sliceBounds lo hi none n).2.1=((HT.DD n n hi))/\(sliceBounds lo hi none n).2.2=1:=by
 refine⟨?_,?_,rfl⟩
 .cases lo with
  |none=>simp[sliceBounds,HT.DD]
  |some i=>
   simp only[sliceBounds,HT.DD,Option.getD_none,show(1:Int)>0 by decide,AF3];by_cases h:i<0
   .simp only[h,AF3]<;>omega
   .simp only[h,if_false]<;>omega
 .cases hi with
  |none=>simp[sliceBounds,HT.DD]
  |some i=>
   simp only[sliceBounds,HT.DD,Option.getD_none,show(1:Int)>0 by decide,AF3];by_cases h:i<0
   .simp only[h,AF3]<;>omega
   .simp only[h,if_false]<;>omega
theorem ABQ(its:List Value)(lo hi:Option Int):slicePick its.toArray lo hi none=((its.drop<|HT.DD its.length 0 lo).take<|HT.DD its.length its.length hi-HT.DD its.length 0 lo).toArray:=by obtain⟨y,q,h3⟩:=ABR lo hi its.toArray.size;unfold slicePick;simp only[y,q,h3];simp only[sliceRange_one,pick_run]<;>rfl
def AA2(K:PySem.W.Frag):V->Option Int->Option Int->Hp->VK->Prop:=λx lo hi H Q=>∃a xs,x=.ref a/\B6 K H a xs/\∀p,H p=none->Q (.ref p) (upd H p<|.lst<|QE xs lo hi)
theorem ABO:Yg X<|AA2 X.K:=by intro AB s σ H x v vl vu lo hi sl Q I u hs pl Z h;obtain⟨a,xs,rfl,Y,q⟩:=h;cases u;obtain⟨its,r,y,hz⟩:=I.list Y;have O:=r.length;refine⟨"list",_,slot_list_getitem.lookup,y.isList.typeIs,?_⟩;refine wpAny_getItem_list_slice y.isList hs pl Z .none ADk ?_ (by rw[AD3]<;>lia);rw[ABQ,<-O];refine⟨.ref s.heap.objs.size,_,I.laid (λb ob q=>Heap.get?_push_of_some _ q) (ADt _) ?_,rfl,q _<|I.AX.fresh<|ADt _⟩;exact⟨AEF (pL xs lo hi) hz,_,0,(r.drop<|HT.DD xs.length 0 lo).take<|HT.DD xs.length xs.length hi-HT.DD xs.length 0 lo,Heap.get?_push_size _ rfl⟩
noncomputable def JU:V->Bool
 |.Aw=>true
 |.bl _=>true
 |.int _=>true
 |.str _=>true
 |_=>false
noncomputable def JN:V->V->Bool
 |.Aw,.Aw=>true
 |.bl a,.bl b=>a==b
 |.bl a,.int b=>(if a then 1 else 0)==b
 |.int a,.bl b=>a==(if b then 1 else 0)
 |.int a,.int b=>a==b
 |.str a,.str b=>a==b
 |_,_=>false
theorem qZ{A:Around}{s:Shared}{y x:V}{u v:Value}(Z:RelV y u)(q:RelV x v)(Y:JU y=true)(fx:JU x=true):SeqAt.EqAt A s u v<|JN y x:=by
 cases y with
 |Aw=>
  cases Z;cases x with
  |Aw=>cases q;exact SeqAt.EqAt.same _
  |bl b=>cases q;exact SeqAt.EqAt.none_bool b
  |int b=>obtain⟨t,rfl⟩:=q;exact SeqAt.EqAt.none_int b t
  |str b=>obtain⟨t,rfl⟩:=q;exact SeqAt.EqAt.none_str b t
  |_=>exact absurd (show false=true from fx) AFL
 |bl a=>
  cases Z;cases x with
  |Aw=>cases q;exact SeqAt.EqAt.bool_none a
  |bl b=>cases q;exact SeqAt.EqAt.bool_bool a b
  |int b=>obtain⟨t,rfl⟩:=q;exact SeqAt.EqAt.bool_int a b t
  |str b=>obtain⟨t,rfl⟩:=q;exact SeqAt.EqAt.bool_str a b t
  |_=>exact absurd (show false=true from fx) AFL
 |int a=>
  obtain⟨t',rfl⟩:=Z;cases x with
  |Aw=>cases q;exact SeqAt.EqAt.int_none a t'
  |bl b=>cases q;exact SeqAt.EqAt.int_bool a t' b
  |int b=>obtain⟨t,rfl⟩:=q;exact SeqAt.EqAt.int_int a t' b t
  |str b=>obtain⟨t,rfl⟩:=q;exact SeqAt.EqAt.int_str a t' b t
  |_=>exact absurd (show false=true from fx) AFL
 |str a=>
  obtain⟨t',rfl⟩:=Z;cases x with
  |Aw=>cases q;exact SeqAt.EqAt.str_none a t'
  |bl b=>cases q;exact SeqAt.EqAt.str_bool a t' b
  |int b=>obtain⟨t,rfl⟩:=q;exact SeqAt.EqAt.str_int a t' b t
  |str b=>obtain⟨t,rfl⟩:=q;exact SeqAt.EqAt.str_str a t' b t
  |_=>exact absurd (show false=true from fx) AFL
 |_=>exact absurd (show false=true from Y) AFL
def ED(x:V)(u:Value):Bool:=match u with
 |.none=>JN .Aw x
 |.bool b=>JN (.bl b) x
 |.int i _=>JN (.int i) x
 |.str z _=>JN (.str z) x
 |_=>false
theorem b8{x y:V}{u:Value}(r:RelV y u)(f:JU y=true):ED x u=JN y x:=by
 cases y with
 |Aw=>cases r;rfl
 |bl b=>cases r;rfl
 |int i=>obtain⟨t,rfl⟩:=r;rfl
 |str z=>obtain⟨t,rfl⟩:=r;rfl
 |_=>exact absurd (show false=true from f) AFL
theorem Pl{x:V}:∀{xs:List V}{us:List Value},An xs us->xs.all JU=true->us.any (ED x)=xs.any λy=>JN y x:=by
 intro xs us h
 induction h with
 |nil=>intro f;rfl
 |cons r t ih=>
  intro f;rw[List.all_cons,ADx]at f;rw[AFI,AFI,b8 r f.1,ih f.2]
theorem Rf{A:Around}{s:Shared}{x:V}{v:Value}(q:RelV x v)(fx:JU x=true):∀{xs:List V}{us:List Value},An xs us->xs.all JU=true->∀u∈us,SeqAt.EqAt A s u v<|ED x u:=by
 intro xs us h
 induction h with
 |nil=>intro f u y;cases y
 |cons r t ih=>
  intro f Z y;rw[List.all_cons,ADx]at f;cases y with
  |head=>rw[b8 r f.1];exact qZ r q f.1 fx
  |tail _ y=>exact ih f.2 Z y
def Q5(x:V)(xs:List V):Bool:=xs.any λy=>JN y x
def XI(K:PySem.W.Frag)(neg:Bool):R2:=λx y H Q=>∃p xs,y=.ref p/\(B6 K H p xs\/BS K H p xs)/\JU x=true/\xs.all JU=true/\Q (.bl (if neg then !Q5 x xs else Q5 x xs)) H
theorem xh:BZ X (compareOp .In)<|XI X.K false:=by
 intro AB s σ H x y v u Q I O P h;obtain⟨p,xs,rfl,Z,fx,fs,q⟩:=h;cases P;rcases Z with Z|Z
 .obtain⟨its,r,pl,hz⟩:=I.list Z;refine SeqAt.in_listAt (ED x) pl.isList (λw Y=>Rf O fx r fs w<|by simpa using Y) ⟨.bl _,H,I,rfl,?_⟩;rw[show its.toArray.any (ED x)=its.any (ED x)by simp,Pl r fs];exact q
 .obtain⟨its,r,pl,hz⟩:=I.tuple Z;refine SeqAt.in_tupleAt (ED x) pl (λw Y=>Rf O fx r fs w<|by simpa using Y) ⟨.bl _,H,I,rfl,?_⟩;rw[show its.toArray.any (ED x)=its.any (ED x)by simp,Pl r fs];exact q
theorem xp:BZ X (compareOp .NotIn)<|XI X.K true:=by
 intro AB s σ H x y v u Q I O P h;obtain⟨p,xs,rfl,Z,fx,fs,q⟩:=h;cases P;rcases Z with Z|Z
 .obtain⟨its,r,pl,hz⟩:=I.list Z;refine SeqAt.notIn_listAt (ED x) pl.isList (λw Y=>Rf O fx r fs w<|by simpa using Y) ⟨.bl _,H,I,rfl,?_⟩;rw[show its.toArray.any (ED x)=its.any (ED x)by simp,Pl r fs];exact q
 .obtain⟨its,r,pl,hz⟩:=I.tuple Z;refine SeqAt.notIn_tupleAt (ED x) pl (λw Y=>Rf O fx r fs w<|by simpa using Y) ⟨.bl _,H,I,rfl,?_⟩;rw[show its.toArray.any (ED x)=its.any (ED x)by simp,Pl r fs];exact q
theorem oR:DX X (.builtin "len") (λxs H Q=>∃p ys,xs=[.ref p]/\(B6 X.K H p ys\/BS X.K H p ys)/\Q (.int ys.length) H):=by
 intro AB s σ H xs us Q I r h;obtain⟨p,ys,rfl,y,q⟩:=h;obtain⟨u,rfl,Y⟩:=vals1 r;cases Y;have hn:=RG;rcases y with y|y
 .obtain⟨its,v,pl,hz⟩:=I.list y;have Z:=v.length;exact Calls.call_len_list pl.isList (by simp only[AD3]<;>omega) ⟨.int ys.length,H,I.tok _,⟨s.toks+1,by rw[AD3,Z]⟩,q⟩
 .obtain⟨its,v,pl,hz⟩:=I.tuple y;have Z:=v.length;exact len_tuple pl (by simp only[AD3]<;>omega) ⟨.int ys.length,H,I.tok _,⟨s.toks+1,by rw[AD3,Z]⟩,q⟩
theorem oS:DX X (.type "list") (λxs H Q=>∃p ys,xs=[.ref p]/\(B6 X.K H p ys\/BS X.K H p ys)/\∀l,H l=none->Q (.ref l) (upd H l<|.lst ys)):=by
 intro AB s σ H xs us Q I r h;obtain⟨p,ys,rfl,Z,q⟩:=h;obtain⟨u,rfl,Y⟩:=vals1 r;cases Y;have fin:∀(its:List Value),An ys its->ys.length<=sizeLine->∀(h':Heap)(y:Nat),(∀b o',s.heap.get? b=some o'->h'.get? b=some o')->h'.get? s.heap.objs.size=some {cls:=.type "list",dict:=none,data:=.seq its.toArray y,slots:=#[]}->EP X AB σ Q (.ref s.heap.objs.size) {s with heap:=h'}:=λits v hz h' y kp e=>
  ⟨.ref s.heap.objs.size,_,I.laid kp (ADt _) (show Bw X.prog X.w _ h' _ (.lst ys)from⟨hz,its,y,v,e⟩),rfl,q _<|I.AX.fresh<|ADt _⟩
 rcases Z with Z|Z
 .obtain⟨its,v,pl,hz⟩:=I.list Z;have O:=v.length;obtain⟨o,ho,hc,n,hd⟩:=pl.isList;exact call_list_seq p (.inl rfl) ho hc hd (λh' y kp e=>fin its v hz h' y kp e) (by simp only[AD3]<;>omega)
 .obtain⟨its,v,pl,hz⟩:=I.tuple Z;have O:=v.length;obtain⟨o,ho,hc,n,hd⟩:=pl;exact call_list_seq p (.inr rfl) ho hc hd (λh' y kp e=>fin its v hz h' y kp e) (by simp only[AD3]<;>omega)
def X4(K:PySem.W.Frag)(T:String)(x:V)(H:Hp):Prop:=match x with
 |.str _=>T = "str"
 |.int _=>T = "int"
 |.ref p=>(T = "list"/\∃xs,B6 K H p xs)\/(T = "tuple"/\∃o,K.lookup p=some o/\o.cls=.type "tuple"/\o.dict=none)\/
  (T = "dict"/\((∃AI,H p=some (.dK AI))\/∃AI,H p=some (.dT AI)))\/(T = "set"/\∃S n,H p=some (.set S n))
 |_=>False
theorem lA{AB:List (Addr×Obj)}{σ:St}{H:Hp}{s:Shared}{T:String}{x:V}{v:Value}(I:Inv X AB σ H s)(r:RelV x v)(ty:X4 X.K T x H) : s.TypeIs v T/\∀a,v=.ref a->∃u,s.heap.get? a=some u/\u.dict=none:=by
 cases x with
 |str z=>
  obtain⟨t,rfl⟩:=r;cases (show T = "str" from ty);exact⟨typeIs_str s z t,λ_ e=>nomatch e⟩
 |int i=>
  obtain⟨t,rfl⟩:=r;cases (show T = "int" from ty);exact⟨typeIs_int s i t,λ_ e=>nomatch e⟩
 |ref p=>
  cases r;rcases ty with⟨rfl,xs,Z⟩|⟨rfl,o,y,hc,hd⟩|⟨rfl,y⟩|⟨rfl,S,n,y⟩
  .obtain⟨its,_,pl,_⟩:=I.list Z;refine⟨pl.isList.typeIs,λa e=>?_⟩;cases e;obtain⟨o,n,e,c,hd,_⟩:=pl;exact⟨o,e,hd⟩
  .refine⟨⟨o,I.Bc p o y,hc⟩,λa e=>?_⟩;cases e;exact⟨o,I.Bc _ o y,hd⟩
  .have z:∃o,s.heap.get? p=some o/\o.ExactDict:=by
    rcases y with⟨AI,y⟩|⟨AI,y⟩
    .obtain⟨_,_,_,_,o,_,_,e,ex,_⟩:=I.AX p _ y;exact⟨o,e,ex⟩
    .obtain⟨_,_,_,_,o,_,_,e,ex,_⟩:=I.AX p _ y;exact⟨o,e,ex⟩
   obtain⟨o,e,ex⟩:=z;refine⟨⟨o,e,ex.1⟩,λa q=>?_⟩;cases q;exact⟨o,e,ex.2.1⟩
  .obtain⟨o,_,_,_,e,ex,_⟩:=I.AX p _ y;refine⟨⟨o,e,ex.1⟩,λa q=>?_⟩;cases q;exact⟨o,e,ex.2.1⟩
 |_=>exact False.elim ty
def kc(K:PySem.W.Frag)(T:String)(r:V->List V->Hp->VK->Prop)(to:TE):TE:=λσ H Q=>to σ H λx y=>X4 K T x y/\r x [] y Q
def Xx(K:PySem.W.Frag)(T:String)(r:V->List V->Hp->VK->Prop)(to:TE)(t:TA):TE:=λσ H Q=>to σ H λx y=>X4 K T x y/\t σ y λxs q=>r x xs q Q
variable{o e:Expr}{es:List Expr}{to:TE}{t:TA}{name:Str}{apos CA:Pos}{T id:String}{r:V->List V->Hp->VK->Prop}
theorem yN(u:PlainAttrs T)(slot:Slot T name id)(Z:typeOf (.builtin id)=pure (.type "method_descriptor"))(hm:Yc X id r)(ho:PE X o to) (Y:attributeBase o name X.env (eval o X.env)=eval o X.env:=by rfl) (O:(apos.endLine==CA.line)=true:=by rfl):PE X (.Call (.Attribute o name apos) [] [] CA)<|kc X.K T r to:=by intro AB s σ H Q I h;refine wpAny_Call_method0_late Y O<|Af (ho AB s σ H _ I h) ?_;rintro v s1 ⟨x,P,y,q,ty,D⟩;obtain⟨F,R⟩:=lA y q ty;exact⟨T,id,u,slot,Z,F,R,Calls.callWith_builtin rfl<|PySem.evalArgs_none<|hm AB s1 σ P x [] v [] Q y q .nil D⟩
theorem W7(Z:PlainAttrs T)(slot:Slot T name id)(Y:typeOf (.builtin id)=pure (.type "method_descriptor"))(hm:Yc X id r)(ho:PE X o to)(ha:PA X (e::es) t) (O:attributeBase o name X.env (eval o X.env)=eval o X.env:=by rfl) (P:((backTo CA<|starEach (e::es) X.env).all (λx=>!x.1)&&(backToKw CA<|keywordEach [] X.env).all (λx=>x.1.isSome)
  && decide ((e::es).length+([]:List Keyword).length+(if([]:List Keyword).isEmpty then 0 else 1)<30))=true:=by rfl)
 (D:(apos.endLine==CA.line)=true:=by rfl) (hs:starEach (e::es) X.env=(false,eval e X.env)::starEach es X.env:=by rfl) (F:(backTo CA<|starEach es X.env).any (·.1)=false:=by rfl) :
 PE X (.Call (.Attribute o name apos) (e::es) [] CA) (Xx X.K T r to t):=by
 intro AB s σ H Q I h;refine wpAny_Call_method_late O P D rfl<|Af (ho AB s σ H _ I h) ?_;rintro v s1 ⟨x,R,y,q,ty,B⟩;obtain⟨G,S⟩:=lA y q ty;refine⟨T,id,Z,slot,Y,G,S,?_⟩;have u:=ha CA AB s1 σ R _ y B;rw[hs]at u ⊢;refine Calls.callWith_builtin (by show(false||(backTo CA<|starEach es X.env).any (·.1))=false;rw[F]<;>rfl)<|Calls.evalArgs_plain ?_;exact Af u (by rintro us s2 ⟨vs,C,E,U,n⟩;exact hm AB s2 σ C x vs v us Q E q U n)
end
def Tv(X:Cx)(id:String)(r:V->List V->Hp->VK->Prop):Prop:=
 ∀(AB:List<|Addr×Obj)(s:Shared)(σ:St)(H:Hp)(x:V)(xs:List V)(v:Value)(us:List Value)(Q:VK),Inv X AB σ H s->RelV x v->An xs us->r x xs H Q->wpAny (model X.prog X.w) X.A (call (.builtin id) (v::us)) (EP X AB σ Q) X.xe s
theorem An.one:∀{x:V}{us:List Value},An [x] us->∃u,us=[u]/\RelV x u:=by rintro x us (_|⟨r,⟨⟩⟩);exact⟨_,rfl,r⟩
theorem An.zero:∀{us:List Value},An [] us->us=[]
 |_,.nil=>rfl
theorem An.reverse{xs:List V}{us:List Value}(h:An xs us):An xs.reverse us.reverse:=by
 induction h with
 |nil=>exact .nil
 |cons r t ih=>simp only[AHC,AHC];exact An.append ih<|.cons r .nil
section
variable{X:Cx}{AB:List (Addr×Obj)}{σ:St}{H:Hp}{s:Shared}{l b:Addr}{xs ys zs:List V}
theorem Inv.Wf{its its':List Value}{n:Nat}{f:Array Value->Array Value}{t':Nat}(I:Inv X AB σ H s)(y:H l=some (.lst xs)) (e:s.heap.get? l=some {cls:=.type "list",data:=.seq its.toArray n}) (v:f its.toArray=its'.toArray) (Z:An ys its') (hz:ys.length<=sizeLine) : Inv X AB σ (upd H l<|.lst ys) {s with heap:=s.heap.update l<|Obj.mapSeq f,toks:=t'}:=by have q:=PySem.IsL.update e f;rw[v]at q;refine I.write (by rw[y];exact trivial) (.inl rfl) (λb' u hb Y=>(Heap.get?_update_other s.heap (Obj.mapSeq f) (AFH hb)).trans Y) ⟨_,q⟩ ?_;exact⟨hz,its',_,Z,q⟩
theorem Inv.wH{its:List Value}{t':Nat}(I:Inv X AB σ H s)(y:An ys its)(hz:ys.length<=sizeLine) : Inv X AB σ (upd H s.heap.objs.size<|.lst ys) {s with heap:=s.heap.push {cls:=.type "list",data:=.seq its.toArray},toks:=t'}:=
 I.laid (λ_ _ q=>Heap.get?_push_of_some _ q) (ADt _) ⟨hz,its,0,y,Heap.get?_push_size _ rfl⟩
theorem Inv.fresh(I:Inv X AB σ H s):H s.heap.objs.size=none:=I.AX.fresh<|ADt _
theorem Inv.Wg(I:Inv X AB σ H s)(y:H l=some (.lst xs)):xs.length<=sizeLine/\∃(its:List Value)(n:Nat),An xs its/\xs.length=its.length/\s.heap.get? l=some {cls:=.type "list",data:=.seq its.toArray n}:=by obtain⟨z,its,n,r,e⟩:=I.AX l _ y;exact⟨z,its,n,r,r.length,e⟩
theorem xE{n:Nat}(h:n<=sizeLine):Builtin.List.listTooLong n=false:=by unfold Builtin.List.listTooLong;exact AFK J
end
section
variable{X:Cx}
def XG:V->List V->Hp->VK->Prop:=λx vs H Q=>∃l xs y,x=.ref l/\vs=[y]/\H l=some (.lst xs)/\xs.length<sizeLine/\Q .Aw (upd H l<|.lst<|xs ++ [y])
theorem Wl:Tv X "list.append" XG:=by
 intro AB s σ H x vs v us Q I Y rv h;obtain⟨l,xs,y,rfl,rfl,Z,hz,q⟩:=h;cases Y;obtain⟨u,rfl,O⟩:=rv.one;obtain⟨z,its,n,r,hl,e⟩:=I.Wg Z;refine call_meets F.slot_list_append ⟨_,e,rfl⟩ F.entry_list_append (F.args_list_append_2 _ _) (PySem.list_append l its.toArray n u (by rw[AD3];lia)) ⟨e,?_⟩;refine⟨.Aw,_,I.Wf Z e ADk (r.append<|.cons O .nil) ?_,rfl,q⟩;simp only[AD1,AFS]
 assumption
set_option tactic.hygienic true
def jP:V->List V->Hp->VK->Prop:=λx vs H Q=>∃l xs,x=.ref l/\vs=[]/\H l=some (.lst xs)/\Q .Aw (upd H l<|.lst [])
theorem wk:Tv X "list.clear" jP:=by intro AB s σ H x vs v us Q I u rv h;obtain⟨l,xs,rfl,rfl,y,q⟩:=h;cases u;have Z:=rv.zero;subst Z;obtain⟨z,its,n,r,hl,e⟩:=I.Wg y;refine call_meets F.slot_list_clear ⟨_,e,rfl⟩ F.entry_list_clear (F.args_list_clear_1 _) (AutoSeq1.list_clear_list_0 l its.toArray n (by rw[AD3];lia)) ⟨e,?_⟩;exact⟨.Aw,_,I.Wf (its':=[]) (ys:=[]) y e rfl .nil<|AEu _,rfl,q⟩
end
section
variable{prog:Program}{w:World}{A:Around}{E:Value->Shared->Prop}{s:Shared}
end
section
variable{X:Cx}
end
end L2
namespace YJ
open PySem PySem.W PySem.Calls PyProof.Rows
theorem vC{P:Params}{h:Heap}:∀(ns:List Int)(vs:List Value),WellAll P h vs (ns.map WData.int)->IntsAre vs ns:=by
 intro ns
 induction ns with
 |nil=>
  intro vs w;cases w;exact .nil
 |cons n ns ih=>
  intro vs w;cases w with
  |cons a b=>
   cases a;exact .cons _ _<|ih _ b
theorem ABF{l:OpenLaw}{n:Nat}(hn:l.most=some n){P:Params}{h:Heap}{args:List WData}{y:List Value} (Z:l.row.toRowW.claim.pre args=true) (Y:WellAll P h y args) : ∃a vs ns,y=[Value.ref a]/\args=[WData.list<|ns.map WData.int]/\h.get? a=some {cls:=.type "list",data:=.seq vs.toArray}/\IntsAre vs ns/\ns.length<=n:=by
 have A8:WShape.hasAll [] args [.list .int]=true:=(pre_splitW Z).1;have hc:l.pre.holds [] {args:=args}=true:=(pre_splitW Z).2;obtain⟨d,r,rfl,Q,O⟩:=hasAllW_cons A8;obtain rfl:=hasAllW_nil O;obtain⟨xs,rfl,h3⟩:=hasW_list Q;obtain⟨ns,rfl⟩:=items_int h3;have D:ns.length<=n:=by
  have v:=by have v:=(holds_andW hc).1;rw[hn]at v;exact v
  have u:=condW_of v<|w_not<|w_lt w_lit<|w_len_list<|w_arg rfl;rw[ADo]at u;refine Nat.le_of_not_lt λq=>?_;have F:(n:Int)<((ns.length)):=ADj
  first
   |(rw[AEs F]at u;exact absurd u ADl)
   |(simp at u)
 cases Y with
 |cons w1 w2=>
  cases w2;cases w1 with
  |list ho Bp=>exact⟨_,_,ns,rfl,rfl,ho,vC ns _ Bp,D⟩
theorem y9(l:OpenLaw)(args:List WData):l.row.toRowW.claim.post args (.bool true) args=true:=
 postW_of (show WShape.has [] (.bool true) .bool=true by first|rfl|decide|simp[WShape.has]) (show(WTm.eq .res<|.lit<|.bool true).value [] {args:=args,res:=some<|.bool true,after:=args}=some (.bool<|true==true)from w_eq_bool (w_res rfl) w_lit) rfl
theorem nZ{l:OpenLaw}{n:Nat}{q:Program}{y:List Str}{O:(Str->Option Value)->Heap->Prop}{P:World->Heap->Prop}{d:DefRec} (hn:l.most=some n) (F:d.params.defaults=[]) (call:∀(w:World)(Cm v:Shared)(mg mb:Str->Option Value)(fa:Addr)(o:Obj)(pm Z doc:Value)(a:Addr)(vs:List Value)(ns:List Int),
  Ground q y [] O w Cm mg mb v.heap->P w v.heap->
  v.heap.get? fa=some o->o.data=.func (docDef d.name d.params d.body d.scope pm Z doc)->v.heap.CodeRec Z d.name->mg d.name=some (.ref fa)->
  v.heap.get? a=some {cls:=.type "list",data:=.seq vs.toArray}->IntsAre vs ns->ns.length<=n->v.gens=#[]->
  codeAny (model l.prog w) callerA (.call (.ref fa) ⟨[.ref a],[]⟩) (λr s'=>r=.ok (.ret<|.bool true)/\OldK v.heap s'.heap/\s'.os=v.os/\AllBare s'.gens) v) :
 WalkO q y O P l.row.toRowW d [] (λf vs=>PySem.call f vs):=by
 intro w Cm v mg mb G Y fa o pm Z doc R kV ho hd B D Q S args vals as T ADT hrd C Kh;obtain rfl:R=.none:=Dflts.none D F;obtain rfl:kV=.none:=Dflts.noKw D;obtain⟨a,vs,ns,rfl,rfl,E,u,H⟩:=ABF hn T C;refine enter_call<|codeAny_mono (call w Cm v mg mb fa o pm Z doc a vs ns G Y ho (fd_plain hd) B Q E u H S) λr s' I=>?_;obtain⟨rfl,U,h3,t⟩:=I;exact⟨.inl ⟨.bool true,.bool true,[],rfl,λ_=>rfl,.bool true,y9 l _,λ_=>⟨List.Pairwise.nil,λ_ hm=>(nomatch hm)⟩⟩,U,h3,t⟩
section
variable{prog:Program}{w:World}{A:Around}{E:Value->Shared->Prop}{s:Shared}{K:Frag}
end
end YJ
namespace L2
open PySem PySem.Spec PyProof.Rows
theorem ACW:∀{vs:List Value}{ns:List Int},IntsAre vs ns->An (ns.map V.int) vs:=by
 intro vs ns h
 induction h with
 |nil=>exact .nil
 |cons n t h ih=>exact .cons ⟨t,rfl⟩ ih
def Tx(H:Hp):Prop:=∀b,H b=none\/∃o xs,H b=some (.BK o<|.lst xs)
theorem vq{P:Program}{w:World}{K:PySem.W.Frag}{mg mb:Str->Option Value}{CX:E7}{k:Nat}{fa a:Addr}{fd:FuncData}{x:Str}{sp:Sp}{y:Shared}{vs:List Value}{ns:List Int} (B:K.In y.heap) (G:y.heap.Ns mainGlobals mg) (hb:y.heap.Ns builtinsNs mb) (t:∀x:Str,x≠"__name__"->mb x=bootBuiltins x) (t8:y.heap.NoLimit) (hg:y.gens=#[]) (ha:y.heap.get? a=some {cls:=.type "list",data:=.seq vs.toArray}) (hi:IntsAre vs ns) (S:ns.length<=sizeLine) (hr:Cd k callerA) (F:∀base:Heap,K.In base->base.Ns mainGlobals mg->DM P w K mg base CX k fa fd [x] sp) (sk:∀(s:Shared)(u:Value),BindsTo s fd ⟨[u],[]⟩ [(x,u)]) (Ft:∀H:Hp,Tx H->B6 K H a (ns.map V.int)->sp [.ref a] H (λv _=>v=.bl true) λ_ _ _=>False)
 (VR:∀H e s',CX [] H y (λ_ _ _=>False) e s'->False) :
 codeAny (model P w) callerA (.call (.ref fa) ⟨[.ref a],[]⟩) (λr s'=>r=.ok (.ret<|.bool true)/\OldK y.heap s'.heap/\s'.os=y.os/\AllBare s'.gens) y:=by
 have rv:=ACW hi;have vz:=hi.length;have Z:∀H:Hp,Tx H->B6 K H a (ns.map V.int)->Bn P w H y.heap->(∀b,H b≠none->b=a)->(H a≠none->K.lookup a=none)->codeAny (model P w) callerA (.call (.ref fa) ⟨[.ref a],[]⟩) (λr s'=>r=.ok (.ret<|.bool true)/\OldK y.heap s'.heap/\s'.os=y.os/\AllBare s'.gens) y:=by
  intro H T hS AX C hK;have E:∀{b:Addr}{o:Obj},y.heap.get? b=some o->H b=none->(Jc y.heap H).get? b=some o:=λe n=>tT e n;have Ol:∀{b:Addr}{o:Obj}{es:Array DictEntry}{Y:Nat},y.heap.get? b=some o->o.data=.dict es Y->H b=none:=λ{b o es Y} e d=>by
   cases q:H b with
   |none=>rfl
   |some u=>
    have D:=C b (by rw[q];simp);subst D;rw[ha]at e;cases e;have d':=d
    contradiction
  have Q:∀{b:Addr}{m:Str->Option Value},y.heap.Ns b m->(Jc y.heap H).Ns b m:=λ{b m} ⟨o,es,Y,e,d,r⟩=>⟨o,es,Y,E e<|Ol e d,d,r⟩;have I:=λb o e=>E (B b o e) (by
   cases q:H b with
   |none=>rfl
   |some u=>
    have D:=C b (by rw[q];simp);subst D;rw[hK (by rw[q];simp)]at e;contradiction)
  have hM:Mod K mg<|Jc y.heap H:=⟨I,Q G,⟨mb,Q hb,t⟩,let ⟨mc,h1,h2⟩:=t8;⟨mc,Q h1,h2⟩⟩;have e0:Mv P w K mg (Jc y.heap H) callerA [] y H:=⟨rfl,hM,λb o e=>xJ e,AGO<|tU _ _,trivial,λb hb=>absurd (show b∈([])from hb) ADk,AX,.of_eq hg⟩;refine codeAny_mono ((F _ I<|Q G).run callerA [] y H ⟨[.ref a],[]⟩ [.ref a] [.ref a] _ _ hr e0 (sk y<|.ref a) (.cons rfl .nil)<|Ft H T hS) λr s' h=>?_;cases r with
  |error e=>exact(VR H e s' h).elim
  |ok fl=>
   cases fl with
   |next=>exact False.elim h
   |brk=>exact False.elim h
   |cont=>exact False.elim h
   |ret u=>
    obtain⟨v,H',os,bare,un,Vr,r',q⟩:=h;have q':=q;subst q';obtain rfl:u=Value.bool true:=r';refine⟨rfl,OldK.of_keep λb o e=>?_,os,bare⟩;cases q:H b with
    |none=>exact un.keep b o e q (by intro z;exact absurd (show b∈([])from z) ADk) ADk
    |some u=>
     rcases T b with z|⟨ob,xs,z⟩
     .rw[q]at z;contradiction
     .have z2:=un.Fp b ob _ z;obtain⟨U,_⟩:=AX b _ z;obtain⟨e2,_⟩:=Vr b _ z2;rw[e]at U;cases U;exact e2
 cases R:K.lookup a with
 |some o=>
  have e:=B a o R;rw[ha]at e;cases e;refine Z (λ_=>none) (λ_=>.inl rfl) (.inr ⟨_,vs.toArray,_,R,rfl,rfl,rfl,by rw[AD3,vz];exact S,by simpa using rv⟩) (λb u z=>by have O:(none)=some u:=z;contradiction) (λb z=>absurd rfl z) λz=>absurd rfl z
 |none=>
  refine Z (λb=>if b=a then some (.BK {cls:=.type "list",data:=.seq vs.toArray}<|.lst<|ns.map V.int)else none) (λb=>?_) (.inl<|.inr ⟨{cls:=.type "list",data:=.seq vs.toArray},ADr rfl⟩) (λb u z=>?_) (λb z=>?_) λ_=>R
  .by_cases hb:b=a
   .exact .inr ⟨_,_,ADr hb⟩
   .exact .inl<|ADs hb
  .by_cases hb:b=a
   .have O:=(ADr hb).symm.trans z;cases O;subst hb;exact⟨ha,by rw[ADo];exact S,vs,_,rv,ha⟩
   .have O:=(ADs hb).symm.trans z;injection O
  .by_cases hb:b=a
   .exact hb
   .exact absurd (ADs hb) z
theorem ACa{l:PySem.W.OpenLaw}{n k:Nat}{q:Program}{y:List Str}{R:(Str->Option Value)->Heap->Prop}{O:World->Heap->Prop}{d:DefRec}{K:Params->PySem.W.Frag}{CX:World->E7}{sp:World->Sp}{x:Str} (hn:l.most=some n) (B:n<=sizeLine) (S:d.params.defaults=[]) (C:Cd k callerA) (E:∀(w:World)(h:Heap),O w h->(K w.params).In h) (F:∀(w:World)(mg:Str->Option Value)(fa:Addr)(h:Heap),(K w.params).In h->h.Ns mainGlobals mg->mg d.name=some (.ref fa)->
  ∃fd:FuncData,(∀(s:Shared)(u:Value),BindsTo s fd ⟨[u],[]⟩ [(x,u)])/\∀base:Heap,(K w.params).In base->base.Ns mainGlobals mg->DM l.prog w (K w.params) mg base (CX w) k fa fd [x] (sp w))
 (I:∀(w:World)(H:Hp)(a:Addr)(ns:List Int),ns.length<=n->Tx H->B6 (K w.params) H a (ns.map V.int)->sp w [.ref a] H (λv _=>v=.bl true) λ_ _ _=>False)
 (U:∀(w:World)(H:Hp)(s:Shared)(e:Value)(s':Shared),CX w [] H s (λ_ _ _=>False) e s'->False) :
 PySem.W.WalkO q y R O l.row.toRowW d [] (λf vs=>PySem.call f vs):=by
 refine YJ.nZ hn S λw Cm t mg mb fa o pm cd doc a vs ns G Y ho hd Ba Q Vq Z P hg=>?_;have D:=E w _ Y;obtain⟨fd,hb,hF⟩:=F w mg fa _ D G.T.g Q;exact vq D G.T.g G.T.b G.T.builtins G.T.nolimit hg Vq Z (AEF P B) C hF hb (λH hO hS=>I w H a ns P hO hS) λH e s'=>U w H t e s'
noncomputable def ID(s:Stmt):Arguments:=match s with
 |.FunctionDef _ a _ _ _ _ _ _ _ _=>a
 |_=>{posonlyargs:=[],args:=[],vararg:=none,kwonlyargs:=[],kw_defaults:=[],kwarg:=none,defaults:=[]}
noncomputable def GL(s:Stmt):List Stmt:=match s with
 |.FunctionDef _ _ b _ _ _ _ _ _ _=>b
 |_=>[]
noncomputable def CQ(s:Stmt):Scope:=match s with
 |.FunctionDef _ _ _ _ _ _ sc _ _ _=>sc
 |_=>{kind:=.function,names:=[],isGenerator:=false,isCoroutine:=false}
abbrev Eb:E7:=λ_ _ _ _ _ _=>False
abbrev E0:XK:=λ_ _ _=>False
theorem i5{X:Cx}:Passes Eb X E0:=λ_ _ _ _ _ _ _ h=>h.elim
structure GB(K:PySem.W.Frag)(x qual:Str)(st:Stmt)(f:Addr)(fd:FuncData):Prop where
 ex:∃(oc:Value)(od:Option Addr)(kV doc pm:Value)(an:Option Addr)(A9 ct:Value)(Ip:Array<|Option Value),fd=PySem.W.fnOf x qual (ID st) (GL st) (CQ st) .none kV doc pm an A9 ct/\K.lookup f=some ⟨oc,od,.func fd,Ip⟩/\PySem.W.codeIn K A9 qual=true
 kp:PySem.W.keepIn K (.ref f)=true
section
variable{P:Program}{w:World}{K:PySem.W.Frag}{mg:Str->Option Value}{base:Heap}
theorem GB.ok{x qual:Str}{st:Stmt}{f:Addr}{fd:FuncData}{N ps:List Str}{k:Nat}{sp:Sp}(F:GB K x qual st f fd)(S:M6 N ps<|CQ st)(len:∀vs H Q E,sp vs H Q E->vs.length=ps.length) (y:∀(A9:Value)(A:Around)(outer:List Env)(s:Shared)(H:Hp)(vs:List V)(Q:VK)(E:XK),Cd k (A.deeper<|envOfC qual (CQ st) s.heap.objs.size f A9)->sp vs H Q E->
  ∃t,C5 (IC Eb P w K mg base N qual (CQ st) f A9 A outer s H E).K3 (GL st) t/\t {nx:=λ_ H'=>Q .Aw H',rt:=Q} (start N vs) H):DM P w K mg base Eb (k+1) f fd ps sp:=by
 obtain⟨oc,od,kV,doc,pm,an,A9,ct,Ip,rfl,v,u⟩:=F.ex;refine q0 v u S len λA outer s H vs Q E Z Y=>?_;obtain⟨t,h,q⟩:=y A9 A outer s H vs Q E Z Y;exact⟨t,h.K3,q⟩
theorem GB.binds{x qual:Str}{st:Stmt}{f:Addr}{fd:FuncData}{ps:List Str}(F:GB K x qual st f fd) (h:∀(kV doc pm:Value)(an:Option Addr)(A9 ct:Value)(us:List Value),us.length=ps.length->bindArgs (PySem.W.fnOf x qual (ID st) (GL st) (CQ st) .none kV doc pm an A9 ct) ⟨us,[]⟩=pure (ps.zip us)):Binds K fd ps []:=by obtain⟨oc,od,kV,doc,pm,an,A9,ct,Ip,rfl,lk,Ba⟩:=F.ex;exact .all<|h kV doc pm an A9 ct
theorem rF{x qual:Str}{st:Stmt}{f:Addr}{oc:Value}{od an:Option Addr}{Ip:Array (Option Value)}{kV doc pm A9 ct:Value}(l:K.lookup f=some ⟨oc,od,.func<|PySem.W.fnOf x qual (ID st) (GL st) (CQ st) .none kV doc pm an A9 ct,Ip⟩) (c:PySem.W.codeIn K A9 qual=true) (k:PySem.W.keepIn K (.ref f)=true):GB K x qual st f<|PySem.W.fnOf x qual (ID st) (GL st) (CQ st) .none kV doc pm an A9 ct:=⟨⟨oc,od,kV,doc,pm,an,A9,ct,Ip,rfl,l,c⟩,k⟩
end
theorem Xk{n:Nat}(h:n<=1000):n<sizeLine:=AEz h ADl
section
variable{X:Cx}
theorem pv(i:Nat){x:Str}{pos:Pos}(y:X.N[i]? = some x:=by rfl)(q:FG X.env.scope x:=by first|exact Or.inl rfl|exact Or.inr (Or.inl rfl)|exact Or.inr<|Or.inr rfl)(hd:(x==("__debug__" : Str))=false:=by decide) (v:(x==("__classdict__" : Str))=false:=by decide):PE X (.Name x pos)<|O9 i:=He y q hd v
end
theorem fI{A B:Prop}(h:B):if false=true then A else B:=by exact h
theorem vL{A B:Prop}(h:A):if true=true then A else B:=by exact h
def AY(H H':Hp):Prop:=∀b o,H b=some o->H' b=some o
theorem AY.refl(H:Hp):AY H H:=λ_ _ h=>h
theorem AY.trans{H y q:Hp}(a:AY H y)(b:AY y q):AY H q:=λc o h=>b c o<|a c o h
theorem AY.free{H H':Hp}(e:AY H H'){l:Addr}(h:H' l=Option.none):H l=Option.none:=by
 cases q:H l with
 |none=>rfl
 |some o=>
  rw[e l o q]at h
  contradiction
theorem AY.seq{K:PySem.W.Frag}{H H':Hp}{a:Addr}{xs:List V}(e:AY H H')(h:B6 K H a xs):B6 K H' a xs:=by
 rcases h with(h|⟨o,h⟩)|h
 .exact .inl<|.inl<|e _ _ h
 .exact .inl<|.inr ⟨o,e _ _ h⟩
 .exact .inr h
section
variable{κ:Type}[DecidableEq κ]
noncomputable def F8(AI:List<|κ×V)(k:κ):Option V:=(AI.find? λy=>decide (y.1=k)).map (·.2)
noncomputable def Fd(AI:List<|κ×V)(k:κ)(v:V):List<|κ×V:=
 if(AI.any λy=>decide (y.1=k))=true then AI.map (λy=>if y.1=k then(y.1,v)else y)else AI ++ [(k,v)]
theorem S6{p:κ×V}{r:List (κ×V)}{k:κ}(e:p.1=k):F8 (p::r) k=some p.2:=by simp[F8,AGX,e]
theorem S5{p:κ×V}{r:List (κ×V)}{k:κ}(e:¬ p.1=k):F8 (p::r) k=F8 r k:=by simp[F8,AGX,e]
theorem lJ(k:κ):∀AI:List<|κ×V,(AI.any λy=>decide (y.1=k))=(F8 AI k).isSome
 |[]=>rfl
 |p::r=>by
  rw[AFI];by_cases e:p.1=k
  .simp only[S6 e,AEs e,Bool.true_or,Option.isSome_some]
  .rw[S5 e,AFK e,Bool.false_or];exact lJ k r
theorem fv(AI:List<|κ×V)(k:κ)(v:V):(Fd AI k v).length<=AI.length+1:=by
 unfold Fd;split
 .rw[ADo];omega
 .rw[AD1,AD5,AFe];omega
theorem Ff.vI{o:Option V}{u:Option Value}(r:Ff o u):o.isSome=u.isSome:=by
 cases o with
 |none=>cases u with
  |none=>rfl
  |some _=>exact(show False from r).elim
 |some _=>cases u with
  |none=>exact(show False from r).elim
  |some _=>rfl
theorem KV.val{AI:List (κ×V)}{vs:List (κ×Value)}(r:KV AI vs)(k:κ):Ff (F8 AI k)<|valueAt vs k:=by
 unfold KV at r
 induction r with
 |nil=>exact True.intro
 |@cons p q ps qs h t ih=>
  obtain⟨v,u⟩:=h;by_cases e:p.1=k
  .have y:q.1=k:=v.symm.trans e;have b:valueAt (q::qs) k=some q.2:=by simp[valueAt,AGX,y]
   rw[S6 e,b];exact u
  .have y:¬ q.1=k:=λz=>e<|v.trans z;have b:valueAt (q::qs) k=valueAt qs k:=by simp[valueAt,AGX,y]
   rw[S5 e,b];exact ih
theorem KV.any{AI:List (κ×V)}{vs:List (κ×Value)}(r:KV AI vs)(k:κ):(AI.any λy=>decide (y.1=k))=vs.any λy=>decide (y.1=k):=by
 unfold KV at r
 induction r with
 |nil=>rfl
 |cons h t ih=>rw[AFI,AFI,ih,h.1]
theorem KV.XO{AI:List (κ×V)}{vs:List (κ×Value)}(r:KV AI vs)(k:κ){y:V}{u:Value}(Y:RelV y u) : KV (AI.map λv=>if v.1=k then(v.1,y)else v) (vs.map λv=>if v.1=k then(v.1,u)else v):=by
 unfold KV at r ⊢
 induction r with
 |nil=>exact .nil
 |@cons p q ps qs h t ih=>
  rw[AD0,AD0];refine .cons ?_ ih;obtain⟨Z,Q⟩:=h;by_cases e:p.1=k
  .rw[ADr e,ADr<|Z.symm.trans e];exact⟨Z,Y⟩
  .rw[ADs e,ADs λz=>e<|Z.trans z];exact⟨Z,Q⟩
theorem KV.put{AI:List (κ×V)}{vs:List (κ×Value)}(r:KV AI vs)(k:κ){y:V}{u:Value}(q:RelV y u):KV (Fd AI k y)<|stored vs k u:=by
 unfold Fd stored;rw[r.any k];by_cases e:(vs.any λv=>decide (v.1=k))=true
 .rw[ADr e,ADr e];exact r.XO k q
 .rw[ADs e,ADs e];exact Paired.snoc r ⟨rfl,q⟩
theorem KV.length{AI:List (κ×V)}{vs:List (κ×Value)}(r:KV AI vs):AI.length=vs.length:=Paired.length r
end
theorem WK{P:Program}{w:World}{k:Key}{u:Value}(r:RelV (kV k) u):(Ex P w).is k u=true:=by
 cases k with
 |inl i=>obtain⟨t,e⟩:=(show ∃t,u=Value.int i t from r);subst e;exact wd P w i t
 |inr x=>obtain⟨t,e⟩:=(show ∃t,u=Value.str x t from r);subst e;exact we P w x t
theorem WD{P:Program}{w:World}:∀{ks:List Key}{us:List Value},An (ks.map kV) us->ItemsAre (Ex P w) ks us
 |[],_,r=>by rw[AGi]at r;cases r;exact .nil
 |k::ks,_,r=>by
  rw[AD0]at r;cases r with
  |cons h t=>exact .cons (WK h)<|WD t
abbrev KT(H:Hp):List (List Key×V)->List (List Key×Addr×Value)->Prop:=Paired λp q=>p.1=q.1/\H q.2.1=some (.tup<|p.1.map kV)/\RelV p.2 q.2.2
theorem KT.val{H:Hp}{AI:List (List Key×V)}{xs:List (List Key×Addr×Value)}(r:KT H AI xs)(k:List Key):Ff (F8 AI k) ((atKey xs k).map (·.2)):=by
 induction r with
 |nil=>exact True.intro
 |@cons p q ps qs h t ih=>
  obtain⟨v,_,u⟩:=h;by_cases e:p.1=k
  .have y:q.1=k:=v.symm.trans e;have b:atKey (q::qs) k=some q.2:=by simp[atKey,AGX,y]
   rw[S6 e,b];exact u
  .have y:¬ q.1=k:=λz=>e<|v.trans z;have b:atKey (q::qs) k=atKey qs k:=by simp[atKey,AGX,y]
   rw[S5 e,b];exact ih
theorem KT.XO{H:Hp}{AI:List (List Key×V)}{xs:List (List Key×Addr×Value)}(r:KT H AI xs)(k:List Key){y:V}{u:Value}(Q:RelV y u) : KT H (AI.map λZ=>if Z.1=k then(Z.1,y)else Z)<|xs.map<|putAt k u:=by
 induction r with
 |nil=>exact .nil
 |@cons p q ps qs h t ih=>
  rw[AD0,AD0];refine .cons ?_ ih;obtain⟨v,Y,h3⟩:=h;unfold putAt;by_cases e:p.1=k
  .rw[ADr e,ADr<|v.symm.trans e];exact⟨v,Y,Q⟩
  .rw[ADs e,ADs λz=>e<|v.trans z];exact⟨v,Y,h3⟩
theorem KT.put{H:Hp}{AI:List (List Key×V)}{xs:List (List Key×Addr×Value)}(r:KT H AI xs)(k:List Key){b:Addr}{y:V}{u:Value}(hb:H b=some (.tup<|k.map kV))(v:RelV y u) : KT H (Fd AI k y)<|storedH xs k b u:=by
 have e:(AI.any λZ=>decide (Z.1=k))=(atKey xs k).isSome:=by rw[lJ,(r.val k).vI,Option.isSome_map]
 unfold Fd storedH;rw[e];by_cases q:(atKey xs k).isSome=true
 .rw[ADr q,ADr q];exact r.XO k v
 .rw[ADs q,ADs q];exact Paired.snoc r ⟨rfl,hb,v⟩
theorem KT.keeps{H H':Hp}{AI:List (List Key×V)}{xs:List (List Key×Addr×Value)}(r:KT H AI xs)(y:∀b ys,H b=some (.tup ys)->H' b=some (.tup ys)):KT H' AI xs:=
 Paired.Og r λ_ _ z=>⟨z.1,y _ _ z.2.1,z.2.2⟩
section
variable{P:Program}{w:World}{H:Hp}{h:Heap}{a:Addr}
theorem jX{u:HO}(ok:Bn P w H h)(e:Rd H a u):Bw P w H h a u:=e.ok ok
theorem Uh{AI:List (Key×V)}(ok:Bn P w H h)(e:Rd H a<|.dK AI):AI.length<=sizeLine/\(a==sysModules)=false/\∃vs,KV AI vs/\h.DictOf (Ex P w) a vs:=
 show Bw P w H h a (.dK AI)from jX ok e
theorem qJ{AI:List (Key×V)}(ok:Bn P w H h)(e:H a=some (.dK AI)):AI.length<=sizeLine/\(a==sysModules)=false/\∃vs,KV AI vs/\h.DictOf (Ex P w) a vs:=Uh ok<|.inl e
theorem WM{ks:List Key}(ok:Bn P w H h)(e:H a=some (.tup<|ks.map kV)):(tupleKind<|Ex P w).is h ks a:=by obtain⟨_,its,r,o,y,q,n,h3⟩:=(show Bw P w H h a (.tup<|ks.map kV)from ok a _ e);exact⟨o,its.toArray,n,y,q,h3,by simpa using WD r⟩
theorem QQ{AI:List (List Key×V)}(ok:Bn P w H h)(e:Rd H a<|.dT AI):AI.length<=sizeLine/\(a==sysModules)=false/\∃xs,KT H AI xs/\h.DictOfH (tupleKind<|Ex P w) a xs:=by
 obtain⟨z,y,xs,r,o,es,u,Z,Y,h3,Q,O⟩:=(show Bw P w H h a (.dT AI)from jX ok e);refine⟨z,y,xs,r,o,es,u,Z,Y,h3,Q,λx v=>?_,O⟩;have all:∀{l:List (List Key×V)}{m:List (List Key×Addr×Value)},KT H l m->∀x∈m,(tupleKind<|Ex P w).is h x.1 x.2.1:=by
  intro l m q
  induction q with
  |nil=>intro x v;exact nomatch v
  |@cons p q ps qs hq t ih=>
   intro x v;rcases AEN.mp v with e|v
   .subst e;exact WM ok (by rw[<-hq.1];exact hq.2.1)
   .exact ih x v
 exact all r x v
theorem qO{AI:List (List Key×V)}(ok:Bn P w H h)(e:H a=some (.dT AI)):AI.length<=sizeLine/\(a==sysModules)=false/\∃xs,KT H AI xs/\h.DictOfH (tupleKind<|Ex P w) a xs:=QQ ok<|.inl e
end
def TN(H:Hp)(a:Addr)(y:V)(r:Option V):Prop:=
 (∃AI k,Rd H a (.dK AI)/\y=kV k/\r=F8 AI k)\/∃AI k b,Rd H a (.dT AI)/\y=.ref b/\H b=some (.tup<|k.map kV)/\r=F8 AI k
def YK(H:Hp)(a:Addr)(y v:V)(H':Hp):Prop:=
 (∃AI k,H a=some (.dK AI)/\y=kV k/\AI.length<sizeLine/\H'=upd H a (.dK<|Fd AI k v))\/
 ∃AI k b,H a=some (.dT AI)/\y=.ref b/\H b=some (.tup<|k.map kV)/\AI.length<sizeLine/\H'=upd H a (.dT<|Fd AI k v)
section
variable{X:Cx}{AB:List (Addr×Obj)}{σ:St}{H:Hp}{s:Shared}{a:Addr}{y v:V}{u r:Value}{o:Option V}{A:Around}{E:Value->Shared->Prop}
theorem Inv.big(I:Inv X AB σ H s):sysModules<s.heap.objs.size:=by have h:mainGlobals<s.heap.objs.size:=(I.mod.glob.keeps I.bk).lt;exact AGB ADl h
theorem pW{Q:Value->Shared->Prop}(F:A.units+1<cLine)(I:Inv X AB σ H s)(g:TN H a y<|some v)(D:RelV y u)(h:∀q s',Inv X AB σ H s'->RelV v q->Q q s') : wpAny (model X.prog X.w) A (getItem (.ref a) u) Q E s:=by
 rcases g with⟨AI,k,e,Z,l⟩|⟨AI,k,b,e,Z,R,l⟩
 .subst Z;obtain⟨z,hd,vs,rel,Y⟩:=Uh I.AX e;obtain⟨q,O,P⟩:=Ff.some_of (v:=v) (o:=valueAt vs k) (by rw[l];exact rel.val k);exact wpAny_getItem_of (WK D) Y.mapOf O<|h q _ (I.tok _) P
 .subst Z;cases (show u=Value.ref b from D);obtain⟨z,hd,xs,rel,Y⟩:=QQ I.AX e;obtain⟨q,O,P⟩:=Ff.some_of (v:=v) (o:=(atKey xs k).map (·.2)) (by rw[l];exact rel.val k);obtain⟨p,hp,B⟩:=AFO.mp O;refine wpAny_getItem_heap (tupleKind_room_in1 F) (WM I.AX R) Y hp ?_;rw[B];exact h q _ (I.tok _) P
theorem ZQ{h':Heap}{t':Nat}{Z:HO}(I:Inv X AB σ H s)(Y:ND<|H a)(hs:Heap.SameBut a s.heap h')(he:∃q,h'.get? a=some q)(new:Bw X.prog X.w (upd H a Z) h' a Z) : Inv X AB σ (upd H a Z) {s with heap:=h',toks:=t'}:=
 I.write (x:=a) (e:=a) Y (.inl rfl) (λb q hb z=>(hs.2 b hb).trans z) he new
theorem qI{P:Program}{w:World}{H':Hp}{h':Heap}{AI:List (Key×V)}{vs:List (Key×Value)}(z:AI.length<=sizeLine)(hd:(a==sysModules)=false)(rel:KV AI vs)(q:h'.DictOf (Ex P w) a vs) : Bw P w H' h' a<|.dK AI:=⟨z,hd,vs,rel,q⟩
theorem pX{H':Hp}{Q:Unit->Shared->Prop}(S:A.units+1<cLine)(I:Inv X AB σ H s)(g:YK H a y v H')(R:RelV y u)(rv:RelV v r)(h:∀s',Inv X AB σ H' s'->Q () s') : wpAny (model X.prog X.w) A (setItem (.ref a) u r) Q E s:=by
 rcases g with⟨AI,k,e,O,l,P⟩|⟨AI,k,b,e,O,B,l,P⟩
 .subst O P;obtain⟨z,hd,vs,rel,D⟩:=qJ I.AX e;have hz:vs.length<=sizeLine:=by rw[<-rel.length];exact z
  have F:(Fd AI k v).length<=sizeLine:=by have:=fv AI k v;omega
  refine wpAny_setItem_pairs (hsz:=hz) (WK R) D λh' Z hs=>h _ ?_;have he:∃q,h'.get? a=some q:=let ⟨q,_,_,Y,_⟩:=Z;⟨q,Y⟩
  exact ZQ I (by rw[e];exact True.intro) hs he<|qI F hd (rel.put k rv) Z
 .subst O P;cases (show u=Value.ref b from R);obtain⟨z,hd,xs,rel,D⟩:=qO I.AX e;have hz:xs.length<=sizeLine:=by rw[<-Paired.length rel];exact z
  have F:(Fd AI k v).length<=sizeLine:=by have:=fv AI k v;omega
  refine wpAny_setItem_heap (hsz:=hz) (tupleKind_room_in1 S) (WM I.AX B) D λh' Z hs=>h _ ?_;obtain⟨q,es,T,Y,C,h3,U,_,n⟩:=Z;refine ZQ I (by rw[e];exact True.intro) hs ⟨q,Y⟩ ⟨F,hd,_,(rel.put k B rv).keeps λc ys G=>?_,q,es,T,Y,C,h3,U,n⟩;rw[Av<|w9 G e λz=>nomatch z];exact G
end
section
variable{X:Cx}{AB:List (Addr×Obj)}{σ:St}{H:Hp}{s:Shared}{a:Addr}{AI:List (Key×V)}{k:Key}{u:Value}{A:Around}{E:Value->Shared->Prop}
end
def NF(i:Expr):Prop:=∀y q,subscripted i false y q=operate [y,q] (getItem y q)
theorem kL{prog:Program}{w:World}{A:Around}{E:Value->Shared->Prop}{s:Shared}{env:Env}{q y:Expr}{pos:Pos}{T id:String}{Q:Value->Shared->Prop} (P:typeLookup (.type T) "__getitem__" = pure (some<|.builtin id)) (hs:NF y) (h:wpAny (model prog w) A (eval q env) (λo Z=>wpAny (model prog w) A (eval y env) (λi v=>v.TypeIs o T/\wpAny (model prog w) A (getItem o i) Q E v) E Z) E s) :
 wpAny (model prog w) A (eval (.Subscript q y pos) env) Q E s:=by
 refine Subscript_<|wpAny_mono h (λo Z D=>wpAny_mono D (λi v u=>?_) λ_ _ x=>x) λ_ _ x=>x;obtain⟨Y,u⟩:=u;unfold subscriptTail;refine wpAny_bind ?_;rw[getitemInPython_of_ne Y.not_modules];refine wpAny_bind<|wpAny_specialOf Y P ?_;have fin:wpAny (model prog w) A (subscripted y false o i) (λr O=>wpAny (model prog w) A (letTemporaryGo q o r >>= λ_=>pure r) Q E O) E v:=by rw[hs o i];exact wpAny_operating<|wpAny_mono u (λr O F=>wpAny_bind<|wpAny_letTemporaryGo<|wpAny_pure F) λ_ _ x=>x
 first
  |exact wpAny_pure<|wpAny_bind fin
  |exact wpAny_bind<|wpAny_pure<|wpAny_bind fin
  |exact wpAny_bind fin
theorem qH{X:Cx}{AB:List (Addr×Obj)}{σ:St}{H:Hp}{s:Shared}{a:Addr}{y:V}{o:Option V}(I:Inv X AB σ H s)(g:TN H a y o):s.TypeIs (.ref a) "dict":=by
 rcases g with⟨AI,k,e,_,_⟩|⟨AI,k,b,e,_,_,_⟩
 .obtain⟨_,_,vs,_,q⟩:=Uh I.AX e;exact q.typeIs
 .obtain⟨_,_,xs,_,q⟩:=QQ I.AX e;exact q.typeIs
def ABm(u ty:TE):TE:=λσ H Q=>u σ H λx Z=>ty σ Z λy q=>∃a v,x=.ref a/\TN q a y (some v)/\Q v q
def ABD(u ty Z:TE):TS:=λD σ H=>Z σ H λv Y=>u σ Y λx Q=>ty σ Q λy O=>∃a q,x=.ref a/\YK O a y v q/\D.nx σ q
section
variable{X:Cx}{o i e value:Expr}{pos pos' LO:Pos}{td ty tv:TE}
theorem yR(Z:X.A.units+1<cLine)(ho:PE X o td)(hi:PE X i ty)(hs:NF i):PE X (.Subscript o i pos)<|ABm td ty:=by intro AB s σ H Q I h;refine kL AHl.lookup hs<|Af (ho AB s σ H _ I h) ?_;rintro u s1 ⟨x,Y,O,P,D⟩;refine Af (hi AB s1 σ Y _ O D) ?_;rintro iv s2 ⟨y,F,q,R,a,v,ex,g,B⟩;subst ex;obtain rfl:u=Value.ref a:=P;exact⟨qH q g,pW Z q g R λw' s3 G S=>⟨v,F,G,S,B⟩⟩
theorem zC(q:X.A.units+1<cLine)(ho:PE X o td)(hi:PE X i ty)(Z:PE X value tv)(hs:swapsWith value (some<|.Subscript o i pos') pos.line X.env=pure false) : PS X (.Assign [.Subscript o i pos'] value pos)<|ABD td ty tv:=by intro AB s σ H D I h;refine wpAny_Assign_Subscript (Af (Z AB s σ H _ I h) ?_) hs;rintro r s1 ⟨v,Y,Q,rv,O⟩;refine Af (ho AB s1 σ Y _ Q O) ?_;rintro u s2 ⟨x,P,F,R,B⟩;refine Af (hi AB s2 σ P _ F B) ?_;rintro iv s3 ⟨y,H3,G,S,a,T,ex,g,C⟩;subst ex;obtain rfl:u=Value.ref a:=R;exact pX q G g S rv λs4 E=>⟨σ,T,E,C⟩
end
theorem qN{P:Program}{w:World}{H:Hp}(h:Heap)(hb:sysModules<h.objs.size):Bw P w H (h.push {cls:=.type "dict",data:=.dict #[]}) h.objs.size<|.dT []:=
 ⟨AEu _,AEG.mpr<|AFH<|AEA hb,[],.nil,_,#[],0,Heap.get?_push_size _ rfl,⟨rfl,rfl,rfl⟩,rfl,rfl,AH8⟩
def ABo:TE:=λ_ H Q=>∀p,H p=none->Q (.ref p) (upd H p<|.dT [])
section
variable{X:Cx}{pos:Pos}
theorem yT:PE X (.Dict [] [] pos) ABo:=λAB s σ H Q I h=>
 wpAny_Dict_empty ⟨.ref s.heap.objs.size,_,I.laid (a:=s.heap.objs.size) (o:=.dT []) (t':=s.toks) (λ_ _ q=>Heap.get?_push_of_some _ q) (ADt _)<|qN s.heap I.big,rfl,h _<|I.AX.fresh<|ADt _⟩
end
end L2
set_option linter.all false
namespace L2
set_option tactic.hygienic true
open PySem
noncomputable def Dm(cells:List<|Str×Addr):List (Str×NameKind)->List (Str×Addr)->List (Str×Addr)
 |[],acc=>acc
 |(n,k)::r,acc=>if(k==NameKind.free)=true then(match cells.lookup n with|some c=>Dm cells r ((n,c)::acc)|none=>Dm cells r acc)else Dm cells r acc
theorem ZA{scope:Scope}{env:Env}(h:∀y∈scope.names,y.2=.free->∃c,env.cells.lookup y.1=some c):closureFor scope env=pure (Dm env.cells scope.names []):=by
 simp only[closureFor];generalize ([]:List<|Str×Addr)=acc;revert h acc;generalize scope.names=l
 induction l with
 |nil=>intro h acc;simp[Dm]
 |cons x r ih=>
  intro h acc;obtain⟨n,k⟩:=x;rw[List.forIn_cons];by_cases q:(k==NameKind.free)=true
  .have u:k=.free:=by simpa using q
   obtain⟨c,hc⟩:=h (n,k) (AD6) u;have Z:cellOf env n=pure c:=by unfold cellOf;rw[show env.cells.lookup n=some c from hc]
   simp only[Dm,q,AF3,Z,pure_bind];rw[show List.lookup n env.cells=some c from hc];exact ih (λy v=>h y<|AD4 _ v) _
  .simp only[Dm,q,if_false,pure_bind,Bool.false_eq_true];exact ih (λy v=>h y<|AD4 _ v) _
theorem IA{cells:List (Str×Addr)}:∀{l:List (Str×NameKind)}{acc:List (Str×Addr)}{x:Str}{c:Addr},(∀y d,acc.lookup y=some d->cells.lookup y=some d)->(Dm cells l acc).lookup x=some c->cells.lookup x=some c
 |[],acc,x,c,ha,h=>ha x c h
 |(n,k)::r,acc,x,c,ha,h=>by
  unfold Dm at h;split at h
  .split at h
   .rename_i d hd;refine IA (l:=r) (acc:=(n,d)::acc) (λy e q=>?_) h;rw[AFY]at q;split at q
    .rename_i v;have:y=n:=by simpa using v
     subst this;rw[hd];exact q
    .exact ha y e q
   .exact IA (l:=r) ha h
  .exact IA (l:=r) ha h
theorem o9{prog:Program}{w:World}{A:Around}{R:Result->Shared->Prop}{s:Shared}{q Z y:Expr}{u:List Expr}{scope:Scope}{pos:Pos}{it acc:Value}{env:Env}(I:Nat->Shared->Prop) (turn:∀n s,I n s->wpAny (model prog w) A (pyNext it) (λr Y=>match r with
  |none=>R (.ok .next) Y
  |some v=>wpAny (model prog w) A (letOwnedTupleGo Z it v) (λ_ O=>wpAny (model prog w) A (assign Z env v) (λ_ P=>
   wpAny (model prog w) A (forIn u true λc r=>if r=true then do let ok<-isTrue c env<|eval c env;pure (ForInStep.yield ok)else pure (ForInStep.yield r)) (λok Q=>
    if ok=true then wpAny (model prog w) A (eval q env) (λx D=>
     wpAny (model prog w) A (call (.builtin "list.append") [acc,x]) (λ_ F=>∃m,m<n/\I m F) (λ_ _=>False) D) (λ_ _=>False) Q
    else ∃m,m<n/\I m Q) (λ_ _=>False) P) (λ_ _=>False) O) (λ_ _=>False) Y) (λ_ _=>False) s)
 (n:Nat) (h:I n s) :
 codeAny (model prog w) A (.compLoop (.ListComp q [⟨Z,y,u,0⟩] scope pos) 0 it acc env) R s:=by
 refine codeAny_loop rfl I (λn s S=>?_) n h;show wpAny _ A ((compTurn (.ListComp q [⟨Z,y,u,0⟩] scope pos) 0 it acc env).onRaise (λx=>do noteFrame x env;theTreesLotGoes x)) _ _ s;refine wpAny_noted ?_;rw[compTurn_list];refine wpAny_bind<|wpAny_standAt<|wpAny_bind<|wpAny_mono (turn n s S) (λr Y B=>?_) λ_ _ h'=>False.elim h';cases r with
 |none=>exact wpAny_pure B
 |some v=>
  refine wpAny_bind<|wpAny_mono B (λ_ O T=>?_) λ_ _ h'=>False.elim h';refine wpAny_bind<|wpAny_mono T (λ_ P C=>wpAny_bind<|wpAny_mono C (λok Q G=>?_) λ_ _ h'=>False.elim h') λ_ _ h'=>False.elim h';cases ok with
  |false=>exact wpAny_pure ⟨rfl,G⟩
  |true=>
   exact wpAny_bind<|wpAny_bind<|wpAny_mono G (λx D E=>wpAny_bind<|wpAny_mono E (λ_ F H=>wpAny_pure<|wpAny_pure ⟨rfl,H⟩) λ_ _ h'=>False.elim h') λ_ _ h'=>False.elim h'
end L2
set_option linter.all false
namespace ST
open PySem PySem.SetTable
theorem QB(l:List Nat)(j:Nat):l.countP (· < j)<=l.length:=List.countP_le_length
theorem O4:∀(l:List Nat)(j:Nat),l.Pairwise (· < ·)->∀i (h:i<l.length),(l[i]<j↔i<l.countP (· < j))
 |[],_,_,i,h=>by simp at h
 |x::r,j,hs,i,h=>by
  obtain⟨Z,Y⟩:=AFn.mp hs;by_cases q:x<j
  .rw[List.countP_cons_of_pos<|by simpa using q];cases i with
   |zero=>simp[q]
   |succ i=>
    have:=O4 r j Y i (by simpa using h);simp only[AGd];lia
  .have u:∀y∈r,¬ y<j:=λy v=>by have:=Z y v;lia
   have Q:r.countP (· < j)=0:=AF9.mpr λy v=>by simpa using u y v
   rw[List.countP_cons_of_neg (by simpa using q),Q];cases i with
   |zero=>simp[q]
   |succ i=>
    simp only[AGd];have:=u _ (AFP<|by simpa using h);lia
theorem UI(xs:Array Nat)(j:Nat)(hs:xs.toList.Pairwise (· < ·)):∀(f lo hi:Nat),hi-lo<=f->hi<=xs.size->lo<=xs.toList.countP (· < j)->xs.toList.countP (· < j)<=hi->below.go xs j f lo hi=xs.toList.countP (· < j)
 |0,lo,hi,h1,h2,h3,h4=>by unfold below.go;grind
 |f+1,lo,hi,h1,h2,h3,h4=>by
  unfold below.go;by_cases y:lo<hi
  .rw[ADr y];have hm:(lo+hi) / 2<xs.size:=J
   have q:xs.getD ((lo+hi) / 2) j=xs.toList[(lo+hi) / 2]'(by simpa using hm):=by simp[Array.getD,hm]
   have:=O4 xs.toList j hs ((lo+hi) / 2) (by simpa using hm);dsimp only;rw[q];by_cases hc:xs.toList[(lo+hi) / 2]'(by simpa using hm)<j
   .rw[ADr hc];exact UI xs j hs f _ hi ADi h2 J h4
   .rw[ADs hc];exact UI xs j hs f lo _ (by clear h3;grind) J h3 (by have:=λz=>hc<|this.mpr z;lia)
  .rw[ADs y];lia
theorem UH(xs:Array Nat)(j:Nat)(hs:xs.toList.Pairwise (· < ·)):below xs j=xs.toList.countP (· < j):=by exact UI xs j hs xs.size 0 xs.size J (ADt _) (AEu _) (by have:=QB xs.toList j;simpa using this)
theorem NL(xs:Array Nat)(j:Nat)(hs:xs.toList.Pairwise (· < ·))(i:Nat)(h:xs[i]? = some j):below xs j=i:=by
 obtain⟨hi,e⟩:=AE4.mp h;rw[UH xs j hs];have v:=O4 xs.toList j hs i (by simpa using hi);have y:xs.toList[i]'(by simpa using hi)=j:=by simpa using e
 rw[y]at v;by_cases h3:xs.toList.countP (· < j)=i
 .exact h3
 .have q:xs.toList.countP (· < j)<xs.toList.length:=by rw[AEo];clear h3;lia
  have h4:=O4 xs.toList j hs _ q;have u:=AER.mp hs _ _ q (by simpa using hi) J;rw[y]at u
  grind
theorem j8{t:SetTable}(hs:t.place.toList.Pairwise (· < ·)){i j:Nat}(h:t.place[i]? = some j):t.slot j=.live i:=by unfold slot;dsimp only;rw[NL _ _ hs i h,h];simp
theorem ABS{t:SetTable}(hd:t.dummies=#[]){j:Nat}(h:j∉t.place.toList):t.slot j=.empty:=by
 unfold slot;have y:¬ (t.place[below t.place j]? == some j)=true:=by intro z;rw[AFf]at z;have:=Array.mem_of_getElem? z;exact h<|by simpa using this
 rw[ADs y];have q:has t.dummies j=false:=by rw[hd];simp[has]
 rw[q];simp
theorem u9(xs:Array Nat)(j:Nat)(hs:xs.toList.Pairwise (· < ·))(Q:j∉xs.toList):(insertAt xs (below xs j) j).toList.Pairwise (· < ·):=by
 rw[SetTable.toList_insertAt,UH xs j hs];have q:=O4 xs.toList j hs;rw[AEE];refine⟨hs.sublist<|AGH _ _,?_,?_⟩
 .rw[AFn];refine⟨λy u=>?_,hs.sublist<|AHf _ _⟩;obtain⟨k,v,e⟩:=AE3 u;rw[AGg]at e;rw[AFm]at v;have:=q (xs.toList.countP (· < j)+k) ADi;have A3:y≠j:=λz=>Q<|z ▸ AFr u;rw[e]at this;lia
 .intro a ha b hb;obtain⟨k,v,e⟩:=AE3 ha;rw[AGI]at e;rw[AEq]at v;have Z:=q k ADi;rw[e]at Z;have O:=Z.mpr ADi;rcases AEN.mp hb with rfl|hb
  .exact O
  .obtain⟨P,D,Y⟩:=AE3 hb;rw[AGg]at Y;rw[AFm]at D;have:=q (xs.toList.countP (· < j)+P) J;rw[Y]at this;lia
noncomputable def CC(mask i:Nat):Nat:=runEnd mask i-i
theorem ABB(mask i:Nat):CC mask i<=9:=by unfold CC runEnd;split<;>lia
def Hz(mask:Nat)(p:Probe):Probe:=
 if p.more>0 then {p with j:=p.j+1,more:=p.more-1}else
 {p with j:=(leap mask p.i p.perturb).1,more:=CC mask (leap mask p.i p.perturb).1,i:=(leap mask p.i p.perturb).1,perturb:=(leap mask p.i p.perturb).2}
def Md(mask:Nat)(h:Int):Probe:={j:=bits h%(mask+1),more:=CC mask<|bits h%(mask+1),i:=bits h%(mask+1),perturb:=bits h,dummy:=none}
def road(mask:Nat)(h:Int):Nat->Probe
 |0=>Md mask h
 |n+1=>Hz mask<|road mask h n
theorem jg(mask:Nat)(h:Int):∀n,(road mask h n).dummy=none
 |0=>rfl
 |n+1=>by have:=jg mask h n;unfold road Hz;split<;>simpa using this
noncomputable def BJ(mask:Nat):Nat->Nat×Nat->Nat×Nat
 |0,x=>x
 |n+1,x=>leap mask (BJ mask n x).1 (BJ mask n x).2
noncomputable def L0(mask:Nat)(h:Int):Nat×Nat:=(bits h%(mask+1),bits h)
theorem SS(mask:Nat)(h:Int)(r i pt:Nat)(y:road mask h r=⟨i,CC mask i,i,pt,none⟩):∀k,k<=CC mask i->road mask h (r+k)=⟨i+k,CC mask i-k,i,pt,none⟩
 |0,_=>by simpa using y
 |k+1,hk=>by have q:=SS mask h r i pt y k<|MJ hk;show Hz mask (road mask h<|r+k)=_;rw[q];unfold Hz;rw[ADr (by show CC mask i-k>0;lia)];simp only[and_true];lia
theorem jh(mask:Nat)(h:Int):∀n,∃r,r<=10*n/\road mask h r=⟨(BJ mask n<|L0 mask h).1,CC mask (BJ mask n<|L0 mask h).1,(BJ mask n<|L0 mask h).1,(BJ mask n<|L0 mask h).2,none⟩
 |0=>⟨0,ADt _,rfl⟩
 |n+1=>by
  obtain⟨r,hr,e⟩:=jh mask h n;have y:=SS mask h r _ _ e _<|ADt _;have hl:=ABB mask (BJ mask n<|L0 mask h).1;refine⟨r+CC mask (BJ mask n<|L0 mask h).1+1,J,?_⟩;show Hz mask (road mask h<|r+CC mask (BJ mask n<|L0 mask h).1)=_;rw[y];unfold Hz;rw[ADs (by show ¬ (CC mask _-CC mask _>0);lia)]
  rfl
theorem nk(h:Int):bits h<2 ^ 64:=by unfold bits;lia
theorem ft(mask:Nat)(x:Nat×Nat):∀n,(BJ mask n x).2=x.2 / 32 ^ n
 |0=>by simp[BJ]
 |n+1=>by unfold BJ leap;dsimp only;rw[ft mask x n,Nat.div_div_eq_div_mul,Nat.pow_succ]
theorem yf(mask:Nat)(h:Int)(n:Nat)(hn:13<=n):(BJ mask n<|L0 mask h).2=0:=by rw[ft];have y:=nk h;have q:2 ^ 64<=32 ^ n:=AEF ADl<|Nat.pow_le_pow_right ADl hn;exact Nat.div_eq_of_lt<|AEB y q
noncomputable def AA(mask:Nat):Nat->Nat->Nat
 |0,i=>i
 |n+1,i=>(AA mask n i*5+1)%(mask+1)
theorem fq(mask:Nat)(h:Int):∀n,(BJ mask (13+n)<|L0 mask h).1=AA mask n (BJ mask 13<|L0 mask h).1
 |0=>rfl
 |n+1=>by show(leap mask (BJ mask (13+n)<|L0 mask h).1 (BJ mask (13+n)<|L0 mask h).2).1=_;rw[yf mask h (13+n) J,fq mask h n];show(AA mask n _*5+1+0 / 32)%(mask+1)=(AA mask n _*5+1)%(mask+1);simp
theorem vv(mask:Nat)(h:Int):∀n,(BJ mask n<|L0 mask h).1<mask+1
 |0=>AIN _<|AHp _
 |n+1=>AIN _<|AHp _
theorem pR:∀i<8,∀j<8,∃n<8,AA 7 n i=j:=ADl
theorem pQ:∀i<32,∀j<32,∃n<32,AA 31 n i=j:=ADm
def Good(mask:Nat):Prop:=mask=7\/mask=31
theorem fu{mask:Nat}(hm:Good mask)(h:Int){j:Nat}(hj:j<=mask):∃n,n<turns mask-1/\(BJ mask n<|L0 mask h).1=j:=by
 have y:=vv mask h 13;have:∃n<mask+1,AA mask n (BJ mask 13<|L0 mask h).1=j:=by
  rcases hm with rfl|rfl
  .exact pR _ y j J
  .exact pQ _ y j J
 obtain⟨n,hn,e⟩:=this;exact⟨13+n,by unfold turns;lia,by rw[fq];exact e⟩
theorem AA8{mask:Nat}(hm:Good mask)(h:Int){j:Nat}(y:j<=mask):∃n,n<10*turns mask/\(road mask h n).j=j:=by obtain⟨n,hn,e⟩:=fu hm h y;obtain⟨r,hr,q⟩:=jh mask h n;exact⟨r,by unfold turns at *;lia,by rw[q];exact e⟩
theorem iK:∀(l1 q:List Nat),l1.Nodup->(∀x∈l1,x∈q)->l1.length<=q.length
 |[],_,_,_=>AEu _
 |x::r,q,hn,hs=>by obtain⟨Z,Y⟩:=AFd.mp hn;have v:=hs x AD6;have:=iK r (q.erase x) Y λy u=>(List.mem_erase_of_ne (show y≠x from λz=>Z<|z ▸ u)).mpr<|hs y<|AD4 _ u;rw[List.length_erase_of_mem v]at this;have hp:=AH6 v;rw[AD5];lia
theorem cy(mask:Nat)(L:List Nat)(hn:L.Nodup)(hl:L.length<=mask)(hle:∀j∈L,j<=mask):∃j,j<=mask/\j∉L:=by refine AFg λh=>?_;have y:∀j,j∈List.range (mask+1)->j∈L:=λj q=>AFg λz=>h ⟨j,by have:=AD2.mp q;lia,z⟩;have:=iK _ _ (AHq) y;rw[AF4]at this;lia
theorem qv{mask:Nat}(hm:Good mask)(h:Int)(L:List Nat)(hn:L.Nodup)(u:L.length<=mask)(q:∀j∈L,j<=mask):∃n,n<10*turns mask/\(road mask h n).j∉L/\∀m<n,(road mask h m).j∈L:=by
 obtain⟨j,Z,Y⟩:=cy mask L hn u q;obtain⟨n,hn,e⟩:=AA8 hm h Z;have v:∀k,(∃n,n<k/\(road mask h n).j∉L)->∃n,n<k/\(road mask h n).j∉L/\∀m<n,(road mask h m).j∈L:=by
  intro k
  induction k with
  |zero=>rintro⟨n,hn,_⟩;lia
  |succ k ih=>
   rintro⟨n,hn,e⟩;by_cases y:∃n,n<k/\(road mask h n).j∉L
   .obtain⟨Q,O,P,h3⟩:=ih y;exact⟨Q,HX O,P,h3⟩
   .have D:n=k:=by
     by_cases z:n<k
     .exact absurd ⟨n,z,e⟩ y
     .lia
    subst D;exact⟨n,hn,e,λm hm=>AFg λz=>y ⟨m,hm,z⟩⟩
 exact v _ ⟨n,hn,by rw[e];exact Y⟩
end ST
set_option linter.all false
namespace ST
open PySem PySem.SetTable
theorem jJ{t:SetTable}(hs:t.place.toList.Pairwise (· < ·))(hd:t.dummies=#[])(y:Nat->Int)(h:Int)(N:Nat)(P:(road t.mask h N).j∉t.place.toList):∀(f n:Nat),n<=N->N-n<f->(∀m,n<=m->m<N->(road t.mask h m).j∈t.place.toList)->(∃m i,n<=m/\m<N/\t.place[i]? = some (road t.mask h m).j/\y i=h/\(∀k,n<=k->k<m->∀i',t.place[i']? = some (road t.mask h k).j->y i'≠h)/\probe.go t y h f (road t.mask h n)=some (.candidate (road t.mask h m).j i<|road t.mask h<|m+1))\/((∀k,n<=k->k<N->∀i',t.place[i']? = some (road t.mask h k).j->y i'≠h)/\probe.go t y h f (road t.mask h n)=some (.empty (road t.mask h N).j none))
 |0,n,_,hf,_=>J
 |f+1,n,hn,hf,Bp=>by
  by_cases he:n=N
  .subst he;right;refine⟨λk q v=>J,?_⟩;unfold probe.go;rw[ABS hd P];rw[jg]
  .have R:=Bp n (ADt _) J;obtain⟨i,hi⟩:=AFM R;have u:=by simpa using hi
   have D:=j8 hs u;have inj:∀i',t.place[i']? = some (road t.mask h n).j->i'=i:=λi' e=>by rw[<-NL _ _ hs i' e,NL _ _ hs i u]
   by_cases hh:y i=h
   .left;refine⟨n,i,ADt _,J,u,hh,λk q v=>J,?_⟩;unfold probe.go;rw[D];dsimp only;rw[ADr<|by simpa using hh]
    rfl
   .have step:probe.go t y h (f+1) (road t.mask h n)=probe.go t y h f (road t.mask h<|n+1):=by
     conv=>lhs;unfold probe.go
     rw[D];dsimp only;rw[ADs<|by simpa using hh]
     rfl
    rw[step];have F:∀i',t.place[i']? = some (road t.mask h n).j->y i'≠h:=λi' e=>by rw[inj i' e];exact hh
    rcases jJ hs hd y h N P f (n+1) J J (λm q v=>Bp m (MJ q) v)with⟨m,B,q,v,h3,G,Z,Y⟩|⟨Z,Y⟩
    .left;refine⟨m,B,MJ q,v,h3,G,λk S Q=>?_,Y⟩;by_cases O:k=n
     .subst O;exact F
     .exact Z k J Q
    .right;refine⟨λk S Q=>?_,Y⟩;by_cases O:k=n
     .subst O;exact F
     .exact Z k J Q
section
variable{prog:Program}{w:World}{A:Around}{E:Value->Shared->Prop}{s:Shared}
abbrev Cy(prog:Program)(w:World):=intKind prog w
noncomputable abbrev A8(prog:Program)(w:World)(k:List Int):Int:=tupleKeyHash (Cy prog w) k
structure FE(prog:Program)(w:World)(h:Heap)(es:Array (Int×Value))(t:SetTable)(kk:List (List Int)):Prop where
 KJ:t.dummies=#[]
 MP:Good t.mask
 E3:t.place.toList.Pairwise (· < ·)
 le:∀j∈t.place.toList,j<=t.mask
 sz:t.place.size=es.size
 Lq:es.size*5<t.mask*3
 len:kk.length=es.size
 ent:∀(i:Nat)(hh:Int)(v:Value),es[i]? = some (hh,v)->∃k b,kk[i]? = some k/\v=.ref b/\IsTupleKey (Cy prog w) h k b/\hh=A8 prog w k
 nd:kk.Nodup
 reach:∀(i j:Nat)(k:List Int),t.place[i]? = some j->kk[i]? = some k->∃n,(road t.mask (A8 prog w k) n).j=j/\∀m<n,(road t.mask (A8 prog w k) m).j∈t.place.toList
theorem FE.fits{h:Heap}{es:Array (Int×Value)}{t:SetTable}{kk:List (List Int)}(T:FE prog w h es t kk):t.fits es.size=true:=by unfold SetTable.fits SetTable.fill;rw[T.KJ,T.sz];have:=T.Lq;simp;lia
theorem FE.rQ{h:Heap}{es:Array (Int×Value)}{t:SetTable}{kk:List (List Int)}(T:FE prog w h es t kk):t.gaveWay=false:=by unfold SetTable.gaveWay;rcases T.MP with e|e<;>rw[e]<;>rfl
theorem xI(n:Nat){v:Value}(h:carriedByValue v=true):ofAClassStatement n v=pure false:=by
 cases v with
 |ref a=>simp[carriedByValue]at h
 |_=>first|rfl|(cases n<;>rfl)
theorem lR{ks:List Int}{b:Addr}{Q:Bool->Shared->Prop}(y:IsTupleKey (Cy prog w) s.heap ks b)(h:Q false s):wpAny (model prog w) A (ofAClassStatement 8<|.ref b) Q E s:=by
 have Y:=y.typeIs;obtain⟨o,items,n,ho,hc,hd,hi⟩:=y;unfold ofAClassStatement;refine wpAny_bind<|wpAny_typeOf Y ?_;refine wpAny_bind<|wpAny_pure ?_;refine wpAny_bind<|wpAny_seqItems ho hd ?_;refine wpAny_bind ?_;rw[<-Array.forIn_toList];refine wpAny_forIn_list _ (λrest r s'=>r.1=none/\s'=s/\∀v∈rest,carriedByValue v=true) _ ?_ ?_ _ _ ⟨rfl,rfl,hi.byValue⟩
 .rintro v rest r s' ⟨q,rfl,Z⟩;rw[xI _<|Z v AD6];exact wpAny_pure ⟨rfl,rfl,λu O=>Z u<|AD4 _ O⟩
 .rintro⟨r1,r2⟩ s' ⟨q,rfl,_⟩;subst q;exact wpAny_pure h
theorem ACh{k:List Int}{b:Addr}{l:List Value}{Q:Bool->Shared->Prop}(Z:IsTupleKey (Cy prog w) s.heap k b)(F:∀v∈l,∃q y,v=.ref y/\IsTupleKey (Cy prog w) s.heap q y)(h:Q false s):wpAny (model prog w) A (searchCouldBeSeen (.ref b) l) Q E s:=by
 refine wpAny_bind ?_;refine wpAny_forIn_list _ (λrest r s'=>r.1=none/\s'=s/\∀v∈rest,∃q y,v=.ref y/\IsTupleKey (Cy prog w) s.heap q y) _ ?_ ?_ _ _ ⟨rfl,rfl,F⟩
 .rintro v rest r s' ⟨Y,rfl,O⟩;obtain⟨q,y,rfl,P⟩:=O v AD6;have D:=λu R=>O u<|AD4 _ R;refine wpAny_ite_split (λ_=>wpAny_pure ⟨rfl,rfl,D⟩) λ_=>?_;refine wpAny_bind<|wpAny_eqIsQuiet_tuple Z ?_;refine wpAny_bind<|wpAny_eqIsQuiet_tuple P ?_;refine wpAny_bind<|lR Z ?_;refine wpAny_bind<|lR P ?_;exact wpAny_pure ⟨rfl,rfl,D⟩
 .rintro⟨r1,r2⟩ s' ⟨Y,rfl,_⟩;subst Y;exact wpAny_pure h
theorem lT{a:Addr}{o:Obj}{es:Array (Int×Value)}{ep:Nat}{t:SetTable}{kk:List (List Int)}{k:List Int}{b:Addr}{N:Nat}{Q:SetFound->Shared->Prop} (ho:s.heap.get? a=some o) (hd:o.data=.set es ep t) (T:FE prog w s.heap es t kk) (P:A.units<cLine) (B:IsTupleKey (Cy prog w) s.heap k b) (Nv:N<10*turns t.mask) (D:(road t.mask (A8 prog w k) N).j∉t.place.toList) (Bp:∀m<N,(road t.mask (A8 prog w k) m).j∈t.place.toList) (h1:k∈kk->Q (.there none) s) (h2:k∉kk->Q (.free (road t.mask (A8 prog w k) N).j false) s) : ∀(f n:Nat)(G:Option Probe),G.getD (t.probeStart<|A8 prog w k)=road t.mask (A8 prog w k) n->n<=N->N-n<f->(∀(i j:Nat),kk[i]? = some k->t.place[i]? = some j->∀m<n,(road t.mask (A8 prog w k) m).j≠j)->
  wpAny (model prog w) A (setSearchFrom a (.ref b) (A8 prog w k) true f G) Q E s
 |0,n,_,_,_,hf,_=>J
 |f+1,n,G,Et,hn,hf,eB=>by
  refine wpAny_bind<|wpAny_setState_of ho hd T.fits ?_;dsimp only;rw[T.rQ];simp only[Bool.false_eq_true,if_false];rw[Et];have Vx:=jJ T.E3 T.KJ (λi=>(es[i]?.map (·.1)).getD 0) (A8 prog w k) N D (10*turns t.mask) n hn ADi λm _ hm=>Bp m hm;rcases Vx with⟨m,i,m1,m2,m3,m4,S,C⟩|⟨S,C⟩
  .generalize H:SetTable.probe t _ _ _=pr;have I:=H.symm.trans C;subst I;dsimp only;have hi:i<es.size:=by rw[<-T.sz];exact(AE4.mp m3).1
   obtain⟨⟨hh,v⟩,U⟩:∃x,es[i]? = some x:=⟨es[i],AEh hi⟩;obtain⟨e,b',ek,rfl,A4,rfl⟩:=T.ent i hh v U;have tK:∀u∈(es.filter λx=>x.1==A8 prog w k).toList.map (λx=>x.2),∃e b',u=Value.ref b'/\IsTupleKey (Cy prog w) s.heap e b':=λu P=>by
    obtain⟨⟨h',u'⟩,hm,rfl⟩:=AEC.mp P;have DH:=by have:=AEY.mp (by simpa using hm:(h',u')∈es.toList.filter (λx=>x.1==A8 prog w k));simpa using this.1
    obtain⟨i',qU⟩:=Array.getElem?_of_mem DH;obtain⟨k2,b2,_,q,Je,_⟩:=T.ent i' h' u' qU;exact⟨k2,b2,q,Je⟩
   refine wpAny_ite_split (λ_=>wpAny_bind<|ACh B tK ?_) λ_=>?_
   all_goals
    rw[U];refine wpAny_bind<|wpAny_holding<|wpAny_eqBool_tuple P A4 B ?_;refine wpAny_bind<|wpAny_setState_of ho hd T.fits ?_;dsimp only;by_cases Er:e=k
    .subst Er;simp only[decide_true];exact wpAny_pure<|h1<|AEX ek
    .rw[AFK Er];have uW:t.sameMemory t.moves t.mask=some true:=by unfold SetTable.sameMemory;simp
     rw[uW];dsimp only;rw[ADr rfl,j8 T.E3 m3];dsimp only;rw[U];refine wpAny_bind<|wpAny_isSame_ref_self ?_;refine lT ho hd T P B Nv D Bp h1 h2 f (m+1) _ rfl J J λy j2 q p2 F DH=>?_;by_cases uG:F<n
     .exact eB y j2 q p2 F uG
     .by_cases Qw:F=m
      .subst Qw;intro z;have:y=i:=by rw[<-NL _ _ T.E3 y p2,<-z,NL _ _ T.E3 i m3]
       subst this;rw[ek]at q;exact Er<|AEU q
      .intro z;have A3:=S F J J y (by rw[z];exact p2);have FP:y<es.size:=by rw[<-T.sz];exact(AE4.mp p2).1
       obtain⟨⟨Vc,v2⟩,Y⟩:∃x,es[y]? = some x:=⟨es[y],AEh FP⟩;obtain⟨k3,b3,O,_,_,e3⟩:=T.ent y Vc v2 Y;rw[q]at O;cases O;apply A3;rw[Y];exact e3
  .generalize H:SetTable.probe t _ _ _=pr;have I:=H.symm.trans C;subst I;refine wpAny_pure<|h2 λHN=>?_;obtain⟨i,R⟩:=AFM HN;have hi:i<t.place.size:=by rw[T.sz,<-T.len];exact(ADw.mp R).1
   have hp:=AEh hi;obtain⟨Z,e1,hb⟩:=T.reach i _ k hp R;have dz:Z<N:=by
    by_cases z:Z<N
    .exact z
    .exfalso;by_cases z2:Z=N
     .subst z2;apply D;rw[e1];exact AEX (by rw[AEK];exact hp)
     .exact D<|hb N J
   by_cases N8:Z<n
   .exact eB i _ R hp Z N8 e1
   .have A3:=S Z (MI N8) dz i (by rw[e1];exact hp);have FP:i<es.size:=by rw[<-T.sz];exact hi
    obtain⟨⟨Vc,v2⟩,Y⟩:∃x,es[i]? = some x:=⟨es[i],AEh FP⟩;obtain⟨k3,b3,O,_,_,e3⟩:=T.ent i Vc v2 Y;rw[R]at O;cases O;apply A3;rw[Y];exact e3
end
end ST
set_option linter.all false
namespace ST
open PySem PySem.SetTable
def rI(mask:Nat)(h:Int):Nat->Nat
 |0=>0
 |n+1=>rI mask h n+CC mask (BJ mask n<|L0 mask h).1+1
theorem SQ(mask:Nat)(h:Int):∀n,road mask h (rI mask h n)=⟨(BJ mask n<|L0 mask h).1,CC mask (BJ mask n<|L0 mask h).1,(BJ mask n<|L0 mask h).1,(BJ mask n<|L0 mask h).2,none⟩
 |0=>rfl
 |n+1=>by
  have y:=SS mask h (rI mask h n) _ _ (SQ mask h n) _<|ADt _;show Hz mask (road mask h<|rI mask h n+CC mask (BJ mask n<|L0 mask h).1)=_;rw[y];unfold Hz;rw[ADs (by show ¬ (CC mask _-CC mask _>0);lia)]
  rfl
def GC(Ah:Array<|Option Nat)(j:Nat):Prop:=(Ah.getD j<|some 0).isSome=true
theorem jr(mask i:Nat):runEnd mask i+1-i=CC mask i+1:=by unfold CC runEnd;split<;>lia
theorem cT(p:Nat->Bool):∀(n:Nat),match (List.range n).find? p with|some k=>k<n/\p k=true/\∀m<k,p m=false|none=>∀m<n,p m=false:=by
 intro n;cases h:(List.range n).find? p with
 |none=>
  intro m hm;have:=List.find?_eq_none.mp h m (AD2.mpr hm);simpa using this
 |some k=>
  obtain⟨Z,q,bs,e,Y⟩:=List.find?_eq_some_iff_append.mp h;have v:k∈List.range n:=by rw[e];simp
  refine⟨AD2.mp v,Z,λm hm=>?_⟩;have BO:q.length=k:=by
   have y:(List.range n)[q.length]? = some k:=by rw[e];simp
   obtain⟨hl,u⟩:=ADw.mp y;rw[AGY]at u;exact u
  have Q:=by
   have y:(List.range n)[m]? = some m:=by rw[AIR (by have:=AD2.mp v;exact RL hm this)]
   rw[e,AEM J]at y;exact AEX y
  simpa using Y m Q
theorem rC{mask:Nat}(Ah:Array<|Option Nat)(h:Int)(ns:Nat)(Z:¬ GC Ah (BJ mask ns<|L0 mask h).1):∀(d n f:Nat),n+d=ns->d<f->(∀m<rI mask h n,GC Ah (road mask h m).j)->∃N,(∀m<N,GC Ah (road mask h m).j)/\¬ GC Ah (road mask h N).j/\layClean.free mask Ah f (BJ mask n<|L0 mask h).1 (BJ mask n<|L0 mask h).2=some (road mask h N).j:=by
 intro d
 induction d with
 |zero=>
  intro n f hn F v;obtain⟨f,rfl⟩:∃g,f=g+1:=⟨f-1,J⟩;have R:n=ns:=J
  subst R;refine⟨rI mask h n,v,by rw[SQ];exact Z,?_⟩;unfold layClean.free;rw[jr];have:=cT (λk=>(Ah.getD ((BJ mask n<|L0 mask h).1+k)<|some 0).isNone)<|CC mask (BJ mask n<|L0 mask h).1+1;have D:(Ah.getD ((BJ mask n<|L0 mask h).1+0)<|some 0).isNone=true:=by unfold GC at Z;simpa using Z
  cases q:(List.range<|CC mask (BJ mask n<|L0 mask h).1+1).find? (λk=>(Ah.getD ((BJ mask n<|L0 mask h).1+k)<|some 0).isNone)with
  |none=>
   rw[q]at this;have z:=this 0 J;rw[D]at z;cases z
  |some k=>
   rw[q]at this;obtain⟨B,Y,Q⟩:=this;by_cases O:k=0
   .subst O;rw[SQ];simp
   .have z:=Q 0 J;rw[D]at z;cases z
 |succ d ih=>
  intro n f hn F v;obtain⟨f,rfl⟩:∃g,f=g+1:=⟨f-1,J⟩;unfold layClean.free;rw[jr];have:=cT (λk=>(Ah.getD ((BJ mask n<|L0 mask h).1+k)<|some 0).isNone)<|CC mask (BJ mask n<|L0 mask h).1+1;have u:∀k,k<=CC mask (BJ mask n<|L0 mask h).1->(road mask h<|rI mask h n+k).j=(BJ mask n<|L0 mask h).1+k:=λk O=>by rw[SS mask h (rI mask h n) _ _ (SQ mask h n) k O]
  cases q:(List.range<|CC mask (BJ mask n<|L0 mask h).1+1).find? (λk=>(Ah.getD ((BJ mask n<|L0 mask h).1+k)<|some 0).isNone)with
  |some k=>
   rw[q]at this;obtain⟨B,Y,Q⟩:=this;refine⟨rI mask h n+k,λm hm=>?_,?_,by rw[u k J]⟩
   .by_cases P:m<rI mask h n
    .exact v m P
    .have z:=Q (m-rI mask h n) J;have e:=u (m-rI mask h n) J;rw[show rI mask h n+(m-rI mask h n)=m by lia]at e;rw[e];unfold GC;cases y:Ah.getD ((BJ mask n<|L0 mask h).1+(m-rI mask h n)) (some 0)with
     |none=>rw[y]at z;cases z
     |some _=>rfl
   .rw[u k J];unfold GC;intro z;cases y:Ah.getD ((BJ mask n<|L0 mask h).1+k) (some 0)with
    |none=>rw[y]at z;cases z
    |some _=>rw[y]at Y;cases Y
  |none=>
   rw[q]at this;have G:=λm hm=>by
    by_cases P:m<rI mask h n
    .exact v m P
    .have DH:m<rI mask h n+CC mask (BJ mask n<|L0 mask h).1+1:=hm;have z:=this (m-rI mask h n) J;have e:=u (m-rI mask h n) J;rw[show rI mask h n+(m-rI mask h n)=m by lia]at e;rw[e];unfold GC;cases y:Ah.getD ((BJ mask n<|L0 mask h).1+(m-rI mask h n)) (some 0)with
     |none=>rw[y]at z;cases z
     |some _=>rfl
   exact ih (n+1) f J J G
structure Laid(mask:Nat)(hs:List Int)(Ah:Array (Option Nat))(js:List Nat):Prop where
 sz:Ah.size=mask+1
 len:js.length=hs.length
 nd:js.Nodup
 le:∀j∈js,j<=mask
 own:∀(k j:Nat),js[k]? = some j->Ah[j]? = some (some k)
 Aw:∀j,j<=mask->j∉js->Ah[j]? = some none
 reach:∀(k j:Nat)(h:Int),js[k]? = some j->hs[k]? = some h->∃n,(road mask h n).j=j/\∀m<n,(road mask h m).j∈js
theorem Laid.Ws{mask:Nat}{hs:List Int}{Ah:Array (Option Nat)}{js:List Nat}(L:Laid mask hs Ah js){j:Nat}(q:j<=mask):GC Ah j↔j∈js:=by
 unfold GC;constructor
 .intro z;refine AFg λhn=>?_;have e:=L.Aw j q hn;have y:j<Ah.size:=by rw[L.sz];exact Js q
  rw[AEh y]at e;simp only[y,dif_pos]at z;have v:=AEU e;rw[show Ah.getInternal j y=Ah[j]from rfl,v]at z;cases z
 .intro hm;obtain⟨k,u⟩:=AFM hm;have e:=L.own k j u;have y:j<Ah.size:=by rw[L.sz];exact Js q
  rw[AEh y]at e;simp only[y,dif_pos];have v:=AEU e;rw[show Ah.getInternal j y=Ah[j]from rfl,v]
  rfl
theorem SO{mask:Nat}(h:Int):∀n,(road mask h n).j<=mask/\(road mask h n).j+(road mask h n).more<=mask/\(road mask h n).i<=mask
 |0=>by have y:bits h%(mask+1)<mask+1:=AIN _<|AHp _;show bits h%(mask+1)<=mask/\bits h%(mask+1)+CC mask (bits h%(mask+1))<=mask/\bits h%(mask+1)<=mask;unfold CC runEnd;split<;>lia
 |n+1=>by
  obtain⟨y,h2,h3⟩:=SO (mask:=mask) h n;unfold road Hz;split
  .dsimp only;lia
  .dsimp only;have h4:(leap mask (road mask h n).i (road mask h n).perturb).1<mask+1:=AIN _<|AHp _;unfold CC runEnd;split<;>lia
theorem fi{mask:Nat}(hm:Good mask):∀(rest hs:List Int)(Ah:Array<|Option Nat)(js:List Nat),Laid mask hs Ah js->hs.length+rest.length<=mask->∃Z Q,Laid mask (hs++rest) Z Q/\(rest.foldl (init:=some (Ah,hs.length)) λacc h=>(do
  let (Ah,k)<-acc
  let j<-layClean.free mask Ah (turns mask) (bits h%(mask+1))<|bits h
  pure (Ah.setIfInBounds j<|some k,k+1)))=some (Z,(hs++rest).length)
 |[],hs,Ah,js,L,_=>⟨Ah,js,by simpa using L,ADk⟩
 |h::rest,hs,Ah,js,L,BO=>by
  have F:js.length<=mask:=by rw[L.len];lia
  obtain⟨j,P,R⟩:=cy mask js L.nd F L.le;obtain⟨ns,Vo,B⟩:=fu hm h P;have G:¬ GC Ah (BJ mask ns<|L0 mask h).1:=by rw[B,L.Ws P];exact R
  obtain⟨N,S,T,C⟩:=rC Ah h ns G ns 0 (turns mask) J (by unfold turns at *;lia) (λm hm=>by simp[rI]at hm);have v:=(SO (mask:=mask) h N).1;have D:=λz=>T<|(L.Ws v).mpr z;have hsz:(road mask h N).j<Ah.size:=by rw[L.sz];exact Js v
  have E:Laid mask (hs ++ [h]) (Ah.setIfInBounds (road mask h N).j<|some hs.length)<|js ++ [(road mask h N).j]:=by
   refine⟨by simpa using L.sz,by simp[L.len],?_,λx q=>?_,λk x y=>?_,λx q Y=>?_,λk x h' y hh=>?_⟩
   .rw[AHg];exact⟨L.nd,ADk,λa ha b hb=>by rw[ADv]at hb;subst hb;intro z;exact D<|z ▸ ha⟩
   .rcases AD7.mp q with q|q
    .exact L.le x q
    .rw[ADv]at q;subst q;exact v
   .by_cases u:k<js.length
    .rw[AEM u]at y;have Y:(road mask h N).j≠x:=λz=>D<|z ▸ AEX y;rw[AHQ Y];exact L.own k x y
    .rw[AED<|MI u]at y;have O:k=js.length:=by have:=(ADw.mp y).1;simp at this;grind
     subst O;simp at y;subst y;rw[Array.getElem?_setIfInBounds_self_of_lt hsz,L.len]
   .have H:=λz=>Y<|AEp _ z;have I:(road mask h N).j≠x:=λz=>Y (AEn _<|by simp[z]);rw[AHQ I];exact L.Aw x q H
   .by_cases u:k<js.length
    .rw[AEM u]at y;rw[AEM (by rw[<-L.len];exact u)]at hh;obtain⟨n,e,hb⟩:=L.reach k x h' y hh;exact⟨n,e,λm hm=>AEp _<|hb m hm⟩
    .rw[AED<|MI u]at y;have O:k=js.length:=by have:=(ADw.mp y).1;simp at this;lia
     subst O;simp at y;subst y;rw[AED (by rw[L.len];exact ADt _),L.len]at hh;simp at hh;subst hh;exact⟨N,rfl,λm hm=>AEp _<|(L.Ws (SO _ m).1).mp<|S m hm⟩
  obtain⟨Z,Q,L2,U⟩:=fi hm rest (hs ++ [h]) _ _ E (by simp at BO ⊢;lia);refine⟨Z,Q,by simpa using L2,?_⟩;rw[AGZ];have t:(do
   let (Ah,k)<-(some (Ah,hs.length))
   let j<-layClean.free mask Ah (turns mask) (bits h%(mask+1))<|bits h
   pure (Ah.setIfInBounds j<|some k,k+1))=some (Ah.setIfInBounds (road mask h N).j<|some hs.length,(hs ++ [h]).length):=by
   show(layClean.free mask Ah (turns mask) (bits h%(mask+1))<|bits h).bind _=_;have:layClean.free mask Ah (turns mask) (bits h%(mask+1)) (bits h)=some (road mask h N).j:=C;rw[this];simp
  rw[t,U];simp
theorem vp{mask:Nat}(hm:Good mask)(hs:Array Int)(q:hs.size<=mask):∃Ah js,Laid mask hs.toList Ah js/\layClean mask hs=some Ah:=by
 have L0:Laid mask [] (Array.replicate (mask+1) none) []:=by refine⟨ADk,rfl,AH8,ADk,ADk,λj v _=>?_,ADk⟩;rw[Array.getElem?_replicate,ADr<|Js v]
 obtain⟨Ah,js,L,e⟩:=fi hm hs.toList [] _ _ L0 (by simpa using q);refine⟨Ah,js,by simpa using L,?_⟩;unfold layClean;rw[<-Array.foldl_toList];have y:=e;simp only[AFe]at y;rw[y]
 rfl
end ST
set_option linter.all false
namespace ST
open PySem PySem.SetTable
theorem Qa{α β:Type}(f:α->Option β):∀(l:List α)(_:∀x∈l,∃y,f x=some y)(i:Nat),(l.filterMap f)[i]? = (l[i]?).bind f
 |[],_,i=>ADk
 |x::r,h,i=>by
  obtain⟨y,q⟩:=h x AD6;rw[AHr q];cases i with
  |zero=>simp[q]
  |succ i=>
   exact Qa f r (λz hz=>h z<|AD4 _ hz) i
noncomputable def live(mask:Nat)(Ah:Array<|Option Nat):List<|Nat×Nat:=(List.range<|mask+1).filterMap λj=>(Ah.getD j none).map (j,·)
theorem MB{mask:Nat}{hs:List Int}{Ah:Array (Option Nat)}{js:List Nat}(L:Laid mask hs Ah js)(j k:Nat):(j,k)∈live mask Ah↔js[k]? = some j:=by
 unfold live;rw[AHX];constructor
 .rintro⟨y,Q,e⟩;have v:y<=mask:=by have:=AD2.mp Q;lia
  have q:y<Ah.size:=by rw[L.sz];exact Js v
  cases ho:Ah.getD y none with
  |none=>rw[ho]at e;cases e
  |some k'=>
   rw[ho]at e;simp only[AEr,AEi,AGG]at e;obtain⟨rfl,rfl⟩:=e;simp only[Array.getD,q]at ho;have u:Ah[y]? = some (some k'):=by rw[AEh q];exact AFX some ho
   by_cases hm:y∈js
   .obtain⟨O,Z⟩:=AFM hm;have:=L.own O y Z;rw[u]at this;simp only[AEi]at this;subst this;exact Z
   .have:=L.Aw y v hm;rw[u]at this;cases this
 .intro h;have Y:=L.le j<|AEX h;have q:j<Ah.size:=by rw[L.sz];exact Js Y
  refine⟨j,AD2.mpr<|Js Y,?_⟩;have:=L.own k j h;rw[AEh q]at this;have e:Ah.getD j none=some k:=by simp only[Array.getD,q];exact AEU this
  rw[e];rfl
theorem gF(mask:Nat)(Ah:Array<|Option Nat):(live mask Ah).Pairwise (λa b=>a.1<b.1):=by
 unfold live;rw[List.pairwise_filterMap];refine AGe.imp ?_;intro a b u x q y v;cases ha:Ah.getD a none with
 |none=>rw[ha]at q;cases q
 |some k=>
  cases hb:Ah.getD b none with
  |none=>rw[hb]at v;cases v
  |some l=>
   rw[ha]at q;rw[hb]at v;cases q;cases v;exact u
theorem wD{mask:Nat}{hs:List Int}{Ah:Array (Option Nat)}{js:List Nat}(L:Laid mask hs Ah js):((live mask Ah).map (·.2)).Perm<|List.range hs.length:=by
 have v:((live mask Ah).map (·.2)).Nodup:=by show List.Pairwise _ _;rw[AEa];have u:=gF mask Ah;have y:∀x∈live mask Ah,js[x.2]? = some x.1:=λx Z=>(MB L x.1 x.2).mp Z;refine(List.Pairwise.and_mem.mp u).imp ?_;rintro a b ⟨ha,hb,D6⟩ z;have Y:=y a ha;have Q:=y b hb;rw[z,Q]at Y;lia
 refine(AFa v AHq).mpr λk=>?_;rw[AEC,AD2];constructor
 .rintro⟨⟨j,O⟩,hm,rfl⟩;have:=(MB L j O).mp hm;rw[<-L.len];exact(ADw.mp this).1
 .intro q;rw[<-L.len]at q;exact⟨(js[k],k),(MB L _ _).mpr<|ADp q,rfl⟩
section
variable{prog:Program}{w:World}{A:Around}{E:Value->Shared->Prop}{s:Shared}
structure T4(prog:Program)(w:World)(h:Heap)(es:Array (Int×Value))(kk:List (List Int)):Prop where
 len:kk.length=es.size
 ent:∀(i:Nat)(hh:Int)(v:Value),es[i]? = some (hh,v)->∃k b,kk[i]? = some k/\v=.ref b/\IsTupleKey (Cy prog w) h k b/\hh=A8 prog w k
 nd:kk.Nodup
theorem AA4{h:Heap}{es:Array (Int×Value)}{t:SetTable}{kk:List (List Int)}(T:T4 prog w h es kk)(hw:sizeAbove n=32)(hsz:es.size*5<93) : ∃t' u C,t.relaid (es.map (·.1)) n=some (t',u)/\(u.filterMap (es[·]?)).size=es.size/\FE prog w h (u.filterMap (es[·]?)) t' C/\C.Perm kk:=by
 have hm:Good 31:=.inr rfl;obtain⟨Ah,js,L,e⟩:=vp hm (es.map (·.1)) (by simp;lia);have O:=wD L;have tQ:((es.map (·.1)).toList).length=es.size:=ADk
 rw[tQ]at O;have H:∀k∈(live 31 Ah).map (·.2),k<es.size:=λk Z=>AD2.mp<|O.mem_iff.mp Z;have Qr:∀k∈(live 31 Ah).map (·.2),∃y,es[k]? = some y:=λk Z=>⟨es[k]'(H k Z),AEh _⟩;have I:∀k∈(live 31 Ah).map (·.2),∃y,kk[k]? = some y:=λk Z=>⟨kk[k]'(by rw[T.len];exact H k Z),ADp _⟩;have t9:=by have:=O.length_eq;simpa using this
 have el:(((live 31 Ah).map (·.2)).toArray.filterMap (es[·]?)).toList=((live 31 Ah).map (·.2)).filterMap (λk=>es[k]?):=by rw[Array.toList_filterMap]
 have D:(((live 31 Ah).map (·.2)).toArray.filterMap (es[·]?)).size=es.size:=by rw[<-AEo,el];have F:=(O.filterMap λk=>es[k]?).length_eq;rw[F,filterMap_getElem?_range];simp
 have B:=by have F:=O.filterMap λk=>kk[k]?;rw[<-T.len,List.filterMap_getElem?_range_length]at F;exact F
 refine⟨{mask:=31,place:=((live 31 Ah).map (·.1)).toArray,dummies:=#[],finger:=t.finger,led:=t.led,moves:=t.movedTo<|sizeAbove n-1,plain:=t.plain},((live 31 Ah).map (·.2)).toArray,((live 31 Ah).map (·.2)).filterMap λk=>kk[k]?,?_,D,?_,B⟩
 .unfold relaid laid;rw[hw,e]
  rfl
 .refine⟨rfl,hm,?_,λj hj=>?_,by rw[D];simpa using t9,by rw[D];exact hsz,?_,λi hh v P=>?_,B.nodup_iff.mpr T.nd,λi j k hp Z=>?_⟩
  .rw[AEa];exact gF 31 Ah
  .have Cb:j∈(live 31 Ah).map (·.1):=by simpa using hj
   obtain⟨⟨R,k⟩,G,rfl⟩:=AEC.mp Cb;exact L.le _<|AEX<|(MB L R k).mp G
  .rw[D,<-T.len];exact B.length_eq
  .rw[<-AEK,el,Qa _ _ Qr]at P;rw[Qa _ _ I];cases ho:((live 31 Ah).map (·.2))[i]? with
   |none=>rw[ho]at P;cases P
   |some k=>
    rw[ho]at P;exact T.ent k hh v P
  .rw[Qa _ _ I]at Z;have Q:((live 31 Ah).map (·.1))[i]? = some j:=by simpa using hp
   rw[AEy]at Q Z;cases S:(live 31 Ah)[i]? with
   |none=>rw[S]at Q;cases Q
   |some x=>
    obtain⟨R,Y⟩:=x;rw[S]at Q Z;simp only[AEr,AEi]at Q;subst Q;have tZ:=(MB L R Y).mp<|AEX S;have U:=by simpa using Z
    have FQ:Y<es.size:=by rw[<-T.len];exact(ADw.mp U).1
    obtain⟨⟨hh,v⟩,b⟩:∃x,es[Y]? = some x:=⟨es[Y],AEh FQ⟩;obtain⟨k2,b2,e2,_,_,e3⟩:=T.ent Y hh v b;rw[U]at e2;cases e2;have tP:((es.map (·.1)).toList)[Y]? = some (A8 prog w k):=by
     rw[AEK,Array.getElem?_map,b,e3]
     rfl
    obtain⟨n1,r1,r2⟩:=L.reach Y R _ tZ tP;refine⟨n1,r1,λm G=>?_⟩;have:=r2 m G;obtain⟨q,hq⟩:=AFM this;have:=(MB L _ q).mpr hq;have:(road 31 (A8 prog w k) m).j∈(live 31 Ah).map (·.1):=AEC.mpr ⟨_,this,rfl⟩;simpa using this
end
end ST
set_option linter.all false
namespace ST
open PySem PySem.SetTable
section
variable{prog:Program}{w:World}{A:Around}{E:Value->Shared->Prop}{s:Shared}
theorem ff{h h':Heap}{ks:List Int}{a d:Addr}{o:Obj}{es ep}{t:SetTable}(x:IsTupleKey (Cy prog w) h ks a)(ho:h.get? d=some o)(hd:o.data=.set es ep t)(hs:Heap.SameBut d h h'):IsTupleKey (Cy prog w) h' ks a:=by
 obtain⟨o',items,n,q,hc,y,hi⟩:=x;have v:a≠d:=by rintro rfl;obtain rfl:o'=o:=AEU<|q.symm.trans ho;rw[hd]at y;exact nomatch y
 exact⟨o',items,n,(hs.2 a v).trans q,hc,y,hi⟩
theorem FE.move{h h':Heap}{es:Array (Int×Value)}{t:SetTable}{kk:List (List Int)}(T:FE prog w h es t kk)(m:∀k b,IsTupleKey (Cy prog w) h k b->IsTupleKey (Cy prog w) h' k b):FE prog w h' es t kk:=
 ⟨T.KJ,T.MP,T.E3,T.le,T.sz,T.Lq,T.len,λi hh v e=>let ⟨k,b,e1,e2,e3,e4⟩:=T.ent i hh v e;⟨k,b,e1,e2,m k b e3,e4⟩,T.nd,T.reach⟩
theorem ACi{k:List Int}{b:Addr}{Q:Bool->Shared->Prop}(q:IsTupleKey (Cy prog w) s.heap k b)(h:Q true s):wpAny (model prog w) A (hashByValue 8<|.ref b) Q E s:=by
 have O:=q.typeIs;obtain⟨o,items,n,ho,hc,hd,hi⟩:=q;refine wpAny_bind<|wpAny_specialOf O F.slot_tuple_hash.lookup ?_;refine wpAny_bind<|wpAny_seqItems ho hd ?_;refine wpAny_bind ?_;rw[<-Array.forIn_toList];have Z:∀{x:List Int}{vs:List Value},ItemsAre (Cy prog w) x vs->∀v∈vs,∃i t,v=Value.int i t:=by
  intro x vs q
  induction q with
  |nil=>intro v y;simp at y
  |@cons k v' ks vs h1 _ ih=>
   intro v y;rcases AEN.mp y with rfl|y
   .obtain⟨t,e⟩:=Value.isInt_shape h1;exact⟨_,t,e⟩
   .exact ih v y
 refine wpAny_forIn_list _ (λrest r s'=>r.1=none/\s'=s/\∀v∈rest,∃i t,v=Value.int i t) _ ?_ ?_ _ _ ⟨rfl,rfl,Z hi⟩
 .rintro v rest r s' ⟨Y,rfl,Z⟩;obtain⟨i,t,rfl⟩:=Z v AD6;exact wpAny_pure ⟨rfl,rfl,λu P=>Z u<|AD4 _ P⟩
 .rintro⟨r1,r2⟩ s' ⟨Y,rfl,_⟩;subst Y;exact wpAny_pure h
theorem WA{α:Type}(xs:Array α)(p:Nat)(x:α)(hp:p<=xs.size)(i:Nat):(insertAt xs p x)[i]? = if i<p then xs[i]? else if i=p then some x else xs[i-1]?:=by
 rw[<-AEK,SetTable.toList_insertAt];by_cases y:i<p
 .rw[ADr y,AEM (by simp;lia),AHo y,AEK]
 .rw[ADs y,AED (by rw[AEq];simp;lia)];have e:(List.take p xs.toList).length=p:=by rw[AEq];simp;lia
  rw[e];by_cases q:i=p
  .subst q;simp
  .rw[ADs q];obtain⟨d,hd⟩:∃d,i-p=d+1:=⟨i-p-1,J⟩;rw[hd,AFG,AHY,AEK]
   congr 1
   lia
theorem fD{α:Type}(xs:List α)(p:Nat)(x:α)(hp:p<=xs.length)(i:Nat):(xs.take p++x::xs.drop p)[i]? = if i<p then xs[i]? else if i=p then some x else xs[i-1]?:=by have:=WA xs.toArray p x (by simpa using hp) i;rw[<-AEK,SetTable.toList_insertAt]at this;simpa using this
theorem zS{h:Heap}{es:Array (Int×Value)}{t:SetTable}{kk:List (List Int)}{k:List Int}{b:Addr}{N:Nat}(T:FE prog w h es t kk)(I:IsTupleKey (Cy prog w) h k b)(U:k∉kk) (hN:(road t.mask (A8 prog w k) N).j∉t.place.toList) (Bp:∀m<N,(road t.mask (A8 prog w k) m).j∈t.place.toList) (t1:SetTable) (GZ:t1.mask=t.mask/\t1.dummies=t.dummies/\t1.place=(t.put (road t.mask (A8 prog w k) N).j).1.place) : ∃P,P.Perm (k::kk)/\T4 prog w h (insertAt es (t.put (road t.mask (A8 prog w k) N).j).2 (A8 prog w k,.ref b)) P/\(insertAt es (t.put (road t.mask (A8 prog w k) N).j).2 (A8 prog w k,Value.ref b)).size=es.size+1/\t1.place.size=es.size+1/\
  ((es.size+1)*5<t.mask*3->FE prog w h (insertAt es (t.put (road t.mask (A8 prog w k) N).j).2 (A8 prog w k,.ref b)) t1 P):=by
 obtain⟨Y,m2,m3⟩:=GZ;have hp:(t.put (road t.mask (A8 prog w k) N).j).2=below t.place (road t.mask (A8 prog w k) N).j:=rfl;have BU:(t.put (road t.mask (A8 prog w k) N).j).1.place=insertAt t.place (below t.place (road t.mask (A8 prog w k) N).j) (road t.mask (A8 prog w k) N).j:=rfl;rw[BU]at m3;rw[hp];have Q:below t.place (road t.mask (A8 prog w k) N).j<=t.place.size:=by rw[UH _ _ T.E3];have:=QB t.place.toList (road t.mask (A8 prog w k) N).j;simpa using this
 generalize G:(road t.mask (A8 prog w k) N).j=jj at *
 generalize uT:below t.place jj=p at *
 have S:kk.length=t.place.size:=by rw[T.sz];exact T.len
 have hsz:(insertAt es p (A8 prog w k,Value.ref b)).size=es.size+1:=by
  rw[<-AEo,SetTable.toList_insertAt];simp;have:=T.sz
  grind
 have hsz2:t1.place.size=es.size+1:=by
  rw[m3,<-AEo,SetTable.toList_insertAt];simp;have:=T.sz
  grind
 have D:=by
  have:=List.perm_middle (a:=k) (l₁:=kk.take p) (l₂:=kk.drop p)
  rwa [AEc]at this
 have O:T4 prog w h (insertAt es p (A8 prog w k,.ref b)) (kk.take p++k::kk.drop p):=by
  refine⟨?_,λi hh v e=>?_,D.nodup_iff.mpr<|AFd.mpr ⟨U,T.nd⟩⟩
  .rw[hsz,D.length_eq,AD5,T.len]
  .rw[WA es p _ (by rw[<-T.sz];exact Q)]at e;rw[fD kk p k (by rw[S];exact Q)];by_cases u:i<p
   .rw[ADr u]at e ⊢;exact T.ent i hh v e
   .rw[ADs u]at e ⊢;by_cases Z:i=p
    .rw[ADr Z]at e ⊢;cases e;exact⟨k,b,rfl,rfl,I,rfl⟩
    .rw[ADs Z]at e ⊢;exact T.ent (i-1) hh v e
 refine⟨_,D,O,hsz,hsz2,λGV=>?_⟩;have F:∀x∈t.place.toList,x∈t1.place.toList:=λx Jh=>by rw[m3];exact(SetTable.insertAt_perm t.place p jj).mem_iff.mpr (by simpa using Or.inl (by simpa using Jh))
 refine⟨by rw[m2,T.KJ],by rw[Y];exact T.MP,?_,λj C=>?_,by rw[hsz2,hsz],by rw[hsz,Y];exact GV,O.len,O.ent,O.nd,λi j H y q=>?_⟩
 .rw[m3,<-uT];exact u9 t.place jj T.E3 hN
 .rw[m3]at C;have:=(SetTable.insertAt_perm t.place p jj).mem_iff.mp C;rw[Y];rw[AHh]at this;rcases AD7.mp this with z|z
  .exact T.le j z
  .rw[ADv]at z;rw[z,<-G];exact(SO _ N).1
 .rw[m3,WA t.place p jj Q]at y;rw[fD kk p k (by rw[S];exact Q)]at q;rw[Y];by_cases u:i<p
  .rw[ADr u]at y q;obtain⟨n,R,B⟩:=T.reach i j H y q;exact⟨n,R,λm hm=>F _<|B m hm⟩
  .rw[ADs u]at y q;by_cases Z:i=p
   .rw[ADr Z]at y q;cases y;cases q;exact⟨N,G,λm hm=>F _<|Bp m hm⟩
   .rw[ADs Z]at y q;obtain⟨n,R,B⟩:=T.reach (i-1) j H y q;exact⟨n,R,λm hm=>F _<|B m hm⟩
def Hv(prog:Program)(w:World)(h:Heap)(a:Addr)(ks:List<|List Int):Prop:=
 ∃o es y t kk,h.get? a=some o/\o.ExactSet/\o.data=.set es y t/\FE prog w h es t kk/\kk.Perm ks
theorem dD{h:Heap}{a:Addr}{o:Obj}{es:Array (Int×Value)}{y:Nat}{t:SetTable}{es':Array (Int×Value)}{t':SetTable}(ho:h.get? a=some o)(hd:o.data=.set es y t) : (h.update a<|Obj.putSet es' t').get? a=some {o with data:=.set es' (y+1) t'}:=by have:=Heap.get?_update_self (Obj.putSet es' t') ho (by rw[putSet_of es' t' hd];rfl);rw[putSet_of es' t' hd]at this;exact this
theorem ACf{a:Addr}{ks:List (List Int)}{k:List Int}{b:Addr}{Q:Bool->Shared->Prop}(hS:Hv prog w s.heap a ks)(D:IsTupleKey (Cy prog w) s.heap k b)(hu:A.units<cLine)(GV:ks.length+1<=18) (h:∀h' r,Heap.SameBut a s.heap h'->Hv prog w h' a (if k∈ks then ks else k::ks)->Q r {s with heap:=h'}):wpAny (model prog w) A (setAddHashed a (.ref b)<|A8 prog w k) Q E s:=by
 obtain⟨o,es,ep,t,kk,ho,q,hd,T,u⟩:=hS;refine wpAny_holding<|wpAny_bind<|wpAny_setState_of ho hd T.fits ?_;dsimp only;have EK:=T.E3.imp λh=>AEA h;have BO:t.place.toList.length<=t.mask:=by have F:=T.sz;have h2:=T.Lq;simp;lia
 obtain⟨N,R,S,C⟩:=qv T.MP (A8 prog w k) t.place.toList EK BO T.le;have FQ:=u.length_eq;refine wpAny_bind (lT ho hd T hu D R S C ?_ ?_ 100000 0 none rfl (AEu _) (by have:=T.MP;unfold turns at R;rcases this with e|e<;>rw[e]at R<;>lia) (λ_ _ _ _ m hm=>J))
 .intro P;refine wpAny_pure ?_;have:=h s.heap false<|Heap.SameBut.refl a s.heap;rw[ADr<|u.mem_iff.mp P]at this;exact this ⟨o,es,ep,t,kk,ho,q,hd,T,u⟩
 .intro P;have H:=λz=>P<|u.mem_iff.mpr z;refine wpAny_bind<|wpAny_setState_of ho hd T.fits ?_;have fin:∀t1:SetTable,(t1.mask=t.mask/\t1.dummies=t.dummies/\t1.place=(t.put (road t.mask (A8 prog w k) N).j).1.place)->wpAny (model prog w) A (do
    storeSet a (insertAt es (t.put (road t.mask (A8 prog w k) N).j).2 (A8 prog w k,.ref b)) t1
    if(
     !false&&t1.tooFull)=true then do
     setRelay a (grown<|es.size+1)
     pure true
     else pure true) Q E s:=by
   intro t1 Z;obtain⟨Jm,Es,T0,hsz,hsz2,hT⟩:=zS T D P S C t1 Z;have B:t1.fill=es.size+1:=by
    unfold SetTable.fill;rw[hsz2,Z.2.1,T.KJ]
    rfl
   have hsn:es.size=ks.length:=by rw[<-T.len,FQ]
   refine wpAny_bind (wpAny_storeSet_of ho hd ?_ (by rw[hsz,sizeLine_eq];lia));have Y:=dD (es':=insertAt es (t.put (road t.mask (A8 prog w k) N).j).2 (A8 prog w k,Value.ref b)) (t':=t1) ho hd;have G:=Heap.SameBut.update s.heap a<|Obj.putSet (insertAt es (t.put (road t.mask (A8 prog w k) N).j).2 (A8 prog w k,Value.ref b)) t1;generalize ADS:insertAt es (t.put (road t.mask (A8 prog w k) N).j).2 (A8 prog w k,Value.ref b)=Nh at *
   have mv:∀I b2,IsTupleKey (Cy prog w) s.heap I b2->IsTupleKey (Cy prog w) (s.heap.update a<|Obj.putSet Nh t1) I b2:=λ_ _ z=>ff z ho hd G;have U:=Es.trans<|u.cons k;by_cases v:t1.tooFull=true
   .rw[ADr (by rw[v];rfl)];have n:=by unfold SetTable.tooFull at v;rw[B,Z.1]at v;simpa using v
    have O:t.mask=7/\es.size=4:=by
     have F:=T.Lq;rcases T.MP with e|e
     .rw[e]at F n;exact⟨e,by clear GV;lia⟩
     .rw[e]at n;clear F;lia
    have x:sizeAbove (grown<|es.size+1)=32:=by rw[O.2];rfl
    obtain⟨t',y,vk,uV,eX,T',Kl⟩:=AA4 T0 x (by rw[hsz,O.2];decide);have tO:t1.fits Nh.size=true:=by
     unfold SetTable.fits;rw[B,hsz2,hsz,Z.1,O.1,O.2]
     rfl
    refine wpAny_bind ?_;refine wpAny_bind<|wpAny_setState_of Y rfl tO ?_;rw[x];refine wpAny_bind (wpAny_of_eq (a:=(y.filterMap (Nh[·]?),t')) ?_ ?_)
    .rw[uV];show(if(_ != _)=true then _ else _)=_;rw[eX];simp
    .refine wpAny_storeSet_of Y rfl ?_ (by rw[eX,hsz,O.2];decide);have eN:=Heap.SameBut.update (s.heap.update a<|Obj.putSet Nh t1) a (Obj.putSet (y.filterMap (Nh[·]?)) t');refine wpAny_pure ?_;have:=h _ true<|G.trans eN;rw[ADs H]at this;refine this ⟨_,_,_,_,vk,dD Y rfl,q,rfl,T'.move λ_ _ z=>ff (mv _ _ z) Y rfl eN,Kl.trans U⟩
   .rw[ADs<|by simpa using v];refine wpAny_pure ?_;have:=h _ true G;rw[ADs H]at this;refine this ⟨_,_,_,_,Jm,Y,q,rfl,(hT ?_).move mv,U⟩;unfold SetTable.tooFull at v;rw[B,Z.1]at v;lia
  by_cases BU:(t.put (road t.mask (A8 prog w k) N).j).1.plain=true
  .rw[ADr BU];refine wpAny_bind<|ACi D ?_;simp only[AF3];refine fin _ ⟨rfl,?_,rfl⟩;show(if has t.dummies _=true then _ else t.dummies)=t.dummies;rw[T.KJ];simp[has]
  .rw[ADs BU];refine wpAny_bind<|wpAny_pure ?_;simp only[AF3];refine fin _ ⟨rfl,?_,rfl⟩;show(if has t.dummies _=true then _ else t.dummies)=t.dummies;rw[T.KJ];simp[has]
end
end ST
set_option linter.all false
set_option maxRecDepth 100000
namespace ST
open PySem PySem.SetTable
section
variable{prog:Program}{w:World}{A:Around}{E:Value->Shared->Prop}{s:Shared}
noncomputable def D9:List (List Int)->List (List Int)->List (List Int)
 |acc,[]=>acc
 |acc,k::r=>D9 (if k∈acc then acc else k::acc) r
theorem lD:∀(l acc:List<|List Int),(D9 acc l).length<=acc.length+l.length
 |[],acc=>by unfold D9;simp
 |k::r,acc=>by refine AEF (lD r _) ?_;split<;>simp<;>lia
theorem OR{h h':Heap}{k:List Int}{b:Addr}(z:IsTupleKey (Cy prog w) h k b)(m:∀o,h.get? b=some o->h'.get? b=some o):IsTupleKey (Cy prog w) h' k b:=by obtain⟨o',items,n,y,hc,q,hi⟩:=z;exact⟨o',items,n,m o' y,hc,q,hi⟩
def nE(S I:Addr)(h h':Heap):Prop:=∀b o,b≠S->b≠I->h.get? b=some o->h'.get? b=some o
theorem ACU{l S I:Addr}{items:Array Value}{kks:List (List Int)}(hh:A.in1.handled=none)(hu:A.in1.units<cLine)(B:S≠I)(Qv:l≠S)(Vh:l≠I){R:Result->Shared->Prop}(BO:kks.length=items.size)(dy:items.size<=17) : ∀(k i:Nat)(s:Shared)(acc:List<|List Int),items.size-i=k->i<=items.size->acc.length<=i->s.heap.IsList l items->s.heap.IsListIter I l i->Hv prog w s.heap S acc->
  (∀(j:Nat)(v:Value),items[j]? = some v->∃q b,kks[j]? = some q/\v=.ref b/\b≠S/\b≠I/\IsTupleKey (Cy prog w) s.heap q b)->
  (∀h' tk,nE S I s.heap h'->Hv prog w h' S (D9 acc<|kks.drop i)->R (.ok<|.ret .none) {s with heap:=h',toks:=tk})->
  codeAny (model prog w) A (.builtin "set.update.loop" ⟨[.ref S,.ref I],[]⟩) R s:=by
 intro k
 induction k with
 |zero=>
  intro i s acc hk hi dQ P Y G hit hR;have df:i=items.size:=ADi
  refine codeAny_builtin AG5 ?_;refine wpAny_bind (wpAny_pyNext_list_end hh Y P (by simp;lia) λh' C=>?_);have sL:Hv prog w h' S acc:=by obtain⟨o,es,H,t,kk,ho,Z,hd,T,hp⟩:=G;refine⟨o,es,H,t,kk,C S o B ho,Z,hd,T.move λk' b z=>?_,hp⟩;obtain⟨oI,U,tD,n⟩:=Y;refine OR z λo' e=>C b o' (λx=>?_) e;subst x;obtain⟨o2,vK,n2,Q,sr,u,_⟩:=z;rw[U]at Q;cases Q;rw[n]at u;cases u
  refine wpAny_pure ?_;have:=hR h' s.toks λb o O h2 e=>C b o h2 e;rw[AHG (J:kks.length<=i)]at this;exact this sL
 |succ k ih=>
  intro i s acc hk hi dQ P Y G hit hR;have A5:i<items.size:=ADi
  have hv:=AEh A5;obtain⟨q,b,eq,ev,hbS,si,Ve⟩:=hit i _ hv;refine codeAny_builtin AG5 ?_;refine wpAny_bind<|wpAny_pyNext_list_item Y P hv λO ro sb=>?_;have y:∀c o,c≠I->s.heap.get? c=some o->O.get? c=some o:=λc o hc e=>(sb.2 c hc).trans e;rw[ev];refine wpAny_bind<|wpAny_holding ?_;refine wpAny_holding ?_;have dr:=OR Ve λo e=>y b o si e;have sM:Hv prog w O S acc:=by obtain⟨o,es,H,t,kk,ho,Z,hd,T,hp⟩:=G;refine⟨o,es,H,t,kk,y S o B ho,Z,hd,T.move λk' c z=>?_,hp⟩;obtain⟨oI,U,tD,n⟩:=Y;refine OR z λo' e=>y c o' (λx=>?_) e;subst x;obtain⟨o2,vK,n2,Q,sr,u,_⟩:=z;rw[U]at Q;cases Q;rw[n]at u;cases u
  refine wpAny_bind<|wpAny_pyHash_tuple hu dr ?_;refine ACf (s:={s with heap:=O,toks:=s.toks+(q.length+1)}) sM dr hu J λh2 r sb2 Ly=>?_;refine wpAny_pure ⟨plainId_quiet PyProof.Rows.F.plain_set_update_loop _,?_⟩;have D:∀c o,c≠S->O.get? c=some o->h2.get? c=some o:=λc o hc e=>(sb2.2 c hc).trans e;refine ih (i+1) _ _ (by clear hi;grind) A5 ?_ ?_ ?_ Ly (λj v hj=>?_) λh3 tk ht sN=>?_
  .split
   .exact MM dQ
   .simp;lia
  .exact P.at λo e=>D l o Qv<|y l o Vh e
  .exact ro.at λo e=>D I o (AFH B) e
  .obtain⟨q',b',e1,e2,e3,e4,e5⟩:=hit j v hj;exact⟨q',b',e1,e2,e3,e4,OR e5 λo e=>D b' o e3<|y b' o e4 e⟩
  .have N0:kks.drop i=q::kks.drop (i+1):=by
    have dw:i<kks.length:=J
    rw[AEx dw];rw[ADp dw]at eq;rw[AEU eq]
   refine hR h3 tk (λc o c1 c2 e=>ht c o c1 c2<|D c o c1<|y c o c2 e) ?_;rw[N0];exact sN
end
end ST
set_option linter.all false
set_option maxRecDepth 100000
namespace ST
open PySem PySem.SetTable
section
variable{prog:Program}{w:World}{A:Around}{E:Value->Shared->Prop}{s:Shared}
noncomputable abbrev IK(led:Bool):Obj:={cls:=.type "set",dict:=none,data:=.set #[] 0 (.fresh 0 0 led)}
theorem rD{h:Heap}(led:Bool):FE prog w h #[] (.fresh 0 0 led) []:=
 by
 refine⟨rfl,.inl rfl,.nil,(λj y=>by cases y),rfl,(ADl:0*5<7*3),rfl,λi hh v e=>?_,AH8,λi j k e _=>?_⟩
 .simp at e
 .simp[SetTable.fresh]at e
set_option maxHeartbeats 3200000 in
theorem oW{l:Addr}{items:Array Value}{kks:List (List Int)}{Q:Value->Shared->Prop}(hh:A.handled=none)(hu:A.units+8<cLine)(hl:s.heap.IsList l items)(BO:kks.length=items.size)(dy:items.size<=17) (hit:∀(j:Nat)(v:Value),items[j]? = some v->∃q b,kks[j]? = some q/\v=.ref b/\IsTupleKey (Cy prog w) s.heap q b) (h:∀(h':Heap)(tk:Nat),Hv prog w h' s.heap.objs.size (D9 [] kks)->(∀b o,s.heap.get? b=some o->h'.get? b=some o)->Q (.ref s.heap.objs.size) {s with heap:=h',toks:=tk}) : wpAny (model prog w) A (call (.type "set") [.ref l]) Q E s:=by
 obtain⟨c0,tl0,ADU⟩:=F.called_set.mro;have ADc:=F.called_set.made;have ADg:=F.called_set.sub;refine wpAny_call<|codeAny_of_tree ?_;show wpAny _ _ (callAny (.type "set") _) _ _ _;refine wpAny_pure ⟨Code.quiet_builtin _ ADm,codeAny_builtin F.entry_type_call ?_⟩;rw[Around.under_plain (weight_type_call_type "set" [.ref l] []) rfl];have nt0:=F.called_set.notType;have cc0:=F.called_set.canCreate;have ct0:=F.typeCall_set_1<|.ref l
 repeat (any_goals (first|assumption|wp_step))
 let made (led:Bool):Shared:={s with heap:=s.heap.push (IK led)}
 refine codeAny_mono (code_set_new_1 (.ref l) (E:=E) (Q₁:=λD st=>∃led:Bool,D=.ref s.heap.objs.size/\st=made led) λled=>⟨led,rfl,rfl⟩) λr1 Dx Y=>?_;cases r1 with
 |error e=>exact Y
 |ok fl=>
  cases fl with
  |ret D=>
   obtain⟨led,rfl,rfl⟩:=Y;have B:(s.heap.push<|IK led).get? s.heap.objs.size=some (IK led):=Heap.get?_push_size _ rfl;have O:Shared.TypeIs (made led) (.ref s.heap.objs.size) "set":=⟨_,B,rfl⟩;have li0:=F.called_set.init.lookup;have bi0:=F.called_set.init.bind<|.ref s.heap.objs.size;show wpAny _ _ _ _ _ (made led)
   repeat (any_goals (first|assumption|wp_step))
   refine codeAny_mono (codeAny_call_builtin (R:=wants (λrv G=>rv=.none/\∃y tk,G={s with heap:=y,toks:=tk}/\Hv prog w y s.heap.objs.size (D9 [] kks)/\(∀b o,s.heap.get? b=some o->y.get? b=some o)) E)
    F.called_set.init.plain F.entry_set_init (check_set_init_1 O ?_)) λr2 G P=>?_
   .obtain⟨ol,T,C,H,U⟩:=id hl;obtain⟨ADe,xH,ADf,yE⟩:=ol;simp only at C U;subst C;subst U;have uM:(s.heap.push<|IK led).get? l=some {cls:=.type "list",dict:=xH,data:=.seq items H,slots:=yE}:=Heap.get?_push_of_some _ T;have ADX:=F.sub_list_set;have ADW:=F.sub_list_frozenset;have A3:(Value.type "list" == Value.type "dict")=false:=ADl
    have n:(s.heap.push<|IK led).IsList l items:=⟨_,uM,rfl,H,rfl⟩;unfold Builtin.«set.__init__» noKeywords Builtin.Frozenset.updateFrom;generalize sG:pyIter=PI
    wp_walk
    subst sG;refine wpAny_pyIter_list n ?_;refine wpAny_bind<|wpAny_runValue ?_;have t:l<s.heap.objs.size:=Heap.lt_size T;have u:(s.heap.push<|IK led).objs.size=s.heap.objs.size+1:=Heap.size_push ..;have Nw:s.heap.objs.size≠(s.heap.push<|IK led).objs.size:=by rw[u];exact AEA<|AHs _
    have Vh:l≠(s.heap.push<|IK led).objs.size:=by rw[u];exact AEA<|AF5 t
    refine ACU (l:=l) (items:=items) (kks:=kks) (S:=s.heap.objs.size) (I:=(s.heap.push<|IK led).objs.size) (by simp[hh]) (by simp;lia) Nw (AEA t) Vh BO dy (items.size-0) 0 _ [] J (AEu _) (AEu _) (n.push _) ⟨_,Heap.get?_push_size _ rfl,rfl,rfl⟩ ?hS0 ?hit ?hR
    case hS0=>exact⟨_,_,_,_,[],Heap.get?_push_of_some _ B,⟨rfl,rfl,rfl⟩,rfl,rD led,.nil⟩
    case hit=>
     intro j v hj;obtain⟨q,b,e1,e2,x⟩:=hit j v hj;have hb:b<s.heap.objs.size:=by obtain⟨o2,_,_,e4,_⟩:=x;exact Heap.lt_size e4
     exact⟨q,b,e1,e2,AEA hb,by rw[u];exact AEA<|AF5 hb,OR x λo e=>Heap.get?_push_of_some _ (Heap.get?_push_of_some _ e)⟩
    case hR=>
     intro y tk ht Z;rw[List.drop_zero]at Z;refine wpAny_pure ?_;show wpAny _ _ (ret Value.none) _ _ _;refine wpAny_pure ⟨rfl,y,tk,rfl,Z,λb o e=>?_⟩;have hb:=Heap.lt_size e;exact ht b o (AEA hb) (by rw[u];exact AEA<|AF5 hb)<|Heap.get?_push_of_some _ (Heap.get?_push_of_some _ e)
   .cases r2 with
    |error e=>exact P
    |ok qw=>
     cases qw with
     |ret rv=>
      obtain⟨rfl,y,tk,rfl,Z,Je⟩:=P
      repeat (any_goals (first|assumption|wp_step))
      exact h _ _ Z Je
     |_=>exact P.elim
  |_=>exact Y.elim
end
end ST
namespace L2
open PySem PySem.Spec PyProof.Rows
noncomputable def Gm(env:Env):Str×NameKind->Str×NameKind:=λ(n,k)=>if(k==NameKind.free&&env.scope.kind == .function&&env.kindOf n==some .cell)then(n,NameKind.cell)else(n,k)
theorem jb(env:Env)(y:Str×NameKind):(Gm env y).1=y.1:=by unfold Gm;dsimp only;split<;>rfl
theorem jc(env:Env)(y:Str×NameKind):((Gm env y).2=.cell/\y.2=.free)\/(Gm env y).2=y.2:=by
 unfold Gm;dsimp only;split
 .rename_i h;simp only[ADx,AFf]at h;exact .inl ⟨rfl,h.1.1⟩
 .exact .inr rfl
theorem gK{env:Env}:∀{names:List (Str×NameKind)}{x:Str},names.lookup x=some .free->(names.map<|Gm env).lookup x=some .cell\/(names.map<|Gm env).lookup x=some .free
 |[],_,h=>by simp at h
 |(n,k)::r,x,h=>by
  have Z:=@gK env r x;have q:=jb env (n,k);have v:=jc env (n,k);rw[AD0];generalize Gm env (n,k)=y at q v;obtain⟨m,j⟩:=y;obtain rfl:m=n:=q;cases u:x==m with
  |true=>
   simp only[AFY,u]at h ⊢;cases h;rcases v with⟨z,_⟩|z
   .exact .inl<|AFX some z
   .exact .inr<|AFX some z
  |false=>
   simp only[AFY,u]at h ⊢;exact Z h
theorem cz{env:Env}:∀{names:List (Str×NameKind)}{x:Str},((names.map<|Gm env).lookup x=some .cell\/(names.map<|Gm env).lookup x=some .free)->(x,NameKind.free)∈names\/names.lookup x=some .cell
 |[],_,h=>by simp at h
 |(n,k)::r,x,h=>by
  have Z:=@cz env r x;have v:=jb env (n,k);have u:=jc env (n,k);rw[AD0]at h;generalize Gm env (n,k)=y at v u h;obtain⟨m,j⟩:=y;obtain rfl:m=n:=v;cases q:x==m with
  |true=>
   obtain rfl:x=m:=by simpa using q
   simp only[AFY,q,AEi]at h ⊢;rcases u with⟨_,rfl⟩|rfl
   .exact .inl AD6
   .rcases h with rfl|rfl
    .exact .inr rfl
    .exact .inl AD6
  |false=>
   simp only[AFY,q]at h ⊢;rcases Z h with e|e
   .exact .inl<|AD4 _ e
   .exact .inr e
theorem P5:∀(names:List<|Str×NameKind)(n:Nat)(acc:List<|Str×Addr),cellsFrom n names acc=cellsFrom n names []++acc
 |[],_,_=>rfl
 |(x,k)::r,n,acc=>by
  unfold cellsFrom;split
  .simp only[P5 r (n+1) ((x,n)::acc),P5 r (n+1) [(x,n)],AEW];rfl
  .exact P5 r n acc
theorem UT:∀(names:List<|Str×NameKind)(n:Nat)(acc:List<|Str×Addr){x:Str}{c:Addr},(x,c)∈cellsFrom n names acc->(x,c)∈acc\/(x,NameKind.cell)∈names
 |[],_,_,_,_,h=>.inl h
 |(y,k)::r,n,acc,x,c,h=>by
  unfold cellsFrom at h;split at h
  .rename_i q;rcases UT r _ _ h with z|z
   .rcases AEN.mp z with e|e
    .right;have v:x=y:=AFX Prod.fst e;have u:=by simpa using q
     rw[v,u];exact AD6
    .exact .inl e
   .exact .inr<|AD4 _ z
  .rcases UT r _ _ h with z|z
   .exact .inl z
   .exact .inr<|AD4 _ z
theorem MD{l m:List (Str×Addr)}{x:Str}{c:Addr}(h:(l++m).lookup x=some c):l.lookup x=some c\/(l.lookup x=none/\m.lookup x=some c):=by
 rw[AHZ]at h;cases e:l.lookup x with
 |none=>rw[e]at h;exact .inr ⟨rfl,h⟩
 |some d=>rw[e]at h;exact .inl h
theorem ACg{M:Model}{A:Around}{E:Value->Shared->Prop}{s:Shared}{scope:Scope}{globals:Addr}{y:List (Str×Addr)}{qual:Str}{outer:Env}{Q:Env->Shared->Prop} (q:Q {scope:=scope,locals:=s.heap.objs.size,globals:=globals,cells:=cellsFrom (s.heap.objs.size+1) scope.names []++y,qual:=qual,func:=none,code:=outer.code,frame:=outer.frame,builtins:=outer.builtins} {s with heap:=pushCells (s.heap.push {cls:=.type "dict",data:=.dict #[]}) scope.names}) : wpAny M A (newFunctionEnv scope globals y [] qual none .none<|some outer) Q E s:=by simp only[newFunctionEnv,Option.isSome_some,AF3];refine wpAny_bind<|wpAny_alloc ?_;refine wpAny_bind (wpAny_layCells _ (λname kind cells=>by cases v:kind==NameKind.cell<;>simp[v]) _ _ _ _ ?_);rw[show({s with heap:=s.heap.push {cls:=.type "dict",data:=.dict #[]}}:Shared).heap.objs.size=s.heap.objs.size+1 from Heap.size_push ..,P5];exact wpAny_bind<|wpAny_pure<|wpAny_pure q
theorem Lf{cells:List (Str×Addr)}{x:Str}{c:Addr}(hc:cells.lookup x=some c):∀{l:List (Str×NameKind)}{acc:List (Str×Addr)},((x,NameKind.free)∈l\/acc.lookup x=some c)->(Dm cells l acc).lookup x=some c
 |[],acc,h=>by
  rcases h with h|h
  .contradiction
  .exact h
 |(n,k)::r,acc,h=>by
  unfold Dm;by_cases y:(k==NameKind.free)=true
  .rw[ADr y];by_cases hn:x=n
   .subst hn;rw[hc];exact Lf hc<|.inr<|by simp[AFY]
   .have q:(x==n)=false:=by simpa using hn
    have h':(x,NameKind.free)∈r\/acc.lookup x=some c:=by
     rcases h with h|h
     .rcases AEN.mp h with e|e
      .exact absurd (AFX Prod.fst e) hn
      .exact .inl e
     .exact .inr h
    cases hd:cells.lookup n with
    |none=>exact Lf hc h'
    |some d=>
     refine Lf hc ?_;rcases h' with e|e
     .exact .inl e
     .right;simp only[AFY,q];exact e
  .rw[ADs y];refine Lf hc ?_;rcases h with h|h
   .rcases AEN.mp h with e|e
    .have:k=.free:=(AFX Prod.snd e).symm;rw[this]at y;exact absurd rfl y
    .exact .inl e
   .exact .inr h
def B7(X:Cx)(Nb:List Str)(scope:Scope)(C:Addr)(s:Shared)(H:Hp)(fp:List Addr)(AB:List<|Addr×Obj):Cx:=
 {X with N:=Nb,Cm:=s,AU:=H,env:=compEnvC scope (cellsFrom (C+1) scope.names []++Dm X.env.cells scope.names []) C X.env,outer:=X.stack,stack:=X.stack,ex:=fp,fn:=λx=>scope.names.lookup x==some NameKind.cell,pn:=X.pn++AB,xe:=λ_ _=>False}
def Gx(X:Cx)(y:List Expr)(t:TT):Prop:=
 ∀(AB:List<|Addr×Obj)(s:Shared)(σ:St)(H:Hp)(Q:Bool->Hp->Prop),Inv X AB σ H s->t σ H Q->wpAny (model X.prog X.w) X.A (forIn y true λc r=>if r=true then do let ok<-isTrue c X.env<|eval c X.env;pure (ForInStep.yield ok)else pure (ForInStep.yield r)) (TP X AB σ Q) X.xe s
theorem yu{X:Cx}:Gx X [] (λ_ H Q=>Q true H):=λ_ _ _ H _ I h=>wpAny_tests_nil ⟨H,I,h⟩
theorem yv{X:Cx}{c:Expr}{t:TT}(h:PT X c t):Gx X [c] t:=λAB s σ H Q I q=>wpAny_tests_one<|h AB s σ H Q I q
structure F9(X:Cx)(scope:Scope)(Nb:List Str)(own:Nat)(cap:List Nat):Prop where
 kind:scope.kind=.function
 cell:∀y∈scope.names,y.2=.cell->scope.names.lookup y.1=some .cell
 loc:∀x∈scope.names,x.2=.local->scope.names.lookup x.1=some .local
 free:∀y∈scope.names,y.2=.free->X.env.kindOf y.1=some .cell\/X.env.kindOf y.1=some .free
 len:Nb.length=own+cap.length
 cap:∀k j,cap[k]? = some j->∃x,Nb[own+k]? = some x/\X.N[j]? = some x/\scope.names.lookup x=some .free
noncomputable def GG(own:Nat)(cap:List Nat)(σ:St):St:=List.replicate own none++cap.map λj=>(σ[j]?).join
theorem og{own:Nat}{cap:List Nat}{σ:St}{i:Nat}{v:V}(h:(GG own cap σ)[i]? = some (some v)):∃k j,i=own+k/\cap[k]? = some j/\σ[j]? = some (some v):=by
 unfold GG at h;by_cases hi:i<own
 .rw[AEM (by simpa using hi),AFs]at h;split at h<;>simp at h
 .rw[AED (by simpa using hi),AEy]at h;simp only[AFi]at h;cases y:cap[i-own]? with
  |none=>rw[y]at h;simp at h
  |some j=>
   rw[y]at h;simp only[AEr,AEi]at h;refine⟨i-own,j,ADj,y,?_⟩;cases hs:σ[j]? with
   |none=>rw[hs]at h;simp at h
   |some o=>rw[hs]at h;simp at h;rw[h]
section
variable{X:Cx}{tg iter elt:Expr}{ifs:List Expr}{scope:Scope}{pos:Pos}{Nb:List Str}{own:Nat}{cap:List Nat}{wi:TI}{g:TG}{ti:TT}{te:TE}
def ke(own:Nat)(cap:List Nat)(g:TG)(ti:TT)(te:TE)(ADh:It)(σ:St)(u:Hp)(Q:VK):Prop:=∀D,u D=none->∃W:Nat->Nat->St->Hp->Prop,(∃m,W 0 m (GG own cap σ)<|upd u D<|.lst [])/\∀i m Z H',W i m Z H'->(ADh.stop i H'/\Q (.ref D) H')\/(ADh.go i H'/\∃N:St->Hp->Prop,(∀Y y,N Y y->∃O,O<m/\W (i+1) O Y y)/\
  ∀x y,ADh.TH i H' x y->g x Z y λq R=>ti q R λb P=>if b=true then te q P λv F=>∃ys,F D=some (.lst ys)/\ys.length<sizeLine/\N q (upd F D<|.lst<|ys ++ [v])else N q P)
theorem Ot{C:Addr}{x:Str}{c:Addr}(h:(cellsFrom (C+1) scope.names []).lookup x=some c):C<c:=by
 let y:Heap:={objs:=Array.replicate (C+1) default}
 have ok:=cellsFrom_ok scope.names y (C+1) [] ⟨λ_ _ hm=>(nomatch hm),List.Pairwise.nil⟩ (by simp[y]);rw[show y.objs.size=C+1 by simp[y]]at ok;exact(ok.empty x c<|AE2 h).2
theorem own_apart{C:Addr}:(cellsFrom (C+1) scope.names []).Pairwise λx y=>x.2≠y.2:=by
 let q:Heap:={objs:=Array.replicate (C+1) default}
 have ok:=cellsFrom_ok scope.names q (C+1) [] ⟨λ_ _ hm=>(nomatch hm),List.Pairwise.nil⟩ (by simp[q]);rw[show q.objs.size=C+1 by simp[q]]at ok;exact ok.apart
theorem Y9{AB:List (Addr×Obj)}{s:Shared}{σ:St}{H:Hp}(I:Inv X AB σ H s){l:List (Str×NameKind)}{x:Str}{c:Addr}(h:(Dm X.env.cells l []).lookup x=some c):c<s.heap.objs.size:=by obtain⟨v,o,ho,_⟩:=I.cell x c (IA (λ_ _ z=>by contradiction) h);exact Heap.lt_size ho
theorem pP{C:Addr}{s:Shared}{H:Hp}{fp:List Addr}{AB:List (Addr×Obj)}{σ:St}(O:F9 X scope Nb own cap)(I:Inv X AB σ H s)(f:∀b∈fp,GA X AB H b)(q:s.heap.objs.size<=C)(Q:∀b∈fp,b<s.heap.objs.size) : (B7 X Nb scope C s H fp AB).Ok:=by
 refine⟨I.ok.mod,O.kind,I.ok.glob,I.ok.blt,q,λx y c P Z=>?_,λx Y=>?_,λx c h Z=>?_,I.ok.hd,I.ok.frames,.inl rfl,λb hb=>⟨?_,λx c h=>?_⟩,I.bs,AEF I.ok.JI I.sz,λb o e hb=>?_,λb hb z=>?_,I.stack,I.kJ⟩
 .rcases MD P with v|⟨_,v⟩<;>rcases MD Z with u|⟨_,u⟩
  .exact name_of_addr own_apart (AE2 v)<|AE2 u
  .exact absurd (Ot v) (Nat.not_lt.mpr<|AEF (AEg<|Y9 I u) q)
  .exact absurd (Ot u) (Nat.not_lt.mpr<|AEF (AEg<|Y9 I v) q)
  .exact I.ok.inj x y c (IA (λ_ _ z=>by cases z) v)<|IA (λ_ _ z=>by cases z) u
 .show ∃c,(cellsFrom (C+1) scope.names []++Dm X.env.cells scope.names []).lookup x=some c;rw[AHZ];rcases cz Y with hm|hm
  .obtain⟨c,hc⟩:=I.ok.has x<|O.free _ hm rfl;cases (cellsFrom (C+1) scope.names []).lookup x with
   |none=>exact⟨c,Lf hc<|.inl hm⟩
   |some d=>exact⟨d,rfl⟩
  .obtain⟨c,hc⟩:=P4 hm;exact⟨c,by rw[hc];rfl⟩
 .have Y:=by simpa[B7]using h
  obtain⟨c',D⟩:=P4 Y;rcases MD Z with z|⟨z,_⟩
  .exact AEF q<|AEg<|Ot z
  .rw[D]at z;contradiction
 .exact AEA<|AEB (Q b hb) q
 .rcases MD h with z|⟨_,z⟩
  .exact AFH<|AEA<|AGB (AEB (Q b hb) q)<|Ot z
  .exact(f b hb).2.2.2.2.1 x c (IA (λ_ _ z=>by contradiction) z)
 .rcases(f b hb).2.2.2.1 with z|z
  .exact I.ok.Om b o e z
  .exact absurd (AEB (Heap.lt_size e)<|AEF I.ok.JI z) (AF7 _)
 .rcases AEN.mp (I.Si b z)with e|e
  .exact(f b hb).2.1 e
  .exact(f b hb).2.2.1 e
theorem pO{C:Addr}{s s':Shared}{H H':Hp}{fp:List Addr}{AB:List (Addr×Obj)}{σ:St}{m:Str->Option Value}(O:F9 X scope Nb own cap)(I:Inv X AB σ H s)(ok:(B7 X Nb scope C s H fp AB).Ok) (F:s'.os=s.os) (R:AllBare s'.gens) (u:Un (En X.stack) fp H H' s.heap s'.heap) (k:∀b o,s.heap.get? b=some o->s'.heap.get? b=some o) (B:s.heap.objs.size<=C) (hn:s'.heap.Ns C m) (G:H' C=none) (Y:∀b o,s.heap.get? b=some o->H b=none->H' b=none) (AX:Bn X.prog X.w H' s'.heap) (Q:∀x c,(cellsFrom (C+1) scope.names []).lookup x=some c->s'.heap.IsCell c none/\H' c=none) : Inv (B7 X Nb scope C s H fp AB) [] (GG own cap σ) H' s':=by
 refine⟨ok,F,R,u,⟨m,hn,λi x v S T h3=>?_⟩,λx c h=>?_,G,λx c h=>?_,λp hp=>?_,AX,?_⟩
 .obtain⟨kk,j,rfl,E,hs⟩:=og T;obtain⟨y,U,t,Z⟩:=O.cap kk j E;have V9:=by have P:Nb[own+kk]? = some x:=S;rw[U]at P;exact AEU P
  subst V9;have hm:=AE2 Z;have D:=O.free _ hm rfl;have hv:FG X.env.scope y:=by
   rcases D with z|z
   .exact .inr<|.inl z
   .exact .inr<|.inr z
  obtain⟨m0,hn0,hl⟩:=I.loc;obtain⟨u0,r,l⟩:=hl j y v t hs hv;refine⟨u0,r,?_⟩;rcases l with⟨l,_⟩|⟨_,c,hc,Qo⟩
  .rcases D with z|z<;>(rw[l]at z;contradiction)
  .refine .inr ⟨gK Z,c,?_,Qo.keeps k⟩;show(cellsFrom (C+1) scope.names []++Dm X.env.cells scope.names []).lookup y=some c;rw[AHZ];cases eo:(cellsFrom (C+1) scope.names []).lookup y with
   |none=>exact Lf hc<|.inl hm
   |some d=>
    rcases UT _ _ _ (AE2 eo)with z|z
    .exact nomatch z
    .have:=O.cell _ z rfl;rw[Z]at this;contradiction
 .rcases MD h with z|⟨_,z⟩
  .exact⟨_,(Q x c z).1⟩
  .obtain⟨v,z⟩:=I.cell x c (IA (λ_ _ z=>by cases z) z);exact⟨v,z.keeps k⟩
 .rcases MD h with z|⟨_,z⟩
  .exact(Q x c z).2
  .have hc:=IA (λ_ _ z=>by cases z) z;obtain⟨v,o,ho,_⟩:=I.cell x c hc;exact Y c o ho<|I.GR x c hc
 .have Es:p∈X.pn++AB:=by have:p∈(X.pn++AB) ++ []:=hp;simpa using this
  obtain⟨e,n,ne,nf,d⟩:=I.pin p Es;refine⟨k _ _ e,Y _ _ e n,AEA<|AEB (Heap.lt_size e) B,λz=>?_,d⟩;rcases AEN.mp (I.Si p.1 z)with q|q
  .exact ne q
  .exact nf q
 .show(GG own cap σ).length=Nb.length;rw[O.len];simp[GG]
theorem ZI{AB:List (Addr×Obj)}{s:Shared}{σ:St}{H:Hp}{Q:VK}{it:Addr}{fp:List Addr}{tn:Nat->Heap->Prop}{ADh:It}{E:Value->Shared->Prop}{RR:Value->Addr->Result->Shared->Prop}(hc:X.calm=true)(O:F9 X scope Nb own cap) (hg:∀C s H fp AB,PG (B7 X Nb scope C s H fp AB) tg g) (ht:∀C s H fp AB,Gx (B7 X Nb scope C s H fp AB) ifs ti) (he:∀C s H fp AB,PE (B7 X Nb scope C s H fp AB) elt te) (I:Inv X AB σ H s) (T:Turn X.prog X.w X.K tg ADh fp it tn) (st:tn 0 s.heap) (f:∀b∈fp,GA X AB H b) (hW:ke own cap g ti te ADh σ H Q) (sJ:∀(D C:Addr)(s':Shared)(H':Hp)(m:Str->Option Value),Inv X AB σ H' s'->s'.heap.Ns C m->GA X AB H' C->Q (.ref D) H'->RR (.ref D) C (.ok .next) s') : wpAny (model X.prog X.w) X.A (newList []) (λacc J2=>wpAny (model X.prog X.w) X.A (newFunctionEnv scope X.env.globals (Dm X.env.cells scope.names []) [] X.env.qual none .none<|some X.env) (λY8 So=>
  codeAny (model X.prog X.w) X.A (.compStart (.ListComp elt [⟨tg,iter,ifs,0⟩] scope pos) 0 (.ref it) acc {Y8 with scope:=relabel scope X.env}) (RR acc Y8.locals) So) E J2) E s:=by
 have N4:∀b∈fp,b<s.heap.objs.size:=λb hb=>by obtain⟨o,e,_⟩:=T.obj _ _ st b hb;exact Heap.lt_size e
 refine wpAny_newObj_type<|ACg ?_;dsimp only;have hD:=I.AX.fresh<|ADt _;obtain⟨W,⟨m0,w0⟩,turn⟩:=hW s.heap.objs.size hD;generalize VS:s.heap.push {cls:=.type "list",dict:=none,data:=.seq ([]).toArray}=H2;have eC:=(Heap.Ns.new H2<|.type "dict").keeps<|pushCells_keeps scope.names _;have VT:=cellsFrom_ok scope.names (H2.push {cls:=.type "dict",data:=.dict #[]}) (H2.objs.size+1) [] ⟨λ_ _ hm=>(nomatch hm),List.Pairwise.nil⟩ (by rw[Heap.size_push];exact ADt _);rw[Heap.size_push]at VT;have Ww:∀b o,H2.get? b=some o->(pushCells (H2.push {cls:=.type "dict",data:=.dict #[]}) scope.names).get? b=some o:=λb o e=>pushCells_keeps _ _ b o<|Heap.get?_push_of_some _ e;generalize hh1:pushCells (H2.push {cls:=.type "dict",data:=.dict #[]}) scope.names=Ji at eC VT Ww ⊢;have hC:H2.objs.size=s.heap.objs.size+1:=by rw[<-VS,Heap.size_push]
 have F:s.heap.objs.size<=H2.objs.size:=by rw[hC];exact AHH _
 have rm:s.heap.objs.size≠H2.objs.size:=by rw[hC];exact AEA<|AHs _
 have q:=λb o e=>Ww b o<|VS ▸ Heap.get?_push_of_some _ e;have nL:=Ww _ _<|VS ▸ Heap.get?_push_size _ rfl;have uL:Bn X.prog X.w (upd H s.heap.objs.size<|.lst []) Ji:=I.AX.laid q (ADt _) ⟨AEu _,[],0,.nil,nL⟩;have ok:=pP O I f F N4;have fC:∀{H':Hp},H' H2.objs.size=none->GA X AB H' H2.objs.size:=λhn=>I.Qf F hn;have Ib:∀tk:Nat,Inv (B7 X Nb scope H2.objs.size s H fp AB) [] (GG own cap σ) (upd H s.heap.objs.size<|.lst []) {s with heap:=Ji,toks:=tk}:=λtk=>
  pO O I ok rfl I.bare (Un.laid q (ADt _) hD) q F eC (by rw[Av<|AFH rm];exact I.AX.fresh F) (λb o e n=>by rw[Av<|AEA<|Heap.lt_size e];exact n) uL (λx c e=>⟨(VT.empty x c<|AE2 e).1,by have A5:=Ot e;rw[Av<|AFH<|AEA<|AEz F A5];exact I.AX.fresh<|AEF F<|AEg A5⟩)
 have rB:∀b∈fp,(upd H s.heap.objs.size<|.lst []) b=none:=λb hb=>by rw[Av<|AEA<|N4 b hb];exact(f b hb).1
 have Xp:∀{H':Hp},(∀b∈fp,H' b=none)->∀b∈fp,GA (B7 X Nb scope H2.objs.size s H fp AB) [] H' b:=λhn b hb=>by
  refine⟨hn b hb,(ok.QV b hb).1,ok.Nl b hb,.inl hb,(ok.QV b hb).2,λp hp=>?_⟩;have Es:p∈X.pn++AB:=by have:p∈(X.pn++AB) ++ []:=hp;simpa using this
  exact(f b hb).2.2.2.2.2 p Es
 have tG:∀b∈fp,(b∈X.ex\/X.Cm.heap.objs.size<=b)/\b≠X.env.locals/\(∀x c,X.env.cells.lookup x=some c->c≠b)/\∀p∈X.pn++AB,p.1≠b:=λb hb=>by obtain⟨_,f1,_,f3,f4,f5⟩:=f b hb;exact⟨f3,f1,f4,f5⟩
 have Y:∀tk:Nat,codeAny (model X.prog X.w) X.A (.compLoop (.ListComp elt [⟨tg,iter,ifs,0⟩] scope pos) 0 (.ref it) (.ref s.heap.objs.size)<|compEnvC scope (cellsFrom (H2.objs.size+1) scope.names []++Dm X.env.cells scope.names []) H2.objs.size X.env) (RR (.ref s.heap.objs.size) H2.objs.size) {s with heap:=Ji,toks:=tk}:=λtk=>by
  refine o9 (λn s'=>∃i G H',Inv (B7 X Nb scope H2.objs.size s H fp AB) [] G H' s'/\tn i s'.heap/\(∀b∈fp,H' b=none)/\W i n G H') ?_ m0 ⟨0,_,_,Ib tk,T.keep _ _ _ st λb _ o e=>q b o e,rB,w0⟩;rintro n s3 ⟨i,t,H3,I3,BR,Np,w3⟩;rcases turn i n t H3 w3 with⟨stop,qn⟩|⟨go,N,hN,step⟩
  .refine Af (T.done (B7 X Nb scope H2.objs.size s H fp AB) rfl rfl rfl hc i [] s3 t H3 _ I3 (Xp Np) BR stop) ?_;rintro r s4 ⟨hr,R⟩;subst hr;obtain⟨m4,uI,_⟩:=R.loc;exact sJ _ _ s4 H3 m4 (I.oJ R.os R.base R.AX R.bare tG) uI (fC R.free) qn
  .refine Af (T.item (B7 X Nb scope H2.objs.size s H fp AB) rfl rfl rfl hc i [] s3 t H3 _ I3 (Xp Np) BR go) ?_;rintro r s4 ⟨u,hr,h4⟩;subst hr;refine Af h4 ?_;rintro _ s5 ⟨x,H5,I5,r5,y5,CV,VJ⟩;have Tr:=I5.pinned (Xp VJ)<|T.obj _ _ CV;refine Af (hg H2.objs.size s H fp AB _ s5 t H5 x u _ Tr r5<|step x H5 y5) ?_;rintro _ s6 ⟨Mr,H6,I6,q6⟩;refine Af (ht H2.objs.size s H fp AB _ s6 Mr H6 _ I6 q6) ?_;rintro b s7 ⟨H7,I7,q7⟩;have Z:∀{S:St}{P:Hp}{B:Shared},Inv (B7 X Nb scope H2.objs.size s H fp AB) ([]++Ov fp s5.heap) S P B->N S P->∃m,m<n/\∃i G H',Inv (B7 X Nb scope H2.objs.size s H fp AB) [] G H' B/\tn i B.heap/\(∀b∈fp,H' b=none)/\W i m G H':=λ{S P B} U n8=>by obtain⟨m',hm,w8⟩:=hN S P n8;refine⟨m',hm,i+1,S,P,U.S3,T.keep _ _ _ CV λb hb o e=>(U.pin (b,o)<|AEn _<|AEn _<|Rg hb e).1,λb hb=>?_,w8⟩;obtain⟨o,e,d⟩:=T.obj _ _ CV b hb;exact(U.pin (b,o)<|AEn _<|AEn _<|Rg hb e).2.1
   cases b with
   |false=>
    exact Z I7 q7
   |true=>
    refine Af (he H2.objs.size s H fp AB _ s7 Mr H7 _ I7 q7) ?_;rintro y B ⟨v,P,U,r8,ys,e8,z8,n8⟩;refine Af (Wl _ B Mr P (.ref s.heap.objs.size) [v] (.ref s.heap.objs.size) [y] (λ_ H9=>N Mr H9) U rfl (.cons r8 .nil) ⟨_,ys,v,rfl,rfl,e8,z8,n8⟩) (by rintro _ s9 ⟨_,H9,I9,_,n9⟩;exact Z I9 n9)
 refine codeAny_compStart_list (Y _) ?_;exact T.self _ 0 _ _ _ (T.keep _ _ _ st λb _ o e=>q b o e)<|Y _
def Ss(own:Nat)(cap:List Nat)(wi:TI)(g:TG)(ti:TT)(te:TE):TE:=λσ H Q=>wi σ H λADh y=>ke own cap g ti te ADh σ y Q
theorem i9(hc:X.calm=true)(O:F9 X scope Nb own cap)(hi:PI X tg iter wi)(v:∀C s H fp AB,PG (B7 X Nb scope C s H fp AB) tg g)(u:∀C s H fp AB,Gx (B7 X Nb scope C s H fp AB) ifs ti)(he:∀C s H fp AB,PE (B7 X Nb scope C s H fp AB) elt te) (hs:∀x,foldedSetIterable iter X.env x=pure x:=by intro _;rfl):PE X (.ListComp elt [⟨tg,iter,ifs,0⟩] scope pos)<|Ss own cap wi g ti te:=by intro AB s σ H Q I h;refine wpAny_comprehension_free rfl hs (ZA λy Z Y=>I.ok.has _<|O.free y Z Y) O.kind O.loc<|Af (hi AB s σ H _ I h) λxv s1 P=>Af P λQ6 s2 F=>?_;obtain⟨it,fp,tn,ADh,H2,rfl,R,T,B,f2,G⟩:=F;refine ZI hc O v u he R T B f2 G λD C s' H' m S hn fC q=>?_;refine⟨m,hn,λh' E=>⟨.ref D,H',S.turned (λb o hb e=>E.extBut b o hb e) fC.1 fC.2.1 fC.2.2.2.1 fC.2.2.2.2.1 fC.2.2.2.2.2,rfl,q⟩⟩
theorem zG{y:Str}{u Z:Pos}{i:Nat}(Y:X.N.Nodup)(Q:X.N[i]? = some y)(P:Loc X.env.scope y)(hc:X.calm=true)(O:F9 X scope Nb own cap)(hi:PI X tg iter wi)(F:∀C s H fp AB,PG (B7 X Nb scope C s H fp AB) tg g)(R:∀C s H fp AB,Gx (B7 X Nb scope C s H fp AB) ifs ti)(he:∀C s H fp AB,PE (B7 X Nb scope C s H fp AB) elt te) (B:swapsWith (.ListComp elt [⟨tg,iter,ifs,0⟩] scope pos) (some<|.Name y u) Z.line X.env=pure true:=by rfl) (hs:∀x,foldedSetIterable iter X.env x=pure x:=by intro _;rfl) (G:X.fn y=true\/X.env.scope.names.lookup y=some .local:=by first|exact .inl rfl|exact .inr rfl|assumption) : PS X (.Assign [.Name y u] (.ListComp elt [⟨tg,iter,ifs,0⟩] scope pos) Z)<|Mf (Ss own cap wi g ti te)<|KY i:=by
 intro AB s σ H D I h;rw[exec_Assign_Name_used _ _ _ _ B];refine wpAny_bind<|wpAny_standAt<|wpAny_bind ?_;refine wpAny_bind (wpAny_mono (wpAny_comprehension_free rfl hs (ZA λy S E=>I.ok.has _<|O.free y S E) O.kind O.loc
  (Af (hi AB s σ H _ I h) λxv s1 U=>Af U λQ6 s2 n=>?_)) (λ_ s' t=>wpAny_pure<|wpAny_pure t) λ_ _ e=>e)
 obtain⟨it,fp,tn,ADh,H2,rfl,I2,T,BQ,f2,hW⟩:=n;refine ZI hc O F R he I2 T BQ f2 hW λD' C s' H' m I' hn fC q=>?_;refine wpAny_assign_Name<|kK I' Y Q P (v:=.ref D') rfl ?_ G;rintro SW mz ⟨a,OE,ha⟩;have rh:C≠a:=by
  rcases ha with rfl|ha
  .exact fC.2.1
  .exact AFH<|fC.2.2.2.2.1 y a ha
 refine⟨m,hn.sameBut OE rh,λh' IV=>?_⟩;exact⟨_,H',mz.turned (λb o hb e=>IV.extBut b o hb e) fC.1 fC.2.1 fC.2.2.2.1 fC.2.2.2.2.1 fC.2.2.2.2.2,q⟩
end
structure Fly(P:Program)(w:World)(outer:List Env)(H:Hp)(s:Shared)(ea:Addr)(cls:Value)(B:Heap)(H':Hp)(s':Shared):Prop where
 os:s'.os=s.os
 bare:AllBare s'.gens
 un:Un (En outer) [] H H' s.heap s'.heap
 AX:Bn P w H' s'.heap
 fly:∃a0,Heap.FlyingW B outer ea cls a0 s'.heap
 nw:s.heap.get? ea=none
 he:H' ea=none
 b1:∀b o,s.heap.get? b=some o->b∉En outer->∃o',B.get? b=some o'/\(H b=none->o'=o)
 b2:∀b o,(H' b).isSome=true->s'.heap.get? b=some o->B.get? b=some o
section
variable{P:Program}{w:World}{outer:List Env}{H H':Hp}{s s':Shared}{ea:Addr}{cls:Value}{B h'':Heap}
end
section
variable{X:Cx}{AB:List (Addr×Obj)}{σ:St}{H H':Hp}{s s':Shared}{ea:Addr}{cls:Value}{B h':Heap}{vs:List Value}{M:Model}
structure AC1(X:Cx):Prop where
 O5:X.stack=X.env::X.outer
 fr:X.env.frame=some X.env.locals
 ex:X.ex=[]
end
section
variable{X:Cx}{E:XK}{x:Str}{C:Addr}{bmB:List Value}{B ADd ADY:String}{np CA pos:Pos}{ADM:Expr}{rest:List Expr}{ta:TA}
end
section
variable{P:Program}{w:World}{K:PySem.W.Frag}{mg:Str->Option Value}{base:Heap}{N:List Str}{qual:Str}{scope:Scope}{f:Addr}{cd:Value}{A:Around}{outer:List Env}{s:Shared}{H:Hp}{E E':XK}
end
section
variable{X:Cx}{AB:List (Addr×Obj)}{σ:St}{H:Hp}{s:Shared}
def m7(ea C:Addr)(h:Heap):Prop:=∃o,h.get? ea=some o/\o.cls=.ref C
end
section
variable{X:Cx}{body ABe:List Stmt}{oH:Stmt}{x n:Str}{np uS pos:Pos}{Wc:Addr}{i:Nat}{tb:XK->TS}{ts:TS}
end
open PySem PySem.Spec PyProof.Rows PySem.W PySem.Builtin PySem.Builtin.ObjectAttr PySem.Builtin.Getset_descriptor
section
variable{K:Frag}{x D:Addr}{M:Model}{h:Heap}{prog:Program}{w:World}{A:Around}{E:Value->Shared->Prop}{s:Shared}
structure ACz(K:Frag)(D:Addr):Prop where
 ga:findIn K (.ref D) "__getattribute__" = some (some<|.builtin "BaseException.__getattribute__")
 gn:findIn K (.ref D) "__getattr__" = some none
 cl:findIn K (.ref D) "__class__" = some (some<|.builtin "object.__class__")
 sp:specialIn K (.builtin "object.__class__") "__get__" = some (some<|.builtin "getset_descriptor.__get__")
 tk:takesIn K (.builtin "object.__class__")=some true
 mr:mroIn K D (.type "object")=some true
 mb:mroIn K D (.type "BaseException")=some true
 hd:hasDictIn K D=true
end
structure nC(k:Nat)(A:Around):Prop where
 dp:A.depth+3*k+5<recursionLimit
 un:A.units+16*k+200<cLine
structure AC0(P:Program)(w:World)(K:PySem.W.Frag)(mg:Str->Option Value)(base:Heap)(k:Nat)(f:Addr)(fd:FuncData)(ps:List Str)(sp:List V->Hp->VK->Prop):Prop where
 len:∀vs H Q,sp vs H Q->vs.length=ps.length
 run:∀(A:Around)(outer:List Env)(s:Shared)(H:Hp)(args:Args)(us:List Value)(vs:List V)(Q:VK),nC k A->Mv P w K mg base A outer s H->BindsTo s fd args (ps.zip us)->An vs us->sp vs H Q->codeAny (model P w) A (.call (.ref f) args) (λr s'=>match r with|.ok (.ret u)=>CE outer P w H s Q u s'|_=>False) s
section
variable{X:Cx}{k:Nat}{f:Addr}{fd:FuncData}{ps:List Str}{sp:List V->Hp->VK->Prop}{x:Str}{p pos:Pos}{e:Expr}{es:List Expr}{t:TA}
end
end L2
set_option genInjectivity false
set_option genSizeOf false
namespace L2.PL
set_option tactic.hygienic true
open PySem PySem.Spec PyProof.Rows
inductive PV where
 |Aw|bl (b:Bool)|int (i:Int)|str (x:Str)|tup (xs:List PV)|lst (xs:List PV)
 |rd (xs:List PV)
 |By (ks:List<|List Int) (xs:List PV)
inductive RV where
 |cl (p:PV)|bo (ps:List PV)|fr (ps:List PV)
 |bd (ks:List<|List Int) (xs:List PV)|fd (ks:List<|List Int) (xs:List PV)
 |tf (p:PV) (ps:List PV)
inductive SV where
 |im (p:PV)|own (ps:List PV)
 |Cj (t:Option Addr) (ks:List<|List Int) (xs:List PV)
 |K4 (AI:List<|Int×Int)
 |exc (nm:Str)
abbrev AS:=List<|Option SV
noncomputable def CL(k:List Int):List Key:=k.map Sum.inl
mutual
def Rep(K:W.Frag)(H:Hp):PV->V->Prop
 |.Aw,v=>v=.Aw
 |.bl b,v=>v=.bl b
 |.int i,v=>v=.int i
 |.str x,v=>v=.str x
 |.tup xs,v=>∃a vs,v=.ref a/\BS K H a vs/\AQ K H xs vs
 |.lst xs,v=>∃a vs,v=.ref a/\Rd H a (.lst vs)/\AQ K H xs vs
 |.rd xs,v=>∃a vs,v=.ref a/\B6 K H a vs/\AQ K H xs vs
 |.By ks xs,v=>∃a AI,v=.ref a/\Rd H a (.dT AI)/\AI.map (·.1)=ks.map CL/\AQ K H xs (AI.map (·.2))
def AQ(K:W.Frag)(H:Hp):List PV->List V->Prop
 |[],vs=>vs=[]
 |x::xs,vs=>∃v r,vs=v::r/\Rep K H x v/\AQ K H xs r
end
theorem Rd.same{H H':Hp}{a:Addr}{o:HO}(s:AY H H')(h:Rd H a o):Rd H' a o:=by
 rcases h with h|⟨y,h⟩
 .exact .inl<|s _ _ h
 .exact .inr ⟨y,s _ _ h⟩
def Vw(H H':Hp):Prop:=∀b u,(∀o w,u≠.BK o w)->Rd H b u->Rd H' b u
theorem Vw.tup{K:W.Frag}{H H':Hp}{a:Addr}{xs:List V}(s:Vw H H')(h:BS K H a xs):BS K H' a xs:=h.imp (s _ _ λ_ _ z=>nomatch z) id
mutual
theorem Rep.vw{K:W.Frag}{H H':Hp}(s:Vw H H'):∀{p:PV}{v:V},Rep K H p v->Rep K H' p v
 |.Aw,_,h=>h
 |.bl _,_,h=>h
 |.int _,_,h=>h
 |.str _,_,h=>h
 |.tup _,_,h=>by unfold Rep at h ⊢;obtain⟨a,vs,e,q,r⟩:=h;exact⟨a,vs,e,s.tup q,AQ.vw s r⟩
 |.lst _,_,h=>by unfold Rep at h ⊢;obtain⟨a,vs,e,q,r⟩:=h;exact⟨a,vs,e,s _ _ (λ_ _ z=>nomatch z) q,AQ.vw s r⟩
 |.rd _,_,h=>by unfold Rep at h ⊢;obtain⟨a,vs,e,q,r⟩:=h;exact⟨a,vs,e,q.imp (s _ _ λ_ _ z=>nomatch z) id,AQ.vw s r⟩
 |.By _ _,_,h=>by unfold Rep at h ⊢;obtain⟨a,vs,e,q,k,r⟩:=h;exact⟨a,vs,e,s _ _ (λ_ _ z=>nomatch z) q,k,AQ.vw s r⟩
theorem AQ.vw{K:W.Frag}{H H':Hp}(s:Vw H H'):∀{ps:List PV}{vs:List V},AQ K H ps vs->AQ K H' ps vs
 |[],_,h=>h
 |_::_,_,h=>by unfold AQ at h ⊢;obtain⟨v,r,e,q,t⟩:=h;exact⟨v,r,e,Rep.vw s q,AQ.vw s t⟩
end
theorem AY.vw{H H':Hp}(s:AY H H'):Vw H H':=λ_ _ _=>Rd.same s
theorem BS.same{K:W.Frag}{H H':Hp}{a:Addr}{xs:List V}(s:AY H H')(h:BS K H a xs):BS K H' a xs:=Vw.tup (AY.vw s) h
theorem Rep.same{K:W.Frag}{H H':Hp}(s:AY H H'){p:PV}{v:V}(h:Rep K H p v):Rep K H' p v:=Rep.vw (AY.vw s) h
theorem AQ.same{K:W.Frag}{H H':Hp}(s:AY H H'){ps:List PV}{vs:List V}(h:AQ K H ps vs):AQ K H' ps vs:=AQ.vw (AY.vw s) h
set_option tactic.hygienic false
theorem AQ.paired{K:W.Frag}{H:Hp}:∀{ps:List PV}{vs:List V},AQ K H ps vs->Paired (Rep K H) ps vs
 |[],_,h=>by subst h;exact .nil
 |_::_,_,h=>by obtain⟨v,r,e,q,t⟩:=h;subst e;exact .cons q<|AQ.paired t
theorem AQ.of{K:W.Frag}{H:Hp}:∀{ps:List PV}{vs:List V},Paired (Rep K H) ps vs->AQ K H ps vs:=by
 intro ps vs h
 induction h with
 |nil=>rfl
 |cons q t ih=>exact⟨_,_,rfl,q,ih⟩
section
variable{α β:Type}{F:α->β->Prop}
theorem K6:∀{xs:List α}{us:List β}{i:Nat}{x:α},Paired F xs us->xs[i]? = some x->∃u,us[i]? = some u/\F x u:=by
 intro xs us i x h
 induction h generalizing i with
 |nil=>intro e;contradiction
 |cons r t ih=>
  intro e;cases i with
  |zero=>cases e;exact⟨_,rfl,r⟩
  |succ i=>exact ih e
theorem ic:∀{xs:List α}{us:List β}{i:Nat}{u:β},Paired F xs us->us[i]? = some u->∃x,xs[i]? = some x/\F x u:=by
 intro xs us i x h
 induction h generalizing i with
 |nil=>intro e;contradiction
 |cons r t ih=>
  intro e;cases i with
  |zero=>cases e;exact⟨_,rfl,r⟩
  |succ i=>exact ih e
theorem K5:∀{xs ys:List α}{us ws:List β},Paired F xs us->Paired F ys ws->Paired F (xs++ys) (us++ws):=by
 intro xs ys us ws h s
 induction h with
 |nil=>exact s
 |cons r t ih=>exact .cons r ih
theorem yH:∀{xs:List α}{us:List β}(n:Nat),Paired F xs us->Paired F (xs.take n) (us.take n):=by
 intro xs us n h
 induction h generalizing n with
 |nil=>cases n<;>exact .nil
 |cons r t ih=>
  cases n with
  |zero=>exact .nil
  |succ n=>exact .cons r<|ih n
theorem iZ:∀{xs:List α}{us:List β}(n:Nat),Paired F xs us->Paired F (xs.drop n) (us.drop n)
 |_,_,0,r=>r
 |_,_,_+1,.nil=>.nil
 |_,_,n+1,.cons _ t=>iZ n t
theorem yG{xs:List α}{us:List β}(h:Paired F xs us):Paired F xs.reverse us.reverse:=by
 induction h with
 |nil=>exact .nil
 |cons r t ih=>simp only[AHC,AHC];exact K5 ih<|.cons r .nil
end
inductive Mu(H:Hp)(a:Addr):Prop
 |l {xs:List V} (h:H a=some (.lst xs)):Mu H a
 |d {AI:List (List Key×V)} (h:H a=some (.dT AI)):Mu H a
 |k {AI:List (Key×V)} (h:H a=some (.dK AI)):Mu H a
 |f {o:Obj} {xs:List V} (h:H a=some (.BK o<|.lst xs)):Mu H a
theorem Mu.same{H H':Hp}{a:Addr}(s:AY H H'):Mu H a->Mu H' a
 |.l h=>.l<|s _ _ h
 |.d h=>.d<|s _ _ h
 |.k h=>.k<|s _ _ h
 |.f h=>.f<|s _ _ h
theorem Mu.get{H:Hp}{a:Addr}:Mu H a->∃o,H a=some o
 |.l h=>⟨_,h⟩
 |.d h=>⟨_,h⟩
 |.k h=>⟨_,h⟩
 |.f h=>⟨_,h⟩
structure Al(G H G' H':Hp):Prop where
 gg:AY G G'
 hh:AY H H'
 sub:AY G' H'
 ex:∀a,Mu H a->G a=none->G' a=none
theorem Al.refl{G H:Hp}(h:AY G H):Al G H G H:=⟨AY.refl _,AY.refl _,h,λ_ _ n=>n⟩
theorem Al.trans{G H y q v u:Hp}(a:Al G H y q)(b:Al y q v u):Al G H v u:=
 ⟨a.gg.trans b.gg,a.hh.trans b.hh,b.sub,λc h n=>b.ex c (h.same a.hh)<|a.ex c h n⟩
noncomputable def Ep(G' H H':Hp):Hp:=λa=>match G' a with|some o=>some o|none=>match H a with|some _=>none|none=>H' a
theorem KZ{G' H H':Hp}:AY G'<|Ep G' H H':=λa o h=>by unfold Ep;rw[h]
theorem VP{G' H H':Hp}{a:Addr}{o:HO}(s:AY G' H')(h:H a=none)(h':H' a=some o):Ep G' H H' a=some o:=by
 unfold Ep;cases e:G' a with
 |some o'=>rw[s _ _ e]at h';exact h'
 |none=>rw[h];exact h'
theorem Al.all{G H G' H':Hp}(s:Al G H G' H'):Al G H (Ep G' H H') H':=by
 refine⟨s.gg.trans KZ,s.hh,λa o h=>?_,λa h n=>?_⟩
 .unfold Ep at h;cases e:G' a with
  |some o'=>rw[e]at h;cases h;exact s.sub _ _ e
  |none=>
   rw[e]at h;cases y:H a with
   |some _=>rw[y]at h;contradiction
   |none=>rw[y]at h;exact h
 .unfold Ep;obtain⟨o,ho⟩:=h.get;rw[s.ex a h n,ho]
theorem Al.new{G H:Hp}(s:AY G H){a:Addr}(o:HO)(h:H a=none):Al G H (upd G a o)<|upd H a o:=by
 have g:=s.free h;refine⟨λb u q=>by rw[Av<|Dv q g];exact q,λb u q=>by rw[Av<|Dv q h];exact q,λb u q=>?_,λb q n=>?_⟩
 .by_cases e:b=a
  .subst e;rw[Bu]at q ⊢;exact q
  .rw[Av e]at q ⊢;exact s _ _ q
 .obtain⟨o,ho⟩:=q.get;rw[Av<|Dv ho h];exact n
theorem Al.Gi{G H:Hp}(s:AY G H){a:Addr}(o:HO)(h:H a=none):Al G H G<|upd H a o:=by have g:=s.free h;exact⟨AY.refl _,λb u q=>by rw[Av<|Dv q h];exact q,λb u q=>by rw[Av<|Dv q g];exact s _ _ q,λ_ _ n=>n⟩
def Bo(K:W.Frag)(H G' H':Hp):RV->V->Prop
 |.cl p,v=>Rep K G' p v
 |.bo ps,v=>∃a vs,v=.ref a/\G' a=none/\H' a=some (.lst vs)/\AQ K G' ps vs
 |.fr ps,v=>∃a vs,v=.ref a/\H a=none/\G' a=none/\H' a=some (.lst vs)/\AQ K G' ps vs
 |.bd ks xs,v=>∃a AI,v=.ref a/\G' a=none/\H' a=some (.dT AI)/\AI.map (·.1)=ks.map CL/\AQ K G' xs (AI.map (·.2))
 |.fd ks xs,v=>∃a AI,v=.ref a/\H a=none/\G' a=none/\H' a=some (.dT AI)/\AI.map (·.1)=ks.map CL/\AQ K G' xs (AI.map (·.2))
 |.tf p ps,v=>∃a l x vs,v=.ref a/\BS K G' a [x,.ref l]/\Rep K G' p x/\H l=none/\G' l=none/\H' l=some (.lst vs)/\AQ K G' ps vs
theorem Bo.step{K:W.Frag}{H y u Z Y:Hp}{r:RV}{v:V}(s:Al y u Z Y)(h:Bo K H y u r v):Bo K H Z Y r v:=by
 cases r with
 |cl p=>exact Rep.same s.gg h
 |bo ps=>
  obtain⟨a,vs,e,g,q,r⟩:=h;exact⟨a,vs,e,s.ex a (.l q) g,s.hh _ _ q,AQ.same s.gg r⟩
 |fr ps=>
  obtain⟨a,vs,e,n,g,q,r⟩:=h;exact⟨a,vs,e,n,s.ex a (.l q) g,s.hh _ _ q,AQ.same s.gg r⟩
 |bd ks xs=>
  obtain⟨a,vs,e,g,q,k,r⟩:=h;exact⟨a,vs,e,s.ex a (.d q) g,s.hh _ _ q,k,AQ.same s.gg r⟩
 |fd ks xs=>
  obtain⟨a,vs,e,n,g,q,k,r⟩:=h;exact⟨a,vs,e,n,s.ex a (.d q) g,s.hh _ _ q,k,AQ.same s.gg r⟩
 |tf p ps=>
  obtain⟨a,l,x,vs,e,t,Q,n,g,q,r⟩:=h;exact⟨a,l,x,vs,e,BS.same s.gg t,Rep.same s.gg Q,n,s.ex l (.l q) g,s.hh _ _ q,AQ.same s.gg r⟩
theorem Bo.back{K:W.Frag}{y H G' H':Hp}{r:RV}{v:V}(s:AY y H)(h:Bo K H G' H' r v):Bo K y G' H' r v:=by
 cases r with
 |cl p=>exact h
 |bo ps=>exact h
 |fr ps=>
  obtain⟨a,vs,e,n,g,q,r⟩:=h;exact⟨a,vs,e,s.free n,g,q,r⟩
 |bd ks xs=>exact h
 |fd ks xs=>
  obtain⟨a,vs,e,n,g,q,r⟩:=h;exact⟨a,vs,e,s.free n,g,q,r⟩
 |tf p ps=>
  obtain⟨a,l,x,vs,e,t,u,n,q⟩:=h;exact⟨a,l,x,vs,e,t,u,s.free n,q⟩
noncomputable def RV.list:RV->Option (List PV)
 |.cl (.lst ps)=>some ps
 |.bo ps=>some ps
 |.fr ps=>some ps
 |_=>none
theorem Bo.list{K:W.Frag}{H G' H':Hp}{r:RV}{v:V}{ps:List PV}(sub:AY G' H')(h:Bo K H G' H' r v)(e:r.list=some ps):∃a vs,v=.ref a/\Rd H' a (.lst vs)/\AQ K G' ps vs:=by
 cases r with
 |cl p=>
  cases p with
  |lst qs=>
   simp only[RV.list,AEi]at e;subst e;have h':=h;obtain⟨a,vs,e,q,r⟩:=h';exact⟨a,vs,e,Rd.same sub q,r⟩
  |_=>simp[RV.list]at e
 |bo qs=>
  simp only[RV.list,AEi]at e;subst e;obtain⟨a,vs,e,g,q,r⟩:=h;exact⟨a,vs,e,.inl q,r⟩
 |fr qs=>
  simp only[RV.list,AEi]at e;subst e;obtain⟨a,vs,e,n,g,q,r⟩:=h;exact⟨a,vs,e,.inl q,r⟩
 |bd ks xs=>simp[RV.list]at e
 |fd ks xs=>simp[RV.list]at e
 |tf p ps=>simp[RV.list]at e
noncomputable def RV.clean:RV->Option PV
 |.cl p=>some p
 |.fr ps=>some<|.lst ps
 |.fd ks xs=>some<|.By ks xs
 |.tf p ps=>some<|.tup [p,.lst ps]
 |.bo _=>none
 |.bd _ _=>none
theorem Bo.clean{K:W.Frag}{H G' H':Hp}{r:RV}{v:V}{p:PV}(sub:AY G' H')(h:Bo K H G' H' r v)(e:r.clean=some p):Rep K (Ep G' H H') p v:=by
 cases r with
 |cl q=>
  simp only[RV.clean,AEi]at e;subst e;exact Rep.same KZ h
 |bo qs=>simp[RV.clean]at e
 |fr qs=>
  simp only[RV.clean,AEi]at e;subst e;obtain⟨a,vs,e,n,g,q,r⟩:=h;exact⟨a,vs,e,.inl<|VP sub n q,AQ.same KZ r⟩
 |bd ks xs=>simp[RV.clean]at e
 |fd ks xs=>
  simp only[RV.clean,AEi]at e;subst e;obtain⟨a,vs,e,n,g,q,k,r⟩:=h;exact⟨a,vs,e,.inl<|VP sub n q,k,AQ.same KZ r⟩
 |tf p ps=>
  simp only[RV.clean,AEi]at e;subst e;obtain⟨a,l,x,vs,e,t,y,n,g,q,r⟩:=h;refine⟨a,_,e,BS.same KZ t,?_⟩;have z:Rep K (Ep G' H H') (.lst ps)<|.ref l:=by exact⟨l,vs,rfl,.inl<|VP sub n q,AQ.same KZ r⟩
  exact⟨_,_,rfl,Rep.same KZ y,_,_,rfl,z,rfl⟩
def mC(K:W.Frag)(nm:Str)(C:Addr):Prop:=W.nsIn K mainGlobals nm=some (some<|.ref C)
noncomputable def vn(p:Int×Int):Key×V:=(.inl p.1,.int p.2)
def LZ(K:W.Frag)(G H:Hp):SV->V->Prop
 |.exc nm,v=>∃a C,v=.ref a/\mC K nm C/\G a=some (.ext<|m7 a C)
 |.im p,v=>Rep K G p v
 |.own ps,v=>∃a vs,v=.ref a/\G a=none/\H a=some (.lst vs)/\AQ K G ps vs
 |.Cj t ks xs,v=>∃a AI,v=.ref a/\G a=none/\H a=some (.dT AI)/\AI.map (·.1)=ks.map CL/\AQ K G xs (AI.map (·.2))/\∀b,t=some b->a=b
 |.K4 AI,v=>∃a,v=.ref a/\G a=none/\H a=some (.dK<|AI.map vn)
theorem LZ.step{K:W.Frag}{G H G' H':Hp}{sv:SV}{v:V}(s:Al G H G' H')(h:LZ K G H sv v):LZ K G' H' sv v:=by
 cases sv with
 |exc nm=>
  obtain⟨a,C,e,n,q⟩:=h;exact⟨a,C,e,n,s.gg _ _ q⟩
 |im p=>exact Rep.same s.gg h
 |own ps=>
  obtain⟨a,vs,e,g,q,r⟩:=h;exact⟨a,vs,e,s.ex a (.l q) g,s.hh _ _ q,AQ.same s.gg r⟩
 |Cj t ks xs=>
  obtain⟨a,vs,e,g,q,k,r,z⟩:=h;exact⟨a,vs,e,s.ex a (.d q) g,s.hh _ _ q,k,AQ.same s.gg r,z⟩
 |K4 AI=>
  obtain⟨a,e,g,q⟩:=h;exact⟨a,e,s.ex a (.k q) g,s.hh _ _ q⟩
noncomputable def SV.Fu:SV->Bool
 |.own _=>true
 |.Cj _ _ _=>true
 |.K4 _=>true
 |_=>false
structure BW(K:W.Frag)(G H:Hp)(ρ:AS)(σ:St):Prop where
 sub:AY G H
 slot:∀(i:Nat)(sv:SV),ρ[i]? = some (some sv)->∃v,σ[i]? = some (some v)/\LZ K G H sv v
 apart:∀(i j:Nat)(s t:SV)(a b:Addr),i≠j->ρ[i]? = some (some s)->s.Fu=true->ρ[j]? = some (some t)->t.Fu=true->σ[i]? = some (some<|.ref a)->σ[j]? = some (some<|.ref b)->a≠b
 len:ρ.length=σ.length
theorem BW.step{K:W.Frag}{G H G' H':Hp}{ρ:AS}{σ:St}(s:Al G H G' H')(h:BW K G H ρ σ):BW K G' H' ρ σ:=
 ⟨s.sub,λi sv e=>let ⟨v,e1,q⟩:=h.slot i sv e;⟨v,e1,q.step s⟩,h.apart,h.len⟩
set_option tactic.hygienic true
abbrev EF:=AS->Option RV
def tX(K:W.Frag)(f:EF):TE:=λσ H Q=>∃G ρ r,BW K G H ρ σ/\f ρ=some r/\∀v G' H',Al G H G' H'->Bo K H G' H' r v->Q v H'
def PX(X:Cx)(e:Expr)(f:EF):Prop:=PE X e<|tX X.K f
abbrev BF:=AS->Option Bool
def EY(K:W.Frag)(f:BF):TT:=λσ H Q=>∃G ρ b,BW K G H ρ σ/\f ρ=some b/\∀G' H',Al G H G' H'->Q b H'
def C6(X:Cx)(e:Expr)(f:BF):Prop:=PT X e<|EY X.K f
def Hu(X:Cx)(e:Expr)(f:BF):Prop:=PW X e<|EY X.K f
abbrev AF:=AS->Option (List RV)
def Dl(K:W.Frag)(H G' H':Hp):List RV->List V->Prop:=Paired<|Bo K H G' H'
def Sw(K:W.Frag)(f:AF):TA:=λσ H Q=>∃G ρ rs,BW K G H ρ σ/\f ρ=some rs/\∀vs G' H',Al G H G' H'->Dl K H G' H' rs vs->Q vs H'
def Co(X:Cx)(es:List Expr)(f:AF):Prop:=PA X es<|Sw X.K f
theorem PE.imp{X:Cx}{e:Expr}{t t':TE}(h:PE X e t)(i:∀σ H Q,t' σ H Q->t σ H Q):PE X e t':=λAB s σ H Q I q=>h AB s σ H Q I<|i σ H Q q
theorem PT.imp{X:Cx}{e:Expr}{t t':TT}(h:PT X e t)(i:∀σ H Q,t' σ H Q->t σ H Q):PT X e t':=λAB s σ H Q I q=>h AB s σ H Q I<|i σ H Q q
theorem PW.imp{X:Cx}{e:Expr}{t t':TT}(h:PW X e t)(i:∀σ H Q,t' σ H Q->t σ H Q):PW X e t':=λy AB s σ H Q I q=>h y AB s σ H Q I<|i σ H Q q
theorem PA.imp{X:Cx}{es:List Expr}{t t':TA}(h:PA X es t)(i:∀σ H Q,t' σ H Q->t σ H Q):PA X es t':=λpos AB s σ H Q I q=>h pos AB s σ H Q I<|i σ H Q q
theorem PS.imp{X:Cx}{st:Stmt}{t t':TS}(h:PS X st t)(i:∀D σ H,t' D σ H->t D σ H):PS X st t':=λAB s σ H D I q=>h AB s σ H D I<|i D σ H q
theorem C5.imp{X:Cx}{st:List Stmt}{t t':TS}(h:C5 X st t)(i:∀D σ H,t' D σ H->t D σ H):C5 X st t':=λAB s σ H D I q=>h AB s σ H D I<|i D σ H q
noncomputable def AD(i:Nat):EF:=λρ=>match ρ[i]? with|some (some<|.im p)=>some (.cl p)|some (some<|.own ps)=>some (.bo ps)|some (some<|.Cj _ ks xs)=>some (.bd ks xs)|_=>none
noncomputable def fC(p:PV):EF:=λ_=>some<|.cl p
section
variable{X:Cx}{a b c e:Expr}{es:List Expr}{fa fb fc f:EF}{pos:Pos}
theorem AAK(i:Nat){x:Str}{pos:Pos}(Z:X.N[i]? = some x)(Y:FG X.env.scope x)(hd:(x==("__debug__"))=false) (O:(x==("__classdict__"))=false):PX X (.Name x pos)<|AD i:=by
 refine PE.imp (He Z Y hd O) ?_;rintro σ H Q ⟨G,ρ,r,R,e,q⟩;unfold AD at e;split at e
 .rename_i p hp;cases e;obtain⟨v,y,u⟩:=R.slot i _ hp;exact⟨v,y,q v G H (Al.refl R.sub) u⟩
 .rename_i ps hp;cases e;obtain⟨v,y,u⟩:=R.slot i _ hp;exact⟨v,y,q v G H (Al.refl R.sub) u⟩
 .rename_i ks xs hp;cases e;obtain⟨v,y,a,vs,e,g,w,k,r,_⟩:=R.slot i _ hp;exact⟨v,y,q v G H (Al.refl R.sub) ⟨a,vs,e,g,w,k,r⟩⟩
 .contradiction
set_option tactic.hygienic false
theorem Oz{v:V}{p:PV}(h:PE X e<|tC v)(y:∀G,Rep X.K G p v):PX X e<|fC p:=
 PE.imp h (by rintro σ H Q ⟨G,ρ,r,R,e,q⟩;cases e;exact q v G H (Al.refl R.sub)<|y G)
theorem zq{i:Int}{j}{pos}:PX X (.Constant (.int i) j pos)<|fC<|.int i:=Oz W8 λ_=>by rfl
theorem zZ{i:Bool}{j}{pos}:PX X (.Constant (.bool i) j pos)<|fC<|.bl i:=Oz yM λ_=>by rfl
theorem AAG{i:Str}{j}{pos}:PX X (.Constant (.str i) j pos)<|fC<|.str i:=Oz yd λ_=>by rfl
noncomputable def f2(k:RV->RV->Option RV)(fa fb:EF):EF:=λρ=>match fa ρ with|none=>none|some x=>match fb ρ with|none=>none|some y=>k x y
def DY(K:W.Frag)(k:RV->RV->Option RV)(r:R2):Prop:=
 ∀(x y z:RV)(q G H:Hp)(u Z:V)(Q:VK),AY G H->AY q H->k x y=some z->Bo K q G H x u->Bo K q G H y Z->(∀v G' H',Al G H G' H'->Bo K q G' H' z v->Q v H')->r u Z H Q
theorem Sv{K:W.Frag}{k:RV->RV->Option RV}{r:R2}(Z:DY K k r){σ:St}{H:Hp}{Q:VK}(h:tX K (f2 k fa fb) σ H Q):Mg r (tX K fa) (tX K fb) σ H Q:=by
 obtain⟨G,ρ,z,R,e,q⟩:=h;unfold f2 at e;cases ea:fa ρ with
 |none=>rw[ea]at e;contradiction
 |some x=>
  rw[ea]at e;cases u:fb ρ with
  |none=>rw[u]at e;contradiction
  |some y=>
   rw[u]at e;refine⟨G,ρ,x,R,ea,λY O H1 s1 P=>⟨O,ρ,y,R.step s1,u,λD F B s2 S=>?_⟩⟩;exact Z x y z H F B Y D Q s2.sub (s1.hh.trans s2.hh) e (P.step s2) (S.back s1.hh) λv G' H' T C=>q v G' H' ((s1.trans s2).trans T) C
theorem O0{op:Operator}{k:RV->RV->Option RV}{r:R2}(ho:BZ X (binaryOp op) r)(y:DY X.K k r)(ha:PX X a fa)(hb:PX X b fb):PX X (.BinOp a op b pos)<|f2 k fa fb:=
 PE.imp (yY ho ha hb) λ_ _ _ h=>Sv y h
def scalar:V->PV->Prop
 |.int i,.int j=>i=j
 |.bl i,.bl j=>i=j
 |.str i,.str j=>i=j
 |.Aw,.Aw=>True
 |_,_=>False
theorem scalar.rep{K:W.Frag}{G:Hp}{v:V}{p:PV}(h:scalar v p):Rep K G p v:=by cases v<;>cases p<;>simp only[scalar]at h<;>first|exact h.elim|(subst h;rfl)|(rfl)
set_option tactic.hygienic true
theorem Bo.int{K:W.Frag}{y G H:Hp}{i:Int}{v:V}(h:Bo K y G H (.cl<|.int i) v):v=.int i:=by have h':=h;exact h'
theorem Bo.bl{K:W.Frag}{y G H:Hp}{i:Bool}{v:V}(h:Bo K y G H (.cl<|.bl i) v):v=.bl i:=by have h':=h;exact h'
noncomputable def kI(C:Int->Int->Prop)[∀i j,Decidable<|C i j](g:Int->Int->PV):RV->RV->Option RV
 |.cl (.int i),.cl (.int j)=>if C i j then some (.cl<|g i j)else none
 |_,_=>none
theorem Wx{K:W.Frag}{C:Int->Int->Prop}[∀i j,Decidable<|C i j]{v:Int->Int->Prop}{g:Int->Int->PV}{g':Int->Int->V}(u:∀i j,C i j->v i j)(Z:∀i j,C i j->scalar (g' i j) (g i j)):DY K (kI C g)<|rI v g':=by
 intro x y z H0 G H vx vy Q sub _ e Y O q;unfold kI at e;split at e
 .rename_i i j;split at e
  .rename_i hc;cases e;exact⟨i,j,Y.int,O.int,u i j hc,q _ G H (Al.refl sub) (Z i j hc).rep⟩
  .contradiction
 .contradiction
theorem Oq{K:W.Frag}{g:Int->Int->PV}{g':Int->Int->V}(v:∀i j,scalar (g' i j)<|g i j):DY K (kI (λ_ _=>True) g)<|Iu g':=by
 intro x y z H0 G H vx vy Q sub _ e u Z q;unfold kI at e;split at e
 .rename_i i j;cases e;exact⟨i,j,u.int,Z.int,q _ G H (Al.refl sub) (v i j).rep⟩
 .contradiction
end
end L2.PL
namespace L2.PL
open PySem PySem.Spec PyProof.Rows
section
set_option tactic.hygienic true
variable{X:Cx}{a b c e:Expr}{es:List Expr}{fa fb fc f:EF}{pos:Pos}
instance{i j:Int}:Decidable<|E6 i j:=by unfold E6;infer_instance
instance{i j:Int}:Decidable<|Mt i j:=by unfold Mt;infer_instance
def BL:RV->RV->Option RV:=kI (λ_ _=>True) λi j=>.int<|i-j
def DU:RV->RV->Option RV:=kI E6 λi j=>.int<|i*j
def De:RV->RV->Option RV:=kI Mt λi j=>.int<|i / j
def BY:RV->RV->Option RV:=kI (λ_ j=>0<j) λi j=>.int<|i%j
theorem AAH(ha:PX X a fa)(hb:PX X b fb):PX X (.BinOp a .Sub b pos)<|f2 BL fa fb:=O0 xq (Oq λ_ _=>rfl) ha hb
theorem z9(ha:PX X a fa)(hb:PX X b fb):PX X (.BinOp a .Mult b pos)<|f2 DU fa fb:=O0 xm (Wx (λ_ _ h=>h) λ_ _ _=>rfl) ha hb
theorem zj(ha:PX X a fa)(hb:PX X b fb):PX X (.BinOp a .FloorDiv b pos)<|f2 De fa fb:=O0 xc (Wx (λ_ _ h=>h) λ_ _ _=>rfl) ha hb
theorem z7(ha:PX X a fa)(hb:PX X b fb):PX X (.BinOp a .Mod b pos)<|f2 BY fa fb:=O0 xl (Wx (λ_ _ h=>h) λ_ _ _=>rfl) ha hb
def XH:R2:=λx y H Q=>∃l b xs zs,x=.ref l/\y=.ref b/\Rd H l (.lst xs)/\Rd H b (.lst zs)/\xs.length+zs.length<=sizeLine/\∀p,H p=none->Q (.ref p) (upd H p<|.lst<|xs++zs)
theorem xZ:BZ X (binaryOp .Add) XH:=by
 intro AB s σ H x y v u Q I O D h;obtain⟨l,b,xs,zs,rfl,rfl,F,R,hz,q⟩:=h;cases O;cases D;obtain⟨z,its,n,r,e⟩:=F.ok I.AX;obtain⟨z2,Z,n2,Y,B⟩:=R.ok I.AX;have hl:=r.length;have HM:=Y.length;refine PySem.P.add_list e B ?_ (by rw[AD3,AD3];lia);have ea:its.toArray++Z.toArray=(its++Z).toArray:=ADk
 rw[ea];exact⟨.ref _,_,I.wH (r.append Y) (by rw[AD1];omega),rfl,q _ I.fresh⟩
def ON(x y:RV):Option RV:=match x.list,y.list with
 |some xs,some ys=>if xs.length+ys.length<=1000 then some (.fr<|xs++ys)else none
 |_,_=>none
theorem small{n:Nat}(h:n<=1000):n<=sizeLine:=AEg<|Xk h
theorem AQ.len{K:W.Frag}{H:Hp}{ps:List PV}{vs:List V}(h:AQ K H ps vs):ps.length=vs.length:=Paired.length h.paired
theorem xT{K:W.Frag}:DY K ON XH:=by
 intro x y z H0 G H vx vy Q sub v e u Z q;unfold ON at e;split at e
 .rename_i xs ys ex Y;split at e
  .cases e;obtain⟨l,vs,rfl,O,rl⟩:=u.list sub ex;obtain⟨b,us,rfl,hb,rb⟩:=Z.list sub Y;have e1:=rl.len;have e2:=rb.len;refine⟨l,b,vs,us,rfl,rfl,O,hb,small J,λp hp=>?_⟩;refine q (.ref p) G _ (Al.Gi sub _ hp) ?_;refine⟨p,vs++us,rfl,v.free hp,sub.free hp,Bu,AQ.of<|K5 rl.paired rb.paired⟩
  .contradiction
 .contradiction
def As(x y:RV):Option RV:=match x,y with
 |.cl (.int i),.cl (.int j)=>some<|.cl<|.int<|i+j
 |x,y=>ON x y
theorem xS{K:W.Frag}:DY K As (λx y H Q=>Iu (λi j=>.int<|i+j) x y H Q\/XH x y H Q):=by
 intro x y z v G H u Z Q sub Y e O P q;unfold As at e;split at e
 .rename_i i j;exact .inl<|Oq (g:=λi j=>.int<|i+j) (g':=λi j=>.int<|i+j) (λ_ _=>rfl) (.cl<|.int i) (.cl<|.int j) z v G H u Z Q sub Y (by simpa[kI]using e) O P q
 .exact .inr<|xT _ _ z v G H u Z Q sub Y e O P q
theorem zX(ha:PX X a fa)(hb:PX X b fb):PX X (.BinOp a .Add b pos)<|f2 As fa fb:=O0 (xY.or xZ) xS ha hb
noncomputable def Lp(fa:EF):EF:=λρ=>match fa ρ with|some (.cl<|.int i)=>some (.cl<|.int (-i))|_=>none
theorem AAA(ha:PX X a fa):PX X (.UnaryOp .USub a pos)<|Lp fa:=PE.imp (jC lC ha) (by
 rintro σ H Q ⟨G,ρ,r,R,e,q⟩;unfold Lp at e;split at e
 .rename_i i ea;cases e;exact⟨G,ρ,_,R,ea,λv G' H' s rv=>⟨i,rv.int,q _ G' H' s<|by rfl⟩⟩
 .contradiction)
def Cf:RV->RV->Option RV:=kI (λ_ _=>True) λi j=>.bl<|decide (i<j)
def Cw:RV->RV->Option RV:=kI (λ_ _=>True) λi j=>.bl<|decide (i<=j)
def Cv:RV->RV->Option RV:=kI (λ_ _=>True) λi j=>.bl<|decide (j<i)
structure Cn(X:Cx)(op:CmpOp)(k:RV->RV->Option RV):Prop where
 ex:∃r,BZ X (compareOp op) r/\DY X.K k r
theorem o3:Cn X .Lt Cf:=⟨_,xj,Oq λ_ _=>rfl⟩
theorem oz:Cn X .LtE Cw:=⟨_,xi,Oq λ_ _=>rfl⟩
theorem ow:Cn X .Gt Cv:=⟨_,xf,Oq λ_ _=>rfl⟩
theorem zf{op:CmpOp}{k:RV->RV->Option RV}(hc:Cn X op k)(ha:PX X a fa)(hb:PX X b fb)(hm:behindInMarks op b=false):PX X (.Compare a [op] [b] pos)<|f2 k fa fb:=by obtain⟨r,ho,y⟩:=hc.ex;exact PE.imp (yQ ho ha hb hm) λ_ _ _ h=>Sv y h
noncomputable def AV(f:EF):BF:=λρ=>match f ρ with|some (.cl<|.bl b)=>some b|_=>none
theorem Sx{K:W.Frag}{σ:St}{H:Hp}{Q:Bool->Hp->Prop}(h:EY K (AV f) σ H Q):tX K f σ H λx H'=>∃k,x=.bl k/\Q k H':=by
 obtain⟨G,ρ,r,R,e,q⟩:=h;unfold AV at e;split at e
 .rename_i b y;cases e;exact⟨G,ρ,_,R,y,λv G' H' s rv=>⟨_,rv.bl,q G' H' s⟩⟩
 .contradiction
theorem AAs{op:CmpOp}{k:RV->RV->Option RV}(hc:Cn X op k)(ha:PX X a fa)(hb:PX X b fb)(hm:behindInMarks op b=false):C6 X (.Compare a [op] [b] pos)<|AV<|f2 k fa fb:=by obtain⟨r,ho,y⟩:=hc.ex;exact PT.imp (zK ho ha hb hm) λ_ _ _ h=>Sv y<|Sx h
noncomputable def Ej(k q:RV->RV->Option RV)(fa fb fc:EF):EF:=λρ=>match fa ρ,fb ρ with
 |some x,some y=>match k x y with
  |some (.cl<|.bl true)=>(match fc ρ with|some z=>q y z|none=>none)
  |some (.cl<|.bl false)=>some<|.cl<|.bl false
  |_=>none
 |_,_=>none
theorem ko{K:W.Frag}{k B:RV->RV->Option RV}{r S:R2}(T:DY K k r)(t:DY K B S){σ:St}{H:Hp}{Q:VK}(h:tX K (Ej k B fa fb fc) σ H Q):Xz r S (tX K fa) (tX K fb) (tX K fc) σ H Q:=by
 obtain⟨G,ρ,z,R,e,q⟩:=h;unfold Ej at e;split at e
 .rename_i x y ea eb;refine⟨G,ρ,x,R,ea,λC G1 H1 s1 E=>⟨G1,ρ,y,R.step s1,eb,λY I U s2 O=>?_⟩⟩;split at e
  .rename_i P;cases D:fc ρ with
   |none=>rw[D]at e;contradiction
   |some w=>
    rw[D]at e;refine T x y _ H I U C Y _ s2.sub (s1.hh.trans s2.hh) P (E.step s2) (O.back s1.hh) λv F n u rv=>⟨true,rv.bl,?_⟩;refine⟨F,ρ,w,(R.step s1).step<|s2.trans u,D,λvw G4 H4 Z DC=>?_⟩;exact t y w z H G4 H4 Y vw Q Z.sub (((s1.trans s2).trans u).trans Z).hh e ((O.back s1.hh).step<|u.trans Z) (DC.back ((s1.trans s2).trans u).hh) λv G5 H5 s5 LF=>q v G5 H5 ((((s1.trans s2).trans u).trans Z).trans s5) LF
  .rename_i P;cases e;refine T x y _ H I U C Y _ s2.sub (s1.hh.trans s2.hh) P (E.step s2) (O.back s1.hh) λv F n u rv=>⟨false,rv.bl,?_⟩;exact q _ F n ((s1.trans s2).trans u)<|by rfl
  .contradiction
 .contradiction
set_option tactic.hygienic false
theorem zd{op y:CmpOp}{k q:RV->RV->Option RV}(hc:Cn X op k)(v:Cn X y q)(ha:PX X a fa)(hb:PX X b fb)(u:PX X c fc)(hm:lastMarks [op,y] [b,c]=false) : PX X (.Compare a [op,y] [b,c] pos)<|Ej k q fa fb fc:=by obtain⟨r,ho,Z⟩:=hc.ex;obtain⟨r',Y,Q⟩:=v.ex;exact PE.imp (yO ho Y ha hb u hm) λ_ _ _ h=>ko Z Q h
theorem AAq{op y:CmpOp}{k q:RV->RV->Option RV}(hc:Cn X op k)(v:Cn X y q)(ha:PX X a fa)(hb:PX X b fb)(u:PX X c fc)(hm:lastMarks [op,y] [b,c]=false) : C6 X (.Compare a [op,y] [b,c] pos)<|AV<|Ej k q fa fb fc:=by obtain⟨r,ho,Z⟩:=hc.ex;obtain⟨r',Y,Q⟩:=v.ex;exact PT.imp (zI ho Y ha hb u hm) λ_ _ _ h=>ko Z Q<|Sx h
noncomputable def D5(t u:BF):BF:=λρ=>match t ρ with|some true=>u ρ|some false=>some false|none=>none
noncomputable def Cr(t u:BF):BF:=λρ=>match t ρ with|some true=>some true|some false=>u ρ|none=>none
noncomputable def CY(t:BF):BF:=λρ=>(t ρ).map (!·)
variable{ta tb tc:BF}{rest:List Expr}
theorem AB6{K:W.Frag}{σ:St}{H:Hp}{Q:Bool->Hp->Prop}(h:EY K (D5 ta tb) σ H Q):kZ (EY K ta) (EY K tb) σ H Q:=by
 obtain⟨G,ρ,r,R,e,q⟩:=h;unfold D5 at e;split at e
 .rename_i ea;refine⟨G,ρ,true,R,ea,λy v s1=>?_⟩;exact⟨y,ρ,r,R.step s1,e,λu Z s2=>q u Z<|s1.trans s2⟩
 .rename_i ea;cases e;refine⟨G,ρ,false,R,ea,λy v s1=>?_⟩;exact q y v s1
 .contradiction
theorem AB7{K:W.Frag}{σ:St}{H:Hp}{Q:Bool->Hp->Prop}(h:EY K (Cr ta tb) σ H Q):kg (EY K ta) (EY K tb) σ H Q:=by
 obtain⟨G,ρ,r,R,e,q⟩:=h;unfold Cr at e;split at e
 .rename_i ea;cases e;refine⟨G,ρ,true,R,ea,λy v s1=>?_⟩;exact q y v s1
 .rename_i ea;refine⟨G,ρ,false,R,ea,λy v s1=>?_⟩;exact⟨y,ρ,r,R.step s1,e,λu Z s2=>q u Z<|s1.trans s2⟩
 .contradiction
theorem AAy(ha:C6 X a ta):Hu X (.BoolOp .And [a] pos) ta:=zU ha
theorem AA0(ha:C6 X a ta):Hu X (.BoolOp .Or [a] pos) ta:=zW ha
theorem AAx(ha:C6 X a ta)(hb:Hu X (.BoolOp .And (b::rest) pos) tb):Hu X (.BoolOp .And (a::b::rest) pos)<|D5 ta tb:=PW.imp (zT ha hb) λ_ _ _ h=>AB6 h
theorem AAz(ha:C6 X a ta)(hb:Hu X (.BoolOp .Or (b::rest) pos) tb):Hu X (.BoolOp .Or (a::b::rest) pos)<|Cr ta tb:=PW.imp (zV ha hb) λ_ _ _ h=>AB7 h
theorem AAw(h:Hu X e ta):C6 X e ta:=h.pt
theorem AAu(ha:C6 X a ta):C6 X (.UnaryOp .Not a pos)<|CY ta:=PT.imp (zL ha) (by
 rintro σ H Q ⟨G,ρ,r,R,e,q⟩;unfold CY at e;cases ea:ta ρ with
 |none=>rw[ea]at e;contradiction
 |some k=>
  rw[ea]at e;cases e;exact⟨G,ρ,k,R,ea,λy v s1=>q y v s1⟩)
theorem AAv(ha:PX X a fa)(he:∀y,isTrue a X.env y=(do let v<-y;standAt a.pos;holding [v] (truthy v))):C6 X a<|AV fa:=
 PT.imp (zN ha he) λ_ _ _ h=>Sx h
noncomputable def DR(f g:EF):EF:=λρ=>match f ρ with|some (.cl<|.bl true)=>g ρ|some (.cl<|.bl false)=>some (.cl<|.bl false)|_=>none
noncomputable def EE(f g:EF):EF:=λρ=>match f ρ with|some (.cl<|.bl false)=>g ρ|some (.cl<|.bl true)=>some (.cl<|.bl true)|_=>none
noncomputable def KP(f:EF):EF:=λρ=>match f ρ with|some (.cl<|.bl b)=>some (.cl<|.bl (!b))|_=>none
theorem AAC{op}(h:PX X a fa):PX X (.BoolOp op [a] pos) fa:=yX h
theorem zY(ha:PX X a fa)(hb:PX X (.BoolOp .And (b::rest) pos) fb):PX X (.BoolOp .And (a::b::rest) pos)<|DR fa fb:=PE.imp (yL ha hb) (by
 rintro σ H Q ⟨G,ρ,r,R,e,q⟩;unfold DR at e;split at e
 .rename_i ea;refine⟨G,ρ,_,R,ea,λv y u s1 rv=>⟨true,rv.bl,?_⟩⟩;exact⟨y,ρ,r,R.step s1,e,λZ Y O s2 P=>q Z Y O (s1.trans s2)<|P.back s1.hh⟩
 .rename_i ea;cases e;refine⟨G,ρ,_,R,ea,λv y u s1 rv=>⟨false,rv.bl,?_⟩⟩;exact q _ y u s1<|by rfl
 .contradiction)
theorem AAD(ha:PX X a fa)(hb:PX X (.BoolOp .Or (b::rest) pos) fb):PX X (.BoolOp .Or (a::b::rest) pos)<|EE fa fb:=PE.imp (yZ ha hb) (by
 rintro σ H Q ⟨G,ρ,r,R,e,q⟩;unfold EE at e;split at e
 .rename_i ea;refine⟨G,ρ,_,R,ea,λv y u s1 rv=>⟨false,rv.bl,?_⟩⟩;exact⟨y,ρ,r,R.step s1,e,λZ Y O s2 P=>q Z Y O (s1.trans s2)<|P.back s1.hh⟩
 .rename_i ea;cases e;refine⟨G,ρ,_,R,ea,λv y u s1 rv=>⟨true,rv.bl,?_⟩⟩;exact q _ y u s1<|by rfl
 .contradiction)
set_option tactic.hygienic true
theorem AAB(ha:PX X a fa):PX X (.UnaryOp .Not a pos)<|KP fa:=PE.imp (yW ha) (by
 rintro σ H Q ⟨G,ρ,r,R,e,q⟩;unfold KP at e;split at e
 .rename_i b ea;cases e;exact⟨G,ρ,_,R,ea,λv y u s1 rv=>⟨b,rv.bl,q _ y u s1<|by rfl⟩⟩
 .contradiction)
noncomputable def IP(t:BF)(f g:EF):EF:=λρ=>match t ρ with|some true=>f ρ|some false=>g ρ|none=>none
theorem zp(hc:C6 X c tc)(ha:PX X a fa)(hb:PX X b fb):PX X (.IfExp c a b pos)<|IP tc fa fb:=PE.imp (yU hc ha hb) (by
 rintro σ H Q ⟨G,ρ,r,R,e,q⟩;unfold IP at e;split at e
 .rename_i y;refine⟨G,ρ,true,R,y,λv P s1=>?_⟩;exact⟨v,ρ,r,R.step s1,e,λu Z Y s2 O=>q u Z Y (s1.trans s2)<|O.back s1.hh⟩
 .rename_i y;refine⟨G,ρ,false,R,y,λv P s1=>?_⟩;exact⟨v,ρ,r,R.step s1,e,λu Z Y s2 O=>q u Z Y (s1.trans s2)<|O.back s1.hh⟩
 .contradiction)
noncomputable def AO:AF:=λ_=>some []
noncomputable def AG(f:EF)(g:AF):AF:=λρ=>match f ρ,g ρ with|some x,some xs=>some (x::xs)|_,_=>none
variable{g:AF}
theorem XE:Co X [] AO:=PA.imp Ou (by rintro σ H Q ⟨G,ρ,r,R,e,q⟩;cases e;exact q [] G H (Al.refl R.sub) .nil)
theorem Dl.back{K:W.Frag}{y H G' H':Hp}(s:AY y H):∀{rs:List RV}{vs:List V},Dl K H G' H' rs vs->Dl K y G' H' rs vs
 |_,_,.nil=>.nil
 |_,_,.cons r t=>.cons (r.back s)<|Dl.back s t
theorem O1(ha:PX X e f)(y:Co X es g)(hs:starEach (e::es) X.env=(false,eval e X.env)::starEach es X.env:=by rfl):Co X (e::es)<|AG f g:=PA.imp (K7 ha y hs) (by
 rintro σ H Q ⟨G,ρ,r,R,e,q⟩;unfold AG at e;split at e
 .rename_i x xs ea u;cases e;refine⟨G,ρ,x,R,ea,λv Z H1 s1 rv=>⟨Z,ρ,xs,R.step s1,u,λvs Y O s2 rs=>?_⟩⟩;exact q (v::vs) Y O (s1.trans s2)<|.cons (rv.step s2)<|Dl.back s1.hh rs
 .contradiction)
def C8:List RV->Option (List PV)
 |[]=>some []
 |r::rs=>match r.clean,C8 rs with|some p,some ps=>some (p::ps)|_,_=>none
theorem Lg{K:W.Frag}{H G' H':Hp}(sub:AY G' H'):∀{rs:List RV}{vs:List V}{ps:List PV},Dl K H G' H' rs vs->C8 rs=some ps->AQ K (Ep G' H H') ps vs:=by
 intro rs vs ps h
 induction h generalizing ps with
 |nil=>intro e;cases e;rfl
 |cons r t ih=>
  intro e;unfold C8 at e;split at e
  .rename_i p ps y q;cases e;exact⟨_,_,rfl,r.clean sub y,ih q⟩
  .contradiction
def BA(g:AF):EF:=λρ=>match g ρ with|some rs=>(match C8 rs with|some ps=>if ps.length<=1000 then some (.cl<|.tup ps)else none|none=>none)|none=>none
def CB(g:AF):EF:=λρ=>match g ρ with|some rs=>(match C8 rs with|some ps=>if ps.length<=1000 then some (.fr ps)else none|none=>none)|none=>none
theorem AAI{x1}(h:Co X es g):PX X (.Tuple es x1 pos)<|BA g:=PE.imp (W9 h) (by
 rintro σ H Q ⟨G,ρ,r,R,e,q⟩;unfold BA at e;split at e
 .rename_i rs v;split at e
  .rename_i ps u;split at e
   .cases e;refine⟨G,ρ,rs,R,v,λvs G1 H1 s1 rv=>?_⟩;have rl:=Lg s1.sub rv u;have hl:=rl.len;refine⟨small J,λp hp=>?_⟩;have s2:=s1.all;have y:=Al.new s2.sub (.tup vs) hp;refine q (.ref p) _ _ (s2.trans y) ?_;exact⟨p,vs,rfl,.inl<|.inl Bu,AQ.same y.gg rl⟩
   .contradiction
  .contradiction
 .contradiction)
theorem z6(h:Co X es g):PX X (.List es pos)<|CB g:=PE.imp (yV h) (by
 rintro σ H Q ⟨G,ρ,r,R,e,q⟩;unfold CB at e;split at e
 .rename_i rs y;split at e
  .rename_i ps v;split at e
   .cases e;refine⟨G,ρ,rs,R,y,λvs G1 H1 s1 rv=>?_⟩;have rl:=Lg s1.sub rv v;have hl:=rl.len;refine⟨small J,λp hp=>?_⟩;have s2:=s1.all;refine q (.ref p) _ _ (s2.trans<|Al.Gi s2.sub (.lst vs) hp) ?_;exact⟨p,vs,rfl,s1.hh.free hp,s2.sub.free hp,Bu,rl⟩
   .contradiction
  .contradiction
 .contradiction)
end
section
variable{X:Cx}{a b c e:Expr}{es:List Expr}{fa fb fc f:EF}{g:AF}{pos:Pos}
def jQ(K:W.Frag):R2:=λx y H Q=>XM K x y H Q\/jR K x y H Q
theorem vO:JE X<|jQ X.K:=fM.or vP
def RV.seq:RV->Option (List PV)
 |.cl (.tup ps)=>some ps
 |.cl (.rd ps)=>some ps
 |r=>r.list
def Am(x y:RV):Option RV:=match x.seq,y with
 |some ps,.cl (.int i)=>(CP ps i).map .cl
 |_,_=>none
theorem AQ.CP{K:W.Frag}{H:Hp}{ps:List PV}{vs:List V}{i:Int}{p:PV}(h:AQ K H ps vs)(e:CP ps i=some p):∃v,CP vs i=some v/\Rep K H p v:=by
 unfold L2.CP at e ⊢;rw[<-h.len];cases y:Gb ps.length i with
 |none=>rw[y]at e;contradiction
 |some j=>
  rw[y]at e;exact K6 h.paired e
theorem Bo.seq{K:W.Frag}{H G' H':Hp}{r:RV}{v:V}{ps:List PV}(sub:AY G' H')(h:Bo K H G' H' r v)(e:r.seq=some ps):∃a vs,v=.ref a/\(B6 K H' a vs\/BS K H' a vs)/\AQ K G' ps vs:=by
 by_cases y:∃qs,r=.cl (.tup qs)
 .obtain⟨qs,rfl⟩:=y;simp only[RV.seq,AEi]at e;subst e;have h':=h;obtain⟨a,vs,e,q,r⟩:=h';exact⟨a,vs,e,.inr<|BS.same sub q,r⟩
 by_cases hd:∃qs,r=.cl (.rd qs)
 .obtain⟨qs,rfl⟩:=hd;simp only[RV.seq,AEi]at e;subst e;have h':=h;obtain⟨a,vs,e,q,r⟩:=h';exact⟨a,vs,e,.inl<|AY.seq sub q,r⟩
 .have u:r.list=some ps:=by
   cases r with
   |cl p=>cases p<;>first|exact e|exact absurd ⟨_,rfl⟩ y|exact absurd ⟨_,rfl⟩ hd
   |bo ps=>exact e
   |fr ps=>exact e
   |bd _ _=>exact e
   |fd _ _=>exact e
   |tf _ _=>exact e
  obtain⟨a,vs,e,q,r⟩:=h.list sub u;exact⟨a,vs,e,.inl<|.inl q,r⟩
set_option tactic.hygienic true
theorem xV{K:W.Frag}:DY K Am<|jQ K:=by
 intro x y z H0 G H vx vy Q sub sh e D Y q;unfold Am at e;split at e
 .rename_i ps i ex;cases Z:CP ps i with
  |none=>rw[Z]at e;contradiction
  |some p=>
   rw[Z]at e;cases e;obtain⟨a,vs,rfl,u,rl⟩:=D.seq sub ex;obtain⟨v,O,rv⟩:=rl.CP Z;have P:=q v G H (Al.refl sub) rv;rcases u with u|u
   .exact .inl ⟨a,vs,i,v,rfl,Y.int,u,O,P⟩
   .exact .inr ⟨a,vs,i,v,rfl,Y.int,u,O,P⟩
 .contradiction
theorem zw(ha:PX X a fa)(hb:PX X b fb)(hs:Ye b):PX X (.Subscript a b pos)<|f2 Am fa fb:=PE.imp (jB vO ha hb hs) λ_ _ _ h=>Sv xV h
abbrev OF:=AS->Option (Option Int)
noncomputable def Ek:OF:=λ_=>some none
noncomputable def EG(f:EF):OF:=λρ=>match f ρ with|some (.cl<|.int i)=>some (some i)|_=>none
def tXO(K:W.Frag)(f:OF):TO:=λσ H Q=>∃G ρ r,BW K G H ρ σ/\f ρ=some r/\∀G' H',Al G H G' H'->Q r H'
def LV(X:Cx)(e:Option Expr)(f:OF):Prop:=PO X e<|tXO X.K f
theorem PO.imp{X:Cx}{e:Option Expr}{t t':TO}(h:PO X e t)(i:∀σ H Q,t' σ H Q->t σ H Q):PO X e t':=λAB s σ H Q I q=>h AB s σ H Q I<|i σ H Q q
theorem AAU:LV X none Ek:=PO.imp y7 (by rintro σ H Q ⟨G,ρ,r,R,e,q⟩;cases e;exact q G H<|Al.refl R.sub)
theorem AAV(h:PX X e f):LV X (some e)<|EG f:=PO.imp (y8 h) (by
 rintro σ H Q ⟨G,ρ,r,R,e,q⟩;unfold EG at e;split at e
 .rename_i i y;cases e;exact⟨G,ρ,_,R,y,λv G' H' s rv=>⟨i,rv.int,q G' H' s⟩⟩
 .contradiction)
def KC(xs:List PV)(lo hi:Option Int):List PV:=(xs.drop<|HT.DD xs.length 0 lo).take<|HT.DD xs.length xs.length hi-HT.DD xs.length 0 lo
def EJ(f:EF)(l u:OF):EF:=λρ=>match f ρ,l ρ,u ρ with
 |some x,some lo,some hi=>(match x.list with|some ps=>some (.fr<|KC ps lo hi)|none=>none)
 |_,_,_=>none
theorem AAF{lo hi:Option Expr}{l u:OF}{p2:Pos}(he:PX X e f)(Z:LV X lo l)(Y:LV X hi u):PX X (.Subscript e (.Slice lo hi none p2) pos)<|EJ f l u:=PE.imp (yc ABO he Z Y) (by
 rintro σ H Q ⟨G,ρ,r,R,e,q⟩;unfold EJ at e;split at e
 .rename_i x O P ex el D;split at e
  .rename_i ps F;cases e;refine⟨G,ρ,x,R,ex,λv B H1 s1 rv=>⟨B,ρ,O,R.step s1,el,λS H2 s2=>⟨S,ρ,P,(R.step s1).step s2,D,λG3 H3 y=>?_⟩⟩⟩;obtain⟨a,vs,rfl,T,rl⟩:=(rv.step<|s2.trans y).list y.sub F;refine⟨a,vs,rfl,.inl T,λp hp=>?_⟩;refine q (.ref p) _ _ (((s1.trans s2).trans y).trans<|Al.Gi y.sub _ hp) ?_;refine⟨p,_,rfl,((s1.trans s2).trans y).hh.free hp,y.sub.free hp,Bu,?_⟩
   delta KC QE
   rw[rl.len];exact AQ.of<|yH _<|iZ _ rl.paired
  .cases e
 .cases e)
def AB2(te:TE):TE:=λσ H Q=>te σ H λx y=>∃a xs,x=.ref a/\Rd y a (.lst xs)/\∀p,y p=none->Q (.ref p) (upd y p<|.lst xs.reverse)
theorem ya{te:TE}{j p1 p2 p3}(he:PE X e te):PE X (.Subscript e (.Slice none none (some<|.UnaryOp .USub (.Constant (.int 1) j p1) p2) p3) pos)<|AB2 te:=by intro AB s σ H Q I h;refine Subscript_<|Af (he AB s σ H _ I h) ?_;rintro v s1 ⟨x,Y,P,D,F⟩;refine wpAny_Slice ?_;refine wpAny_pure ?_;refine wpAny_pure ?_;refine Af (jC lC (W8) AB s1 σ Y (λv R=>v=.int (-1)/\R=Y) P ⟨1,rfl,rfl,rfl⟩) ?_;rintro st u ⟨y,B,G,S,T⟩;obtain⟨rfl,rfl⟩:=T;obtain⟨t,rfl⟩:=S;obtain⟨a,xs,rfl,C,q⟩:=F;cases D;have Z:Inv X AB σ B {u with heap:=u.heap.push {cls:=.type "slice",data:=.fields #[.none,.none,.int (-1) t]}}:=G.kept λb E q=>Heap.get?_push_of_some _ q;obtain⟨z,its,n,r,e⟩:=C.ok Z.AX;have hl:=r.length;have O:Heap.IsList (u.heap.push {cls:=.type "slice",data:=.fields #[.none,.none,.int (-1) t]}) a its.toArray:=⟨_,e,rfl,n,rfl⟩;refine tail_any O.typeIs slot_list_getitem.lookup ?_ (by with_unfolding_all rfl);refine wpAny_getItem_list_slice O (Heap.IsSliceOf.new ..) .none .none (.int _ _) ADk ?_ (by rw[AD3]<;>lia);rw[W.krv_pick];refine⟨.ref _,_,Z.laid (λb E q=>Heap.get?_push_of_some _ q) (ADt _) ?_,rfl,q _<|Z.AX.fresh<|ADt _⟩;exact⟨by rw[AGy];exact z,_,0,r.reverse,Heap.get?_push_size _ rfl⟩
def GP(f:EF):EF:=λρ=>match f ρ with|some x=>(match x.list with|some ps=>some (.fr ps.reverse)|none=>none)|none=>none
theorem AAE{j p1 p2 p3}(he:PX X e f):PX X (.Subscript e (.Slice none none (some<|.UnaryOp .USub (.Constant (.int 1) j p1) p2) p3) pos)<|GP f:=PE.imp (ya he) (by
 rintro σ H Q ⟨G,ρ,r,R,e,q⟩;unfold GP at e;split at e
 .rename_i x ex;split at e
  .rename_i ps y;cases e;refine⟨G,ρ,x,R,ex,λv G1 H1 s1 rv=>?_⟩;obtain⟨a,vs,rfl,u,rl⟩:=rv.list s1.sub y;refine⟨a,vs,rfl,u,λp hp=>?_⟩;exact q (.ref p) _ _ (s1.trans<|Al.Gi s1.sub _ hp) ⟨p,_,rfl,s1.hh.free hp,s1.sub.free hp,Bu,AQ.of<|yG rl.paired⟩
  .contradiction
 .contradiction)
def Mc(K:W.Frag)(n:Nat)(F:List PV->Option RV):Sp:=λvs H Q _=>vs.length=n/\∃G ps r,AY G H/\AQ K G ps vs/\F ps=some r/\∀v G' H',Al G H G' H'->Bo K H G' H' r v->Q v H'
def AW(F:List PV->Option RV)(g:AF):EF:=λρ=>match g ρ with|some rs=>(match C8 rs with|some ps=>F ps|none=>none)|none=>none
structure Fn(X:Cx)(x:Str)(n:Nat)(F:List PV->Option RV):Prop where
 ex:∃k f fd ps,DM X.prog X.w X.K X.mg X.base Eb k f fd ps (Mc X.K n F)/\Cd k X.A/\X.mg x=some (.ref f)/\W.keepIn X.K (.ref f)=true/\Binds X.K fd ps []/\ps.length=n
theorem za{x:Str}{n:Nat}{F:List PV->Option RV}{p:Pos}(u:Fn X x n F)(ha:Co X (e::es) g)(hn:(e::es).length=n)(Z:Gl X x)(Y:(x==("__debug__"))=false)(he:starEach (e::es) X.env=(false,eval e X.env)::starEach es X.env)(O:(backTo pos<|starEach es X.env).any (·.1)=false) (P:∀ρ rs,g ρ=some rs->rs.length=n):PX X (.Call (.Name x p) (e::es) [] pos)<|AW F g:=by
 obtain⟨k,f,fd,ps,G,D,hm,B,hb,uR⟩:=u.ex;refine PE.imp (i7 G D Z hm B hb .nil i5 ha Y he O) ?_;rintro σ H Q ⟨G,ρ,r,R,e,q⟩;unfold AW at e;split at e
 .rename_i rs y;split at e
  .rename_i qs S;refine⟨G,ρ,rs,R,y,λvs T C s1 rv=>⟨?_,Ep T H C,qs,r,s1.all.sub,?_,e,λv G' H' s E=>q v G' H' (s1.all.trans s)<|E.back s1.hh⟩⟩
   .rw[AE1,<-P ρ rs y];exact(Paired.length rv).symm
   .rw[AE1];exact Lg s1.sub rv S
  .contradiction
 .contradiction
mutual
noncomputable def PV.flat:PV->Bool
 |.tup xs=>PV.JV xs
 |.lst _=>false
 |.rd _=>false
 |.By _ _=>false
 |_=>true
noncomputable def PV.JV:List PV->Bool
 |[]=>true
 |x::xs=>x.flat&&PV.JV xs
end
def RV.flat:RV->Bool
 |.cl p=>p.flat
 |.fr ps=>PV.JV ps
 |.fd _ xs=>PV.JV xs
 |.tf _ _=>false
 |.bo _=>false
 |.bd _ _=>false
noncomputable def RV.any:RV->PV
 |.cl p=>p
 |.bo ps=>.lst ps
 |.fr ps=>.lst ps
 |.bd ks xs=>.By ks xs
 |.fd ks xs=>.By ks xs
 |.tf p ps=>.tup [p,.lst ps]
theorem Bo.any{K:W.Frag}{H G' H':Hp}{r:RV}{v:V}(sub:AY G' H')(h:Bo K H G' H' r v):Rep K H' r.any v:=by
 cases r with
 |cl p=>exact Rep.same sub h
 |bo ps=>
  obtain⟨a,vs,e,g,q,r⟩:=h;exact⟨a,vs,e,.inl q,AQ.same sub r⟩
 |fr ps=>
  obtain⟨a,vs,e,n,g,q,r⟩:=h;exact⟨a,vs,e,.inl q,AQ.same sub r⟩
 |bd ks xs=>
  obtain⟨a,vs,e,g,q,k,r⟩:=h;exact⟨a,vs,e,.inl q,k,AQ.same sub r⟩
 |fd ks xs=>
  obtain⟨a,vs,e,n,g,q,k,r⟩:=h;exact⟨a,vs,e,.inl q,k,AQ.same sub r⟩
 |tf p ps=>
  obtain⟨a,l,x,vs,e,t,y,n,g,q,r⟩:=h;refine⟨a,_,e,BS.same sub t,?_⟩;have z:Rep K H' (.lst ps)<|.ref l:=by exact⟨l,vs,rfl,.inl q,AQ.same sub r⟩
  exact⟨_,_,rfl,Rep.same sub y,_,_,rfl,z,rfl⟩
theorem Dl.any{K:W.Frag}{H G' H':Hp}(sub:AY G' H'):∀{rs:List RV}{vs:List V},Dl K H G' H' rs vs->AQ K H' (rs.map RV.any) vs
 |_,_,.nil=>by rfl
 |_,_,.cons r t=>by exact⟨_,_,rfl,r.any sub,Dl.any sub t⟩
noncomputable def FL(y q G':Hp):Hp:=λa=>match y a with|some o=>some o|none=>match q a with|some (.lst _)=>none|some (.dT _)=>none|some (.dK _)=>none|some (.BK _<|.lst _)=>none|some o=>some o|none=>G' a
theorem dF{q y G' H':Hp}(sub:AY q y)(hh:AY y H')(s':AY G' H'):Al q y (FL q y G') H':=by
 refine⟨λa o h=>by unfold FL;rw[h],hh,λa o h=>?_,λa h n=>by unfold FL;rcases h with h|h|h|h<;>rw[n,h]⟩;unfold FL at h;split at h
 .rename_i o' e;cases h;exact hh _ _<|sub _ _ e
 .split at h
  .cases h
  .cases h
  .cases h
  .cases h
  .rename_i e;cases h;exact hh _ _ e
  .exact s' _ _ h
theorem dE{q y G' H':Hp}{a:Addr}{o:HO}(sub:AY q y)(hh:AY y H')(s':AY G' H')(h:G' a=some o)(hn:¬ Mu H' a):FL q y G' a=some o:=by
 have h':=s' _ _ h;unfold FL;split
 .rename_i o' e;have:=hh _ _<|sub _ _ e;rw[h']at this;exact this.symm
 .split
  .rename_i e;exact absurd (.l<|hh _ _ e) hn
  .rename_i e;exact absurd (.d<|hh _ _ e) hn
  .rename_i e;exact absurd (.k<|hh _ _ e) hn
  .rename_i e;exact absurd (.f<|hh _ _ e) hn
  .rename_i e;have:=hh _ _ e;rw[h']at this;exact this.symm
  .exact h
theorem iG{H:Hp}{a:Addr}{xs:List V}(h:Rd H a<|.tup xs):¬ Mu H a:=by rintro(z|z|z|z)<;>rcases h with h|⟨_,h⟩<;>(rw[h]at z;cases z)
mutual
theorem Rep.flat{K:W.Frag}{u y G' H':Hp}(sub:AY u y)(hh:AY y H')(s':AY G' H'):∀{p:PV}{v:V},p.flat=true->Rep K G' p v->Rep K (FL u y G') p v
 |.Aw,_,_,h=>h
 |.bl _,_,_,h=>h
 |.int _,_,_,h=>h
 |.str _,_,_,h=>h
 |.tup xs,v,f,h=>by
  unfold Rep at h ⊢;unfold PV.flat at f;obtain⟨a,vs,e,q,r⟩:=h;refine⟨a,vs,e,?_,AQ.flat sub hh s' f r⟩;rcases q with(q|⟨o,q⟩)|q
  .exact .inl<|.inl<|dE sub hh s' q<|iG<|.inl<|s' _ _ q
  .exact .inl<|.inr ⟨o,dE sub hh s' q<|iG<|.inr ⟨o,s' _ _ q⟩⟩
  .exact .inr q
 |.lst _,_,f,_=>by unfold PV.flat at f;cases f
 |.rd _,_,f,_=>by unfold PV.flat at f;cases f
 |.By _ _,_,f,_=>by unfold PV.flat at f;cases f
theorem AQ.flat{K:W.Frag}{u y G' H':Hp}(sub:AY u y)(hh:AY y H')(s':AY G' H'):∀{ps:List PV}{vs:List V},PV.JV ps=true->AQ K G' ps vs->AQ K (FL u y G') ps vs
 |[],_,_,h=>h
 |p::ps,_,f,h=>by unfold AQ at h ⊢;unfold PV.JV at f;rw[ADx]at f;obtain⟨v,r,e,q,t⟩:=h;exact⟨v,r,e,Rep.flat sub hh s' f.1 q,AQ.flat sub hh s' f.2 t⟩
end
def Lm(F:List PV->Option RV)(g:AF):EF:=λρ=>match g ρ with|some rs=>F (rs.map RV.any)|none=>none
set_option tactic.hygienic false
theorem zb{x:Str}{n:Nat}{F:List PV->Option RV}{p:Pos}(Y:Fn X x n F)(O:∀ps r,F ps=some r->r.flat=true)(ha:Co X (e::es) g)(hn:(e::es).length=n)(P:Gl X x)(D:(x==("__debug__"))=false)(he:starEach (e::es) X.env=(false,eval e X.env)::starEach es X.env)(B:(backTo pos<|starEach es X.env).any (·.1)=false) (S:∀ρ rs,g ρ=some rs->rs.length=n):PX X (.Call (.Name x p) (e::es) [] pos)<|Lm F g:=by
 obtain⟨k,f,fd,ps,G,T,hm,C,hb,uR⟩:=Y.ex;refine PE.imp (i7 G T P hm C hb .nil i5 ha D he B) ?_;rintro σ H Q ⟨G,ρ,r,R,e,q⟩;unfold Lm at e;split at e
 .rename_i rs Z;refine⟨G,ρ,rs,R,Z,λvs G1 E s1 rv=>⟨?_,E,_,r,AY.refl _,?_,e,λv G' H' s y=>?_⟩⟩
  .rw[AE1,<-S ρ rs Z];exact(Paired.length rv).symm
  .rw[AE1];exact Dl.any s1.sub rv
  .have st:=dF s1.sub s.hh s.sub;refine q v _ H' (s1.trans st) ?_;have u:=O _ _ e;cases r with
   |cl p=>exact Rep.flat s1.sub s.hh s.sub u y
   |bo ps=>contradiction
   |fr ps=>
    obtain⟨a,vs,e,n,g,q,r⟩:=y;refine⟨a,vs,e,s1.hh.free n,?_,q,AQ.flat s1.sub s.hh s.sub u r⟩;unfold FL;rw[s1.sub.free n,n];exact g
   |bd _ _=>contradiction
   |tf _ _=>contradiction
   |fd ks xs=>
    obtain⟨a,vs,e,n,g,q,k,r⟩:=y;refine⟨a,vs,e,s1.hh.free n,?_,q,k,AQ.flat s1.sub s.hh s.sub u r⟩;unfold FL;rw[s1.sub.free n,n];exact g
 .contradiction
theorem qq(ρ:AS)(rs:List RV)(h:AO ρ=some rs):rs.length=0:=by cases h;rfl
set_option tactic.hygienic true
theorem Ln{n:Nat}(h:∀ρ rs,g ρ=some rs->rs.length=n)(ρ:AS)(rs:List RV)(e:AG f g ρ=some rs):rs.length=n+1:=by
 unfold AG at e;split at e
 .rename_i x xs _ y;cases e;rw[AD5,h ρ xs y]
 .contradiction
noncomputable def fB(k:List RV->Option RV)(g:AF):EF:=λρ=>match g ρ with|some rs=>k rs|none=>none
def FD(K:W.Frag)(k:List RV->Option RV)(r:List V->Hp->VK->Prop):Prop:=
 ∀(rs:List RV)(z:RV)(y G H:Hp)(vs:List V)(Q:VK),AY G H->AY y H->k rs=some z->Dl K y G H rs vs->(∀v G' H',Al G H G' H'->Bo K y G' H' z v->Q v H')->r vs H Q
theorem kj{K:W.Frag}{k:List RV->Option RV}{r:List V->Hp->VK->Prop}(y:FD K k r){σ:St}{H:Hp}{Q:VK}(h:tX K (fB k g) σ H Q):Xy r (Sw K g) σ H Q:=by
 obtain⟨G,ρ,z,R,e,q⟩:=h;unfold fB at e;split at e
 .rename_i rs u;exact⟨G,ρ,rs,R,u,λvs Z Y s1 rv=>y rs z H Z Y vs Q s1.sub s1.hh e rv λv G' H' s O=>q v G' H' (s1.trans s) O⟩
 .contradiction
theorem Ir{x:Str}{id:String}{k:List RV->Option RV}{r:List V->Hp->VK->Prop}{p:Pos}(hc:DX X (.builtin id) r)(y:FD X.K k r)(hm:X.mg x=none)(q:bootBuiltins x=some (.builtin id))(ha:Co X (e::es) g)(v:Gl X x:=by rfl)(hn:x≠"__name__":=by decide)(u:(x==("__debug__"))=false:=by decide) (he:starEach (e::es) X.env=(false,eval e X.env)::starEach es X.env:=by rfl) (Z:(backTo pos<|starEach es X.env).any (·.1)=false:=by rfl):PX X (.Call (.Name x p) (e::es) [] pos)<|fB k g:=
 PE.imp (R0 hc v hm q ha hn u he Z) λ_ _ _ h=>kj y h
theorem AAJ{x:Str}{T:String}{k:List RV->Option RV}{r:List V->Hp->VK->Prop}{p:Pos}(hc:DX X (.type T) r)(y:FD X.K k r)(hm:X.mg x=none)(q:bootBuiltins x=some (.type T))(ha:Co X (e::es) g)(v:Gl X x)(hn:x≠"__name__")(u:(x==("__debug__"))=false) (he:starEach (e::es) X.env=(false,eval e X.env)::starEach es X.env) (Z:(backTo pos<|starEach es X.env).any (·.1)=false):PX X (.Call (.Name x p) (e::es) [] pos)<|fB k g:=
 PE.imp (i8 hc v hm q ha hn u he Z) λ_ _ _ h=>kj y h
set_option tactic.hygienic false
theorem Dl.one{K:W.Frag}{y G H:Hp}{r:RV}{vs:List V}(h:Dl K y G H [r] vs):∃v,vs=[v]/\Bo K y G H r v:=by
 cases h with
 |cons r t=>cases t;exact⟨_,rfl,r⟩
theorem Dl.two{K:W.Frag}{q G H:Hp}{r y:RV}{vs:List V}(h:Dl K q G H [r,y] vs):∃v u,vs=[v,u]/\Bo K q G H r v/\Bo K q G H y u:=by
 cases h with
 |cons r t=>
  cases t with
  |cons y t=>cases t;exact⟨_,_,rfl,r,y⟩
set_option tactic.hygienic true
def EO:List RV->Option RV
 |[r]=>r.seq.map λps=>.cl<|.int ps.length
 |_=>none
theorem xx:FD X.K EO (λxs H Q=>∃p ys,xs=[.ref p]/\(B6 X.K H p ys\/BS X.K H p ys)/\Q (.int ys.length) H):=by
 intro rs z H0 G H vs Q sub sh e rv q;unfold EO at e;split at e
 .rename_i r;cases es:r.seq with
  |none=>rw[es]at e;contradiction
  |some ps=>
   rw[es]at e;cases e;obtain⟨v,rfl,y⟩:=rv.one;obtain⟨a,us,rfl,u,rl⟩:=y.seq sub es;refine⟨a,us,rfl,u,q _ G H (Al.refl sub) ?_⟩;show Rep _ _ _ _;unfold Rep;rw[rl.len]
 .contradiction
theorem zx{p:Pos}(hm:X.mg "len" = none)(ha:Co X (e::es) g)(y:Gl X "len")(he:starEach (e::es) X.env=(false,eval e X.env)::starEach es X.env)(q:(backTo pos<|starEach es X.env).any (·.1)=false):PX X (.Call (.Name "len" p) (e::es) [] pos)<|fB EO g:=
 Ir oR xx hm PySem.boot_len ha y ADl ADl he q
noncomputable def HR:List RV->Option RV
 |[.cl<|.int i]=>some (.cl (.int (if i<0 then -i else i)))
 |_=>none
noncomputable def Fv:List RV->Option RV
 |[.cl<|.int i,.cl<|.int j]=>some (.cl (.int (if j>i then j else i)))
 |_=>none
noncomputable def HS:List RV->Option RV
 |[.cl<|.int i,.cl<|.int j]=>some (.cl (.int (if j<i then j else i)))
 |_=>none
theorem xr:FD X.K HR (λxs H Q=>∃i,xs=[.int i]/\Q (.int (if i<0 then -i else i)) H):=by
 intro rs z H0 G H vs Q sub sh e rv q;unfold HR at e;split at e
 .rename_i i;cases e;obtain⟨v,rfl,y⟩:=rv.one;exact⟨i,by rw[y.int],q _ G H (Al.refl sub)<|by rfl⟩
 .contradiction
theorem x5:FD X.K Fv (λxs H Q=>∃i j,xs=[.int i,.int j]/\Q (.int (if j>i then j else i)) H):=by
 intro rs z H0 G H vs Q sub sh e rv q;unfold Fv at e;split at e
 .rename_i i j;cases e;obtain⟨v,v',rfl,y,u⟩:=rv.two;exact⟨i,j,by rw[y.int,u.int],q _ G H (Al.refl sub)<|by rfl⟩
 .contradiction
theorem x6:FD X.K HS (λxs H Q=>∃i j,xs=[.int i,.int j]/\Q (.int (if j<i then j else i)) H):=by
 intro rs z H0 G H vs Q sub sh e rv q;unfold HS at e;split at e
 .rename_i i j;cases e;obtain⟨v,v',rfl,y,u⟩:=rv.two;exact⟨i,j,by rw[y.int,u.int],q _ G H (Al.refl sub)<|by rfl⟩
 .contradiction
def RA:List RV->Option RV
 |[r]=>r.seq.map .fr
 |_=>none
theorem xy:FD X.K RA (λxs H Q=>∃p ys,xs=[.ref p]/\(B6 X.K H p ys\/BS X.K H p ys)/\∀l,H l=none->Q (.ref l) (upd H l<|.lst ys)):=by
 intro rs z H0 G H vs Q sub u e rv q;unfold RA at e;split at e
 .rename_i r;cases es:r.seq with
  |none=>rw[es]at e;contradiction
  |some ps=>
   rw[es]at e;cases e;obtain⟨v,rfl,Z⟩:=rv.one;obtain⟨a,us,rfl,Y,rl⟩:=Z.seq sub es;exact⟨a,us,rfl,Y,λl y=>q _ _ _ (Al.Gi sub _ y) ⟨l,us,rfl,u.free y,sub.free y,Bu,rl⟩⟩
 .contradiction
noncomputable def EM:List PV->Option (List Int)
 |[]=>some []
 |.int i::r=>(EM r).map (i :: ·)
 |_=>none
noncomputable def G0:List PV->Option (List Bool)
 |[]=>some []
 |.bl i::r=>(G0 r).map (i :: ·)
 |_=>none
set_option tactic.hygienic false
theorem L7{K:W.Frag}{G:Hp}:∀{ps:List PV}{vs:List V}{ns:List Int},EM ps=some ns->AQ K G ps vs->vs=ns.map V.int
 |[],vs,ns,e,h=>by cases e;exact h
 |.int i::r,vs,ns,e,h=>by
  unfold EM at e;cases y:EM r with
  |none=>rw[y]at e;contradiction
  |some ms=>
   rw[y]at e;cases e;obtain⟨v,us,rfl,q,t⟩:=h;subst q;rw[L7 y t,AD0]
 |.Aw::_,_,_,e,_=>by contradiction
 |.bl _::_,_,_,e,_=>by contradiction
 |.str _::_,_,_,e,_=>by contradiction
 |.tup _::_,_,_,e,_=>by contradiction
 |.lst _::_,_,_,e,_=>by contradiction
 |.rd _::_,_,_,e,_=>by contradiction
 |.By _ _::_,_,_,e,_=>by contradiction
theorem UR{K:W.Frag}{G:Hp}:∀{ps:List PV}{vs:List V}{ns:List Bool},G0 ps=some ns->AQ K G ps vs->vs=ns.map V.bl
 |[],vs,ns,e,h=>by cases e;exact h
 |.bl i::r,vs,ns,e,h=>by
  unfold G0 at e;cases y:G0 r with
  |none=>rw[y]at e;contradiction
  |some ms=>
   rw[y]at e;cases e;obtain⟨v,us,rfl,q,t⟩:=h;subst q;rw[UR y t,AD0]
 |.Aw::_,_,_,e,_=>by contradiction
 |.int _::_,_,_,e,_=>by contradiction
 |.str _::_,_,_,e,_=>by contradiction
 |.tup _::_,_,_,e,_=>by contradiction
 |.lst _::_,_,_,e,_=>by contradiction
 |.rd _::_,_,_,e,_=>by contradiction
 |.By _ _::_,_,_,e,_=>by contradiction
theorem UQ:∀{bs:List Bool}{us:List Value},An (bs.map V.bl) us->LSm.BoolsAre us bs
 |[],us,r=>by cases r;exact .nil
 |b::bs,us,r=>by
  cases r with
  |cons r1 r2=>cases r1;exact .cons b<|UQ r2
theorem oZ(hc:X.calm=true):DX X (.builtin "sum") (λxs H Q=>∃(p:Addr)(ns:List Int),xs=[.ref p]/\Rd H p (.lst<|ns.map V.int)/\Q (.int ns.sum) H):=by
 intro AB s σ H xs us Q I r h;obtain⟨p,ns,rfl,v,q⟩:=h;obtain⟨u,rfl,Z⟩:=vals1 r;cases Z;obtain⟨z,its,n,rv,e⟩:=v.ok I.AX;have hi:=intsAre_of rv;obtain⟨xs,y⟩:=hi.allInts.items;have Y:s.heap.IsList p its.toArray:=⟨_,e,rfl,n,rfl⟩;have O:=y ▸ Y;refine sum_intListG (I.ok.hd hc) O λh' tk t' P=>?_;have D:ns=xs.toList.map (·.1):=by rw[<-nums_intItems,<-y];exact(show numsOf its.toArray.toList=ns from hi.numsOf).symm
 have F:preSum (numAt xs) xs.size=ns.sum:=by rw[preSum_eq,AFv ADk,D]
 rw[F];exact⟨.int ns.sum,H,I.kept P,⟨_,rfl⟩,q⟩
theorem oM(hc:X.calm=true):DX X (.builtin "all") (λxs H Q=>∃(p:Addr)(bs:List Bool),xs=[.ref p]/\Rd H p (.lst<|bs.map V.bl)/\Q (.bl<|bs.all id) H):=by
 intro AB s σ H xs us Q I r h;obtain⟨p,bs,rfl,Y,q⟩:=h;obtain⟨u,rfl,O⟩:=vals1 r;cases O;obtain⟨z,its,n,rv,e⟩:=Y.ok I.AX;have hb:=UQ rv;have y:s.heap.IsList p its.toArray:=⟨_,e,rfl,n,rfl⟩;have P:=Heap.lt_size e;refine call_all_walk<|wpAny_pyIter_list y ?_;refine⟨s.heap.objs.size,[s.heap.objs.size,p],[s.heap.objs.size],its.toArray.size,_,_,λi=>(bs[i]?).getD true,rfl,Walks.list (A:=X.A.in1) (I.ok.hd hc) _ p (AEA P) its.toArray,
  ⟨⟨_,Heap.get?_push_size _ rfl,rfl,rfl⟩,y.push _⟩,λi v s' Q' E' D Z=>?_,λh' tk F=>?_⟩
 .obtain⟨b,e,rfl⟩:=hb.get i v (by simpa using D);simp only[e]at Z;exact wpAny_truthy_bool Z
 .have e:((List.range its.toArray.size).all λi=>(bs[i]?).getD true)=bs.all id:=by rw[AD3,hb.length];exact LSm.range_all bs
  rw[e];exact⟨.bl<|bs.all id,H,I.kept<|LSm.kept_iter F,rfl,q⟩
theorem oN(hc:X.calm=true):DX X (.builtin "any") (λxs H Q=>∃(p:Addr)(bs:List Bool),xs=[.ref p]/\Rd H p (.lst<|bs.map V.bl)/\Q (.bl<|bs.any id) H):=by
 intro AB s σ H xs us Q I r h;obtain⟨p,bs,rfl,Y,q⟩:=h;obtain⟨u,rfl,O⟩:=vals1 r;cases O;obtain⟨z,its,n,rv,e⟩:=Y.ok I.AX;have hb:=UQ rv;have y:s.heap.IsList p its.toArray:=⟨_,e,rfl,n,rfl⟩;have P:=Heap.lt_size e;refine call_any_walk<|wpAny_pyIter_list y ?_;refine⟨s.heap.objs.size,[s.heap.objs.size,p],[s.heap.objs.size],its.toArray.size,_,_,λi=>(bs[i]?).getD false,rfl,Walks.list (A:=X.A.in1) (I.ok.hd hc) _ p (AEA P) its.toArray,
  ⟨⟨_,Heap.get?_push_size _ rfl,rfl,rfl⟩,y.push _⟩,λi v s' Q' E' D Z=>?_,λh' tk F=>?_⟩
 .obtain⟨b,e,rfl⟩:=hb.get i v (by simpa using D);simp only[e]at Z;exact wpAny_truthy_bool Z
 .have e:((List.range its.toArray.size).any λi=>(bs[i]?).getD false)=bs.any id:=by rw[AD3,hb.length];exact LSm.range_any bs
  rw[e];exact⟨.bl<|bs.any id,H,I.kept<|LSm.kept_iter F,rfl,q⟩
set_option tactic.hygienic true
def HV:List RV->Option RV
 |[r]=>(r.list.bind EM).map λns=>.cl<|.int ns.sum
 |_=>none
def Ge:List RV->Option RV
 |[r]=>(r.list.bind G0).map λns=>.cl<|.bl<|ns.all id
 |_=>none
def Jk:List RV->Option RV
 |[r]=>(r.list.bind G0).map λns=>.cl<|.bl<|ns.any id
 |_=>none
theorem yA:FD X.K HV (λxs H Q=>∃(p:Addr)(ns:List Int),xs=[.ref p]/\Rd H p (.lst<|ns.map V.int)/\Q (.int ns.sum) H):=by
 intro rs z H0 G H vs Q sub sh e rv q;unfold HV at e;split at e
 .rename_i r;cases es:r.list with
  |none=>rw[es]at e;contradiction
  |some ps=>
   rw[es]at e;cases y:EM ps with
   |none=>rw[AES,y]at e;contradiction
   |some ns=>
    rw[AES,y]at e;cases e;obtain⟨v,rfl,Z⟩:=rv.one;obtain⟨a,us,rfl,u,rl⟩:=Z.list sub es;rw[L7 y rl]at u;exact⟨a,ns,rfl,u,q _ G H (Al.refl sub)<|by rfl⟩
 .contradiction
theorem xu:FD X.K Ge (λxs H Q=>∃(p:Addr)(ns:List Bool),xs=[.ref p]/\Rd H p (.lst<|ns.map V.bl)/\Q (.bl<|ns.all id) H):=by
 intro rs z H0 G H vs Q sub sh e rv q;unfold Ge at e;split at e
 .rename_i r;cases es:r.list with
  |none=>rw[es]at e;contradiction
  |some ps=>
   rw[es]at e;cases y:G0 ps with
   |none=>rw[AES,y]at e;contradiction
   |some ns=>
    rw[AES,y]at e;cases e;obtain⟨v,rfl,Z⟩:=rv.one;obtain⟨a,us,rfl,u,rl⟩:=Z.list sub es;rw[UR y rl]at u;exact⟨a,ns,rfl,u,q _ G H (Al.refl sub)<|by rfl⟩
 .contradiction
theorem xw:FD X.K Jk (λxs H Q=>∃(p:Addr)(ns:List Bool),xs=[.ref p]/\Rd H p (.lst<|ns.map V.bl)/\Q (.bl<|ns.any id) H):=by
 intro rs z H0 G H vs Q sub sh e rv q;unfold Jk at e;split at e
 .rename_i r;cases es:r.list with
  |none=>rw[es]at e;contradiction
  |some ps=>
   rw[es]at e;cases y:G0 ps with
   |none=>rw[AES,y]at e;contradiction
   |some ns=>
    rw[AES,y]at e;cases e;obtain⟨v,rfl,Z⟩:=rv.one;obtain⟨a,us,rfl,u,rl⟩:=Z.list sub es;rw[UR y rl]at u;exact⟨a,ns,rfl,u,q _ G H (Al.refl sub)<|by rfl⟩
 .contradiction
end
end L2.PL
namespace L2.PL
open PySem PySem.Spec PyProof.Rows
def Dz(ρ:AS)(σ:St)(ρ':AS)(y:St):Prop:=∀(i:Nat)(s:SV),s.Fu=true->ρ'[i]? = some (some s)->ρ[i]? = some (some s)/\y[i]? = σ[i]?
theorem Dz.refl(ρ:AS)(σ:St):Dz ρ σ ρ σ:=λ_ _ _ h=>⟨h,rfl⟩
theorem Dz.trans{ρ Ay CF:AS}{σ Gq Ea:St}(a:Dz ρ σ Ay Gq)(b:Dz Ay Gq CF Ea):Dz ρ σ CF Ea:=λi ps o h=>by obtain⟨y,q⟩:=b i ps o h;obtain⟨v,u⟩:=a i ps o y;exact⟨v,q.trans u⟩
abbrev GF:=PV->AS->Option AS
def Mh(K:W.Frag)(g:GF):TG:=λv σ H Q=>∃G ρ p ρ',BW K G H ρ σ/\Rep K G p v/\g p ρ=some ρ'/\∀y,BW K G H ρ' y->Dz ρ σ ρ' y->Q y H
def Ht(X:Cx)(tg:Expr)(g:GF):Prop:=PG X tg<|Mh X.K g
abbrev Hs:=List PV->AS->Option AS
def AB5(K:W.Frag)(g:Hs):Hy:=λvs σ H Q=>∃G ρ ps ρ',BW K G H ρ σ/\AQ K G ps vs/\g ps ρ=some ρ'/\∀y,BW K G H ρ' y->Dz ρ σ ρ' y->Q y H
def LU(X:Cx)(y:List Expr)(g:Hs):Prop:=Gw X y<|AB5 X.K g
theorem PG.imp{X:Cx}{e:Expr}{t t':TG}(h:PG X e t)(i:∀v σ H Q,t' v σ H Q->t v σ H Q):PG X e t':=λAB s σ H v u Q I r q=>h AB s σ H v u Q I r<|i v σ H Q q
theorem Gw.imp{X:Cx}{e:List Expr}{t t':Hy}(h:Gw X e t)(i:∀v σ H Q,t' v σ H Q->t v σ H Q):Gw X e t':=λAB s σ H v u Q I r q=>h AB s σ H v u Q I r<|i v σ H Q q
theorem get_set{α:Type}{l:List (Option α)}{i j:Nat}{x y:α}(h:(l.set i<|some x)[j]? = some (some y)):(j=i/\x=y)\/(j≠i/\l[j]? = some (some y)):=by
 by_cases e:j=i
 .subst e;by_cases q:j<l.length
  .rw[AGc q]at h;left;exact⟨rfl,by simpa using h⟩
  .rw[List.set_eq_of_length_le<|MI q]at h;rw[AH9<|MI q]at h;contradiction
 .right;rw[AEb<|AFH e]at h;exact⟨e,h⟩
theorem set_slot{α:Type}{l:List (Option α)}{i:Nat}{x:α}(h:i<l.length):(l.set i<|some x)[i]? = some (some x):=by rw[AGc h]
theorem gZ{α:Type}{l:List (Option α)}{i:Nat}{x y:α}(h:(l.set i<|some x)[i]? = some (some y)):i<l.length:=by have:=(ADw.mp h).1;simpa using this
theorem BW.Dh{K:W.Frag}{G H:Hp}{ρ:AS}{σ:St}{i:Nat}{p:PV}{v:V}(R:BW K G H ρ σ)(h:Rep K G p v):BW K G H (ρ.set i<|some<|.im p)<|σ.set i<|some v:=by
 refine⟨R.sub,λj sv e=>?_,λj k ps qs a b Q y O u P Z Y=>?_,by simpa using R.len⟩
 .rcases get_set e with⟨rfl,rfl⟩|⟨D,F⟩
  .have B:=gZ e;exact⟨v,set_slot (by rw[<-R.len];exact B),h⟩
  .obtain⟨w,y,q⟩:=R.slot j sv F;exact⟨w,by rw[AEb<|AFH D];exact y,q⟩
 .rcases get_set y with⟨_,z⟩|⟨S,y⟩
  .subst z;contradiction
  .rcases get_set u with⟨_,z⟩|⟨T,u⟩
   .subst z;contradiction
   .rw[AEb<|AFH S]at Z;rw[AEb<|AFH T]at Y;exact R.apart j k ps qs a b Q y O u P Z Y
theorem Dz.Dh{ρ:AS}{σ:St}{i:Nat}{p:PV}{v:V}:Dz ρ σ (ρ.set i<|some<|.im p)<|σ.set i<|some v:=λj ps o h=>by
 rcases get_set h with⟨_,z⟩|⟨y,e⟩
 .subst z;contradiction
 .exact⟨e,by rw[AEb<|AFH y]⟩
noncomputable def Aj(i:Nat):GF:=λp ρ=>some<|ρ.set i<|some<|.im p
section
variable{X:Cx}{a b c e tg iter:Expr}{es:List Expr}{fa fb fc f:EF}{ga:AF}{g:GF}{gs:Hs}{pos:Pos}
theorem AAL(i:Nat){x:Str}(y:X.N.Nodup)(hi:X.N[i]? = some x)(u:Loc X.env.scope x)(Z:X.fn x=true\/X.env.scope.names.lookup x=some .local):Ht X (.Name x pos)<|Aj i:=
 PG.imp (yg y hi u Z) (by rintro v σ H Q ⟨G,ρ,p,ρ',R,Y,e,q⟩;cases e;exact q _ (R.Dh Y) Dz.Dh)
noncomputable def Kb:Hs:=λps ρ=>match ps with|[]=>some ρ|_=>none
noncomputable def Fq(g:GF)(h:Hs):Hs:=λps ρ=>match ps with|p::r=>(match g p ρ with|some Ay=>h r Ay|none=>none)|[]=>none
theorem AAO:LU X [] Kb:=Gw.imp yj (by
 rintro v σ H Q ⟨G,ρ,ps,ρ',R,y,e,q⟩;unfold Kb at e;split at e
 .cases e;exact⟨y,q σ R<|Dz.refl _ _⟩
 .contradiction)
set_option tactic.hygienic true
theorem AAN(Z:Ht X e g)(Y:LU X es gs)(hs:(assignEach (e::es) X.env).map (·.2)=assign e X.env::(assignEach es X.env).map (·.2)):LU X (e::es)<|Fq g gs:=Gw.imp (yi Z Y hs) (by
 rintro v σ H Q ⟨G,ρ,ps,ρ',R,O,e,q⟩;unfold Fq at e;split at e
 .rename_i p r;split at e
  .rename_i y P;obtain⟨u,us,rfl,D,rs⟩:=O;exact⟨u,us,rfl,G,ρ,p,y,R,D,P,λGq F B=>⟨G,y,r,ρ',F,rs,e,λS R2 T=>q S R2<|B.trans T⟩⟩
  .contradiction
 .contradiction)
noncomputable def JY(n:Nat)(gs:Hs):GF:=λp ρ=>match p with|.tup ps=>if ps.length=n then gs ps ρ else none|_=>none
theorem AAM{k:Nat}{n:Nat}(hc:X.calm=true)(h:LU X es gs)(hn:(assignEach es X.env).length=n)(y:(assignEach es X.env).findIdx? (·.1)=none):Ht X (.Tuple es k pos)<|JY n gs:=
 PG.imp (yh hc h hn y) (by
  rintro v σ H Q ⟨G,ρ,p,ρ',R,u,e,q⟩;unfold JY at e;split at e
  .rename_i ps;split at e
   .rename_i Z;obtain⟨a,vs,rfl,Y,rl⟩:=u;exact⟨a,vs,rfl,BS.same R.sub Y,by rw[<-rl.len];exact Z,G,ρ,ps,ρ',R,rl,e,q⟩
   .contradiction
  .contradiction)
structure M8(ADh:It)(K:W.Frag)(G Hx:Hp)(ps:List PV):Prop where
 ex:∃vs,AQ K G ps vs/\∀H,AY Hx H->(∀(i:Nat)(x:V),vs[i]? = some x->ADh.go i H/\∀y H',ADh.TH i H y H'->H'=H/\y=x)/\ADh.stop vs.length H
abbrev IF:=AS->Option (List PV)
def km(K:W.Frag)(cl:Bool)(f:IF):TI:=λσ H R=>∃G ρ ps,BW K G H ρ σ/\f ρ=some ps/\∀ADh G' H',Al G H G' H'->M8 ADh K G' (if cl=true then G' else H') ps->R ADh H'
def JF(X:Cx)(cl:Bool)(tg iter:Expr)(f:IF):Prop:=PI X tg iter<|km X.K cl f
theorem PI.imp{X:Cx}{tg iter:Expr}{t t':TI}(h:PI X tg iter t)(i:∀σ H Q,t' σ H Q->t σ H Q):PI X tg iter t':=λAB s σ H Q I q=>h AB s σ H Q I<|i σ H Q q
theorem fK{K:W.Frag}{G Hx:Hp}{ps:List PV}{vs:List V}{a:Addr}(h:AQ K G ps vs)(q:Rd Hx a<|.lst vs):M8 (Tt K a) K G Hx ps:=by refine⟨vs,h,λH s=>⟨λi x e=>⟨⟨vs,x,.inl<|Rd.same s q,e⟩,λy H' ⟨v,u⟩=>⟨v,?_⟩⟩,⟨vs,.inl<|Rd.same s q,ADt _⟩⟩⟩;have:=u vs<|.inl<|Rd.same s q;rw[e]at this;exact(AEU this).symm
def B9(cl:Bool)(f:EF):IF:=λρ=>match f ρ with|some r=>(if cl=true then(match r.clean with|some (.lst ps)=>some ps|_=>none)else r.list)|none=>none
theorem AAP{cl:Bool}(h:PX X iter f):JF X cl tg iter<|B9 cl f:=PI.imp (yn h) (by
 rintro σ H Q ⟨G,ρ,ps,R,e,q⟩;unfold B9 at e;split at e
 .rename_i r u;refine⟨G,ρ,r,R,u,λv G' H' s rv=>?_⟩;cases cl with
  |true=>
   rw[ADr rfl]at e;split at e
   .rename_i qs Z;cases e;have Y:=rv.clean s.sub Z;obtain⟨a,vs,rfl,y,rl⟩:=Y;exact⟨a,rfl,⟨vs,.inl<|Rd.same s.all.sub y⟩,q _ _ _ s.all<|fK rl y⟩
   .contradiction
  |false=>
   obtain⟨a,vs,rfl,y,rl⟩:=rv.list s.sub e;exact⟨a,rfl,⟨vs,.inl y⟩,q _ _ _ s<|fK rl y⟩
 .contradiction)
noncomputable def MV(i j:Int):List PV:=(List.range (j-i).toNat).map λ(k:Nat)=>.int<|i+(k:Int)
theorem fL{K:W.Frag}{G Hx:Hp}{i:Int}{n:Nat}:M8 (M9 i n) K G Hx<|(List.range n).map λ(k:Nat)=>.int<|i+(k):=by
 refine⟨(List.range n).map λ(k:Nat)=>.int<|i+(k),?_,λH _=>⟨λk x e=>?_,by show n<=_;simp⟩⟩
 .have v:∀l:List Nat,AQ K G (l.map λk=>PV.int<|i+(k:Nat))<|l.map λk=>V.int<|i+(k:Nat):=by
   intro l
   induction l with
   |nil=>rfl
   |cons x r ih=>
    exact⟨_,_,rfl,by rfl,ih⟩
  exact v _
 .rw[AEy]at e;cases q:(List.range n)[k]? with
  |none=>rw[q]at e;contradiction
  |some m=>
   rw[q]at e;obtain⟨Z,u⟩:=ADw.mp q;rw[AGY]at u;subst u;cases e;exact⟨(show k<n by simpa using Z),(by rintro y H' ⟨Y,q⟩;exact⟨Y,q⟩)⟩
def JC(i:Int):Prop:=-(2 ^ 62)<=i/\i<2 ^ 62
instance{i:Int}:Decidable<|JC i:=by unfold JC;infer_instance
def Cs(g:AF):IF:=λρ=>match g ρ with|some [.cl<|.int j]=>if JC j then some (MV 0 j)else none|_=>none
def EI(g:AF):IF:=λρ=>match g ρ with|some [.cl<|.int i,.cl<|.int j]=>if JC i/\JC j then some (MV i j)else none|_=>none
theorem AAQ{cl:Bool}{p:Pos}(hm:X.mg "range" = none)(ha:Co X [a] ga)(u:Gl X "range")(hs:starEach [a] X.env=[(false,eval a X.env)]):JF X cl tg (.Call (.Name "range" p) [a] [] pos)<|Cs ga:=PI.imp (yo u hm ha hs) (by
 rintro σ H Q ⟨G,ρ,ps,R,e,q⟩;unfold Cs at e;split at e
 .rename_i j Z;split at e
  .rename_i y;cases e;refine⟨G,ρ,_,R,Z,λv G' H' s rv=>?_⟩;obtain⟨w,rfl,Y⟩:=rv.one;refine⟨j,by rw[Y.int],y.1,y.2,q _ _ _ s ?_⟩;have:=fL (K:=X.K) (G:=G') (Hx:=if cl=true then G' else H') (i:=0) (n:=j.toNat);simpa[MV]using this
  .contradiction
 .contradiction)
theorem AAR{cl:Bool}{p:Pos}(hm:X.mg "range" = none)(ha:Co X [a,b] ga)(u:Gl X "range")(hs:starEach [a,b] X.env=[(false,eval a X.env),(false,eval b X.env)])(Z:starEach [b] X.env=[(false,eval b X.env)]):JF X cl tg (.Call (.Name "range" p) [a,b] [] pos)<|EI ga:=PI.imp (yq u hm ha hs Z) (by
 rintro σ H Q ⟨G,ρ,ps,R,e,q⟩;unfold EI at e;split at e
 .rename_i i j Y;split at e
  .rename_i y;cases e;refine⟨G,ρ,_,R,Y,λv G' H' s rv=>?_⟩;obtain⟨w,w',rfl,O,P⟩:=rv.two;refine⟨i,j,by rw[O.int,P.int],⟨y.1.1,y.1.2,y.2.1,y.2.2⟩,q _ _ _ s ?_⟩;exact fL
  .contradiction
 .contradiction)
noncomputable def Bf(own:Nat)(cap:List Nat)(ρ:AS):AS:=List.replicate own none++cap.map λj=>(ρ[j]?).join
def collect(g:GF)(t:BF)(fe:EF)(y:AS):List PV->Option (List PV)
 |[]=>some []
 |x::xs=>match g x y with
  |none=>none
  |some Ay=>match t Ay with
   |none=>none
   |some false=>collect g t fe y xs
   |some true=>match fe Ay with
    |none=>none
    |some r=>match r.clean,collect g t fe y xs with
     |some p,some ps=>some (p::ps)
     |_,_=>none
def BH(its:IF)(own:Nat)(cap:List Nat)(g:GF)(t:BF)(fe:EF):EF:=λρ=>match its ρ with
 |none=>none
 |some xs=>if xs.length<=1000 then(collect g t fe (Bf own cap ρ) xs).map .fr else none
set_option tactic.hygienic false
theorem BW.cap{K:W.Frag}{G H:Hp}{ρ:AS}{σ:St}(R:BW K G H ρ σ)(own:Nat)(cap:List Nat)(C:cap.Nodup):BW K G H (Bf own cap ρ)<|GG own cap σ:=by
 have get:∀{i:Nat}{sv:SV},(Bf own cap ρ)[i]? = some (some sv)->∃k j,i=own+k/\cap[k]? = some j/\ρ[j]? = some (some sv):=by
  intro i sv h;unfold Bf at h;by_cases hi:i<own
  .rw[AEM (by simpa using hi),AFs]at h;split at h<;>simp at h
  .rw[AED (by simpa using hi),AEy]at h;simp only[AFi]at h;cases y:cap[i-own]? with
   |none=>rw[y]at h;simp at h
   |some j=>
    rw[y]at h;simp only[AEr,AEi]at h;refine⟨i-own,j,ADi,y,?_⟩;cases hs:ρ[j]? with
    |none=>rw[hs]at h;simp at h
    |some o=>rw[hs]at h;simp at h;rw[h]
 have put:∀{k j:Nat}{v:V},cap[k]? = some j->σ[j]? = some (some v)->(GG own cap σ)[own+k]? = some (some v):=by
  intro k j v E I;unfold GG;rw[AED ADk,AEy];simp only[AFi,AEv,E,AEr,I]
  rfl
 refine⟨R.sub,λi sv e=>?_,λi j ps qs a b u U n t x Z Y=>?_,by simp[Bf,GG]⟩
 .obtain⟨k,j,rfl,y,e'⟩:=get e;obtain⟨v,ev,q⟩:=R.slot j sv e';exact⟨v,put y ev,q⟩
 .obtain⟨k1,Q,rfl,O,P⟩:=get U;obtain⟨k2,D,rfl,F,B⟩:=get t;obtain⟨v1,S,_⟩:=R.slot Q _ P;obtain⟨v2,T,_⟩:=R.slot D _ B;rw[put O S]at Z;rw[put F T]at Y;cases Z;cases Y;refine R.apart Q D ps qs a b (λz=>u ?_) P n B x S T;subst z;obtain⟨l1,q1⟩:=ADw.mp O;obtain⟨l2,q2⟩:=ADw.mp F;have:=(AHL C).mp<|q1.trans q2.symm;clear u;lia
theorem BW.W4{K:W.Frag}{G H:Hp}{ρ:AS}{σ:St}(R:BW K G H ρ σ):∀(j:Nat)(s:SV)(b:Addr),s.Fu=true->ρ[j]? = some (some s)->σ[j]? = some (some<|.ref b)->H b≠none:=λj s b o u y z=>by
 obtain⟨v,Z,q⟩:=R.slot j _ u;rw[Z]at y;cases y;cases s with
 |im p=>contradiction
 |exc nm=>contradiction
 |own ps=>
  obtain⟨a,vs,h,_,ha,_⟩:=q;cases h;rw[z]at ha;contradiction
 |Cj t ks xs=>
  obtain⟨a,vs,h,_,ha,_⟩:=q;cases h;rw[z]at ha;contradiction
 |K4 AI=>
  obtain⟨a,h,_,ha⟩:=q;cases h;rw[z]at ha;contradiction
theorem BW.weak{K:W.Frag}{G H:Hp}{ρ ρ':AS}{σ:St}(R:BW K G H ρ' σ)(h:∀(k:Nat)(sv:SV),ρ[k]? = some (some sv)->ρ'[k]? = some (some sv))(y:ρ.length=ρ'.length):BW K G H ρ σ:=
 ⟨R.sub,λi sv e=>R.slot i sv<|h i sv e,λi j ps qs a b q v u Z Y Q O=>R.apart i j ps qs a b q (h _ _ v) u (h _ _ Z) Y Q O,y.trans R.len⟩
theorem BW.X6{K:W.Frag}{G H:Hp}{ρ:AS}{σ:St}{D:Addr}{o:HO}(R:BW K G H ρ σ)(g:G D=none)(h:∀(k:Nat)(s:SV),s.Fu=true->ρ[k]? = some (some s)->σ[k]?≠some (some<|.ref D)):BW K G (upd H D o) ρ σ:=by
 refine⟨λb u q=>by rw[Av<|Dv q g];exact R.sub _ _ q,λi sv e=>?_,R.apart,R.len⟩;obtain⟨v,y,q⟩:=R.slot i sv e;refine⟨v,y,?_⟩;cases sv with
 |exc nm=>exact q
 |im p=>exact q
 |own ps=>
  obtain⟨a,vs,rfl,ga,ha,r⟩:=q;refine⟨a,vs,rfl,ga,?_,r⟩;rw[Av λz=>h i _ rfl e<|by rw[y,z]];exact ha
 |Cj t ks xs=>
  obtain⟨a,vs,rfl,ga,ha,r⟩:=q;refine⟨a,vs,rfl,ga,?_,r⟩;rw[Av λz=>h i _ rfl e<|by rw[y,z]];exact ha
 |K4 AI=>
  obtain⟨a,rfl,ga,ha⟩:=q;refine⟨a,rfl,ga,?_⟩;rw[Av λz=>h i _ rfl e<|by rw[y,z]];exact ha
theorem Al.X6{G H G' H':Hp}{D:Addr}{o:HO}(s:Al G H G' H')(h:H D=none)(g:G' D=none):Al G H G'<|upd H' D o:=
 ⟨s.gg,λb u q=>by rw[Av<|Dv q h];exact s.hh _ _ q,λb u q=>by rw[Av<|Dv q g];exact s.sub _ _ q,s.ex⟩
def Hr(own:Nat)(g:GF):Prop:=∀p ρ ρ',g p ρ=some ρ'->ρ'.length=ρ.length/\∀(k:Nat),own<=k->ρ'[k]? = ρ[k]?
def M7(own:Nat)(g:Hs):Prop:=∀p ρ ρ',g p ρ=some ρ'->ρ'.length=ρ.length/\∀(k:Nat),own<=k->ρ'[k]? = ρ[k]?
theorem rS{own i:Nat}(h:i<own):Hr own<|Aj i:=λp ρ ρ' e=>by cases e;exact⟨List.length_set,λk hk=>AEb J⟩
theorem rW{own:Nat}:M7 own Kb:=λp ρ ρ' e=>by
 unfold Kb at e;split at e
 .cases e;exact⟨rfl,λ_ _=>rfl⟩
 .contradiction
set_option tactic.hygienic true
theorem rV{own:Nat}(q:Hr own g)(v:M7 own gs):M7 own<|Fq g gs:=λp ρ ρ' e=>by
 unfold Fq at e;split at e
 .split at e
  .rename_i Ay u;obtain⟨Z,Y⟩:=q _ _ _ u;obtain⟨b1,b2⟩:=v _ _ _ e;exact⟨b1.trans Z,λk y=>(b2 k y).trans<|Y k y⟩
  .contradiction
 .contradiction
theorem rT{own n:Nat}(h:M7 own gs):Hr own<|JY n gs:=λp ρ ρ' e=>by
 unfold JY at e;split at e
 .split at e
  .exact h _ _ _ e
  .contradiction
 .contradiction
theorem oe{own:Nat}{cap:List Nat}{ρ:AS}{k:Nat}{sv:SV}(h:(Bf own cap ρ)[k]? = some (some sv)):own<=k:=by
 unfold Bf at h;by_cases hi:k<own
 .rw[AEM (by simpa using hi),AFs]at h;split at h<;>simp at h
 .exact MI hi
theorem ku{K:W.Frag}{own:Nat}{cap:List Nat}{t:BF}{fe:EF}{ti:TI}(EK:cap.Nodup)(hk:Hr own g){G:Hp}{ρ:AS}{xs zs:List PV}{σ:St}{H:Hp}{Q:VK}(R:BW K G H ρ σ)(hl:xs.length<=1000)(ec:collect g t fe (Bf own cap ρ) xs=some zs) (uY:∀S:It->Hp->Prop,(∀ADh G' H',Al G H G' H'->M8 ADh K G' H' xs->S ADh H')->ti σ H S) (q:∀v G' H',Al G H G' H'->Bo K H G' H' (.fr zs) v->Q v H'):Ss own cap ti (Mh K g) (EY K t) (tX K fe) σ H Q:=by
  refine uY _ λADh x H1 s1 J1=>λD Y=>?_;obtain⟨vs,rl,hJ⟩:=J1.ex;have BO:=rl.len;have R1:=(R.step s1).cap own cap EK;refine⟨λi m Ag H'=>m=xs.length-i/\i<=xs.length/\∃G' ys ps rest,Al x H1 G' H'/\G' D=none/\H' D=some (.lst ys)/\AQ K G' ps ys/\ps.length<=i/\collect g t fe (Bf own cap ρ) (xs.drop i)=some rest/\ps++rest=zs/\
   BW K G' H' (Bf own cap ρ) Ag/\(∀(k:Nat)(s:SV),s.Fu=true->(Bf own cap ρ)[k]? = some (some s)->Ag[k]?≠some (some<|.ref D)),⟨xs.length,ADk,AEu _,x,[],[],zs,Al.Gi s1.sub _ Y,s1.sub.free Y,Bu,by rfl,ADt _,by exact ec,rfl,?_,?_⟩,?_⟩
  .exact R1.step<|Al.Gi s1.sub _ Y
  .intro k s ho A4 z;exact R1.W4 k s D ho A4 z Y
  .rintro i m Ag H' ⟨rfl,hi,G',ys,ps,rest,st,gD,O,T,BU,Z,C,RO,P⟩;obtain⟨Vb,V2⟩:=hJ H' st.hh;by_cases A5:i<xs.length
   .right;have OH:vs[i]? = some vs[i]:=ADp ADj;obtain⟨go,yl⟩:=Vb i _ OH;have V8:=ADp A5;have V1:Rep K G' xs[i] vs[i]:=by obtain⟨u,eu,ru⟩:=K6 rl.paired V8;rw[OH]at eu;cases eu;exact Rep.same st.gg ru
    have N0:=AEx A5;rw[N0]at Z;unfold collect at Z;split at Z
    .contradiction
    .rename_i F e1;obtain⟨kl,kk⟩:=hk _ _ _ e1;have hw:∀(k:Nat)(sv:SV),(Bf own cap ρ)[k]? = some (some sv)->F[k]? = some (some sv):=λk sv h=>by rw[kk k<|oe h];exact h
     refine⟨go,λJB E=>∃I lx EW U,Al x H1 I E/\I D=none/\E D=some (.lst lx)/\AQ K I EW lx/\EW.length<=i+1/\collect g t fe (Bf own cap ρ) (xs.drop<|i+1)=some U/\EW++U=zs/\
      BW K I E (Bf own cap ρ) JB/\(∀(k:Nat)(s:SV),s.Fu=true->(Bf own cap ρ)[k]? = some (some s)->JB[k]?≠some (some<|.ref D)),λJB E hN=>⟨xs.length-(i+1),ADi,rfl,ADn,hN⟩,λy H3 hy=>?_⟩
     obtain⟨rfl,rfl⟩:=yl y H3 hy;refine⟨G',Bf own cap ρ,xs[i],F,RO,V1,e1,λGq B xM=>?_⟩;have Vs:∀(k:Nat)(s:SV),s.Fu=true->(Bf own cap ρ)[k]? = some (some s)->Gq[k]?≠some (some<|.ref D):=λk qs o h z=>by obtain⟨h1,h2⟩:=xM k qs o<|hw k _ h;rw[h2]at z;exact P k qs o h z
     split at Z
     .contradiction
     .rename_i et;refine⟨G',F,false,B,et,λG2 H2 s2=>?_⟩;exact⟨G2,ys,ps,rest,st.trans s2,s2.ex D (.l O) gD,s2.hh _ _ O,AQ.same s2.gg T,MM BU,Z,C,(B.step s2).weak hw kl.symm,Vs⟩
     .rename_i et;refine⟨G',F,true,B,et,λG2 H2 s2=>?_⟩;refine vL ?_;split at Z
      .contradiction
      .rename_i rr er;split at Z
       .rename_i p U ep qT;cases Z;refine⟨G2,F,rr,B.step s2,er,λv G3 H3 s3 rv=>?_⟩;have n:=s3.all;have dG:=s2.hh _ _ O;have rH:=s2.ex D (.l O) gD;have VN:=n.ex D (.l dG) rH;have hys:=T.len.symm;refine⟨ys,s3.hh _ _ dG,AEz (J:ys.length<=1000) ADl,Ep G3 H2 H3,ys ++ [v],ps ++ [p],U,?_,VN,Bu,?_,?_,qT,?_,?_,Vs⟩
        .exact((st.trans s2).trans n).X6 Y VN
        .exact AQ.of<|K5 (AQ.same (s2.gg.trans n.gg) T).paired<|.cons (rv.clean s3.sub ep) .nil
        .simp only[AD1,AFS];exact Od BU
        .rw[AEW];exact C
        .exact(((B.step s2).step n).weak hw kl.symm).X6 VN Vs
       .contradiction
   .left;have Vd:i=xs.length:=J
    subst Vd;rw[AHt]at Z;cases Z;rw[AE1]at C;subst C;refine⟨by rw[BO];exact V2,q _ G' H' (s1.trans st) ⟨D,ys,rfl,s1.hh.free Y,gD,O,T⟩⟩
theorem kr{K:W.Frag}{own:Nat}{cap:List Nat}{its:IF}{t:BF}{fe:EF}(v:cap.Nodup)(u:Hr own g){σ:St}{H:Hp}{Q:VK}(h:tX K (BH its own cap g t fe) σ H Q):Ss own cap (km K false its) (Mh K g) (EY K t) (tX K fe) σ H Q:=by
 obtain⟨G,ρ,r,R,e,q⟩:=h;unfold BH at e;split at e
 .contradiction
 .rename_i xs ex;split at e
  .rename_i Z;cases y:collect g t fe (Bf own cap ρ) xs with
   |none=>rw[y]at e;contradiction
   |some zs=>
    rw[y]at e;cases e;exact ku v u R Z y (λS h=>⟨G,ρ,xs,R,ex,h⟩) q
  .contradiction
variable{ifs:List Expr}{elt:Expr}{scope:Scope}{Nb:List Str}{own:Nat}{cap:List Nat}{its:IF}{t:BF}{fe:EF}
def J6(X:Cx)(ifs:List Expr)(t:BF):Prop:=Gx X ifs<|EY X.K t
theorem Gx.imp{X:Cx}{e:List Expr}{t t':TT}(h:Gx X e t)(i:∀σ H Q,t' σ H Q->t σ H Q):Gx X e t':=λAB s σ H Q I q=>h AB s σ H Q I<|i σ H Q q
noncomputable def Bk:BF:=λ_=>some true
theorem AAS:J6 X [] Bk:=Gx.imp yu (by rintro σ H Q ⟨G,ρ,r,R,e,q⟩;cases e;exact q G H<|Al.refl R.sub)
theorem AAT(h:C6 X c t):J6 X [c] t:=yv h
theorem zg(hc:X.calm=true)(O:F9 X scope Nb own cap)(y:cap.Nodup)(q:Hr own g)(hi:JF X false tg iter its)(v:∀C s H fp AB,Ht (B7 X Nb scope C s H fp AB) tg g)(u:∀C s H fp AB,J6 (B7 X Nb scope C s H fp AB) ifs t)(he:∀C s H fp AB,PX (B7 X Nb scope C s H fp AB) elt fe) (hs:∀x,foldedSetIterable iter X.env x=pure x):PX X (.ListComp elt [⟨tg,iter,ifs,0⟩] scope pos)<|BH its own cap g t fe:=
 PE.imp (i9 (g:=Mh X.K g) (ti:=EY X.K t) (te:=tX X.K fe) hc O hi v u he hs) λ_ _ _ h=>kr y q h
end
inductive Out where
 |nx (ρ:AS)|rt (r:RV)|bk (ρ:AS)|ct (ρ:AS)
abbrev SF:=AS->Option Out
structure SR(K:W.Frag)(Ae AU G H:Hp)(ρ:AS)(σ:St):Prop where
 r:BW K G H ρ σ
 gg:AY Ae G
 hh:AY AU H
 ex:∀a,Mu AU a->Ae a=none->G a=none
 new:∀(i:Nat)(s:SV)(a:Addr),s.Fu=true->ρ[i]? = some (some s)->σ[i]? = some (some<|.ref a)->AU a=none
theorem SR.step{K:W.Frag}{Ae AU G H G' H':Hp}{ρ:AS}{σ:St}(s:Al G H G' H')(h:SR K Ae AU G H ρ σ):SR K Ae AU G' H' ρ σ:=
 ⟨h.r.step s,h.gg.trans s.gg,h.hh.trans s.hh,λa e n=>s.ex a (e.same h.hh)<|h.ex a e n,h.new⟩
theorem SR.O6{K:W.Frag}{Ae AU G H:Hp}{ρ:AS}{σ:St}(h:SR K Ae AU G H ρ σ):Al Ae AU G H:=⟨h.gg,h.hh,h.r.sub,h.ex⟩
theorem SR.turn{K:W.Frag}{Ae AU G H:Hp}{ρ ρ':AS}{σ Ag:St}(h:SR K Ae AU G H ρ σ)(r:BW K G H ρ' Ag)(k:Dz ρ σ ρ' Ag):SR K Ae AU G H ρ' Ag:=
 ⟨r,h.gg,h.hh,h.ex,λi ps a o y q=>by obtain⟨v,u⟩:=k i ps o y;exact h.new i ps a o v<|u ▸ q⟩
def Pj(K:W.Frag)(Ae AU G:Hp)(D:Ends):Out->Prop
 |.nx ρ'=>∀y G' H',AY G G'->SR K Ae AU G' H' ρ' y->D.nx y H'
 |.bk ρ'=>∀y G' H',AY G G'->SR K Ae AU G' H' ρ' y->D.bk y H'
 |.ct ρ'=>∀y G' H',AY G G'->SR K Ae AU G' H' ρ' y->D.ct y H'
 |.rt r=>∀v G' H',Al Ae AU G' H'->Bo K AU G' H' r v->D.rt v H'
theorem Pj.mono{K:W.Frag}{Ae AU G v:Hp}{D:Ends}{o:Out}(s:AY G v)(h:Pj K Ae AU G D o):Pj K Ae AU v D o:=by
 cases o with
 |nx ρ=>exact λy G' H' q=>h y G' H'<|s.trans q
 |bk ρ=>exact λy G' H' q=>h y G' H'<|s.trans q
 |ct ρ=>exact λy G' H' q=>h y G' H'<|s.trans q
 |rt r=>exact h
def PB(K:W.Frag)(Ae AU:Hp)(g:SF):TS:=λD σ H=>∃G ρ o,SR K Ae AU G H ρ σ/\g ρ=some o/\Pj K Ae AU G D o
def DN(X:Cx)(Ae AU:Hp)(st:Stmt)(g:SF):Prop:=PS X st<|PB X.K Ae AU g
def Ed(X:Cx)(Ae AU:Hp)(st:List Stmt)(g:SF):Prop:=C5 X st<|PB X.K Ae AU g
noncomputable def BI:SF:=λρ=>some<|.nx ρ
noncomputable def AM(g h:SF):SF:=λρ=>match g ρ with|some (.nx ρ')=>h ρ'|o=>o
section
variable{X:Cx}{Ae AU:Hp}{a b c e tg iter:Expr}{es:List Expr}{fa fb fc f:EF}{ga:AF}{t:BF}{gt:GF}{pos:Pos}{st:Stmt}{rest body U4:List Stmt}{g h:SF}
theorem AAe:Ed X Ae AU [] BI:=C5.imp XB (by rintro D σ H ⟨G,ρ,o,S,e,k⟩;cases e;exact k σ G H (AY.refl _) S)
theorem AAX(q:DN X Ae AU st g)(v:Ed X Ae AU rest h):Ed X Ae AU (st::rest)<|AM g h:=C5.imp (K9 q v) (by
 rintro D σ H ⟨G,ρ,o,S,e,k⟩;unfold AM at e;cases y:g ρ with
 |none=>rw[y]at e;contradiction
 |some o1=>
  rw[y]at e;cases o1 with
  |nx Ay=>exact⟨G,ρ,_,S,y,λAg G' H' s u=>⟨G',Ay,o,u,e,k.mono s⟩⟩
  |rt r=>cases e;exact⟨G,ρ,_,S,y,k⟩
  |bk r=>cases e;exact⟨G,ρ,_,S,y,k⟩
  |ct r=>cases e;exact⟨G,ρ,_,S,y,k⟩)
theorem AAf(y:DN X Ae AU st g):Ed X Ae AU [st] g:=jM y
noncomputable def A2(t:BF)(g h:SF):SF:=λρ=>match t ρ with|some true=>g ρ|some false=>h ρ|none=>none
theorem AAc(hc:C6 X c t)(ha:Ed X Ae AU body g)(hb:Ed X Ae AU U4 h):DN X Ae AU (.If c body U4 pos)<|A2 t g h:=PS.imp (XA hc ha hb) (by
 rintro D σ H ⟨G,ρ,o,S,e,k⟩;unfold A2 at e;split at e
 .rename_i y;refine⟨G,ρ,true,S.r,y,λq v s1=>?_⟩;exact⟨q,ρ,o,S.step s1,e,k.mono s1.gg⟩
 .rename_i y;refine⟨G,ρ,false,S.r,y,λq v s1=>?_⟩;exact⟨q,ρ,o,S.step s1,e,k.mono s1.gg⟩
 .contradiction)
noncomputable def Qi:SF:=λ_=>none
theorem AAd:DN X Ae AU st Qi:=PS.imp zE (by rintro D σ H ⟨G,ρ,o,S,e,k⟩;contradiction)
noncomputable def Az(f:EF):SF:=λρ=>match f ρ with|some (.cl p)=>some (.rt<|.cl p)|some (.fr ps)=>some (.rt<|.fr ps)|_=>none
theorem AAh(he:PX X e f):DN X Ae AU (.Return (some e) pos)<|Az f:=PS.imp (SA he) (by
 rintro D σ H ⟨G,ρ,o,S,e,k⟩;unfold Az at e;split at e
 .rename_i p y;cases e;exact⟨G,ρ,_,S.r,y,λv G' H' s rv=>k v G' H' (S.O6.trans s) rv⟩
 .rename_i ps y;cases e;exact⟨G,ρ,_,S.r,y,λv G' H' s rv=>k v G' H' (S.O6.trans s)<|rv.back S.hh⟩
 .contradiction)
set_option tactic.hygienic true
noncomputable def Nq(i:Nat):SF:=λρ=>match ρ[i]? with|some (some<|.own ps)=>some (.rt<|.fr ps)|_=>none
theorem AAj(i:Nat){x:Str}{p:Pos}(u:X.N[i]? = some x)(Z:FG X.env.scope x)(hd:(x==("__debug__"))=false) (Y:(x==("__classdict__"))=false):DN X Ae AU (.Return (some<|.Name x p) pos)<|Nq i:=PS.imp (SA<|He u Z hd Y) (by
 rintro D σ H ⟨G,ρ,o,S,e,k⟩;unfold Nq at e;split at e
 .rename_i ps y;cases e;obtain⟨v,q,a,vs,rfl,ga,ha,rl⟩:=S.r.slot i _ y;exact⟨_,q,k _ G H S.O6 ⟨a,vs,rfl,S.new i _ a rfl y q,ga,ha,rl⟩⟩
 .contradiction)
def Aa(i:Nat)(f:EF):SF:=λρ=>match f ρ with|some r=>(match r.clean with|some p=>some (.nx<|ρ.set i<|some<|.im p)|none=>none)|none=>none
theorem kb{te:TE}{i:Nat}{D:Ends}{σ:St}{H:Hp}(h:∀Q,tX X.K f σ H Q->te σ H Q)(q:PB X.K Ae AU (Aa i f) D σ H):Mf te (KY i) D σ H:=by
 obtain⟨G,ρ,o,S,e,k⟩:=q;unfold Aa at e;split at e
 .rename_i r u;split at e
  .rename_i p Z;cases e;refine h _ ⟨G,ρ,r,S.r,u,λv G' H' s rv=>?_⟩;have y:=S.step s.all;exact k _ _ _ s.all.gg<|y.turn (y.r.Dh<|rv.clean s.sub Z) Dz.Dh
  .contradiction
 .contradiction
theorem AAk(i:Nat){x:Str}{p:Pos}(y:X.N.Nodup)(he:PX X e f)(hi:X.N[i]? = some x)(v:Loc X.env.scope x)(hs:swapsWith e (some<|.Name x p) pos.line X.env=pure false)(u:X.fn x=true\/X.env.scope.names.lookup x=some .local) : DN X Ae AU (.Assign [.Name x p] e pos)<|Aa i f:=PS.imp (Ox y hi v he hs u) λD σ H q=>kb (λ_ z=>z) q
noncomputable def Eo(i:Nat)(f:EF):SF:=λρ=>match f ρ with|some (.fr ps)=>some (.nx<|ρ.set i<|some<|.own ps)|_=>none
theorem SR.jx{K:W.Frag}{G H:Hp}{ρ:AS}{σ:St}{i:Nat}{s:SV}{a:Addr}{D:Hp}(S:SR K Ae AU G H ρ σ)(s1:AY AU D)(ho:∀(j:Nat)(s:SV)(b:Addr),s.Fu=true->ρ[j]? = some (some s)->σ[j]? = some (some<|.ref b)->D b≠none) (n:D a=none) (ok:LZ K G H s<|.ref a):SR K Ae AU G H (ρ.set i<|some s)<|σ.set i<|some<|.ref a:=by
 have R:=S.r;refine⟨⟨R.sub,λj sv e=>?_,λj k qs rs b c F O P v B u Z=>?_,by simpa using R.len⟩,S.gg,S.hh,S.ex,λj qs b P O v=>?_⟩
 .rcases get_set e with⟨rfl,rfl⟩|⟨T,C⟩
  .have Y:=gZ e;exact⟨_,set_slot (by rw[<-R.len];exact Y),ok⟩
  .obtain⟨w,O,q⟩:=R.slot j sv C;exact⟨w,by rw[AEb<|AFH T];exact O,q⟩
 .rcases get_set O with⟨y,_⟩|⟨y,f1⟩
  .rcases get_set v with⟨Q,_⟩|⟨Q,f2⟩
   .exact absurd (y.trans Q.symm) F
   .subst y;rw[AEb<|AFH Q]at Z;have Y:=by have:=(ADw.mp u).1;simpa using this
    rw[set_slot Y]at u;cases u;intro z;exact ho k rs c B f2 Z<|z ▸ n
  .rcases get_set v with⟨Q,_⟩|⟨Q,f2⟩
   .subst Q;rw[AEb<|AFH y]at u;have Y:=by have:=(ADw.mp Z).1;simpa using this
    rw[set_slot Y]at Z;cases Z;intro z;exact ho j qs b P f1 u<|z.symm ▸ n
   .rw[AEb<|AFH y]at u;rw[AEb<|AFH Q]at Z;exact R.apart j k qs rs b c F f1 P f2 B u Z
 .rcases get_set O with⟨y,_⟩|⟨y,f1⟩
  .subst y;have Y:=by have:=(ADw.mp v).1;simpa using this
   rw[set_slot Y]at v;cases v;exact s1.free n
  .rw[AEb<|AFH y]at v;exact S.new j qs b P f1 v
theorem SR.ABI{K:W.Frag}{G H:Hp}{ρ:AS}{σ:St}{i:Nat}{ps:List PV}{a:Addr}{vs:List V}{y:Hp}(S:SR K Ae AU G H ρ σ)(s1:AY AU y)(ho:∀(j:Nat)(s:SV)(b:Addr),s.Fu=true->ρ[j]? = some (some s)->σ[j]? = some (some<|.ref b)->y b≠none) (n:y a=none) (ga:G a=none) (ha:H a=some (.lst vs)) (rl:AQ K G ps vs):SR K Ae AU G H (ρ.set i<|some<|.own ps)<|σ.set i<|some<|.ref a:=
 S.jx s1 ho n ⟨a,vs,rfl,ga,ha,rl⟩
theorem ABj{te:TE}{i:Nat}{D:Ends}{σ:St}{H:Hp}(h:∀Q,tX X.K f σ H Q->te σ H Q)(q:PB X.K Ae AU (Eo i f) D σ H):Mf te (KY i) D σ H:=by
 obtain⟨G,ρ,o,S,e,k⟩:=q;unfold Eo at e;split at e
 .rename_i ps y;cases e;refine h _ ⟨G,ρ,_,S.r,y,λv G' H' s rv=>?_⟩;obtain⟨a,vs,rfl,n,ga,ha,rl⟩:=rv;exact k _ _ _ s.gg<|(S.step s).ABI S.hh S.r.W4 n ga ha rl
 .contradiction
theorem AAn(i:Nat){x:Str}{p:Pos}(y:X.N.Nodup)(he:PX X e f)(hi:X.N[i]? = some x)(v:Loc X.env.scope x)(hs:swapsWith e (some<|.Name x p) pos.line X.env=pure false)(u:X.fn x=true\/X.env.scope.names.lookup x=some .local) : DN X Ae AU (.Assign [.Name x p] e pos)<|Eo i f:=PS.imp (Ox y hi v he hs u) λD σ H q=>ABj (λ_ z=>z) q
section
variable{ifs:List Expr}{elt:Expr}{scope:Scope}{Nb:List Str}{own:Nat}{cap:List Nat}{its:IF}{fe:EF}{CA:Pos}
theorem AAl(i:Nat){x:Str}{p:Pos}(y:X.N.Nodup)(hc:X.calm=true)(O:F9 X scope Nb own cap)(v:cap.Nodup)(u:Hr own gt)(hi:JF X false tg iter its)(Z:∀C s H fp AB,Ht (B7 X Nb scope C s H fp AB) tg gt)(Y:∀C s H fp AB,J6 (B7 X Nb scope C s H fp AB) ifs t)(he:∀C s H fp AB,PX (B7 X Nb scope C s H fp AB) elt fe) (Q:X.N[i]? = some x) (P:Loc X.env.scope x) (F:swapsWith (.ListComp elt [⟨tg,iter,ifs,0⟩] scope CA) (some<|.Name x p) pos.line X.env=pure true) (hs:∀x,foldedSetIterable iter X.env x=pure x) (R:X.fn x=true\/X.env.scope.names.lookup x=some .local) : DN X Ae AU (.Assign [.Name x p] (.ListComp elt [⟨tg,iter,ifs,0⟩] scope CA) pos)<|Aa i<|BH its own cap gt t fe:=
 PS.imp (zG (g:=Mh X.K gt) (ti:=EY X.K t) (te:=tX X.K fe) y Q P hc O hi Z Y he F hs R) λD σ H q=>kb (λ_ z=>kr v u z) q
end
theorem SR.chg{K:W.Frag}{G H:Hp}{ρ:AS}{σ:St}{i:Nat}{s s':SV}{a:Addr}{o:HO}(S:SR K Ae AU G H ρ σ)(hs:s.Fu=true)(v:ρ[i]? = some (some s))(es:σ[i]? = some (some<|.ref a))(ga:G a=none)(ok:LZ K G (upd H a o) s'<|.ref a) : SR K Ae AU G (upd H a o) (ρ.set i<|some s') σ:=by
 have R:=S.r;have hn:=S.new i s a hs v es;refine⟨⟨λb u q=>by rw[Av<|Dv q ga];exact R.sub _ _ q,λj sv e=>?_,λj k xs ys b c P y D Z E B T=>?_,by simpa using R.len⟩,S.gg,λb u q=>by rw[Av<|Dv q hn];exact S.hh _ _ q,S.ex,λj xs b D y Z=>?_⟩
 .rcases get_set e with⟨rfl,rfl⟩|⟨C,F⟩
  .exact⟨_,es,ok⟩
  .obtain⟨w,y,q⟩:=R.slot j sv F;refine⟨w,y,?_⟩;cases sv with
   |exc nm=>exact q
   |im p=>exact q
   |own xs=>
    obtain⟨b,ws,rfl,Q,hb,rb⟩:=q;refine⟨b,ws,rfl,Q,?_,rb⟩;rw[Av λz=>R.apart j i _ s b a C F rfl v hs y es z];exact hb
   |Cj t ks xs=>
    obtain⟨b,ws,rfl,Q,hb,rb⟩:=q;refine⟨b,ws,rfl,Q,?_,rb⟩;rw[Av λz=>R.apart j i _ s b a C F rfl v hs y es z];exact hb
   |K4 AI=>
    obtain⟨b,rfl,Q,hb⟩:=q;refine⟨b,rfl,Q,?_⟩;rw[Av λz=>R.apart j i _ s b a C F rfl v hs y es z];exact hb
 .rcases get_set y with⟨Y,_⟩|⟨Y,f1⟩
  .rcases get_set Z with⟨O,_⟩|⟨O,f2⟩
   .exact absurd (Y.trans O.symm) P
   .subst Y;exact R.apart j k s ys b c P v hs f2 E B T
  .rcases get_set Z with⟨O,_⟩|⟨O,f2⟩
   .subst O;exact R.apart j k xs s b c P f1 D v hs B T
   .exact R.apart j k xs ys b c P f1 D f2 E B T
 .rcases get_set y with⟨Y,_⟩|⟨Y,f1⟩
  .subst Y;rw[es]at Z;cases Z;exact hn
  .exact S.new j xs b D f1 Z
theorem SR.change{K:W.Frag}{G H:Hp}{ρ:AS}{σ:St}{i:Nat}{ps qs:List PV}{a:Addr}{us:List V}(S:SR K Ae AU G H ρ σ)(y:ρ[i]? = some (some<|.own ps))(es:σ[i]? = some (some<|.ref a))(ga:G a=none)(rl:AQ K G qs us) : SR K Ae AU G (upd H a<|.lst us) (ρ.set i<|some<|.own qs) σ:=S.chg rfl y es ga ⟨a,us,rfl,ga,Bu,rl⟩
def DT(i:Nat)(k:List PV->List PV->Option (List PV))(ga:AF):SF:=λρ=>match ρ[i]?,ga ρ with
 |some (some<|.own ps),some rs=>(match C8 rs with|some qs=>(match k ps qs with|some EW=>some (.nx<|ρ.set i<|some<|.own EW)|none=>none)|none=>none)
 |_,_=>none
def Yb(K:W.Frag)(k:List PV->List PV->Option (List PV))(r:V->List V->Hp->VK->Prop):Prop:=
 ∀(ps qs y:List PV)(G H:Hp)(a:Addr)(vs us:List V)(Q:VK),k ps qs=some y->H a=some (.lst vs)->AQ K G ps vs->AQ K G qs us->(∀ws v,AQ K G y ws->Q v (upd H a<|.lst ws))->r (.ref a) us H Q
theorem ABs{i:Nat}{k:List PV->List PV->Option (List PV)}{r:V->List V->Hp->VK->Prop}(Y:Yb X.K k r){D:Ends}{σ:St}{H:Hp}(q:PB X.K Ae AU (DT i k ga) D σ H):Su (Xx X.K "list" r (O9 i)<|Sw X.K ga) D σ H:=by
 obtain⟨G,ρ,o,S,e,ok⟩:=q;unfold DT at e;split at e
 .rename_i ps rs y ea;split at e
  .rename_i qs Q;split at e
   .rename_i O P;cases e;obtain⟨v,u,a,vs,rfl,g,ha,rl⟩:=S.r.slot i _ y;refine⟨_,u,.inl ⟨rfl,vs,.inl<|.inl ha⟩,G,ρ,rs,S.r,ea,λus F Z s1 rv=>?_⟩;have R:=S.step s1.all;refine Y ps qs O (Ep F H Z) Z a vs us _ P (s1.hh _ _ ha) (AQ.same s1.all.gg rl) (Lg s1.sub rv Q) λws w B=>?_;exact ok _ _ _ s1.all.gg<|R.change y u (s1.all.ex a (.l ha) g) B
   .contradiction
  .contradiction
 .contradiction
noncomputable def FR(ps qs:List PV):Option<|List PV:=match qs with|[p]=>if ps.length<1000 then some (ps ++ [p])else none|_=>none
theorem wZ{K:W.Frag}:Yb K FR XG:=by
 intro ps qs EW G H a vs us Q e ha rl rq q;unfold FR at e;split at e
 .split at e
  .cases e;obtain⟨v,r,rfl,rv,y⟩:=rq;subst y;have hl:=rl.len;exact⟨a,vs,v,rfl,rfl,ha,Xk J,q _ _<|AQ.of<|K5 rl.paired<|.cons rv .nil⟩
  .contradiction
 .contradiction
theorem AAW(i:Nat){x:Str}{p v:Pos}(ha:Co X (e::es) ga)(u:X.N[i]? = some x)(Z:FG X.env.scope x)(hd:(x==("__debug__"))=false) (Y:(x==("__classdict__"))=false) (Q:attributeBase (.Name x p) "append" X.env (eval (.Name x p) X.env)=eval (.Name x p) X.env) {y:Pos} (O:((backTo y<|starEach (e::es) X.env).all (λx=>!x.1)&&(backToKw y<|keywordEach [] X.env).all (λx=>x.1.isSome)
  && decide ((e::es).length+([]:List Keyword).length+(if([]:List Keyword).isEmpty then 0 else 1)<30))=true)
 (P:(v.endLine==y.line)=true) (hs:starEach (e::es) X.env=(false,eval e X.env)::starEach es X.env) (D:(backTo y<|starEach es X.env).any (·.1)=false)
 (F:swapsWith (.Call (.Attribute (.Name x p) "append" v) (e::es) [] y) none pos.line X.env=pure false) :
 DN X Ae AU (.Expr (.Call (.Attribute (.Name x p) "append" v) (e::es) [] y) pos) (DT i FR ga):=
 PS.imp (Ow (W7 AGV AHu AHv Wl (He u Z hd Y) ha Q O P hs D) F) λ_ _ _ q=>ABs wZ q
noncomputable def ER(gt:GF)(body:SF):List PV->AS->Option Out
 |[],ρ=>some<|.nx ρ
 |x::xs,ρ=>match gt x ρ with
  |none=>none
  |some Ay=>match body Ay with
   |some (.nx CF)=>ER gt body xs CF
   |some (.ct CF)=>ER gt body xs CF
   |some (.bk CF)=>some<|.nx CF
   |some (.rt r)=>some<|.rt r
   |none=>none
def CK(its:IF)(gt:GF)(body:SF):SF:=λρ=>match its ρ with|some xs=>ER gt body xs ρ|none=>none
theorem AAb{its:IF}(hc:X.calm=true)(hp:PassesOwn (model X.prog X.w) X.A X.env X.xe)(hi:JF X true tg iter its)(hg:Ht X tg gt)(hb:Ed X Ae AU body g)(hs:∀x,foldedSetIterable iter X.env x=pure x) : DN X Ae AU (.For tg iter body [] pos)<|CK its gt g:=PS.imp (zD hp hc hi hg hb hs) (by
 rintro D σ H ⟨G,ρ,o,S,e,ok⟩;unfold CK at e;split at e
 .rename_i xs ex;refine⟨G,ρ,xs,S.r,ex,λADh T H1 s1 J1=>?_⟩;obtain⟨vs,rl,hJ⟩:=J1.ex;have BO:=rl.len;refine⟨λi m C H'=>m=xs.length-i/\i<=xs.length/\∃G' ρ',SR X.K Ae AU G' H' ρ' C/\AY T G'/\ER gt g (xs.drop i) ρ'=some o,⟨xs.length,ADk,AEu _,T,ρ,S.step s1,AY.refl _,by exact e⟩,?_⟩;rintro i m C H' ⟨rfl,CT,G',ρ',v,Y,q⟩;obtain⟨Vb,V2⟩:=hJ H'<|Y.trans v.r.sub;by_cases U:i<xs.length
  .right;have n:vs[i]? = some vs[i]:=ADp ADj;obtain⟨go,yl⟩:=Vb i _ n;have V8:=ADp U;have V1:Rep X.K G' xs[i] vs[i]:=by obtain⟨u,eu,ru⟩:=K6 rl.paired V8;rw[n]at eu;cases eu;exact Rep.same Y ru
   have N0:=AEx U;rw[N0]at q;unfold ER at q;split at q
   .contradiction
   .rename_i Q e1;refine⟨go,λJB Ec=>∃J5 l4,SR X.K Ae AU J5 Ec l4 JB/\AY T J5/\ER gt g (xs.drop<|i+1) l4=some o,λJB Ec hN=>⟨xs.length-(i+1),ADj,rfl,ADn,hN⟩,λy H3 hy=>?_⟩;obtain⟨rfl,rfl⟩:=yl y H3 hy;refine⟨G',ρ',xs[i],Q,v.r,V1,e1,λGq F R=>?_⟩;split at q
    .rename_i B Z;exact⟨G',Q,_,v.turn F R,Z,λE O I s2 P=>⟨O,B,P,Y.trans s2,q⟩⟩
    .rename_i B Z;exact⟨G',Q,_,v.turn F R,Z,λE O I s2 P=>⟨O,B,P,Y.trans s2,q⟩⟩
    .rename_i B Z;cases q;exact⟨G',Q,_,v.turn F R,Z,λE O I s2 P=>ok E O I ((s1.gg.trans Y).trans s2) P⟩
    .rename_i r Z;cases q;exact⟨G',Q,_,v.turn F R,Z,ok⟩
    .contradiction
  .left;have Vd:i=xs.length:=J
   subst Vd;rw[AHt]at q;cases q;exact⟨by rw[BO];exact V2,ok C G' H' (s1.gg.trans Y) v⟩
 .contradiction)
end
noncomputable def BD(N:Nat)(ps:List PV):AS:=ps.map (λp=>some<|.im p)++List.replicate (N-ps.length) none
noncomputable def Out.val:Out->Option RV
 |.rt r=>some r
 |.nx _=>some<|.cl .Aw
 |_=>none
def denote(N n:Nat)(g:SF):List PV->Option RV:=λps=>if ps.length=n then(g<|BD N ps).bind Out.val else none
theorem XR{N:Nat}{ps:List PV}{i:Nat}{sv:SV}(h:(BD N ps)[i]? = some (some sv)):∃p,ps[i]? = some p/\sv=.im p:=by
 unfold BD at h;by_cases hi:i<ps.length
 .rw[AEM (by simpa using hi),AEy]at h;cases e:ps[i]? with
  |none=>rw[e]at h;contradiction
  |some p=>rw[e]at h;cases h;exact⟨p,rfl,rfl⟩
 .rw[AED (by simpa using hi),AFs]at h;split at h<;>nomatch h
theorem ABd{N:List Str}{vs:List V}{i:Nat}{v:V}(h:vs[i]? = some v):(start N vs)[i]? = some (some v):=by
 unfold start;have hi:=(ADw.mp h).1;rw[AEM (by simpa using hi),AEy,h]
 rfl
theorem sr0{K:W.Frag}{N:List Str}{G H:Hp}{ps:List PV}{vs:List V}(s:AY G H)(h:AQ K G ps vs):SR K G H G H (BD N.length ps)<|start N vs:=by
 refine⟨⟨s,λi sv e=>?_,λi j qs rs a b _ y o _ _ _ _=>?_,?_⟩,AY.refl _,AY.refl _,λ_ _ n=>n,λi qs a o y _=>?_⟩
 .obtain⟨p,q,rfl⟩:=XR e;obtain⟨v,u,rv⟩:=K6 h.paired q;exact⟨v,ABd u,rv⟩
 .obtain⟨p,_,z⟩:=XR y;subst z;contradiction
 .delta BD start
  simp only[AD1,AD1,ADo,ADo,AFi,AFi,h.len]
 .obtain⟨p,_,z⟩:=XR y;subst z;contradiction
theorem q8{P:Program}{w:World}{K:W.Frag}{mg:Str->Option Value}{base:Heap}{x qual:Str}{st:Stmt}{f:Addr}{fd:FuncData}{N ps:List Str}{k:Nat}{g:SF}(F:GB K x qual st f fd)(S:M6 N ps<|CQ st) (u:∀(A9:Value)(A:Around)(outer:List Env)(s:Shared)(H:Hp)(E:XK)(Ae AU:Hp),Cd k (A.deeper<|envOfC qual (CQ st) s.heap.objs.size f A9)->Ed (IC Eb P w K mg base N qual (CQ st) f A9 A outer s H E).K3 Ae AU (GL st) g) : DM P w K mg base Eb (k+1) f fd ps<|Mc K ps.length<|denote N.length ps.length g:=by
 refine F.ok S (λvs H Q E h=>h.1) λA9 A outer s H vs Q E Z h=>?_;obtain⟨hl,G,qs,r,sub,rl,e,q⟩:=h;refine⟨_,u A9 A outer s H E G H Z,?_⟩;unfold denote at e;split at e
 .cases y:g (BD N.length qs)with
  |none=>rw[y]at e;contradiction
  |some o=>
   rw[y]at e;refine⟨G,BD N.length qs,o,sr0 sub rl,y,?_⟩;cases o with
   |rt r'=>
    cases e;exact λv G' H' s rv=>q v G' H' s rv
   |nx ρ=>
    cases e;exact λAg G' H' s Y=>q .Aw G' H' Y.O6<|by rfl
   |bk ρ=>contradiction
   |ct ρ=>injection e
 .contradiction
set_option tactic.hygienic true
mutual
noncomputable def Ad:PV->PyData
 |.Aw=>.none
 |.bl b=>.bool b
 |.int i=>.int i
 |.str x=>.str x
 |.tup xs=>.tuple<|B5 xs
 |.lst xs=>.list<|B5 xs
 |.rd xs=>.list<|B5 xs
 |.By _ _=>.dict []
noncomputable def B5:List PV->List PyData
 |[]=>[]
 |x::xs=>Ad x::B5 xs
end
section
variable{X:Cx}{AB:List (Addr×Obj)}{σ:St}{H:Hp}{s:Shared}
mutual
theorem Rep.reads(I:Inv X AB σ H s):∀{p:PV}{v:V}{u:Value},(Ad p).canLay0=true->Rep X.K H p v->RelV v u->∃y,Reads s.heap u (Ad p) y
 |.Aw,v,u,_,h,r=>by unfold Rep at h;subst h;cases r;exact⟨[],.none⟩
 |.bl b,v,u,_,h,r=>by unfold Rep at h;subst h;cases r;exact⟨[],.bool b⟩
 |.int i,v,u,_,h,r=>by unfold Rep at h;subst h;obtain⟨t,rfl⟩:=r;exact⟨[],.int i t⟩
 |.str i,v,u,_,h,r=>by unfold Rep at h;subst h;obtain⟨t,rfl⟩:=r;exact⟨[],.str i t⟩
 |.By _ _,v,u,c,h,r=>by unfold Ad PyData.canLay0 at c;cases c
 |.tup xs,v,u,c,h,r=>by unfold Rep at h;unfold Ad PyData.canLay0 at c;obtain⟨a,vs,rfl,q,rl⟩:=h;cases r;obtain⟨its,rv,⟨o,ho,hc,n,hd⟩,_⟩:=I.tuple q;obtain⟨y,ra⟩:=AQ.reads I c rl rv;exact⟨y,by unfold Ad;exact .tuple ho hc hd<|by simpa using ra⟩
 |.lst xs,v,u,c,h,r=>by unfold Rep at h;unfold Ad PyData.canLay0 at c;obtain⟨a,vs,rfl,q,rl⟩:=h;cases r;obtain⟨z,its,n,rv,e⟩:=q.ok I.AX;obtain⟨y,ra⟩:=AQ.reads I c rl rv;exact⟨a::y,by unfold Ad;exact .list e rfl rfl<|by simpa using ra⟩
 |.rd xs,v,u,c,h,r=>by unfold Rep at h;unfold Ad PyData.canLay0 at c;obtain⟨a,vs,rfl,q,rl⟩:=h;cases r;obtain⟨its,rv,⟨o,n,ho,hc,Qq,hd⟩,_⟩:=I.list q;obtain⟨y,ra⟩:=AQ.reads I c rl rv;exact⟨a::y,by unfold Ad;exact .list ho hc hd<|by simpa using ra⟩
theorem AQ.reads(I:Inv X AB σ H s):∀{ps:List PV}{vs:List V}{us:List Value},PyData.canLayAll0 (B5 ps)=true->AQ X.K H ps vs->An vs us->∃y,ReadsAll s.heap us (B5 ps) y
 |[],vs,us,_,h,r=>by unfold AQ at h;subst h;cases r;exact⟨[],.nil⟩
 |p::ps,vs,us,c,h,r=>by
  unfold AQ at h;unfold B5 PyData.canLayAll0 at c;rw[ADx]at c;obtain⟨v,vr,rfl,q,u⟩:=h;cases r with
  |cons r1 r2=>
   obtain⟨y,ra⟩:=Rep.reads I c.1 q r1;obtain⟨bs,rb⟩:=AQ.reads I c.2 u r2;exact⟨y++bs,by unfold B5;exact .cons ra rb⟩
end
def SH(K:W.Frag)(neg:Bool):R2:=λx y H Q=>∃p q,Rep K H p x/\Rep K H q y/\SeqAt.shaped (Ad p)=true/\SeqAt.shaped (Ad q)=true/\Q (.bl (if neg=true then !PyData.eqv (Ad p) (Ad q)else PyData.eqv (Ad p) (Ad q))) H
theorem xa(Z:X.A.units+64<cLine):BZ X (compareOp .Eq)<|SH X.K false:=by rintro AB s σ H x y v u Q I Y O ⟨p,q,hp,P,sp,sq,k⟩;obtain⟨as,ra⟩:=Rep.reads I (SeqAt.canLay_of_shaped sp) hp Y;obtain⟨bs,rb⟩:=Rep.reads I (SeqAt.canLay_of_shaped sq) P O;exact SeqAt.compareEq_shaped ra rb sp sq Z ⟨.bl _,H,I,rfl,k⟩
theorem xn(Z:X.A.units+64<cLine):BZ X (compareOp .NotEq)<|SH X.K true:=by rintro AB s σ H x y v u Q I Y O ⟨p,q,hp,P,sp,sq,k⟩;obtain⟨as,ra⟩:=Rep.reads I (SeqAt.canLay_of_shaped sp) hp Y;obtain⟨bs,rb⟩:=Rep.reads I (SeqAt.canLay_of_shaped sq) P O;exact SeqAt.compareNe_shaped ra rb sp sq Z ⟨.bl _,H,I,rfl,k⟩
end
def B0(x y:RV):Option RV:=if SeqAt.shaped (Ad x.any)=true/\SeqAt.shaped (Ad y.any)=true then some (.cl<|.bl<|PyData.eqv (Ad x.any)<|Ad y.any)else none
def C0(x y:RV):Option RV:=if SeqAt.shaped (Ad x.any)=true/\SeqAt.shaped (Ad y.any)=true then some (.cl<|.bl (!PyData.eqv (Ad x.any) (Ad y.any)))else none
section
variable{X:Cx}
theorem xU{K:W.Frag}:DY K B0<|SH K false:=by
 intro x y z H0 G H vx vy Q sub sh e v u q;unfold B0 at e;split at e
 .rename_i h;cases e;exact⟨x.any,y.any,v.any sub,u.any sub,h.1,h.2,q _ G H (Al.refl sub)<|by rfl⟩
 .contradiction
theorem xW{K:W.Frag}:DY K C0<|SH K true:=by
 intro x y z H0 G H vx vy Q sub sh e v u q;unfold C0 at e;split at e
 .rename_i h;cases e;exact⟨x.any,y.any,v.any sub,u.any sub,h.1,h.2,q _ G H (Al.refl sub)<|by rfl⟩
 .contradiction
theorem ou(y:X.A.units+64<cLine):Cn X .Eq B0:=⟨_,xa y,xU⟩
theorem o5(y:X.A.units+64<cLine):Cn X .NotEq C0:=⟨_,xn y,xW⟩
def Bc(neg:Bool)(x y:RV):Option RV:=match x,y.seq with
 |.cl (.int i),some ps=>(EM ps).map λns=>.cl (.bl (if neg=true then !ns.any (· == i)else ns.any (· == i)))
 |_,_=>none
theorem iW{K:W.Frag}{neg:Bool}:DY K (Bc neg)<|XI K neg:=by
 intro x y z H0 G H vx vy Q sub sh e u Z q;unfold Bc at e;split at e
 .rename_i i ps es;cases v:EM ps with
  |none=>rw[v]at e;contradiction
  |some ns=>
   rw[v]at e;cases e;obtain⟨a,vs,rfl,Y,rl⟩:=Z.seq sub es;have O:=L7 v rl;subst O;have P:Q5 (.int i) (ns.map V.int)=ns.any (· == i):=by
    unfold Q5;rw[AF0]
    rfl
   refine⟨a,ns.map V.int,rfl,Y,by rw[u.int];rfl,by rw[AHw];exact AFo.mpr λ_ _=>rfl,?_⟩;rw[u.int,P];exact q _ G H (Al.refl sub) (by cases neg<;>rfl)
 .contradiction
theorem ox:Cn X .In<|Bc false:=⟨_,xh,iW⟩
theorem o6:Cn X .NotIn<|Bc true:=⟨_,xp,iW⟩
theorem zm{x:Str}{i:Int}{pos:Pos}(h:∃t,X.mg x=some (.int i t))(y:Gl X x)(hd:(x==("__debug__"))=false):PX X (.Name x pos)<|fC<|.int i:=by obtain⟨t,h⟩:=h;exact Oz (jA y h (v:=.int i) ⟨t,rfl⟩ hd) λ_=>by rfl
theorem zo{x:Str}{p:PV}{pos:Pos}(h:∃a,X.mg x=some (.ref a)/\∀G,Rep X.K G p<|.ref a)(y:Gl X x)(hd:(x==("__debug__"))=false):PX X (.Name x pos)<|fC p:=by obtain⟨a,h,q⟩:=h;exact Oz (jA y h (v:=.ref a) rfl hd) q
def BG(P:Program)(w:World)(K:W.Frag)(mg:Str->Option Value)(base:Heap)(x:Str)(k n:Nat)(F:List PV->Option RV):Prop:=
 ∃f fd ps,DM P w K mg base Eb k f fd ps (Mc K n F)/\mg x=some (.ref f)/\W.keepIn K (.ref f)=true/\Binds K fd ps []/\ps.length=n
theorem Fn.of{x:Str}{j k n:Nat}{F:List PV->Option RV}(h:BG X.prog X.w X.K X.mg X.base x j n F)(y:Cd k X.A)(q:j<=k:=by decide):Fn X x n F:=by obtain⟨f,fd,ps,v,u,h3,Z,Y⟩:=h;exact⟨k,f,fd,ps,v.mono q,y,u,h3,Z,Y⟩
noncomputable def US(outer:List<|Str×NameKind)(N:List Str)(scope:Scope)(Nb:List Str)(own:Nat)(cap:List Nat):Bool:=
 (scope.kind == .function)&&scope.names.all (λy=>y.2 != .cell||scope.names.lookup y.1==some .cell)&&scope.names.all (λx=>x.2 != .local||scope.names.lookup x.1==some .local) &&
 scope.names.all (λy=>y.2 != .free||(outer.lookup y.1==some .cell||outer.lookup y.1==some .free))&&(Nb.length==own+cap.length) &&
 (List.range cap.length).all (λk=>match cap[k]? with|some j=>(match Nb[own+k]?,N[j]? with|some x,some y=>x==y&&scope.names.lookup x==some .free|_,_=>false)|none=>false)
theorem oa{scope:Scope}{Nb:List Str}{own:Nat}{cap:List Nat}(h:US X.env.scope.names X.N scope Nb own cap=true):F9 X scope Nb own cap:=by
 unfold US at h;simp only[ADx,AFo,AFf,bne_iff_ne,AEV,AD2]at h;obtain⟨⟨⟨⟨⟨Z,Y⟩,h3⟩,Q⟩,O⟩,P⟩:=h;refine⟨Z,λx q v=>?_,λx q v=>?_,λy D F=>?_,O,λk j u=>?_⟩
 .rcases Y x q with z|z
  .exact absurd v z
  .exact z
 .rcases h3 x q with z|z
  .exact absurd v z
  .exact z
 .rcases Q y D with z|z
  .exact absurd F z
  .exact z
 .have R:=(ADw.mp u).1;have:=P k R;rw[u]at this;dsimp only at this;split at this
  .rename_i x y B G;simp only[ADx,AFf]at this;obtain⟨rfl,z⟩:=this;exact⟨x,B,G,z⟩
  .contradiction
end
end L2.PL
namespace L2.PL
open PySem PySem.Spec PyProof.Rows
section
variable{X:Cx}{Ae AU:Hp}{a b c e:Expr}{es:List Expr}{fa fb f:EF}{ga:AF}{pos:Pos}
section
variable{x:Str}{p ap CA:Pos}
end
end
theorem Y1:bootBuiltins "isinstance" = some (.builtin "isinstance"):=ADm
theorem nr:bootBuiltins "abs" = some (.builtin "abs"):=ADm
theorem n6:bootBuiltins "max" = some (.builtin "max"):=ADm
theorem oA:bootBuiltins "min" = some (.builtin "min"):=ADm
theorem oC:bootBuiltins "sum" = some (.builtin "sum"):=ADm
theorem nu:bootBuiltins "all" = some (.builtin "all"):=ADm
theorem nv:bootBuiltins "any" = some (.builtin "any"):=ADm
theorem Y3:bootBuiltins "sorted" = some (.builtin "sorted"):=ADm
theorem ny:bootBuiltins "bool" = some (.type "bool"):=ADm
theorem n5:bootBuiltins "int" = some (.type "int"):=ADm
theorem Y2:bootBuiltins "list" = some (.type "list"):=ADm
theorem oB:bootBuiltins "set" = some (.type "set"):=ADm
theorem oD:bootBuiltins "tuple" = some (.type "tuple"):=ADm
section
variable{X:Cx}{Ae AU:Hp}{a b c e:Expr}{es:List Expr}{fa fb f:EF}{ga:AF}{pos:Pos}
def OJ(T:String):PV->Option Bool
 |.bl _=>if T = "bool" then some true else if T = "int" then some true else none
 |.int _=>if T = "int" then some true else if T = "bool" then some false else none
 |.str _=>if T = "str" then some true else none
 |.lst _=>if T = "list" then some true else none
 |_=>none
def GO(T:String)(f:EF):EF:=λρ=>match f ρ with|some r=>(OJ T r.any).map λb=>.cl (.bl b)|none=>none
theorem tyK{K:W.Frag}{H:Hp}{T:String}{p:PV}{v:V}{k:Bool}(h:Rep K H p v)(e:OJ T p=some k) (q:T = "bool"->W.kitOne K (.type "bool") (.type T)=some true/\W.kitOne K (.type "int") (.type T)=some false) (u:T = "int"->W.kitOne K (.type "int") (.type T)=some true/\W.kitOne K (.type "bool") (.type T)=some true) (h3:T = "str"->W.kitOne K (.type "str") (.type T)=some true) (Z:T = "list"->W.kitOne K (.type "list") (.type T)=some true):∃t,FF K H v t/\W.kitOne K t (.type T)=some k:=by
 unfold OJ at e;split at e
 .subst h;split at e
  .cases e;exact⟨_,.bl _,(q ‹_›).1⟩
  .split at e
   .cases e;exact⟨_,.bl _,(u ‹_›).2⟩
   .contradiction
 .subst h;split at e
  .cases e;exact⟨_,.int _,(u ‹_›).1⟩
  .split at e
   .cases e;exact⟨_,.int _,(q ‹_›).2⟩
   .contradiction
 .subst h;split at e
  .cases e;exact⟨_,.str _,h3 ‹_›⟩
  .contradiction
 .obtain⟨a,vs,rfl,y,_⟩:=h;split at e
  .cases e;rcases y with y|⟨o,y⟩
   .exact⟨_,.lst y,Z ‹_›⟩
   .exact⟨_,.BK y,Z ‹_›⟩
  .contradiction
 .contradiction
theorem oP{T:String}(y:T = "bool"->W.kitOne X.K (.type "bool") (.type T)=some true/\W.kitOne X.K (.type "int") (.type T)=some false)(v:T = "int"->W.kitOne X.K (.type "int") (.type T)=some true/\W.kitOne X.K (.type "bool") (.type T)=some true) (h3:T = "str"->W.kitOne X.K (.type "str") (.type T)=some true) (Z:T = "list"->W.kitOne X.K (.type "list") (.type T)=some true) : DX X (.builtin "isinstance") (λxs H Q=>∃x p k,xs=[x,.ty T]/\Rep X.K H p x/\OJ T p=some k/\Q (.bl k) H):=by rintro AB s σ H xs us Q I r ⟨x,p,k,Y,hp,O,q⟩;subst Y;obtain⟨u,P,rfl,D,F⟩:=vals2 r;obtain rfl:P=Value.type T:=F;obtain⟨t,ty,R⟩:=tyK hp O y v h3 Z;exact vJ I D ty R λtk=>⟨.bl k,H,I.tok _,rfl,q⟩
set_option tactic.hygienic true
theorem XD{T:String}{x:Str}{p p2:Pos}(Y:T = "bool"->W.kitOne X.K (.type "bool") (.type T)=some true/\W.kitOne X.K (.type "int") (.type T)=some false)(O:T = "int"->W.kitOne X.K (.type "int") (.type T)=some true/\W.kitOne X.K (.type "bool") (.type T)=some true) (h3:T = "str"->W.kitOne X.K (.type "str") (.type T)=some true) (P:T = "list"->W.kitOne X.K (.type "list") (.type T)=some true) (hm:X.mg "isinstance" = none) (D:X.mg x=none) (F:bootBuiltins x=some (.type T)) (ha:PX X a fa) (B:Gl X "isinstance":=by rfl) (S:Gl X x:=by rfl) (C:x≠"__name__":=by decide) (y:(x==("__debug__"))=false:=by decide) (he:starEach [a,.Name x p2] X.env=(false,eval a X.env)::starEach [.Name x p2] X.env:=by rfl) (E:starEach [.Name x p2] X.env=(false,eval (.Name x p2) X.env)::starEach [] X.env:=by rfl) (I:(backTo pos<|starEach [.Name x p2] X.env).any (·.1)=false:=by rfl) : PX X (.Call (.Name "isinstance" p) [a,.Name x p2] [] pos)<|GO T fa:=by
 refine PE.imp (R0 (oP Y O h3 P) B hm Y1 (K7 ha (K7 (i6 (v:=.ty T) S D F rfl C y) Ou E) he) ADl ADl he I) ?_;rintro σ H Q ⟨G,ρ,r,R,e,q⟩;unfold GO at e;split at e
 .rename_i u U;cases Z:OJ T u.any with
  |none=>rw[Z]at e;contradiction
  |some k=>
   rw[Z]at e;cases e;refine⟨G,ρ,u,R,U,λv G' H' s rv=>?_⟩;exact⟨v,u.any,k,rfl,rv.any s.sub,Z,q _ G' H' s<|by rfl⟩
 .contradiction
theorem zr{p p2:Pos}(hm:X.mg "isinstance" = none)(y:X.mg "bool" = none)(ha:PX X a fa)(q:Gl X "isinstance")(v:Gl X "bool") (he:starEach [a,.Name "bool" p2] X.env=(false,eval a X.env)::starEach [.Name "bool" p2] X.env) (u:starEach [.Name "bool" p2] X.env=(false,eval (.Name "bool" p2) X.env)::starEach [] X.env) (Z:(backTo pos<|starEach [.Name "bool" p2] X.env).any (·.1)=false) : PX X (.Call (.Name "isinstance" p) [a,.Name "bool" p2] [] pos)<|GO "bool" fa:=
 XD (λ_=>⟨rfl,rfl⟩) (λz=>absurd z ADl) (λz=>absurd z ADl) (λz=>absurd z ADl) hm y ny ha q v ADl ADl he u Z
theorem zt{p p2:Pos}(hm:X.mg "isinstance" = none)(y:X.mg "int" = none)(ha:PX X a fa)(q:Gl X "isinstance")(v:Gl X "int") (he:starEach [a,.Name "int" p2] X.env=(false,eval a X.env)::starEach [.Name "int" p2] X.env) (u:starEach [.Name "int" p2] X.env=(false,eval (.Name "int" p2) X.env)::starEach [] X.env) (Z:(backTo pos<|starEach [.Name "int" p2] X.env).any (·.1)=false) : PX X (.Call (.Name "isinstance" p) [a,.Name "int" p2] [] pos)<|GO "int" fa:=
 XD (λz=>absurd z ADl) (λ_=>⟨rfl,rfl⟩) (λz=>absurd z ADl) (λz=>absurd z ADl) hm y n5 ha q v ADl ADl he u Z
end
section
variable{X:Cx}{Ae AU:Hp}{a b c e:Expr}{es:List Expr}{fa fb f:EF}{ga:AF}{pos:Pos}
noncomputable def T2(a:Addr)(n:Nat):HO:=.ext λh=>∃o es y t,h.get? a=some o/\o.ExactSet/\o.data=.set es y t/\t.fits es.size=true/\es.size=n/\n<=1000
theorem ABH{P:Program}{w:World}{H:Hp}{h:Heap}{a:Addr}{ks:List (List Int)}(x:Internal.ST.Hv P w h a ks)(hz:ks.length<=1000):Bw P w H h a<|T2 a ks.length:=by
 obtain⟨o,es,y,t,kk,ho,q,hd,T,hp⟩:=x;refine⟨⟨o,es,y,t,ho,q,hd,T.fits,?_,hz⟩,⟨o,ho⟩,?_⟩
 .rw[<-T.len,hp.length_eq]
 .rintro h1 h2 ⟨o,es,y,t,v,u⟩ k;exact⟨o,es,y,t,k o v,u⟩
def TupAt(K:W.Frag)(H:Hp)(v:V)(ks:List Int):Prop:=∃a,v=.ref a/\BS K H a (ks.map V.int)
theorem fJ{P:Program}{w:World}:∀{ks:List Int}{us:List Value},An (ks.map V.int) us->ItemsAre (intKind P w) ks us
 |[],us,r=>by cases r;exact .nil
 |k::ks,us,r=>by
  cases r with
  |cons r1 r2=>
   obtain⟨t,rfl⟩:=r1;exact .cons (by show Value.isInt k (.int k t)=true;simp[Value.isInt])<|fJ r2
theorem oV(hc:X.calm=true)(hu:X.A.units+64<cLine):DX X (.type "set") (λxs H Q=>∃(p:Addr)(vs:List V)(kks:List<|List Int),xs=[.ref p]/\Rd H p (.lst vs)/\Paired (λk v=>TupAt X.K H v k) kks vs/\kks.length<=17/\∀d,H d=none->Q (.ref d) (upd H d<|T2 d (Internal.ST.D9 [] kks).length)):=by
 intro AB s σ H xs us Q I r h;obtain⟨p,vs,kks,rfl,Y,hp,hz,q⟩:=h;obtain⟨u,rfl,y⟩:=vals1 r;cases y;obtain⟨z,its,n,rv,e⟩:=Y.ok I.AX;have O:s.heap.IsList p its.toArray:=⟨_,e,rfl,n,rfl⟩;have HL:=Paired.length hp;have HM:=rv.length;refine Internal.ST.oW (kks:=kks) (I.ok.hd hc) J O (by rw[AD3];lia) (by rw[AD3];lia) (λj v P=>?_) λh' tk D F=>?_
 .have R:=by simpa using P
  obtain⟨x,ex,y⟩:=ic rv R;obtain⟨k,B,a,rfl,ha⟩:=ic hp ex;cases y;obtain⟨G,S,⟨o,ho,T,C,hd⟩,_⟩:=I.tuple ha;exact⟨k,a,B,rfl,o,G.toArray,C,ho,T,hd,by simpa using fJ S⟩
 .have hn:=I.AX.fresh<|ADt _;have Z:=Internal.ST.lD kks [];refine⟨.ref s.heap.objs.size,_,I.laid F (ADt _)<|ABH D ?_,rfl,q _ hn⟩;simp at Z;lia
theorem oQ:DX X (.builtin "len") (λxs H Q=>∃(p:Addr)(n:Nat),xs=[.ref p]/\H p=some (T2 p n)/\Q (.int n) H):=by intro AB s σ H xs us Q I r h;obtain⟨p,n,rfl,v,q⟩:=h;obtain⟨u,rfl,Z⟩:=vals1 r;cases Z;obtain⟨⟨o,es,ep,t,ho,y,hd,Y,hn,hz⟩,_⟩:=I.AX p _ v;exact call_len_set ho y hd Y (by rw[hn];lia) ⟨.int n,H,I.tok _,⟨s.toks+1,by rw[hn]⟩,q⟩
set_option tactic.hygienic true
def J3:List PV->Option (List<|List Int)
 |[]=>some []
 |.tup xs::r=>match EM xs,J3 r with|some k,some ks=>some (k::ks)|_,_=>none
 |_=>none
theorem k8{K:W.Frag}{G H:Hp}(s:AY G H):∀{ps:List PV}{vs:List V}{ks:List (List Int)},J3 ps=some ks->AQ K G ps vs->Paired (λk v=>TupAt K H v k) ks vs
 |[],vs,ks,e,h=>by cases e;subst h;exact .nil
 |.tup xs::r,vs,ks,e,h=>by
  unfold J3 at e;split at e
  .rename_i k OS q u;cases e;obtain⟨v,us,rfl,Z,t⟩:=h;obtain⟨a,ws,rfl,y,rl⟩:=Z;rw[L7 q rl]at y;exact .cons ⟨a,rfl,BS.same s y⟩<|k8 s u t
  .contradiction
 |.Aw::_,_,_,e,_=>by contradiction
 |.bl _::_,_,_,e,_=>by contradiction
 |.int _::_,_,_,e,_=>by contradiction
 |.str _::_,_,_,e,_=>by contradiction
 |.lst _::_,_,_,e,_=>by contradiction
 |.rd _::_,_,_,e,_=>by contradiction
 |.By _ _::_,_,_,e,_=>by contradiction
def KO(f:EF):EF:=λρ=>match f ρ with
 |some r=>(match r.list.bind J3 with|some ks=>if ks.length<=17 then some (.cl<|.int (Internal.ST.D9 [] ks).length)else none|none=>none)
 |none=>none
theorem zy{p p2 y:Pos}(hc:X.calm=true)(hm:X.mg "len" = none)(O:X.mg "set" = none)(P:X.A.units+64<cLine)(ha:PX X a fa)(D:Gl X "len")(F:Gl X "set") (Z:starEach [a] X.env=(false,eval a X.env)::starEach [] X.env) (B:(backTo y<|starEach [] X.env).any (·.1)=false) (he:starEach [.Call (.Name "set" p2) [a] [] y] X.env=(false,eval (.Call (.Name "set" p2) [a] [] y) X.env)::starEach [] X.env) (S:(backTo pos<|starEach [] X.env).any (·.1)=false) : PX X (.Call (.Name "len" p) [.Call (.Name "set" p2) [a] [] y] [] pos)<|KO fa:=by
 refine PE.imp (R0 oQ D hm PySem.boot_len (K7 (i8 (oV hc P) F O oB (K7 ha Ou Z) ADl ADl Z B) Ou he) ADl ADl he S) ?_;rintro σ H Q ⟨G,ρ,r,R,e,q⟩;unfold KO at e;split at e
 .rename_i Y T;split at e
  .rename_i ks u;split at e
   .rename_i hz;cases e;cases el:Y.list with
    |none=>rw[el]at u;contradiction
    |some ps=>
     rw[el]at u;refine⟨G,ρ,Y,R,T,λv G' H' s rv=>?_⟩;obtain⟨d,vs,rfl,C,rl⟩:=rv.list s.sub el;refine⟨d,vs,ks,rfl,C,k8 s.sub u rl,hz,λx E=>?_⟩;refine⟨x,_,rfl,Bu,q _ G' _ (s.trans<|Al.Gi s.sub _ E) ?_⟩
     rfl
   .contradiction
  .contradiction
 .contradiction
end
section
set_option tactic.hygienic true
variable{X:Cx}{Ae AU:Hp}{a b c e:Expr}{es:List Expr}{fa fb f:EF}{ga:AF}{pos:Pos}
def JX(i j:Nat)(ga:AF):SF:=λρ=>match ga ρ with
 |some rs=>(match C8 rs with|some [p,q]=>some (.nx<|(ρ.set i<|some<|.im p).set j<|some<|.im q)|_=>none)
 |none=>none
theorem AAg(i j:Nat){x y:Str}{u Z pt:Pos}{kt k2 LA}(hc:X.calm=true)(O:X.N.Nodup)(ha:Co X [a,b] ga)(hi:X.N[i]? = some x)(P:X.N[j]? = some y)(F:i≠j) (R:X.env.scope.names.lookup x=some .local) (B:X.env.scope.names.lookup y=some .local) (T:swappedStores [.Tuple [.Name x u,.Name y Z] kt pt] (.Tuple [a,b] k2 LA) X.env=pure (some [x,y])) (hs:swapsWithSole [.Tuple [.Name x u,.Name y Z] kt pt] (.Tuple [a,b] k2 LA) pos.line X.env=pure false) : DN X Ae AU (.Assign [.Tuple [.Name x u,.Name y Z] kt pt] (.Tuple [a,b] k2 LA) pos)<|JX i j ga:=PS.imp (zF hc O hi P F R B ha T hs) (by
 rintro D σ H ⟨G,ρ,o,S,e,k⟩;unfold JX at e;split at e
 .rename_i rs C;split at e
  .rename_i p q E;cases e;refine⟨G,ρ,rs,S.r,C,λvs G' H' s rv=>?_⟩;have rl:=Lg s.sub rv E;obtain⟨v,r,rfl,I,rl⟩:=rl;obtain⟨w,r,rfl,rq,rl⟩:=rl;subst rl;have Y:=S.step s.all;have Q:=Y.turn (Y.r.Dh (i:=i) I) Dz.Dh;have U:=Q.turn (Q.r.Dh (i:=j) rq) Dz.Dh;exact⟨v,w,rfl,k _ _ _ s.all.gg U⟩
  .contradiction
 .contradiction)
noncomputable def JW(f:EF):SF:=λρ=>match f ρ with|some _=>some (.nx ρ)|none=>none
theorem AAZ(he:PX X e f)(q:swapsWith e none pos.line X.env=pure false):DN X Ae AU (.Expr e pos)<|JW f:=PS.imp (Ow he q) (by
 rintro D σ H ⟨G,ρ,o,S,y,k⟩;unfold JW at y;split at y
 .rename_i r u;cases y;exact⟨G,ρ,r,S.r,u,λv G' H' s rv=>k _ _ _ s.gg<|S.step s⟩
 .contradiction)
end
section
variable{X:Cx}{Ae AU:Hp}{a b c d e:Expr}{es:List Expr}{fa fb fc fd f:EF}{ga:AF}{pos:Pos}
def X0(r Z Y:R2)(O P D F:TE):TE:=λσ H Q=>O σ H λx R=>P σ R λy B=>r x y B λz q=>∃k,z=.bl k/\
 (if k=true then D σ q λw G=>Z y w G λS v=>∃u,S=.bl u/\(if u=true then F σ v λT C=>Y w T C Q else Q (.bl false) v)else Q (.bl false) q)
theorem yP{Y O P D:TE}{op q Z:CmpOp}{r F R:R2}(ho:BZ X (compareOp op) r)(Bz:BZ X (compareOp q) F)(Ki:BZ X (compareOp Z) R)(ha:PE X a Y)(hb:PE X b O)(hc:PE X c P)(hd:PE X d D) (hm:lastMarks [op,q,Z] [b,c,d]=false:=by with_unfolding_all rfl):PE X (.Compare a [op,q,Z] [b,c,d] pos)<|X0 r F R Y O P D:=by
 intro AB s σ H Q I h;refine Compare_chain (Af (ha AB s σ H _ I h) ?_) hm;rintro v s1 ⟨x,H1,I1,r1,q1⟩;refine chain_link<|Af (hb AB s1 σ H1 _ I1 q1) ?_;rintro u s2 ⟨y,H2,I2,B,q2⟩;refine Af (ho AB s2 σ H2 x y v u _ I2 r1 B q2) ?_;rintro d s3 ⟨z,G,S,r3,k,e,T⟩;subst e;cases r3;refine wpAny_truthy_bool ?_;cases k with
 |false=>exact ite_ff ⟨.bl false,G,S,rfl,T⟩
 |true=>
  refine ite_tt<|chain_link<|Af (hc AB s3 σ G _ S T) ?_;rintro C s4 ⟨E,H4,I4,U,q4⟩;refine Af (Bz AB s4 σ H4 y E u C _ I4 B U q4) ?_;rintro d' s5 ⟨z2,n,t,r5,k2,e2,q5⟩;subst e2;cases r5;refine wpAny_truthy_bool ?_;cases k2 with
  |false=>exact ite_ff ⟨.bl false,n,t,rfl,q5⟩
  |true=>exact ite_tt<|chain_last<|Af (hd AB s5 σ n _ t q5) (by rintro w2 s6 ⟨z3,H6,I6,r6,q6⟩;exact Ki AB s6 σ H6 E z3 C w2 Q I6 U r6 q6)
theorem zJ{P D F R:TE}{op q Z:CmpOp}{r B G:R2}(ho:BZ X (compareOp op) r)(Bz:BZ X (compareOp q) B)(Ki:BZ X (compareOp Z) G)(ha:PE X a P)(hb:PE X b D)(hc:PE X c F)(hd:PE X d R) (hm:lastMarks [op,q,Z] [b,c,d]=false:=by with_unfolding_all rfl):PT X (.Compare a [op,q,Z] [b,c,d] pos)<|X1<|X0 r B G P D F R:=by
 intro AB s σ H Q I h;refine isTrue_chain (Af (ha AB s σ H _ I h) ?_) hm;rintro v s1 ⟨x,H1,I1,r1,q1⟩;refine test_link<|Af (hb AB s1 σ H1 _ I1 q1) ?_;rintro u s2 ⟨y,H2,I2,S,q2⟩;refine Af (ho AB s2 σ H2 x y v u _ I2 r1 S q2) ?_;rintro d s3 ⟨z,T,C,r3,k,e,E⟩;subst e;cases r3;refine wpAny_truthy_bool ?_;cases k with
 |false=>
  obtain⟨k',Y,O⟩:=E;cases Y;exact ite_ff ⟨T,C,O⟩
 |true=>
  refine ite_tt<|test_link<|Af (hc AB s3 σ T _ C E) ?_;rintro U s4 ⟨n,H4,I4,t,q4⟩;refine Af (Bz AB s4 σ H4 y n u U _ I4 S t q4) ?_;rintro d' s5 ⟨z2,H5,I5,r5,k2,e2,q5⟩;subst e2;cases r5;refine wpAny_truthy_bool ?_;cases k2 with
  |false=>
   obtain⟨k',Y,O⟩:=q5;cases Y;exact ite_ff ⟨H5,I5,O⟩
  |true=>
   refine ite_tt<|test_last<|Af (hd AB s5 σ H5 _ I5 q5) ?_;rintro w2 s6 ⟨z3,H6,I6,r6,q6⟩;refine Af (Ki AB s6 σ H6 n z3 U w2 _ I6 t r6 q6) ?_;rintro d2 s7 ⟨z4,H7,I7,r7,k3,e3,q7⟩;subst e3;cases r7;exact wpAny_truthy_bool ⟨H7,I7,q7⟩
set_option tactic.hygienic true
noncomputable def FK(k q v:RV->RV->Option RV)(fa fb fc fd:EF):EF:=λρ=>match fa ρ,fb ρ with
 |some x,some y=>match k x y with
  |some (.cl<|.bl true)=>(match fc ρ with
   |some z=>(match q y z with
    |some (.cl<|.bl true)=>(match fd ρ with|some w=>v z w|none=>none)
    |some (.cl<|.bl false)=>some<|.cl<|.bl false
    |_=>none)
   |none=>none)
  |some (.cl<|.bl false)=>some<|.cl<|.bl false
  |_=>none
 |_,_=>none
theorem kq{K:W.Frag}{k k' HQ:RV->RV->Option RV}{r r' F6:R2}(hk:DY K k r)(A4:DY K k' r')(N5:DY K HQ F6){σ:St}{H:Hp}{Q:VK}(h:tX K (FK k k' HQ fa fb fc fd) σ H Q):X0 r r' F6 (tX K fa) (tX K fb) (tX K fc) (tX K fd) σ H Q:=by
 obtain⟨G,ρ,z,R,e,q⟩:=h;unfold FK at e;split at e
 .rename_i x y ea eb;refine⟨G,ρ,x,R,ea,λvx G1 H1 s1 rx=>⟨G1,ρ,y,R.step s1,eb,λO G2 H2 s2 P=>?_⟩⟩;split at e
  .rename_i S;cases T:fc ρ with
   |none=>rw[T]at e;contradiction
   |some w=>
    rw[T]at e;dsimp only at e;refine hk x y _ H G2 H2 vx O _ s2.sub (s1.hh.trans s2.hh) S (rx.step s2) (P.back s1.hh) λv C H3 Y rv=>⟨true,rv.bl,?_⟩;have u:=(s1.trans s2).trans Y;refine⟨C,ρ,w,R.step u,T,λvw G4 H4 Z E=>?_⟩;split at e
    .rename_i I;cases U:fd ρ with
     |none=>rw[U]at e;contradiction
     |some w2=>
      rw[U]at e;refine A4 y w _ H G4 H4 O vw _ Z.sub (u.trans Z).hh I ((P.back s1.hh).step<|Y.trans Z) (E.back u.hh) λv5 n H5 D t=>⟨true,t.bl,?_⟩;have F:=(u.trans Z).trans D;refine⟨n,ρ,w2,R.step F,U,λvw2 G6 H6 B rw2=>?_⟩;exact N5 w w2 z H G6 H6 vw vw2 Q B.sub (F.trans B).hh e ((E.back u.hh).step<|D.trans B) (rw2.back F.hh) λv7 G7 H7 s7 rv7=>q v7 G7 H7 ((F.trans B).trans s7) rv7
    .rename_i I;cases e;refine A4 y w _ H G4 H4 O vw _ Z.sub (u.trans Z).hh I ((P.back s1.hh).step<|Y.trans Z) (E.back u.hh) λv5 n H5 D t=>⟨false,t.bl,?_⟩;exact q _ n H5 ((u.trans Z).trans D)<|by rfl
    .contradiction
  .rename_i S;cases e;refine hk x y _ H G2 H2 vx O _ s2.sub (s1.hh.trans s2.hh) S (rx.step s2) (P.back s1.hh) λv C H3 Y rv=>⟨false,rv.bl,?_⟩;exact q _ C H3 ((s1.trans s2).trans Y)<|by rfl
  .contradiction
 .contradiction
set_option tactic.hygienic false
theorem ze{op y q:CmpOp}{k v u:RV->RV->Option RV}(Z:Cn X op k)(Y:Cn X y v)(h3:Cn X q u)(ha:PX X a fa)(hb:PX X b fb)(Q:PX X c fc)(hd:PX X d fd)(hm:lastMarks [op,y,q] [b,c,d]=false) : PX X (.Compare a [op,y,q] [b,c,d] pos)<|FK k v u fa fb fc fd:=by obtain⟨r,ho,O⟩:=Z.ex;obtain⟨r',P,D⟩:=Y.ex;obtain⟨F6,F,R⟩:=h3.ex;exact PE.imp (yP ho P F ha hb Q hd hm) λ_ _ _ h=>kq O D R h
theorem AAr{op y q:CmpOp}{k v u:RV->RV->Option RV}(Z:Cn X op k)(Y:Cn X y v)(h3:Cn X q u)(ha:PX X a fa)(hb:PX X b fb)(Q:PX X c fc)(hd:PX X d fd)(hm:lastMarks [op,y,q] [b,c,d]=false) : C6 X (.Compare a [op,y,q] [b,c,d] pos)<|AV<|FK k v u fa fb fc fd:=by obtain⟨r,ho,O⟩:=Z.ex;obtain⟨r',P,D⟩:=Y.ex;obtain⟨F6,F,R⟩:=h3.ex;exact PT.imp (zJ ho P F ha hb Q hd hm) λ_ _ _ h=>kq O D R<|Sx h
noncomputable def EC(h:Heap)(dx:PyData)(u:Value):Bool:=@decide (∃(y:PyData)(q:List Addr),Reads h u y q/\y.canLay0=true/\PyData.eqv y dx=true)<|Classical.propDecidable _
theorem b7{h:Heap}{dx y:PyData}{u:Value}{q:List Addr}(r:Reads h u y q)(hc:y.canLay0=true):EC h dx u=PyData.eqv y dx:=by
 cases he:PyData.eqv y dx with
 |true=>exact @decide_eq_true _ (Classical.propDecidable _) ⟨y,q,r,hc,he⟩
 |false=>
  refine @decide_eq_false _ (Classical.propDecidable _) ?_;rintro⟨v,Z,Y,_,Q⟩;have:=SeqAt.Reads.unique y v u q Z hc r Y;subst this;rw[he]at Q;contradiction
def inD(ps:List PV)(x:PV):Bool:=ps.any λp=>PyData.eqv (Ad p)<|Ad x
def XJ(K:W.Frag)(neg:Bool):R2:=λx y H Q=>∃(q:PV)(ps:List PV)(vs:List V)(p:Addr),y=.ref p/\(B6 K H p vs\/BS K H p vs)/\AQ K H ps vs/\Rep K H q x/\SeqAt.shaped (Ad q)=true/\(∀p∈ps,SeqAt.shaped (Ad p)=true)/\Q (.bl (if neg=true then !inD ps q else inD ps q)) H
theorem NI{AB:List (Addr×Obj)}{σ:St}{H:Hp}{s:Shared}(I:Inv X AB σ H s){dx:PyData}:∀{ps:List PV}{vs:List V}{us:List Value},AQ X.K H ps vs->An vs us->(∀p∈ps,SeqAt.shaped (Ad p)=true)->us.any (EC s.heap dx)=ps.any λp=>PyData.eqv (Ad p) dx
 |[],vs,us,h,r,_=>by subst h;cases r;rfl
 |p::ps,vs,us,h,r,hs=>by
  obtain⟨v,vr,rfl,y,u⟩:=h;cases r with
  |cons r1 r2=>
   obtain⟨as,ra⟩:=Rep.reads I (SeqAt.canLay_of_shaped<|hs p AD6) y r1;simp only[AFI,AFI,b7 ra<|SeqAt.canLay_of_shaped<|hs p AD6,NI I u r2 λq Z=>hs q<|AD4 _ Z]
theorem Oh{AB:List (Addr×Obj)}{σ:St}{H:Hp}{s:Shared}(I:Inv X AB σ H s)(Y:X.A.units+66<cLine){y:PV}{Q:V}{O:Value}(P:Rep X.K H y Q)(D:RelV Q O)(Z:SeqAt.shaped (Ad y)=true):∀{ps:List PV}{vs:List V}{us:List Value},AQ X.K H ps vs->An vs us->(∀p∈ps,SeqAt.shaped (Ad p)=true)->∀u∈us,SeqAt.EqAt X.A.in1 s u O (EC s.heap (Ad y) u)
 |[],vs,us,h,r,_=>by subst h;cases r;intro u Y;contradiction
 |p::ps,vs,us,h,r,hs=>by
  obtain⟨v,vr,rfl,F,R⟩:=h;cases r with
  |cons r1 r2=>
   intro u hm;rcases AEN.mp hm with rfl|hm
   .have sp:=hs p AD6;obtain⟨B,ra⟩:=Rep.reads I (SeqAt.canLay_of_shaped sp) F r1;obtain⟨bs,rb⟩:=Rep.reads I (SeqAt.canLay_of_shaped Z) P D;rw[b7 ra<|SeqAt.canLay_of_shaped sp];exact SeqAt.eqAt_reads _ _ _ _ _ _ B bs ra rb (SeqAt.canLay_of_shaped sp) (SeqAt.canLay_of_shaped Z) (SeqAt.room_of_shaped sp (by show X.A.units+1+64<cLine;lia))
   .exact Oh I Y P D Z R r2 (λq G=>hs q<|AD4 _ G) u hm
theorem xg(D:X.A.units+66<cLine):BZ X (compareOp .In)<|XJ X.K false:=by
 intro AB s σ H x y v u Q I F G h;obtain⟨Z,ps,vs,p,rfl,Y,rl,R,B,O,q⟩:=h;cases G;rcases Y with Y|Y
 .obtain⟨its,r,pl,hz⟩:=I.list Y;refine SeqAt.in_listAt (EC s.heap<|Ad Z) pl.isList (λw P=>Oh I D R F B rl r O w<|by simpa using P) ⟨.bl _,H,I,rfl,?_⟩;rw[show its.toArray.any (EC s.heap<|Ad Z)=its.any (EC s.heap<|Ad Z)by simp,NI I rl r O];exact q
 .obtain⟨its,r,pl,hz⟩:=I.tuple Y;refine SeqAt.in_tupleAt (EC s.heap<|Ad Z) pl (λw P=>Oh I D R F B rl r O w<|by simpa using P) ⟨.bl _,H,I,rfl,?_⟩;rw[show its.toArray.any (EC s.heap<|Ad Z)=its.any (EC s.heap<|Ad Z)by simp,NI I rl r O];exact q
theorem xo(D:X.A.units+66<cLine):BZ X (compareOp .NotIn)<|XJ X.K true:=by
 intro AB s σ H x y v u Q I F G h;obtain⟨Z,ps,vs,p,rfl,Y,rl,R,B,O,q⟩:=h;cases G;rcases Y with Y|Y
 .obtain⟨its,r,pl,hz⟩:=I.list Y;refine SeqAt.notIn_listAt (EC s.heap<|Ad Z) pl.isList (λw P=>Oh I D R F B rl r O w<|by simpa using P) ⟨.bl _,H,I,rfl,?_⟩;rw[show its.toArray.any (EC s.heap<|Ad Z)=its.any (EC s.heap<|Ad Z)by simp,NI I rl r O];exact q
 .obtain⟨its,r,pl,hz⟩:=I.tuple Y;refine SeqAt.notIn_tupleAt (EC s.heap<|Ad Z) pl (λw P=>Oh I D R F B rl r O w<|by simpa using P) ⟨.bl _,H,I,rfl,?_⟩;rw[show its.toArray.any (EC s.heap<|Ad Z)=its.any (EC s.heap<|Ad Z)by simp,NI I rl r O];exact q
set_option tactic.hygienic true
def O3(ps:List PV):Bool:=ps.all λp=>SeqAt.shaped<|Ad p
def Gf(neg:Bool)(x y:RV):Option RV:=match y.seq with
 |some ps=>if SeqAt.shaped (Ad x.any)=true/\O3 ps=true then some (.cl (.bl (if neg=true then !inD ps x.any else inD ps x.any)))else none
 |none=>none
theorem iX{K:W.Frag}{neg:Bool}:DY K (Gf neg)<|XJ K neg:=by
 intro x y z H0 G H vx vy Q sub sh e v u q;unfold Gf at e;split at e
 .rename_i ps es;split at e
  .rename_i hs;cases e;obtain⟨a,vs,rfl,Z,rl⟩:=u.seq sub es;refine⟨x.any,ps,vs,a,rfl,Z,AQ.same sub rl,v.any sub,hs.1,λp hp=>AFo.mp hs.2 p hp,q _ G H (Al.refl sub) ?_⟩
   rfl
  .contradiction
 .contradiction
theorem oy(y:X.A.units+66<cLine):Cn X .In<|Gf false:=⟨_,xg y,iX⟩
theorem o7(y:X.A.units+66<cLine):Cn X .NotIn<|Gf true:=⟨_,xo y,iX⟩
end
theorem ACQ{k:Nat}{A:Around}(r:Cd k A):A.units+66<cLine:=by have:=r.un;lia
inductive AC3 where
 |o (x:Out)|ex (nm:Str)
section
variable{X:Cx}{E:XK}{Ae AU:Hp}{a b c e tg iter:Expr}{es:List Expr}{fa fb fc f:EF}{ga:AF}{t:BF}{pos:Pos}{st:Stmt}{rest body U4:List Stmt}{g h:YF}
end
section
variable{X:Cx}{Ae AU:Hp}{a b e:Expr}{es:List Expr}{fa fb f:EF}{ga:AF}{pos:Pos}
end
section
variable{X:Cx}{E:XK}{Ae AU:Hp}{a b e:Expr}{es:List Expr}{fa fb f:EF}{ga:AF}{pos:Pos}
end
section
variable{X:Cx}{E:XK}{Ae AU:Hp}{a b e:Expr}{es:List Expr}{fa fb f:EF}{ga:AF}{pos:Pos}
end
noncomputable def CS:List (List Int)->List PV->List Int->Option PV
 |k'::ks,x::xs,k=>if k'=k then some x else CS ks xs k
 |_,_,_=>none
noncomputable def HA:List (List Int)->List PV->List Int->PV->List PV
 |k'::ks,x::xs,k,v=>(if k'=k then v else x)::HA ks xs k v
 |_,_,_,_=>[]
noncomputable def FH(ks:List<|List Int)(k:List Int):List<|List Int:=if k∈ks then ks else ks ++ [k]
def HB(ks:List<|List Int)(xs:List PV)(k:List Int)(v:PV):List PV:=if k∈ks then HA ks xs k v else xs ++ [v]
theorem WL{a b:List Int}(h:CL a=CL b):a=b:=by exact(AHa λx y e=>Sum.inl.inj e).mp h
theorem RC(k:List Int):(CL k).map kV=k.map V.int:=by
 unfold CL;rw[AEH]
 rfl
section
variable{K:W.Frag}{G:Hp}
theorem Ug:∀{ks:List (List Int)}{xs:List PV}{AI:List (List Key×V)}{k:List Int}{p:PV},AI.map (·.1)=ks.map CL->AQ K G xs (AI.map (·.2))->CS ks xs k=some p->∃v,F8 AI (CL k)=some v/\Rep K G p v
 |[],_,_,_,_,_,_,e=>by contradiction
 |_::_,[],_,_,_,_,_,e=>by contradiction
 |k'::ks,x::xs,[],k,p,h,_,_=>by simp at h
 |k'::ks,x::xs,(q,v)::AI,k,p,h,r,e=>by
  simp only[AD0,AGa]at h;obtain⟨u,us,Z,Y,Q⟩:=r;cases Z;unfold CS at e;by_cases y:k'=k
  .rw[ADr y]at e;cases e;exact⟨v,S6 (by rw[h.1,y]),Y⟩
  .rw[ADs y]at e;obtain⟨w,O,P⟩:=Ug h.2 Q e;exact⟨w,by rw[S5 λz=>y<|WL<|h.1.symm.trans z];exact O,P⟩
theorem bp{k:List Int}{p:PV}{v:V}(hp:Rep K G p v):∀{ks:List (List Int)}{xs:List PV}{AI:List (List Key×V)},AI.map (·.1)=ks.map CL->AQ K G xs (AI.map (·.2))->(AI.map λy=>if y.1=CL k then(y.1,v)else y).map (·.1)=ks.map CL/\AQ K G (HA ks xs k p) ((AI.map λy=>if y.1=CL k then(y.1,v)else y).map (·.2))
 |[],xs,[],_,r=>by exact⟨rfl,by rfl⟩
 |[],_,_::_,h,_=>by simp at h
 |_::_,_,[],h,_=>by simp at h
 |k'::ks,[],_::_,_,r=>by unfold AQ at r;simp at r
 |k'::ks,x::xs,(q,u)::AI,h,r=>by
  simp only[AD0,AGa]at h;obtain⟨u',us,O,P,D⟩:=r;cases O;obtain⟨Y,Q⟩:=bp (k:=k) hp h.2 D;obtain⟨rfl,_⟩:=h;unfold HA;by_cases Z:k'=k
  .subst Z;rw[AD0,ADr rfl,ADr rfl,AD0,Y];refine⟨rfl,?_⟩;exact⟨_,_,rfl,hp,Q⟩
  .rw[AD0,ADs Z,ADs λz=>Z<|WL z,AD0,Y];refine⟨rfl,?_⟩;exact⟨_,_,rfl,P,Q⟩
theorem qK{ks:List (List Int)}{xs:List PV}{AI:List (List Key×V)}{k:List Int}{p:PV}{v:V}(h:AI.map (·.1)=ks.map CL)(r:AQ K G xs (AI.map (·.2)))(hp:Rep K G p v) : (Fd AI (CL k) v).map (·.1)=(FH ks k).map CL/\AQ K G (HB ks xs k p) ((Fd AI (CL k) v).map (·.2)):=by
 have e:(AI.any λu=>decide (u.1=CL k))=decide (k∈ks):=by
  have:(AI.any λu=>decide (u.1=CL k))=(AI.map (·.1)).any λq=>decide (q=CL k):=by rw[AF0];rfl
  rw[this,h,AF0,AEk];simp only[List.any_eq_true,Function.comp,ADu];exact⟨(by rintro⟨x,Z,e⟩;exact WL e ▸ Z),λZ=>⟨k,Z,rfl⟩⟩
 delta Fd FH HB
 rw[e];by_cases y:k∈ks
 .rw[ADr (by simpa using y),ADr y,ADr y];exact bp hp h r
 .rw[ADs (by simpa using y),ADs y,ADs y,AEl,AEl,AEl,h];exact⟨rfl,AQ.of<|K5 r.paired<|.cons hp .nil⟩
end
theorem Z1(ks:List<|List Int)(k:List Int):(FH ks k).length<=ks.length+1:=by
 unfold FH;split
 .lia
 .rw[AD1];exact ADt _
theorem bj:∀(ks:List<|List Int)(xs:List PV)(k:List Int)(v:PV),ks.length=xs.length->(HA ks xs k v).length=xs.length
 |[],[],_,_,_=>rfl
 |[],_::_,_,_,h=>by simp at h
 |_::_,[],_,_,h=>by simp at h
 |_::ks,_::xs,k,v,h=>by unfold HA;simp only[AD5,AD5,bj ks xs k v<|by simpa using h]
theorem Z2{ks:List (List Int)}{xs:List PV}(h:ks.length=xs.length)(k:List Int)(v:PV):(FH ks k).length=(HB ks xs k v).length:=by
 delta FH HB
 split
 .rw[bj ks xs k v h,h]
 .simp only[AD1,AD1,h];rfl
theorem Zz(k j:List Int)(v:PV):∀(ks:List<|List Int)(xs:List PV),ks.length=xs.length->k∉ks->CS (ks ++ [k]) (xs ++ [v]) j=if j=k then some v else CS ks xs j
 |[],[],_,_=>by
  show(if k=j then some v else CS [] [] j)=_;by_cases e:j=k
  .rw[ADr e,ADr e.symm]
  .rw[ADs e,ADs<|AFH e]
 |[],_::_,h,_=>by simp at h
 |_::_,[],h,_=>by simp at h
 |k'::ks,x::xs,h,n=>by
  simp only[AEN,not_or]at n;show(if k'=j then some x else CS (ks ++ [k]) (xs ++ [v]) j)=if j=k then some v else if k'=j then some x else CS ks xs j
  rw[Zz k j v ks xs (by simpa using h) n.2];by_cases e:k'=j
  .subst e;rw[ADr rfl,ADr rfl,ADs λz=>n.1 z.symm]
  .rw[ADs e,ADs e]
theorem Zy(k j:List Int)(v:PV):∀(ks:List<|List Int)(xs:List PV),ks.length=xs.length->k∈ks->CS ks (HA ks xs k v) j=if j=k then some v else CS ks xs j
 |[],_,_,n=>by cases n
 |_::_,[],h,_=>by simp at h
 |k'::ks,x::xs,h,n=>by
  show(if k'=j then some (if k'=k then v else x)else CS ks (HA ks xs k v) j)=if j=k then some v else if k'=j then some x else CS ks xs j
  by_cases e:k'=j
  .subst e;rw[ADr rfl,ADr rfl];split<;>rfl
  .rw[ADs e,ADs e];by_cases u:k∈ks
   .exact Zy k j v ks xs (by simpa using h) u
   .have:=by simpa[u]using n
    subst this;rw[ADs<|AFH e];have:∀(ks:List<|List Int)(xs:List PV),ks.length=xs.length->k∉ks->HA ks xs k v=xs:=by
     intro ks
     induction ks with
     |nil=>intro xs h _;cases xs with
      |nil=>rfl
      |cons _ _=>simp at h
     |cons q qs ih=>intro xs h n;cases xs with
      |nil=>simp at h
      |cons y ys=>
       simp only[AEN,not_or]at n;unfold HA;rw[ADs<|AFH n.1,ih ys (by simpa using h) n.2]
    rw[this ks xs (by simpa using h) u]
theorem Zx{ks:List (List Int)}{xs:List PV}(h:ks.length=xs.length)(k j:List Int)(v:PV):CS (FH ks k) (HB ks xs k v) j=if j=k then some v else CS ks xs j:=by
 delta FH HB
 by_cases y:k∈ks
 .rw[ADr y,ADr y];exact Zy k j v ks xs h y
 .rw[ADs y,ADs y];exact Zz k j v ks xs h y
section
variable{X:Cx}{a b c e tg iter:Expr}{es:List Expr}{fa fb fc f:EF}{g ga:AF}{pos:Pos}{Ae AU:Hp}
noncomputable def Jx:List RV->Option (List Int)
 |[]=>some []
 |.cl (.int i)::r=>(Jx r).map (i :: ·)
 |_::_=>none
theorem XS{K:W.Frag}{H G' H':Hp}:∀{rs:List RV}{vs:List V}{k:List Int},Jx rs=some k->Dl K H G' H' rs vs->vs=k.map V.int
 |[],_,_,e,r=>by cases e;cases r;rfl
 |.cl (.int i)::rs,_,k,e,r=>by
  unfold Jx at e;cases y:Jx rs with
  |none=>rw[y]at e;contradiction
  |some q=>
   rw[y]at e;cases e;cases r with
   |cons r1 r2=>rw[r1.int,XS y r2];rfl
 |.cl .Aw::_,_,_,e,_=>by contradiction
 |.cl (.bl _)::_,_,_,e,_=>by contradiction
 |.cl (.str _)::_,_,_,e,_=>by contradiction
 |.cl (.tup _)::_,_,_,e,_=>by contradiction
 |.cl (.lst _)::_,_,_,e,_=>by contradiction
 |.cl (.rd _)::_,_,_,e,_=>by contradiction
 |.cl (.By _ _)::_,_,_,e,_=>by contradiction
 |.bo _::_,_,_,e,_=>by contradiction
 |.fr _::_,_,_,e,_=>by contradiction
 |.bd _ _::_,_,_,e,_=>by contradiction
 |.fd _ _::_,_,_,e,_=>by contradiction
 |.tf _ _::_,_,_,e,_=>by contradiction
noncomputable def RV.By:RV->Option (List (List Int)×List PV)
 |.cl (.By ks xs)=>some (ks,xs)
 |.bd ks xs=>some (ks,xs)
 |.fd ks xs=>some (ks,xs)
 |_=>none
theorem Bo.By{K:W.Frag}{H G' H':Hp}{r:RV}{v:V}{ks:List (List Int)}{xs:List PV}(sub:AY G' H')(h:Bo K H G' H' r v)(e:r.By=some (ks,xs)):∃a AI,v=.ref a/\Rd H' a (.dT AI)/\AI.map (·.1)=ks.map CL/\AQ K G' xs (AI.map (·.2)):=by
 cases r with
 |cl p=>
  cases p with
  |By OS TF=>
   cases e;have h':=h;obtain⟨a,AI,e,q,k,r⟩:=h';exact⟨a,AI,e,Rd.same sub q,k,r⟩
  |_=>contradiction
 |bd OS TF=>
  cases e;obtain⟨a,AI,e,g,q,k,r⟩:=h;exact⟨a,AI,e,.inl q,k,r⟩
 |fd OS TF=>
  cases e;obtain⟨a,AI,e,n,g,q,k,r⟩:=h;exact⟨a,AI,e,.inl q,k,r⟩
 |_=>contradiction
set_option tactic.hygienic true
def JS(f:EF)(g:AF):EF:=λρ=>match f ρ,g ρ with
 |some r,some rs=>(match r.By,Jx rs with|some d,some k=>if k.length<=1000 then(CS d.1 d.2 k).map .cl else none|_,_=>none)
 |_,_=>none
theorem zi{x1}{Z:Pos}(O:X.A.units+1<cLine)(ho:PX X a f)(h:Co X es g)(hs:NF<|.Tuple es x1 Z):PX X (.Subscript a (.Tuple es x1 Z) pos)<|JS f g:=PE.imp (yR O ho (W9 h) hs) (by
 rintro σ H Q ⟨G,ρ,z,R,e,q⟩;unfold JS at e;split at e
 .rename_i r rs P D;split at e
  .rename_i d k F B;split at e
   .rename_i hz;cases y:CS d.1 d.2 k with
    |none=>rw[y]at e;contradiction
    |some p=>
     rw[y]at e;cases e;refine⟨G,ρ,r,R,P,λv S H1 s1 rv=>⟨S,ρ,rs,R.step s1,D,λvs G2 H2 s2 T=>?_⟩⟩;have Y:=XS B T;refine⟨small (by rw[Y,ADo];exact hz),λb hb=>?_⟩;have u:=Al.new s2.sub (.tup vs) hb;obtain⟨a,AI,rfl,C,E,rl⟩:=(rv.step<|s2.trans u).By u.sub F;obtain⟨w,I,U⟩:=Ug E rl y;exact⟨a,w,rfl,.inr ⟨AI,CL k,b,C,rfl,by rw[Bu,RC,Y],I.symm⟩,q w _ _ ((s1.trans s2).trans u) U⟩
   .contradiction
  .contradiction
 .contradiction)
noncomputable def QW:EF:=λ_=>some<|.fd [] []
theorem zl:PX X (.Dict [] [] pos) QW:=PE.imp yT (by rintro σ H Q ⟨G,ρ,z,R,e,q⟩;cases e;intro p hp;exact q _ _ _ (Al.Gi R.sub _ hp) ⟨p,[],rfl,hp,R.sub.free hp,Bu,rfl,by rfl⟩)
noncomputable def Nr(i:Nat)(f:EF):SF:=λρ=>match f ρ with|some (.fd ks xs)=>some (.nx<|ρ.set i<|some<|.Cj none ks xs)|_=>none
theorem AAm(i:Nat){x:Str}{p:Pos}(y:X.N.Nodup)(he:PX X e f)(hi:X.N[i]? = some x)(q:Loc X.env.scope x)(hs:swapsWith e (some<|.Name x p) pos.line X.env=pure false)(u:X.fn x=true\/X.env.scope.names.lookup x=some .local) : DN X Ae AU (.Assign [.Name x p] e pos)<|Nr i f:=PS.imp (Ox y hi q he hs u) (by
 rintro D σ H ⟨G,ρ,o,S,e,k⟩;unfold Nr at e;split at e
 .rename_i ks xs Z;cases e;refine⟨G,ρ,_,S.r,Z,λv G' H' s rv=>?_⟩;obtain⟨a,AI,rfl,n,ga,ha,Y,rl⟩:=rv;exact k _ _ _ s.gg<|(S.step s).jx S.hh S.r.W4 n ⟨a,AI,rfl,ga,ha,Y,rl,λ_ z=>nomatch z⟩
 .contradiction)
noncomputable def Qj(i:Nat):SF:=λρ=>match ρ[i]? with|some (some<|.Cj _ ks xs)=>some (.rt<|.fd ks xs)|_=>none
theorem AAi(i:Nat){x:Str}{p:Pos}(u:X.N[i]? = some x)(Z:FG X.env.scope x)(hd:(x==("__debug__"))=false) (Y:(x==("__classdict__"))=false):DN X Ae AU (.Return (some<|.Name x p) pos)<|Qj i:=PS.imp (SA<|He u Z hd Y) (by
 rintro D σ H ⟨G,ρ,o,S,e,k⟩;unfold Qj at e;split at e
 .rename_i ks xs y;cases e;obtain⟨v,q,a,AI,rfl,ga,ha,Q,rl,_⟩:=S.r.slot i _ y;exact⟨_,q,k _ G H S.O6 ⟨a,AI,rfl,S.new i _ a rfl y q,ga,ha,Q,rl⟩⟩
 .contradiction)
def KW(i:Nat)(g:AF)(f:EF):SF:=λρ=>match f ρ,ρ[i]?,g ρ with
 |some r,some<|some<|.Cj t ks xs,some rs=>(match r.clean,Jx rs with|some p,some k=>if ks.length<1000000/\k.length<=1000 then some (.nx<|ρ.set i<|some<|.Cj t (FH ks k)<|HB ks xs k p)else none|_,_=>none)
 |_,_,_=>none
theorem AAY(i:Nat){x:Str}{p sp u:Pos}{x1}(F:X.A.units+1<cLine)(R:Co X es g)(he:PX X e f)(B:X.N[i]? = some x)(T:FG X.env.scope x)(hd:(x==("__debug__"))=false) (C:(x==("__classdict__"))=false) (hs:swapsWith e (some<|.Subscript (.Name x p) (.Tuple es x1 u) sp) pos.line X.env=pure false) : DN X Ae AU (.Assign [.Subscript (.Name x p) (.Tuple es x1 u) sp] e pos)<|KW i g f:=PS.imp (zC F (He B T hd C) (W9 R) he hs) (by
 rintro D σ H ⟨G,ρ,o,S,e,ok⟩;unfold KW at e;split at e
 .rename_i r t0 ks xs rs E Z I;split at e
  .rename_i p k U n;split at e
   .rename_i hz;cases e;refine⟨G,ρ,r,S.r,E,λv G1 H1 s1 rv=>?_⟩;have q:=S.step s1.all;obtain⟨w,Y,b,AI,rfl,g,hb,Q,rl,L5⟩:=q.r.slot i _ Z;refine⟨_,Y,Ep G1 H H1,ρ,_,q.r,I,λvs G2 H2 s2 Xa=>?_⟩;have O:=XS n Xa;refine⟨small (by rw[O,ADo];exact hz.2),λt ht=>?_⟩;have s3:=Al.new s2.sub (.tup vs) ht;have y:=s2.trans s3;have hl:=by have:=AFX List.length Q;simpa using this
    have rp:=Rep.same y.gg<|rv.clean s1.sub U;obtain⟨h1,h2⟩:=qK Q (AQ.same y.gg rl) rp;refine⟨b,_,rfl,.inr ⟨AI,CL k,t,y.hh _ _ hb,rfl,by rw[Bu,RC,O],AEz (AGO hl)<|AGB hz.1 ADl,rfl⟩,?_⟩;have P:=y.ex b (.d hb) g;exact ok _ _ _ (s1.all.gg.trans y.gg)<|(q.step y).chg rfl Z Y P ⟨b,_,rfl,P,Bu,h1,h2,L5⟩
   .contradiction
  .contradiction
 .contradiction)
theorem qo(l:Addr)(its:Array Value)(n:Nat)(b:Addr)(o:Obj)(y:Array Value)(v:Nat)(hc:o.cls=.type "list"\/o.cls=.type "tuple")(hd:o.data=.seq y v)(h0:¬(!its.isEmpty&&Builtin.List.listTooLong (its.size+y.size))=true)(u:its.size<=sizeLine)(Z:its.size+y.size<=sizeLine+1) : Meets (Builtin.«list.extend» ⟨[.ref l,.ref b],[]⟩) (λ_ R s=>s.heap.get? l=some {cls:=.type "list",dict:=none,data:=.seq its n,slots:=#[]}/\s.heap.get? b=some o/\R (.ok<|.ret Value.none) {s with heap:=s.heap.update l<|Obj.mapSeq λx=>x++y,toks:=s.toks}):=
 .of_wp λprog w A R s h=>by
  obtain⟨hp,g,d,tk,os⟩:=s;obtain⟨q,hb,h⟩:=h;obtain⟨c,dc,dt,sl⟩:=o;cases hd;have f2:=AutoSeq1.sub_tuple_tuple;have f3:=AutoSeq1.sub_list_list;have f4:=AutoSeq1.sub_tuple_list;have f5:=AutoSeq1.sub_list_tuple;have Y:(its++y).size<=sizeLine+1:=by rw[Array.size_append];exact Z
  rcases hc with hc|hc<;>cases hc<;>wp_walk using(wpAny_updateSeq q rfl (hz:=u) (_hz':=Y)),AutoSeq1.wpAny_loadPart' q,AutoSeq1.wpAny_loadPart' hb<;>exact⟨_,rfl,h⟩
def AA1(K:W.Frag):V->List V->Hp->VK->Prop:=λx vs H Q=>∃l b xs zs,x=.ref l/\vs=[.ref b]/\H l=some (.lst xs)/\(Rd H b (.lst zs)\/BS K H b zs)/\xs.length+zs.length<=sizeLine/\Q .Aw (upd H l<|.lst<|xs++zs)
theorem wm:Tv X "list.extend"<|AA1 X.K:=by
 intro AB s σ H x vs v us Q I R rv h;obtain⟨l,b,xs,zs,rfl,rfl,D,O,hz,q⟩:=h;cases R;obtain⟨u,rfl,B⟩:=rv.one;cases B;obtain⟨z,its,n,r,hl,e⟩:=I.Wg D;obtain⟨y,Z,o,Y,P,hc,hd⟩:∃y Z o,An zs y/\s.heap.get? b=some o/\(o.cls=.type "list"\/o.cls=.type "tuple")/\o.data=.seq y.toArray Z:=by
  rcases O with O|O
  .obtain⟨_,y,Z,Y,P⟩:=O.ok I.AX;exact⟨y,Z,_,Y,P,.inl rfl,rfl⟩
  .obtain⟨y,Y,⟨o,P,hc,Z,hd⟩,_⟩:=I.tuple O;exact⟨y,Z,o,Y,P,.inr hc,hd⟩
 have HM:=Y.length;have hsz:its.toArray.size+y.toArray.size<=sizeLine:=by rw[AD3,AD3];lia
 have G:¬ (!its.toArray.isEmpty&&Builtin.List.listTooLong (its.toArray.size+y.toArray.size))=true:=by rw[xE hsz,AIA];exact AFL
 refine call_meets F.slot_list_extend ⟨_,e,rfl⟩ F.entry_list_extend (F.args_list_extend_2 _ _) (qo l its.toArray n b o y.toArray Z hc hd G (by rw[AD3];clear hz;lia) J) ⟨e,P,?_⟩
 refine⟨.Aw,_,I.Wf D e ADk (r.append Y) ?_,rfl,q⟩;rw[AD1];omega
noncomputable def Kp(ps qs:List PV):Option<|List PV:=match qs with|[.lst zs]|[.tup zs]=>if ps.length+zs.length<=1000 then some (ps++zs)else none|_=>none
theorem AAa(i:Nat){x:Str}{p u y:Pos}(ha:Co X (e::es) ga)(B:X.N[i]? = some x)(T:FG X.env.scope x)(hd:(x==("__debug__"))=false) (C:(x==("__classdict__"))=false) (E:attributeBase (.Name x p) "extend" X.env (eval (.Name x p) X.env)=eval (.Name x p) X.env) (I:((backTo y<|starEach (e::es) X.env).all (λx=>!x.1)&&(backToKw y<|keywordEach [] X.env).all (λx=>x.1.isSome)
  && decide ((e::es).length+([]:List Keyword).length+(if([]:List Keyword).isEmpty then 0 else 1)<30))=true)
 (U:(u.endLine==y.line)=true) (hs:starEach (e::es) X.env=(false,eval e X.env)::starEach es X.env) (n:(backTo y<|starEach es X.env).any (·.1)=false)
 (t:swapsWith (.Call (.Attribute (.Name x p) "extend" u) (e::es) [] y) none pos.line X.env=pure false) :
 DN X Ae AU (.Expr (.Call (.Attribute (.Name x p) "extend" u) (e::es) [] y) pos) (DT i Kp ga):=
 PS.imp (Ow (W7 AGV PySem.F.slot_list_extend PySem.F.type_list_extend wm (He B T hd C) ha E I U hs n) t) (by
 rintro D σ H ⟨G,ρ,o,S,e,ok⟩;unfold DT at e;split at e
 .rename_i ps rs Y ea;split at e
  .rename_i qs ec;split at e
   .rename_i EW q;cases e;obtain⟨v,Q,a,vs,rfl,g,ha,rl⟩:=S.r.slot i _ Y;refine⟨_,Q,.inl ⟨rfl,vs,.inl<|.inl ha⟩,G,ρ,rs,S.r,ea,λus G1 H1 s1 rv=>?_⟩;have S1:=S.step s1.all;have rq:=Lg s1.sub rv ec;have O:=AQ.same s1.all.gg rl;unfold Kp at q;split at q
    iterate 2
     split at q
     .cases q;obtain⟨w,r,rfl,Z,rn⟩:=rq;subst rn;obtain⟨b,ws,rfl,P,R⟩:=Z;have l1:=O.len;have l2:=R.len;refine⟨a,b,vs,ws,rfl,rfl,s1.hh _ _ ha,by first|exact .inl (Rd.same s1.all.sub P)|exact .inr<|BS.same s1.all.sub P,small J,?_⟩;exact ok _ _ _ s1.all.gg<|S1.change Y Q (s1.all.ex a (.l ha) g)<|AQ.of<|K5 O.paired R.paired
     .contradiction
    .contradiction
   .contradiction
  .contradiction
 .contradiction)
end
section
variable{Ae AU:Hp}
end
section
variable{X:Cx}{pos:Pos}{Ae AU:Hp}{f:Addr}{fd:FuncData}{ps:List Str}{k:Nat}{rec:Rec}
end
section
variable{X:Cx}{a:Expr}{es:List Expr}{f:EF}{g:AF}{pos:Pos}
end
theorem un1{k:Nat}{A:Around}(r:Cd k A):A.units+1<cLine:=by have:=r.un;lia
open Classical in
section
variable{X:Cx}{e:Expr}{es:List Expr}{g:AF}{pos:Pos}
end
def Tq(f:EF):Prop:=∀ρ r,f ρ=some r->r.flat=true
def Hq(g:SF):Prop:=∀ρ r,g ρ=some (.rt r)->r.flat=true
theorem cU{p:PV}(h:p.flat=true):Tq<|fC p:=λ_ _ e=>by cases e;exact h
set_option tactic.hygienic true
theorem qy{g:AF}:Tq<|fB HV g:=λρ r e=>by
 unfold fB at e;split at e
 .unfold HV at e;split at e
  .obtain⟨ns,_,rfl⟩:=AFO.mp e
   rfl
  .contradiction
 .contradiction
theorem VH{f:EF}(h:Tq f):Hq<|Az f:=λρ r e=>by
 unfold Az at e;split at e
 .rename_i p y;cases e;exact h ρ _ y
 .rename_i p y;cases e;exact h ρ _ y
 .contradiction
set_option tactic.hygienic false
theorem cW:Hq BI:=λρ r e=>by cases e
theorem cX{g h:SF}(a:Hq g)(b:Hq h):Hq<|AM g h:=λρ r e=>by
 unfold AM at e;split at e
 .exact b _ _ e
 .exact a _ _ e
theorem cV{t:BF}{g h:SF}(a:Hq g)(b:Hq h):Hq<|A2 t g h:=λρ r e=>by
 unfold A2 at e;split at e
 .exact a _ _ e
 .exact b _ _ e
 .contradiction
theorem qx{N n:Nat}{g:SF}(h:Hq g)(ps:List PV)(r:RV)(e:denote N n g ps=some r):r.flat=true:=by
 unfold denote at e;split at e
 .cases y:g (BD N ps)with
  |none=>rw[y]at e;contradiction
  |some o=>
   rw[y]at e;cases o with
   |rt r'=>cases e;exact h _ _ y
   |nx ρ=>cases e;rfl
   |bk ρ=>contradiction
   |ct ρ=>contradiction
 .contradiction
section
variable{X:Cx}{Ae AU:Hp}
end
noncomputable def MA(ps:List Str)(q:List Pos):Arguments:=⟨[],(ps.zip q).map λx=>⟨x.1,none,x.2⟩,none,[],[],none,[]⟩
theorem ly{α β:Type}:∀(a:List α)(b:List β),b.length=a.length->(a.zip b).map (·.1)=a
 |[],_,_=>rfl
 |x::a,y::b,h=>by simp only[AG6,AD0];rw[ly a b<|by simpa using h]
theorem cf{α β:Type}{f g:α->Option β}:∀l:List α,(∀x∈l,f x=g x)->l.filterMap f=l.filterMap g
 |[],_=>rfl
 |x::l,h=>by simp only[AGT,AGT,h x<|.head _,cf l λy q=>h y<|.tail _ q]
theorem gI{α:Type}:∀(ps:List Str)(us:List α),us.length=ps.length->ps.Nodup->ps.filterMap (λn=>((ps.zip us).lookup n).map λx=>(n,x))=ps.zip us
 |[],_,_,_=>rfl
 |p::ps,u::us,h,nd=>by
  rw[AFd]at nd;have y:=gI ps us (by simpa using h) nd.2;rw[AG6,AHr (b:=(p,u))<|by simp[AFY]]
  congr 1
  refine(cf _ λn hn=>?_).trans y;simp only[AFY];split
  .rename_i e;exact absurd (eq_of_beq e ▸ hn) nd.1
  .rfl
theorem gH{α:Type}:∀(ps:List Str)(us:List α),us.length=ps.length->∀n∈ps,((ps.zip us).lookup n).isNone=false
 |p::ps,u::us,h,n,hn=>by
  simp only[AG6,AFY];split
  .rfl
  .rename_i e;refine gH ps us (by simpa using h) n ?_;rcases AEN.1 hn with rfl|hn
   .simp at e
   .exact hn
theorem nj(nm:Str)(ps:List Str)(q:List Pos)(b:List Stmt)(sc:Scope)(kV doc pm:Value)(an:Option Addr)(A9 ct:Value)(us:List Value)(v:q.length=ps.length)(y:us.length=ps.length)(nd:ps.Nodup):bindArgs (W.fnOf nm nm (MA ps q) b sc .none kV doc pm an A9 ct) ⟨us,[]⟩=pure (ps.zip us):=by
 have u:((MA ps q).args.map λx=>x.arg)=ps:=by unfold MA;simp only[AEH];exact(AFu λ_ _=>rfl).trans (ly ps q v)
 have hs:seqItems? Value.none=pure none:=rfl;have Z:ps.filter (λn=>((ps.zip us).lookup n).isNone)=[]:=AHI.2 λn hn=>by rw[gH ps us y n hn];simp
 delta bindArgs W.fnOf
 dsimp only;rw[u];unfold MA;simp[hs,Z,y,gI ps us y nd]
structure FS(N P:List Str)(st:Stmt):Prop where
 sc:M6 N P<|CQ st
 qs:∃q:List Pos,q.length=P.length/\ID st=MA P q
section
variable{N ps:List Str}{st:Stmt}{f:Addr}{fd:FuncData}{x:Str}{k:Nat}{g:SF}{y:YF}{P:Program}{w:World}{K:W.Frag}{mg:Str->Option Value}{base h:Heap}
theorem FS.nd(S:FS N ps st):N.Nodup:=S.sc.nd
theorem MZ(h:(CQ st).kind=.function/\(CQ st).isCoroutine=false/\(CQ st).isGenerator=false/\N.Nodup/\N.take ps.length=ps/\(∀x∈ps,(CQ st).names.lookup x=some .local\/(CQ st).names.lookup x=some .cell)/\∀y∈(CQ st).names,y.2≠.free)(q:∃q:List Pos,q.length=ps.length/\ID st=MA ps q):FS N ps st:=
 ⟨⟨h.1,h.2.1,h.2.2.1,h.2.2.2.1,h.2.2.2.2.1,h.2.2.2.2.2.1,h.2.2.2.2.2.2⟩,q⟩
theorem FS.bs(S:FS N ps st)(kV doc pm:Value)(an:Option Addr)(A9 ct:Value)(us:List Value)(v:us.length=ps.length) : bindArgs (W.fnOf x x (ID st) (GL st) (CQ st) .none kV doc pm an A9 ct) ⟨us,[]⟩=pure (ps.zip us):=by obtain⟨q,u,Z⟩:=S.qs;rw[Z];exact nj x ps q _ _ kV doc pm an A9 ct us u v<|S.sc.pre ▸ S.nd.sublist (AGH _ _)
def FM(K:W.Frag)(mg:Str->Option Value)(x:Str)(st:Stmt):Prop:=∃f fd,GB K x x st f fd/\mg x=some (.ref f)
def dR(K:W.Frag)(x:Str)(st:Stmt):Prop:=∃(f:Addr)(oc:Value)(od:Option Addr)(kV doc pm:Value)(an:Option Addr)(A9 ct:Value)(sl:Array<|Option Value),W.nsIn K mainGlobals x=some (some<|.ref f)/\K.lookup f=some ⟨oc,od,.func<|W.fnOf x x (ID st) (GL st) (CQ st) .none kV doc pm an A9 ct,sl⟩/\W.codeIn K A9 x=true/\W.keepIn K (.ref f)=true
theorem dmk{oc:Value}{od:Option Addr}{kV doc pm:Value}{an:Option Addr}{A9 ct:Value}{sl:Array (Option Value)}(a:W.nsIn K mainGlobals x=some (some<|.ref f))(l:K.lookup f=some ⟨oc,od,.func<|W.fnOf x x (ID st) (GL st) (CQ st) .none kV doc pm an A9 ct,sl⟩)(c:W.codeIn K A9 x=true)(k:W.keepIn K (.ref f)=true):dR K x st:=⟨_,_,_,_,_,_,_,_,_,_,a,l,c,k⟩
theorem Qb(X:K.In h)(G:h.Ns mainGlobals mg)(d:dR K x st):FM K mg x st:=by obtain⟨f,oc,od,kV,doc,pm,an,A9,ct,sl,a,l,c,k⟩:=d;exact⟨f,_,rF l c k,W.mg_of X G a⟩
def bR(K:W.Frag):List Str->Prop
 |[]=>True
 |x::l=>W.nsIn K mainGlobals x=some none/\bR K l
def bM(mg:Str->Option Value):List Str->Prop
 |[]=>True
 |x::l=>mg x=none/\bM mg l
theorem Yy(X:K.In h)(G:h.Ns mainGlobals mg):∀{l:List Str},bR K l->bM mg l
 |[],_=>trivial
 |_::_,z=>⟨W.mg_none_of X G z.1,Yy X G z.2⟩
theorem GB.bt(F:GB K x x st f fd)(S:FS N ps st)(s:Shared)(us:List Value)(q:us.length=ps.length):BindsTo s fd ⟨us,[]⟩<|ps.zip us:=by obtain⟨oc,od,kV,doc,pm,an,A9,ct,Ip,rfl,lk,Ba⟩:=F.ex;exact .of_eq<|S.bs _ _ _ _ _ _ us q
theorem gL(F:GB K x x st f fd)(S:FS N ps st) (hb:∀{A9:Value}{A:Around}{outer:List Env}{s:Shared}{H:Hp}{E:XK}{Ae AU:Hp},let B:=A.deeper<|envOfC x (CQ st) s.heap.objs.size f A9;Cd k B->B.units+64<cLine->B.units+1<cLine->B.units+66<cLine->true=true->Ed (IC Eb P w K mg base N x (CQ st) f A9 A outer s H E).K3 Ae AU (GL st) g) : DM P w K mg base Eb (k+1) f fd ps<|Mc K ps.length<|denote N.length ps.length g:=q8 F S.sc λ_ _ _ _ _ _ _ _ q=>hb q q.units (un1 q) (ACQ q) rfl
theorem gG(F:FM K mg x st)(S:FS N ps st) (hb:∀{f:Addr}{A9:Value}{A:Around}{outer:List Env}{s:Shared}{H:Hp}{E:XK}{Ae AU:Hp},let B:=A.deeper<|envOfC x (CQ st) s.heap.objs.size f A9;Cd k B->B.units+64<cLine->B.units+1<cLine->B.units+66<cLine->true=true->Ed (IC Eb P w K mg base N x (CQ st) f A9 A outer s H E).K3 Ae AU (GL st) g) : BG P w K mg base x (k+1) ps.length<|denote N.length ps.length g:=by obtain⟨f,fd,F,hm⟩:=F;exact⟨f,fd,ps,gL F S hb,hm,F.kp,F.binds S.bs,rfl⟩
end
section
variable{X:Cx}{a b c d:Expr}{p q r s:EF}
theorem yI(ha:PX X a p)(y:starEach [a] X.env=(false,eval a X.env)::starEach [] X.env):Co X [a]<|AG p AO:=O1 ha XE y
theorem ig(ha:PX X a p)(hb:PX X b q)(y:starEach [a,b] X.env=(false,eval a X.env)::starEach [b] X.env:=by rfl)(v:starEach [b] X.env=(false,eval b X.env)::starEach [] X.env:=by rfl):Co X [a,b]<|AG p<|AG q AO:=O1 ha (O1 hb XE v) y
theorem yJ(ha:PX X a p)(hb:PX X b q)(hc:PX X c r)(y:starEach [a,b,c] X.env=(false,eval a X.env)::starEach [b,c] X.env)(v:starEach [b,c] X.env=(false,eval b X.env)::starEach [c] X.env)(h3:starEach [c] X.env=(false,eval c X.env)::starEach [] X.env):Co X [a,b,c]<|AG p<|AG q<|AG r AO:=O1 ha (ig hb hc v h3) y
theorem WV:∀ρ rs,AG p AO ρ=some rs->rs.length=1:=Ln qq
theorem ln2:∀ρ rs,AG p (AG q AO) ρ=some rs->rs.length=2:=Ln WV
theorem WW:∀ρ rs,AG p (AG q<|AG r AO) ρ=some rs->rs.length=3:=Ln ln2
theorem RK:∀ρ rs,AG p (AG q<|AG r<|AG s AO) ρ=some rs->rs.length=4:=Ln WW
end
end L2.PL
namespace TL
open PySem PySem.Spec PyProof.Rows PySem.SeqAt
open PySem.AutoSeq1 (wpAny_loadPart')
section
variable{prog:Program}{w:World}{A:Around}{s:Shared}{Q E:Value->Shared->Prop}{a b:Int}{t u:Tok}
theorem jV(h:Q (.bool<|decide (a<b)) s):wpAny (model prog w) A (richCompare .Lt (.int a t)<|.int b u) Q E s:=lt_int h
end
theorem k7(l b:Addr)(p q u v:Int)(tp Z Y Q:Tok)(n O:Nat)(P D:Option Addr)(sl F:Array<|Option Value) : Meets (Builtin.«tuple.__lt__» ⟨[.ref l,.ref b],[]⟩)
  (λ_ R s=>s.heap.get? l=some {cls:=.type "tuple",dict:=P,data:=.seq #[.int p tp,.int q Z] n,slots:=sl}/\s.heap.get? b=some {cls:=.type "tuple",dict:=D,data:=.seq #[.int u Y,.int v Q] O,slots:=F}/\
   R (.ok<|.ret<|.bool<|decide (p<u\/(p=u/\q<v))) s):=
 .of_wp λprog w A R s h=>by
  obtain⟨B,hb,h⟩:=h;have f2:=AutoSeq1.sub_tuple_tuple
  wp_walk using wpAny_loadPart' B,wpAny_loadPart' hb
  refine EqAt.int_int p tp u Y prog w _ _ ?_;cases c:(p==u)with
  |false=>
   have y:=by simpa using c
   wp_walk using jV
   exact⟨_,rfl,by rw[show decide (p<u)=decide (p<u\/p=u/\q<v)by simp[y]];exact h⟩
  |true=>
   have y:=by simpa using c
   wp_walk
   refine EqAt.int_int q Z v Q prog w _ _ ?_;cases e:(q==v)with
   |false=>
    wp_walk using jV
    exact⟨_,rfl,by rw[show decide (q<v)=decide (p<u\/p=u/\q<v)by simp[y]];exact h⟩
   |true=>
    have G:=by simpa using e
    wp_walk
    exact⟨_,rfl,by simpa[Builtin.Tuple.tupleCompareSizes,y,G]using h⟩
end TL
namespace L2.PL
open PySem PySem.Spec PyProof.Rows
section
variable{X:Cx}{a:Expr}{fa:EF}{pos:Pos}
theorem zu{p p2:Pos}(hm:X.mg "isinstance" = none)(y:X.mg "list" = none)(ha:PX X a fa)(q:Gl X "isinstance")(v:Gl X "list") (he:starEach [a,.Name "list" p2] X.env=(false,eval a X.env)::starEach [.Name "list" p2] X.env) (u:starEach [.Name "list" p2] X.env=(false,eval (.Name "list" p2) X.env)::starEach [] X.env) (Z:(backTo pos<|starEach [.Name "list" p2] X.env).any (·.1)=false) : PX X (.Call (.Name "isinstance" p) [a,.Name "list" p2] [] pos)<|GO "list" fa:=
 XD (λz=>absurd z ADl) (λz=>absurd z ADl) (λz=>absurd z ADl) (λ_=>rfl) hm y Y2 ha q v ADl ADl he u Z
noncomputable def isTup:PV->Option Bool
 |.tup _=>some true
 |_=>none
def QX(f:EF):EF:=λρ=>match f ρ with|some r=>(isTup r.any).map λb=>.cl (.bl b)|none=>none
theorem oO:DX X (.builtin "isinstance") (λxs H Q=>∃x p k,xs=[x,.ty "tuple"]/\Rep X.K H p x/\isTup p=some k/\Q (.bl k) H):=by
 rintro AB s σ H xs us Q I r ⟨x,p,k,v,hp,y,q⟩;subst v;obtain⟨u,Z,rfl,Y,O⟩:=vals2 r;obtain rfl:Z=Value.type "tuple":=O;unfold isTup at y;split at y
 .cases y;obtain⟨a,vs,rfl,P,_⟩:=hp;cases (show u=Value.ref a from Y);obtain⟨its,_,⟨o,D,F,_⟩,_⟩:=I.tuple P;exact W.kia_one W.kitx_tuple I.Bc ⟨o,D,F⟩ (show W.kitOne X.K (.type "tuple") (.type "tuple")=some true from rfl) (λz=>nomatch z) λtk=>⟨.bl true,H,I.tok _,rfl,q⟩
 .contradiction
set_option tactic.hygienic true
theorem zv{p p2:Pos}(hm:X.mg "isinstance" = none)(Z:X.mg "tuple" = none)(ha:PX X a fa)(Y:Gl X "isinstance")(O:Gl X "tuple") (he:starEach [a,.Name "tuple" p2] X.env=(false,eval a X.env)::starEach [.Name "tuple" p2] X.env) (P:starEach [.Name "tuple" p2] X.env=(false,eval (.Name "tuple" p2) X.env)::starEach [] X.env) (D:(backTo pos<|starEach [.Name "tuple" p2] X.env).any (·.1)=false) : PX X (.Call (.Name "isinstance" p) [a,.Name "tuple" p2] [] pos)<|QX fa:=by
 refine PE.imp (R0 oO Y hm Y1 (K7 ha (K7 (i6 (v:=.ty "tuple") O Z oD rfl ADl ADl) Ou P) he) ADl ADl he D) ?_;rintro σ H Q ⟨G,ρ,r,R,e,q⟩;unfold QX at e;split at e
 .rename_i y F;cases u:isTup y.any with
  |none=>rw[u]at e;contradiction
  |some k=>
   rw[u]at e;cases e;refine⟨G,ρ,y,R,F,λv G' H' s rv=>?_⟩;exact⟨v,y.any,k,rfl,rv.any s.sub,u,q _ G' H' s<|by rfl⟩
 .contradiction
end
def jS(c:Int->Int->Int->Int->Bool)(K:W.Frag):R2:=λx y H Q=>∃p q u v a b,x=.ref a/\y=.ref b/\BS K H a [.int p,.int q]/\BS K H b [.int u,.int v]/\Q (.bl<|c p q u v) H
noncomputable def Fi(p q u v:Int):Bool:=decide (p<u\/(p=u/\q<v))
noncomputable def HU(c:Int->Int->Int->Int->Bool):RV->RV->Option RV
 |.cl (.tup [.int p,.int q]),.cl (.tup [.int u,.int v])=>some<|.cl<|.bl<|c p q u v
 |_,_=>none
section
variable{X:Cx}
theorem Rx{p q:Int}{us:List Value}(h:An [.int p,.int q] us):∃t t',us=[.int p t,.int q t']:=by
 cases h with
 |cons a h=>cases h with
  |cons b h=>cases h;obtain⟨t,rfl⟩:=a;obtain⟨t',rfl⟩:=b;exact⟨t,t',rfl⟩
theorem xk(B:X.A.units+1<cLine):BZ X (compareOp .Lt)<|jS Fi X.K:=by rintro AB s σ H x y v u Q I G S ⟨p,q,u',v',a,b,T,C,ha,hb,k⟩;subst T;subst C;cases (show v=Value.ref a from G);cases (show u=Value.ref b from S);obtain⟨i1,E,⟨⟨c1,d1,t1,s1⟩,Z,Y,n1,O⟩,_⟩:=I.tuple ha;obtain⟨i2,U,⟨⟨c2,d2,t2,s2⟩,P,D,n2,R⟩,_⟩:=I.tuple hb;obtain⟨_,_,rfl⟩:=Rx E;obtain⟨_,_,rfl⟩:=Rx U;simp only at Y O D R;subst Y O D R;exact richCompare_meets_room (op:=.Lt) ⟨_,Z,rfl⟩ ⟨_,P,rfl⟩ F.slot_tuple_lt F.entry_tuple_lt (F.args_tuple_lt_2 _ _) (TL.k7 _ _ _ _ _ _ _ _ _ _ _ _ _ _ _ _) ⟨Z,P,show Value.bool _≠Value.notImplemented/\_ from⟨(λx=>nomatch x),⟨.bl _,H,I,rfl,k⟩⟩⟩<|gO B
theorem W5{K:W.Frag}{G:Hp}{p q:Int}{v:V}(h:Rep K G (.tup [.int p,.int q]) v):∃a,v=.ref a/\BS K G a [.int p,.int q]:=by obtain⟨a,vs,rfl,y,rl⟩:=h;refine⟨a,rfl,?_⟩;have:=L7 (ns:=[p,q]) rfl rl;rw[this]at y;exact y
set_option tactic.hygienic true
theorem xX{K:W.Frag}{c:Int->Int->Int->Int->Bool}:DY K (HU c)<|jS c K:=by
 intro x y z H0 G H vx vy Q sub sh e Z Y q;unfold HU at e;split at e
 .rename_i p O u v;cases e;obtain⟨a,rfl,ha⟩:=W5<|Z.any sub;obtain⟨b,rfl,hb⟩:=W5<|Y.any sub;exact⟨p,O,u,v,a,b,rfl,rfl,ha,hb,q _ G H (Al.refl sub)<|by rfl⟩
 .contradiction
theorem o4(y:X.A.units+1<cLine):Cn X .Lt<|HU Fi:=⟨_,xk y,xX⟩
end
section
variable{X:Cx}{Ae AU:Hp}{c:Expr}{body:List Stmt}{t:BF}{g:SF}{pos:Pos}
end
end L2.PL
set_option maxRecDepth 100000
namespace C7
open PySem PySem.W PyProof.Rows
noncomputable def run(lt:Nat->Nat->Bool){α:Type}:KasT α->α
 |.ret a=>a
 |.ask i j k=>run lt<|k<|lt i j
def Ok(lt:Nat->Nat->Bool)(n:Nat){α:Type}(P:α->Prop):KasT α->Prop
 |.ret a=>P a
 |.ask i j k=>i<n/\j<n/\Ok lt n P (k<|lt i j)
section
variable{lt:Nat->Nat->Bool}{n:Nat}
theorem Ok.bind{α β:Type}{P:α->Prop}{R:β->Prop}{f:α->KasT β}(y:∀a,P a->Ok lt n R (f a)):∀t:KasT α,Ok lt n P t->Ok lt n R (t.bind f)
 |.ret a,h=>y a h
 |.ask i j k,h=>⟨h.1,h.2.1,Ok.bind y (k<|lt i j) h.2.2⟩
theorem Ok.run{α:Type}{P:α->Prop}:∀t:KasT α,Ok lt n P t->P (C7.run lt t)
 |.ret _,h=>h
 |.ask i j k,h=>Ok.run (k<|lt i j) h.2.2
theorem Ok.mono{α:Type}{P R:α->Prop}(f:∀a,P a->R a):∀t:KasT α,Ok lt n P t->Ok lt n R t
 |.ret _,h=>f _ h
 |.ask i j k,h=>⟨h.1,h.2.1,Ok.mono f (k<|lt i j) h.2.2⟩
theorem Ok.wp{α:Type}{P:α->Prop}{y:Nat->Nat->(Bool->Shared->Prop)->Shared->Prop}{Q:α->Shared->Prop}{s:Shared}(hc:∀i j C,i<n->j<n->C (lt i j) s->y i j C s):∀t:KasT α,Ok lt n P t->Q (C7.run lt t) s->t.kasWp y Q s
 |.ret _,_,q=>q
 |.ask i j k,h,q=>hc i j _ h.1 h.2.1<|Ok.wp hc (k<|lt i j) h.2.2 q
noncomputable abbrev BX(p:Array Nat)(i:Nat):Nat:=p.getD i 0
def Pm(n:Nat)(p:Array Nat):Prop:=p.Perm (List.range n).toArray
theorem Yn{p q:Array Nat}{i j:Nat}(h:p[i]? = q[j]?):BX p i=BX q j:=by unfold BX;rw[AHb,AHb,h]
theorem Pm.size{p:Array Nat}(h:Pm n p):p.size=n:=by rw[Array.Perm.size_eq h];simp
theorem Pm.bd{p:Array Nat}(h:Pm n p){i:Nat}(hi:i<n):BX p i<n:=by
 have hs:=h.size;have:BX p i=p[i]:=by simp[BX,Array.getD,hs,hi]
 rw[this];have m:p[i]∈p.toList:=ADk
 exact AD2.mp<|(AFJ.mp h).mem_iff.mp m
theorem Pm.ne{p:Array Nat}(h:Pm n p){i j:Nat}(hi:i<n)(y:j<n)(e:i≠j):BX p i≠BX p j:=by
 have hs:=h.size;have nd:=(AFJ.mp h).nodup_iff.mpr AHq;have a:BX p i=p.toList[i]'(by simpa[hs]using hi):=by simp[BX,Array.getD,hs,hi]
 have b:BX p j=p.toList[j]'(by simpa[hs]using y):=by simp[BX,Array.getD,hs,y]
 simp only[a,b];exact λk=>e<|(AHL nd).mp k
theorem Pm.rev{p:Array Nat}(h:Pm n p)(i j:Nat):Pm n<|kas_rev p i j:=Array.Perm.trans (mirror_perm ..) h
def Up(lt:Nat->Nat->Bool)(p:Array Nat)(k:Nat):Prop:=∀i j,i<j->j<k->lt (BX p i) (BX p j)=true
def Dn(lt:Nat->Nat->Bool)(p:Array Nat)(k:Nat):Prop:=∀i j,i<j->j<k->lt (BX p j) (BX p i)=true
structure T5(lt:Nat->Nat->Bool)(n:Nat):Prop where
 tr:∀i j k,lt i j=true->lt j k=true->lt i k=true
 to:∀i j,i<n->j<n->i≠j->lt i j=false->lt j i=true
variable(T:T5 lt n)
include T
theorem T5.at{p:Array Nat}(hp:Pm n p){i j:Nat}(hi:i<n)(y:j<n)(e:i≠j)(h:lt (BX p i) (BX p j)=false):lt (BX p j) (BX p i)=true:=T.to _ _ (hp.bd hi) (hp.bd y) (hp.ne hi y e) h
theorem Up.step{p:Array Nat}{k:Nat}(h:Up lt p k)(y:lt (BX p<|k-1) (BX p k)=true):Up lt p<|k+1:=λi j q hj=>by
 by_cases c:j<k
 .exact h i j q c
 .have e:j=k:=J
  subst e;by_cases d:i=j-1
  .rw[d];exact y
  .exact T.tr _ _ _ (h i (j-1) J J) y
theorem Dn.step{p:Array Nat}{k:Nat}(h:Dn lt p k)(y:lt (BX p k) (BX p<|k-1)=true):Dn lt p<|k+1:=λi j q hj=>by
 by_cases c:j<k
 .exact h i j q c
 .have e:j=k:=J
  subst e;by_cases d:i=j-1
  .rw[d];exact y
  .exact T.tr _ _ _ y<|h i (j-1) J J
theorem Wt{p:Array Nat}(hp:Pm n p):∀f k,0<k->k+f<=n->Up lt p k->Ok lt n (λm=>k<=m/\m<=k+f/\Up lt p m/\(m<k+f->lt (BX p m) (BX p<|m-1)=true)) (kas_asc p f k)
 |0,k,_,_,h=>⟨ADt _,ADt _,h,λc=>absurd c (AF7 _)⟩
 |f+1,k,h0,hk,h=>by
  refine⟨hp.bd J,hp.bd J,?_⟩;cases c:lt (p.getD k 0)<|p.getD (k-1) 0
  .refine Ok.mono ((by rintro m ⟨a,b,u,d⟩;exact⟨MJ a,gR b,u,λe=>d J⟩)) _<|Wt hp f (k+1) gM J<|h.step T<|T.at hp J J J c
  .exact⟨ADt _,J,h,λ_=>c⟩
theorem iU{p:Array Nat}(hp:Pm n p):∀f k,0<k->k+f<=n->Dn lt p k->Ok lt n (λr=>r.1=p/\r.2.2=0/\k<=r.2.1/\r.2.1<=k+f/\Dn lt p r.2.1) (kas_desc f p k 0)
 |0,k,_,_,h=>⟨rfl,rfl,ADt _,ADt _,h⟩
 |f+1,k,h0,hk,h=>by
  refine⟨hp.bd J,hp.bd J,?_⟩;cases c:lt (p.getD k 0)<|p.getD (k-1) 0
  .refine⟨hp.bd J,hp.bd J,?_⟩;rw[show lt (p.getD (k-1) 0) (p.getD k 0)=true from T.at hp J J J c];exact⟨rfl,rfl,ADt _,AGo _ _,h⟩
  .exact Ok.mono ((by rintro m ⟨a,b,u,d,e⟩;exact⟨a,b,MJ u,gR d,e⟩)) _<|iU hp f (k+1) gM J<|h.step T c
theorem xP{p:Array Nat}(hp:Pm n p){k:Nat}(Z:0<k)(Y:k<=n)(h:Dn lt p k):Ok lt n (λr=>Pm n r.2/\1<=r.1/\r.1<=n/\Up lt r.2 r.1)<|kas_tail3 k n p:=by
 have q:=hp.rev 0 k;refine Ok.bind (λm (⟨a,b,u,_⟩)=>⟨q,ADj,ADj,u⟩) _<|Wt T q (n-k) k Z J λi j v y=>?_;have e:∀i,i<k->BX (kas_rev p 0 k) i=BX p (k-1-i):=λi hi=>Yn (by unfold kas_rev;rw[getElem?_mirror_all (by rw[hp.size];exact Y),ADr ⟨AEu _,hi⟩,AFD])
 simp only[e i<|RL v y,e j y];exact h _ _ ADj (by clear v y;omega)
theorem xO(y:2<=n){p:Array Nat}(hp:Pm n p):Ok lt n (λr=>Pm n r.2/\1<=r.1/\r.1<=n/\Up lt r.2 r.1)<|kas_count n p:=by
 refine Ok.bind (λk (⟨a,b,u,d⟩)=>?_) _<|Wt T hp (n-1) 1 AG0 J λi j _ _=>ADj;split
 .exact⟨hp,a,J,u⟩
 .split
  .refine⟨hp.bd J,hp.bd (by clear y d;omega),?_⟩;rw[show lt (p.getD 0 0) (p.getD (k-1) 0)=true from u 0 (k-1) ADj ADj];exact⟨hp,a,by clear d;omega,u⟩
  .have e:k=1:=ADj
   subst e;refine Ok.bind (λr v=>?_) _<|iU T hp (n-2) 2 J ADj λi j BM hj=>?_
   .obtain⟨p',m,q⟩:=r;obtain⟨rfl,rfl,a,b,c⟩:=v;dsimp only at a b c ⊢;exact xP T hp J ADj c
   .have:=d J;simp only[show i=0 by lia,show j=1 by lia];exact this
theorem Wu{p:Array Nat}(hp:Pm n p){k:Nat}(y:k<n):∀f l r,l<=r->r<=k->r-l<=f->(∀i,i<l->lt (BX p i) (BX p k)=true)->(∀i,r<=i->i<k->lt (BX p k) (BX p i)=true)->Up lt p k->Ok lt n (λl=>l<=k/\(∀i,i<l->lt (BX p i) (BX p k)=true)/\∀i,l<=i->i<k->lt (BX p k) (BX p i)=true) (kas_place p k f l r)
 |0,l,r,h1,h2,h3,a,b,_=>⟨J,a,λi hi=>b i J⟩
 |f+1,l,r,h1,h2,h3,a,b,u=>by
  unfold kas_place;split
  .exact⟨ADi,a,λi hi=>b i J⟩
  .refine⟨hp.bd y,hp.bd J,?_⟩;cases c:lt (p.getD k 0) (p.getD ((l+r) / 2) 0)
   .refine Wu hp y f _ r J h2 ADj (λi hi=>?_) b u;have m:=T.at hp y J J c;by_cases e:i=(l+r) / 2
    .rw[e];exact m
    .exact T.tr _ _ _ (u i _ J J) m
   .refine Wu hp y f l _ J J (by clear y h2;omega) a (λi hi q=>?_) u;by_cases e:i=(l+r) / 2
    .rw[e];exact c
    .exact T.tr _ _ _ c<|u _ i J q
theorem iT:∀f (p:Array Nat) k,Pm n p->k+f=n->Up lt p k->Ok lt n (λp=>Pm n p/\Up lt p n) (kas_bin f p k)
 |0,_,_,h,e,u=>⟨h,by rw[<-e];exact u⟩
 |f+1,p,k,h,e,u=>by
  refine Ok.bind (λl (⟨hl,a,b⟩)=>iT f _ _ (Array.Perm.trans (bubble_perm ..) h) (by subst e;lia) λi j v hj=>?_) _ (Wu T h (by subst e;lia) k 0 k gN J J (λi hi=>J) (λi _ _=>ADi) u);have g:∀i,BX (bubble p k<|k-l) i=BX p (if i=l then k else if l<i/\i<=k then i-1 else i):=λi=>Yn (by
   rw[getElem?_bubble (by rw[h.size];lia) _ (by clear v;lia),show k-(k-l)=l by clear e;omega];split
   .rfl
   .split<;>rfl)
  simp only[g,g];by_cases y:i=l
  .rw[ADr y,ADs J];exact b _ (by split<;>lia) J
  .rw[ADs y];by_cases q:j=l
   .rw[ADr q,ADs J];exact a _ J
   .rw[ADs q];refine u _ _ ?_ ?_<;>(repeat' split)<;>lia
theorem Wv(y:2<=n):Ok lt n (λp=>Pm n p/\Up lt p n)<|kas_sort n:=
 Ok.bind (λr (⟨hp,a,b,u⟩)=>by
  split
  .rw[show max r.1 1=r.1 by lia];exact iT T _ _ _ hp J u
  .exact⟨hp,by exact(J:r.1=n) ▸ u⟩) _ (xO T y<|Array.Perm.refl _)
end
open PySem PySem.W PyProof.Rows PySem.SeqAt
inductive PA(h:Heap):List Value->List (Int×Int)->Prop
 |nil:PA h [] []
 |cons {a:Addr} {o:Obj} {t t':Tok} {n:Nat} {p:Int×Int} {vs:List Value} {ps:List (Int×Int)} (ho:h.get? a=some o) (hc:o.cls=.type "tuple") (hd:o.data=.seq #[.int p.1 t,.int p.2 t'] n) (r:PA h vs ps):PA h (.ref a::vs) (p::ps)
theorem PA.len{h:Heap}:∀{vs:List Value}{ps:List (Int×Int)},PA h vs ps->vs.length=ps.length:=by
 intro vs ps h
 induction h with
 |nil=>rfl
 |cons _ _ _ r ih=>rw[AD5,AD5,ih]
theorem PA.at{h:Heap}:∀{vs:List Value}{ps:List (Int×Int)}{i:Nat},PA h vs ps->i<ps.length->∃a o t t' n,vs.getD i Value.none=.ref a/\h.get? a=some o/\o.data=.seq #[.int (ps.getD i (0,0)).1 t,.int (ps.getD i (0,0)).2 t'] n:=by
 intro vs ps i h
 induction h generalizing i with
 |nil=>intro hi;contradiction
 |cons ho hc hd r ih=>
  intro hi;cases i with
  |zero=>exact⟨_,_,_,_,_,rfl,ho,hd⟩
  |succ i=>exact ih<|Nat.lt_of_succ_lt_succ hi
theorem PA.kept{h h':Heap}{a:Addr}(k:∀b o,b≠a->h.get? b=some o->h'.get? b=some o):∀{vs:List Value}{ps:List (Int×Int)},(∀v∈vs,v≠.ref a)->PA h vs ps->PA h' vs ps:=by
 intro vs ps hn h
 induction h with
 |nil=>exact .nil
 |cons ho hc hd r ih=>exact .cons (k _ _ (λe=>hn _ (.head _)<|by rw[e]) ho) hc hd<|ih λv y=>hn v<|.tail _ y
theorem PA.F7{h:Heap}:∀{vs:List Value}{ps:List (Int×Int)},PA h vs ps->∃fs,KatTups h vs fs/\fs.length=ps.length/\∀v∈fs,∃i t,v=Value.int i t
 |_,_,.nil=>⟨[],.nil,rfl,λ_ h=>by cases h⟩
 |_,_,.cons (t:=t) (p:=p) ho hc hd r=>by
  obtain⟨fs,a,b,c⟩:=r.F7;refine⟨.int p.1 t::fs,.cons ho hc hd rfl a,by simp only[AD5,AD5,b],λv y=>?_⟩;rcases AEN.mp y with rfl|y
  .exact⟨_,_,rfl⟩
  .exact c v y
noncomputable def Gg(ps:List<|Int×Int)(i j:Nat):Bool:=decide ((ps.getD i (0,0)).1<(ps.getD j (0,0)).1\/((ps.getD i (0,0)).1=(ps.getD j (0,0)).1/\(ps.getD i (0,0)).2<(ps.getD j (0,0)).2))
section
variable{prog:Program}{w:World}{A:Around}{E:Value->Shared->Prop}{s:Shared}{vs:List Value}{ps:List (Int×Int)}
theorem nX(Z:PA s.heap vs ps){i j:Nat}(hi:i<ps.length)(Y:j<ps.length){C:Bool->Shared->Prop}(h:C (Gg ps i j) s):kas_ask prog w A (tuples' true) vs i j C s:=by
 obtain⟨a,o,t,t',n,Q,ho,hd⟩:=Z.at hi;obtain⟨b,o2,u,O,n2,P,D,q⟩:=Z.at Y;unfold kas_ask;rw[Q,P];unfold Gg at h;generalize ps.getD i (0,0)=x at h hd;generalize ps.getD j (0,0)=y at h q;refine kat_lt ho hd D q ?_;refine kat_cons<|EqAt.int_int x.1 t y.1 u prog w _ _ ?_;cases e:(x.1==y.1)with
 |false=>
  have v:=by simpa using e
  refine kat_no<|oneLt_int ?_;rw[show decide (x.1<y.1)=decide (x.1<y.1\/(x.1=y.1/\x.2<y.2))by simp[v]];exact h
 |true=>
  have v:x.1=y.1:=by simpa using e
  refine kat_yes<|kat_cons<|EqAt.int_int x.2 t' y.2 O prog w _ _ ?_;cases k:(x.2==y.2)with
  |false=>
   refine kat_no<|kat_one _ _<|lt_int ?_;rw[show decide (x.2<y.2)=decide (x.1<y.1\/(x.1=y.1/\x.2<y.2))by simp[v]];exact h
  |true=>
   have F:=by simpa using k
   show C false s;rw[show false=decide (x.1<y.1\/(x.1=y.1/\x.2<y.2))by simp[v,F]];exact h
def ord(ps:List<|Int×Int):List Nat:=if ps.length<2 then List.range ps.length else(run (Gg ps)<|kas_sort ps.length).toList
theorem Ml{ps:List (Int×Int)}(nd:ps.Nodup):T5 (Gg ps) ps.length:=by
 refine⟨λi j k=>?_,λi j hi y e=>?_⟩
 .unfold Gg;lia
 .unfold Gg;simp only[ADu,AF8];have ne:ps.getD i (0,0)≠ps.getD j (0,0):=by simp only[AEO,AEO,ADp hi,ADp y];exact λk=>e<|(AHL nd).mp k
  have:¬ ((ps.getD i (0,0)).1=(ps.getD j (0,0)).1/\(ps.getD i (0,0)).2=(ps.getD j (0,0)).2):=λk=>ne<|AEt k.1 k.2;lia
theorem W2{ps:List (Int×Int)}(nd:ps.Nodup):(ord ps).Perm<|List.range ps.length:=by
 unfold ord;split
 .exact AIB _
 .exact AFJ.mp (Ok.run _<|Wv (Ml nd) J).1
theorem W0{ps:List (Int×Int)}(nd:ps.Nodup):∀i∈ord ps,i<ps.length:=λi h=>AD2.mp<|(W2 nd).mem_iff.mp h
theorem yB{ps:List (Int×Int)}(nd:ps.Nodup):(ord ps).length=ps.length:=by rw[(W2 nd).length_eq,AF4]
theorem yC{ps:List (Int×Int)}(nd:ps.Nodup):(ord ps).Pairwise λi j=>Gg ps i j=true:=by
 unfold ord;split
 .rw[AER];intro i j hi y q;rw[AF4]at y;lia
 .rw[AER];intro i j hi y q;have h:=Ok.run _<|Wv (Ml nd) J;have hs:=h.1.size;simp only[AEo,hs]at y;have:=h.2 i j q y;simpa[BX,Array.getD,hs,y,show i<ps.length from RL q y]using this
theorem ABV{a:Addr}{n:Nat}{P:PySem.Fin->Shared->Prop}(ho:s.heap.get? a=some (seqObj "list" vs.toArray n))(D:PA s.heap vs ps)(nd:ps.Nodup)(B:∀v∈vs,v≠.ref a)(G:vs.length<64) (h:P (.done<|.ret .none) {s with heap:=sortedHeap s.heap a vs ((ord ps).map λi=>vs.getD i Value.none).toArray}) :
 wpAny (model prog w) A (Builtin.«list.sort» ⟨[.ref a],[]⟩) P E s:=by
 have u:=D.len;rw[list_sort_plain];have ha:=Heap.lt_size ho;refine wpAny_bind<|listItems_at ho rfl ?_;refine wpAny_bind (listUpdate_at ho rfl ?_ (by rw[AD3,sizeLine_eq];lia) (AEu _));obtain⟨Y,F⟩:∃Y,(s.heap.update a<|Obj.mapSeq λ_=>#[]).get? a=some (seqObj "list" #[] Y):=⟨_,get?_update_seq ho (λ_=>#[])⟩;refine wpAny_bind<|seqEpoch_at F rfl ?_;refine wpAny_bind (wpAny_newTuple ?_ (by show vs.length<=_;rw[sizeLine_eq];lia));refine wpAny_bind<|wpAny_newList ?_ (AEu _);refine wpAny_holding ?_;have Z:(((s.heap.update a<|Obj.mapSeq λ_=>#[]).push<|seqObj "tuple" vs.toArray 0).push<|seqObj "list" #[] 0).get? a=some (seqObj "list" #[] Y):=by rw[Heap.get?_push_ne _ _ _ (by rw[size_push',Heap.size_update];exact AEA<|AF5 ha),Heap.get?_push_ne _ _ _ (by rw[Heap.size_update];exact AEA ha)];exact F
 have kp:∀b o,b≠a->s.heap.get? b=some o->(((s.heap.update a<|Obj.mapSeq λ_=>#[]).push<|seqObj "tuple" vs.toArray 0).push<|seqObj "list" #[] 0).get? b=some o:=λb o hb q=>
  Heap.get?_push_of_some _ (Heap.get?_push_of_some _ (by rw[Heap.get?_update_ne _ _ _ _ hb];exact q))
 have R:=D.kept kp B;dsimp only;have hsz:vs.toArray.size=vs.length:=ADk
 by_cases y:vs.toArray.size<2
 .rw[ADr y,ADr y];refine wpAny_bind<|wpAny_pure ?_;refine wpAny_bind<|wpAny_pure ?_;dsimp only;refine wpAny_bind<|seqEpoch_at Z rfl ?_;refine wpAny_bind (listUpdate_at Z rfl ?_ (hsz2:=by rw[AIC];show(pairsOf vs).size<=_;rw[pairsOf_size,sizeLine_eq];clear hsz;lia));simp only[AGJ];have O:((ord ps).map λi=>vs.getD i Value.none).toArray=(vs.toArray.zip vs.toArray).map (·.2):=by
   unfold ord
   match vs,u,y with
   |[],u,_=>rw[<-u];simp
   |[v],u,_=>rw[<-u];simp[AFN]
   |_::_::_,_,y=>exact absurd y ADk
  rw[O]at h;exact wpAny_pure h
 .rw[ADs y,ADs y];obtain⟨fs,S,kl,T⟩:=R.F7;refine wpAny_bind (kat_kind S J (λv H=>by obtain⟨i,t,rfl⟩:=T v H;exact .now) ADl ?_);have I:(kas_sort vs.length).kasWp (kas_ask prog w A (tuples'<|Value.type "int" != Value.type "tuple") vs) (λp s'=>p=run (Gg ps) (kas_sort ps.length)/\s'={s with heap:=((s.heap.update a<|Obj.mapSeq λ_=>#[]).push<|seqObj "tuple" vs.toArray 0).push (seqObj "list" #[] 0)}) {s with heap:=((s.heap.update a<|Obj.mapSeq λ_=>#[]).push<|seqObj "tuple" vs.toArray 0).push (seqObj "list" #[] 0)}:=by rw[u];exact Ok.wp (λi j C hi U x=>nX R hi U x) _ (Wv (Ml nd) J) ⟨rfl,rfl⟩
  refine wpAny_bind<|wpAny_mono (kat_run (Q:=λAL s'=>∃p:Array Nat,p.size=vs.length/\arrOf AL=p.map (kas_item<|vs.toArray.zip vs.toArray)/\failedOf AL=none/\p=run (Gg ps) (kas_sort ps.length)/\s'={s with heap:=((s.heap.update a<|Obj.mapSeq λ_=>#[]).push<|seqObj "tuple" vs.toArray 0).push (seqObj "list" #[] 0)}) rfl J G (λp' AL s' a1 a2 a3 a4=>⟨p',a1,a2,a3,a4⟩) I) ?_ λ_ _ e=>e;rintro⟨⟨⟩,AL⟩ s' ⟨p,hp,sZ,hf,Vx,rfl⟩;have uO:=kat_snds rfl sZ;rw[uO];refine wpAny_bind<|seqEpoch_at Z rfl ?_;refine wpAny_bind (listUpdate_at Z rfl ?_ (hsz2:=by simp only[AD3,ADo,AEo,hp,sizeLine_eq];lia));rw[hf];simp only[AGJ];have O:ord ps=p.toList:=by unfold ord;rw[ADs J,Vx]
  rw[O]at h;exact wpAny_pure h
theorem ABZ{l:Addr}{Q:Value->Shared->Prop}(P:s.heap.IsList l vs.toArray)(Z:PA s.heap vs ps)(nd:ps.Nodup)(D:vs.length<64) (h:Q (.ref<|s.heap.objs.size+1) {s with heap:=sortedAll s.heap vs ((ord ps).map λi=>vs.getD i Value.none).toArray}) :
 wpAny (model prog w) A (call (.builtin "sorted") [.ref l]) Q E s:=by
 refine Calls.call_function_entry kind_sorted plain_sorted entry_sorted (args_sorted1 _) ?_;refine wpAny_bind <|wpAny_pure ?_;refine wpAny_bind (collect_list P ?_ (by rw[sizeLine_eq];lia));refine wpAny_bind (wpAny_newList ?_ (by rw[sizeLine_eq];lia));have hsz:((s.heap.push<|seqObj "list" #[] 0).update s.heap.objs.size (Obj.mapSeq (· ++ vs.toArray))).objs.size=s.heap.objs.size+1:=by rw[Heap.size_update,size_push']
 have Y:(((s.heap.push<|seqObj "list" #[] 0).update s.heap.objs.size (Obj.mapSeq (· ++ vs.toArray))).push<|seqObj "list" vs.toArray 0).get? (s.heap.objs.size+1)=some (seqObj "list" vs.toArray 0):=by rw[<-hsz];exact Heap.get?_push_size _ rfl
 have keep:∀b o,s.heap.get? b=some o->(((s.heap.push<|seqObj "list" #[] 0).update s.heap.objs.size (Obj.mapSeq (· ++ vs.toArray))).push<|seqObj "list" vs.toArray 0).get? b=some o:=λb o q=>by have u:=Heap.lt_size q;rw[Heap.get?_push_ne _ _ _ (by rw[hsz];exact AEA<|AF5 u),Heap.get?_update_ne _ _ _ _ (AEA u),Heap.get?_push_ne _ _ _ (AEA u)];exact q
 rw[hsz];have O:∀v∈vs,v≠Value.ref (s.heap.objs.size+1):=λv y e=>by
  have:∀{vs:List Value}{ps:List (Int×Int)},PA s.heap vs ps->∀v∈vs,∃b,v=.ref b/\b<s.heap.objs.size:=λ{vs ps} h=>by
   induction h with
   |nil=>intro v y;contradiction
   |cons ho hc hd r ih=>
    intro v y;rcases AEN.mp y with rfl|y
    .exact⟨_,rfl,Heap.lt_size ho⟩
    .exact ih v y
  obtain⟨b,F,hb⟩:=this Z v y;rw[F]at e;cases e;exact absurd hb (Nat.not_lt.mpr<|AHH _)
 refine wpAny_bind<|wpAny_holding<|wpAny_call_entry slot_list_sort ⟨_,Y,rfl⟩ entry_list_sort (ABV Y (Z.kept (λb o _ q=>keep b o q) O) nd O D ⟨_,rfl,?_⟩)<|args_list_sort _;exact wpAny_pure ⟨_,rfl,h⟩
end
end C7
set_option tactic.hygienic true
namespace L2.PL
open PySem PySem.Spec PyProof.Rows
noncomputable def F5:List PV->Option (List<|Int×Int)
 |[]=>some []
 |.tup [.int p,.int q]::r=>(F5 r).map ((p,q) :: ·)
 |_=>none
def Kt:List RV->Option RV
 |[r]=>match r.list with
  |some ps=>(match F5 ps with
   |some zs=>if ps.length<64/\zs.Nodup then some (.fr<|(C7.ord zs).map λi=>ps.getD i .Aw)else none
   |none=>none)
  |none=>none
 |_=>none
def GD(K:W.Frag)(H:Hp)(z:Int×Int)(v:V):Prop:=∃a,v=.ref a/\BS K H a [.int z.1,.int z.2]
theorem W6{K:W.Frag}{G:Hp}:∀{ps:List PV}{zs:List (Int×Int)}{vs:List V},F5 ps=some zs->AQ K G ps vs->Paired (GD K G) zs vs
 |[],_,_,e,h=>by cases e;subst h;exact .nil
 |p::r,zs,vs,e,h=>by
  unfold F5 at e;split at e
  .rename_i e0;contradiction
  .rename_i p' q' r' e0;cases e0;obtain⟨zs',y,rfl⟩:=AFO.mp e;obtain⟨v,us,rfl,q,t⟩:=h;obtain⟨a,rfl,ha⟩:=W5 q;exact .cons ⟨a,rfl,ha⟩<|W6 y t
  .contradiction
set_option tactic.hygienic false
theorem X7{ys:List V}{its:List Value}(h:An ys its):∀l:List Nat,(∀i∈l,i<ys.length)->An (l.map λi=>ys.getD i .Aw) (l.map λi=>its.getD i Value.none)
 |[],_=>.nil
 |i::l,hl=>by have hi:=hl i<|.head _;obtain⟨u,y,q⟩:=h.get<|ADp hi;refine .cons ?_ (X7 h l λj v=>hl j<|.tail _ v);show RelV (ys.getD i .Aw) (its.getD i Value.none);simp only[AEO,AEO,ADp hi,y];exact q
theorem XN{K:W.Frag}{G:Hp}{ps:List PV}{ys:List V}(h:Paired (Rep K G) ps ys):∀l:List Nat,(∀i∈l,i<ps.length)->Paired (Rep K G) (l.map λi=>ps.getD i .Aw) (l.map λi=>ys.getD i .Aw)
 |[],_=>.nil
 |i::l,hl=>by have hi:=hl i<|.head _;obtain⟨u,y,q⟩:=K6 h<|ADp hi;refine .cons ?_ (XN h l λj v=>hl j<|.tail _ v);show Rep K G (ps.getD i .Aw) (ys.getD i .Aw);simp only[AEO,AEO,ADp hi,y];exact q
section
variable{X:Cx}
theorem yK{AB:List (Addr×Obj)}{σ:St}{H:Hp}{s:Shared}(I:Inv X AB σ H s):∀{zs:List (Int×Int)}{ys:List V}{its:List Value},Paired (GD X.K H) zs ys->An ys its->C7.PA s.heap its zs:=by
 intro zs ys its g h
 induction g generalizing its with
 |nil=>cases h;exact .nil
 |cons q r ih=>
  obtain⟨a,e,ha⟩:=q;cases h with
  |cons ru t=>
   subst e;cases ru;obtain⟨i1,y,⟨o,v,u,n1,Z⟩,_⟩:=I.tuple ha;obtain⟨t1,t2,rfl⟩:=Rx y;exact .cons v u Z<|ih t
theorem oY:DX X (.builtin "sorted") (λxs H Q=>∃(p:Addr)(ys:List V)(zs:List<|Int×Int),xs=[.ref p]/\B6 X.K H p ys/\Paired (GD X.K H) zs ys/\ys.length<64/\zs.Nodup/\∀l,H l=none->Q (.ref l) (upd H l<|.lst<|(C7.ord zs).map λi=>ys.getD i .Aw)):=by
 intro AB s σ H xs us Q I r h;obtain⟨p,ys,zs,rfl,v,hp,IQ,nd,q⟩:=h;obtain⟨u,rfl,Z⟩:=vals1 r;cases Z;obtain⟨its,y,pl,hz⟩:=I.list v;have BO:=y.length;have HM:=Paired.length hp;have Y:=C7.W0 nd;refine C7.ABZ pl.isList (yK I hp y) nd J ?_;obtain⟨e,he⟩:=sortedAll_at s.heap its ((C7.ord zs).map λi=>its.getD i Value.none).toArray;have O:(C7.ord zs).length<=sizeLine:=by rw[C7.yB nd];lia
 exact⟨.ref<|s.heap.objs.size+1,_,I.laid (λb o k=>sortedAll_old k) (AHH _) (show Bw X.prog X.w _ _ _ (.lst _)from⟨by rw[ADo];exact O,_,e,X7 y _ (λi hi=>by have:=Y i hi;lia),he⟩),rfl,q _<|I.AX.fresh<|AHH _⟩
set_option tactic.hygienic true
theorem x9:FD X.K Kt (λxs H Q=>∃(p:Addr)(ys:List V)(zs:List<|Int×Int),xs=[.ref p]/\B6 X.K H p ys/\Paired (GD X.K H) zs ys/\ys.length<64/\zs.Nodup/\∀l,H l=none->Q (.ref l) (upd H l<|.lst<|(C7.ord zs).map λi=>ys.getD i .Aw)):=by
 intro rs z H0 G H vs Q sub Z e rv q;unfold Kt at e;split at e
 .split at e
  .rename_i ps es;split at e
   .rename_i zs Y;split at e
    .rename_i u;cases e;obtain⟨v,rfl,O⟩:=rv.one;obtain⟨a,us,rfl,P,rl⟩:=O.list sub es;have hp:=W6 Y rl;have y:=rl.paired.length;have hz:=Paired.length hp;refine⟨a,us,zs,rfl,.inl P,Paired.Og hp (by rintro _ _ ⟨b,e,h⟩;exact⟨b,e,BS.same sub h⟩),J,u.2,λl y=>q _ _ _ (Al.Gi sub _ y) ⟨l,_,rfl,Z.free y,sub.free y,Bu,AQ.of<|XN rl.paired _ λi hi=>?_⟩⟩;have:=C7.W0 u.2 i hi;lia
    .contradiction
   .contradiction
  .contradiction
 .contradiction
end
section
variable{X:Cx}{Ae AU:Hp}{e:Expr}{f:EF}{pos:Pos}
end
end L2.PL
namespace L2
open PySem PySem.Spec PyProof.Rows
section
variable{X:Cx}{k j i:Nat}{f Wc:Addr}{fd:FuncData}{ps:List Str}{sp:Sp}{E:XK}{x y n fx:Str}{p yp fp np uS CA apos pos:Pos}{e:Expr}{es:List Expr}{t:TA}{ABe:List Stmt}{oH:Stmt}{ts:TS}
end
end L2
namespace L2.PL
open PySem PySem.Spec PyProof.Rows
section
variable{X:Cx}{E:XK}{Ae AU:Hp}{e:Expr}{es:List Expr}{ga:AF}{pos:Pos}
end
section
variable{X:Cx}
end
section
variable{X:Cx}
end
section
variable{X:Cx}{a b c e tg iter:Expr}{es:List Expr}{fa fb fc f:EF}{g ga:AF}{pos:Pos}{Ae AU:Hp}
theorem O2{K:W.Frag}{G:Hp}:∀ns:List Int,AQ K G (ns.map PV.int) (ns.map V.int)
 |[]=>by show AQ _ _ [] _;delta AQ;rfl
 |n::ns=>by rw[AD0,AD0];unfold AQ;exact⟨_,_,rfl,by delta Rep;rfl,O2 ns⟩
end
end L2.PL
namespace L2
open PySem PySem.Spec PyProof.Rows
section
variable{prog:Program}{w:World}{A:Around}{E:Value->Shared->Prop}{s:Shared}
end
section
variable{X:Cx}{pos:Pos}
end
end L2
namespace L2.PL
open PySem PySem.Spec PyProof.Rows
section
variable{X:Cx}{es:List Expr}{gs:Hs}{pos:Pos}
end
section
variable{X:Cx}{a b:Expr}{fa fb:EF}{pos:Pos}
end
section
variable{X:Cx}{pos:Pos}{Ae AU:Hp}
end
def KU(F:List PV->Option RV):List PV->Option RV:=λps=>match F ps with|some r=>if r.flat=true then some r else none|none=>none
def Hi(f:EF):BF:=λρ=>match f ρ with|some r=>r.list.map λps=>!ps.isEmpty|none=>none
theorem AAt{X:Cx}{a:Expr}{fa:EF}(ha:PX X a fa)(he:∀y,isTrue a X.env y=(do let v<-y;standAt a.pos;holding [v] (truthy v))):C6 X a<|Hi fa:=
 PT.imp (zM ha he) (by
  rintro σ H Q ⟨G,ρ,b,R,e,q⟩;unfold Hi at e;split at e
  .rename_i r Z;refine⟨G,ρ,r,R,Z,λv G' H' s rv=>?_⟩;obtain⟨ps,hp,rfl⟩:=AFO.mp e;obtain⟨a,vs,rfl,Y,u⟩:=rv.list s.sub hp;refine⟨_,.inl ⟨vs,.inl Y,?_⟩,q G' H' s⟩;cases ps<;>cases vs<;>first|rfl|(obtain⟨_,_,h,_⟩:=u;cases h)|cases u
  .contradiction)
end L2.PL
namespace Bh
open PySem PyProof.Rows
abbrev SM:=StateT SortSt Sem
noncomputable def VO:Bool->Keyed->Array Keyed->Nat->Nat->Nat->SM (Option Nat):=sortPriv% PySem.Builtin.gallop
noncomputable def g8:Array Keyed->Array Keyed->SM (Array Keyed):=sortPriv% PySem.Builtin.mergeLo
noncomputable def gw:Array Keyed->Array Keyed->SM (Array Keyed):=sortPriv% PySem.Builtin.mergeHi
section
variable{prog:Program}{w:World}{A:Around}{E:Value->Shared->Prop}{s:Shared}{κ:SortKind}{El:Keyed->Prop}{rk:Keyed->Nat}
def Fe(prog:Program)(w:World)(A:Around)(E:Value->Shared->Prop)(s:Shared)(κ:SortKind)(El:Keyed->Prop)(rk:Keyed->Nat):Prop:=∀(x y:Keyed)(st:SortSt)(Q:Option Bool->SortSt->Prop),El x->El y->kindOf st=κ->Q (some<|decide (rk x<rk y)) st->wpS (model prog w) A E s (lt' x y) Q st
theorem Cz{y:Array Keyed}{i:Nat}{x:Keyed}{Q:Keyed->SortSt->Prop}{st:SortSt}(e:y[i]? = some x)(h:Q x st):wpS (model prog w) A E s (elem' y i) Q st:=by rw[elem'_eq,e];exact wpS_pure h
theorem gx{l m r k x:Nat}(b:m<r)(h:r+x<=k+l):m+(x+1)<=k+l:=J
theorem gz{l m r k x:Nat}(a:l<=m)(h:r+x<=k+l):r+(x+1)<=k+(m+1):=J
theorem g5{l r:Nat}:l<=l+(r-l) / 2:=AGo _ _
theorem wc{l r:Nat}(h:¬ l>=r):l+(r-l) / 2<r:=J
theorem rL{l r h n:Nat}(a:l<r)(b:h+l<n):h+l+1<=h+min r (n-h):=J
theorem rM{r h n:Nat}(a:h<n):h+min r (n-h)<=n:=J
theorem rN{r h n i:Nat}(a:h+min r (n-h)<=i)(b:i<n):h+r<n/\h+r<=i:=⟨J,J⟩
theorem rO{l r h:Nat}(a:l<r)(b:l<=h):h+1-min r (h+1)<=h-l:=J
theorem rP{r h i:Nat}(a:i<h+1-min r (h+1)):r<=h/\i<h-r+1:=⟨J,J⟩
theorem dA{r:Nat}:r<2*r+1:=J
theorem dB{x r:Nat}(h:x<r):x+1<2*r+1:=J
def Sp(y:Nat->Nat)(K n l r:Nat):Prop:=r<=n/\(∀i,i<l->y i<K)/\∀i,r<=i->i<n->K<y i
theorem YE(L:Fe prog w A E s κ El rk){left:Bool}{u:Keyed}{D:Array Keyed}{base n v:Nat}{Q:Option Nat->SortSt->Prop}{st:SortSt}(Z:Nat->Nat)(mono:∀i j,i<=j->j<n->Z i<=Z j) (hb:∀i,i<n->∃x,D[base+i]? = some x/\El x/\rk x=Z i/\Z i≠rk u) (S:El u) (hh:v<n) (hs:kindOf st=κ) (h:∀k,Sp Z (rk u) n k k->Q (some k) st):wpS (model prog w) A E s (VO left u D base n v) Q st:=by
 have R:∀(i:Nat)(B:Option Bool->SortSt->Prop),i<n->B (some<|decide (Z i<rk u)) st->wpS (model prog w) A E s (do let x<-elem' D<|base+i;if left=true then lt' x u else do let y<-lt' u x;pure (y.map (!·))) B st:=λi B hi q=>by
  obtain⟨x,e,ex,C,H⟩:=hb i hi;rw[<-C]at q H;refine wpS_bind<|Cz e ?_;cases left
  .rw[show decide (rk x<rk u) = !decide (rk u<rk x)by rw[<-decide_not];exact AFQ.mpr J]at q;exact wpS_bind<|L _ _ _ _ S ex hs<|wpS_pure q
  .exact L _ _ _ _ ex S hs q
 have lo:∀{j},j<n->Z j<rk u->∀i,i<j+1->Z i<rk u:=λa c i b=>AEz (mono i _ (AGh b) a) c;have hi:∀{j},j<n->¬ Z j<rk u->∀i,j<=i->i<n->rk u<Z i:=λ{j} a c i b d=>by obtain⟨_,_,_,_,ne⟩:=hb j a;exact AEB J<|mono j i b d
 unfold VO;refine wpS_bind<|R v _ hh ?_;dsimp -zeta only
 extract_lets -underBinder jp
 have ADh:∀x y lo hi,lo<=hi->Sp Z (rk u) n lo hi->wpS (model prog w) A E s (jp ⟨⟩ x y lo hi) Q st:=λx y l r U T=>by
  refine wpS_bind<|wpS_mono (wpS_forRange (I:=λx c AL=>AL=st/\∃l r,c=(none,l,r)/\l<=r/\r+x<=n+l/\Sp Z (rk u) n l r) (Q:=λc AL=>AL=st/\∃r,c=(none,r,r)/\Sp Z (rk u) n r r) ?_ ?_ ⟨rfl,l,r,rfl,U,AEF T.1<|AGo _ _,T⟩) ?_
  .rintro x c AL _ _ ⟨rfl,l,r,rfl,O,P,h3,Y,F⟩;dsimp only;by_cases d:l>=r
   .rw[ADr d];have:l=r:=J
    subst this;exact wpS_pure ⟨rfl,l,rfl,h3,Y,F⟩
   .rw[ADs d];have G:=wc d;have b:=AEB G h3;refine wpS_bind<|R _ _ b ?_;dsimp only;by_cases e:Z (l+(r-l) / 2)<rk u
    .rw[ADr<|AEs e];exact wpS_pure ⟨rfl,_,r,rfl,G,gz g5 P,h3,lo b e,F⟩
    .rw[ADs<|by simpa using e];exact wpS_pure ⟨rfl,l,_,rfl,g5,gx G P,AEg b,Y,hi b e⟩
  .rintro c AL ⟨rfl,l,r,rfl,O,P,h3⟩;have:l=r:=J
   subst this;exact⟨rfl,l,rfl,h3⟩
  .rintro c AL ⟨rfl,r,rfl,h3⟩;exact wpS_pure<|h r h3
 clear_value jp
 by_cases c:Z v<rk u
 .rw[ADr<|AEs c];refine wpS_bind (wpS_mono (wpS_forRange (I:=λx c AL=>AL=st/\∃l r,c=(none,l,r)/\l<r/\x<r/\v+l<n/\Z (v+l)<rk u)
   (Q:=λc AL=>AL=st/\∃l r,c=(none,l,r)/\l<r/\v+l<n/\Z (v+l)<rk u/\(v+r<n->¬ Z (v+r)<rk u)) ?_ ?_ ⟨rfl,0,1,rfl,AG0,AG0,hh,c⟩) ?_)
  .rintro x c AL _ _ ⟨rfl,l,r,rfl,O,P,h3,Y⟩;dsimp only;by_cases d:r>=n-v
   .rw[ADr d];exact wpS_pure ⟨rfl,l,r,rfl,O,h3,Y,λ_=>J⟩
   .rw[ADs d];have b:v+r<n:=J
    refine wpS_bind<|R _ _ b ?_;dsimp only;by_cases e:Z (v+r)<rk u
    .rw[ADs<|by simpa using e];exact wpS_pure ⟨rfl,r,2*r+1,rfl,dA,dB P,b,e⟩
    .rw[ADr<|by simpa using e];exact wpS_pure ⟨rfl,l,r,rfl,O,h3,Y,λ_=>e⟩
  .rintro c AL ⟨rfl,l,r,rfl,O,P,h3,Y⟩;exact⟨rfl,l,r,rfl,O,h3,Y,λ_=>J⟩
  .rintro c AL ⟨rfl,l,r,rfl,O,h3,Y,F⟩;refine ADh _ _ _ _ (rL O h3) ⟨rM hh,lo h3 Y,λi a b=>?_⟩;obtain⟨z,y⟩:=rN a b;exact hi z (F z) i y b
 .rw[ADs<|by simpa using c];refine wpS_bind (wpS_mono (wpS_forRange (I:=λx c AL=>AL=st/\∃l r,c=(none,l,r)/\l<r/\x<r/\l<=v/\¬ Z (v-l)<rk u)
   (Q:=λc AL=>AL=st/\∃l r,c=(none,l,r)/\l<r/\l<=v/\¬ Z (v-l)<rk u/\(r<=v->Z (v-r)<rk u)) ?_ ?_ ⟨rfl,0,1,rfl,AG0,AG0,AEu _,c⟩) ?_)
  .rintro x c AL _ _ ⟨rfl,l,r,rfl,O,P,h3,Y⟩;dsimp only;by_cases d:r>=v+1
   .rw[ADr d];exact wpS_pure ⟨rfl,l,r,rfl,O,h3,Y,λ_=>J⟩
   .rw[ADs d];refine wpS_bind<|R (v-r) _ (AEz (AHB _ _) hh) ?_;dsimp only;by_cases e:Z (v-r)<rk u
    .rw[ADr<|AEs e];exact wpS_pure ⟨rfl,l,r,rfl,O,h3,Y,λ_=>e⟩
    .rw[ADs<|by simpa using e];exact wpS_pure ⟨rfl,r,2*r+1,rfl,dA,dB P,J,e⟩
  .rintro c AL ⟨rfl,l,r,rfl,O,P,h3,Y⟩;exact⟨rfl,l,r,rfl,O,h3,Y,λ_=>J⟩
  .rintro c AL ⟨rfl,l,r,rfl,O,h3,Y,F⟩;refine ADh _ _ _ _ (rO O h3) ⟨AEF (AHB _ _)<|AEg hh,λi a=>?_,hi (AEz (AHB _ _) hh) Y⟩;obtain⟨z,y⟩:=rP a;exact lo (AEz (AHB _ _) hh) (F z) i y
end
variable{rk:Keyed->Nat}{R:Keyed->Keyed->Prop}
structure Mi(R:Keyed->Keyed->Prop)(all out ra rb:List Keyed):Prop where
 so:out.Pairwise R
 sa:ra.Pairwise R
 sb:rb.Pairwise R
 pm:(out++(ra++rb)).Perm all
 la:∀x∈out,∀y∈ra,R x y
 lb:∀x∈out,∀y∈rb,R x y
theorem Mi.symm{all out ra rb:List Keyed}(h:Mi R all out ra rb):Mi R all out rb ra:=⟨h.so,h.sb,h.sa,(AHO _ AID).trans h.pm,h.lb,h.la⟩
theorem Mi.Le{all out k ra rb:List Keyed}(h:Mi R all out (k++ra) rb)(c:∀x∈k,∀y∈rb,R x y):Mi R all (out++k) ra rb:=by
 obtain⟨s1,s2,q⟩:=AEE.mp h.sa;refine⟨AEE.mpr ⟨h.so,s1,λx a y b=>h.la x a y<|AEp _ b⟩,s2,h.sb,?_,λx a y b=>?_,λx a y b=>?_⟩
 .have:=h.pm
  rwa [AEW,<-AEW k]
 .rcases AD7.mp a with a|a
  .exact h.la x a y<|AEn _ b
  .exact q x a y b
 .rcases AD7.mp a with a|a
  .exact h.lb x a y b
  .exact c x a y b
theorem Mi.fin{all out ra:List Keyed}(h:Mi R all out ra []):(out++ra).Pairwise R/\(out++ra).Perm all:=⟨AEE.mpr ⟨h.so,h.sa,h.la⟩,by have:=h.pm;rwa [AE1]at this⟩
abbrev Bt(rk:Keyed->Nat)(x y:Keyed):Prop:=rk x<rk y
abbrev DG(rk:Keyed->Nat)(x y:Keyed):Prop:=rk y<rk x
noncomputable abbrev fr(a:Array Keyed)(i:Nat):List Keyed:=a.toList.drop i
theorem rA(a:Array Keyed)(i k:Nat):fr a i=(a.extract i<|i+k).toList++fr a (i+k):=by rw[AFZ,AFB,AEv];unfold fr;rw[<-AIE,AEc]
theorem Qh(a:Array Keyed)(i:Nat):(a.extract i).toList=fr a i:=by rw[AFZ,AFB];exact AFv ADk
theorem Qg{a:Array Keyed}{i:Nat}{x:Keyed}(e:a[i]? = some x):fr a i=x::fr a (i+1):=by
 have hi:=(AE4.mp e).1;rw[fr,AEx<|by simpa using hi]
 congr 1
 exact AEU<|(by simp[hi]:a[i]? = some a.toList[i]).symm.trans e
theorem VL{a:Array Keyed}{i:Nat}(h:a.size<=i):fr a i=[]:=AHG<|by simpa using h
theorem q9{a:Array Keyed}{i:Nat}{x:Keyed}(h:x∈fr a i):x∈a.toList:=AFr h
theorem Lz{b:Array Keyed}{i:Nat}{x z:Keyed}(sb:(fr b i).Pairwise<|Bt rk)(e:b[i]? = some z)(h:rk x<rk z):∀y∈fr b i,rk x<rk y:=λy m=>by
 rw[Qg e]at sb m;rcases AEN.mp m with rfl|m
 .exact h
 .exact AGB h<|(AFn.mp sb).1 y m
section
variable{all rb:List Keyed}{out a b:Array Keyed}{i j:Nat}
theorem SD{x:Keyed}(M:Mi (Bt rk) all out.toList (fr a i) rb)(e:a[i]? = some x)(c:∀y∈rb,rk x<rk y):Mi (Bt rk) all (out.push x).toList (fr a<|i+1) rb:=by rw[AHh];rw[Qg e]at M;exact Mi.Le (k:=[x]) M λy m=>by rw[ADv.mp m];exact c
theorem Yw(M:Mi (Bt rk) all out.toList (fr a i) rb)(k:Nat)(c:∀x∈(a.extract i<|i+k).toList,∀y∈rb,rk x<rk y):Mi (Bt rk) all (out++a.extract i (i+k)).toList (fr a<|i+k) rb:=by rw[AFE];rw[rA a i k]at M;exact M.Le c
def FC(rk:Keyed->Nat)(all:List Keyed)(out:Array Keyed):Prop:=out.toList.Pairwise (Bt rk)/\out.toList.Perm all
theorem P8(M:Mi (Bt rk) all out.toList (fr a i)<|fr b j)(h:b.size<=j):FC rk all<|out++a.extract i++b.extract j:=by unfold FC;rw[AFE,AFE,Qh,Qh,VL h,AE1];rw[VL h]at M;exact M.fin
theorem P9(M:Mi (Bt rk) all out.toList (fr a i)<|fr b j)(h:∀y∈fr b j,∀x∈fr a i,rk y<rk x):FC rk all<|out++b.extract j++a.extract i:=by unfold FC;rw[AFE,AFE,Qh,Qh];have M:=M.symm;rw[<-AE1<|fr b j]at M;exact(M.Le h).symm.fin
end
section
variable{prog:Program}{w:World}{A:Around}{E:Value->Shared->Prop}{s:Shared}{κ:SortKind}{El:Keyed->Prop}
theorem nV{a:Array Keyed}(sa:a.toList.Pairwise<|Bt rk){i j:Nat}{x y:Keyed}(e:a[i]? = some x)(q:a[j]? = some y)(h:i<=j):rk x<=rk y:=by
 obtain⟨hi,rfl⟩:=AE4.mp e;obtain⟨v,rfl⟩:=AE4.mp q;rcases AHc h with h|rfl
 .have:=AER.mp sa i j (by simpa using hi) (by simpa using v) h;rw[AF1,AF1]at this;exact AEg this
 .exact ADt _
theorem ext_mem{a:Array Keyed}{k n:Nat}{x:Keyed}(h:x∈(a.extract k<|k+n).toList):∃t,t<n/\a[k+t]? = some x:=by rw[AFZ,AFB,AEv]at h;obtain⟨t,y,rfl⟩:=AE3 h;rw[AEq]at y;refine⟨t,J,?_⟩;rw[AGI,AGg];rw[<-AEK,ADp]
theorem Fh{a:Array Keyed}{k:Nat}{x:Keyed}(h:a[k]? = some x):x∈a.toList:=by rw[<-AEK]at h;exact AEX h
def Sg(st AL:SortSt):Prop:=kindOf AL=kindOf st/\arrOf AL=arrOf st/\pendingOf AL=pendingOf st/\failedOf AL=failedOf st
theorem Sg.refl(st:SortSt):Sg st st:=⟨rfl,rfl,rfl,rfl⟩
theorem Sg.trans{a b c:SortSt}(h:Sg a b)(k:Sg b c):Sg a c:=⟨k.1.trans h.1,k.2.1.trans h.2.1,k.2.2.1.trans h.2.2.1,k.2.2.2.trans h.2.2.2⟩
theorem S8{g:Nat}{Q:PUnit->SortSt->Prop}{st:SortSt}(h:∀AL,Sg st AL->Q ⟨⟩ AL):wpS (model prog w) A E s ((sortPriv% PySem.Builtin.setMinGallop:Nat->SM Unit) g) Q st:=wpS_modify<|h _ ⟨rfl,rfl,rfl,rfl⟩
theorem fO{α β:Type}{c:Prop}[Decidable c]{F:α->SM β}{a b:α}{Q:β->SortSt->Prop}{st:SortSt}(h:∀m,wpS (model prog w) A E s (F m) Q st):wpS (model prog w) A E s (if c then F a else F b) Q st:=by split<;>exact h _
theorem Q9{α β γ:Type}{G:SM γ}{F:PUnit->α->β->SM γ}{Q:γ->SortSt->Prop}{st:SortSt}(P:α->β->Prop)(h:∀o k,P o k->wpS (model prog w) A E s (F ⟨⟩ o k) Q st)(g:(∀o k,P o k->wpS (model prog w) A E s (F ⟨⟩ o k) Q st)->wpS (model prog w) A E s G Q st):wpS (model prog w) A E s G Q st:=g h
theorem YD{β:Type}{c:Prop}[Decidable c]{t e:SM β}{Q:β->SortSt->Prop}{st:SortSt}(d:¬ c)(h:wpS (model prog w) A E s e Q st):wpS (model prog w) A E s (if c then t else e) Q st:=by rwa [ADs d]
theorem DW{β:Type}{m n:Nat}{t e:SM β}{Q:β->SortSt->Prop}{st:SortSt}(h:m=n->wpS (model prog w) A E s t Q st)(k:m≠n->wpS (model prog w) A E s e Q st):wpS (model prog w) A E s (if(m==n)=true then t else e) Q st:=by
 by_cases d:m=n
 .rw[ADr<|by simpa using d];exact h d
 .rw[ADs<|by simpa using d];exact k d
theorem EA{β:Type}{c:Prop}[Decidable c]{t e:SM β}{Q:β->SortSt->Prop}{st:SortSt}(h:c->wpS (model prog w) A E s t Q st)(k:¬ c->wpS (model prog w) A E s e Q st):wpS (model prog w) A E s (if c then t else e) Q st:=by
 by_cases d:c
 .rw[ADr d];exact h d
 .rw[ADs d];exact k d
theorem Mp{β:Type}{c:Prop}[Decidable c]{t e:SM β}{Q:β->SortSt->Prop}{st:SortSt}(h:c->wpS (model prog w) A E s t Q st)(k:¬ c->wpS (model prog w) A E s e Q st):wpS (model prog w) A E s (if decide c=true then t else e) Q st:=EA (λd=>h<|AHi d) λd=>k λz=>d<|AEs z
structure MC(El:Keyed->Prop)(rk:Keyed->Nat)(a b:Array Keyed):Prop where
 ha:∀x∈a.toList,El x
 hb:∀x∈b.toList,El x
 a0:0<a.size
 b0:0<b.size
 sa:a.toList.Pairwise<|Bt rk
 sb:b.toList.Pairwise<|Bt rk
 bot:∀x∈a.toList,rk b[0]<rk x
 top:∀x,a[a.size-1]? = some x->∀y∈b.toList,rk y<rk x
 ne:∀x∈a.toList,∀y∈b.toList,rk x≠rk y
theorem S7(L:Fe prog w A E s κ El rk){left:Bool}{v:Keyed}{q:Array Keyed}{base n u:Nat}{Q:Option Nat->SortSt->Prop}{st:SortSt}(so:q.toList.Pairwise<|Bt rk)(el:∀x∈q.toList,El x)(ne:∀x∈q.toList,rk x≠rk v) (bn:base+n<=q.size) (O:El v) (hh:u<n) (hs:kindOf st=κ) (h:∀k,k<=n->(∀i x,i<k->q[base+i]? = some x->rk x<rk v)->(∀i x,k<=i->i<n->q[base+i]? = some x->rk v<rk x)->Q (some k) st):wpS (model prog w) A E s (VO left v q base n u) Q st:=by
 have g:∀i,i<n->∃x,q[base+i]? = some x:=λi hi=>⟨_,AET q (base+i) J⟩;have Z:∀{i x},q[base+i]? = some x->(q[base+i]?).elim 0 rk=rk x:=λe=>by rw[e];rfl
 refine YE L (λi=>(q[base+i]?).elim 0 rk) (λi j ij jn=>?_) (λi hi=>?_) O hh hs λk ⟨P,D,F⟩=>h k P (λi x hi e=>Z e ▸ D i hi) λi x B G e=>Z e ▸ F i B G
 .obtain⟨x,ex⟩:=g i J;obtain⟨y,Y⟩:=g j jn;rw[Z ex,Z Y];exact nV so ex Y J
 .obtain⟨x,ex⟩:=g i hi;exact⟨x,ex,el x<|Fh ex,(Z ex).symm,Z ex ▸ ne x (Fh ex)⟩
structure ML(rk:Keyed->Nat)(all:List Keyed)(a b out:Array Keyed)(k l:Nat):Prop where
 M:Mi (Bt rk) all out.toList (fr a k)<|fr b l
 ka:k+1<a.size
 lb:l<b.size
structure LI{T:Type}(rk:Keyed->Nat)(all:List Keyed)(a b:Array Keyed)(n:Nat)(c:Option (Array Keyed)×Array Keyed×Nat×Nat×T):Prop where
 z:c.1=none
 M:ML rk all a b c.2.1 c.2.2.1 c.2.2.2.1
 h:n<=c.2.2.1+c.2.2.2.1
def LD{T:Type}(rk:Keyed->Nat)(all:List Keyed)(c:Option (Array Keyed)×T):Prop:=∃r,c.1=some r/\FC rk all r
theorem LI.of{T:Type}{all:List Keyed}{a b out:Array Keyed}{k l n:Nat}{t:T}(M:Mi (Bt rk) all out.toList (fr a k)<|fr b l)(y:k+1<a.size)(q:l<b.size)(h:n<=k+l):LI rk all a b n (none,out,k,l,t):=⟨rfl,⟨M,y,q⟩,h⟩
theorem LD.of{T:Type}{all:List Keyed}{r:Array Keyed}{t:T}(h:FC rk all r):LD rk all (some r,t):=⟨r,rfl,h⟩
theorem ACo(L:Fe prog w A E s κ El rk){a b:Array Keyed}{Q:Array Keyed->SortSt->Prop}{st:SortSt}(C:MC El rk a b) (hs:kindOf st=κ) (h:∀out AL,Sg st AL->FC rk (a.toList++b.toList) out->Q out AL):wpS (model prog w) A E s (g8 a b) Q st:=by
 have b0:=C.b0;have M0:Mi (Bt rk) (a.toList++b.toList) (#[b[0]]:Array Keyed).toList (fr a 0)<|fr b 1:=by have e:=Qg<|AET b 0 b0;have sb:=C.sb;rw[show fr b 0=b.toList from rfl]at e;rw[e]at sb ⊢;obtain⟨s1,s2⟩:=AFn.mp sb;exact⟨AEw _ _,C.sa,s2,show(b[0]::(a.toList++fr b 1)).Perm _ from List.perm_middle.symm,λx m y k=>by rw[ADv.mp m];exact C.bot y k,λx m y k=>by rw[ADv.mp m];exact s1 y k⟩
 have lst:∀{i j},i+1=a.size->∀y∈fr b j,∀x∈fr a i,rk y<rk x:=λ{i j} e y my x D=>by
  have hi:i<a.size:=J
  rw[Qg<|AET a i hi,VL J,ADv]at D;rw[D];exact C.top _ (by rw[show a.size-1=i by lia];exact AET a i hi) y<|q9 my
 generalize a.toList++b.toList=all at *
 unfold g8;refine wpS_bind<|wpS_lift<|wpAny_rule ⟨rfl,?_⟩;refine wpS_bind<|Cz (AET b 0 b0) ?_;dsimp -zeta only;refine DW (λc1=>wpS_pure<|h _ _ (Sg.refl _)<|P8 M0 J) λc1=>?_;refine DW (λc2=>wpS_pure<|h _ _ (Sg.refl _)<|P9 M0<|lst c2) λc2=>?_;refine wpS_bind<|wpS_get ?_;refine wpS_bind (wpS_mono (wpS_forRange (I:=λx c AL=>Sg st AL/\LI rk all a b (x+1) c)
  (Q:=λc AL=>Sg st AL/\LD rk all c) ?_ ?_ ⟨Sg.refl _,.of M0 (by have:=C.a0;lia) J<|ADt _⟩) ?_)
 .clear M0 c1 c2;intro x c Dx _ _ P;have g1:=P.1;refine wpS_bind (wpS_mono (wpS_forRange (I:=λy d S=>S=Dx/\LI rk all a b (c.2.2.1+c.2.2.2.1+y) d)
   (Q:=λd S=>S=Dx/\(LD rk all d\/LI rk all a b (c.2.2.1+c.2.2.2.1+1) d)) ?_ ?_ ⟨rfl,rfl,P.2.M,ADt _⟩) ?_)
  .intro y c S _ _ v
   extract_lets -underBinder s1 out s2 k s3 l s4 ac bc
   have M:Mi (Bt rk) all out.toList (fr a k)<|fr b l:=v.2.M.M;have T:k+1<a.size:=v.2.M.ka;have h2:l<b.size:=v.2.M.lb;have h3:_<=k+l:=v.2.h;have B:=v.1
   clear_value s1 out s2 k s3 l s4 ac bc
   clear v;have O:=AET b l h2;have ea:=AET a k<|AHj T;have mb:=Fh O;have ma:=Fh ea;refine wpS_bind<|Cz O<|wpS_bind<|Cz ea<|wpS_bind<|L _ _ _ _ (C.hb _ mb) (C.ha _ ma) (B ▸ g1.1.trans hs) ?_;refine Mp (λd=>wpS_bind<|Cz O ?_) λd=>wpS_bind<|Cz ea ?_
   .have M:=(SD M.symm O<|Lz M.sa ea d).symm;refine DW (λd1=>wpS_pure ⟨B,.inl<|.of<|P8 M J⟩) λd1=>?_;exact EA (λ_=>wpS_pure ⟨B,.inr<|.of M T J J⟩) λ_=>wpS_pure ⟨B,.of M T J J⟩
   .have M:=SD M ea (Lz M.sb O (by have:=C.ne _ ma _ mb;lia));refine DW (λd1=>wpS_pure ⟨B,.inl<|.of<|P9 M<|lst d1⟩) λd1=>?_;exact EA (λ_=>wpS_pure ⟨B,.inr<|.of M J h2 J⟩) λ_=>wpS_pure ⟨B,.of M J h2 J⟩
  .intro d S v;have:=v.2.M.ka;have:=v.2.M.lb;have:=v.2.h;lia
  .intro d S v;have g1:=v.1 ▸ g1
   replace v:=v.2
   extract_lets -underBinder r s1 out s2 k s3 l s4 ac bc
   rcases v with⟨r',e,ok⟩|v
   .rw[show r=some r' from e];exact wpS_pure ⟨g1,.of ok⟩
   .rw[show r=none from v.z];refine wpS_bind<|wpS_lift<|wpAny_rule ⟨rfl,?_⟩;refine wpS_bind (wpS_mono (wpS_forRange (I:=λy d H=>Sg st H/\LI rk all a b (c.2.2.1+c.2.2.2.1+1) d)
     (Q:=λd H=>Sg st H/\(LD rk all d\/LI rk all a b (c.2.2.1+c.2.2.2.1+1) d)) ?_ ?_ ⟨g1,rfl,v.M,v.h⟩) ?_)
    .clear v s4 ac bc s3 l s2 k s1 out r d;intro y d H _ _ u
     extract_lets -underBinder s1 out s2 k s3 l s4 m1 s5 a1 b1 jp
     have M:Mi (Bt rk) all out.toList (fr a k)<|fr b l:=u.2.M.M;have T:k+1<a.size:=u.2.M.ka;have h2:l<b.size:=u.2.M.lb;have h3:_<=k+l:=u.2.h;have g3:=u.1
     clear_value s1 out s2 k s3 l s4 m1 s5 a1 b1
     clear u;refine fO (F:=jp ⟨⟩) λmg=>?_;refine wpS_bind<|S8 λXl Y=>?_
     replace Y:=g3.trans Y
     have O:=AET b l h2;have mb:=Fh O;refine wpS_bind<|Cz O ?_;refine wpS_bind<|S7 L C.sa C.ha (λx m=>C.ne x m _ mb) J (C.hb _ mb) J (Y.1.trans hs) λn n1 n2 n3=>?_;have n4:k+n<a.size:=Nat.lt_of_not_le λc=>by have Z:=AET a (a.size-1) J;have q:=n2 (a.size-1-k) _ J (by rw[show k+(a.size-1-k)=a.size-1 by lia];exact Z);have:=C.top _ Z _ mb;lia
     have Z:=AET a (k+n) n4;have U:=n3 n _ (ADt _) J Z;have G:=Yw M n λx D=>by obtain⟨t,tn,e⟩:=ext_mem D;exact Lz M.sb O<|n2 t x tn e
     dsimp -zeta only
     extract_lets -underBinder a2 OK
     refine Q9 (F:=OK) (λo k1=>∃x1,Mi (Bt rk) all o.toList (fr a k1) (fr b l)/\k<=k1/\k1+1<a.size/\a[k1]? = some x1/\rk b[l]<rk x1) ?_ λADh=>?_
     .clear U G Z n4 n3 n2 n1 M T;rintro o1 k1 ⟨x1,G,kk,k2,Z,U⟩;have D:=Fh Z;refine wpS_bind<|Cz O ?_;have M2:=(SD G.symm O<|Lz G.sa Z U).symm;refine DW (λd2=>wpS_pure ⟨Y,.inl<|.of<|P8 M2<|AGO d2.symm⟩) λd2=>?_;refine wpS_bind<|Cz Z ?_;refine wpS_bind<|S7 L C.sb C.hb (λy m=>(C.ne _ D y m).symm) J (C.ha _ D) J (Y.1.trans hs) λm m1 m2 m3=>?_;have M3:=(Yw M2.symm m λy my=>by obtain⟨t,tn,e⟩:=ext_mem my;exact Lz M2.sa Z<|m2 t y tn e).symm
      dsimp -zeta only
      extract_lets -underBinder b2 OL
      refine Q9 (F:=OL) (λo l1=>∃y,Mi (Bt rk) all o.toList (fr a k1) (fr b l1)/\l<l1/\b[l1]? = some y/\rk x1<rk y) ?_ λADh=>?_
      .clear M3 m3 m2 m1 M2 G U;rintro o2 l1 ⟨y2,M3,ll,JM,K0⟩;refine wpS_bind<|Cz Z ?_;have M4:=SD M3 Z<|Lz M3.sb JM K0;have l2:=(AE4.mp JM).1;refine DW (λd4=>wpS_pure ⟨Y,.inl<|.of<|P9 M4<|lst d4⟩) λd4=>?_;exact EA (λ_=>wpS_pure ⟨Y,.inr<|.of M4 J l2 J⟩) λ_=>wpS_pure ⟨Y,.of M4 J l2 J⟩
      .clear_value OL
       have m4:l+1+m≠b.size->∃y,b[l+1+m]? = some y/\rk x1<rk y:=λc=>by have eu:=AET b (l+1+m) J;exact⟨_,eu,m3 m _ (ADt _) J eu⟩
       refine EA (λc=>?_) λc=>?_
       .refine DW (λd=>wpS_pure ⟨Y,.inl<|.of<|P8 M3<|AGO d.symm⟩) λd=>?_;obtain⟨y,e,q⟩:=m4 d;exact ADh _ _ ⟨y,M3,J,e,q⟩
       .have m0:m=0:=J
        subst m0;obtain⟨y,e,q⟩:=m4 d2;exact ADh _ _ ⟨y,M2,AHs l,e,q⟩
     .clear_value OK
      refine EA (λc=>?_) λc=>?_
      .refine DW (λd=>wpS_pure ⟨Y,.inl<|.of<|P9 G<|lst d⟩) λd=>?_;refine DW (λd=>J) λ_=>?_;exact ADh _ _ ⟨_,G,J,J,Z,U⟩
      .have n0:n=0:=J
       subst n0;exact ADh _ _ ⟨_,M,ADt _,T,Z,U⟩
    .exact λd H u=>⟨u.1,.inr u.2⟩
    .intro d H u;have g3:=u.1
     replace u:=u.2
     clear v bc ac s4 l s3 k s2 out s1 r
     extract_lets -underBinder r s1 out s2 k s3 l s4 mg s5 ac bc wb
     rcases u with⟨r',e,ok⟩|u
     .rw[show r=some r' from e];exact wpS_pure ⟨g3,.of ok⟩
     .rw[show r=none from u.z];exact wpS_bind (S8 λXl Y=>wpS_pure ⟨g3.trans Y,rfl,u.M,by have:=u.h;have:=P.2.h;show _<=k+l;lia⟩)
 .intro d Dx P;have:=P.2.M.ka;have:=P.2.M.lb;have:=P.2.h;lia
 .intro d Dx P;obtain⟨g1,r,e,ok⟩:=P;dsimp only;rw[e];exact wpS_pure<|h _ _ g1 ok
end
end Bh
namespace Bh
open PySem PyProof.Rows
variable{rk:Keyed->Nat}
noncomputable abbrev bk(a:Array Keyed)(i:Nat):List Keyed:=(a.toList.take i).reverse
theorem Yu{a:Array Keyed}{i:Nat}{x:Keyed}(e:a[i]? = some x):bk a (i+1)=x::bk a i:=by
 rw[<-AEK]at e;unfold bk;rw[AIF,e,AGU]
 rfl
theorem nq(a:Array Keyed){i j:Nat}(h:j<=i):bk a i=(a.extract j i).reverse.toList++bk a j:=by
 unfold bk;rw[AGp,AFZ,AFB,<-AGU]
 congr 1
 rw[show i=j+(i-j)by lia,List.take_add,AEv]
theorem UN(a:Array Keyed):bk a 0=[]:=by unfold bk;rw[List.take_zero];rfl
theorem UL(a:Array Keyed):bk a a.size=a.toList.reverse:=by unfold bk;rw[AFv ADk]
theorem Yv{a:Array Keyed}{i:Nat}{x:Keyed}(h:x∈bk a i):x∈a.toList:=AF2<|AFx.mp h
theorem Px(a:Array Keyed)(i:Nat):(a.extract 0 i).toList=(bk a i).reverse:=by
 unfold bk;rw[List.reverse_reverse,AFZ,AFB]
 rfl
theorem UM{a:Array Keyed}{i:Nat}{x:Keyed}(h:0<i)(e:a[i-1]? = some x):bk a i=x::bk a (i-1):=by obtain⟨i,rfl⟩:=Nat.exists_eq_succ_of_ne_zero<|Nat.ne_of_gt h;exact Yu e
theorem Li{b:Array Keyed}{i:Nat}{x z:Keyed}(sb:(bk b i).Pairwise<|DG rk)(p:0<i)(e:b[i-1]? = some z)(h:rk z<rk x):∀y∈bk b i,DG rk x y:=λy m=>by
 rw[UM p e]at sb m;rcases AEN.mp m with rfl|m
 .exact h
 .exact AGB ((AFn.mp sb).1 y m) h
section
variable{all rb:List Keyed}{out a b:Array Keyed}{i j:Nat}
theorem SE{x:Keyed}(M:Mi (DG rk) all out.toList (bk a i) rb)(p:0<i)(e:a[i-1]? = some x)(c:∀y∈rb,DG rk x y):Mi (DG rk) all (out.push x).toList (bk a<|i-1) rb:=by rw[AHh];rw[UM p e]at M;exact Mi.Le (k:=[x]) M λy m=>by rw[ADv.mp m];exact c
theorem Yx(M:Mi (DG rk) all out.toList (bk a i) rb)(h:j<=i)(c:∀x∈(a.extract j i).toList,∀y∈rb,DG rk x y):Mi (DG rk) all (out++(a.extract j i).reverse).toList (bk a j) rb:=by rw[AFE];rw[nq a h]at M;exact M.Le λx m=>c x (by rw[AGp]at m;exact AFx.mp m)
theorem jZ{l:List Keyed}{o:Array Keyed}(e:o.toList=l.reverse)(h:l.Pairwise (DG rk)/\l.Perm all):FC rk all o:=by unfold FC;rw[e,AGj];exact⟨h.1,(AHD l).trans h.2⟩
theorem P6(M:Mi (DG rk) all out.toList (bk a i)<|bk b j)(h:i=0):FC rk all<|a.extract 0 i++b.extract 0 j++out.reverse:=by
 subst h;refine jZ (l:=out.toList++bk b j) ?_ (by rw[UN]at M;exact M.symm.fin);rw[AFE,AFE,Px,Px,UN,AGp,AGU]
 rfl
theorem P7(M:Mi (DG rk) all out.toList (bk a i)<|bk b j)(h:∀x∈bk a i,∀y∈bk b j,DG rk x y):FC rk all<|b.extract 0 j++a.extract 0 i++out.reverse:=by rw[<-AE1<|bk a i]at M;refine jZ (l:=out.toList++bk a i++bk b j) ?_ (M.Le h).symm.fin;rw[AFE,AFE,Px,Px,AGp,AGU,AGU,AEW]
end
section
variable{prog:Program}{w:World}{A:Around}{E:Value->Shared->Prop}{s:Shared}{κ:SortKind}{El:Keyed->Prop}
theorem cM{a:Array Keyed}{j i:Nat}{x:Keyed}(h:x∈(a.extract j i).toList):∃t,j<=t/\t<i/\a[t]? = some x:=by
 by_cases c:j<=i
 .rw[show i=j+(i-j)by lia]at h;obtain⟨t,ht,e⟩:=ext_mem h;exact⟨j+t,J,J,e⟩
 .rw[AFZ,AFB,show i-j=0 by lia,List.take_zero]at h;cases h
structure MH(rk:Keyed->Nat)(all:List Keyed)(a b out:Array Keyed)(k l:Nat):Prop where
 M:Mi (DG rk) all out.toList (bk a k)<|bk b l
 k0:0<k
 l1:1<l
 ka:k<=a.size
 lb:l<=b.size
structure HI{T:Type}(rk:Keyed->Nat)(all:List Keyed)(a b:Array Keyed)(n N:Nat)(c:Option (Array Keyed)×Nat×Nat×Array Keyed×T):Prop where
 z:c.1=none
 M:MH rk all a b c.2.2.2.1 c.2.1 c.2.2.1
 h:n+c.2.1+c.2.2.1<=N
theorem HI.of{T:Type}{all:List Keyed}{a b out:Array Keyed}{k l n N:Nat}{t:T}(M:Mi (DG rk) all out.toList (bk a k)<|bk b l)(y:0<k)(q:1<l)(h3:k<=a.size)(v:l<=b.size)(h:n+k+l<=N):HI rk all a b n N (none,k,l,out,t):=⟨rfl,⟨M,y,q,h3,v⟩,h⟩
theorem ACn(L:Fe prog w A E s κ El rk){a b:Array Keyed}{Q:Array Keyed->SortSt->Prop}{st:SortSt}(C:MC El rk a b) (hs:kindOf st=κ) (h:∀out AL,Sg st AL->FC rk (a.toList++b.toList) out->Q out AL):wpS (model prog w) A E s (gw a b) Q st:=by
 have b0:=C.b0;have a0:=C.a0;obtain⟨x0,e0⟩:∃x0,a[a.size-1]? = some x0:=⟨_,AET a (a.size-1) J⟩;have M0:Mi (DG rk) (a.toList++b.toList) (#[x0]:Array Keyed).toList (bk a<|a.size-1)<|bk b b.size:=by have e:=UM a0 e0;rw[UL]at e;have jv:=AGj.mpr C.sa;rw[e]at jv;obtain⟨s1,s2⟩:=AFn.mp jv;refine⟨AEw _ _,s2,by rw[UL];exact AGj.mpr C.sb,?_,λx m y k=>by rw[ADv.mp m];exact s1 y k,λx m y k=>by rw[ADv.mp m];exact C.top _ e0 y<|Yv k⟩;show(x0::(bk a (a.size-1)++bk b b.size)).Perm _;rw[<-AFR,<-e,UL];exact(AHD _).append (AHD _)
 have P:∀{i j},j=1->∀x∈bk a i,∀y∈bk b j,DG rk x y:=λ{i j} e x D y my=>by subst e;rw[Yu<|AET b 0 b0,UN,ADv]at my;rw[my];exact C.bot x<|Yv D
 generalize a.toList++b.toList=all at *
 unfold gw;refine wpS_bind<|wpS_lift<|wpAny_rule ⟨rfl,?_⟩;refine wpS_bind<|Cz e0 ?_;dsimp -zeta only;refine DW (λc1=>wpS_pure<|h _ _ (Sg.refl _)<|P6 M0 c1) λc1=>?_;refine DW (λc2=>wpS_pure<|h _ _ (Sg.refl _)<|P7 M0<|P c2) λc2=>?_;refine wpS_bind<|wpS_get ?_;refine wpS_bind (wpS_mono (wpS_forRange (I:=λx c AL=>Sg st AL/\HI rk all a b (x+1) (a.size+b.size) c)
  (Q:=λc AL=>Sg st AL/\LD rk all c) ?_ ?_ ⟨Sg.refl _,.of M0 (AHd c1) J (AHB _ _) (ADt _) J⟩) ?_)
 .clear M0 c1 c2 e0;intro x c Dx _ _ Y;have g1:=Y.1;refine wpS_bind (wpS_mono (wpS_forRange (I:=λy d T=>T=Dx/\HI rk all a b y (c.2.1+c.2.2.1) d)
   (Q:=λd T=>T=Dx/\(LD rk all d\/HI rk all a b 1 (c.2.1+c.2.2.1) d)) ?_ ?_ ⟨rfl,rfl,Y.2.M,by dsimp only;lia⟩) ?_)
  .intro y d T _ _ q
   extract_lets -underBinder s1 k s2 l s3 out s4 ac bc
   have M:Mi (DG rk) all out.toList (bk a k)<|bk b l:=q.2.M.M;have R:0<k:=q.2.M.k0;have h2:1<l:=q.2.M.l1;have h5:k<=a.size:=q.2.M.ka;have h6:l<=b.size:=q.2.M.lb;have h3:_+k+l<=_:=q.2.h;have B:=q.1
   clear_value s1 out s2 k s3 l s4 ac bc
   clear q Y;have O:=AET b (l-1) J;have ea:=AET a (k-1) J;have mb:=Fh O;have ma:=Fh ea;refine wpS_bind<|Cz O<|wpS_bind<|Cz ea<|wpS_bind<|L _ _ _ _ (C.hb _ mb) (C.ha _ ma) (B ▸ g1.1.trans hs) ?_;refine Mp (λd=>wpS_bind<|Cz ea ?_) λd=>wpS_bind<|Cz O ?_
   .have M:=SE M R ea<|Li M.sb J O d;refine DW (λd1=>wpS_pure ⟨B,.inl<|.of<|P6 M d1⟩) λd1=>?_;exact EA (λ_=>wpS_pure ⟨B,.inr<|.of M J h2 J h6 J⟩) λ_=>wpS_pure ⟨B,.of M J h2 J h6 J⟩
   .have M:=(SE M.symm J O (Li M.sa R ea (by have:=C.ne _ ma _ mb;lia))).symm;refine DW (λd1=>wpS_pure ⟨B,.inl<|.of<|P7 M<|P d1⟩) λd1=>?_;exact EA (λ_=>wpS_pure ⟨B,.inr<|.of M R J h5 J J⟩) λ_=>wpS_pure ⟨B,.of M R J h5 J J⟩
  .intro d T q;have:=q.2.h;have:=Y.2.h;have:=q.2.M.k0;lia
  .intro d T q;have g1:=q.1 ▸ g1
   replace q:=q.2
   extract_lets -underBinder r s1 k s2 l s3 out s4 ac bc
   rcases q with⟨r',e,ok⟩|q
   .rw[show r=some r' from e];exact wpS_pure ⟨g1,.of ok⟩
   .rw[show r=none from q.z];refine wpS_bind<|wpS_lift<|wpAny_rule ⟨rfl,?_⟩;refine wpS_bind (wpS_mono (wpS_forRange (I:=λy d H=>Sg st H/\HI rk all a b 1 (c.2.1+c.2.2.1) d)
     (Q:=λd H=>Sg st H/\(LD rk all d\/HI rk all a b 1 (c.2.1+c.2.2.1) d)) ?_ ?_ ⟨g1,rfl,q.M,q.h⟩) ?_)
    .clear q Y s4 ac bc s3 out s2 l s1 k r d;intro y d H _ _ v
     extract_lets -underBinder s1 k s2 l s3 out s4 m1 s5 a1 b1 jp
     have M:Mi (DG rk) all out.toList (bk a k)<|bk b l:=v.2.M.M;have R:0<k:=v.2.M.k0;have h2:1<l:=v.2.M.l1;have h5:k<=a.size:=v.2.M.ka;have h6:l<=b.size:=v.2.M.lb;have h3:_+k+l<=_:=v.2.h;have g3:=v.1
     clear_value s1 out s2 k s3 l s4 m1 s5 a1 b1
     clear v;refine fO (F:=jp ⟨⟩) λmg=>?_;refine wpS_bind<|S8 λXl Z=>?_
     replace Z:=g3.trans Z
     have l0:=AHj h2;have O:=AET b (l-1) J;have mb:=Fh O;refine wpS_bind<|Cz O ?_;refine wpS_bind<|S7 L C.sa C.ha (λx m=>C.ne x m _ mb) J (C.hb _ mb) J (Z.1.trans hs) λn n1 n2 n3=>?_;simp -zeta only[AFD]at n2 n3;have G:=Yx M n1 λx D=>by obtain⟨t,t1,t2,e⟩:=cM D;exact Li M.sb l0 O<|n3 t x t1 t2 e
     have lo:0<n->∃x,a[n-1]? = some x/\rk x<rk b[l-1]:=λp=>by have u:=AET a (n-1) J;exact⟨_,u,n2 _ _ J u⟩
     dsimp -zeta only
     extract_lets -underBinder n' a2 OK
     refine Q9 (F:=OK) (λU o=>∃S,Mi (DG rk) all o.toList (bk a U) (bk b l)/\0<U/\U<=k/\a[U-1]? = some S/\rk S<rk b[l-1]) ?_ λADh=>?_
     .clear G lo n3 n2 n1 M;rintro U o1 ⟨S,G,k0,kk,u,FY⟩;have D:=Fh u;refine wpS_bind<|Cz O ?_;have M2:=(SE G.symm l0 O<|Li G.sa k0 u FY).symm;refine DW (λd2=>wpS_pure ⟨Z,.inl<|.of<|P7 M2<|P d2⟩) λd2=>?_;refine wpS_bind<|Cz u ?_;refine wpS_bind<|S7 L C.sb C.hb (λy m=>(C.ne _ D y m).symm) J (C.ha _ D) J (Z.1.trans hs) λm m1 m2 m3=>?_;simp -zeta only[AFD]at m2 m3;have M3:=(Yx M2.symm m1 λy my=>by obtain⟨t,t1,t2,e⟩:=cM my;exact Li M2.sa k0 u<|m3 t y t1 t2 e).symm
      have m4:0<m:=Nat.lt_of_not_le λc=>by have:=m3 0 _ c J<|AET b 0 b0;have:=C.bot _ D;lia
      obtain⟨y2,JM,K0⟩:∃y,b[m-1]? = some y/\rk y<rk S:=by have eu:=AET b (m-1) J;exact⟨_,eu,m2 _ _ J eu⟩
      dsimp -zeta only
      extract_lets -underBinder m' b2 OL
      refine Q9 (F:=OL) (λl1 o=>∃y,Mi (DG rk) all o.toList (bk a U) (bk b l1)/\1<l1/\l1<l/\b[l1-1]? = some y/\rk y<rk S) ?_ λADh=>?_
      .clear M3 m4 m3 m2 m1 M2 G FY JM K0 d2;rintro l1 o2 ⟨y2,M3,l2,ll,JM,K0⟩;refine wpS_bind<|Cz u ?_;have M4:=SE M3 k0 u<|Li M3.sb (AHj l2) JM K0;refine DW (λd4=>wpS_pure ⟨Z,.inl<|.of<|P6 M4 d4⟩) λd4=>?_;exact EA (λ_=>wpS_pure ⟨Z,.inr<|.of M4 J l2 J J J⟩) λ_=>wpS_pure ⟨Z,.of M4 J l2 J J J⟩
      .clear_value OL
       refine EA (λc=>?_) λc=>?_
       .refine DW (λd=>wpS_pure ⟨Z,.inl<|.of<|P7 M3<|P d⟩) λd=>?_;refine DW (λd=>J) λ_=>?_;exact ADh _ _ ⟨_,M3,J,J,JM,K0⟩
       .have m0:m=l-1:=by have c:¬ l-1-m>0:=c;lia
        subst m0;exact ADh _ _ ⟨_,M2,J,J,JM,K0⟩
     .clear_value OK
      refine EA (λc=>?_) λc=>?_
      .refine DW (λd=>wpS_pure ⟨Z,.inl<|.of<|P6 G d⟩) λd=>?_;obtain⟨S,u,FY⟩:=lo<|AHd d;exact ADh _ _ ⟨_,G,AHd d,n1,u,FY⟩
      .have n0:n=k:=by have c:¬ k-n>0:=c;lia
       subst n0;obtain⟨S,u,FY⟩:=lo R;exact ADh _ _ ⟨_,M,R,ADt _,u,FY⟩
    .exact λd H v=>⟨v.1,.inr v.2⟩
    .intro d H v;have g3:=v.1
     replace v:=v.2
     clear q bc ac s4 out s3 l s2 k s1 r
     extract_lets -underBinder r s1 k s2 l s3 out s4 mg s5 ac bc wb
     rcases v with⟨r',e,ok⟩|v
     .rw[show r=some r' from e];exact wpS_pure ⟨g3,.of ok⟩
     .rw[show r=none from v.z];exact wpS_bind (S8 λXl Z=>wpS_pure ⟨g3.trans Z,rfl,v.M,by have:=v.h;have:=Y.2.h;show _+k+l<=_;lia⟩)
 .intro d Dx Y;have:=Y.2.M.k0;have:=Y.2.h;lia
 .intro d Dx Y;obtain⟨g1,r,e,ok⟩:=Y;dsimp only;rw[e];exact wpS_pure<|h _ _ g1 ok
end
end Bh
namespace Bh
open PySem PyProof.Rows
variable{rk:Keyed->Nat}
noncomputable def kl(rk:Keyed->Nat)(l:List Keyed)(t:Nat):Nat:=(l[t]?).elim 0 rk
noncomputable def Ra:Nat->SM Bool:=sortPriv% PySem.Builtin.mergeAt
theorem ACr{off:Nat}:∀(l:List Keyed)(n:Nat)(q:Array Keyed)(pre mid y:List Keyed),q.toList=pre++(mid++y)->pre.length=off+n->mid.length=l.length->((l.zipIdx n).foldl (λa (p:Keyed×Nat)=>a.setIfInBounds (off+p.2) p.1) q).toList=pre++(l++y):=by
 intro l
 induction l with
 |nil=>
  intro n q pre mid y h _ e;rw[AH1.mp e]at h;exact h
 |cons p l ih=>
  intro n q pre mid y h v u;cases mid with
  |nil=>contradiction
  |cons m mid=>
   rw[List.zipIdx_cons,AGZ];have:=ih (n+1) (q.setIfInBounds (off+n) p) (pre ++ [p]) mid y (by
    rw[Array.toList_setIfInBounds,h,<-v,AIH _ _<|ADt _,AHx,AEW]
    rfl) (by rw[AD1,AFS];lia) (by simpa using u)
   rw[this,AEW]
   rfl
section
variable{prog:Program}{w:World}{A:Around}{E:Value->Shared->Prop}{s:Shared}{κ:SortKind}{El:Keyed->Prop}
theorem ACp{st y:SortSt}{Q:PUnit->SortSt->Prop}(h:Q ⟨⟩ y):wpS (model prog w) A E s (set y:SM PUnit) Q st:=by unfold wpS;rw[StateT.run_set];exact wpAny_pure ⟨rfl,h⟩
theorem ACl(L:Fe prog w A E s κ El rk){i:Nat}{Q:Bool->SortSt->Prop}{st:SortSt}{F1 F2 U V:List Keyed}{p p2:Nat}(ea:(arrOf st).toList=F1++(U++(V++F2)))(uP:(pendingOf st)[i]? = some (F1.length,U.length,p))(Kl:(pendingOf st)[i+1]? = some (F1.length+U.length,V.length,p2)) (I:∀x∈U,El x) (b:∀x∈V,El x) (u0:U≠[]) (v0:V≠[]) (D:U.Pairwise<|Bt rk) (sv:V.Pairwise<|Bt rk) (ne:∀x∈U,∀y∈V,rk x≠rk y) (hs:kindOf st=κ) (hf:failedOf st=none) (h:∀W AL,W.Pairwise (Bt rk)->W.Perm (U++V)->(arrOf AL).toList=F1++(W++F2)->pendingOf AL=((pendingOf st).setIfInBounds i (F1.length,U.length+V.length,p)).eraseIdxIfInBounds (i+1)->kindOf AL=κ->failedOf AL=none->Q true AL):wpS (model prog w) A E s (Ra i) Q st:=by
 have u1:=AHT.mpr u0;have F:=AHT.mpr v0;have gU:∀t,t<U.length->(arrOf st)[F1.length+t]? = U[t]?:=λt Z=>by rw[<-AEK,ea,AED J,AEv,AEM Z]
 have gV:∀t,t<V.length->(arrOf st)[F1.length+U.length+t]? = V[t]?:=λt Z=>by rw[<-AEK,ea,AED J,AED J,show F1.length+U.length+t-F1.length-U.length=t by lia,AEM Z]
 have le:∀{l:List Keyed},l.Pairwise (Bt rk)->∀{t u:Nat}(P:u<l.length)(V3:t<=u),rk (l[t]' J)<=rk l[u]:=λ{l} sl {t u} P V3=>by
  rcases AHc V3 with c|rfl
  .exact AEg<|AER.mp sl t u J P c
  .exact ADt _
 unfold Ra;refine wpS_bind<|wpS_get ?_;rw[uP,Kl];dsimp only;refine wpS_bind<|ACp ?_;have e0:=gV 0 F;rw[ADp F]at e0;refine wpS_bind<|Cz e0 ?_;have Y:∀{l:List Keyed}{t:Nat}(h:t<l.length),kl rk l t=rk l[t]:=λh=>by unfold kl;rw[ADp h];rfl
 have H:∀{l:List Keyed},l.Pairwise (Bt rk)->∀t u,t<=u->u<l.length->kl rk l t<=kl rk l u:=λ{l} sl t u tu P=>by rw[Y P,Y<|AEz tu P];exact le sl P tu
 refine wpS_bind<|YE L (kl rk U) (H D) (λt tn=>⟨_,(gU t tn).trans<|ADp tn,I _<|AFP tn,(Y tn).symm,Y tn ▸ ne _ (AFP tn) _ (AFP F)⟩) (b _<|AFP F) u1 hs λn sp=>?_;obtain⟨n1,n2,n3⟩:=sp;dsimp only;have lo:∀x∈U.take n,∀y∈V,rk x<rk y:=λx S y T=>by obtain⟨t,Z,rfl⟩:=AE3 S;rw[AEq]at Z;have q:=n2 t J;rw[Y J]at q;rw[AGI];obtain⟨u,P,rfl⟩:=AE3 T;exact AEB q<|le sv P<|AEu u
 by_cases c:U.length-n=0
 .rw[ADr<|by simpa using c];refine wpS_pure (h (U++V) _ (AEE.mpr ⟨D,sv,λx S y T=>?_⟩) (AIB _) ?_ rfl hs hf)
  .exact lo x (by rw[AFv J];exact S) y T
  .rw[AEW];exact ea
 rw[ADs<|by simpa using c];have nl:n<U.length:=J
 have R:U.length-1<U.length:=J
 have wO:rk V[0]<rk U[n]:=by
  have q:=n3 n (ADt _) nl
  rwa [Y nl]at q
 have e1:(arrOf st)[F1.length+n+(U.length-n)-1]? = some U[U.length-1]:=by rw[show F1.length+n+(U.length-n)-1=F1.length+(U.length-1)by lia,gU _ R,ADp R]
 refine wpS_bind<|Cz e1 ?_;refine wpS_bind<|YE L (kl rk V) (H sv) (λt tn=>⟨_,(gV t tn).trans<|ADp tn,b _<|AFP tn,(Y tn).symm,Y tn ▸ (ne _ (AFP R) _<|AFP tn).symm⟩) (I _<|AFP R) J hs λm sp=>?_;obtain⟨m1,m2,m3⟩:=sp;dsimp only;have m0:m≠0:=λz=>by have q:=m3 0 J F;rw[Y F]at q;have:=le D R (J:n<=U.length-1);lia
 rw[ADs<|by simpa using m0];have B:((arrOf st).extract (F1.length+n)<|F1.length+U.length).toList=U.drop n:=by rw[AFZ,AFB,ea,<-AIE,AII,show F1.length+U.length-(F1.length+n)=U.length-n by lia,List.drop_append_of_le_length J];exact List.take_left'<|by rw[AFm]
 have G:((arrOf st).extract (F1.length+U.length)<|F1.length+U.length+m).toList=V.take m:=by rw[AFZ,AFB,ea,<-AIE,AII,AII,AEv,List.take_append_of_le_length m1]
 generalize (arrOf st).extract (F1.length+n) (F1.length+U.length)=x at B ⊢;generalize (arrOf st).extract (F1.length+U.length) (F1.length+U.length+m)=y at G ⊢;have xs:x.size=U.length-n:=by rw[<-AEo,B,AFm]
 have ys:y.size=m:=by rw[<-AEo,G,AEq];lia
 have y0:0<y.size:=J
 have ey:y[0]=V[0]:=by
  have:y.toList[0]? = some V[0]:=by rw[G,AHe,ADr J,ADp F]
  rw[AEK,AET y 0 y0]at this;exact AEU this
 have S:∀z∈x.toList,z∈U:=λz hz=>by rw[B]at hz;exact AFr hz
 have T:∀z∈y.toList,z∈V:=λz hz=>by rw[G]at hz;exact AF2 hz
 have bot:∀z∈x.toList,rk y[0]<rk z:=λz hz=>by rw[ey];rw[B]at hz;obtain⟨t,Z,rfl⟩:=AE3 hz;rw[AFm]at Z;rw[AGg];exact AEB wO<|le D J<|AGo _ _
 have top:∀z,x[x.size-1]? = some z->∀q∈y.toList,rk q<rk z:=λz hz q O=>by
  rw[<-AEK,B,xs,AHY,show n+(U.length-n-1)=U.length-1 by lia,ADp R]at hz;cases hz;rw[G]at O;obtain⟨t,Z,rfl⟩:=AE3 O;rw[AEq]at Z;have q:=m2 t J;rw[Y J]at q
  rwa [AGI]
 have hi:∀z∈U,∀q∈V.drop m,rk z<rk q:=λz hz q O=>by obtain⟨t,Z,rfl⟩:=AE3 O;rw[AFm]at Z;have q:=m3 (m+t) J J;rw[Y J]at q;rw[AGg];obtain⟨u,P,rfl⟩:=AE3 hz;exact AEz (le D R J) q
 have sx:x.toList.Pairwise<|Bt rk:=by rw[B];exact D.sublist<|AHf _ _
 have sy:y.toList.Pairwise<|Bt rk:=by rw[G];exact sv.sublist<|AGH _ _
 have fin:∀(o:Array Keyed)(v:SortSt),Sg (SortSt.mk' (kindOf st) (arrOf st) (((pendingOf st).setIfInBounds i (F1.length,U.length+V.length,p)).eraseIdxIfInBounds<|i+1) (gallopOf st)<|failedOf st) v->FC rk (x.toList++y.toList) o->Q true (setArr v<|o.toList.zipIdx.foldl (λa (p:Keyed×Nat)=>a.setIfInBounds (F1.length+n+p.2) p.1)<|arrOf v):=λo v g ok=>by
  rw[B,G]at ok;have hl:=ok.2.length_eq;refine h (U.take n++(o.toList++V.drop m)) _ ?_ ?_ ?_ g.2.2.1 (g.1.trans hs) (g.2.2.2.trans hf)
  .have H:∀z∈o.toList,z∈U.drop n\/z∈V.take m:=λz hz=>AD7.mp<|ok.2.mem_iff.mp hz;refine AEE.mpr ⟨D.sublist<|AGH _ _,AEE.mpr ⟨ok.1,sv.sublist<|AHf _ _,λz hz q O=>?_⟩,λz hz q O=>?_⟩
   .rcases H z hz with k|k
    .exact hi z (AFr k) q O
    .have:=sv;rw[<-AEc m V]at this;exact(AEE.mp this).2.2 z k q O
   .rcases AD7.mp O with k|k
    .rcases H q k with k|k
     .have:=D;rw[<-AEc n U]at this;exact(AEE.mp this).2.2 z hz q k
     .exact lo z hz q<|AF2 k
    .exact lo z hz q<|AFr k
  .refine((AHO _<|ok.2.append_right _)).trans ?_;rw[AEW,AEc,<-AEW,AEc]
  .show(o.toList.zipIdx.foldl (λa (p:Keyed×Nat)=>a.setIfInBounds (F1.length+n+p.2) p.1)<|arrOf v).toList=_;have e:=ACr (off:=F1.length+n) o.toList 0 (arrOf v) (F1++U.take n) (U.drop n++V.take m) (V.drop m++F2) (by rw[show arrOf v=arrOf st from g.2.1,ea];simp only[AEW];rw[<-AEW<|U.take n,AEc,<-AEW<|V.take m,AEc]) (by rw[AD1,AEq];lia) hl.symm
   rw[e];simp only[AEW]
 have C:MC El rk x y:=⟨λz hz=>I z<|S z hz,λz hz=>b z<|T z hz,J,y0,sx,sy,bot,top,λz hz q O=>ne _ (S z hz) _<|T q O⟩;by_cases cl:U.length-n<=m
 case' pos=>
  rw[ADr cl];refine wpS_bind<|ACo L C hs λo v g ok=>?_
 case' neg=>
  rw[ADs cl];refine wpS_bind<|ACn L C hs λo v g ok=>?_
 all_goals
  refine wpS_bind<|wpS_modify<|wpS_bind<|wpS_get<|wpS_pure ?_;have q:=fin o v g ok;have f:failedOf v=none:=g.2.2.2.trans hf;show Q (failedOf v).isNone _;rw[f];exact q
end
end Bh
namespace Bh
open PySem PyProof.Rows
variable{rk:Keyed->Nat}
noncomputable def ZN:Nat->Nat->SM (Option Nat):=sortPriv% PySem.Builtin.countRun
noncomputable def Y0:Nat->Nat->Nat->SM Bool:=sortPriv% PySem.Builtin.binarySort
noncomputable def ka(rk:Keyed->Nat)(a:Array Keyed)(i:Nat):Nat:=(a[i]?).elim 0 rk
theorem fZ{a b:Array Keyed}{i j:Nat}(e:a[i]? = b[j]?):ka rk a i=ka rk b j:=by unfold ka;rw[e]
def EB(rk:Keyed->Nat)(a:Array Keyed)(lo m:Nat):Prop:=∀i j,lo<=i->i<j->j<lo+m->ka rk a i<ka rk a j
structure Gd(El:Keyed->Prop)(rk:Keyed->Nat)(a:Array Keyed):Prop where
 el:∀x∈a.toList,El x
 nd:a.toList.Pairwise λx y=>rk x≠rk y
structure Bs(lo:Nat)(st AL:SortSt):Prop where
 k:kindOf AL=kindOf st
 p:pendingOf AL=pendingOf st
 f:failedOf AL=failedOf st
 a:(arrOf AL).Perm<|arrOf st
 l:∀t,t<lo->(arrOf AL)[t]? = (arrOf st)[t]?
theorem Bs.refl(lo:Nat)(st:SortSt):Bs lo st st:=⟨rfl,rfl,rfl,Array.Perm.refl _,λ_ _=>rfl⟩
theorem Bs.trans{lo:Nat}{a b c:SortSt}(h:Bs lo a b)(k:Bs lo b c):Bs lo a c:=⟨k.k.trans h.k,k.p.trans h.p,k.f.trans h.f,k.a.trans h.a,λt y=>(k.l t y).trans<|h.l t y⟩
section
variable{prog:Program}{w:World}{A:Around}{E:Value->Shared->Prop}{s:Shared}{κ:SortKind}{El:Keyed->Prop}
theorem Gd.perm{a b:Array Keyed}(G:Gd El rk a)(h:b.Perm a):Gd El rk b:=by have h:=AFJ.mp h;exact⟨λx m=>G.el x<|h.mem_iff.mp m,h.symm.pairwise G.nd λ{x y} e c=>e c.symm⟩
theorem Gd.ne{a:Array Keyed}(G:Gd El rk a){i j:Nat}(hi:i<a.size)(y:j<a.size)(e:i≠j):ka rk a i≠ka rk a j:=by
 unfold ka;rw[AET a i hi,AET a j y];have P:=AER.mp G.nd;rcases Nat.lt_or_gt_of_ne e with c|c
 .have:=P i j (by simpa using hi) (by simpa using y) c;rw[AF1,AF1]at this;exact this
 .have:=P j i (by simpa using y) (by simpa using hi) c;rw[AF1,AF1]at this;exact this.symm
theorem wp_at(L:Fe prog w A E s κ El rk){st:SortSt}{i j:Nat}{Q:Option Bool->SortSt->Prop}(G:Gd El rk<|arrOf st)(hs:kindOf st=κ)(hi:i<(arrOf st).size)(v:j<(arrOf st).size)(h:Q (some<|decide (ka rk (arrOf st) i<ka rk (arrOf st) j)) st):wpS (model prog w) A E s (ltAt' i j) Q st:=by rw[ltAt'_eq];have y:=AET (arrOf st) i hi;have q:=AET (arrOf st) j v;unfold ka at h;rw[y,q]at h;exact wpS_bind<|wpS_get<|wpS_bind<|Cz y<|wpS_bind<|Cz q<|L _ _ _ _ (G.el _<|Fh y) (G.el _<|Fh q) hs h
theorem EB.step{a:Array Keyed}{lo x:Nat}(h:EB rk a lo x)(h1:1<=x)(c:ka rk a (lo+x-1)<ka rk a (lo+x)):EB rk a lo<|x+1:=λi j hi y hj=>by
 by_cases d:j<lo+x
 .exact h i j hi y d
 .have e:j=lo+x:=J
  subst e;by_cases d:i=lo+x-1
  .rw[d];exact c
  .exact AGB (h i (lo+x-1) hi J J) c
theorem ACk(L:Fe prog w A E s κ El rk){st:SortSt}{lo Z:Nat}{Q:Option Nat->SortSt->Prop}(G:Gd El rk<|arrOf st)(hs:kindOf st=κ)(T:1<=Z)(hn:lo+Z<=(arrOf st).size) (h:∀m AL,1<=m->m<=Z->Bs lo st AL->EB rk (arrOf AL) lo m->Q (some m) AL):wpS (model prog w) A E s (ZN lo Z) Q st:=by
 have ne:∀{a:Array Keyed},Gd El rk a->a.size=(arrOf st).size->∀{x},1<=x->x<Z->¬ ka rk a (lo+x)<ka rk a (lo+x-1)->ka rk a (lo+x-1)<ka rk a (lo+x):=λ{a} G e {x} y b c=>by have:=G.ne (J:lo+x<a.size) (J:lo+x-1<a.size) J;lia
 have D:∀{x},x<Z->lo+x<(arrOf st).size:=λa=>J
 have F:∀{x},x<Z->lo+x-1<(arrOf st).size:=λa=>J
 unfold ZN;refine wpS_bind (wpS_mono (wpS_forRange (I:=λx c AL=>AL=st/\c=(none,x)/\EB rk (arrOf st) lo x)
  (Q:=λc AL=>AL=st/\∃n,c=(none,n)/\1<=n/\n<=Z/\EB rk (arrOf st) lo n/\(n=Z\/ka rk (arrOf st) (lo+n)<ka rk (arrOf st) (lo+n-1))) ?_ ?_ ⟨rfl,rfl,λi j _ _ _=>J⟩) ?_)
 .rintro x c AL O Y ⟨rfl,rfl,u⟩;refine wpS_bind<|wp_at L G hs (D Y) (F Y) ?_;exact Mp (λd=>wpS_pure ⟨rfl,x,rfl,O,AEg Y,u,.inr d⟩) λd=>wpS_pure ⟨rfl,rfl,u.step O<|ne G rfl O Y d⟩
 .rintro c AL ⟨rfl,rfl,u⟩;rw[AHy T]at u ⊢;exact⟨rfl,Z,rfl,T,ADt _,u,.inl rfl⟩
 .rintro c AL ⟨rfl,n,rfl,R,S,u,Vt⟩;dsimp -zeta only;refine DW (λc1=>wpS_pure<|h n _ R S (Bs.refl _ _) u) λc1=>?_;refine EA (λc2=>?_) λc2=>?_
  .refine wpS_bind<|wp_at L G hs J J ?_;rw[AEs<|u lo (lo+n-1) (ADt _) J J];exact wpS_pure<|h n _ R S (Bs.refl _ _) u
  have e1:n=1:=J
  subst e1;refine wpS_bind<|wpS_lift<|wpAny_rule ⟨rfl,?_⟩;refine wpS_bind (wpS_mono (wpS_forRange (I:=λx c v=>v=AL/\c=(none,x,0)/\∀i j,lo<=i->i<j->j<lo+x->ka rk (arrOf AL) j<ka rk (arrOf AL) i)
   (Q:=λc v=>v=AL/\∃m,c=(none,m,0)/\2<=m/\m<=Z/\∀i j,lo<=i->i<j->j<lo+m->ka rk (arrOf AL) j<ka rk (arrOf AL) i) ?_ ?_ ⟨rfl,rfl,λi j a b c=>?_⟩) ?_)
  .rintro x c v O Y ⟨rfl,rfl,hd⟩;refine wpS_bind<|wp_at L G hs (D Y) (F Y) ?_;refine Mp (λd=>?_) λd=>?_
   .dsimp only;rw[ADs<|AF7 _];refine wpS_pure ⟨rfl,rfl,λi j a b c=>?_⟩;by_cases z:j<lo+x
    .exact hd i j a b z
    .have e:j=lo+x:=J
     subst e;by_cases z:i=lo+x-1
     .rw[z];exact d
     .exact AGB d<|hd i (lo+x-1) a J J
   .refine wpS_bind<|wp_at L G hs (F Y) (D Y) ?_;rw[AEs<|ne G rfl (AEg O) Y d];exact wpS_pure ⟨rfl,x,rfl,O,AEg Y,hd⟩
  .rintro c v ⟨rfl,rfl,hd⟩;rw[show max (1+1) Z=Z by lia]at hd ⊢;exact⟨rfl,Z,rfl,J,ADt _,hd⟩
  .have e:i=lo:=J
   have e':j=lo+1:=J
   subst e e';exact Vt.resolve_left c1
  .rintro c v ⟨rfl,m,rfl,m1,m2,hd⟩;dsimp only;rw[ADs<|AF7 _];refine wpS_bind<|wpS_modify ?_;have C:=λt=>getElem?_mirror_all (xs:=arrOf v) (i:=lo) (j:=lo+m) J t;have B:Bs lo v<|setArr v<|mirror (arrOf v) lo (lo+m)<|(lo+m-lo) / 2:=⟨rfl,rfl,rfl,mirror_perm ..,λt ht=>(C t).trans<|ADs λc=>Nat.not_lt_of_le c.1 ht⟩;have q:EB rk (arrOf<|setArr v<|mirror (arrOf v) lo (lo+m)<|(lo+m-lo) / 2) lo m:=λi j a b c=>by have e:∀t,lo<=t->t<lo+m->ka rk (mirror (arrOf v) lo (lo+m)<|(lo+m-lo) / 2) t=ka rk (arrOf v) (lo+(lo+m)-1-t):=λt t1 t2=>fZ<|(C t).trans<|ADr ⟨t1,t2⟩;show ka rk (mirror _ _ _ _) i<ka rk (mirror _ _ _ _) j;rw[e i a<|AGB b c,e j (AEF a<|AEg b) c];exact hd _ _ J J J
   show wpS _ _ _ _ _ _ (setArr v<|mirror (arrOf v) lo (lo+m)<|(lo+m-lo) / 2);have H:=G.perm B.a;have sz:=B.a.size_eq;have IW:kindOf (setArr v<|mirror (arrOf v) lo (lo+m)<|(lo+m-lo) / 2)=κ:=hs;clear C;generalize setArr v (mirror (arrOf v) lo (lo+m)<|(lo+m-lo) / 2)=BQ at B q H sz IW ⊢;refine wpS_bind (wpS_mono (wpS_forRange (I:=λx c P=>P=BQ/\c=(none,x)/\EB rk (arrOf BQ) lo x)
    (Q:=λc P=>P=BQ/\∃n,c=(none,n)/\1<=n/\n<=Z/\EB rk (arrOf BQ) lo n) ?_ ?_ ⟨rfl,rfl,q⟩) ?_)
   .rintro x c P O Y ⟨rfl,rfl,u⟩;have U:1<=x:=AEF (AEg m1) O;refine wpS_bind<|wp_at L H IW (sz ▸ D Y) (sz ▸ F Y) ?_;exact Mp (λd=>wpS_pure ⟨rfl,x,rfl,U,AEg Y,u⟩) λd=>wpS_pure ⟨rfl,rfl,u.step U<|ne H sz U Y d⟩
   .rintro c P ⟨rfl,rfl,u⟩;rw[AHy m2]at u ⊢;exact⟨rfl,Z,rfl,T,ADt _,u⟩
   .rintro c P ⟨rfl,n,rfl,R,S,u⟩;exact wpS_pure<|h n _ R S B u
def kf(rk:Keyed->Nat)(a:Array Keyed)(lo i:Nat):Nat:=ka rk a<|lo+i
noncomputable def mv(l k t:Nat):Nat:=if t=l then k else if l<t/\t<=k then t-1 else t
theorem mid{l r:Nat}(a:l<=r)(h:¬ l>=r):l<=(l+r) / 2/\(l+r) / 2<r:=⟨J,J⟩
theorem Rk{l k t:Nat}(h:t≠l)(y:t<=k):t<l/\mv l k t=t\/l<t/\mv l k t=t-1:=by
 unfold mv;rw[ADs h];by_cases c:l<t
 .exact .inr ⟨c,ADr ⟨c,y⟩⟩
 .exact .inl ⟨J,ADs λz=>c z.1⟩
theorem wq{lo l t m:Nat}(a:lo<=t)(h:t<lo+l/\m=t\/lo+l<t/\m=t-1):lo<=m:=J
theorem wt{l k t m:Nat}(a:l<=k/\t<=k)(h:t<l/\m=t\/l<t/\m=t-1):m<k:=J
theorem wu{l i j m n:Nat}(a:i<j)(h:i<l/\m=i\/l<i/\m=i-1)(k:j<l/\n=j\/l<j/\n=j-1):m<n:=J
theorem ACj(L:Fe prog w A E s κ El rk){st:SortSt}{lo n ok:Nat}{Q:Bool->SortSt->Prop}(G:Gd El rk<|arrOf st)(hs:kindOf st=κ)(S:1<=ok)(AX:ok<=n)(hn:lo+n<=(arrOf st).size)(U:EB rk (arrOf st) lo ok) (h:∀AL,Bs lo st AL->EB rk (arrOf AL) lo n->Q true AL):wpS (model prog w) A E s (Y0 lo n ok) Q st:=by
 unfold Y0;refine wpS_bind<|wpS_mono (wpS_forRange (I:=λk c AL=>c=(none,())/\Bs lo st AL/\EB rk (arrOf AL) lo k) (Q:=λc AL=>c=(none,())/\Bs lo st AL/\EB rk (arrOf AL) lo n) ?_ ?_ ⟨rfl,Bs.refl _ _,by rw[Nat.max_eq_left S];exact U⟩) ?_
 .rintro k c AL dq Je ⟨rfl,B,q⟩;have G':=G.perm B.a;have sz:=B.a.size_eq;have IV:=B.k.trans hs;have mono:∀{i j},i<=j->j<k->ka rk (arrOf AL) (lo+i)<=ka rk (arrOf AL) (lo+j):=λ{i j} a b=>by
   rcases AHc a with c|rfl
   .exact AEg<|q _ _ (AGo _ _) (AIS c _)<|AIS b _
   .exact ADt _
  have Z:∀{x},x<=k->lo+x<(arrOf AL).size:=λa=>J
  refine wpS_bind (wpS_mono (wpS_forRange (I:=λx c y=>y=AL/\∃l r,c=(none,l,r)/\l<=r/\r+x<=k+l/\Sp (kf rk (arrOf AL) lo) (ka rk (arrOf AL)<|lo+k) k l r)
   (Q:=λc y=>y=AL/\∃l,c=(none,l,l)/\Sp (kf rk (arrOf AL) lo) (ka rk (arrOf AL)<|lo+k) k l l) ?_ ?_ ⟨rfl,0,k,rfl,AEu _,ADt _,ADt _,λi hi=>absurd hi (Nat.not_lt_zero i),λi a b=>absurd b (Nat.not_lt_of_le a)⟩) ?_)
  .rintro x c y _ hx ⟨rfl,l,r,rfl,D,hm,Y,v,u⟩;refine EA (λd=>?_) λd=>?_
   .have e:l=r:=Nat.le_antisymm D d;subst e;exact wpS_pure ⟨rfl,l,rfl,Y,v,u⟩
   .obtain⟨T,e0⟩:=mid D d;have O:=AEB e0 Y;refine wpS_bind<|wp_at L G' IV (Z<|ADt _) (Z<|AEg O) ?_;refine Mp (λe=>?_) λe=>?_
    .exact wpS_pure ⟨rfl,l,_,rfl,T,gx e0 hm,AEg O,v,λi a b=>AEB e<|mono a b⟩
    .have:=G'.ne (Z<|ADt _) (Z<|AEg O) J;exact wpS_pure ⟨rfl,_,r,rfl,e0,gz T hm,Y,λi a=>AEz (mono (AGh a) O) J,u⟩
  .rintro c y ⟨rfl,l,r,rfl,D,hm,Y,v,u⟩;have e:l=r:=J
   subst e;exact⟨rfl,l,rfl,Y,v,u⟩
  .rintro c y ⟨rfl,l,rfl,hl,v,u⟩;dsimp only;refine wpS_bind<|wpS_modify<|wpS_pure ?_;have F:=λt=>getElem?_bubble (xs:=arrOf y) (src:=lo+k) (Z<|ADt _) (lo+k-(lo+l)) (AHB _ _) t;rw[show lo+k-(lo+k-(lo+l))=lo+l by lia]at F;have g:∀t,ka rk (bubble (arrOf y) (lo+k)<|lo+k-(lo+l)) t=ka rk (arrOf y) (mv (lo+l) (lo+k) t):=λt=>fZ (by
    rw[F];unfold mv;split
    .rfl
    .split<;>rfl)
   refine⟨rfl,B.trans ⟨rfl,rfl,rfl,bubble_perm ..,λt ht=>(F t).trans ?_⟩,λi j a b c=>?_⟩
   .rw[ADs J,ADs J]
   .show ka rk (bubble (arrOf y) (lo+k)<|lo+k-(lo+l)) i<ka rk (bubble (arrOf y) (lo+k)<|lo+k-(lo+l)) j;rw[g,g];by_cases R:i=lo+l
    .rcases Rk (k:=lo+k) (J:j≠lo+l) (AGh c)with⟨P,_⟩|⟨_,e⟩
     .lia
     have:=u (j-1-lo) J J;unfold kf at this;rw[show lo+(j-1-lo)=j-1 by lia]at this
     rwa [e,show mv (lo+l) (lo+k) i=lo+k from ADr R]
    .by_cases C:j=lo+l
     .rcases Rk (k:=lo+k) R J with⟨_,e⟩|⟨P,_⟩
      .have:=v (i-lo) J;unfold kf at this;rw[show lo+(i-lo)=i by lia]at this
       rwa [e,show mv (lo+l) (lo+k) j=lo+k from ADr C]
      .lia
     .have P:=Rk (k:=lo+k) R<|AGh<|AGB b c;have H:=Rk (k:=lo+k) C<|AGh c;exact q _ _ (wq a P) (wu b P H)<|wt J H
 .rintro c AL ⟨rfl,B,q⟩;rw[Nat.max_eq_left S,AHy AX]at q;exact⟨rfl,B,q⟩
 .rintro c AL ⟨rfl,B,q⟩;exact wpS_pure<|h AL B q
end
end Bh
namespace Bh
open PySem PyProof.Rows
variable{rk:Keyed->Nat}
noncomputable def tp:Nat->List (List Keyed×Nat)->List (Nat×Nat×Nat)
 |_,[]=>[]
 |s,r::R=>(s,r.1.length,r.2)::tp (s+r.1.length) R
noncomputable def fl(R:List<|List Keyed×Nat):List Keyed:=(R.map (·.1)).flatten
theorem Lr(R S:List<|List Keyed×Nat):fl (R++S)=fl R++fl S:=by unfold fl;rw[AEl,List.flatten_append]
theorem KQ(r:List Keyed×Nat)(R:List<|List Keyed×Nat):fl (r::R)=r.1++fl R:=rfl
theorem LN:∀(s:Nat)(R S:List<|List Keyed×Nat),tp s (R++S)=tp s R++tp (s+(fl R).length) S
 |s,[],S=>rfl
 |s,r::R,S=>by
  show(s,r.1.length,r.2)::tp (s+r.1.length) (R++S)=_;rw[LN (s+r.1.length) R S,KQ,AD1,AIQ]
  rfl
theorem Sy:∀(s:Nat)(R:List<|List Keyed×Nat),(tp s R).length=R.length
 |_,[]=>rfl
 |s,r::R=>by
  show(tp (s+r.1.length) R).length+1=_;rw[Sy]
  rfl
structure RS(κ:SortKind)(rk:Keyed->Nat)(BC:List Keyed)(R:List (List Keyed×Nat))(rest:List Keyed)(st:SortSt):Prop where
 a:(arrOf st).toList=fl R++rest
 s:∀r∈R,r.1≠[]/\r.1.Pairwise (Bt rk)
 p:pendingOf st=(tp 0 R).toArray
 k:kindOf st=κ
 f:failedOf st=none
 m:(arrOf st).toList.Perm BC
section
variable{prog:Program}{w:World}{A:Around}{E:Value->Shared->Prop}{s:Shared}{κ:SortKind}{El:Keyed->Prop}{BC:List Keyed}
theorem ye{y q:List (Nat×Nat×Nat)}{u v c:Nat×Nat×Nat}{i:Nat}(h:i=y.length):((y++u::v::q).toArray.setIfInBounds i c).eraseIdxIfInBounds (i+1)=(y++c::q).toArray:=by
 subst h;apply AHM.mp;rw[List.setIfInBounds_toArray,List.eraseIdxIfInBounds_toArray,AIH _ _<|ADt _,AHx,AFp,List.eraseIdx_append_of_length_le J,AEv]
 rfl
theorem ACm(L:Fe prog w A E s κ El rk)(el:∀x∈BC,El x)(nd:BC.Pairwise λx y=>rk x≠rk y){i:Nat}{Q:Bool->SortSt->Prop}{st:SortSt}{q R2:List (List Keyed×Nat)}{u v:List Keyed×Nat}{rest:List Keyed}(hR:RS κ rk BC (q++u::v::R2) rest st)(hi:i=q.length)
 (h:∀W AL,RS κ rk BC (q++(W,u.2)::R2) rest AL->(fl (q++(W,u.2)::R2)).length=(fl (q++u::v::R2)).length->Q true AL):wpS (model prog w) A E s (Ra i) Q st:=by
 obtain⟨U,p⟩:=u;obtain⟨V,p2⟩:=v;have ea:=hR.a;rw[Lr,KQ,KQ]at ea;simp only[AEW]at ea;have Y:=hR.p;rw[LN,AFD]at Y;have S:(tp (fl q).length ((U,p)::(V,p2)::R2))=((fl q).length,U.length,p)::((fl q).length+U.length,V.length,p2)::tp ((fl q).length+U.length+V.length) R2:=rfl;rw[S]at Y;have D:=Sy 0 q;have P:=hR.s (U,p) ADk;have F:=hR.s (V,p2) ADk;have mem:∀x,x∈U\/x∈V->x∈BC:=λx Z=>hR.m.mem_iff.mp (by rw[ea];simp only[AD7];rcases Z with z|z<;>simp[z]);refine ACl L (F1:=fl q) (F2:=fl R2++rest) (U:=U) (V:=V) (p:=p) (p2:=p2) ea ?_ ?_ (λx Z=>el x<|mem x<|.inl Z) (λx Z=>el x<|mem x<|.inr Z) P.1 F.1 P.2 F.2 ?_ hR.k hR.f λW AL T R B C H I=>?_
 .rw[Y,AHP,AED J,D,hi,AHx]
  rfl
 .rw[Y,AHP,AED J,D,hi,AEv]
  rfl
 .have:=hR.m.symm.pairwise nd λ{x y} e c=>e c.symm;rw[ea]at this;have:=(AEE.mp (AEE.mp this).2.1).2.2;exact λx Z y n=>this x Z y<|AEp _ n
 .have O:=R.length_eq;rw[AD1]at O;have G:fl (q++(W,p)::R2)=fl q++(W++fl R2):=by rw[Lr,KQ]
  refine h W AL ⟨?_,λr t=>?_,?_,H,I,?_⟩ ?_
  .rw[G,B];simp only[AEW]
  .rcases AD7.mp t with z|z
   .exact hR.s r<|AEp _ z
   .rcases AEN.mp z with rfl|z
    .exact⟨λc=>P.1 (by have c:W=[]:=c;rw[c]at O;exact AFA (by simp at O;lia)),T⟩
    .exact hR.s r<|by simp[z]
  .rw[C,Y,ye J,LN,AFD]
   congr 2
   show _=((fl q).length,W.length,p)::tp ((fl q).length+W.length) R2;rw[O,AIQ]
  .refine List.Perm.trans ?_ hR.m;rw[B,ea,<-AEW U];exact AHO _<|R.append_right _
  .rw[G,Lr,KQ,KQ];simp only[AD1];lia
end
end Bh
namespace Bh
open PySem PyProof.Rows
variable{rk:Keyed->Nat}
noncomputable def kB:SM Unit:=sortPriv% PySem.Builtin.sortRuns
section
variable{prog:Program}{w:World}{A:Around}{E:Value->Shared->Prop}{s:Shared}{κ:SortKind}{El:Keyed->Prop}{BC:List Keyed}
theorem Bs.rest{lo:Nat}{st AL:SortSt}(B:Bs lo st AL){F T:List Keyed}(e:(arrOf st).toList=F++T)(hl:F.length=lo):∃y,(arrOf AL).toList=F++y/\y.Perm T:=by
 have pm:=AFJ.mp B.a;have sz:=pm.length_eq;have:(arrOf AL).toList.take lo=F:=by
  refine List.ext_getElem? λt=>?_;rw[AHe];by_cases c:t<lo
  .rw[ADr c,AEK,B.l t c,<-AEK,e,AEM J]
  .rw[ADs c,AH9 J]
 refine⟨(arrOf AL).toList.drop lo,?_,?_⟩
 .conv=>lhs;rw[<-AEc lo (arrOf AL).toList,this]
 .rw[<-AEc lo (arrOf AL).toList,this,e]at pm;exact(List.perm_append_left_iff F).mp pm
theorem EB.list{a:Array Keyed}{F T:List Keyed}{lo m:Nat}(q:EB rk a lo m)(v:lo=F.length)(e:a.toList=F++T)(hm:m<=T.length):(T.take m).Pairwise<|Bt rk:=by
 subst v;refine AER.mpr λi j hi u BM=>?_;rw[AEq]at hi u;have g:∀t,t<m->∀(y:t<T.length),ka rk a (F.length+t)=rk T[t]:=λt _ y=>by
  unfold ka;rw[<-AEK,e,AED J,AEv,ADp y]
  rfl
 rw[AGI,AGI];have:=q (F.length+i) (F.length+j) J J J
 rwa [g i J J,g j J J]at this
theorem RS.push{R:List (List Keyed×Nat)}{T:List Keyed}{st:SortSt}(h:RS κ rk BC R T st){n:Nat}(n1:1<=n)(n2:n<=T.length)(q:(T.take n).Pairwise<|Bt rk):RS κ rk BC (R ++ [(T.take n,0)]) (T.drop n) (setPending st<|(pendingOf st).push ((fl R).length,n,0))/\(fl<|R ++ [(T.take n,0)]).length=(fl R).length+n:=by
 have e:fl (R ++ [(T.take n,0)])=fl R++T.take n:=by rw[Lr];congr 1;exact AE1 _
 have ln:(T.take n).length=n:=by rw[AEq];lia
 refine⟨⟨?_,λr y=>?_,?_,h.k,h.f,h.m⟩,by rw[e,AD1,ln]⟩
 .rw[e,AEW,AEc];exact h.a
 .rcases AD7.mp y with z|z
  .exact h.s r z
  .rw[ADv.mp z];exact⟨λc=>by have c:T.take n=[]:=c;rw[c]at ln;simp at ln;lia,q⟩
 .show(pendingOf st).push _=_;rw[h.p,LN,AFD,List.push_toArray];show _=(tp 0 R ++ [((fl R).length,(T.take n).length,0)]).toArray;rw[ln]
theorem wj{α:Type}(f:α->α)(x:α)(A:List α):(A ++ [x]).modify A.length f=A ++ [f x]:=by
 induction A with
 |nil=>rfl
 |cons a A ih=>rw[AFR,AD5,List.modify_succ_cons,ih];rfl
theorem RS.last{R:List (List Keyed×Nat)}{l:List Keyed}{p:Nat}{T:List Keyed}{st:SortSt}(h:RS κ rk BC (R ++ [(l,p)]) T st)(pw:Nat):RS κ rk BC (R ++ [(l,pw)]) T (setPending st<|(pendingOf st).modify ((pendingOf st).size-1) λx=>(x.1,x.2.1,pw))/\(fl<|R ++ [(l,pw)]).length=(fl<|R ++ [(l,p)]).length:=by
 have e:fl (R ++ [(l,pw)])=fl (R ++ [(l,p)]):=by rw[Lr,Lr];rfl
 refine⟨⟨by rw[e];exact h.a,λr y=>?_,?_,h.k,h.f,h.m⟩,by rw[e]⟩
 .rcases AD7.mp y with z|z
  .exact h.s r<|AEp _ z
  .rw[ADv.mp z];exact h.s (l,p) ADk
 .show(pendingOf st).modify ((pendingOf st).size-1) (λx=>(x.1,x.2.1,pw))=_;apply AHM.mp;rw[h.p,LN,LN,Array.toList_modify];show List.modify (tp 0 R ++ [(0+(fl R).length,l.length,p)]) ((tp 0 R ++ [(0+(fl R).length,l.length,p)]).toArray.size-1) _=tp 0 R ++ [(0+(fl R).length,l.length,pw)];rw[AD3,AD1,AFS,Nat.add_sub_cancel,wj]
theorem lU(L:Fe prog w A E s κ El rk)(el:∀x∈BC,El x)(nd:BC.Pairwise λx y=>rk x≠rk y){i:Nat}{Q:Bool->SortSt->Prop}{st:SortSt}{R:List (List Keyed×Nat)}{rest:List Keyed}(hR:RS κ rk BC R rest st)(hi:i+1<R.length)
 (h:∀q AL,RS κ rk BC q rest AL->q.length+1=R.length->(fl q).length=(fl R).length->Q true AL):wpS (model prog w) A E s (Ra i) Q st:=by
 have e:R=R.take i++R[i]::R[i+1]::R.drop (i+1+1):=by rw[<-AEx hi,<-AEx (J:i<R.length),AEc]
 have ln:(R.take i).length=i:=by rw[AEq];lia
 generalize R.take i=R1 at e ln;generalize R[i]=u at e;generalize R[i+1]=v at e;generalize R.drop (i+1+1)=R2 at e;subst e;refine ACm L el nd hR ln.symm λW AL Z Y=>h _ _ Z (by simp;lia) Y
theorem RS.len{R:List (List Keyed×Nat)}{T:List Keyed}{st:SortSt}(h:RS κ rk BC R T st):R.length<=(fl R).length:=by
 have s:=h.s;clear h
 induction R with
 |nil=>exact ADt _
 |cons r R ih=>
  rw[KQ,AD1,AD5];have:=ih λr y=>s r<|AD4 _ y;have:=AHT.mpr (s r AD6).1;lia
theorem RS.back{R:List (List Keyed×Nat)}{T:List Keyed}{st:SortSt}(h:RS κ rk BC R T st):(pendingOf st).back? = none\/R≠[]/\∃s1 q p,(pendingOf st).back? = some (s1,q,p):=by
 rcases AFj R with rfl|⟨y,⟨l,p⟩,rfl⟩
 .exact .inl (by rw[h.p];rfl)
 .refine .inr ⟨ADk,(fl y).length,l.length,p,?_⟩;rw[h.p,AFk,LN,AFD];show((tp 0 y ++ [((fl y).length,l.length,p)]).toArray).back? = _;simp
theorem RS.lst{R:List (List Keyed×Nat)}{T:List Keyed}{st:SortSt}(h:RS κ rk BC R T st)(q:R≠[])(pw:Nat):∃y,RS κ rk BC y T (setPending st<|(pendingOf st).modify ((pendingOf st).size-1) λx=>(x.1,x.2.1,pw))/\(fl y).length=(fl R).length:=by
 rcases AFj R with rfl|⟨R1,⟨l,p⟩,rfl⟩
 .exact absurd rfl q
 .rw[AFk]at *
  exact⟨_,h.last pw⟩
theorem vR{α γ:Type}{G:SM γ}{F:PUnit->α->SM γ}{Q:γ->SortSt->Prop}{st:SortSt}(P:α->SortSt->Prop)(h:∀n AL,P n AL->wpS (model prog w) A E s (F ⟨⟩ n) Q AL)(g:(∀n AL,P n AL->wpS (model prog w) A E s (F ⟨⟩ n) Q AL)->wpS (model prog w) A E s G Q st):wpS (model prog w) A E s G Q st:=g h
theorem vS{γ:Type}{G:SM γ}{F:PUnit->SM γ}{Q:γ->SortSt->Prop}{st:SortSt}(P:SortSt->Prop)(h:∀AL,P AL->wpS (model prog w) A E s (F ⟨⟩) Q AL)(g:(∀AL,P AL->wpS (model prog w) A E s (F ⟨⟩) Q AL)->wpS (model prog w) A E s G Q st):wpS (model prog w) A E s G Q st:=g h
theorem ite_le{c:Prop}[Decidable c]{n:Nat}:(if c then n-1 else n)<=n:=by
 split
 .exact AHB _ _
 .exact ADt _
theorem ACq(L:Fe prog w A E s κ El rk)(el:∀x∈BC,El x)(nd:BC.Pairwise λx y=>rk x≠rk y){st:SortSt}{Q:Unit->SortSt->Prop}(hR:RS κ rk BC [] BC st)
 (h:∀AL,(arrOf AL).toList.Perm BC->(arrOf AL).toList.Pairwise (Bt rk)->failedOf AL=none->Q () AL):wpS (model prog w) A E s kB Q st:=by
 have sz:∀{R rest AL},RS κ rk BC R rest AL->(arrOf AL).size=BC.length/\(fl R).length+rest.length=BC.length:=λhR=>by have:=hR.m.length_eq;rw[AEo]at this;have e:=AFX List.length hR.a;rw[AEo,AD1]at e;exact⟨this,J⟩
 unfold kB;refine wpS_bind<|wpS_get ?_;rw[(sz hR).1];dsimp -zeta only;refine wpS_bind (wpS_mono (wpS_forRange (I:=λx c AL=>c.1=none/\∃R rest,c.2=(fl R).length/\RS κ rk BC R rest AL/\x<=(fl R).length)
  (Q:=λc AL=>c.1=none/\∃R,RS κ rk BC R [] AL) ?_ ?_ ⟨rfl,[],BC,rfl,hR,ADt _⟩) ?_)
 .intro x c Dx _ hx I1;obtain⟨R,rest,e0,u,h2⟩:=I1.2
  extract_lets -underBinder lo
  replace e0:lo=(fl R).length:=e0
  have z1:=sz u
  clear_value lo
  refine EA (λc1=>?_) λc1=>?_
  .exact wpS_pure ⟨rfl,R,by rwa [AFA (J:rest.length=0)]at u⟩
  have G:Gd El rk<|arrOf Dx:=⟨λx hx=>el x<|u.m.mem_iff.mp hx,u.m.symm.pairwise nd λ{x y} e c=>e c.symm⟩;refine wpS_bind<|ACk L G u.k J J λm BQ m1 m2 B q=>?_;obtain⟨T,eT,pT⟩:=B.rest u.a e0.symm;have h3:RS κ rk BC R T BQ:=⟨eT,u.s,B.p.trans u.p,B.k.trans u.k,B.f.trans u.f,(AFJ.mp B.a).trans u.m⟩;have z2:=sz h3;dsimp -zeta only
  extract_lets -underBinder n0 jp
  refine vR (F:=jp) (λn H=>∃T,RS κ rk BC R T H/\1<=n/\n<=T.length/\(T.take n).Pairwise (Bt rk)) ?_ λADh=>?_
  .clear z2 h3 pT eT T q B m2 m1 G u z1 n0;rintro n H ⟨P,D,n3,n4,s4⟩;refine wpS_bind (wpS_get ?_)
   extract_lets -underBinder fN
   refine vS (F:=fN) (λY=>∃v,RS κ rk BC v P Y/\(fl v).length=(fl R).length) ?_ λADh=>?_
   .rintro Y ⟨v,Z,O⟩;obtain⟨k1,k2⟩:=Z.push n3 n4 s4;rw[O,<-e0]at k1 k2;exact wpS_bind<|wpS_modify<|wpS_pure ⟨rfl,_,_,k2.symm,k1,J⟩
   .clear_value fN
    rcases D.back with e|⟨S,s1,n1,p,e⟩
    .rw[e];exact ADh H ⟨R,D,rfl⟩
    .rw[e];dsimp -zeta only
     extract_lets -underBinder pw
     refine wpS_bind<|wpS_mono (wpS_forRange (I:=λx c AL=>c.1=none/\∃v,v≠[]/\RS κ rk BC v P AL/\(fl v).length=(fl R).length) (Q:=λc AL=>c.1=none/\∃v,v≠[]/\RS κ rk BC v P AL/\(fl v).length=(fl R).length) ?_ (λ_ _ hh=>hh) ⟨rfl,_,S,D,rfl⟩) ?_
     .clear ADh D e S;rintro y c Y _ _ ⟨_,v,S,Z,O⟩;refine wpS_bind<|wpS_get ?_;have ps:(pendingOf Y).size=v.length:=by rw[Z.p,AD3,Sy]
      dsimp only;by_cases c5:v.length>1
      .rw[ADr J,AET (pendingOf Y) ((pendingOf Y).size-2) J];refine EA (λ_=>wpS_pure ⟨rfl,_,S,Z,O⟩) λ_=>?_;refine wpS_bind<|lU L el nd Z J λR6 st6 U k6 C=>?_;exact YD ADk<|wpS_pure ⟨rfl,_,λc=>by subst c;simp at k6;lia,U,C.trans O⟩
      .rw[ADs J];exact wpS_pure ⟨rfl,_,S,Z,O⟩
     .rintro c Y ⟨e,v,S,Z,O⟩;dsimp only;rw[e];obtain⟨R6,U,C⟩:=Z.lst S pw;exact wpS_bind<|wpS_modify<|ADh _ ⟨R6,U,C.trans O⟩
  .clear_value jp
   refine EA (λt=>?_) λt=>ADh _ _ ⟨T,h3,m1,by show m<=_;lia,q.list e0 eT J⟩
   replace t:m<(sortPriv% PySem.Builtin.minRun:Nat->Nat->Nat->Nat) BC.length BC.length 0:=t
   refine wpS_bind<|wpS_lift<|wpAny_rule ⟨rfl,?_⟩;generalize (sortPriv% PySem.Builtin.minRun:Nat->Nat->Nat->Nat) BC.length BC.length 0=mr at t ⊢;have n1:m<=min (BC.length-lo) mr:=Nat.le_min.mpr ⟨m2,AEg t⟩;have n2:=Nat.min_le_left (BC.length-lo) mr;refine wpS_bind (ACj L (G.perm B.a) h3.k m1 n1 (by rw[z2.1];exact AEF (Nat.add_le_add_left n2 _)<|AGO<|Nat.add_sub_of_le<|Nat.le_of_not_le c1) q λH b q3=>?_);obtain⟨P,bq,pT3⟩:=b.rest h3.a e0.symm;have D:RS κ rk BC R P H:=⟨bq,u.s,b.p.trans h3.p,b.k.trans h3.k,b.f.trans h3.f,(AFJ.mp b.a).trans h3.m⟩;have t3:BC.length-lo<=P.length:=by rw[e0,<-(sz D).2,AEv];exact ADt _
   exact YD ADk<|ADh _ _ ⟨P,D,AEF m1 n1,AEF n2 t3,q3.list e0 bq<|AEF n2 t3⟩
 .rintro c Dx ⟨e,R,rest,_,u,h2⟩;have:=sz u;exact⟨e,R,by rwa [AFA (J:rest.length=0)]at u⟩
 .rintro c Dx ⟨e,R,u⟩;dsimp only;rw[e];have rl:=u.len;have z1:=sz u;refine wpS_bind (wpS_mono (wpS_forRange (I:=λx c AL=>c=(none,())/\∃v,RS κ rk BC v [] AL/\(v.length<=1\/v.length+x<=BC.length)) (Q:=λc AL=>c=(none,())/\∃v,RS κ rk BC v [] AL/\v.length<=1) ?_ ?_ ⟨rfl,R,u,.inr J⟩) ?_)
  .rintro y c Y _ _ ⟨rfl,v,Z,O⟩;refine wpS_bind<|wpS_get ?_;have ps:(pendingOf Y).size=v.length:=by rw[Z.p,AD3,Sy]
   by_cases c5:v.length<=1
   .rw[ADr J];exact wpS_pure ⟨rfl,v,Z,c5⟩
   .rw[ADs J];have i1:(pendingOf Y).size-2+1<v.length:=by rw[ps];clear O;lia
    refine wpS_bind<|lU L el nd Z (AEz (Nat.succ_le_succ ite_le) i1) λR6 st6 U k6 C=>?_;have C:=O.resolve_left c5;exact YD ADk<|wpS_pure ⟨rfl,R6,U,.inr (by rw[<-k6]at C;exact AEF (AGO<|by rw[AIQ,Nat.add_comm 1]) C)⟩
  .rintro c Y ⟨rfl,v,Z,O⟩;exact⟨rfl,v,Z,J⟩
  .rintro c Y ⟨rfl,v,Z,O⟩;refine wpS_pure<|h Y Z.m ?_ Z.f;rw[Z.a,AE1];cases v with
   |nil=>exact .nil
   |cons r R2=>
    rw[AFA (show R2.length=0 by rw[AD5]at O;lia),show fl [r]=r.1 from AE1 _];exact(Z.s r AD6).2
end
end Bh
namespace Bh
open PySem PyProof.Rows PySem.SeqAt AutoSeq1 MeetsSeq MeetsSeq2 MeetsSeq3
def T1(A:Around)(s:Shared)(y x:Value)(b:Bool):Prop:=
 ∀(prog:Program)(w:World)(E:Value->Shared->Prop)(Q:Value->Shared->Prop),Q (.bool b) s->wpAny (model prog w) A (richCompare .Lt y x) Q E s
noncomputable def Jt(e l:Nat->Bool):Nat->Nat->Bool
 |_,0=>false
 |i,k+1=>if e i=true then Jt e l (i+1) k else l i
theorem wX(l b:Addr)(items y:Array Value)(n O:Nat)(P D:Option Addr)(sl F:Array<|Option Value)(hsz:items.size=y.size)(e lt:Nat->Bool)(k:Nat) : ∀i:Nat,items.size-i=k->Meets (Builtin.«list.__eq__.loop» ⟨[.ref l,.ref b,rawInt i,rawInt 0],[]⟩)
  (λA R s=>s.heap.get? l=some {cls:=.type "list",dict:=P,data:=.seq items n,slots:=sl}/\s.heap.get? b=some {cls:=.type "list",dict:=D,data:=.seq y O,slots:=F}/\
   (∀j (h1:j<items.size) (h2:j<y.size),EqAt A.in1 s items[j] y[j] (e j)/\T1 A.in1 s items[j] y[j] (lt j))/\
   R (.ok<|.ret<|.bool<|Jt e lt i k) s):=by
 induction k with
 |zero=>
  intro i B prog w A R s h;obtain⟨hp,g,d,tk,os⟩:=s;obtain⟨q,hb,he,h⟩:=h
  wp_walk using wpAny_loadPart' q,wpAny_loadPart' hb
  have v:items[((i:Nat):Int).toNat]? = none:=by simp;omega
  have u:y[((i:Nat):Int).toNat]? = none:=by simp;omega
  rw[v,u]
  wp_walk using wpAny_loadPart' q,wpAny_loadPart' hb
  show R (.ok<|.ret<|.bool<|decide (items.size<y.size)) _;rw[hsz];simpa[Jt]using h
 |succ k ih=>
  intro i B prog w A R s h;obtain⟨hp,g,d,tk,os⟩:=s;obtain⟨q,hb,he,h⟩:=h
  wp_walk using wpAny_loadPart' q,wpAny_loadPart' hb
  have Z:i<items.size:=ADj
  have Y:i<y.size:=ADj
  have v:items[((i:Nat):Int).toNat]? = some items[i]:=by simp[Z]
  have u:y[((i:Nat):Int).toNat]? = some y[i]:=by simp[Y]
  have hc:((i:Int)+1)=((i+1:Nat):Int):=by push_cast;rfl
  unfold Jt at h;rw[v,u];refine wpAny_bind<|(he i Z Y).1 prog w _ _ ?_;cases Q:e i with
  |true=>
   rw[Q,ADr rfl]at h
   wp_walk
   rw[hc];exact⟨plainId_quiet plain_eq_loop _,codeAny_builtin entry_eq_loop (by rw[Around.under_plainId plain_eq_loop _];exact ih (i+1) ADj prog w A R _ ⟨q,hb,he,h⟩)⟩
  |false=>
   rw[Q,ADs ADk]at h
   wp_walk using wpAny_loadPart' q,wpAny_loadPart' hb
   rw[v,u];dsimp only;refine wpAny_bind<|(he i Z Y).2 prog w _ _ ?_
   wp_walk
   exact h
theorem wC(l b:Addr)(items y:Array Value)(n q:Nat)(v u:Option Addr)(sl Z:Array<|Option Value)(hsz:items.size=y.size)(e lt:Nat->Bool) : Meets (Builtin.«list.__lt__» ⟨[.ref l,.ref b],[]⟩)
  (λA R s=>s.heap.get? l=some {cls:=.type "list",dict:=v,data:=.seq items n,slots:=sl}/\s.heap.get? b=some {cls:=.type "list",dict:=u,data:=.seq y q,slots:=Z}/\
   (∀j (h1:j<items.size) (h2:j<y.size),EqAt A.in1 s items[j] y[j] (e j)/\T1 A.in1 s items[j] y[j] (lt j))/\
   R (.ok<|.ret<|.bool<|Jt e lt 0 items.size) s):=by
 intro prog w A R s h;obtain⟨hp,g,d,tk,os⟩:=s;obtain⟨Y,hb,he,h⟩:=h;have f3:=AutoSeq1.sub_list_list
 wp_walk using wpAny_loadPart' Y,wpAny_loadPart' hb
 exact⟨plainId_quiet plain_eq_loop _,codeAny_builtin entry_eq_loop (by rw[Around.under_plainId plain_eq_loop _];exact wX l b items y n q v u sl Z hsz e lt _ 0 rfl prog w A R _ ⟨Y,hb,he,by simpa using h⟩)⟩
open PySem PyProof.Rows PySem.W
structure La(lt:Nat->Nat->Bool)(n:Nat):Prop where
 ir:∀i,lt i i=false
 tr:∀i j k,lt i j=true->lt j k=true->lt i k=true
 to:∀i j,i<n->j<n->i≠j->lt i j=false->lt j i=true
noncomputable def Iv(lt:Nat->Nat->Bool)(n i:Nat):Nat:=(List.range n).countP λj=>lt j i
theorem SN{lt:Nat->Nat->Bool}{n:Nat}(T:La lt n){i j:Nat}(hi:i<n)(h:lt i j=true):Iv lt n i<Iv lt n j:=by
 have y:∀l:List Nat,l.countP (λk=>lt k i)<=l.countP (λk=>lt k j)/\(i∈l->l.countP (λk=>lt k i)<l.countP (λk=>lt k j)):=λl=>by
  induction l with
  |nil=>exact⟨ADt _,λm=>nomatch m⟩
  |cons k l ih=>
   rw[AFy,AFy];have sub:lt k i=true->lt k j=true:=λz=>T.tr _ _ _ z h;constructor
   .have:=ih.1;split<;>split<;>first|lia|(rename_i a b;exact absurd (sub a) b)
   .intro m;rcases AEN.mp m with rfl|m
    .rw[T.ir,h];have:=ih.1;simp;lia
    .have:=ih.2 m;split<;>split<;>first|lia|(rename_i a b;exact absurd (sub a) b)
 exact(y _).2 (AD2.mpr hi)
theorem jf{lt:Nat->Nat->Bool}{n:Nat}(T:La lt n){i j:Nat}(hi:i<n)(y:j<n):lt i j=decide (Iv lt n i<Iv lt n j):=by
 cases e:lt i j
 .by_cases c:i=j
  .subst c;simp
  .have:=SN T y (T.to i j hi y c e)
   symm
   rw[AF8];lia
 .exact(AEs<|SN T hi e).symm
theorem AA7{lt:Nat->Nat->Bool}{n:Nat}(T:La lt n){i j:Nat}(hi:i<n)(y:j<n)(c:i≠j):Iv lt n i≠Iv lt n j:=by
 cases e:lt i j
 .have:=SN T y<|T.to i j hi y c e;lia
 .have:=SN T hi e;lia
theorem lz{α:Type}:∀l:List α,l.zip l=l.map λv=>(v,v)
 |[]=>rfl
 |v::l=>by rw[AG6,lz l];rfl
section
variable{prog:Program}{w:World}{A:Around}{E:Value->Shared->Prop}{s:Shared}{vs:List Value}{lt:Nat->Nat->Bool}{κ:SortKind}
def YY(lt:Nat->Nat->Bool)(vs q:List Value):Prop:=q.Perm vs/\q.Pairwise λx y=>∃i j,vs[i]? = some x/\vs[j]? = some y/\lt i j=true
open Classical in
theorem ABU{a:Addr}{n:Nat}{P:PySem.Fin->Shared->Prop}(ho:s.heap.get? a=some (seqObj "list" vs.toArray n))(T:La lt vs.length)(nd:vs.Nodup)(hz:vs.length<=sizeLine) (hk:∀Z:Shared,(∀b o,b≠a->s.heap.get? b=some o->Z.heap.get? b=some o)->2<=vs.length->∀Q:SortKind->Shared->Prop,Q κ Z->wpAny (model prog w) A (keyKind' vs.toArray) Q E Z) (hc:∀Z:Shared,(∀b o,b≠a->s.heap.get? b=some o->Z.heap.get? b=some o)->∀(E':Value->Shared->Prop)(i j:Nat)(x y:Value)(Q:Bool->Shared->Prop),vs[i]? = some x->vs[j]? = some y->Q (lt i j) Z->wpAny (model prog w) A (keyLt' κ x y) Q E' Z) (h:∀t,YY lt vs t->P (.done<|.ret .none) {s with heap:=sortedHeap s.heap a vs t.toArray}) : wpAny (model prog w) A (Builtin.«list.sort» ⟨[.ref a],[]⟩) P E s:=by
 rw[list_sort_plain];have ha:=Heap.lt_size ho;refine wpAny_bind<|listItems_at ho rfl ?_;refine wpAny_bind (listUpdate_at ho rfl ?_ (by rw[AD3];exact hz) (AEu _));obtain⟨S,N9⟩:∃S,(s.heap.update a<|Obj.mapSeq λ_=>#[]).get? a=some (seqObj "list" #[] S):=⟨_,get?_update_seq ho (λ_=>#[])⟩;refine wpAny_bind<|seqEpoch_at N9 rfl ?_;refine wpAny_bind<|wpAny_newTuple ?_ hz;refine wpAny_bind<|wpAny_newList ?_ (AEu _);refine wpAny_holding ?_;have G:(((s.heap.update a<|Obj.mapSeq λ_=>#[]).push<|seqObj "tuple" vs.toArray 0).push<|seqObj "list" #[] 0).get? a=some (seqObj "list" #[] S):=by rw[Heap.get?_push_ne _ _ _ (by rw[size_push',Heap.size_update];exact AEA<|AF5 ha),Heap.get?_push_ne _ _ _ (by rw[Heap.size_update];exact AEA ha)];exact N9
 have kp:∀b o,b≠a->s.heap.get? b=some o->(((s.heap.update a<|Obj.mapSeq λ_=>#[]).push<|seqObj "tuple" vs.toArray 0).push<|seqObj "list" #[] 0).get? b=some o:=λb o hb q=>
  Heap.get?_push_of_some _ (Heap.get?_push_of_some _ (by rw[Heap.get?_update_ne _ _ _ _ hb];exact q))
 dsimp only;have hsz:vs.toArray.size=vs.length:=ADk
 have C:(vs.toArray.zip vs.toArray).toList=vs.map λv=>(v,v):=by rw[Array.toList_zip];exact lz vs
 by_cases Y:vs.toArray.size<2
 .rw[ADr Y,ADr Y];refine wpAny_bind<|wpAny_pure ?_;refine wpAny_bind<|wpAny_pure ?_;dsimp only;refine wpAny_bind<|seqEpoch_at G rfl ?_;refine wpAny_bind (listUpdate_at G rfl ?_ (hsz2:=by rw[AIC];show(pairsOf vs).size<=_;rw[pairsOf_size];exact Nat.le_succ_of_le hz));simp only[AGJ];have eo:(vs.toArray.zip vs.toArray).map (·.2)=vs.toArray:=by apply AHM.mp;rw[Array.toList_map,C,AEH];exact AIZ vs
  have:=h vs ⟨AIB _,by
   match vs,Y with
   |[],_=>exact .nil
   |[v],_=>exact AEw _ _
   |_::_::_,Y=>exact absurd Y ADk⟩
  rw[<-eo]at this;exact wpAny_pure this
 .rw[ADs Y,ADs Y];refine wpAny_bind<|hk _ kp J _ ?_;generalize eM:({s with heap:=((s.heap.update a<|Obj.mapSeq λ_=>#[]).push<|seqObj "tuple" vs.toArray 0).push (seqObj "list" #[] 0)}:Shared)=Z
  let rk:Keyed->Nat:=λx=>if h:∃i:Nat,vs[i]? = some x.1 then Iv lt vs.length (Classical.choose h)else 0
  have O:∀{i:Nat}{x:Keyed},vs[i]? = some x.1->i<vs.length/\rk x=Iv lt vs.length i:=λ{i x} e=>by have hi:=(ADw.mp e).1;have F:∃i:Nat,vs[i]? = some x.1:=⟨i,e⟩;have e':=AIJ F;have:Classical.choose F=i:=(AHk (ADw.mp e').1 nd).mp<|e'.trans e.symm;refine⟨hi,?_⟩;show(if h:∃i:Nat,vs[i]? = some x.1 then Iv lt vs.length (Classical.choose h)else 0)=_;rw[dif_pos F,this]
  have L:Fe prog w A E Z κ (λx=>∃i:Nat,vs[i]? = some x.1) rk:=by rintro x y st Q ⟨i,R⟩ ⟨j,B⟩ Et q;rw[lt'_eq];refine wpS_bind<|wpS_get ?_;rw[Et];refine wpS_bind (wpS_lift<|wpAny_attempt<|hc Z (by rw[<-eM];exact kp) _ i j _ _ _ R B ⟨rfl,?_⟩);obtain⟨hi,H⟩:=O R;obtain⟨D,I⟩:=O B;rw[H,I,<-jf T hi D]at q;exact wpS_pure q
  have el:∀x∈vs.map (λv=>(v,v)),∃i:Nat,vs[i]? = some x.1:=λx F=>by obtain⟨v,U,rfl⟩:=AEC.mp F;exact AFM U
  have ne:(vs.map λv=>(v,v)).Pairwise λx y=>rk x≠rk y:=by rw[AEa];refine AER.mpr λi j hi D BM=>?_;rw[(O (x:=(vs[i],vs[i]))<|ADp hi).2,(O (x:=(vs[j],vs[j]))<|ADp D).2];exact AA7 T hi D J
  refine wpAny_bind (wpAny_mono (ACq (rk:=rk) (κ:=κ) (st:=SortSt.mk' κ (vs.toArray.zip vs.toArray) #[] 7 none) (Q:=λ_ AL=>(arrOf AL).toList.Perm (vs.map λv=>(v,v))/\(arrOf AL).toList.Pairwise (Bt rk)/\failedOf AL=none) L el ne ⟨C,λr hr=>(nomatch hr),rfl,rfl,rfl,by show(vs.toArray.zip vs.toArray).toList.Perm _;rw[C]⟩ λAL a b c=>⟨a,b,c⟩) ?_ λ_ _ e=>e);rintro⟨⟨⟩,AL⟩ s' ⟨rfl,hp,hq,hf⟩;dsimp only;subst eM;refine wpAny_bind<|seqEpoch_at G rfl ?_;have BO:=hp.length_eq;rw[AEo,ADo]at BO;refine wpAny_bind (listUpdate_at G rfl ?_ (hsz2:=by refine AEF (AGO<|(AIC ..).trans BO) ?_;lia));rw[hf];simp only[AGJ];have h':=h ((arrOf AL).toList.map (·.2)) ⟨?_,?_⟩
  .have e:((arrOf AL).toList.map (·.2)).toArray=(arrOf AL).map (·.2):=by apply AHM.mp;rw[Array.toList_map]
   rw[e]at h';exact wpAny_pure h'
  .have:=hp.map (·.2)
   rwa [AEH,show(vs.map<|(λx:Keyed=>x.2)∘λv=>(v,v))=vs from AIZ vs]at this
  .rw[AEa];refine hq.imp_of_mem λ{x y} mx my V9=>?_;obtain⟨v,U,rfl⟩:=AEC.mp<|hp.mem_iff.mp mx;obtain⟨u,hu,rfl⟩:=AEC.mp<|hp.mem_iff.mp my;obtain⟨i,R⟩:=AFM U;obtain⟨j,B⟩:=AFM hu;obtain⟨hi,H⟩:=O (x:=(v,v)) R;obtain⟨D,I⟩:=O (x:=(u,u)) B;refine⟨i,j,R,B,?_⟩;rw[jf T hi D,<-H,<-I];exact AEs V9
end
section
variable{prog:Program}{w:World}{A:Around}{E:Value->Shared->Prop}{s:Shared}{vs:List Value}{lt:Nat->Nat->Bool}{κ:SortKind}
theorem ABW{l:Addr}{Q:Value->Shared->Prop}(O:s.heap.IsList l vs.toArray)(T:La lt vs.length)(nd:vs.Nodup)(hz:vs.length<=sizeLine) (P:∀v:Shared,(∀b o,s.heap.get? b=some o->v.heap.get? b=some o)->2<=vs.length->∀Q:SortKind->Shared->Prop,Q κ v->wpAny (model prog w) A.in1.in1 (keyKind' vs.toArray) Q E v) (hc:∀v:Shared,(∀b o,s.heap.get? b=some o->v.heap.get? b=some o)->∀(D:Value->Shared->Prop)(i j:Nat)(x y:Value)(Q:Bool->Shared->Prop),vs[i]? = some x->vs[j]? = some y->Q (lt i j) v->wpAny (model prog w) A.in1.in1 (keyLt' κ x y) Q D v) (h:∀u,YY lt vs u->Q (.ref<|s.heap.objs.size+1) {s with heap:=sortedAll s.heap vs u.toArray}) : wpAny (model prog w) A (call (.builtin "sorted") [.ref l]) Q E s:=by
 refine Calls.call_function_entry kind_sorted plain_sorted entry_sorted (args_sorted1 _) ?_;refine wpAny_bind<|wpAny_pure ?_;refine wpAny_bind<|collect_list O ?_ hz;refine wpAny_bind<|wpAny_newList ?_ hz;have hsz:((s.heap.push<|seqObj "list" #[] 0).update s.heap.objs.size (Obj.mapSeq (· ++ vs.toArray))).objs.size=s.heap.objs.size+1:=by rw[Heap.size_update,size_push']
 have Y:(((s.heap.push<|seqObj "list" #[] 0).update s.heap.objs.size (Obj.mapSeq (· ++ vs.toArray))).push<|seqObj "list" vs.toArray 0).get? (s.heap.objs.size+1)=some (seqObj "list" vs.toArray 0):=by rw[<-hsz];exact Heap.get?_push_size _ rfl
 have keep:∀b o,s.heap.get? b=some o->b≠s.heap.objs.size+1/\(((s.heap.push<|seqObj "list" #[] 0).update s.heap.objs.size (Obj.mapSeq (· ++ vs.toArray))).push<|seqObj "list" vs.toArray 0).get? b=some o:=λb o q=>by have Z:=Heap.lt_size q;refine⟨J,?_⟩;rw[Heap.get?_push_ne _ _ _ (by rw[hsz];exact AEA<|AF5 Z),Heap.get?_update_ne _ _ _ _ (AEA Z),Heap.get?_push_ne _ _ _ (AEA Z)];exact q
 rw[hsz];refine wpAny_bind<|wpAny_holding<|wpAny_call_entry slot_list_sort ⟨_,Y,rfl⟩ entry_list_sort (ABU (κ:=κ) (lt:=lt) Y T nd hz (λv kp=>P v λb o q=>kp b o (keep b o q).1 (keep b o q).2) (λv kp=>hc v λb o q=>kp b o (keep b o q).1 (keep b o q).2) λu ho=>⟨_,rfl,?_⟩)<|args_list_sort _;exact wpAny_pure ⟨_,rfl,h u ho⟩
def JD(h:Heap)(v:Value)(p:Int×Int):Prop:=∃a o t t' n,v=.ref a/\h.get? a=some o/\o.cls=.type "tuple"/\o.data=.seq #[.int p.1 t,.int p.2 t'] n
def IsL(h:Heap)(v:Value)(r:List<|Int×Int):Prop:=∃a its n,v=.ref a/\h.get? a=some {cls:=.type "list",dict:=none,data:=.seq its n,slots:=#[]}/\its.size=r.length/\∀(i:Nat)(x:Value)(p:Int×Int),its[i]? = some x->r[i]? = some p->JD h x p
end
open PySem PyProof.Rows PySem.W PySem.SeqAt
abbrev Pr:=Int×Int
noncomputable def Hd(p q:Pr):Bool:=decide (p.1<q.1\/(p.1=q.1/\p.2<q.2))
def Cg:List Pr->List Pr->Bool
 |p::r,q::t=>if p=q then Cg r t else Hd p q
 |_,_=>false
theorem WR:∀r,Cg r r=false
 |[]=>rfl
 |p::r=>by rw[Cg,ADr rfl,WR r]
theorem WS:∀a b c,Cg a b=true->Cg b c=true->Cg a c=true
 |[],_,_,h,_=>by cases h
 |_::_,[],_,h,_=>by cases h
 |_::_,_::_,[],_,h=>by cases h
 |p::a,q::b,u::c,h,k=>by
  unfold Cg at h k ⊢;by_cases e:p=q
  .subst e;rw[ADr rfl]at h;by_cases f:p=u
   .rw[ADr f]at k ⊢;exact WS a b c h k
   .rw[ADs f]at k ⊢;exact k
  .rw[ADs e]at h;by_cases f:q=u
   .subst f;rw[ADs e];exact h
   .rw[ADs f]at k;unfold Hd at *
    rw[ADu]at h k;rw[ADs λz=>by subst z;lia,ADu];lia
theorem f6:∀a b,a.length=b.length->a≠b->Cg a b=false->Cg b a=true
 |[],[],_,h,_=>absurd rfl h
 |[],_::_,h,_,_=>by cases h
 |_::_,[],h,_,_=>by cases h
 |p::a,q::b,h,k,l=>by
  unfold Cg at l ⊢;by_cases e:p=q
  .subst e;rw[ADr rfl]at l ⊢;exact f6 a b (by simpa using h) (λz=>k<|by rw[z]) l
  .rw[ADs e]at l;rw[ADs λz=>e z.symm];have:¬ (p.1=q.1/\p.2=q.2):=λz=>e<|AEt z.1 z.2;unfold Hd at *
   rw[AF8]at l;rw[ADu];lia
theorem gd{r q:List Pr}(u:r.length=q.length){e lt:Nat->Bool}(he:∀j (y:j<r.length) (v:j<q.length),e j=decide (r[j]=q[j])/\lt j=Hd r[j] q[j]):∀k i,i+k=r.length->Jt e lt i k=Cg (r.drop i) (q.drop i)
 |0,i,h=>by
  rw[AHG J]
  rfl
 |k+1,i,h=>by
  have y:i<r.length:=J
  have v:i<q.length:=J
  rw[AEx y,AEx v];unfold Jt Cg;rw[(he i y v).1,(he i y v).2,gd u he k (i+1) J];by_cases c:r[i]=q[i]
  .rw[ADr c,ADr<|AEs c]
  .rw[ADs c,ADs<|by simpa using c]
section
variable{A:Around}{s:Shared}{v u:Value}{p q:Pr}
theorem qc(O:JD s.heap v p)(P:JD s.heap u q)(un:A.units<cLine):EqAt A s v u<|decide (p=q):=by
 obtain⟨a,o,t,t',n,rfl,Y,D,Q⟩:=O;obtain⟨b,o2,w,F,m,rfl,y,R,Z⟩:=P;by_cases c:a=b
 .subst c;rw[Y]at y;cases y;rw[Q]at Z;injection Z with d _
  have:p=q:=by simp at d;exact AEt d.1.1 d.2.1
  rw[AEs this];exact EqAt.same _
 .have:=EqAt.of_refs c (RcAt.tuples (e:=λj=>if j=0 then p.1==q.1 else p.2==q.2) ⟨_,Y,D,n,Q⟩ ⟨_,y,R,m,Z⟩ un λj B i2=>by
   match j,B with
   |0,_=>exact EqAt.int_int p.1 t q.1 w
   |1,_=>exact EqAt.int_int p.2 t' q.2 F)
  have e:decide (p=q)=((List.range<|min 2 2).all (λj=>if j=0 then p.1==q.1 else p.2==q.2)&&(2:Nat)==2):=by rw[AEk,ADu];simp[AFN,Prod.ext_iff]
  rw[e];exact this
theorem Gg(R:JD s.heap v p)(B:JD s.heap u q)(un:A.units<cLine):T1 A s v u<|Hd p q:=λprog w E Q h=>by obtain⟨a,⟨c1',d1,t1,s1⟩,t,t',n,rfl,y,Z,Y⟩:=R;obtain⟨b,⟨c2',d2,t2,s2⟩,w',w'',m,rfl,O,P,D⟩:=B;simp only at Z Y P D;subst Z Y P D;exact richCompare_meets_room (op:=.Lt) ⟨_,y,rfl⟩ ⟨_,O,rfl⟩ F.slot_tuple_lt F.entry_tuple_lt (F.args_tuple_lt_2 _ _) (TL.k7 _ _ _ _ _ _ _ _ _ _ _ _ _ _ _ _) ⟨y,O,show Value.bool _≠Value.notImplemented/\_ from⟨(λx=>nomatch x),h⟩⟩ un
theorem wQ{prog:Program}{w:World}{E:Value->Shared->Prop}{r t:List Pr}(G:IsL s.heap v r)(S:IsL s.heap u t)(T:r.length=t.length)(un:A.units+2<cLine){Q:Bool->Shared->Prop}(h:Q (Cg r t) s):wpAny (model prog w) A (keyLt' oneType' v u) Q E s:=by
 obtain⟨a,its,n,rfl,y,z1,g1⟩:=G;obtain⟨b,P,m,rfl,C,z2,H⟩:=S;rw[keyLt'_oneType,oneLt'_eq];simp only[AF3];refine wpAny_bind<|wpAny_cRoomFor J ?_;have Z:Jt (λj=>decide (r[j]? = t[j]?)) (λj=>Hd (r[j]?.getD (0,0))<|t[j]?.getD (0,0)) 0 its.size=Cg r t:=by have:=gd T (e:=λj=>decide (r[j]? = t[j]?)) (lt:=λj=>Hd (r[j]?.getD (0,0))<|t[j]?.getD (0,0)) (λj Y O=>by simp[Y,O]) its.size 0 J;exact this
 refine wpAny_bind<|wpAny_callSpecialIfBound?_slot ⟨_,y,rfl⟩ F.slot_list_lt (call_meets F.slot_list_lt ⟨_,y,rfl⟩ F.entry_list_lt (F.args_list_lt_2 _ _) (wC a b its P n m none none #[] #[] J (λj=>decide (r[j]? = t[j]?)) (λj=>Hd (r[j]?.getD (0,0))<|t[j]?.getD (0,0))) ⟨y,C,λj Y O=>?_,?_⟩)
 .have D:r[j]? = some (r[j]' J):=ADp J;have R:t[j]? = some (t[j]' J):=ADp J;have B:=g1 j _ _ (AET its j Y) D;have p2:=H j _ _ (AET P j O) R;rw[D,R];refine⟨?_,Gg B p2 (by simp;lia)⟩;have:=qc B p2 (A:=A.in1) (by simp;lia);simpa using this
 .rw[Z];exact wpAny_truthy_bool h
end
theorem JD.inj{h:Heap}{v:Value}{p q:Pr}(a:JD h v p)(b:JD h v q):p=q:=by
 obtain⟨a,o,t,t',n,rfl,Z,c1,Y⟩:=a;obtain⟨b,o2,w,w',m,e,y,c2,u⟩:=b;cases e;rw[Z]at y;cases y;rw[Y]at u;injection u with d _
 simp at d;exact AEt d.1.1 d.2.1
theorem IsL.inj{h:Heap}{v:Value}{r t:List Pr}(a:IsL h v r)(b:IsL h v t):r=t:=by obtain⟨a,its,n,rfl,q,z1,g1⟩:=a;obtain⟨b,Cc,m,e,y,z2,u⟩:=b;cases e;rw[q]at y;cases y;refine AHN J λi Z Y=>?_;have e:=AET its i J;exact(g1 i _ _ e<|ADp Z).inj (u i _ _ e<|ADp Y)
theorem IsL.kept{h h':Heap}(k:∀b o,h.get? b=some o->h'.get? b=some o){v:Value}{r:List Pr}(a:IsL h v r):IsL h' v r:=by obtain⟨a,its,n,rfl,y,q,g1⟩:=a;refine⟨a,its,n,rfl,k _ _ y,q,λi x p ex u=>?_⟩;obtain⟨b,o,t,t',m,e,Z,c,d⟩:=g1 i x p ex u;exact⟨b,o,t,t',m,e,k _ _ Z,c,d⟩
def mB(h:Heap)(vs:List Value)(Ak:List<|List Pr):Prop:=vs.length=Ak.length/\∀(i:Nat)(x:Value)(r:List Pr),vs[i]? = some x->Ak[i]? = some r->IsL h x r
section
variable{prog:Program}{w:World}{A:Around}{E:Value->Shared->Prop}{s:Shared}{vs:List Value}{Ak:List (List Pr)}
open Classical in
theorem ABY{l:Addr}{m:Nat}{Q:Value->Shared->Prop}(I:s.heap.IsList l vs.toArray)(Y:mB s.heap vs Ak)(nd:Ak.Nodup)(hm:∀r∈Ak,r.length=m)(hz:vs.length<=sizeLine)(un:A.units+4<cLine) (h:∀O:List Nat,O.Perm (List.range vs.length)->(O.map λi=>Ak.getD i []).Pairwise (λr t=>Cg r t=true)->Q (.ref<|s.heap.objs.size+1) {s with heap:=sortedAll s.heap vs (O.map λi=>vs.getD i Value.none).toArray}) :
 wpAny (model prog w) A (call (.builtin "sorted") [.ref l]) Q E s:=by
 obtain⟨ln,Y⟩:=Y;have u:∀{i},i<Ak.length->Ak[i]? = some (Ak.getD i []):=λ{i} hi=>by
  rw[AEO,ADp hi]
  rfl
 have S:vs.Nodup:=by refine AER.mpr λi j hi G U e=>?_;have C:=Y i _ _ (ADp hi)<|ADp J;have b:=Y j _ _ (ADp G)<|ADp J;rw[e]at C;have:=AER.mp nd i j J J U;exact this<|C.inj b
 have T:La (λi j=>Cg (Ak.getD i [])<|Ak.getD j []) vs.length:=by
  refine⟨λi=>WR _,λi j k=>WS _ _ _,λi j hi G c e=>?_⟩;have Z:i<Ak.length:=J
  have D:j<Ak.length:=J
  refine f6 _ _ ?_ (λz=>?_) e
  .rw[hm _<|AEX<|u Z,hm _<|AEX<|u D]
  .exact c<|(AHk Z nd).mp<|by rw[u Z,u D,z]
 refine ABW (κ:=oneType') I T S hz (λs6 kp h2 Q' q=>?_) (λs6 kp E' i j x y Q' P F q=>?_) λR ho=>?_
 .refine kas_kind h2 (T:=.type "list") (λv hv=>?_) ADl ADl q;obtain⟨i,hi,rfl⟩:=AE3 hv;obtain⟨a,its,n,e,h1,_⟩:=(Y i _ _ (ADp hi)<|ADp J).kept kp;rw[e];exact(Looks.ld h1).andThen .now
 .have hi:=(ADw.mp P).1;have G:=(ADw.mp F).1;have Z:i<Ak.length:=J
  have D:j<Ak.length:=J
  exact wQ ((Y i _ _ P<|u Z).kept kp) ((Y j _ _ F<|u D).kept kp) (by rw[hm _<|AEX<|u Z,hm _<|AEX<|u D]) (by simp;lia) q
 .let f:Value->Nat:=λx=>if h:∃i:Nat,vs[i]? = some x then Classical.choose h else 0
  have fe:∀{i:Nat}{x:Value},vs[i]? = some x->f x=i:=λ{i x} e=>by have B:∃i:Nat,vs[i]? = some x:=⟨i,e⟩;have H:=AIJ B;show(if h:∃i:Nat,vs[i]? = some x then Classical.choose h else 0)=_;rw[dif_pos B,(AHk (ADw.mp H).1 S).mp<|H.trans e.symm]
  have fr:vs.map f=List.range vs.length:=by refine AHN ADk λi Z i2=>?_;rw[List.getElem_map,fe (ADp<|by simpa using Z),AGY]
  have gv:∀x∈R,vs.getD (f x) Value.none=x:=λx B=>by
   obtain⟨i,P⟩:=AFM<|ho.1.mem_iff.mp B;rw[fe P,AEO,P]
   rfl
  have e1:(R.map f).map (λi=>vs.getD i Value.none)=R:=by rw[AEH];exact(AFu gv).trans (AIZ _)
  have:=h (R.map f) ?_ ?_
  .rw[e1]at this;exact this
  .have:=ho.1.map f
   rwa [fr]at this
  .rw[AEH,AEa];refine ho.2.imp λ{x y} ⟨i,j,P,F,e⟩=>?_;show Cg (Ak.getD (f x) []) (Ak.getD (f y) [])=true;rw[fe P,fe F];exact e
end
end Bh
namespace L2.PL
open PySem PySem.Spec PyProof.Rows
noncomputable def D8(r:List<|Int×Int):PV:=.lst<|r.map λp=>.tup [.int p.1,.int p.2]
def Jz:List PV->Option (List<|List<|Int×Int)
 |[]=>some []
 |.lst qs::r=>match F5 qs,Jz r with|some p,some q=>some (p::q)|_,_=>none
 |_=>none
def Sh(Ak:List<|List<|Int×Int):List<|List<|Int×Int:=Classical.epsilon λq=>q.Perm Ak/\q.Pairwise λr t=>Bh.Cg r t=true
theorem kC{Ak q:List (List<|Int×Int)}(h:q.Perm Ak)(u:q.Pairwise λr t=>Bh.Cg r t=true):Sh Ak=q:=by
 have s:=Classical.epsilon_spec (p:=λq:List (List<|Int×Int)=>q.Perm Ak/\q.Pairwise λr t=>Bh.Cg r t=true) ⟨q,h,u⟩;refine AG7 (λa b _ _ x y=>?_) s.2 u<|s.1.trans h.symm;have:=Bh.WS _ _ _ x y;rw[Bh.WR]at this
 contradiction
open Classical in
def OQ:List RV->Option RV
 |[r]=>match r.list with
  |some ps=>(match Jz ps with
   |some Ak=>if ps.length<=1000/\Ak.Nodup/\∀r∈Ak,r.length=(Ak.getD 0 []).length then some (.fr<|(Sh Ak).map D8)else none
   |none=>none)
  |none=>none
 |_=>none
theorem ik:∀{qs:List PV}{p:List (Int×Int)},F5 qs=some p->qs=p.map λp=>.tup [.int p.1,.int p.2]
 |[],_,e=>by cases e;rfl
 |q::qs,p,e=>by
  unfold F5 at e;split at e
  .contradiction
  .rename_i a b r e0;cases e0;obtain⟨z,y,rfl⟩:=AFO.mp e;rw[ik y]
   rfl
  .contradiction
theorem jk:∀{ps:List PV}{Ak:List (List<|Int×Int)},Jz ps=some Ak->ps=Ak.map D8
 |[],_,e=>by cases e;rfl
 |q::qs,p,e=>by
  unfold Jz at e;split at e
  .contradiction
  .rename_i a r e0;cases e0;split at e
   .rename_i p' q' y v;cases e;rw[ik y,jk v]
    rfl
   .contradiction
  .contradiction
def LY(K:W.Frag)(H:Hp)(r:List<|Int×Int)(v:V):Prop:=∃a vs,v=.ref a/\Rd H a (.lst vs)/\Paired (GD K H) r vs
theorem jo{K:W.Frag}{G:Hp}:∀{ps:List PV}{Ak:List (List<|Int×Int)}{vs:List V},Jz ps=some Ak->AQ K G ps vs->Paired (LY K G) Ak vs
 |[],_,_,e,h=>by cases e;subst h;exact .nil
 |p::r,Ak,vs,e,h=>by
  unfold Jz at e;split at e
  .contradiction
  .rename_i a r' e0;cases e0;split at e
   .rename_i p' q' y q;cases e;obtain⟨v,us,rfl,⟨b,ws,rfl,hb,u⟩,t⟩:=h;exact .cons ⟨b,ws,rfl,hb,W6 y u⟩<|jo q t
   .contradiction
  .contradiction
section
variable{X:Cx}
theorem vH{AB:List (Addr×Obj)}{σ:St}{H:Hp}{s:Shared}(I:Inv X AB σ H s){r:List (Int×Int)}{v:V}{u:Value}(h:LY X.K H r v)(q:RelV v u):Bh.IsL s.heap u r:=by obtain⟨a,vs,rfl,Z,hp⟩:=h;cases q;obtain⟨_,its,n,y,Y⟩:=Z.ok I.AX;have l1:=y.length;have l2:=Paired.length hp;refine⟨a,its.toArray,n,rfl,Y,by rw[AD3];lia,λi x p ex Q=>?_⟩;obtain⟨w,O,b,rfl,hb⟩:=K6 hp Q;obtain⟨x',P,D⟩:=y.get O;rw[AHP,P]at ex;cases ex;cases D;obtain⟨i1,F,⟨o,R,B,G,S⟩,_⟩:=I.tuple hb;obtain⟨t1,t2,rfl⟩:=Rx F;exact⟨b,o,t1,t2,G,rfl,R,B,S⟩
theorem oX(hu:X.A.units+66<cLine):DX X (.builtin "sorted") (λxs H Q=>∃(p:Addr)(ys:List V)(Ak:List<|List<|Int×Int)(m:Nat),xs=[.ref p]/\B6 X.K H p ys/\Paired (LY X.K H) Ak ys/\ys.length<=1000/\Ak.Nodup/\(∀r∈Ak,r.length=m)/\∀y:List Nat,y.Perm (List.range ys.length)->(y.map λi=>Ak.getD i []).Pairwise (λr t=>Bh.Cg r t=true)->∀l,H l=none->Q (.ref l) (upd H l<|.lst<|y.map λi=>ys.getD i .Aw)):=by
 intro AB s σ H xs us Q I r h;obtain⟨p,ys,Ak,m,rfl,D,hp,hz,nd,hm,q⟩:=h;obtain⟨u,rfl,Y⟩:=vals1 r;cases Y;obtain⟨its,O,pl,_⟩:=I.list D;have F:=O.length;have HM:=Paired.length hp;have sm:its.length<=sizeLine:=AEF J<|small (n:=1000)<|ADt _;refine Bh.ABY pl.isList ⟨J,λi x t ex R=>?_⟩ nd hm sm J λy Z B=>?_
 .obtain⟨v,G,S⟩:=K6 hp R;obtain⟨x',P,Y⟩:=O.get G;rw[ex]at P;cases P;exact vH I S Y
 .rw[<-F]at Z;obtain⟨e,he⟩:=sortedAll_at s.heap its (y.map λi=>its.getD i Value.none).toArray;have T:=Z.length_eq;rw[AF4]at T;exact⟨.ref<|s.heap.objs.size+1,_,I.laid (λb o k=>sortedAll_old k) (AHH _) (show Bw X.prog X.w _ _ _ (.lst _)from⟨by rw[ADo];lia,_,e,X7 O _ λi hi=>AD2.mp<|Z.mem_iff.mp hi,he⟩),rfl,q y Z B _<|I.AX.fresh<|AHH _⟩
theorem x8:FD X.K OQ (λxs H Q=>∃(p:Addr)(ys:List V)(Ak:List<|List<|Int×Int)(m:Nat),xs=[.ref p]/\B6 X.K H p ys/\Paired (LY X.K H) Ak ys/\ys.length<=1000/\Ak.Nodup/\(∀r∈Ak,r.length=m)/\∀y:List Nat,y.Perm (List.range ys.length)->(y.map λi=>Ak.getD i []).Pairwise (λr t=>Bh.Cg r t=true)->∀l,H l=none->Q (.ref l) (upd H l<|.lst<|y.map λi=>ys.getD i .Aw)):=by
 intro rs z H0 G H vs Q sub Y e rv q;unfold OQ at e;split at e
 .split at e
  .rename_i ps es;split at e
   .rename_i Ak u;split at e
    .rename_i h3;obtain⟨hz,nd,hm⟩:=h3;cases e;obtain⟨v,rfl,O⟩:=rv.one;obtain⟨a,us,rfl,P,rl⟩:=O.list sub es;have hp:=jo u rl;have hl:=rl.paired.length;have HM:=Paired.length hp;have D:=jk u;refine⟨a,us,Ak,_,rfl,.inl P,Paired.Og hp (by rintro _ _ ⟨b,ws,e,h,k⟩;exact⟨b,ws,e,Rd.same sub h,Paired.Og k (by rintro _ _ ⟨b,e,h⟩;exact⟨b,e,BS.same sub h⟩)⟩),J,nd,hm,λy Z F l hn=>q _ _ _ (Al.Gi sub _ hn) ⟨l,_,rfl,Y.free hn,sub.free hn,Bu,?_⟩⟩;have R:Sh Ak=y.map λi=>Ak.getD i []:=kC (by
      have:=Z.map λi=>Ak.getD i [];refine this.trans (List.Perm.of_eq<|AHN (by simp;lia) λi i1 B=>?_);rw[List.getElem_map,AGY,AEO,ADp B]
      rfl) F
     have lt:∀i∈y,i<ps.length:=λi hi=>by have:=AD2.mp<|Z.mem_iff.mp hi;lia
     have S:(Sh Ak).map D8=y.map λi=>ps.getD i .Aw:=by
      rw[R,AEH];refine AFu λi hi=>?_;have h1:=lt i hi;have T:i<Ak.length:=J
      show D8 (Ak.getD i [])=_;rw[AEO,AEO,D,AEy,ADp T]
      rfl
     rw[S];exact AQ.of<|XN rl.paired _ lt
    .contradiction
   .contradiction
  .contradiction
 .contradiction
end
def Lo(f:EF):IF:=λρ=>match f ρ with|some (.cl<|.By ks _)=>some (ks.map λk=>.tup<|k.map .int)|_=>none
def OO(x y:RV):Option RV:=match x,y with
 |.cl (.By ks xs),.cl (.tup k)=>(match EM k with|some ns=>(CS ks xs ns).map .cl|none=>none)
 |_,_=>none
section
variable{P:Program}{w:World}{A:Around}{E:Value->Shared->Prop}{s:Shared}{it d:Addr}{i ep:Nat}{od:Obj}{es:Array DictEntry}
theorem vf{Q:Value->Shared->Prop}(hd:(d==sysModules)=false)(ho:s.heap.get? d=some od)(v:od.ExactDict)(q:od.data=.dict es ep) (u:Q (.ref s.heap.objs.size) {s with heap:=s.heap.push {cls:=.type "dict_keyiterator",data:=.fields #[.ref d,.int 0 0,.int es.size 0,.int ep 0]}}):wpAny (model P w) A (pyIter<|.ref d) Q E s:=by have y:s.TypeIs (.ref d) "dict":=⟨od,ho,v.1⟩;refine wpAny_pyIter_slot y AH7<|wpAny_call_entry AH7 y PySem.F.entry_dict_iter ?_ (PySem.F.args_dict_iter_1 _);unfold Builtin.«dict.__iter__»;refine wpAny_bind ?_;unfold Builtin.Dict.dictSlotNone;refine wpAny_bind<|wpAny_notOrdered_dict y ?_;show wpAny _ _ (pure<|Value.ref d) _ _ s;refine wpAny_pure ?_;show wpAny _ _ (Builtin.Dict.showsAll d >>= _) _ _ s;unfold Builtin.Dict.showsAll;rw[ADs (by rw[hd];exact AFL)];exact wpAny_bind<|wpAny_pure<|wpAny_bind<|wpAny_dictEntries ho q<|wpAny_bind<|wpAny_dictEpoch ho q<|wpAny_bind<|wpAny_newObj_type<|wpAny_pure ⟨_,rfl,"dict_keyiterator",_,⟨_,Heap.get?_push_size _ rfl,rfl⟩,AGK.lookup,u⟩
theorem fh{Q:Option Value->Shared->Prop}(hh:A.handled=none)(hit:s.heap.IsKeyIter it d i es.size ep)(y:s.heap.get? d=some od)(q:od.data=.dict es ep) (Z:∀e h',es[i]? = some e->h'.IsKeyIter it d (i+1) es.size ep->Heap.SameBut it s.heap h'->Q (some e.key) {s with heap:=h'}) (Y:∀h',es[i]? = none->Heap.ExtBut it s.heap h'->Q none {s with heap:=h'}):wpAny (model P w) A (pyNext<|.ref it) Q E s:=by
 obtain⟨o,ho,hc,hd⟩:=id hit;unfold pyNext;refine wpAny_bind<|wpAny_attempt<|wpAny_callSpecial?_slot (name:=Str.ofString "__next__") hit.typeIs AGK (wpAny_call_entry AGK hit.typeIs PySem.F.entry_dict_keyiterator_next ?_ (PySem.F.args_dict_keyiterator_next_1 _))
 refine wpAny_bind<|wpAny_pure<|wpAny_bind<|wpAny_bind<|wpAny_bind<|wpAny_typeNameOfWhole_keyiter hit.typeIs<|wpAny_pure<|wpAny_bind<|wpAny_fieldsOf ho hd ?_;dsimp only[show Builtin.Dict_items.ownsTuple "dict_keyiterator" = false by decide,Bool.false_eq_true,if_false];show wpAny _ _ (if(Value.ref d==Value.none)=true then _ else _) _ _ s;rw[ADs (show ¬ ((Value.ref d==Value.none)=true)from AFL)];refine wpAny_bind<|wpAny_pure<|wpAny_bind<|wpAny_dictEntries y q ?_;rw[ADs ADk];refine wpAny_bind<|wpAny_pure<|wpAny_bind<|wpAny_dictEpoch y q ?_;rw[ADs ADk];refine wpAny_pure ?_;dsimp only[show ¬ ((i:Int)<0)from J,if_false,Int.toNat_natCast];cases v:es[i]? with
 |none=>
  refine wpAny_bind<|wpAny_bind<|wpAny_typeNameOfWhole_keyiter hit.typeIs<|wpAny_pure ?_;show wpAny _ _ (setField (.ref it) 0 .none >>= _) _ _ s;refine wpAny_bind<|wpAny_setField ho hd ADk ?_;show wpAny _ _ (newExc (.type "StopIteration") [] >>= _) _ _ _;refine wpAny_bind ?_;simp only[newExc,newTuple];refine wpAny_bind (wpAny_newObj_type ?_ (by size_fits));refine wpAny_bind (m:=firstArgMember _ _) (wpAny_of_eq (a:=Value.none) (by first|rfl|(simp only[firstArgMember];rfl)) ?_);refine wpAny_newObj_type ?_ (by size_fits);dsimp only[raiseNew];refine wpAny_bind<|wpAny_handled ?_;rw[show A.in1.handled=none from hh];refine wpAny_bind<|wpAny_pure<|wpAny_throw ?_;refine wpAny_bind<|wpAny_isInstance (T:="StopIteration") (b:=true) ⟨_,Heap.get?_push_size _ rfl,rfl⟩ isSubtype_stop ?_;exact wpAny_pure<|Y _ v<|((Heap.SameBut.update ..).extBut.push _).push _
 |some e=>
  refine wpAny_bind<|wpAny_bind<|wpAny_typeNameOfWhole_keyiter hit.typeIs<|wpAny_pure ?_;refine wpAny_bind<|wpAny_isOneOf_keyiter hit.typeIs ?_;show wpAny _ _ (setField (.ref it) 1 (rawInt<|(i:Int)+1) >>= _) _ _ s;refine wpAny_bind<|wpAny_setField ho hd ADk ?_;have u:(s.heap.update it (Obj.mapFields (·.setIfInBounds 1 (rawInt<|(i:Int)+1)))).IsKeyIter it d (i+1) es.size ep:=
   ⟨_,Heap.get?_update_self _ ho (Obj.isFreed_of_fields<|Obj.data_mapFields hd _),(Obj.cls_mapFields ..).trans hc,by rw[Obj.data_mapFields hd];simp[rawInt]⟩
  refine wpAny_bind<|wpAny_holding ?_;refine wpAny_bind (wpAny_isOneOf_keyiter (s:={s with heap:=s.heap.update it (Obj.mapFields (·.setIfInBounds 1 (rawInt<|(i:Int)+1)))}) u.typeIs ?_);show wpAny _ _ (pure e.key) _ _ _;exact wpAny_pure<|wpAny_pure ⟨_,rfl,wpAny_pure<|Z e _ v u<|Heap.SameBut.update ..⟩
end
def Fz:HO->Prop
 |.lst _=>True
 |.dT _=>True
 |_=>False
def Fg(AU:Hp)(h:Heap)(H H':Hp):Prop:=∀b,H' b=H b\/(∃o u,Fz u/\H b=some (.BK o u)/\H' b=some u/\∀o u,AU b≠some (.BK o u))\/∃o u,Fz u/\H b=some u/\H' b=some (.BK o u)/\h.get? b=some o
section
variable{X:Cx}{AB:List (Addr×Obj)}{σ:St}{H H' AU:Hp}{s:Shared}{h:Heap}
theorem Fg.keep(t:Fg AU h H H'){b:Addr}{u:HO}(e:H b=some u)(n:¬ Fz u)(z:∀o w,u≠.BK o w):H' b=some u:=by
 rcases t b with q|⟨o,w,_,q,_⟩|⟨o,w,f,q,_⟩
 .rw[q,e]
 .rw[e]at q;exact absurd (AEU q) (z _ _)
 .rw[e]at q;cases q;exact absurd f n
theorem Fg.none(t:Fg AU h H H'){b:Addr}(e:H b=none):H' b=none:=by
 rcases t b with q|⟨o,w,_,q,_⟩|⟨o,w,f,q,_⟩
 .rw[q,e]
 .rw[e]at q;contradiction
 .rw[e]at q;contradiction
theorem WC(I:Inv X AB σ H s)(t:Fg X.AU s.heap H H'):Inv X AB σ H' s:=by
 have st:∀{a:Addr}{o:HO},Bw X.prog X.w H s.heap a o->Bw X.prog X.w H' s.heap a o:=λq=>q.Me (λ_ _ _ z=>z) (λb z=>t.keep z id λ_ _ y=>nomatch y) λb xs z=>t.keep z id λ_ _ y=>nomatch y;refine⟨I.ok,I.os,I.bare,⟨I.base.keep,I.base.slot,λb o e n Z=>t.none<|I.base.free b o e n Z,I.base.there,λb xs e=>t.keep (I.base.F7 b xs e) id (λ_ _ y=>nomatch y),λb o u e=>?_,λb ps e=>?_⟩,I.loc,I.cell,t.none I.free,λx c e=>t.none<|I.GR x c e,λp hp=>?_,λa o e=>?_,I.len⟩
 .rcases t b with q|⟨_,_,_,_,_,n⟩|⟨_,w,f,q,_⟩
  .rw[q];exact I.base.Fp b o u e
  .exact absurd e (n _ _)
  .rw[I.base.Fp b o u e]at q;cases q;exact f.elim
 .obtain⟨m,q⟩:=I.base.Iz b ps e;exact⟨m,t.keep q id λ_ _ y=>nomatch y⟩
 .obtain⟨e,n,r⟩:=I.pin p hp;exact⟨e,t.none n,r⟩
 .rcases t a with q|⟨Y,u,_,q,v,_⟩|⟨Y,u,_,q,v,g⟩
  .exact st<|I.AX a o<|q ▸ e
  .rw[v]at e;cases e;exact st (I.AX a _ q).2
  .rw[v]at e;cases e;exact⟨g,st<|I.AX a _ q⟩
theorem Fg.fz{a:Addr}{o:Obj}{u:HO}(f:Fz u)(e:H a=some u)(g:h.get? a=some o):Fg AU h H<|upd H a<|.BK o u:=λb=>by
 by_cases z:b=a
 .subst z;exact .inr<|.inr ⟨o,u,f,e,Bu,g⟩
 .exact .inl<|Av z
theorem Fg.uz{a:Addr}{o:Obj}{u:HO}(f:Fz u)(e:H a=some (.BK o u))(n:∀o u,AU a≠some (.BK o u)):Fg AU h H<|upd H a u:=λb=>by
 by_cases z:b=a
 .subst z;exact .inr<|.inl ⟨o,u,f,e,Bu,n⟩
 .exact .inl<|Av z
theorem fG(I:Inv X AB σ H s){a:Addr}(h:∀o u,H a≠some (.BK o u))(o:Obj)(u:HO):X.AU a≠some (.BK o u):=λe=>h _ _<|I.base.Fp a o u e
theorem ACX{G:Hp}{a:Addr}{o:Obj}{u:HO}(e:G a=some u)(n:∀o w,u≠.BK o w):Vw G<|upd G a<|.BK o u:=λb w _ r=>by
 by_cases z:b=a
 .subst z;rcases r with r|⟨_,r⟩
  .rw[e]at r;cases r;exact .inr ⟨o,Bu⟩
  .rw[e]at r;exact absurd (AEU r) (n _ _)
 .unfold Rd;rw[Av z];exact r
theorem ACY{G:Hp}{a:Addr}{o:Obj}{u:HO}(e:G a=some (.BK o u)):Vw G<|upd G a u:=λb w nw r=>by
 by_cases z:b=a
 .subst z;rcases r with r|⟨_,r⟩
  .rw[e]at r;exact absurd (AEU r).symm (nw _ _)
  .rw[e]at r;cases r;exact .inl Bu
 .unfold Rd;rw[Av z];exact r
theorem jw{G H:Hp}{a:Addr}{u:HO}(s:AY G H):AY (upd G a u)<|upd H a u:=λb w e=>by
 by_cases z:b=a
 .subst z;rw[Bu]at e ⊢;exact e
 .rw[Av z]at e ⊢;exact s _ _ e
theorem BW.fz{K:W.Frag}{G:Hp}{ρ:AS}{a:Addr}{o:Obj}{AI:List (List Key×V)}(R:BW K G H ρ σ)(e:G a=some (.dT AI)):BW K (upd G a<|.BK o<|.dT AI) (upd H a<|.BK o<|.dT AI) ρ σ:=by
 refine⟨jw R.sub,λi sv q=>?_,R.apart,R.len⟩;obtain⟨v,y,ok⟩:=R.slot i sv q;have ne:∀{b:Addr},G b=none->b≠a:=λn z=>by rw[z,e]at n;contradiction
 refine⟨v,y,?_⟩;have vw:=ACX (o:=o) e λ_ _ z=>nomatch z;cases sv with
 |exc nm=>
  obtain⟨b,C,rfl,n,q⟩:=ok;exact⟨b,C,rfl,n,by rw[Av (λz=>by rw[z,e]at q;nomatch q)];exact q⟩
 |im p=>exact Rep.vw vw ok
 |own ps=>
  obtain⟨b,vs,rfl,g,q,r⟩:=ok;exact⟨b,vs,rfl,by rw[Av<|ne g];exact g,by rw[Av<|ne g];exact q,AQ.vw vw r⟩
 |Cj t ks xs=>
  obtain⟨b,vs,rfl,g,q,k,r,z⟩:=ok;exact⟨b,vs,rfl,by rw[Av<|ne g];exact g,by rw[Av<|ne g];exact q,k,AQ.vw vw r,z⟩
 |K4 AI=>
  obtain⟨b,rfl,g,q⟩:=ok;exact⟨b,rfl,by rw[Av<|ne g];exact g,by rw[Av<|ne g];exact q⟩
theorem Al.uz{G G':Hp}{a:Addr}{o:Obj}{u:HO}(e:G a=some u)(sub:AY G H)(st:Al (upd G a<|.BK o u) (upd H a<|.BK o u) G' H'):Al G H (upd G' a u)<|upd H' a u:=by
 refine⟨λb w q=>?_,λb w q=>?_,jw st.sub,λb m n=>?_⟩
 .by_cases z:b=a
  .subst z;rw[Bu,<-e];exact q
  .rw[Av z];exact st.gg _ _ (by rw[Av z];exact q)
 .by_cases z:b=a
  .subst z;rw[Bu,<-sub _ _ e];exact q
  .rw[Av z];exact st.hh _ _ (by rw[Av z];exact q)
 .have z:b≠a:=λz=>by rw[z,e]at n;contradiction
  rw[Av z];have y:=Av (H:=H) (o:=.BK o u) z;refine st.ex b ?_ (by rw[Av z];exact n);rcases m with h|h|h|h
  .exact .l<|y.trans h
  .exact .d<|y.trans h
  .exact .k<|y.trans h
  .exact .f<|y.trans h
end
noncomputable def Ts(a:Addr)(o:Obj)(AI:List<|List Key×V)(bs:List Addr):It:=
 ⟨λi H=>H a=some (.BK o<|.dT AI)/\i<bs.length,λi H x H'=>H'=H/\∃b,bs[i]? = some b/\x=.ref b,λi H=>H a=some (.BK o<|.dT AI)/\bs.length<=i⟩
theorem ACL{P:Program}{w:World}{K:W.Frag}{tg:Expr}{a it:Addr}{o:Obj}{AI:List (List Key×V)}{bs:List Addr}{es:Array DictEntry}{Y:Nat}(Q:o.data=.dict es Y)(hb:es.toList.map (·.key)=bs.map Value.ref):Turn P w K tg (Ts a o AI bs) [it] it (λi h=>h.IsKeyIter it a i es.size Y):=by
 have hl:es.size=bs.length:=by have:=AFX List.length hb;simpa using this
 refine⟨ADv.mpr rfl,λi h st b hb=>?_,λi h h' st k=>st.at λo e=>k it (ADv.mpr rfl) o e,?_,?_,λ_ _ _ _ _ st h=>wpAny_pyIter_keyiter st h⟩
 .obtain rfl:=ADv.mp hb;obtain⟨o,e,c,d⟩:=st;exact⟨o,e,λv z=>by rw[d]at z;injection z⟩
 .rintro X rfl rfl rfl hc i AB s σ H E I y st ⟨q,hi⟩;obtain⟨u,f1,f2,f3,f4,Z⟩:=y it<|ADv.mpr rfl;refine fh (I.ok.hd hc) st (I.AX a _ q).1 Q (λe h' he AL sb=>?_) λh' he=>?_
  .have O:e.key=.ref bs[i]:=by have:=AFX (·[i]?) hb;simp only[AEy,AEK,he,AEr,ADp hi,AEi]at this;exact this
   have D:Inv X AB σ H {s with heap:=h'}:=I.turned (t':=s.toks) (λb o hb e=>(sb.2 b hb).trans e) u f1 f3 f4 Z;obtain⟨o,F,c,d⟩:=id AL;exact⟨_,rfl,VQ (s:={s with heap:=h'}) F c d ADl ⟨.ref bs[i],H,D,O,⟨rfl,bs[i],ADp hi,rfl⟩,AL,λb hb=>(y b hb).1⟩⟩
  .have:=Array.getElem?_eq_none_iff.mp he;lia
 .rintro X rfl rfl rfl hc i AB s σ H E I y st ⟨q,hi⟩;obtain⟨u,f1,f2,f3,f4,Z⟩:=y it<|ADv.mpr rfl;refine fh (I.ok.hd hc) st (I.AX a _ q).1 Q (λe h' he=>?_) λh' he R=>⟨rfl,I.turned (t':=s.toks) (λb o hb e=>R b o hb e) u f1 f3 f4 Z⟩;have:=(AE4.mp he).1;lia
def ur(i:Nat):TI:=λσ H R=>∃a o AI,σ[i]? = some (some<|.ref a)/\H a=some (.BK o<|.dT AI)/\∀bs:List Addr,Paired (λ(p:List Key×V) b=>H b=some (.tup<|p.1.map kV)) AI bs->R (Ts a o AI bs) H
section
variable{X:Cx}{a b c e tg elt:Expr}{es ifs:List Expr}{fa fb fe f:EF}{g:GF}{t:BF}{pos p:Pos}{x:Str}{i own:Nat}{cap:List Nat}{scope:Scope}{Nb:List Str}
theorem yk(O:X.N[i]? = some x)(P:FG X.env.scope x)(hd:(x==("__debug__"))=false)(D:(x==("__classdict__"))=false):PI X tg (.Name x p)<|ur i:=by
 rintro AB s σ H R I ⟨a,o,AI,e,u,q⟩;refine Af (He O P hd D AB s σ H (λv H'=>v=.ref a/\H'=H) I ⟨_,e,rfl,rfl⟩) ?_;rintro v s1 ⟨x,F,y,B,rfl,rfl⟩;cases B;obtain⟨Z,z,ha,xs,rel,ob,es,ep,Y,G,h3,Q,S⟩:=y.AX a _ u;rw[Z]at Y;cases Y;refine vf ha Z G h3 ⟨s1.heap.objs.size,[s1.heap.objs.size],_,_,F,rfl,y.kept (t':=s1.toks) λb o e=>Heap.get?_push_of_some _ e,ACL (bs:=xs.map (·.2.1)) h3 ?_,⟨_,Heap.get?_push_size _ rfl,rfl,rfl⟩,λb hb=>?_,q _ ?_⟩
 .simp only[Q,AEH,AEH]
  rfl
 .obtain rfl:=ADv.mp hb;exact y.Qf (ADt _)<|y.AX.fresh<|ADt _
 .clear Q S q u z e
  induction rel with
  |nil=>exact .nil
  |cons h t ih=>exact .cons h.2.1 ih
noncomputable def Lw(G H:Hp):Hp:=λb=>match G b with|some o=>some o|none=>match H b with|some (.tup xs)=>some (.tup xs)|_=>none
theorem rY{G H:Hp}(s:AY G H):Al G H (Lw G H) H:=by
 refine⟨λb o h=>by unfold Lw;rw[h],AY.refl _,λb o h=>?_,λb m n=>?_⟩
 .unfold Lw at h;split at h
  .rename_i e;cases h;exact s _ _ e
  .split at h
   .rename_i e;cases h;exact e
   .contradiction
 .unfold Lw;rw[n];rcases m with h|h|h|h<;>simp only[h]
theorem jY{K:W.Frag}{G:Hp}:∀k:List Int,AQ K G (k.map PV.int) (k.map V.int)
 |[]=>rfl
 |_::k=>⟨_,_,rfl,rfl,jY k⟩
theorem vM{K:W.Frag}{G H:Hp}{a:Addr}{o:Obj}{ks:List (List Int)}{AI:List (List Key×V)}{bs:List Addr}(s:AY G H)(q:H a=some (.BK o<|.dT AI))(v:AI.map (·.1)=ks.map CL)(hb:Paired (λ(p:List Key×V) b=>H b=some (.tup<|p.1.map kV)) AI bs) :
 M8 (Ts a o AI bs) K (Lw G H) H (ks.map λk=>.tup<|k.map .int):=by
 refine⟨bs.map V.ref,?_,λH' s'=>⟨λi x e=>?_,s' _ _ q,by rw[ADo];exact ADt _⟩⟩
 .clear q
  induction hb generalizing ks with
  |nil=>
   cases ks with
   |nil=>rfl
   |cons k ks=>contradiction
  |cons h t ih=>
   cases ks with
   |nil=>contradiction
   |cons k ks=>
    simp only[AD0,AD0,AGa]at v;refine⟨_,_,rfl,⟨_,_,rfl,.inl<|.inl ?_,jY k⟩,ih v.2⟩;rw[v.1,RC]at h;unfold Lw;split
    .rename_i o e;rw[<-s _ _ e,h]
    .rw[h]
 .rw[AEy,AFO]at e;obtain⟨b,e,rfl⟩:=e;refine⟨⟨s' _ _ q,(ADw.mp e).1⟩,?_⟩;rintro y Ec ⟨rfl,b',u,rfl⟩;rw[e]at u;cases u;exact⟨rfl,rfl⟩
theorem zh(i:Nat)(hc:X.calm=true)(O:F9 X scope Nb own cap)(T:cap.Nodup)(E:Hr own g)(U:∀C s H fp AB,Ht (B7 X Nb scope C s H fp AB) tg g)(ht:∀C s H fp AB,J6 (B7 X Nb scope C s H fp AB) ifs t)(he:∀C s H fp AB,PX (B7 X Nb scope C s H fp AB) elt fe) (hN:X.N[i]? = some x) (hv:FG X.env.scope x) (hd:(x==("__debug__"))=false) (Ba:(x==("__classdict__"))=false) (hs:∀y,foldedSetIterable (.Name x p) X.env y=pure y):PX X (.ListComp elt [⟨tg,.Name x p,ifs,0⟩] scope pos)<|BH (Lo<|AD i) own cap g t fe:=by
 rintro AB s σ H Q I ⟨G,ρ,r,R,e,q⟩;have go:∀{H:Hp}{G:Hp}{ks:List (List Int)}{AI:List (List Key×V)}{a:Addr}{o:Obj}{zs:List PV}{Q:VK},Inv X AB σ H s->BW X.K G H ρ σ->σ[i]? = some (some<|.ref a)->H a=some (.BK o<|.dT AI)->AI.map (·.1)=ks.map CL->(ks.map λk=>PV.tup<|k.map .int).length<=1000->collect g t fe (Bf own cap ρ) (ks.map λk=>PV.tup<|k.map .int)=some zs->
  (∀v G' H',Al G H G' H'->Bo X.K H G' H' (.fr zs) v->Q v H')->wpAny (model X.prog X.w) X.A (eval (.ListComp elt [⟨tg,.Name x p,ifs,0⟩] scope pos) X.env) (λu s'=>∃v H',Inv X AB σ H' s'/\RelV v u/\Q v H') X.xe s:=λI R Y B P D Z q=>
  i9 (g:=Mh X.K g) (ti:=EY X.K t) (te:=tX X.K fe) hc O (yk hN hv hd Ba) U ht he hs AB s σ _ _ I (ku T E R D Z (λS h=>⟨_,_,_,Y,B,λbs pr=>h _ _ _ (rY R.sub)<|vM R.sub B P pr⟩) q)
 unfold BH Lo AD at e;cases hp:ρ[i]? with
 |none=>rw[hp]at e;contradiction
 |some sv=>
  rw[hp]at e;split at e
  .contradiction
  .rename_i xs ex;split at ex
   .rename_i ks ys F;cases ex;split at F
    .rename_i p' Es;cases Es;cases F;obtain⟨v,Y,a,AI,rfl,HK,P,rl⟩:=R.slot i _ hp;split at e
     .rename_i D;cases Z:collect g t fe (Bf own cap ρ) (ks.map λk=>PV.tup<|k.map .int)with
      |none=>rw[Z]at e;contradiction
      |some zs=>
       rw[Z]at e;cases e;rcases HK with ga|⟨o,ga⟩
       .have ha:=R.sub _ _ ga;have nz:=fG I (a:=a) λo u z=>by rw[ha]at z;cases z
        obtain⟨_,_,_,_,o,_,_,ho,_⟩:=id<|I.AX a _ ha;refine Af (go (WC I<|Fg.fz (by trivial) ha ho) (R.fz (o:=o) ga) Y Bu P D Z (Q:=λv H'=>H' a=some (.BK o<|.dT AI)/\Q v (upd H' a<|.dT AI)) λv G' H' st rv=>⟨st.hh _ _ Bu,q v _ _ (st.uz ga R.sub) ?_⟩) ?_
        .obtain⟨b,vs,rfl,n,g',hb,rp⟩:=rv;have ne:b≠a:=λz=>by rw[z,Bu]at n;contradiction
         rw[Av ne]at n;exact⟨b,vs,rfl,n,by rw[Av ne];exact g',by rw[Av ne];exact hb,AQ.vw (ACY<|st.gg _ _ Bu) rp⟩
        .rintro u s' ⟨v,H',I',ru,sT,hq⟩;exact⟨v,_,WC I' (Fg.uz (by trivial) sT nz),ru,hq⟩
       .exact go I R Y (R.sub _ _ ga) P D Z q
     .contradiction
    .cases F
    .cases F
    .contradiction
   .contradiction
def ABn(K:W.Frag)(u ty:TE):TE:=λσ H Q=>u σ H λx Z=>ty σ Z λy q=>∃a b AI k v,x=.ref a/\y=.ref b/\Rd q a (.dT AI)/\BS K q b (k.map kV)/\F8 AI k=some v/\Q v q
theorem yS{Z ty:TE}(O:X.A.units+1<cLine)(ho:PE X a Z)(hi:PE X b ty)(hs:NF b):PE X (.Subscript a b pos)<|ABn X.K Z ty:=by intro AB s σ H Q I h;refine kL AHl.lookup hs<|Af (ho AB s σ H _ I h) ?_;rintro u s1 ⟨x,P,D,F,R⟩;refine Af (hi AB s1 σ P _ D R) ?_;rintro B s2 ⟨y,G,q,S,a,b,AI,k,v,rfl,rfl,e,T,l,C⟩;obtain rfl:u=Value.ref a:=F;obtain rfl:B=Value.ref b:=S;obtain⟨z,hd,xs,rel,Y⟩:=QQ q.AX e;obtain⟨w',E,U⟩:=Ff.some_of (v:=v) (o:=(atKey xs k).map (·.2)) (by rw[<-l];exact rel.val k);obtain⟨p,hp,Kl⟩:=AFO.mp E;obtain⟨its,r,⟨o,h1,h2,n,h3⟩,_⟩:=q.tuple T;refine⟨Y.typeIs,wpAny_getItem_heap (tupleKind_room_in1 O) ⟨o,its.toArray,n,h1,h2,h3,by simpa using WD r⟩ Y hp ?_⟩;rw[Kl];exact⟨v,G,q.tok _,U,C⟩
theorem zk(Z:X.A.units+1<cLine)(ha:PX X a fa)(hb:PX X b fb)(hs:NF b):PX X (.Subscript a b pos)<|f2 OO fa fb:=PE.imp (yS Z ha hb hs) (by
 rintro σ H Q ⟨G,ρ,z,R,e,q⟩;unfold f2 at e;split at e
 .contradiction
 .rename_i x ex;split at e
  .contradiction
  .rename_i y Y;unfold OO at e;split at e
   .rename_i ks xs k;split at e
    .rename_i ns O;obtain⟨p,P,rfl⟩:=AFO.mp e;refine⟨G,ρ,_,R,ex,λv D H1 s1 rv=>⟨D,ρ,_,R.step s1,Y,λu G2 H2 s2 F=>?_⟩⟩;obtain⟨a,AI,rfl,B,S,rl⟩:=rv.step s2;obtain⟨b,us,rfl,hb,rb⟩:=F;obtain rfl:=L7 O rb;obtain⟨w,T,C⟩:=Ug S rl P;exact⟨a,b,AI,CL ns,w,rfl,rfl,Rd.same s2.sub B,by rw[RC];exact BS.same s2.sub hb,T,q w _ _ (s1.trans s2) C⟩
    .contradiction
   .contradiction)
end
theorem zH{X:Cx}{st:List Stmt}{t t':TS}(h:C5 X st t)(i:∀AB s σ H D,Inv X AB σ H s->t' D σ H->∃H',Inv X AB σ H' s/\t D σ H'):C5 X st t':=λAB s σ H D I q=>by obtain⟨H',y,v⟩:=i AB s σ H D I q;exact h AB s σ H' D y v
def YH(ρ:AS):Prop:=∀(k:Nat)(sv:SV),ρ[k]? = some (some sv)->∃p,sv=.im p
theorem BW.top{K:W.Frag}{G H H':Hp}{ρ:AS}{σ:St}(R:BW K G H ρ σ)(A:YH ρ)(s:AY H H'):BW K H' H' ρ σ:=by
 refine⟨AY.refl _,λi sv e=>?_,λi j x y a b _ e o=>?_,R.len⟩
 .obtain⟨v,u,q⟩:=R.slot i sv e;obtain⟨p,rfl⟩:=A i sv e;exact⟨v,u,Rep.same (R.sub.trans s) q⟩
 .obtain⟨p,rfl⟩:=A i x e
  contradiction
noncomputable def oneAt(h:Addr)(H:Hp):Hp:=λb=>if b=h then H b else none
theorem xR{h:Addr}{H:Hp}:AY (oneAt h H) H:=λb o e=>by
 unfold oneAt at e;split at e
 .exact e
 .contradiction
noncomputable def Gn(H y:Hp):Hp:=λb=>match H b with|some _=>y b|none=>match y b with|some (.BK _<|.lst xs)=>some (.lst xs)|o=>o
theorem ACE{H y:Hp}(s:AY H y):AY H<|Gn H y:=λb o e=>by unfold Gn;rw[e];exact s _ _ e
theorem ky{H y:Hp}{b:Addr}{xs:List V}(n:H b=none)(r:Rd y b<|.lst xs):Gn H y b=some (.lst xs):=by unfold Gn;rw[n];rcases r with r|⟨o,r⟩<;>rw[r]
theorem kz{H y:Hp}:Vw y<|Gn H y:=λb u q r=>by
 delta Rd Gn
 cases H b with
 |some _=>exact r
 |none=>
  rcases r with r|⟨o,r⟩
  .rw[r];dsimp only;split
   .rename_i z;exact absurd (AEU z) (q _ _)
   .exact .inl rfl
  .rw[r];dsimp only;split
   .rename_i z;cases z;exact .inl rfl
   .exact .inr ⟨o,rfl⟩
theorem ACF{AU H y:Hp}{h:Heap}(n:∀b,H b=none->∀o u,AU b≠some (.BK o u)):Fg AU h y<|Gn H y:=λb=>by
 unfold Gn;cases e:H b with
 |some _=>exact .inl rfl
 |none=>
  dsimp only;split
  .rename_i o xs z;exact .inr<|.inl ⟨o,.lst xs,trivial,z,rfl,n b e⟩
  .exact .inl rfl
noncomputable def wo(a b:Addr)(H:Hp):Hp:=λc=>if c=a\/c=b then none else H c
theorem lQ{a b c:Addr}{H:Hp}(y:c≠a)(q:c≠b):wo a b H c=H c:=ADs λz=>z.elim y q
theorem YC{a b:Addr}{H H':Hp}(h:∀c o,c≠a->c≠b->H c=some o->H' c=some o):AY (wo a b H) H':=λc o e=>by
 unfold wo at e;split at e
 .contradiction
 .rename_i z;exact h c o (λy=>z<|.inl y) (λy=>z<|.inr y) e
section
variable{X:Cx}{AB:List (Addr×Obj)}{σ:St}{H:Hp}{s:Shared}
theorem Wq(I:Inv X AB σ H s){b:Addr}{xs ys:List V}(h:BS X.K H b xs)(h':Rd H b<|.lst ys):False:=by obtain⟨_,_,⟨o,e,c,_⟩,_⟩:=I.tuple h;obtain⟨_,_,n,_,y⟩:=h'.ok I.AX;rw[e]at y;cases y;simp at c
theorem SI{b:Addr}{xs ys:List V}(h:Rd H b<|.lst xs)(h':Rd H b<|.lst ys):xs=ys:=by rcases h with h|⟨_,h⟩<;>rcases h' with h'|⟨_,h'⟩<;>(rw[h]at h';cases h'<;>rfl)
theorem iw(I:Inv X AB σ H s):∀{r t:List (Int×Int)}{vs:List V},Paired (GD X.K H) r vs->Paired (GD X.K H) t vs->r=t
 |_,_,_,.nil,.nil=>rfl
 |_,_,_,.cons h t,.cons h' t'=>by obtain⟨a,rfl,q⟩:=h;obtain⟨b,z,y⟩:=h';cases z;have e:=I.ACJ q y;rw[AGa,AGa]at e;simp only[iw I t t',AEt (V.int.inj e.1)<|V.int.inj e.2.1]
theorem Rz{K:W.Frag}{a b:Addr}{xs ys:List V}(ha:H a=some (.lst xs))(hb:H b=some (.lst ys)):∀{r:List (Int×Int)}{vs:List V},Paired (GD K H) r vs->AQ K (wo a b H) (r.map λp=>.tup [.int p.1,.int p.2]) vs
 |_,_,.nil=>rfl
 |_,_,.cons h t=>by
  obtain⟨c,rfl,q⟩:=h;refine⟨_,_,rfl,⟨c,_,rfl,?_,⟨_,_,rfl,rfl,_,_,rfl,rfl,rfl⟩⟩,Rz ha hb t⟩;rcases q with q|q
  .have n:∀{d:Addr}{zs:List V},H d=some (.lst zs)->c≠d:=λe z=>by subst z;rcases q with q|⟨_,q⟩<;>(rw[e]at q;cases q)
   refine .inl ?_;unfold Rd;rw[lQ (n ha)<|n hb];exact q
  .exact .inr q
theorem jq(I:Inv X AB σ H s){a b:Addr}{us ws:List V}{y:List (Int×Int)}(ha:H a=some (.lst (.ref b::us)))(hb:H b=some (.lst ws))(v:Paired (GD X.K H) y ws):∀{rs:List (List<|Int×Int)}{vs:List V},y∉rs->Paired (LY X.K H) rs vs->AQ X.K (wo a b H) (rs.map D8) vs
 |_,_,_,.nil=>rfl
 |_,_,n,.cons h t=>by
  obtain⟨c,vs,rfl,q,p⟩:=h;rw[AEN,not_or]at n;have u:c≠b:=λz=>by subst z;rw[SI q<|.inl hb]at p;exact n.1<|iw I v p
  have Z:c≠a:=λz=>by
   subst z;rw[SI q<|.inl ha]at p;cases p with
   |cons h _=>
    obtain⟨d,z,q⟩:=h;cases z;exact Wq I q<|.inl hb
  refine⟨_,_,rfl,⟨c,vs,rfl,?_,Rz ha hb p⟩,jq I ha hb v n.2 t⟩;unfold Rd;rw[lQ Z u];exact q
end
theorem Ry{K:W.Frag}{G:Hp}:∀{r:List (Int×Int)}{vs:List V},AQ K G (r.map λp=>.tup [.int p.1,.int p.2]) vs->Paired (GD K G) r vs
 |[],_,h=>by cases h;exact .nil
 |_::_,_,h=>by obtain⟨_,_,rfl,⟨a,_,rfl,q,⟨_,_,rfl,rfl,_,_,rfl,rfl,rfl⟩⟩,t⟩:=h;exact .cons ⟨a,rfl,q⟩<|Ry t
theorem jm{K:W.Frag}{G:Hp}:∀{rs:List (List<|Int×Int)}{vs:List V},AQ K G (rs.map D8) vs->Paired (LY K G) rs vs
 |[],_,h=>by cases h;exact .nil
 |_::_,_,h=>by obtain⟨_,_,rfl,⟨a,vs,rfl,q,p⟩,t⟩:=h;exact .cons ⟨a,vs,rfl,q,Ry p⟩<|jm t
noncomputable def MR(h:Nat)(ρ:AS):AS:=(List.replicate ρ.length none).set h (ρ[h]?).join
def nD(h i j:Nat)(f1 f2:EF)(q:BF)(v:AF)(Z:BF)(Y:EF)(ρ:AS):Prop:=∃(u hs:List PV)(y:List<|Int×Int)(rs:List<|List<|Int×Int)(m:Int),YH ρ/\i<ρ.length/\j≠i/\ρ[h]? = some (some<|.im<|.lst (.tup u::hs))/\PV.JV (.tup u::hs)=true/\f1 (MR h ρ)=some (.cl<|.lst<|(y::rs).map D8)/\y∉rs/\y.length≠hs.length+1/\y.length<1000/\f2 (ρ.set i<|some<|.im<|.lst<|(y::rs).map D8)=some (.cl<|.int m)/\q ((ρ.set i<|some<|.im<|.lst<|(y::rs).map D8).set j<|some<|.im<|.int m)=some false/\v ((ρ.set i<|some<|.im<|.lst<|(y::rs).map D8).set j<|some<|.im<|.int m)=some [.cl<|.tup [.int 0,.int 0]]/\Z ((ρ.set i<|some<|.im<|.lst<|((y ++ [(0,0)])::rs).map D8).set j<|some<|.im<|.int m)=some false/\Y ((ρ.set i<|some<|.im<|.lst []).set j<|some<|.im<|.int m)=some (.cl<|.bl true)
open Classical in
def Nt(h i j:Nat)(f1 f2:EF)(y:BF)(q:AF)(v:BF)(u:EF):SF:=λρ=>if nD h i j f1 f2 y q v u ρ then some (.rt<|.cl<|.bl true)else none
section
variable{X:Cx}{Ae AU:Hp}{h i j:Nat}{f1 f2 f7:EF}{b3 b5:BF}{g4:AF}{c3 c5:Expr}{t1 t2 t4 t6 t7:Stmt}{UO UP:List Stmt}{q3 q5:Pos}
theorem AAo(s1:PS X t1<|Mf (tX X.K f1)<|KY i)(s2:PS X t2<|Mf (tX X.K f2)<|KY j)(s3:C6 X c3 b3)(U:PS X t4<|Su<|Xx X.K "list" XG (Mg (XM X.K) (O9 i)<|tC<|.int 0)<|Sw X.K g4)(s5:C6 X c5 b5)(B:PS X t6<|Su<|kc X.K "list" jP<|O9 i)(s7:PS X t7<|kh<|tX X.K f7) : Ed X Ae AU [t1,t2,.If c3 UO [] q3,t4,.If c5 UP [] q5,t6,t7]<|Nt h i j f1 f2 b3 g4 b5 f7:=by
 rintro AB s σ H D I ⟨G,ρ,o,S,e,k⟩;unfold Nt at e;split at e
 .rename_i T;cases e;obtain⟨u,hs,r0,rs,m,A,il,ji,eh,fl,e1,n0,ln,l9,e2,e3,e4,e5,e7⟩:=T;have R:=S.r;obtain⟨v,ev,hd,vs,rfl,qh,XT⟩:=R.slot h _ eh;have nz:∀b,H b=none->∀o u,X.AU b≠some (.BK o u):=λb n=>fG I λo u z=>by rw[n]at z;contradiction
  have sg:AY (oneAt hd H) H:=xR;have Md:=dF sg (AY.refl H)<|AY.refl H;have rf:=AQ.flat sg (AY.refl H) (AY.refl H) fl<|AQ.same R.sub XT;have gs:∀{o},H hd=some o->FL (oneAt hd H) H H hd=some o:=λz=>Md.gg _ _ (by unfold oneAt;rw[ADr rfl];exact z);have gn:∀{c},Mu H c->c≠hd->FL (oneAt hd H) H H c=none:=λz n=>Md.ex _ z<|ADs n;generalize FL (oneAt hd H) H H=Gs at Md rf gs gn;have jO:Rd H hd<|.lst vs:=Rd.same R.sub qh;have qs:Rd Gs hd<|.lst vs:=by
   rcases jO with z|⟨o,z⟩
   .exact .inl<|gs z
   .exact .inr ⟨o,gs z⟩
  have Rs:BW X.K Gs H (MR h ρ) σ:=by
   have sl:∀k sv,(MR h ρ)[k]? = some (some sv)->k=h/\sv=.im (.lst (.tup u::hs)):=λk sv z=>by
    unfold MR at z;rw[eh]at z;rcases get_set z with⟨z1,z2⟩|⟨_,z⟩
    .exact⟨z1,z2.symm⟩
    .rw[AFs]at z;split at z<;>nomatch z
   refine⟨Md.sub,λk sv z=>?_,λk l x y a b n z o=>?_,by unfold MR;rw[List.length_set,AFi,R.len]⟩
   .obtain⟨rfl,rfl⟩:=sl k sv z;exact⟨_,ev,hd,vs,rfl,qs,rf⟩
   .obtain⟨rfl,rfl⟩:=sl k x z
    contradiction
  have tl7:C5 X [t2,.If c3 UO [] q3,t4,.If c5 UP [] q5,t6,t7] (λD1 Gq Q=>D1=D/\∃v O,Gq=σ.set i (some v)/\Al Gs H O Q/\Rep X.K O (.lst<|(r0::rs).map D8) v):=
   zH (K9 s2<|K9 (XA s3 (t:=λ_ _ _=>False) (λ_ _ _ _ _ _ z=>z.elim) XB)<|K9 U<|K9 (XA s5 (t:=λ_ _ _=>False) (λ_ _ _ _ _ _ z=>z.elim) XB)<|K9 B<|jM s7) (by
    rintro AB s1 Gq Q D1 I1 ⟨rfl,v,O,rfl,st,a,_,rfl,qa,w,us,rfl,⟨b,ws,rfl,qb,rb⟩,rr⟩;have fresh:∀{c zs},Rd O c (.lst zs)->c≠hd->H c=none:=λ{c zs} r n=>by
     cases hc:H c with
     |none=>rfl
     |some o=>
      have h1:=st.hh _ _ hc;have mu:Mu H c:=by
       rcases r with r|⟨o',r⟩
       .rw[st.sub _ _ r]at h1;cases h1;exact .l hc
       .rw[st.sub _ _ r]at h1;cases h1;exact .f hc
      have z:=st.ex c mu<|gn mu n;rcases r with r|⟨_,r⟩<;>(rw[z]at r;contradiction)
    have XF:=Rd.same st.sub qa;have SG:=Rd.same st.sub qb;have q1:=Rd.same st.hh jO;have bh:b≠hd:=λz=>by rw[z]at SG;have:=SI SG q1;have l1:=rb.len;have l2:=XT.len;rw[ADo]at l1;simp only[AD5]at l2;rw[this]at l1;lia
    have ah:a≠hd:=λz=>by rw[z]at XF;have z:=SI XF q1;subst z;obtain⟨_,_,y,⟨t,_,rfl,qt,_⟩,_⟩:=XT;cases y;exact Wq I1 (BS.same (R.sub.trans st.hh) qt) SG
    have na:=fresh qa ah;have nb:=fresh qb bh;have I':=WC I1<|ACF nz;have C:=ACE st.hh;have ha:=ky na XF;have hb:=ky nb SG;have p0:=Ry<|AQ.vw kz (H':=Gn H Q)<|AQ.same st.sub rb;have p2:=jm<|AQ.vw kz (H':=Gn H Q)<|AQ.same st.sub rr;generalize Gn H Q=H' at I' C ha hb p0 p2;have ab:a≠b:=λz=>by
     subst z;rw[ha]at hb;cases hb;cases p0 with
     |cons h _=>
      obtain⟨d,z,q⟩:=h;cases z;exact Wq I' q<|.inl ha
    have r1:=Rz ha hb p0;have r2:=jq I' ha hb p0 n0 p2;have Z:∀{E:Hp}{q:List (Int×Int)}{lV:List V},AY (wo a b H') E->E a=some (.lst (.ref b::us))->E b=some (.lst lV)->AQ X.K E (q.map λp=>.tup [.int p.1,.int p.2]) lV->Rep X.K E (.lst<|(q::rs).map D8) (.ref a):=λP ea eb rq=>⟨a,_,rfl,.inl ea,_,_,rfl,⟨b,_,rfl,.inl eb,rq⟩,AQ.same P r2⟩;have P:AY (wo a b H') H':=YC λ_ _ _ _ z=>z;have gi:((σ.set i<|some<|.ref a).set j<|some<|.int m)[i]? = some (some<|.ref a):=by rw[AEb ji,set_slot (by rw[<-R.len];exact il)]
    refine⟨H',I',H',_,_,(R.top A C).Dh<|Z P ha hb<|AQ.same P r1,e2,λv2 G2 H2 s2 XY=>?_⟩;obtain rfl:=XY.int;have jt:=P.trans s2.hh;have R3:=((R.top A<|C.trans s2.hh).Dh (i:=i)<|Z jt (s2.hh _ _ ha) (s2.hh _ _ hb)<|AQ.same jt r1).Dh (i:=j) (p:=.int m) (v:=.int m) rfl;refine⟨H2,_,false,R3,e3,λG3 H3 s3=>?_⟩;refine fI ?_;have h3:=s2.hh.trans s3.hh;have ju:=P.trans h3;have R3:=((R.top A<|C.trans h3).Dh (i:=i)<|Z ju (h3 _ _ ha) (h3 _ _ hb)<|AQ.same ju r1).Dh (i:=j) (p:=.int m) (v:=.int m) rfl;refine⟨_,gi,a,_,0,.ref b,rfl,rfl,.inl<|.inl<|h3 _ _ ha,by simp[CP,Gb],.inl ⟨rfl,ws,.inl<|.inl<|h3 _ _ hb⟩,H3,_,_,R3,e4,λvs4 G4 Y U rv4=>?_⟩;obtain⟨t,rfl,rt⟩:=rv4.one;have F:=h3.trans U.hh;have rt:Paired (GD X.K Y) [(0,0)] [t]:=Ry ⟨_,_,rfl,Rep.same U.sub rt,rfl⟩;have r4:=Rz (F _ _ ha) (F _ _ hb) rt;have l1:=rb.len;rw[ADo]at l1;refine⟨b,ws,t,rfl,rfl,F _ _ hb,Xk J,?_⟩;have sU:AY H<|upd Y b<|.lst<|ws ++ [t]:=λc o z=>by rw[Av<|Dv z nb];exact F _ _<|C _ _ z
    have Xd:AY (wo a b H')<|upd Y b<|.lst<|ws ++ [t]:=YC λc o _ n z=>by rw[Av n];exact F _ _ z
    have sV:AY (wo a b Y)<|upd Y b<|.lst<|ws ++ [t]:=YC λc o _ n z=>by rw[Av n];exact z
    have Ql:upd Y b (.lst<|ws ++ [t]) a=some (.lst (.ref b::us)):=by rw[Av ab];exact F _ _ ha
    have R5:=((R.top A sU).Dh (i:=i)<|Z (q:=r0 ++ [(0,0)]) Xd Ql Bu (by rw[AEl];exact AQ.of<|K5 (AQ.same Xd r1).paired (AQ.same sV r4).paired)).Dh (i:=j) (p:=.int m) (v:=.int m) rfl;generalize upd Y b (.lst<|ws ++ [t])=H5 at sU Xd sV Ql R5;refine⟨H5,_,false,R5,e5,λG6 H6 B=>?_⟩;refine fI ?_;refine⟨_,gi,.inl ⟨rfl,_,.inl<|.inl<|B.hh _ _ Ql⟩,a,_,rfl,rfl,B.hh _ _ Ql,?_⟩;have sX:AY H<|upd H6 a<|.lst []:=λc o z=>by rw[Av<|Dv z na];exact B.hh _ _<|sU _ _ z
    have R7:=((R.top A sX).Dh (i:=i) (p:=.lst []) (v:=.ref a) ⟨a,[],rfl,.inl Bu,rfl⟩).Dh (i:=j) (p:=.int m) (v:=.int m) rfl;refine⟨_,_,_,R7,e7,λv8 G8 H8 s8 rv8=>k v8 Ae H8 ⟨AY.refl _,S.hh.trans<|sX.trans s8.hh,S.gg.trans<|R.sub.trans<|sX.trans s8.hh,λ_ _ n=>n⟩ rv8⟩)
  exact K9 s1 tl7 AB s σ H D I ⟨Gs,MR h ρ,_,Rs,e1,λv O Q st rv=>⟨rfl,v,O,rfl,st,rv⟩⟩
 .contradiction
theorem AAp(h i j:Nat){x y:Str}{Q O q B:Expr}{es:List Expr}{k4}{G p2 v u Z Y P cp D R S T C E n:Pos}(H:X.N.Nodup)(t:PX X Q f1)(b:PX X O f2)(h3:C6 X c3 b3)(e:Co X (q::es) g4)(h5:C6 X c5 b5)(h7:PX X B f7) (hi:X.N[i]? = some x:=by rfl) (hj:X.N[j]? = some y:=by rfl) (hx:Loc X.env.scope x:=by first|exact Or.inl rfl|exact Or.inr rfl) (hy:Loc X.env.scope y:=by first|exact Or.inl rfl|exact Or.inr rfl) (OD:swapsWith Q (some<|.Name x G) S.line X.env=pure false:=by rfl) (IW:swapsWith O (some<|.Name y p2) T.line X.env=pure false:=by rfl) (tL:X.fn x=true\/X.env.scope.names.lookup x=some .local:=by first|exact .inl rfl|exact .inr rfl) (tM:X.fn y=true\/X.env.scope.names.lookup y=some .local:=by first|exact .inl rfl|exact .inr rfl) (I:FG X.env.scope x:=by first|exact Or.inl rfl|exact Or.inr (Or.inl rfl)|exact Or.inr<|Or.inr rfl) (hd:(x==("__debug__"))=false:=by decide) (U:(x==("__classdict__"))=false:=by decide) (se:attributeBase (.Subscript (.Name x v) (.Constant (.int 0) k4 u) Z) "append" X.env (eval (.Subscript (.Name x v) (.Constant (.int 0) k4 u) Z) X.env)=eval (.Subscript (.Name x v) (.Constant (.int 0) k4 u) Z) X.env:=by rfl) (GV:((backTo cp<|starEach (q::es) X.env).all (λx=>!x.1)&&(backToKw cp<|keywordEach [] X.env).all (λx=>x.1.isSome)
  && decide ((q::es).length+([]:List Keyword).length+(if([]:List Keyword).isEmpty then 0 else 1)<30))=true:=by rfl)
 (tx:(P.endLine==cp.line)=true:=by rfl) (Et:starEach (q::es) X.env=(false,eval q X.env)::starEach es X.env:=by rfl) (Km:(backTo cp<|starEach es X.env).any (·.1)=false:=by rfl)
 (uf:swapsWith (.Call (.Attribute (.Subscript (.Name x v) (.Constant (.int 0) k4 u) Z) "append" P) (q::es) [] cp) none C.line X.env=pure false:=by rfl)
 (sf:attributeBase (.Name x Y) "clear" X.env (eval (.Name x Y) X.env)=eval (.Name x Y) X.env:=by rfl) (t5:(D.endLine==R.line)=true:=by rfl) (ug:swapsWith (.Call (.Attribute (.Name x Y) "clear" D) [] [] R) none E.line X.env=pure false:=by rfl) :
 Ed X Ae AU [.Assign [.Name x G] Q S,.Assign [.Name y p2] O T,.If c3 UO [] q3,.Expr (.Call (.Attribute (.Subscript (.Name x v) (.Constant (.int 0) k4 u) Z) "append" P) (q::es) [] cp) C,.If c5 UP [] q5,.Expr (.Call (.Attribute (.Name x Y) "clear" D) [] [] R) E,.Return (some B) n] (Nt h i j f1 f2 b3 g4 b5 f7):=
 AAo (Ox H hi hx t OD tL) (Ox H hj hy b IW tM) h3 (Ow (W7 AGV AHu AHv Wl (jB fM (He hi I hd U) W8 λ_ _=>rfl) e se GV tx Et Km) uf) h5
  (Ow (yN AGV PySem.F.slot_list_clear PySem.F.type_list_clear wk (He hi I hd U) sf t5) ug) (SA h7)
end
end L2.PL
namespace L2.K
open L2.PL
noncomputable abbrev CW:=(AG (AD 0) AO)
noncomputable abbrev Cp:=(fB EO CW)
noncomputable abbrev Dp:=(f2 Am (AD 0)<|fC<|.int 0)
noncomputable abbrev aZ:=(f2 BY (f2 As (f2 DU (f2 BY (AD 2)<|fC<|.int 65521)<|fC<|.int 48271)<|f2 DU (AD 1)<|fC<|.int 30103)<|fC<|.int 65521)
def Zb:SF:=(AM (A2 (AV<|f2 Cf (AD 1) Cp) (Az<|f2 Am (AD 0)<|AD 1) BI)<|AM (Aa 2<|fC<|.int 0)<|AM (A2 (AV<|f2 Cv Cp<|fC<|.int 0) (Aa 2 Dp) BI)<|Az aZ)
def E9:List PV->Option RV:=denote 3 2 Zb
noncomputable abbrev II:=(f2 Am (AD 1)<|fC<|.int 0)
noncomputable abbrev bS:=(f2 BL II Dp)
noncomputable abbrev Fo:=(f2 Am (AD 1)<|fC<|.int 1)
noncomputable abbrev Eg:=(f2 Am (AD 0)<|fC<|.int 1)
noncomputable abbrev bU:=(f2 BL Fo Eg)
noncomputable abbrev bV:=(f2 BL (f2 Am (AD 2)<|fC<|.int 1) Eg)
noncomputable abbrev bW:=(f2 BL (f2 Am (AD 2)<|fC<|.int 0) Dp)
def qA:SF:=(AM (JX 3 4<|AG bS<|AG bU AO)<|Az<|f2 BL (f2 DU (AD 3) bV)<|f2 DU (AD 4) bW)
def FA:List PV->Option RV:=denote 5 3 qA
noncomputable abbrev Nc:=(AG Cp AO)
noncomputable abbrev KH:=(Cs Nc)
noncomputable abbrev QN:=(f2 BL (AD 1)<|fC<|.int 1)
noncomputable abbrev NZ:=(f2 Am (AD 0) QN)
noncomputable abbrev aI:=(f2 B0 (AW FA<|AG (f2 Am (AD 0)<|f2 BL (AD 1)<|fC<|.int 2)<|AG NZ<|AG (f2 Am (AD 0)<|AD 1) AO)<|fC<|.int 0)
noncomputable abbrev Lj:=(Az<|fC<|.bl true)
noncomputable abbrev Z9:=(A2 (AV aI) Lj BI)
noncomputable abbrev Dc:=(Az<|fC<|.bl false)
def Zc:SF:=(AM (CK KH (Aj 1) Z9) Dc)
def PU:List PV->Option RV:=denote 2 1 Zc
noncomputable abbrev Uq:=(AW E9<|AG (AD 0)<|AG (f2 As (AD 1)<|fC<|.int 1) AO)
noncomputable abbrev QO:=(f2 BL (AD 2)<|fC<|.int 1)
noncomputable abbrev Ut:=(AG (fC<|.int 1)<|AG QO AO)
noncomputable abbrev QJ:=(A2 (AV<|f2 B0 (f2 BY (AD 8)<|fC<|.int 2)<|fC<|.int 0) (DT 5 FR<|AG (BA<|AG (AD 4)<|AG (f2 BL (fC<|.int 0)<|AD 9) AO) AO)<|DT 6 FR<|AG (BA<|AG (AD 4)<|AG (AD 9) AO) AO)
noncomputable abbrev Ui:=(AM (Aa 8<|AW E9<|AG (AD 0)<|AG (f2 As (f2 As (AD 1)<|fC<|.int 4)<|AD 7) AO)<|AM (Aa 4<|f2 As (f2 As (AD 4)<|fC<|.int 1)<|f2 BY (f2 De (AD 8)<|fC<|.int 2)<|fC<|.int 4)<|AM (Aa 9<|f2 As (fC<|.int 1)<|f2 BY (f2 De (AD 8)<|fC<|.int 8)<|fC<|.int 9)<|AM (A2 (AV<|f2 B0 (AD 3)<|fC<|.int 3) (AM (Aa 4<|AD 7)<|Aa 9<|f2 DU (AD 7)<|f2 BL QO<|AD 7) BI) QJ)
noncomputable abbrev NY:=(AG (fC<|.int 0) AO)
noncomputable abbrev Uu:=(BA<|AG (fC<|.int 0) NY)
noncomputable abbrev aK:=(f2 As (f2 As (CB<|AG Uu AO)<|AD 5)<|CB<|AG (BA<|AG (f2 As (AD 4)<|fC<|.int 1) NY) AO)
noncomputable abbrev IE:=(AG (AD 2) AO)
noncomputable abbrev aw:=(BA<|AG (AD 0)<|AG (f2 BL (fC<|.int 0)<|f2 DU (AD 0)<|f2 BL QN<|AD 0) AO)
def Zi:SF:=(AM (Aa 3<|f2 BY Uq<|fC<|.int 4)<|AM (Aa 4<|fC<|.int 0)<|AM (Eo 5<|CB AO)<|AM (Eo 6<|CB AO)<|AM (CK (EI Ut) (Aj 7) Ui)<|AM (Aa 10<|f2 As aK<|GP<|AD 6)<|AM (A2 (AV<|AW PU<|AG (AD 10) AO) (Aa 10<|BH (Cs IE) 1 [2] (Aj 0) Bk aw) BI)<|Az<|AD 10)
def Tf:List PV->Option RV:=denote 11 3 Zi
noncomputable abbrev Uj:=(AM (Aa 5<|AW E9<|AG (AD 0)<|AG (f2 As (f2 As (AD 1)<|fC<|.int 5)<|AD 4) AO)<|AM (DT 2 FR<|AG (f2 As (f2 As (f2 Am (AD 2)<|Lp<|fC<|.int 1)<|fC<|.int 1)<|f2 BY (AD 5)<|fC<|.int 4) AO)<|DT 3 FR<|AG (f2 As (f2 As (f2 Am (AD 3)<|Lp<|fC<|.int 1)<|fC<|.int 1)<|f2 BY (f2 De (AD 5)<|fC<|.int 4)<|fC<|.int 4) AO)
noncomputable abbrev GN:=(JY 2<|Fq (Aj 0)<|Fq (Aj 1) Kb)
def qC:SF:=(AM (Eo 2<|CB NY)<|AM (Eo 3<|CB NY)<|AM (CK (Cs<|AG (fC<|.int 5) AO) (Aj 4) Uj)<|AM (Aa 6<|CB<|AG Uu<|AG (BA<|AG (fC<|.int 5) NY)<|AG (BA<|AG (fC<|.int 5)<|AG (fC<|.int 5) AO)<|AG (BA<|AG (fC<|.int 1)<|AG (fC<|.int 5) AO)<|AG (BA<|AG (fC<|.int 1)<|AG (fC<|.int 2) AO)<|AG (BA<|AG (fC<|.int 3)<|AG (fC<|.int 2) AO)<|AG (BA<|AG (fC<|.int 3)<|AG (fC<|.int 3) AO)<|AG (BA<|AG (fC<|.int 2)<|AG (fC<|.int 3) AO)<|AG (BA<|AG (fC<|.int 2)<|AG (fC<|.int 4) AO)<|AG (BA<|AG (fC<|.int 4)<|AG (fC<|.int 4) AO)<|AG (BA<|AG (fC<|.int 4)<|AG (fC<|.int 1) AO)<|AG (BA<|AG (fC<|.int 0)<|AG (fC<|.int 1) AO) AO)<|Az<|BH (B9 false<|AD 6) 2 [2,3] GN Bk<|BA<|AG (f2 Am (AD 2)<|AD 0)<|AG (f2 Am (AD 3)<|AD 1) AO)
def Th:List PV->Option RV:=denote 7 2 qC
noncomputable abbrev bF:=(JX 3 4<|AG (f2 Am (AD 0) QO)<|AG (f2 Am (AD 0)<|AD 2) AO)
noncomputable abbrev bY:=(AM bF<|Aa 1<|f2 BL (f2 As (AD 1)<|f2 DU (f2 Am (AD 3)<|fC<|.int 0)<|f2 Am (AD 4)<|fC<|.int 1)<|f2 DU (f2 Am (AD 3)<|fC<|.int 1)<|f2 Am (AD 4)<|fC<|.int 0)
def Za:SF:=(AM (Aa 1<|fC<|.int 0)<|AM (CK KH (Aj 2) bY)<|Az<|AD 1)
def TZ:List PV->Option RV:=denote 5 1 Za
noncomputable abbrev Uv:=(AG (AD 0)<|AG (AD 1) IE)
noncomputable abbrev Ux:=(AG II AO)
noncomputable abbrev bJ:=(AG Dp Ux)
noncomputable abbrev Um:=(AG Eg<|AG Fo AO)
def Zh:SF:=(AM (A2 (AV<|f2 C0 (AW FA Uv)<|fC<|.int 0) Dc BI)<|AM (Aa 3<|BA<|AG (fB HS bJ)<|AG (fB HS Um) AO)<|AM (Aa 4<|BA<|AG (fB Fv bJ)<|AG (fB Fv Um) AO)<|Az<|DR (Ej Cw Cw (f2 Am (AD 3)<|fC<|.int 0) (f2 Am (AD 2)<|fC<|.int 0)<|f2 Am (AD 4)<|fC<|.int 0)<|Ej Cw Cw (f2 Am (AD 3)<|fC<|.int 1) (f2 Am (AD 2)<|fC<|.int 1)<|f2 Am (AD 4)<|fC<|.int 1)
def Mw:List PV->Option RV:=denote 5 3 Zh
noncomputable abbrev Fm:=(AG (AD 3) AO)
noncomputable abbrev ak:=(Aa 4<|CB<|AG (BA Uv)<|AG (BA<|AG (AD 0)<|AG (AD 1) Fm) AO)
noncomputable abbrev Uw:=(AG (AD 2)<|AG (AD 3) CW)
noncomputable abbrev DQ:=(AG (AD 1) AO)
noncomputable abbrev aX:=(Aa 4<|f2 As (AD 4)<|CB<|AG (BA Uw)<|AG (BA<|AG (AD 2)<|AG (AD 3) DQ) AO)
noncomputable abbrev bI:=(A2 (AV<|AW Mw<|AG (AD 5)<|AG (AD 6)<|AG (AD 7) AO) Lj BI)
def Zg:SF:=(AM ak<|AM aX<|AM (CK (B9 true<|AD 4) (JY 3<|Fq (Aj 5)<|Fq (Aj 6)<|Fq (Aj 7) Kb) bI)<|AM (Aa 8<|f2 C0 (f2 Cv (AW FA Uv)<|fC<|.int 0)<|f2 Cv (AW FA<|AG (AD 0)<|AG (AD 1) Fm)<|fC<|.int 0)<|Az<|DR (AD 8)<|f2 C0 (f2 Cv (AW FA Uw)<|fC<|.int 0)<|f2 Cv (AW FA<|AG (AD 2)<|AG (AD 3) DQ)<|fC<|.int 0)
def PY:List PV->Option RV:=denote 9 4 Zg
noncomputable abbrev IG:=(B9 false<|AD 0)
noncomputable abbrev bC:=(f2 Cv (fB Fv<|AG (fB HR CW)<|AG (fB HR DQ) AO)<|fC<|.int 100)
noncomputable abbrev ay:=(Cr (CY<|AV<|Ej Cw Cw (fC<|.int 3) (AD 1)<|fC<|.int 12)<|AV<|f2 Cv (fB EO<|AG (BH IG 2 [] GN (AV bC)<|fC<|.int 1) AO)<|fC<|.int 0)
noncomputable abbrev ae:=(Cr (AV<|f2 C0 (KO<|AD 0)<|AD 1)<|Cr (AV<|AW PU CW)<|AV<|f2 Cw (AW TZ CW)<|fC<|.int 0)
noncomputable abbrev bb:=(CB<|AG (fC<|.int 1)<|AG QN AO)
noncomputable abbrev aq:=(f2 (Bc true) (f2 BY (f2 BL (AD 2)<|AD 3)<|AD 1) bb)
noncomputable abbrev aH:=(AW PY<|AG (f2 Am (AD 0) QO)<|AG (f2 Am (AD 0)<|AD 2)<|AG (f2 Am (AD 0)<|f2 BL (AD 3)<|fC<|.int 1)<|AG (f2 Am (AD 0)<|AD 3) AO)
noncomputable abbrev af:=(A2 (AV aq) (A2 (AV aH) Dc BI) BI)
def Zd:SF:=(AM (Aa 1 Cp)<|AM (A2 ay Dc BI)<|AM (A2 ae Dc BI)<|AM (CK (Cs DQ) (Aj 2)<|CK (Cs IE) (Aj 3) af) Lj)
def Tb:List PV->Option RV:=denote 4 1 Zd
noncomputable abbrev au:=(AG (f2 BY (f2 De Uq<|fC<|.int 4)<|fC<|.int 5) AO)
noncomputable abbrev bG:=(Aa 4<|AW E9<|AG (AD 0)<|AG (f2 As (f2 As (AD 1)<|fC<|.int 15)<|AD 3) AO)
noncomputable abbrev NW:=(fB EO IE)
noncomputable abbrev aU:=(Aa 6<|f2 BL (f2 As (f2 Am (f2 Am (AD 2)<|AD 5)<|fC<|.int 0)<|f2 BY (f2 De (AD 4)<|fC<|.int 16)<|fC<|.int 33)<|fC<|.int 16)
noncomputable abbrev aS:=(Aa 7<|f2 BL (f2 As (f2 Am (f2 Am (AD 2)<|AD 5)<|fC<|.int 1)<|f2 BY (f2 De (AD 4)<|fC<|.int 1024)<|fC<|.int 33)<|fC<|.int 16)
noncomputable abbrev aO:=(Aa 8<|f2 As (f2 As (EJ (AD 2) Ek<|EG<|AD 5)<|CB<|AG (BA<|AG (AD 6)<|AG (AD 7) AO) AO)<|EJ (AD 2) (EG<|f2 As (AD 5)<|fC<|.int 1) Ek)
noncomputable abbrev aY:=(D5 (AV<|f2 Cf (fB Fv<|AG (fB HR<|AG (AD 6) AO)<|AG (fB HR<|AG (AD 7) AO) AO)<|fC<|.int 80)<|AV<|AW Tb<|AG (AD 8) AO)
noncomputable abbrev Z3:=(AM bG<|AM (Aa 5<|f2 BY (AD 4) NW)<|AM aU<|AM aS<|AM aO<|A2 aY (Aa 2<|AD 8) BI)
def p9:SF:=(AM (CK (Cs au) (Aj 3) Z3)<|Az<|AD 2)
def Tg:List PV->Option RV:=denote 9 3 p9
noncomputable abbrev KI:=(AG (AD 0) DQ)
noncomputable abbrev Z6:=(A2 (D5 (AV<|f2 B0 (AD 2)<|fC<|.int 12)<|AV<|f2 B0 (f2 BY (f2 De Uq<|fC<|.int 20)<|fC<|.int 6)<|fC<|.int 5) (Aa 4<|AW Th KI) BI)
noncomputable abbrev Ur:=(AW E9<|AG (AD 0)<|AG (f2 As (AD 1)<|fC<|.int 2) AO)
noncomputable abbrev IH:=(B9 false<|AD 4)
noncomputable abbrev bX:=(BA<|AG (f2 As (AD 0)<|f2 DU (AD 2)<|AD 1) DQ)
noncomputable abbrev IJ:=(AG (AD 1) CW)
noncomputable abbrev QL:=(AW E9<|AG (AD 0)<|AG (f2 As (AD 1)<|fC<|.int 3) AO)
noncomputable abbrev JL:=(AG (AD 4) AO)
noncomputable abbrev bZ:=(f2 As (EJ (AD 4) (EG<|AD 7) Ek)<|EJ (AD 4) Ek<|EG<|AD 7)
noncomputable abbrev ba:=(BA<|AG (f2 As (AD 0)<|AD 2)<|AG (f2 As (AD 1)<|AD 3) AO)
def Zj:SF:=(AM (Aa 3<|AW E9 KI)<|AM (Aa 4<|AW Tf<|AG (AD 0)<|AG (AD 1)<|AG (f2 As (fC<|.int 3)<|f2 BY (AD 3)<|f2 BL (AD 2)<|fC<|.int 2) AO)<|AM Z6<|AM (Aa 5<|f2 BL (f2 BY (f2 De Ur<|fC<|.int 8)<|fC<|.int 3)<|fC<|.int 1)<|AM (Aa 4<|AW Tg<|AG (AD 0)<|AG (AD 1)<|AG (BH IH 2 [5] GN Bk bX) AO)<|AM (Aa 6<|f2 BY Ur<|fC<|.int 8)<|AM (A2 (AV<|f2 B0 (f2 BY (AD 6)<|fC<|.int 2)<|fC<|.int 1) (Aa 4<|GP<|BH IH 2 [] GN Bk<|BA<|AG (f2 BL (fC<|.int 0)<|AD 0) DQ) BI)<|AM (A2 (AV<|f2 B0 (f2 BY (f2 De (AD 6)<|fC<|.int 2)<|fC<|.int 2)<|fC<|.int 1) (Aa 4<|GP<|BH IH 2 [] GN Bk<|BA<|AG (AD 0)<|AG (f2 BL (fC<|.int 0)<|AD 1) AO) BI)<|AM (A2 (AV<|f2 B0 (f2 De (AD 6)<|fC<|.int 4)<|fC<|.int 1) (Aa 4<|GP<|BH IH 2 [] GN Bk<|BA IJ) BI)<|AM (Aa 7<|f2 BY QL<|fB EO JL)<|AM (Aa 8<|f2 BL (f2 BY (f2 De QL<|fC<|.int 16)<|fC<|.int 41)<|fC<|.int 20)<|AM (Aa 9<|f2 BL (f2 BY (AW E9<|AG (AD 0)<|AG (f2 As (AD 1)<|fC<|.int 4) AO)<|fC<|.int 41)<|fC<|.int 20)<|Az<|BH (B9 false bZ) 2 [8,9] GN Bk ba)
def PZ:List PV->Option RV:=denote 10 3 Zj
noncomputable abbrev aG:=(Cr (CY<|AV<|FK Cw Cf Cf (fC<|.int 0) (AD 1) (AD 2)<|AD 3)<|AV<|f2 (Bc false) (f2 BL (AD 2)<|AD 1)<|CB<|AG (fC<|.int 1)<|AG (f2 BL (AD 3)<|fC<|.int 1) AO)
noncomputable abbrev Us:=(AG (f2 Am (AD 0)<|AD 1)<|AG (f2 Am (AD 0)<|AD 2) AO)
noncomputable abbrev Uy:=(CB<|AG (AD 1) IE)
noncomputable abbrev aW:=(D5 (AV<|f2 (Bc true) (AD 6) Uy)<|AV<|AW Mw<|AG (AD 4)<|AG (AD 5)<|AG (f2 Am (AD 0)<|AD 6) AO)
noncomputable abbrev ai:=(D5 (AV<|f2 (Bc true) (AD 6) Uy)<|AV<|f2 (Bc true) (AD 7) Uy)
noncomputable abbrev bE:=(AW PY<|AG (AD 4)<|AG (AD 5)<|AG (f2 Am (AD 0)<|AD 6)<|AG (f2 Am (AD 0)<|AD 7) AO)
noncomputable abbrev aE:=(AM (A2 aW Dc BI)<|AM (Aa 7<|f2 BY (f2 As (AD 6)<|fC<|.int 1)<|AD 3)<|A2 ai (A2 (AV bE) Dc BI) BI)
noncomputable abbrev QK:=(f2 Am (AD 0)<|f2 BY (f2 As (AD 1)<|fC<|.int 1)<|AD 3)
def Zf:SF:=(AM (Aa 3 Cp)<|AM (A2 aG Dc BI)<|AM (JX 4 5 Us)<|AM (CK (Cs Fm) (Aj 6) aE)<|AM (Aa 8<|f2 Cv (AW FA<|AG (AD 4)<|AG QK<|AG (AD 5) AO)<|fC<|.int 0)<|AM (Aa 9<|f2 Cv (AW FA<|AG NZ<|AG (AD 4)<|AG (AD 5) AO)<|fC<|.int 0)<|AM (A2 (AV<|f2 Cv (AW FA<|AG NZ<|AG (AD 4)<|AG QK AO)<|fC<|.int 0) (Az<|DR (AD 8)<|AD 9) BI)<|Az<|EE (AD 8)<|AD 9)
def Td:List PV->Option RV:=denote 10 3 Zf
noncomputable abbrev aL:=(EE (f2 (Bc false) (f2 BL (AD 3)<|AD 4) bb)<|AW Td<|AG (AD 0)<|AG (AD 4) Fm)
noncomputable abbrev aA:=(KW 2 (AG (AD 4) Fm) aL)
noncomputable abbrev Z7:=(CK (Cs Fm) (Aj 4) aA)
def Ze:SF:=(AM (Aa 1 Cp)<|AM (Nr 2 QW)<|AM (CK (Cs DQ) (Aj 3) Z7)<|Qj 2)
def Tc:List PV->Option RV:=denote 5 1 Ze
noncomputable abbrev bK:=(Az<|EE (FK Cf Cf Cf Dp II Eg Fo)<|FK Cf Cf Cf II Dp Fo Eg)
noncomputable def pq:SF:=bK
def Ta:List PV->Option RV:=denote 2 2 pq
noncomputable abbrev bH:=(BH (B9 false<|AD 5) 1 [3] (Aj 0) (AV<|AW Ta KI)<|AD 0)
noncomputable abbrev aF:=(D5 (AV<|f2 Cf (fB EO<|AG (AD 5) AO)<|AD 1)<|AV<|f2 B0 (fB EO<|AG bH AO)<|fC<|.int 0)
noncomputable abbrev U0:=(A2 aF (DT 4 FR<|AG (f2 As (AD 5)<|CB Fm) AO) BI)
def ZZ:SF:=(AM (Aa 2<|CB<|AG (CB AO) AO)<|AM (CK (B9 true<|AD 0) (Aj 3)<|AM (Eo 4<|CB AO)<|AM (CK (B9 true<|AD 2) (Aj 5) U0)<|Aa 2<|f2 As (AD 2)<|AD 4)<|Az<|fB OQ<|AG (BH (B9 false<|AD 2) 1 [1] (Aj 0) (AV<|f2 B0 Cp<|AD 1)<|AD 0) AO)
def TY:List PV->Option RV:=denote 6 2 ZZ
noncomputable abbrev aQ:=(DR (f2 Cw (fB HR<|AG Dp AO)<|fC<|.int 100)<|f2 Cw (fB HR<|AG Eg AO)<|fC<|.int 100)
def ZR:SF:=(Az<|fB Ge<|AG (BH IG 1 [] (Aj 0) Bk aQ) AO)
def PF:List PV->Option RV:=denote 1 1 ZR
def Zs:SF:=(Az<|f2 BL (f2 DU bS bV)<|f2 DU bU bW)
def Ho:List PV->Option RV:=denote 3 3 Zs
noncomputable abbrev aJ:=(f2 C0 (AW Ho<|AG (f2 Am (AD 1)<|f2 BL (AD 0)<|fC<|.int 2)<|AG (f2 Am (AD 1)<|f2 BL (AD 0)<|fC<|.int 1)<|AG (f2 Am (AD 1)<|AD 0) AO)<|fC<|.int 0)
def pZ:SF:=(Az<|fB Ge<|AG (BH KH 1 [0] (Aj 0) Bk aJ) AO)
def TR:List PV->Option RV:=denote 1 1 pZ
noncomputable abbrev NX:=(fB EO DQ)
noncomputable abbrev aj:=(BA<|AG (f2 Am (AD 1)<|AD 0)<|AG (f2 Am (AD 1)<|f2 BY (f2 As (AD 0)<|fC<|.int 1) NX) AO)
def qE:SF:=(Az<|BH KH 1 [0] (Aj 0) Bk aj)
def M5:List PV->Option RV:=denote 1 1 qE
def ZT:SF:=(Az<|f2 (Bc false) (f2 BY (f2 BL (AD 2)<|AD 1)<|AD 0)<|BA<|AG (fC<|.int 1)<|AG (f2 BL (AD 0)<|fC<|.int 1) AO)
def LQ:List PV->Option RV:=denote 3 3 ZT
def Zq:SF:=(AM (Aa 2<|AW Ho<|AG Dp<|AG Eg Ux)<|AM (Aa 3<|AW Ho<|AG Dp Um)<|Az<|EE (DR (f2 Cf (AD 2)<|fC<|.int 0)<|f2 Cv (AD 3)<|fC<|.int 0)<|DR (f2 Cv (AD 2)<|fC<|.int 0)<|f2 Cf (AD 3)<|fC<|.int 0)
def Mz:List PV->Option RV:=denote 4 2 Zq
noncomputable abbrev bL:=(AG (f2 Am (AD 2)<|fC<|.int 0)<|AG (f2 Am (AD 3)<|fC<|.int 0) AO)
noncomputable abbrev bN:=(AG (f2 Am (AD 2)<|fC<|.int 1)<|AG (f2 Am (AD 3)<|fC<|.int 1) AO)
def Ue:SF:=(AM (Aa 2 II)<|AM (Aa 3 Fo)<|AM (A2 (AV<|f2 C0 (AW Ho Uw)<|fC<|.int 0) Dc BI)<|AM (Aa 4<|Ej Cw Cw (fB HS bL) Dp<|fB Fv bL)<|AM (Aa 5<|Ej Cw Cw (fB HS bN) Eg<|fB Fv bN)<|Az<|DR (AD 4)<|AD 5)
def Gu:List PV->Option RV:=denote 6 2 Ue
def Zo:SF:=(AM (A2 (D5 (AV<|AW Mz KI)<|AV<|AW Mz IJ) Lj BI)<|AM (Aa 2<|EE (AW Gu<|AG II CW)<|AW Gu<|AG Fo CW)<|AM (Aa 3<|EE (AW Gu<|AG Dp DQ)<|AW Gu<|AG Eg DQ)<|Az<|EE (AD 2)<|AD 3)
def LR:List PV->Option RV:=denote 4 2 Zo
noncomputable abbrev Uz:=(AG NX AO)
noncomputable abbrev Uo:=(AG (f2 As (AD 2)<|fC<|.int 1) Uz)
noncomputable abbrev QP:=(AG (AD 2) Fm)
noncomputable abbrev aM:=(D5 (CY<|AV<|AW LQ<|AG NX QP)<|AV<|AW LR<|AG (f2 Am (AD 1)<|AD 2)<|AG (f2 Am (AD 1)<|AD 3) AO)
noncomputable abbrev aD:=(A2 aM Dc BI)
def Zt:SF:=(AM (Aa 1<|AW M5 CW)<|AM (CK (Cs Uz) (Aj 2)<|CK (EI Uo) (Aj 3) aD) Lj)
def Tp:List PV->Option RV:=denote 4 1 Zt
noncomputable abbrev QM:=(B9 false<|AW M5 CW)
noncomputable abbrev Uk:=(AW Ho<|AG (fC<|.tup [(.int 0),(.int 0)])<|AG Dp<|AG Eg AO)
def ph:SF:=(Az<|fB HV<|AG (BH QM 1 [] (Aj 0) Bk Uk) AO)
def TV:List PV->Option RV:=denote 1 1 ph
def ZX:SF:=(AM (A2 (CY<|AV<|Ej Cw Cw (fC<|.int 3) Cp<|fC<|.int 12) Dc BI)<|AM (A2 (AV<|f2 C0 (KO<|AD 0) Cp) Dc BI)<|Az<|DR (AW PF CW)<|DR (AW TR CW)<|DR (AW Tp CW)<|f2 Cv (AW TV CW)<|fC<|.int 0)
def TX:List PV->Option RV:=denote 1 1 ZX
def ZU:SF:=(A2 (CY<|AV<|AW TX CW) Qi BI)
def PJ:List PV->Option RV:=denote 1 1 ZU
def pd:SF:=(A2 (AV<|f2 Cv Cp<|fC<|.int 8) Qi BI)
def TU:List PV->Option RV:=denote 1 1 pd
noncomputable abbrev bD:=(AW Ho<|AG Dp<|AG Eg DQ)
def qD:SF:=(AM (Aa 2<|f2 Cv (f2 Am Dp<|fC<|.int 1) Fo)<|AM (Aa 3<|f2 Cv (f2 Am Eg<|fC<|.int 1) Fo)<|AM (A2 (AV<|f2 B0 (AD 2)<|AD 3) Dc BI)<|AM (Aa 4 bD)<|Az<|IP (AV<|AD 3) (f2 Cv (AD 4)<|fC<|.int 0)<|f2 Cf (AD 4)<|fC<|.int 0)
def Pd:List PV->Option RV:=denote 5 2 qD
def Zr:SF:=(AM (A2 (AV<|fB Jk<|AG (BH IG 1 [1] (Aj 0) Bk<|AW Gu IJ) AO) (Az<|fC<|.str "on") BI)<|AM (Aa 2<|BH IG 1 [1] (Aj 0) (AV<|AW Pd KI)<|AD 0)<|Az<|IP (AV<|f2 B0 (f2 BY NW<|fC<|.int 2)<|fC<|.int 1) (fC<|.str "in")<|fC<|.str "out")
def To:List PV->Option RV:=denote 3 2 Zr
noncomputable abbrev ag:=(BA<|AG (f2 DU (fC<|.int 2) Dp)<|AG (f2 DU (fC<|.int 2) Eg) AO)
def Zp:SF:=(AM (Aa 2<|BH IG 1 [] (Aj 0) Bk ag)<|AM (Aa 3<|BA<|AG (f2 As (f2 Am II<|fC<|.int 0)<|f2 Am Fo<|fC<|.int 0)<|AG (f2 As (f2 Am II<|fC<|.int 1)<|f2 Am Fo<|fC<|.int 1) AO)<|Az<|f2 B0 (AW To<|AG (AW M5 IE) Fm)<|fC<|.str "in")
def Tj:List PV->Option RV:=denote 4 2 Zp
noncomputable abbrev aN:=(Cr (CY<|AV<|FK Cw Cf Cf (fC<|.int 0) (AD 1) (AD 2) Cp)<|AV<|AW LQ<|AG Cp<|AG (AD 1) IE)
noncomputable abbrev ao:=(D5 (AV<|f2 (Gf true) II<|AD 0)<|AV<|f2 (Gf true) Fo<|AD 0)
def ZW:SF:=(AM (A2 aN Dc BI)<|AM (Aa 3<|BA Us)<|AM (Aa 4<|BH QM 1 [3] (Aj 0) ao<|AD 0)<|AM (A2 (AV<|fB Jk<|AG (BH IH 1 [3] (Aj 0) Bk<|AW LR IJ) AO) Dc BI)<|Az<|AW Tj<|AG (AD 0) Fm)
def PQ:List PV->Option RV:=denote 5 3 ZW
noncomputable abbrev bO:=(EI<|AG (f2 As (AD 2)<|fC<|.int 1) Nc)
noncomputable abbrev NV:=(AG (AD 2) CW)
noncomputable abbrev Z8:=(DT 1 Kp<|AG (BH bO 1 [0,2] (Aj 0) (AV<|AW PQ<|AG (AD 1) NV)<|BA NV) AO)
def Zl:SF:=(AM (Eo 1<|CB AO)<|AM (CK KH (Aj 2) Z8)<|Nq 1)
def Pb:List PV->Option RV:=denote 3 1 Zl
noncomputable def pe:SF:=bK
def PK:List PV->Option RV:=denote 2 2 pe
def pf:SF:=(Az<|KP<|fB Jk<|AG (BH (B9 false<|AD 1) 1 [0] (Aj 0) Bk<|AW PK IJ) AO)
def PM:List PV->Option RV:=denote 2 2 pf
noncomputable abbrev Na:=(f2 Am (AD 1)<|Lp<|fC<|.int 1)
noncomputable abbrev av:=(BH IH 1 [3] (Aj 0) (AV<|AW PM KI)<|f2 As (AD 1)<|CB CW)
noncomputable abbrev aa:=(DT 2 Kp<|AG av AO)
def Zm:SF:=(AM (Eo 2<|CB AO)<|AM (CK (B9 true<|AD 0) (Aj 3)<|AM (Aa 4<|BH (B9 false<|AD 1) 1 [3] (Aj 0) (Cr (CY<|Hi<|AD 1)<|AV<|f2 (HU Fi) Na<|AD 0)<|AD 0) aa)<|Nq 2)
def Pc:List PV->Option RV:=denote 5 2 Zm
def ZV:SF:=(AM (JW<|AW PJ CW)<|AM (JW<|AW TU CW)<|AM (Aa 1<|AW Pb CW)<|AM (Aa 2<|CB<|AG (CB AO) AO)<|AM (CK (EI<|AG (fC<|.int 3) Nc) (Aj 3)<|Aa 2<|AW Pc<|AG (AD 2) DQ)<|Az<|AD 2)
def PN:List PV->Option RV:=denote 4 1 ZV
def ZS:SF:=(Az<|EE (AW LQ<|AG (AD 0) QP)<|f2 (Gf false) (BA<|AG (fB HS QP)<|AG (fB Fv QP) AO)<|AD 1)
def PH:List PV->Option RV:=denote 4 4 ZS
def Zu:SF:=(AM (A2 (CY<|AV<|AW PH<|AG (AD 0)<|AG (AD 1)<|AG (AD 3) JL) (Az<|fC<|.int 0) BI)<|AM (A2 (AV<|f2 B0 (f2 BL (AD 4)<|AD 3)<|fC<|.int 1) (Az<|fC<|.int 1) BI)<|Az<|fB HV<|AG (BH (EI<|AG (f2 As (AD 3)<|fC<|.int 1) JL) 1 [2,3,4] (Aj 0) Bk<|f2 DU (JS (AD 1) NV)<|JS (AD 1)<|AG (AD 0) Fm) AO)
def Pg:List PV->Option RV:=denote 5 5 Zu
noncomputable abbrev aV:=(KW 3 (AG (AD 5)<|AG (f2 As (AD 5)<|AD 4) AO)<|Lm Pg<|AG (AD 1)<|AG (AD 2)<|AG (AD 3)<|AG (AD 5)<|AG (f2 As (AD 5)<|AD 4) AO)
noncomputable abbrev aC:=(CK (Cs<|AG (f2 BL (AD 1)<|AD 4) AO) (Aj 5) aV)
def Zn:SF:=(AM (JW<|AW PJ CW)<|AM (Aa 1 Cp)<|AM (Aa 2<|AW Pb CW)<|AM (Nr 3 QW)<|AM (CK (EI<|AG (fC<|.int 1) DQ) (Aj 4) aC)<|Az<|JS (AD 3)<|AG (fC<|.int 0)<|AG QN AO)
def Ti:List PV->Option RV:=denote 6 1 Zn
def qB:SF:=(Az<|DR (GO "int"<|AD 0)<|KP<|GO "bool"<|AD 0)
def Pa:List PV->Option RV:=denote 1 1 qB
noncomputable abbrev Z5:=(A2 (Cr (CY<|AV<|QX<|AD 1)<|Cr (AV<|f2 C0 NX<|fC<|.int 2)<|Cr (CY<|AV<|AW Pa Ux)<|CY<|AV<|AW Pa<|AG Fo AO) Dc BI)
def p8:SF:=(AM (A2 (CY<|AV<|GO "list"<|AD 0) Dc BI)<|AM (CK (B9 true<|AD 0) (Aj 1) Z5) Lj)
def Te:List PV->Option RV:=denote 2 1 p8
def Zk:SF:=(AM (A2 (Cr (CY<|AV<|GO "list"<|AD 0)<|AV<|f2 C0 (AD 0)<|AD 1) Dc BI)<|Az<|fB Ge<|AG (BH IG 1 [] (Aj 0) Bk<|AW Te CW) AO)
def Mx:List PV->Option RV:=denote 2 2 Zk
noncomputable abbrev Ul:=(f2 B0 (f2 BY (AW E9<|AG (AD 0)<|AG (fC<|.int 20) AO)<|fC<|.int 5)<|fC<|.int 1)
noncomputable abbrev bQ:=(Aa 1<|AW PZ<|AG (AD 0)<|AG (fC<|.int 0)<|AG (fC<|.int 8) AO)
noncomputable abbrev Z4:=(BH (Lo<|AD 2) 1 [2,1] (Aj 0) (D5 (AV<|f2 OO (AD 1)<|AD 0)<|AV<|f2 (Bc true) (f2 BL Eg Dp)<|CB<|AG (fC<|.int 1)<|AG (f2 BL NW<|fC<|.int 1) AO)<|AD 0)
noncomputable abbrev bf:=(AG Z4 AO)
def ZY:SF:=(AM (Aa 1<|AW PZ<|AG (AD 0)<|AG (fC<|.int 0)<|AG (fC<|.int 7) AO)<|AM (A2 (AV Ul) bQ BI)<|AM (Aa 2<|AW Tc DQ)<|AM (Aa 3<|fB Kt bf)<|AM (Aa 4<|AW TY<|AG (AD 3)<|AG (f2 BL NX<|fC<|.int 3) AO)<|AM (Aa 5<|fB RA DQ)<|Nt 5 6 7 (AW PN<|AG (AD 5) AO) (AW Ti<|AG (AD 5) AO) (Cr (CY<|AV<|AW Mx<|AG (AD 6) JL)<|Cr (CY<|AV<|AW Pa<|AG (AD 7) AO)<|Cr (AV<|f2 C0 (AD 7)<|fB EO JL)<|AV<|f2 C0 (AD 5)<|AD 1) (AG Uu AO) (CY<|AV<|AW Mx<|AG (EJ (AD 6) (EG<|fC<|.int 1) Ek)<|AG (EJ (AD 4) (EG<|fC<|.int 1) Ek) AO)<|AW Mx<|AG (AW PN<|AG (AD 5) AO) JL)
def PR:List PV->Option RV:=denote 8 1 ZY
end L2.K
set_option linter.all false
namespace AH
abbrev Pt:=Int×Int
noncomputable def AE(a b p:Pt):Int:=(b.1-a.1)*(p.2-a.2)-(b.2-a.2)*(p.1-a.1)
def Ai(a b p:Pt):Bool:=decide (AE a b p=0)&&(decide (min a.1 b.1<=p.1/\p.1<=max a.1 b.1)&&decide (min a.2 b.2<=p.2/\p.2<=max a.2 b.2))
def On(a b p:Pt):Prop:=AE a b p=0/\(min a.1 b.1<=p.1/\p.1<=max a.1 b.1)/\(min a.2 b.2<=p.2/\p.2<=max a.2 b.2)
theorem F4{a b p:Pt}:Ai a b p=true↔On a b p:=by simp[Ai,On]
theorem Pz{p q u d:Int}(y:0<q)(Z:0<=p)(Y:p<=q)(e:q*u=p*d):(0<=u/\u<=d)\/(d<=u/\u<=0):=by
 rcases AGC 0 d with hd|hd
 .left;have v:0<=q*u:=by rw[e];exact ADz Z hd
  have h3:q*u<=q*d:=by rw[e];exact AEP Y hd
  exact⟨AFC (by simpa using v) y,AFC h3 y⟩
 .right;have v:q*u<=0:=by rw[e];exact AE7 Z hd
  have h3:q*d<=q*u:=by rw[e];exact Int.mul_le_mul_of_nonpos_right Y hd
  exact⟨AFC h3 y,AFC (by simpa using v) y⟩
theorem xQ{a b c d:Pt}(h:AE a b c=0)(hs:(AE c d a>0/\AE c d b<=0)\/(AE c d a<=0/\AE c d b>0)\/(AE c d a<0/\AE c d b>=0)\/(AE c d a>=0/\AE c d b<0)):On a b c:=by
 refine⟨h,?_⟩;obtain⟨u,Z⟩:=a;obtain⟨b1,b2⟩:=b;obtain⟨y,v⟩:=c;obtain⟨D,F⟩:=d;simp only[AE]at *
 have Y:∀p q:Int,0<q->0<=p->p<=q->q*(y-u)=p*(b1-u)->q*(v-Z)=p*(b2-Z)->(min u b1<=y/\y<=max u b1)/\(min Z b2<=v/\v<=max Z b2):=by intro p q Q O h3 G S;have r1:=Pz Q O h3 G;have r2:=Pz Q O h3 S;simp only[AIo,AIp];lia
 generalize P:(D-y)*(v-Z)-(F-v)*(y-u)=eu;generalize hd:(D-y)*(b2-Z)-(F-v)*(b1-u)=ed;have T:(D-y)*(Z-v)-(F-v)*(u-y) = -eu:=by rw[<-P];grind
 have C:(D-y)*(b2-v)-(F-v)*(b1-y)=ed-eu:=by rw[<-P,<-hd];grind
 have R:ed*(y-u)=eu*(b1-u):=by rw[<-P,<-hd];grind
 have B:ed*(v-Z)=eu*(b2-Z):=by rw[<-P,<-hd];grind
 rw[T,C]at hs;have E:(0<=eu/\eu<=ed/\0<ed)\/(eu<=0/\ed<=eu/\ed<0):=by clear h P;lia
 rcases E with⟨Q,O,h3⟩|⟨Q,O,h3⟩
 .exact Y eu ed h3 Q O R B
 .exact Y (-eu) (-ed) (Oa h3) J J (by rw[AGN,AGN,R])<|by rw[AGN,AGN,B]
theorem Rp{a b c d:Pt}(n:¬ On a b c)(h:AE a b c=0):(0<AE c d a↔0<AE c d b)/\(AE c d a<0↔AE c d b<0):=by have k:=λz=>n<|xQ (d:=d) h z;refine⟨⟨λz=>AGq.mp λy=>k<|.inl ⟨z,y⟩,λz=>AGq.mp λy=>k<|.inr<|.inl ⟨y,z⟩⟩,λz=>AGq.mp λy=>k<|.inr<|.inr<|.inl ⟨z,y⟩,λz=>AGq.mp λy=>k<|.inr<|.inr<|.inr ⟨y,z⟩⟩
theorem DL(a b p:Pt):AE b a p = - AE a b p:=by simp only[AE];grind
theorem Iw(a b:Pt):AE a b a=0/\AE a b b=0:=by unfold AE;exact⟨ADi,ADi⟩
theorem Dj(a b c:Pt):AE b c a=AE a b c:=by unfold AE;grind
theorem iV{a b p:Pt}(h:On a b p):On b a p:=by obtain⟨y,h2,h3⟩:=h;refine⟨by rw[DL,y];rfl,?_,?_⟩<;>grind
def parts(a b c d:Pt):Bool:=(decide (AE a b c<0)&&decide (AE a b d>0))||(decide (AE a b c>0)&&decide (AE a b d<0))
def A0(a b c d:Pt):Bool:=(parts a b c d&&parts c d a b)||((Ai a b c||Ai a b d)||(Ai c d a||Ai c d b))
def BP(a b c d:Pt):Bool:=(Ai a b c||Ai a b d||Ai c d a||Ai c d b)||((decide (AE a b c>0) != decide (AE a b d>0))&&(decide (AE c d a>0) != decide (AE c d b>0)))
theorem Jw{x y:Int}(h:(x≠0/\y≠0)\/(0<x↔0<y)):(decide (0<x) != decide (0<y))=(decide (x<0)&&decide (0<y)||decide (0<x)&&decide (y<0)):=by by_cases c:0<x<;>by_cases d:0<y<;>simp[c,d]at h ⊢ <;> lia
theorem Rb(a b c d:Pt):BP a b c d=A0 a b c d:=by
 by_cases v:Ai a b c=true
 .simp[BP,A0,v]
 by_cases u:Ai a b d=true
 .simp[BP,A0,u]
 by_cases h3:Ai c d a=true
 .simp[BP,A0,h3]
 by_cases Z:Ai c d b=true
 .simp[BP,A0,Z]
 have O:=Rp (d:=d) λz=>v<|F4.mpr z;have Y:=Rp (d:=c) λz=>u<|F4.mpr z;have P:=Rp (d:=b) λz=>h3<|F4.mpr z;have Q:=Rp (d:=a) λz=>Z<|F4.mpr z;rw[DL c d a,DL c d b,AGz,AGz]at Y;rw[DL a b c,DL a b d,AGz,AGz]at Q;simp[BP,A0,parts,v,u,h3,Z];by_cases y:0<AE a b c↔0<AE a b d
 .rw[<-Jw<|.inr y,AFQ.mpr y,AGJ,AGk,AGk]
 .by_cases q:0<AE c d a↔0<AE c d b
  .rw[<-Jw<|.inr q,AFQ.mpr q,AGJ,AIA,AIA]
  .rw[<-Jw<|.inl ⟨λe=>q (O e).1,λe=>q (Y e).2⟩,<-Jw<|.inl ⟨λe=>y (P e).1,λe=>y (Q e).2⟩]
theorem Rt(a b p:Pt):Ai a b p=Ai b a p:=by rw[AEk,F4,F4];exact⟨iV,iV⟩
theorem meet_comm(a b c d:Pt):A0 a b c d=A0 c d a b:=by simp only[A0];rw[Bool.and_comm<|parts a b c d,AIb (Ai a b c||Ai a b d)]
noncomputable def AA(r:List Pt)(i:Int):Pt:=r.getD (i%(r.length:Int)).toNat (0,0)
theorem Ef(r:List Pt)(i:Int):AA r (i+r.length)=AA r i:=by unfold AA;rw[Int.add_emod_right]
def M(r:List Pt)(i j:Int):Bool:=A0 (AA r i) (AA r<|i+1) (AA r j)<|AA r<|j+1
theorem Gv(r:List Pt)(i j:Int):M r i j=M r j i:=meet_comm ..
theorem YZ(r:List Pt)(i j:Int):M r (i+r.length) j=M r i j:=by unfold M;simp only[Ef,show i+(r.length)+1=i+1+r.length by lia,Ef]
noncomputable def nb(n d:Int):Bool:=(d%n==1)||(d%n==n-1)
theorem K2{n d:Int}(h0:0<d)(y:d<n):nb n d=(d==1||d==n-1):=by unfold nb;rw[ADq J y]
def NJ(r:List Pt):Prop:=∀k m:Int,0<=k->k<m->m<r.length->nb r.length (m-k)=false->M r k m=false
def UB(r:List Pt):Prop:=∀k j:Int,0<=j->j<k->k<r.length->nb r.length (k-j)=false->M r (k-1) (j-1)=false
set_option tactic.hygienic false
theorem nP(r:List Pt):UB r↔NJ r:=by
 constructor
 .intro h k m y q v hn;by_cases hm:m+1<r.length
  .have:=h (m+1) (k+1) (ET y) J hm (by rw[show m+1-(k+1)=m-k by lia];exact hn);rw[show m+1-1=m from MG,show k+1-1=k from MG]at this;rw[Gv];exact this
  .have u:m=r.length-1:=J
   subst u;have:=h (k+1) 0 CM ADj ADj (by rw[K2 ADj ADj]at hn ⊢;simp only[AEe,AEG]at hn ⊢;lia)
   rw[show k+1-1=k from MG,Gv,<-YZ,Gv]at this;exact this
 .intro h k j y q v hn;by_cases hj:0<j
  .have:=h (j-1) (k-1) J J J (by rw[show k-1-(j-1)=k-j by lia];exact hn);rw[Gv];exact this
  .have Z:j=0:=J
   subst Z;have:=h (k-1) (r.length-1) J (by
    rw[K2 J J]at hn;simp only[AEe,AEG]at hn;lia) J (by
    rw[K2 J J]at hn;simp only[AEe,AEG]at hn;rw[K2 J J];lia)
   rw[Gv,<-YZ,Gv];exact this
noncomputable def Ab(f:Int->Int):Nat->Int
 |0=>0
 |n+1=>Ab f n+f n
theorem kR(f:Int->Int):∀n:Nat,Ab (λk=>f<|k-1) (n+1)=f (-1)+Ab f n
 |0=>by simp[Ab]
 |n+1=>by
  rw[Ab,kR f n,Ab];simp only[Int.natCast_add,Int.natCast_one]at *
  lia
theorem Xs(f:Int->Int)(n:Nat)(h:∀i,f (i+n)=f i):Ab (λk=>f<|k-1) n=Ab f n:=by
 cases n with
 |zero=>rfl
 |succ n=>
  rw[kR,Ab,<-h (-1)];have:(-1:Int)+((n+1:Nat))=n:=J
  rw[this];lia
noncomputable def Bx(a b:Pt):Int:=a.1*b.2-a.2*b.1
def Lc(r:List Pt):Int:=Ab (λk=>Bx (AA r<|k-1)<|AA r k) r.length
def CJ(r:List Pt):Int:=Ab (λk=>Bx (AA r k)<|AA r<|k+1) r.length
theorem nU(r:List Pt):Lc r=CJ r:=by
 have:=Xs (λk=>Bx (AA r k)<|AA r<|k+1) r.length (λi=>by simp only[Ef,show i+(r.length)+1=i+1+r.length by lia,Ef])
 simp only[CJ,<-this,Lc]
 congr 1
 funext k
 rw[show k-1+1=k from Dt]
def At(a b p:Pt):Prop:=∃q s:Int,0<q/\0<=s/\s<=q/\q*(p.1-a.1)=s*(b.1-a.1)/\q*(p.2-a.2)=s*(b.2-a.2)
theorem Gj{a b p:Pt}(h:At a b p):On a b p:=by
 obtain⟨q,s,v,u,Z,Y,y⟩:=h;have Q:=Pz v u Z Y;have O:=Pz v u Z y;refine⟨?_,by clear O;simp only[AIo,AIp];lia,by clear y Q;simp only[AIo,AIp];lia⟩;have hz:q*AE a b p=0:=by
  have:q*AE a b p=(b.1-a.1)*(q*(p.2-a.2))-(b.2-a.2)*(q*(p.1-a.1)):=by unfold AE;grind
  simp only[this,Y,y];grind
 rcases AEI.mp hz with h|h
 .lia
 .exact h
theorem NK{a b p:Pt}(h:On a b p):At a b p:=by
 obtain⟨hs,h1,h2⟩:=h;unfold AE at hs;by_cases y:b.1-a.1=0
 .by_cases q:b.2-a.2=0
  .exact⟨1,0,Jo,CM,C1,J,J⟩
  .have hp:p.1-a.1=0:=J
   rcases AEd q with A5|Jb
   .exact⟨-(b.2-a.2),-(p.2-a.2),ADi,ADi,ADi,by rw[y,hp];lia,ADi⟩
   .exact⟨b.2-a.2,p.2-a.2,ADn,ADi,ADi,by rw[y,hp];lia,ADi⟩
 .rcases AEd y with A5|Jb
  .exact⟨-(b.1-a.1),-(p.1-a.1),ADi,ADi,ADi,ADi,ADi⟩
  .exact⟨b.1-a.1,p.1-a.1,ADn,ADi,ADi,ADi,ADi⟩
theorem Ru{a b p:Pt}:On a b p↔At a b p:=⟨NK,Gj⟩
def Bj(a b c d:Pt):Prop:=∃q s t:Int,0<q/\0<=s/\s<=q/\0<=t/\t<=q/\q*a.1+s*(b.1-a.1)=q*c.1+t*(d.1-c.1)/\q*a.2+s*(b.2-a.2)=q*c.2+t*(d.2-c.2)
theorem Bj.symm{a b c d:Pt}(h:Bj a b c d):Bj c d a b:=by obtain⟨q,s,t,y,v,h3,u,Z,Y,Q⟩:=h;exact⟨q,t,s,y,u,Z,v,h3,Y.symm,Q.symm⟩
theorem Se{a b c d:Pt}(h:At a b c):Bj a b c d:=by obtain⟨q,s,y,v,u,e1,e2⟩:=h;exact⟨q,s,0,y,v,u,CM,J,ADi,ADi⟩
theorem Xg{a b c d:Pt}(h:At a b d):Bj a b c d:=by obtain⟨q,s,y,v,u,e1,e2⟩:=h;exact⟨q,s,q,y,v,u,J,Ds,ADi,ADi⟩
theorem ABL{a b c d:Pt}(v:parts a b c d=true)(u:parts c d a b=true):Bj a b c d:=by
 have i1:AE a b c-AE a b d=AE c d b-AE c d a:=by unfold AE;grind
 have y:(AE c d a-AE c d b)*a.1+AE c d a*(b.1-a.1)=(AE c d a-AE c d b)*c.1 + -(AE a b c)*(d.1-c.1):=by unfold AE;grind
 have q:(AE c d a-AE c d b)*a.2+AE c d a*(b.2-a.2)=(AE c d a-AE c d b)*c.2 + -(AE a b c)*(d.2-c.2):=by unfold AE;grind
 simp only[parts,AEV,ADx,ADu]at v u;generalize AE a b c=x1 at *
 generalize AE c d a=y1 at *
 generalize AE c d b=y2 at *
 by_cases Z:y1-y2>0
 .exact⟨y1-y2,y1,-x1,Z,J,J,J,J,y,q⟩
 .refine⟨-(y1-y2),-y1,x1,J,J,J,J,J,?_,?_⟩
  .have : -(y1-y2)*a.1 + -y1*(b.1-a.1) = -((y1-y2)*a.1+y1*(b.1-a.1)):=ADi
   rw[this,y];grind
  .have : -(y1-y2)*a.2 + -y1*(b.2-a.2) = -((y1-y2)*a.2+y1*(b.2-a.2)):=ADi
   rw[this,q];grind
theorem Xh{a b c d:Pt}(h:A0 a b c d=true):Bj a b c d:=by
 simp only[A0,AEV,ADx,F4]at h;rcases h with⟨y,q⟩|(h|h)|(h|h)
 .exact ABL y q
 .exact Se<|NK h
 .exact Xg<|NK h
 .exact(Se<|NK h).symm
 .exact(Xg<|NK h).symm
theorem gq{a b c d:Pt}(h:¬ Bj a b c d):A0 a b c d=false:=by
 cases e:A0 a b c d with
 |false=>rfl
 |true=>exact absurd (Xh e) h
theorem Fl(r:List Pt)(i:Int):AA r (i%r.length)=AA r i:=by unfold AA;rw[AEf _<|AFT _]
theorem Ya(r:List Pt)(i j:Int):M r (i%r.length) j=M r i j:=by
 unfold M;have h:AA r (i%r.length+1)=AA r (i+1):=by unfold AA;rw[Int.emod_add_emod]
 simp only[h,Fl]
theorem nA(r:List Pt)(i j:Int):M r i (j%r.length)=M r i j:=by rw[Gv,Ya,Gv]
def Bv(n d:Int):Prop:=d%n≠0/\d%n≠1/\d%n≠n-1
theorem Bv.neg{n d:Int}(hn:2<=n)(h:Bv n d):Bv n (-d):=by
 obtain⟨y,h1,h2⟩:=h;have a:=AEZ d (b:=n) J;have b:=AEL d (b:=n) J;have e:(-d)%n=n-d%n:=by
  have : -d=(n-d%n)+n*(-(d / n)-1):=by
   have:=AFl d n
   grind
  rw[this,AFb,ADq ADi J]
 exact⟨ADj,by clear b;lia,by clear y;lia⟩
theorem cS{n d:Int}(q:0<d)(y:d<n)(h:nb n d=false):Bv n d:=by rw[K2 q y]at h;simp only[AEe,AEG]at h;unfold Bv;rw[ADq ADi y];lia
theorem iA{n d:Int}(h:Bv n d):nb n d=false:=by unfold nb;simp only[AEe,AEG];exact⟨h.2.1,h.2.2⟩
def UC(r:List Pt):Prop:=∀i j:Int,Bv r.length (i-j)->M r i j=false
theorem UD{r:List Pt}(hn:2<=r.length)(h:NJ r):UC r:=by
 intro i j v;rw[<-Ya,<-nA];have u:=AEZ i (b:=(r.length)) J;have Z:=AEL i (b:=(r.length)) J;have b1:=AEZ j (b:=(r.length)) J;have b2:=AEL j (b:=(r.length)) J;have q:Bv r.length<|i%r.length-j%r.length:=by
  unfold Bv at *
  rw[<-AFU];exact v
 generalize i%(r.length)=x at *
 generalize j%(r.length)=y at *
 rcases AFt x y with A5|heq|Jb
 .exact h x y u A5 b2 (iA (by rw[show y-x = -(x-y)by lia];exact(q.neg J)))
 .exfalso;apply q.1;rw[heq,AFq];rfl
 .rw[Gv];exact h y x b1 Jb Z<|iA q
theorem nO{r:List Pt}(h:UC r):NJ r:=λk m h0 y h2 hn=>by rw[Gv];exact h m k<|cS (FV y) J hn
structure Rm(r:List Pt):Prop where
 l3:3<=r.length
 OT:r.length<=12
 nd:r.Nodup
 NM:∀k:Int,AE (AA r<|k-2) (AA r<|k-1) (AA r k)≠0
 apart:UC r
 Gz:0<CJ r
structure Keeps(T:Pt->Pt)(d:Int):Prop where
 one:d=1\/d = -1
 sd:∀a b c,AE (T a) (T b) (T c)=d*AE a b c
 at_:∀a b p,At (T a) (T b) (T p)↔At a b p
 inj:∀a b,T a=T b->a=b
theorem Keeps.on{T:Pt->Pt}{d:Int}(k:Keeps T d)(a b p:Pt):Ai (T a) (T b) (T p)=Ai a b p:=by rw[AEk,F4,F4,Ru,Ru];exact k.at_ a b p
theorem Keeps.parts{T:Pt->Pt}{d:Int}(k:Keeps T d)(a b c e:Pt):AH.parts (T a) (T b) (T c) (T e)=AH.parts a b c e:=by
 unfold AH.parts;rw[k.sd,k.sd];rcases k.one with rfl|rfl
 .rw[AFw,AFw]
 .lia
theorem Keeps.meet{T:Pt->Pt}{d:Int}(k:Keeps T d)(a b c e:Pt):A0 (T a) (T b) (T c) (T e)=A0 a b c e:=by unfold A0;simp only[k.parts,k.parts,k.on,k.on,k.on,k.on]
theorem GK{T:Pt->Pt}{r:List Pt}(h:0<r.length)(i:Int):AA (r.map T) i=T (AA r i):=by
 unfold AA;have b:=AEL i (b:=(r.length))<|Ij h;have hi:(i%(r.length)).toNat<r.length:=J
 simp[List.getD,hi]
theorem QH{r:List Pt}(h:0<r.length)(i:Int):AA r.reverse i=AA r (-1-i):=by
 unfold AA;rw[AGy];have a:=AEZ i (b:=(r.length))<|Oc h;have b:=AEL i (b:=(r.length))<|Ij h;have e:(-1-i)%(r.length)=r.length-1-i%r.length:=by
  have : -1-i=(r.length-1-i%r.length)+r.length*(-(i / r.length)-1):=by
   have:=AFl i r.length
   grind
  rw[this,AFb,ADq J J]
 rw[e];have hi:(i%(r.length)).toNat<r.length:=J
 have y:(r.length-1-i%(r.length)).toNat=r.length-1-(i%(r.length)).toNat:=ADi
 simp only[y,List.getD,List.getD,List.getElem?_reverse hi]
theorem pS{r:List Pt}{n:Nat}(hn:n<=r.length)(h:0<r.length)(i:Int):AA (r.drop n++r.take n) i=AA r (i+n):=by
 have v:(r.drop n++r.take n).length=r.length:=by simp;grind
 unfold AA;rw[v,AFc i];have a:=AEZ i (b:=(r.length))<|Oc h;have b:=AEL i (b:=(r.length))<|Ij h;generalize y:i%(r.length)=x at *
 simp only[List.getD,List.getD];by_cases q:n=r.length
 .subst q;simp only[AGs,AEj,AHt,AHz,AFW];rw[ADq a b]
 rw[ADq (a:=(n)) Ew J];by_cases hc:x+n<r.length
 .rw[ADq (by clear y;lia) hc,AEM (by simp;lia),AHY]
  congr 2;subst y;lia
 .have e:(x+n)%(r.length)=x+n-r.length:=by rw[<-Int.sub_emod_right,ADq ADi (by clear y q;lia)]
  rw[AED (by simp;subst y;lia),AHe,ADr (by simp;clear y a;lia)]
  congr 2;simp;clear y a;lia
theorem C4{f g:Int->Int}:∀{n:Nat},(∀i:Nat,i<n->f i=g i)->Ab f n=Ab g n
 |0,_=>rfl
 |n+1,h=>by rw[Ab,Ab,C4 λi hi=>h i<|HX hi,h n Ha]
theorem O8(f g:Int->Int):∀n:Nat,Ab (λk=>f k+g k) n=Ab f n+Ab g n
 |0=>rfl
 |n+1=>by simp only[Ab,Ab,Ab,O8 f g n];lia
theorem Xt(c:Int)(f:Int->Int):∀n:Nat,Ab (λk=>c*f k) n=c*Ab f n
 |0=>by simp[Ab]
 |n+1=>by simp only[Ab,Ab,Xt c f n,Int.mul_add]
theorem Xw(f:Int->Int):∀n:Nat,Ab (λk=>f (k+1)-f k) n=f n-f 0
 |0=>by simp[Ab]
 |n+1=>by
  rw[Ab,Xw f n];have:((n+1:Nat):Int)=n+1:=J
  rw[this];lia
theorem Xu(f:Int->Int)(n:Nat)(h:∀i,f (i+n)=f i):∀m:Nat,Ab (λk=>f<|k+m) n=Ab f n
 |0=>C4 λi _=>ADk
 |m+1=>by
  have:=Xs (λk=>f<|k+((m+1:Nat))) n (λi=>by rw[show i+(n)+((m+1:Nat))=(i+((m+1:Nat)))+n by lia,h])
  simp only[<-this,<-(Xu f n h m)];exact C4 λi _=>by congr 1;lia
theorem kQ(f:Int->Int):∀n:Nat,Ab (λk=>f<|(n)-1-k) n=Ab f n
 |0=>rfl
 |n+1=>by
  have y:Ab (λk=>f<|((n+1:Nat))-1-k) (n+1)=f n+Ab (λk=>f<|(n)-1-k) n:=by
   have hs:∀(g:Int->Int)(m:Nat),Ab g (m+1)=g 0+Ab (λk=>g<|k+1) m:=by
    intro g m
    induction m with
    |zero=>simp[Ab]
    |succ m ih=>
     rw[Ab,ih,Ab];lia
   rw[hs]
   congr 1
   .lia
   .exact C4 λi _=>by congr 1;lia
  rw[y,kQ f n,Ab];lia
set_option tactic.hygienic true
def ES(t:Pt->Pt->Int)(r:List Pt):Int:=Ab (λk=>t (AA r k)<|AA r<|k+1) r.length
theorem TQ{t:Pt->Pt->Int}(y:∀a b,t b a = - t a b){r:List Pt}(h:0<r.length):ES t r.reverse = - ES t r:=by
 unfold ES;have e:Ab (λk=>t (AA r.reverse k)<|AA r.reverse<|k+1) r.length=Ab (λk=>-1*t (AA r<|r.length-1-k-1) (AA r<|r.length-1-k)) r.length:=C4 λi _=>by rw[QH h,QH h,y,<-Ef r (-1-i),<-Ef r (-1-(i+1)),show -1-(i:Int)+r.length=r.length-1-i by lia,show -1-((i:Int)+1)+r.length=r.length-1-i-1 by lia,AGN,AFw]
 rw[AGy,e,Xt,kQ λk=>t (AA r<|k-1)<|AA r k,<-Xs (λk=>t (AA r k)<|AA r<|k+1) r.length λi=>by rw[Ef,show i+(r.length)+1=i+1+r.length by lia,Ef],AGN,AFw]
 congr 1
 exact C4 λi _=>by rw[show(i:Int)-1+1=i from We]
theorem Uc(a b:Pt):Bx b a = - Bx a b:=by unfold Bx;grind
def JK(r:List Pt)(k:Int):Int:=Bx (AA r k)<|AA r<|k+1
theorem pH(r:List Pt)(k:Int):JK r (k+r.length)=JK r k:=by unfold JK;simp only[Ef,show k+(r.length)+1=k+1+r.length by lia,Ef]
theorem Pn(r:List Pt):CJ r=Ab (JK r) r.length:=rfl
theorem Rm.LC{r:List Pt}(R:Rm r){n:Nat}(hn:n<=r.length):Rm (r.drop n++r.take n)/\CJ (r.drop n++r.take n)=CJ r:=by
 have h3:=R.l3;have y:(r.drop n++r.take n).length=r.length:=by simp;lia
 have hc:=λi=>pS hn (CI h3) i;have ha:CJ (r.drop n++r.take n)=CJ r:=by simp only[Pn,Pn,y,<-Xu (JK r) r.length (pH r) n];refine C4 λi _=>?_;unfold JK;simp only[hc,hc];lia
 refine⟨⟨J,by have:=R.OT;lia,?_,λk=>?_,λi j q=>?_,by rw[ha];exact R.Gz⟩,ha⟩
 .have hp:(r.drop n++r.take n).Perm r:=AID.trans (by rw[AEc]);exact hp.nodup_iff.mpr R.nd
 .simp only[hc,hc,hc,show k-2+n=k+n-2 by lia,show k-1+n=k+n-1 by lia];exact R.NM _
 .rw[y]at q;have:=R.apart (i+n) (j+n) (by rw[show i+n-(j+n)=i-j by lia];exact q);unfold M at this ⊢;simp only[hc,hc,hc,hc,show i+1+n=i+n+1 by lia,show j+1+n=j+n+1 by lia];exact this
theorem iN{T:Pt->Pt}(hi:∀a b,T a=T b->a=b){r:List Pt}(h:r.Nodup):(r.map T).Nodup:=by unfold List.Nodup at h ⊢;rw[AEa];exact h.imp λy e=>y<|hi _ _ e
theorem pI(o a b:Pt):Bx a b=AE o a b+(Bx o b-Bx o a):=by delta Bx AE;grind
theorem UE(r:List Pt)(o:Pt):CJ r=Ab (λk=>AE o (AA r k)<|AA r<|k+1) r.length:=by
 rw[Pn];have y:Ab (JK r) r.length=Ab (λk=>AE o (AA r k) (AA r<|k+1)+(Bx o (AA r<|k+1)-Bx o (AA r k))) r.length:=C4 λi _=>by exact pI o _ _
 rw[y,O8 (λk=>AE o (AA r k)<|AA r<|k+1) λk=>Bx o (AA r<|k+1)-Bx o (AA r k)];have h3:=by have:=Ef r 0;rw[AE0]at this;exact this
 rw[(Xw (λk=>Bx o<|AA r k) r.length),h3];lia
theorem Po{r:List Pt}(h:0<r.length){T:Pt->Pt}{d:Int}(sd:∀a b c,AE (T a) (T b) (T c)=d*AE a b c):CJ (r.map T)=d*CJ r:=by rw[UE _<|T (0,0),ADo,UE r (0,0),<-Xt];exact C4 λi _=>by rw[GK h,GK h,sd]
set_option tactic.hygienic false
theorem Rm.map{r:List Pt}(R:Rm r){T:Pt->Pt}(k:Keeps T 1):Rm<|r.map T:=by
 have h3:=R.l3;have hc:=λi=>GK (T:=T) (r:=r) (CI h3) i;refine⟨by simpa using R.l3,by simpa using R.OT,iN k.inj R.nd,λi=>?_,λi j y=>?_,by rw[Po (CI h3) k.sd,AFw];exact R.Gz⟩
 .simp only[hc,hc,hc,k.sd,AFw];exact R.NM i
 .rw[ADo]at y;unfold M;simp only[hc,hc,hc,hc,k.meet];exact R.apart i j y
theorem j7(a b c:Pt):AE c b a = - AE a b c:=by unfold AE;grind
theorem iz(a b c d:Pt):AH.parts b a d c=AH.parts a b c d:=by unfold AH.parts;rw[DL a b,DL a b,AEk];simp only[AEV,ADx,ADu];constructor<;>lia
theorem wY(a b c d:Pt):A0 b a d c=A0 a b c d:=by unfold A0;simp only[iz a b c d,iz c d a b,Rt b a d,Rt b a c,Rt d c b,Rt d c a,AIb<|Ai a b d,AIb<|Ai c d b]
theorem Rm.mapRev{r:List Pt}(R:Rm r){T:Pt->Pt}(k:Keeps T (-1)):Rm (r.map T).reverse:=by
 have h3:=R.l3;have q:(r.map T).reverse.length=r.length:=ADk
 have hc:∀i,AA (r.map T).reverse i=T (AA r (-1-i)):=λi=>by rw[QH (by simpa using(CI h3)),GK<|CI h3]
 refine⟨J,by have:=R.OT;lia,?_,λi=>?_,λi j y=>?_,?_⟩
 .exact(AHD _).nodup_iff.mpr (iN k.inj R.nd)
 .rw[hc,hc,hc,k.sd,j7];have:=R.NM (-1-i+2);lia
 .rw[q]at y;unfold M;rw[hc,hc,hc,hc,k.meet,<-wY];have:=R.apart (-1-(i+1)) (-1-(j+1)) (by rw[show -1-(i+1)-(-1-(j+1)) = -(i-j)by lia];exact y.neg<|Jp h3)
  unfold M at this;rw[show -1-(i+1)+1 = -1-i by lia,show -1-(j+1)+1 = -1-j by lia]at this;exact this
 .rw[show CJ (r.map T).reverse = - CJ (r.map T)from TQ Uc (by simpa using CI h3),Po (CI h3) k.sd,AGN,AFw,AGw];exact R.Gz
theorem wsum{q s a b m:Int}(y:0<=s)(v:s<=q)(ha:a<=m)(hb:b<=m):q*a+s*(b-a)<=q*m:=by have:=AD8 ha (by exact Ci v:0<=q-s);have:=AD8 hb y;lia
theorem S9{q s a b m:Int}(y:0<=s)(v:s<=q)(ha:m<=a)(hb:m<=b):q*m<=q*a+s*(b-a):=by have:=AD8 ha (by exact Ci v:0<=q-s);have:=AD8 hb y;lia
theorem Xe{a b c d:Pt}(m n:Int)(y:a.1<=m)(Z:b.1<=m)(Y:m<n)(h3:n<=c.1)(Q:n<=d.1):¬ Bj a b c d:=by rintro⟨q,s,t,O,P,s1,D,t1,e1,_⟩;have u:=wsum P s1 y Z;have v:=S9 D t1 h3 Q;have:=AGt Y O;lia
theorem ABG{a b c d:Pt}(m n:Int)(y:a.2<=m)(Z:b.2<=m)(Y:m<n)(h3:n<=c.2)(Q:n<=d.2):¬ Bj a b c d:=by rintro⟨q,s,t,O,P,s1,D,t1,_,e2⟩;have u:=wsum P s1 y Z;have v:=S9 D t1 h3 Q;have:=AGt Y O;lia
structure Rows(n m:Nat)(P:Nat->Pt):Prop where
 hm:m+1<n
 h3:3<=n
 cl:P n=P 0
 xb:∀i,i<=m->(P i).1<(P<|i+1).1
 xt:∀i,m+1<=i->i<n->(P<|i+1).1<(P i).1
 y0:(P 0).2=0
 ym:(P<|m+1).2=0
 yb:∀i,1<=i->i<=m->(P i).2<0
 yt:∀i,m+2<=i->i<n->0<(P i).2
section
variable{n m:Nat}{P:Nat->Pt}(R:Rows n m P)
include R
theorem Rows.TC:∀{i j:Nat},i<=j->j<=m+1->(P i).1<=(P j).1:=by
 intro i j h hj
 induction j with
 |zero=>
  have:i=0:=J
  subst this;exact AEm _
 |succ j ih=>
  by_cases he:i=j+1
  .subst he;exact AEm _
  .have:=R.xb j J;lia
theorem Rows.Mq:∀{i j:Nat},m+1<=i->i<=j->j<=n->(P j).1<=(P i).1:=by
 intro i j h1 h hj
 induction j with
 |zero=>lia
 |succ j ih=>
  by_cases he:i=j+1
  .subst he;exact AEm _
  .have:=R.xt j J ADn;lia
theorem Rows.PC:∀{i:Nat},i<=m+1->(P i).2<=0:=by
 intro i hi;by_cases y:i=0
 .subst y;exact AId R.y0
 by_cases q:i=m+1
 .subst q;exact AId R.ym
 exact ADy<|R.yb i J J
theorem Rows.TJ:∀{i:Nat},m+1<=i->i<=n->0<=(P i).2:=by
 intro i hi hn;by_cases y:i=n
 .subst y;rw[R.cl,R.y0];exact AEm _
 by_cases q:i=m+1
 .subst q;exact AId R.ym.symm
 exact ADy<|R.yt i J J
theorem Rows.apart{i j:Nat}(BM:i<j)(hj:j<n)(A3:j≠i+1)(hw:¬ (i=0/\j=n-1)):¬ Bj (P i) (P<|i+1) (P j) (P<|j+1):=by
 by_cases v:j<=m
 .-- both below
  exact Xe (P<|i+1).1 (P j).1 (R.TC J J) (AEm _) (by have:=R.xb (i+1) J;have:=R.TC (i:=i+1+1) (j:=j) J<|MM v;lia) (AEm _)<|R.TC J<|Od v
 by_cases de:m+1<=i
 .-- both above
  intro h;exact Xe (P j).1 (P<|i+1).1 (AEm _) (R.Mq J J J) (by have:=R.xt (i+1) J J;have:=R.Mq (i:=i+1+1) (j:=j) J J J;lia) (R.Mq ADn J J) (AEm _) h.symm
 rintro⟨q,s,t,hq,Z,s1,Y,t1,y,e2⟩;have ez:q*(P i).2+s*((P<|i+1).2-(P i).2)=(q-s)*(P i).2+s*(P<|i+1).2:=ADi
 have ez':q*(P j).2+t*((P<|j+1).2-(P j).2)=(q-t)*(P j).2+t*(P<|j+1).2:=ADi
 have p1:(q-s)*(P i).2<=0:=AE7 (Ci s1)<|R.PC (i:=i) J;have p2:=AE7 Z<|R.PC (i:=i+1) J;have p3:0<=(q-t)*(P j).2:=ADz (Ci t1)<|R.TJ (i:=j) J J;have p4:=ADz Y<|R.TJ (i:=j+1) J J;have Q:(q-s)*(P i).2=0:=ADj
 have O:s*(P<|i+1).2=0:=ADj
 have D:(q-t)*(P j).2=0:=ADj
 have F:t*(P<|j+1).2=0:=ADj
 have B:1<=i->q=s:=λh=>by
  rcases AEI.mp Q with h'|h'
  .lia
  .have:=R.yb i h J;lia
 have G:i+1<=m->s=0:=λh=>by
  rcases AEI.mp O with h'|h'
  .exact h'
  .have:=R.yb (i+1) J h;lia
 have S:m+2<=j->q=t:=λh=>by
  rcases AEI.mp D with h'|h'
  .lia
  .have:=R.yt j h ADn;lia
 have T:j+1<n->t=0:=λh=>by
  rcases AEI.mp F with h'|h'
  .exact h'
  .have:=R.yt (j+1) J h;lia
 by_cases C:i=0
 .-- at the first ADK,or the E5 ADJ
  subst C;have E:j+1<n:=J
  by_cases Vk:m=0
  .lia
  .have hs:=G J;rw[hs,(T E)]at y;simp only[AE8,AEj]at y;have u:=AFh J y;have a:=R.xt j J ADn;have b:=R.Mq (i:=j+1) (j:=n) J ADn J;rw[R.cl]at b;lia
 .have hs:=B J;by_cases H:i=m
  .subst H;have I:i+2<=j:=J
   rw[<-hs,<-(S I)]at y;have u:q*(P<|i+1).1=q*(P<|j+1).1:=ADi
   have ADL:=AFh J u;have a:=R.xt (i+1) J J;have b:=R.Mq (i:=i+1+1) (j:=j+1) J J J;lia
  .lia
theorem Rows.Gz:0<Ab (λk=>Bx (P k.toNat)<|P (k+1).toNat) n:=by
 have hm:=R.hm;have e:∀N:Nat,Ab (λk=>Bx (P k.toNat)<|P (k+1).toNat) N=Ab (λk=>((P k.toNat).1-(P (k+1).toNat).1)*((P k.toNat).2+(P (k+1).toNat).2)) N+((P N).1*(P N).2-(P 0).1*(P 0).2):=by
  intro N
  induction N with
  |zero=>simp[Ab]
  |succ N ih=>
   simp only[Ab,Ab,ih];have y:((N:Int)).toNat=N:=J
   have q:((N:Int)+1).toNat=N+1:=J
   rw[y,q];unfold Bx
   grind
 rw[e n,R.cl];have Z:∀i:Nat,i<n->0<=((P i).1-(P<|i+1).1)*((P i).2+(P<|i+1).2):=λi hi=>by
  by_cases hb:i<=m
  .have a:=R.xb i hb;have b:=R.PC (i:=i)<|MM hb;have c:=R.PC (i:=i+1)<|Od hb;exact AHE J J
  .have a:=R.xt i J hi;have b:=R.TJ (i:=i) J J;have c:=R.TJ (i:=i+1) J ADn;exact ADz (FX a) J
 have pos:∃i:Nat,i<n/\0<((P i).1-(P<|i+1).1)*((P i).2+(P<|i+1).2):=by
  by_cases u:m=0
  .refine⟨m+1,ADj,?_⟩;have a:=R.xt (m+1) J J;have b:=R.yt (m+1+1) J (by have:=R.h3;clear hm a;subst u;lia);have c:=R.ym;exact AD9 (FV a) J
  .refine⟨0,by clear u;lia,?_⟩;have a:=R.xb 0 gN;have b:=R.yb (0+1) J J;have c:=R.y0;exact AHm J J
 have v:∀N:Nat,N<=n->0<=Ab (λk=>((P k.toNat).1-(P (k+1).toNat).1)*((P k.toNat).2+(P (k+1).toNat).2)) N/\(∀i,i<N->0<((P i).1-(P<|i+1).1)*((P i).2+(P<|i+1).2)->0<Ab (λk=>((P k.toNat).1-(P (k+1).toNat).1)*((P k.toNat).2+(P (k+1).toNat).2)) N):=by
  intro N
  induction N with
  |zero=>intro _;exact⟨by simp[Ab],λi hi=>J⟩
  |succ N ih=>
   intro Y;obtain⟨Q,O⟩:=ih<|MJ Y;have y:((N:Int)).toNat=N:=by clear pos;lia
   have q:((N:Int)+1).toNat=N+1:=by clear pos;lia
   have:=Z N ADn;rw[Ab,y,q];refine⟨J,λi hi hp=>?_⟩;by_cases he:i=N
   .subst he;clear pos;omega
   .have:=O i (Fy hi he) hp;clear Q;lia
 obtain⟨i,hi,hp⟩:=pos;have:=(v n J).2 i hi hp;lia
theorem Rows.inj{i j:Nat}(q:i<j)(y:j<n):P i≠P j:=by
 intro e;by_cases v:j<=m+1
 .have a:=R.xb i J;have b:=R.TC (i:=i+1) J v;rw[e]at a;lia
 by_cases u:m+1<=i
 .have a:=R.xt i u<|RL q y;have b:=R.Mq (i:=i+1) (j:=j) J J J;rw[e]at a;lia
 .have a:=R.PC (i:=i) J;have b:=R.yt j J y;rw[e]at a;lia
end
def Lt(a b c d:Pt):Prop:=∃q s t:Int,0<q/\0<=s/\s<=q/\0<=t/\t<=q/\q*a.2+s*(b.2-a.2)=q*c.2+t*(d.2-c.2)/\q*a.1+s*(b.1-a.1)<q*c.1+t*(d.1-c.1)
theorem MQ{x a b:Int}(y:0<=x)(q:a<=b):a*x<=b*x:=AEP q y
theorem Wh{a b c d:Pt}(u:Lt a b c d)(Z:Lt c d a b):∃q s1 t1 v s2 t2 x y:Int,0<x/\0<y/\0<q/\0<v/\0<=s1/\s1<=q/\0<=s2/\s2<=v/\0<=t1/\t1<=q/\0<=t2/\t2<=v/\q*a.1+s1*(b.1-a.1)+x=q*c.1+t1*(d.1-c.1)/\(q*y+v*x)*a.1+(s1*y+s2*x)*(b.1-a.1)=(q*y+v*x)*c.1+(t1*y+t2*x)*(d.1-c.1)/\(q*y+v*x)*a.2+(s1*y+s2*x)*(b.2-a.2)=(q*y+v*x)*c.2+(t1*y+t2*x)*(d.2-c.2):=by
 obtain⟨q,s1,t1,Y,Q,O,P,D,F,l1⟩:=u;obtain⟨v,t2,s2,R,b1,b2,B,G,S,l2⟩:=Z;refine⟨q,s1,t1,v,s2,t2,q*c.1+t1*(d.1-c.1)-(q*a.1+s1*(b.1-a.1)),v*a.1+s2*(b.1-a.1)-(v*c.1+t2*(d.1-c.1)),J,J,Y,R,Q,O,B,G,P,D,b1,b2,J,ADi,?_⟩;generalize q*c.1+t1*(d.1-c.1)-(q*a.1+s1*(b.1-a.1))=x;generalize v*a.1+s2*(b.1-a.1)-(v*c.1+t2*(d.1-c.1))=y;have f1:(q*y+v*x)*a.2+(s1*y+s2*x)*(b.2-a.2)=y*(q*a.2+s1*(b.2-a.2))+x*(v*a.2+s2*(b.2-a.2)):=ADi
 have f2:(q*y+v*x)*c.2+(t1*y+t2*x)*(d.2-c.2)=y*(q*c.2+t1*(d.2-c.2))+x*(v*c.2+t2*(d.2-c.2)):=ADi
 simp only[f1,f2,F,<-S]
theorem Wn{a b c d:Pt}(h:¬ Bj a b c d)(u:Lt a b c d):¬ Lt c d a b:=λZ=>by
 obtain⟨q1,s1,t1,q2,s2,t2,x,y,q,v,Y,Q,O,P,b1,b2,D,F,R,B,_,G,S⟩:=Wh u Z;have p1:=AD9 Y v;have p2:=AD9 Q q;refine h ⟨_,_,_,J,?_,?_,?_,?_,G,S⟩
 .have:=ADz O<|ADy v;have:=ADz b1<|ADy q;lia
 .have:=MQ (ADy v) P;have:=MQ (ADy q) b2;lia
 .have:=ADz D<|ADy v;have:=ADz R<|ADy q;lia
 .have:=MQ (ADy v) F;have:=MQ (ADy q) B;lia
def CO(A X B:Pt):Prop:=∀s t:Int,0<=s->0<=t->s*(X.1-A.1)=t*(B.1-A.1)->s*(X.2-A.2)=t*(B.2-A.2)->s=0/\t=0
theorem Nn{u v w:Pt}(hb:AE u v w≠0):CO v u w:=λs t _ _ y q=>by
 have f1:s*AE u v w=0:=by
  have:s*AE u v w=(w.1-v.1)*(s*(u.2-v.2))-(w.2-v.2)*(s*(u.1-v.1)):=by unfold AE;grind
  simp only[this,y,q];grind
 have f2:t*AE u v w=0:=by
  have:t*AE u v w=(v.1-u.1)*(t*(w.2-v.2))-(v.2-u.2)*(t*(w.1-v.1)):=by unfold AE;grind
  simp only[this,<-y,<-q];grind
 exact⟨(AEI.mp f1).resolve_right hb,(AEI.mp f2).resolve_right hb⟩
theorem T7{u v w:Pt}(f:CO v u w){q s t:Int}(sq:s<=q)(y:0<=t)(e1:q*u.1+s*(v.1-u.1)=q*v.1+t*(w.1-v.1))(e2:q*u.2+s*(v.2-u.2)=q*v.2+t*(w.2-v.2)):s=q/\t=0:=by obtain⟨a,b⟩:=f (q-s) t (Ci sq) y ADi ADi;exact⟨J,b⟩
theorem iB{u v w:Pt}(hb:CO v u w)(Q:Lt u v v w):¬ Lt v w u v:=λO=>by
 obtain⟨Z,s1,t1,q2,s2,t2,x,y,q,Y,OA,OB,a1,P,b1,b2,D,c2,F,d2,e0,R,B⟩:=Wh Q O;have m1:=MQ (ADy Y) P;have m2:=MQ (ADy q) b2;have n1:=ADz D<|ADy Y;have n2:=ADz F<|ADy q;obtain⟨hs,ht⟩:=T7 hb (by clear e0;lia) J R B;have G:(Z-s1)*y=0:=by rw[AHJ];lia
 have S:s1=Z:=by rcases AEI.mp G with h|h<;>lia
 have T:t1*y=0:=J
 have C:t1=0:=by rcases AEI.mp T with h|h<;>lia
 subst S;subst C;have f:s1*u.1+s1*(v.1-u.1)=s1*v.1:=by clear q;grind
 rw[f,AE8]at e0;lia
def L(r:List Pt)(i j:Int):Prop:=Lt (AA r i) (AA r<|i+1) (AA r j)<|AA r<|j+1
theorem Ao{r:List Pt}{i j:Int}(h:(i-j)%(r.length)=0):AA r i=AA r j:=by unfold AA;have:=AGA.mpr h;rw[this]
structure Ap(r:List Pt):Prop where
 l3:3<=r.length
 fork:∀k:Int,CO (AA r<|k+1) (AA r k)<|AA r<|k+1+1
 apart:∀i j:Int,Bv r.length (i-j)->¬ Bj (AA r i) (AA r<|i+1) (AA r j) (AA r<|j+1)
section
variable{r:List Pt}(S:Ap r)
include S
theorem Ap.cases(i j:Int):(i-j)%(r.length)=0\/(i-j)%(r.length)=1\/(j-i)%(r.length)=1\/Bv r.length (i-j):=by
 have h3:=S.l3;have a:=AEZ (i-j) (b:=(r.length))<|Jr h3;by_cases y:(i-j)%(r.length)=0
 .exact .inl y
 by_cases q:(i-j)%(r.length)=1
 .exact .inr<|.inl q
 by_cases v:(i-j)%(r.length)=r.length-1
 .right;right;left;have:j-i=1+r.length*(-((i-j) / r.length)-1):=by
   have:=AFl (i-j) r.length
   grind
  rw[this,AFb,ADq C1<|DB h3]
 .exact .inr<|.inr<|.inr ⟨y,q,v⟩
theorem Ap.next{i j:Int}(h:(i-j)%(r.length)=1):AA r i=AA r (j+1)/\AA r (i+1)=AA r (j+1+1):=by
 have h3:=S.l3;have e:(i-(j+1))%(r.length)=0:=by rw[show i-(j+1)=(i-j)-1 by lia,AFU,h,ADq (a:=1) C1<|DB h3];rfl
 exact⟨Ao e,Ao (by rw[show i+1-(j+1+1)=i-(j+1)by lia];exact e)⟩
theorem Ap.nc{i j:Int}(Z:(i-j)%(r.length)≠0)(y:L r i j):¬ L r j i:=by
 intro q;rcases S.cases i j with h|h|h|h
 .exact Z h
 .obtain⟨v,u⟩:=S.next h
  unfold L at y q;rw[v,u]at y q;exact iB (S.fork j) q y
 .obtain⟨v,u⟩:=S.next h
  unfold L at y q;rw[v,u]at y q;exact iB (S.fork i) y q
 .exact Wn (S.apart i j h) y q
theorem Ap.share{i j:Int}(Q:(i-j)%(r.length)≠0){q s t:Int}(O:0<q)(Z:0<=s)(s1:s<=q)(Y:0<=t)(t1:t<=q) (y:q*(AA r i).1+s*((AA r<|i+1).1-(AA r i).1)=q*(AA r j).1+t*((AA r<|j+1).1-(AA r j).1)) (v:q*(AA r i).2+s*((AA r<|i+1).2-(AA r i).2)=q*(AA r j).2+t*((AA r<|j+1).2-(AA r j).2)) : ((i-j)%(r.length)=1/\s=0/\t=q)\/((j-i)%(r.length)=1/\s=q/\t=0):=by
 rcases S.cases i j with h|h|h|h
 .exact absurd h Q
 .obtain⟨f1,f2⟩:=S.next h
  rw[f1,f2]at y v;obtain⟨g1,u⟩:=T7 (S.fork j) t1 Z y.symm v.symm;exact .inl ⟨h,u,g1⟩
 .obtain⟨f1,f2⟩:=S.next h
  rw[f1,f2]at y v;obtain⟨g1,u⟩:=T7 (S.fork i) s1 Y y v;exact .inr ⟨h,g1,u⟩
 .exact absurd ⟨q,s,t,O,Z,s1,Y,t1,y,v⟩ (S.apart i j h)
end
theorem NB(r:List Pt)(i:Int)(A3:(AA r i).2≠(AA r<|i+1).2):¬ L r i i:=by
 rintro⟨q,s,t,hq,s0,s1,t0,t1,e1,l⟩;have:(s-t)*((AA r<|i+1).2-(AA r i).2)=0:=ADi
 rcases AEI.mp this with h|h
 .have:s=t:=by clear l;lia
  subst this;lia
 .lia
theorem j3{D z:Int}(h:(0<=z/\z<=D)\/(D<=z/\z<=0))(y:D≠0):∃g:Int,(g=1\/g = -1)/\0<g*D/\0<=g*z/\g*z<=g*D:=by
 rcases AEd y with h0|h0
 .exact⟨-1,.inr rfl,J,J,J⟩
 .exact⟨1,.inl rfl,J,J,J⟩
theorem ZF{a b z:Pt}(y:b.1-a.1≠0)(hs:AE a b z=0)(hz:(0<=z.1-a.1/\z.1-a.1<=b.1-a.1)\/(b.1-a.1<=z.1-a.1/\z.1-a.1<=0)):On a b z:=by
 obtain⟨g,hg,q,p2,v⟩:=j3 hz y;refine Gj ⟨g*(b.1-a.1),g*(z.1-a.1),q,p2,v,ADi,?_⟩;unfold AE at hs
 grind
theorem ZG{a b c d:Pt}(q:b.1-a.1≠0)(y:AE a b c=0)(u:AE a b d=0)(hz:(c.1<=a.1/\a.1<=d.1)\/(d.1<=a.1/\a.1<=c.1)):On c d a:=by
 unfold AE at y u;have v:(b.1-a.1)*(c.2-a.2)=(b.2-a.2)*(c.1-a.1):=J
 by_cases Z:d.1-c.1=0
 .have e:c.1-a.1=0:=ADj
  rw[e,AE9]at v;have e2:c.2-a.2=0:=by
   rcases AEI.mp v with h|h
   .exact absurd h q
   .exact h
  exact Gj ⟨1,0,Jo,CM,C1,J,J⟩
 .obtain⟨g,hg,Y,p2,Q⟩:=j3 (z:=a.1-c.1) J Z;refine Gj ⟨g*(d.1-c.1),g*(a.1-c.1),Y,p2,Q,ADi,?_⟩;have O:(b.1-a.1)*(g*(d.1-c.1)*(a.2-c.2)-g*(a.1-c.1)*(d.2-c.2))=0:=by
   have P:(b.1-a.1)*(a.2-c.2)=(b.2-a.2)*(a.1-c.1):=by clear y;grind
   have D:(b.1-a.1)*(d.2-c.2)=(b.2-a.2)*(d.1-c.1):=by clear y;grind
   have:(b.1-a.1)*(g*(d.1-c.1)*(a.2-c.2)-g*(a.1-c.1)*(d.2-c.2))=g*(d.1-c.1)*((b.1-a.1)*(a.2-c.2))-g*(a.1-c.1)*((b.1-a.1)*(d.2-c.2)):=ADi
   simp only[this,P,D];grind
  rcases AEI.mp O with h|h
  .exact absurd h q
  .omega
theorem o8{a b c d:Pt}(hD:b.1-a.1≠0)(y:AE a b c=0)(q:AE a b d=0):AE b a c=0/\AE b a d=0:=by simp only[DL a b,DL a b,y,q];exact⟨rfl,rfl⟩
theorem ZH{a b c d:Pt}(y:b.1-a.1≠0)(v:AE a b c=0)(u:AE a b d=0)(hs:Bj a b c d):On a b c\/On a b d\/On c d a\/On c d b:=by
 obtain⟨q,s,t,Z,Y,s1,Q,t1,e1,_⟩:=hs;have u1:=wsum (a:=a.1) (b:=b.1) (m:=max a.1 b.1) Y s1 ADj J;have u2:=S9 (a:=a.1) (b:=b.1) (m:=min a.1 b.1) Y s1 J ADj;have v1:=wsum (a:=c.1) (b:=d.1) (m:=max c.1 d.1) Q t1 J J;have v2:=S9 (a:=c.1) (b:=d.1) (m:=min c.1 d.1) Q t1 J J;have w1:min a.1 b.1<=max c.1 d.1:=AFC J Z;have w2:min c.1 d.1<=max a.1 b.1:=AFC J Z;by_cases hc:min a.1 b.1<=min c.1 d.1
 .by_cases Ba:c.1<=d.1
  .exact .inl<|ZF y v (by clear y;lia)
  .exact .inr<|.inl<|ZF y u ADi
 .by_cases D6:a.1<=b.1
  .exact .inr<|.inr<|.inl<|ZG y v u J
  .obtain⟨g1,O⟩:=o8 y v u;exact .inr<|.inr<|.inr<|ZG J g1 O (by clear y;lia)
noncomputable def sw(p:Pt):Pt:=(p.2,p.1)
theorem Xj(a b c:Pt):AE (sw a) (sw b) (sw c) = - AE a b c:=by delta AE sw;grind
theorem Rv{a b p:Pt}(h:On (sw a) (sw b)<|sw p):On a b p:=by obtain⟨y,q,h3⟩:=h;rw[Xj]at y;exact⟨J,h3,q⟩
theorem ABM{a b c d:Pt}(h:Bj a b c d):Bj (sw a) (sw b) (sw c)<|sw d:=by obtain⟨q,s,t,y,v,h3,u,Z,Y,Q⟩:=h;exact⟨q,s,t,y,v,h3,u,Z,Q,Y⟩
theorem Wj{a b c d:Pt}(h:Bj a b c d):A0 a b c d=true:=by
 cases hm:A0 a b c d with
 |true=>rfl
 |false=>
  exfalso;have O:¬ A0 a b c d=true:=by rw[hm];simp
  simp only[A0,AEV,ADx,F4,not_or,not_and]at O;obtain⟨hp,⟨P,D⟩,Y,F⟩:=O;obtain⟨q,s,t,Z,R,s1,Q,t1,B,G⟩:=id h;have U:AE a b c-AE a b d=AE c d b-AE c d a:=by unfold AE;grind
  have f1:(q-t)*AE a b c+t*AE a b d=0:=by
   have:(q-t)*AE a b c+t*AE a b d=(b.1-a.1)*(q*c.2+t*(d.2-c.2)-q*a.2)-(b.2-a.2)*(q*c.1+t*(d.1-c.1)-q*a.1):=by unfold AE;grind
   simp only[this,<-B,<-G];grind
  have f2:(q-s)*AE c d a+s*AE c d b=0:=by
   have:(q-s)*AE c d a+s*AE c d b=(d.1-c.1)*(q*a.2+s*(b.2-a.2)-q*c.2)-(d.2-c.2)*(q*a.1+s*(b.1-a.1)-q*c.1):=by unfold AE;grind
   simp only[this,B,G];grind
  have hc:t=0->On a b c:=λz=>by subst z;refine Gj ⟨q,s,Z,R,s1,?_,?_⟩<;>grind
  have hd:t=q->On a b d:=λz=>by subst z;refine Gj ⟨t,s,Z,R,s1,?_,?_⟩<;>grind
  have ha:s=0->On c d a:=λz=>by refine Gj ⟨q,t,Z,Q,t1,?_,?_⟩<;>grind
  have hb:s=q->On c d b:=λz=>by subst z;refine Gj ⟨s,t,Z,Q,t1,?_,?_⟩<;>grind
  have n:0<t:=J
  have ua:0<q-t:=J
  have S:0<s:=J
  have T:0<q-s:=J
  have Jw:∀{x y u v:Int},0<u->0<v->u*x+v*y=0->(x=0/\y=0)\/(x<0/\0<y)\/(0<x/\y<0):=λ{x y u v} C E e=>by
   rcases AFt x 0 with hx|hx|hx
   .right;left;refine⟨hx,?_⟩;have:=AG1 C hx;by_cases h:0<y
    .exact h
    .have h:y<=0:=J
     have:=AE7 (ADy E) h;lia
   .left;subst hx;refine⟨rfl,?_⟩;have:v*y=0:=J
    rcases AEI.mp this with h|h
    .lia
    .exact h
   .right;right;refine⟨hx,?_⟩;have:=AD9 C hx;by_cases h:y<0
    .exact h
    .have h:0<=y:=RN h;have:=ADz (ADy E) h;lia
  rcases Jw ua n f1 with⟨H,I⟩|z|z
  .-- on one line
   by_cases hD:b.1-a.1=0
   .by_cases hE:b.2-a.2=0
    .-- a CD of one point
     refine Y<|Gj ⟨q,t,Z,Q,t1,?_,?_⟩
     .grind
     .grind
    .have k1:AE (sw a) (sw b) (sw c)=0:=by rw[Xj,H];rfl
     have k2:AE (sw a) (sw b) (sw d)=0:=by rw[Xj,I];rfl
     rcases ZH hE k1 k2 (ABM h)with k|k|k|k
     .exact P<|Rv k
     .exact D<|Rv k
     .exact Y<|Rv k
     .exact F<|Rv k
   .rcases ZH hD H I h with k|k|k|k
    .exact P k
    .exact D k
    .exact Y k
    .exact F k
  .rcases Jw T S f2 with⟨y1,y2⟩|y|y
   .lia
   .exact hp J J
   .exact hp (by simp[parts];grind) (by simp[parts];right;lia)
  .rcases Jw T S f2 with⟨y1,y2⟩|y|y
   .lia
   .exact hp (by simp[parts];clear U;omega) (by simp[parts];left;lia)
   .exact hp J J
theorem Rm.DF{r:List Pt}(R:Rm r)(k:Int):AE (AA r k) (AA r<|k+1) (AA r<|k+1+1)≠0:=by have:=R.NM<|k+1+1;rw[show k+1+1-2=k by lia,show k+1+1-1=k+1 by lia]at this;exact this
theorem Rm.simple{r:List Pt}(R:Rm r):Ap r:=
 ⟨R.l3,λk=>Nn<|R.DF k,λi j y hs=>by have:=R.apart i j y;unfold M at this;rw[Wj hs]at this;cases this⟩
open Classical
def yy(r:List Pt)(i:Int):Int:=(AA r i).2
def Ac(r:List Pt)(h i:Int):Int:=if yy r i<=h/\h<yy r (i+1)then 1 else if yy r (i+1)<=h/\h<yy r i then -1 else 0
noncomputable def ind(p:Prop):Int:=if p then 1 else 0
theorem A6{p:Prop}(h:p):ind p=1:=ADr h
theorem Ax{p:Prop}(h:¬ p):ind p=0:=ADs h
def Rr(r:List Pt)(h i:Int):Int:=Ab (λj=>ind (L r i j)*Ac r h j) r.length
theorem Gp{r:List Pt}{i j:Int}(h:(i-j)%(r.length)=0):yy r i=yy r j:=by unfold yy;rw[Ao h]
theorem CN{n i j:Int}(h:(i-j)%n=0):(i+1-(j+1))%n=0:=by rw[show i+1-(j+1)=i-j by lia];exact h
theorem SY{r:List Pt}{h i j:Int}(e:(i-j)%(r.length)=0):Ac r h i=Ac r h j:=by unfold Ac;rw[Gp e,Gp<|CN e]
theorem Ph{r:List Pt}{i i' j y:Int}(e:(i-i')%(r.length)=0)(f:(j-y)%(r.length)=0):L r i j=L r i' y:=by unfold L;simp only[Ao e,Ao<|CN e,Ao f,Ao<|CN f]
theorem j4(r:List Pt)(h j:Int):Ac r h j-Ac r (h-1) j=ind (yy r j=h)-ind (yy r (j+1)=h):=by
 delta Ac ind
 generalize yy r j=a;generalize yy r (j+1)=b;by_cases y:a=h<;>by_cases q:b=h<;>simp only[y,q,AF3,if_false]<;>(repeat' split)<;>lia
theorem comb{u a b g1 q x y:Int}(hs:a=b+(x-y))(v:(x=1/\g1=u)\/(x=0/\g1=0))(Z:(y=1/\q=u)\/(y=0/\q=0)):u*a=u*b+(g1-q):=by rcases v with⟨rfl,rfl⟩|⟨rfl,rfl⟩<;>rcases Z with⟨rfl,h⟩|⟨rfl,rfl⟩<;>(try subst h)<;>subst hs<;>grind
theorem Wi{a b c d:Pt}(h:Lt a b c c):Lt a b c d:=by obtain⟨q,s,t,y,v,h3,h4,h5,e,l⟩:=h;exact⟨q,s,0,y,v,h3,CM,J,ADi,ADi⟩
theorem gT{a b c d:Pt}(h:Lt a b d d):Lt a b c d:=by obtain⟨q,s,t,y,v,h3,h4,h5,e,l⟩:=h;exact⟨q,s,q,y,v,h3,J,Ds,ADi,ADi⟩
theorem gS{a b c d:Pt}(h:Lt a a c d):Lt a b c d:=by obtain⟨q,s,t,y,h2,h3,v,u,e,l⟩:=h;exact⟨q,0,t,y,CM,J,v,u,ADi,ADi⟩
theorem wU{a b c d:Pt}(h:Lt b b c d):Lt a b c d:=by obtain⟨q,s,t,y,h2,h3,v,u,e,l⟩:=h;exact⟨q,q,t,y,J,Ds,v,u,ADi,ADi⟩
set_option tactic.hygienic true
theorem Oy{a b:Pt}{h:Int}(y:a.2≠b.2)(hr:(a.2<=h/\h<=b.2)\/(b.2<=h/\h<=a.2)):∃q s:Int,0<q/\0<=s/\s<=q/\q*a.2+s*(b.2-a.2)=q*h/\(s=0->h=a.2)/\(s=q->h=b.2):=by
 rcases AEd y with hl|hl
 .exact⟨b.2-a.2,h-a.2,J,J,J,ADi,J,J⟩
 .exact⟨a.2-b.2,a.2-h,J,J,J,ADi,J,J⟩
theorem XC{a b:Pt}{h:Int}(y:(a.2<=h/\h<b.2)\/(b.2<=h/\h<a.2)):∃q s:Int,0<q/\0<s/\s<q/\2*(q*a.2+s*(b.2-a.2))=q*(2*h+1):=by
 rcases y with hl|hl
 .exact⟨2*(b.2-a.2),2*h+1-2*a.2,gP hl,by cases hl;lia,J,ADi⟩
 .exact⟨2*(a.2-b.2),2*a.2-(2*h+1),gP hl,J,J,ADi⟩
theorem EX{r:List Pt}{h i:Int}(hs:Ac r h i≠0):(yy r i<=h/\h<yy r (i+1))\/(yy r (i+1)<=h/\h<yy r i):=by
 unfold Ac at hs;by_cases y:yy r i<=h/\h<yy r (i+1)
 .exact .inl y
 .by_cases q:yy r (i+1)<=h/\h<yy r i
  .exact .inr q
  .rw[ADs y,ADs q]at hs;exact absurd rfl hs
def RQ(r:List Pt)(h:Int)(A B:Pt):Int:=Ab (λk=>ind (Lt A B (AA r k)<|AA r<|k+1)*Ac r h k) r.length
theorem kW{f g G:Int->Int}{n:Nat}(y:∀k,f k=g k+(G k-G (k+1)))(p:G n=G 0):Ab f n=Ab g n:=by have q:=Xw (λk=>-G k) n;rw[C4 (g:=λk=>g k+(-G (k+1) - -G k)) λk _=>by rw[y];lia,O8 g λk=>-G (k+1) - -G k,q];lia
theorem ZP(r:List Pt):AA r (r.length)=AA r 0:=Ao ADk
theorem kG{r:List Pt}{A B:Pt}{h:Int}(nc:∀k:Int,Lt A B (AA r k) (AA r<|k+1)->¬ Lt (AA r k) (AA r<|k+1) A B)(v:∀m:Int,yy r m=h->Lt A B (AA r m) (AA r m)\/Lt (AA r m) (AA r m) A B):RQ r h A B=RQ r (h-1) A B:=by
 refine kW (G:=λk=>ind<|yy r k=h/\Lt A B (AA r k) (AA r k)) (λk=>comb (x:=ind<|yy r k=h) (y:=ind<|yy r (k+1)=h) (wN<|j4 r h k) ?_ ?_) (by unfold yy;rw[ZP])
 .by_cases a:yy r k=h
  .refine .inl ⟨A6 a,?_⟩;rcases v k a with z|z
   .rw[A6 ⟨a,z⟩,A6<|Wi z]
   .have q:=λc=>nc k c<|gS z;rw[Ax q,Ax λc=>q<|Wi c.2]
  .exact .inr ⟨Ax a,Ax λc=>a c.1⟩
 .by_cases a:yy r (k+1)=h
  .refine .inl ⟨A6 a,?_⟩;rcases v (k+1) a with z|z
   .rw[A6 ⟨a,z⟩,A6<|gT z]
   .have q:=λc=>nc k c<|wU z;rw[Ax q,Ax λc=>q<|gT c.2]
  .exact .inr ⟨Ax a,Ax λc=>a c.1⟩
theorem Yj{r:List Pt}{A B:Pt}(st:∀h,(A.2<h/\h<B.2)\/(B.2<h/\h<A.2)->RQ r h A B=RQ r (h-1) A B){h h':Int}(q:(A.2<=h/\h<B.2)\/(B.2<=h/\h<A.2))(v:(A.2<=h'/\h'<B.2)\/(B.2<=h'/\h'<A.2)):RQ r h A B=RQ r h' A B:=by
 have y:∀(m:Nat)(h:Int),((A.2<=h/\h<B.2)\/(B.2<=h/\h<A.2))->((A.2<=h+m/\h+m<B.2)\/(B.2<=h+m/\h+m<A.2))->RQ r (h+m) A B=RQ r h A B:=by
  intro m
  induction m with
  |zero=>simp
  |succ m ih=>
   intro h a b;rw[<-ih h a J,st (h+((m+1:Nat))) J,show h+((m+1:Nat))-1=h+m by lia]
 rcases AGC h h' with hl|hl
 .have:=y (h'-h).toNat h q (by rw[AEJ<|Ci hl,RX];exact v);rw[AEJ<|Ci hl,RX]at this;exact this.symm
 .have:=y (h-h').toNat h' v (by rw[AEJ<|Ci hl,RX];exact q);rw[AEJ<|Ci hl,RX]at this;exact this
set_option tactic.hygienic false
section
variable{r:List Pt}(S:Ap r)
include S
theorem Ap.Ml{h i j:Int}(Q:(i-j)%(r.length)≠0)(hi:Ac r h i≠0)(O:Ac r h j≠0):L r i j\/L r j i:=by
 obtain⟨y,s1,v,p2,P,D⟩:=XC <|EX hi;obtain⟨q,s2,u,F,R,B⟩:=XC <|EX O;have Z:=AD9 v u;have m2:=AD9 p2 u;have m3:=AD9 F v;have m4:=AGD P u;have m5:s2*y<y*q:=by rw[AGP y];exact AGD R v
 have Y:y*q*(AA r i).2+s1*q*((AA r<|i+1).2-(AA r i).2)=y*q*(AA r j).2+s2*y*((AA r<|j+1).2-(AA r j).2):=by
  have f1:2*(y*q*(AA r i).2+s1*q*((AA r<|i+1).2-(AA r i).2))=q*(2*(y*(AA r i).2+s1*((AA r<|i+1).2-(AA r i).2))):=ADi
  have f2:2*(y*q*(AA r j).2+s2*y*((AA r<|j+1).2-(AA r j).2))=y*(2*(q*(AA r j).2+s2*((AA r<|j+1).2-(AA r j).2))):=ADi
  rw[D]at f1;rw[B]at f2;lia
 rcases AFt (y*q*(AA r i).1+s1*q*((AA r<|i+1).1-(AA r i).1)) (y*q*(AA r j).1+s2*y*((AA r<|j+1).1-(AA r j).1))with hl|he|hg
 .exact .inl ⟨_,_,_,Z,J,J,J,J,Y,hl⟩
 .rcases S.share Q Z J J J J he Y with⟨_,z,_⟩|⟨_,z,_⟩<;>lia
 .exact .inr ⟨_,_,_,Z,J,J,J,J,Y.symm,hg⟩
theorem Ap.off{m j:Int}(y:(m-j)%(r.length)≠0)(v:(m-j)%(r.length)≠1){q s:Int}(u:0<q)(Z:0<=s)(s1:s<=q)(Y:q*(AA r j).2+s*((AA r<|j+1).2-(AA r j).2)=q*(AA r m).2):q*(AA r j).1+s*((AA r<|j+1).1-(AA r j).1)≠q*(AA r m).1:=by
 intro Q;rcases S.share y (s:=0) u CM J Z s1 (by rw[Q];lia) (by rw[Y];lia)with⟨z,_⟩|⟨_,z,_⟩
 .exact v z
 .lia
theorem Ap.X8{m i:Int}(u:(m-i)%(r.length)≠0)(Z:(m-i)%(r.length)≠1)(Y:yy r i≠yy r (i+1))(Q:(yy r i<=yy r m/\yy r m<=yy r (i+1))\/(yy r (i+1)<=yy r m/\yy r m<=yy r i)) : Lt (AA r i) (AA r<|i+1) (AA r m) (AA r m)\/Lt (AA r m) (AA r m) (AA r i) (AA r<|i+1):=by
 obtain⟨q,s,y,v,s1,e,_,_⟩:=Oy Y Q;rcases AEd (S.off u Z y v s1 e)with hl|hl
 .exact .inl ⟨q,s,0,y,v,s1,CM,J,by unfold yy at e;rw[e];exact Wa,WZ hl⟩
 .exact .inr ⟨q,0,s,y,CM,J,v,s1,by unfold yy at e;rw[e];exact RU,RY hl⟩
set_option tactic.hygienic true
theorem Ap.U2{i h h':Int}(y:Ac r h i≠0)(q:Ac r h' i≠0):Rr r h i=Rr r h' i:=by
 have ne:yy r i≠yy r (i+1):=Of<|EX y;refine Yj (λh hh=>kG (λk c d=>?_) λm e=>?_) (EX y)<|EX q
 .by_cases z:(i-k)%(r.length)=0
  .rw[<-Ao z,<-Ao<|CN z]at c;exact NB r i ne c
  .exact S.nc z c d
 .unfold yy at e;refine S.X8 (λz=>?_) (λz=>?_) ne (by unfold yy;lia)
  .rw[Ao z]at e;lia
  .rw[(S.next z).1]at e;lia
end
theorem Xv{f:Int->Int}{n:Nat}(hn:0<n)(hp:∀a b:Int,(a-b)%(n)=0->f a=f b)(i:Int):Ab (λm=>f<|i+m) n=Ab f n:=by
 have y:Ab (λm=>f<|i+m) n=Ab (λm=>f<|m+((i%(n)).toNat)) n:=C4 λm _=>hp _ _ (by
  rw[AEJ<|AEZ i (b:=(n))<|Oc hn,show i+(m)-(m+i%(n))=i-i%n by lia];have:=AFl i n;have e:i-i%(n)=n*(i / n):=J
  rw[e];exact AGb _ _)
 rw[y];exact Xu f n (λx=>hp _ _ (by rw[show x+(n)-x=n by lia];exact AGs)) _
theorem Sn{f:Int->Int}:∀{n:Nat},(∀m:Nat,m<n->f m=0)->Ab f n=0
 |0,_=>rfl
 |n+1,h=>by rw[Ab,Sn λm hm=>h m<|HX hm,h n Ha];rfl
theorem Sl{f:Int->Int}{d:Nat}:∀{n:Nat},d<n->(∀m:Nat,m<n->m≠d->f m=0)->Ab f n=f d
 |0,h,_=>J
 |n+1,h,hz=>by
  simp only[Ab];by_cases hd:d=n
  .subst hd;rw[Sn λm hm=>hz m (HX hm) J];lia
  .rw[Sl (Fy h hd) λm hm y=>hz m (HX hm) y,hz n Ha (by rintro rfl;lia)];lia
theorem ABh{f:Int->Int}{c d n:Nat}(hc:c<d)(hd:d<n)(hz:∀m:Nat,m<n->m≠c->m≠d->f m=0):Ab f n=f c+f d:=by
 induction n with
 |zero=>lia
 |succ n ih=>
  simp only[Ab];by_cases h:d=n
  .subst h;rw[Sl hc λm hm y=>hz m (HX hm) y J]
  .rw[ih (Fy hd h) λm hm=>hz m<|HX hm,hz n Ha J J];lia
theorem F3{n a b:Int}(h:(a-b)%n=0):(b-a)%n=0:=by rw[show b-a = -(a-b)by lia];exact Int.emod_eq_zero_of_dvd<|Int.dvd_neg.mpr<|Int.dvd_of_emod_eq_zero h
theorem FZ{n a b:Int}(hn:1<n)(h:(a-b)%n=1):(a-1-b)%n=0:=by rw[show a-1-b=(a-b)-1 by lia,AFU,h,ADq C1 hn];rfl
def cc(r:List Pt)(h i:Int):Int:=Rr r h i+ind (yy r i<yy r (i+1))
theorem oh{r:List Pt}{h i j:Int}(e:(i-j)%(r.length)=0):cc r h i=cc r h j:=by
 delta cc Rr
 simp only[Gp e,Gp<|CN e]
 congr 1
 exact C4 λm _=>by rw[Ph e (ADk:((m:Int)-m)%(r.length)=0)]
theorem Sb{r:List Pt}{h i:Int}(y:yy r i<=h)(q:h<yy r (i+1)):Ac r h i=1:=ADr ⟨y,q⟩
theorem Sa{r:List Pt}{h i:Int}(y:yy r (i+1)<=h)(q:h<yy r i):Ac r h i = -1:=by unfold Ac;rw[ADs J,ADr ⟨y,q⟩]
theorem Di{r:List Pt}{h i:Int}(y:(yy r i<=h/\h<yy r (i+1))\/(yy r (i+1)<=h/\h<yy r i)):Ac r h i≠0:=by
 rcases y with z|z
 .rw[Sb z.1 z.2];lia
 .rw[Sa z.1 z.2];lia
theorem VM{C:Nat->Prop}{N D:Nat->Int}(u:∀j,C j->0<D j):∀n:Nat,(∃j,j<n/\C j)->∃e,e<n/\C e/\∀j,j<n->C j->N j*D e<=N e*D j
 |0,⟨j,h,_⟩=>J
 |n+1,⟨j,y,hc⟩=>by
  by_cases q:∃j,j<n/\C j
  .obtain⟨e,he,Z,hm⟩:=VM u n q;by_cases hn:C n
   .by_cases Y:N n*D e<=N e*D n
    .exact⟨e,HX he,Z,λj y v=>by
      by_cases h:j=n
      .subst h;exact Y
      .exact hm j (Fy y h) v⟩
    .refine⟨n,Ha,hn,λj y v=>?_⟩;by_cases h:j=n
     .subst h;exact AEm _
     .have m1:=AEP (hm j (Fy y h) v)<|ADy<|u n hn;have m2:=AEP (J:N e*D n<=N n*D e)<|ADy<|u j v;exact AFC J<|u e Z
   .exact⟨e,HX he,Z,λj y v=>by
     by_cases h:j=n
     .subst h;exact absurd v hn
     .exact hm j (Fy y h) v⟩
  .have Q:j=n:=by
    by_cases h:j=n
    .exact h
    .exact absurd ⟨j,Fy y h,hc⟩ q
   subst Q;exact⟨j,Ha,hc,λm hm O=>by
    by_cases h:m=j
    .subst h;exact AEm _
    .exact absurd ⟨m,Fy hm h,O⟩ q⟩
theorem j5(r:List Pt)(h j:Int):Ac r h j=ind (yy r j<=h)-ind (yy r (j+1)<=h):=by
 delta Ac ind
 generalize yy r (j+1)=b
 (repeat' split)<;>lia
theorem F0{a b c d:Pt}(h:Lt a b c d):Lt b a c d:=by obtain⟨q,s,t,y,v,h3,u,Z,e,l⟩:=h;exact⟨q,q-s,t,y,Ci h3,Kz v,u,Z,ADi,ADi⟩
theorem Gh{a b c d:Pt}(h:Lt a b c d):Lt a b d c:=by obtain⟨q,s,t,y,v,h3,u,Z,e,l⟩:=h;exact⟨q,s,q-t,y,v,h3,Ci Z,Kz u,ADi,ADi⟩
theorem Ma{a b c d:Pt}(h:Bj a b c d):Bj b a c d:=by obtain⟨q,s,t,y,v,h3,u,Z,e1,e2⟩:=h;exact⟨q,q-s,t,y,Ci h3,Kz v,u,Z,ADi,ADi⟩
theorem Ld{a b p:Pt}(h:At a b p):At b a p:=by obtain⟨q,s,y,v,h3,e1,e2⟩:=h;exact⟨q,q-s,y,Ci h3,Kz v,ADi,ADi⟩
theorem Rl{A X B:Pt}(f:CO A X B)(u:Lt A B A X):¬ Lt A X A B:=λZ=>by
 obtain⟨q1,s1,t1,q2,s2,t2,x,y,q,v,OA,OB,Y,a2,b1,b2,Q,c2,O,d2,e0,e1,e2⟩:=Wh u Z;have n1:=ADz Y<|ADy v;have n2:=ADz b1<|ADy q;have n3:=ADz Q<|ADy v;have n4:=ADz O<|ADy q;obtain⟨z1,z2⟩:=f (t1*y+t2*x) (s1*y+s2*x) J J J J;have P:s1*y=0:=by clear e0;lia
 have D:t1*y=0:=J
 have F:s1=0:=by rcases AEI.mp P with h|h<;>omega
 have R:t1=0:=by rcases AEI.mp D with h|h<;>omega
 rw[F,R]at e0;lia
theorem CO.symm{A X B:Pt}(f:CO A X B):CO A B X:=λs t hs y q v=>(f t s y hs q.symm v.symm).symm
theorem Lu{A X B:Pt}(u:X≠A)(Z:B≠A)(Y:¬ At A B X)(Q:¬ At A X B):CO A X B:=λa b ha hb y q=>by
 by_cases a0:a=0
 .refine⟨a0,?_⟩;by_cases b0:b=0
  .exact b0
  .exfalso;apply Z;rw[a0,AE8]at y q;have g1:=AEI.mp y.symm;have v:=AEI.mp q.symm;exact AEt (Jq g1 b0)<|Jq v b0
 by_cases b0:b=0
 .exfalso;apply u;rw[b0,AE8]at y q;have g1:=AEI.mp y;have v:=AEI.mp q;exact AEt (Jq g1 a0)<|Jq v a0
 exfalso;rcases AGC b a with h|h
 .exact Y ⟨a,b,HZ ha a0,hb,h,y,q⟩
 .exact Q ⟨b,a,HZ hb b0,ha,h,y.symm,q.symm⟩
structure Probe(r:List Pt)(i j:Int):Prop where
 CZ:Bv r.length<|i-j
 f1:CO (AA r i) (AA r<|i+1)<|AA r j
 f2:CO (AA r i) (AA r<|i-1)<|AA r j
 f3:CO (AA r j) (AA r<|j+1)<|AA r i
 f4:CO (AA r j) (AA r<|j-1)<|AA r i
 nt:∀k:Int,(i-k)%(r.length:Int)≠0->(i-k)%(r.length:Int)≠1->(j-k)%(r.length:Int)≠0->(j-k)%(r.length:Int)≠1->¬ Bj (AA r i) (AA r j) (AA r k) (AA r<|k+1)
theorem mod_succ{n a b:Int}(hn:1<n)(h:(a-b)%n=0):(a+1-b)%n=1:=by simp only[show a+1-b=(a-b)+1 by lia,AFc,h,ADq C1 hn,AE0,ADq C1 hn]
theorem cQ{n d:Int}(hn:2<=n)(h:Bv n d):d%n≠0/\d%n≠1/\(-d)%n≠0/\(-d)%n≠1:=⟨h.1,h.2.1,(h.neg hn).1,(h.neg hn).2.1⟩
section
variable{r:List Pt}(S:Ap r)
include S
theorem Probe.symm{i j:Int}(p:Probe r i j):Probe r j i:=
 ⟨by have:=p.CZ.neg (by have:=S.l3;exact Jp this);rw[show -(i-j)=j-i by lia]at this;exact this,p.f3,p.f4,p.f1,p.f2,λk a b c d h=>p.nt k c d a b<|Ma h⟩
theorem Ap.distinct{m j:Int}(y:(m-j)%(r.length)≠0)(v:(m-j)%(r.length)≠1):AA r m≠AA r j:=λe=>by
 refine S.off y v (q:=1) (s:=0) Jo CM C1 ?_ ?_
 .rw[e];lia
 .rw[e];lia
theorem Probe.Qc{i j:Int}(p:Probe r i j):CO (AA r i) (AA r<|i+1)<|AA r j:=p.f1
theorem Probe.Ls{i j:Int}(p:Probe r i j):CO (AA r i) (AA r<|i-1)<|AA r j:=p.f2
theorem Ap.Ez{m j:Int}(y:(m-j)%(r.length)≠0)(v:(m-j)%(r.length)≠1):¬ At (AA r j) (AA r<|j+1) (AA r m):=by rintro⟨q,s,u,Z,s1,e1,e2⟩;exact S.off y v u Z s1 ADi ADi
theorem cw(DF:∀k:Int,AE (AA r k) (AA r<|k+1) (AA r<|k+1+1)≠0){i j:Int}(CZ:Bv r.length<|i-j)(nt:∀k:Int,(i-k)%(r.length)≠0->(i-k)%(r.length)≠1->(j-k)%(r.length)≠0->(j-k)%(r.length)≠1->¬ Bj (AA r i) (AA r j) (AA r k) (AA r<|k+1)):CO (AA r i) (AA r<|i+1)<|AA r j:=by
 have h3:=S.l3;obtain⟨f0,f1,f2,f3⟩:=cQ (Jp h3) CZ;rw[show -(i-j)=j-i by lia]at f2 f3;have hb:=DF i;refine Lu (λc=>hb (by rw[c];unfold AE;grind)) (S.distinct f2 f3) (λy=>?_)<|S.Ez f2 f3;by_cases q:(j-(i+1))%(r.length)=1
 .apply hb;rw[<-(S.next q).1,Dj,DL,(Gj y).1];rfl
 .have:(-1:Int)%(r.length)=r.length-1:=by rw[show(-1:Int)=(r.length-1)+r.length*(-1)by lia,AFb,ADq J J]
  refine nt (i+1) (λc=>J) (λc=>J) (λc=>f3 ?_) q<|Se y;have:=mod_succ (DB h3) c;rw[show j+1-(i+1)=j-i by clear f3;lia]at this;exact this
theorem cx(DF:∀k:Int,AE (AA r k) (AA r<|k+1) (AA r<|k+1+1)≠0){i j:Int}(CZ:Bv r.length<|i-j)(nt:∀k:Int,(i-k)%(r.length)≠0->(i-k)%(r.length)≠1->(j-k)%(r.length)≠0->(j-k)%(r.length)≠1->¬ Bj (AA r i) (AA r j) (AA r k) (AA r<|k+1)):CO (AA r i) (AA r<|i-1)<|AA r j:=by
 have h3:=S.l3;obtain⟨f0,f1,f2,f3⟩:=cQ (Jp h3) CZ;rw[show -(i-j)=j-i by lia]at f2 f3;have q:i-2+1=i-1:=J
 have y:i-1+1=i:=Dt;have hb:=DF<|i-2;rw[q,y]at hb;have v:(j-(i-1))%(r.length)≠0:=λc=>f1 (by have:=mod_succ (DB h3)<|F3 c;rw[y]at this;exact this)
 refine Lu (λc=>hb (by rw[c];unfold AE;grind)) (S.distinct f2 f3) (λu=>?_) λz=>S.Ez (m:=j) (j:=i-1) v (λc=>?_) (by rw[y];exact Ld z)
 .by_cases Z:(j-(i-2))%(r.length)=0
  .apply hb;rw[<-Ao Z,<-Dj,<-Dj,(Gj u).1]
  .refine nt (i-2) (λc=>?_) (λc=>?_) Z (λc=>v ?_) (by rw[q];exact Xg u)
   .rw[show i-(i-2)=2 by lia,ADq J J]at c;lia
   .rw[show i-(i-2)=2 by lia,ADq J J]at c;lia
   .have:=FZ (DB h3) c;rw[show j-1-(i-2)=j-(i-1)by lia]at this;exact this
 .have:=FZ (DB h3) c;rw[show j-1-(i-1)=j-i by lia]at this;exact f2 this
theorem jK(DF:∀k:Int,AE (AA r k) (AA r<|k+1) (AA r<|k+1+1)≠0){i j:Int}(CZ:Bv r.length<|i-j)(nt:∀k:Int,(i-k)%(r.length)≠0->(i-k)%(r.length)≠1->(j-k)%(r.length)≠0->(j-k)%(r.length)≠1->¬ Bj (AA r i) (AA r j) (AA r k) (AA r<|k+1)):Probe r i j:=by
 have y:=by have:=CZ.neg (by have:=S.l3;exact Jp this);rw[show -(i-j)=j-i by lia]at this;exact this
 have q:=λk a b c d h=>nt k c d a b<|Ma h;exact⟨CZ,cw S DF CZ nt,cx S DF CZ nt,cw S DF y q,cx S DF y q,nt⟩
theorem Probe.nc{i j:Int}(p:Probe r i j)(k:Int)(y:Lt (AA r i) (AA r j) (AA r k)<|AA r<|k+1):¬ Lt (AA r k) (AA r<|k+1) (AA r i) (AA r j):=by
 have h3:=S.l3;have u:=p.symm S;by_cases a:(i-k)%(r.length)=0
 .have q:=Ao a;have v:=Ao<|CN a;simp only[<-q,<-v]at y ⊢;exact Rl (p.Qc S) y
 by_cases b:(i-k)%(r.length)=1
 .have e0:=(Ao (by have:=FZ (DB h3) b;exact this)).symm;simp only[<-(S.next b).1,e0]at y ⊢;exact λc=>Rl (p.Ls S) (Gh y)<|F0 c
 by_cases c:(j-k)%(r.length)=0
 .have q:=Ao c;have v:=Ao<|CN c;rw[<-q,<-v]at y ⊢;exact λz=>Rl (u.Qc S) (F0 y)<|Gh z
 by_cases d:(j-k)%(r.length)=1
 .have e0:=(Ao (by have:=FZ (DB h3) d;exact this)).symm;rw[<-(S.next d).1,e0]at y ⊢;exact λz=>Rl (u.Ls S) (F0<|Gh y)<|F0<|Gh z
 .exact Wn (p.nt k a b c d) y
theorem Probe.lL{i j:Int}(p:Probe r i j){m:Int}(a:(i-m)%(r.length)≠0)(c:(j-m)%(r.length)≠0):¬ At (AA r i) (AA r j) (AA r m):=by
 have h3:=S.l3;intro y;by_cases b:(i-m)%(r.length)=1
 .have e0:=(Ao (by have:=FZ (DB h3) b;exact this)).symm;rw[e0]at y;obtain⟨q,s,Y,v,s1,u,Z⟩:=y;have:=(p.Ls S q s J v u Z).1;lia
 by_cases d:(j-m)%(r.length)=1
 .have e0:=(Ao (by have:=FZ (DB h3) d;exact this)).symm;rw[e0]at y;obtain⟨q,s,Y,v,s1,u,Z⟩:=Ld y;have:=((p.symm S).Ls S q s J v u Z).1;lia
 .exact p.nt m a b c d<|Se y
end
section
variable{r:List Pt}(S:Ap r)
include S
theorem Ap.kH(k:Int):AA r (k+1)≠AA r k:=λc=>by have:=(S.fork k 1 0 C1 CM J J).1;lia
theorem Ap.inj{m j:Int}(e:AA r m=AA r j):(m-j)%(r.length)=0:=by
 rcases S.cases m j with a|a|a|a
 .exact a
 .exact absurd ((S.next a).1.symm.trans e) (S.kH j)
 .exact absurd ((S.next a).1.symm.trans e.symm) (S.kH m)
 .exact absurd e (S.distinct a.1 a.2.1)
end
section
variable{r:List Pt}(S:Ap r){i j:Int}(p:Probe r i j)
include S p
theorem Probe.X8{m:Int}(a:(i-m)%(r.length)≠0)(c:(j-m)%(r.length)≠0)(u:yy r i≠yy r j)(Z:(yy r i<=yy r m/\yy r m<=yy r j)\/(yy r j<=yy r m/\yy r m<=yy r i)) : Lt (AA r i) (AA r j) (AA r m) (AA r m)\/Lt (AA r m) (AA r m) (AA r i) (AA r j):=by
 obtain⟨q,s,y,v,s1,e,_,_⟩:=Oy u Z;unfold yy at e;rcases AFt (q*(AA r i).1+s*((AA r j).1-(AA r i).1)) (q*(AA r m).1)with hl|he|hg
 .exact .inl ⟨q,s,0,y,v,s1,CM,J,by rw[e];exact Wa,WZ hl⟩
 .exact absurd ⟨q,s,y,v,s1,ADi,ADi⟩ (p.lL S a c)
 .exact .inr ⟨q,0,s,y,CM,J,v,s1,by rw[e];exact RU,RY hg⟩
theorem Probe.along{h h':Int}(y:(yy r i<=h/\h<yy r j)\/(yy r j<=h/\h<yy r i))(q:(yy r i<=h'/\h'<yy r j)\/(yy r j<=h'/\h'<yy r i)):RQ r h (AA r i) (AA r j)=RQ r h' (AA r i) (AA r j):=
 Yj (λh hh=>kG (p.nc S) λm e=>p.X8 S (λc=>by have:=Gp c;unfold yy at *;lia) (λc=>by have:=Gp c;unfold yy at *;lia) (Of y) (by unfold yy at *;lia)) y q
end
noncomputable def dbl(p:Pt):Pt:=(2*p.1,2*p.2)
section
variable{r:List Pt}(S:Ap r){i j:Int}(p:Probe r i j)
include S p
theorem Probe.g6(k:Int):¬ At (dbl<|AA r k) (dbl<|AA r<|k+1) ((AA r i).1+(AA r j).1,(AA r i).2+(AA r j).2):=by
 have h3:=S.l3;have Z:=p.symm S;rintro⟨q,s,hq,s0,s1,y,v⟩;unfold dbl at y v;dsimp only at y v;by_cases a:(i-k)%(r.length)=0
 .have Y:=Ao a;have u:=Ao<|CN a;rw[<-Y,<-u]at y v;have:=(p.Qc S (2*s) q J J ADi ADi).2;lia
 by_cases b:(i-k)%(r.length)=1
 .have e:=S.next b;have e0:=(Ao (by have:=FZ (DB h3) b;exact this)).symm;rw[<-e.1,e0]at y v;have:=(p.Ls S (2*(q-s)) q J J ADi ADi).2;lia
 by_cases c:(j-k)%(r.length)=0
 .have u:=Ao<|CN c;rw[<-(Ao c),<-u]at y v;have:=(Z.Qc S (2*s) q J J ADi ADi).2;lia
 by_cases d:(j-k)%(r.length)=1
 .have e0:=(Ao (by have:=FZ (DB h3) d;exact this)).symm;rw[<-(S.next d).1,e0]at y v;have:=(Z.Ls S (2*(q-s)) q J J ADi ADi).2;lia
 .exact p.nt k a b c d ⟨2*q,q,2*s,J,J,J,J,J,ADi,ADi⟩
end
def NN(r:List Pt)(h i:Int):Int:=Ab (λk=>ind (Lt (AA r i) (AA r i) (AA r k)<|AA r<|k+1)*Ac r h k) r.length
theorem UU{A X Y:Pt}(y:A.2<X.2)(v:A.2<Y.2):Lt A X A Y↔AE A Y X>0:=by
 constructor
 .rintro⟨q,s,t,hq,s0,s1,Q,t1,e,l⟩;have u:s*(X.2-A.2)=t*(Y.2-A.2):=J
  have Z:s*(X.1-A.1)<t*(Y.1-A.1):=J
  have O:0<t:=by
   by_cases c:t=0
   .rw[c,AE8]at u Z;have:s=0:=by rcases AEI.mp u with h|h<;>lia
    rw[this]at Z;lia
   .exact HZ Q c
  have k:t*AE A Y X=(X.2-A.2)*(t*(Y.1-A.1)-s*(X.1-A.1)):=by
   have:t*AE A Y X=(t*(Y.1-A.1))*(X.2-A.2)-(t*(Y.2-A.2))*(X.1-A.1):=by unfold AE;grind
   simp only[this,<-u];grind
  have:=AD9 (show 0<X.2-A.2 from FV y) (J:0<t*(Y.1-A.1)-s*(X.1-A.1));by_cases c:AE A Y X>0
  .exact c
  .have:=AE7 (ADy O) (J:AE A Y X<=0);omega
 .intro h;have m1:(Y.2-A.2)*1<=(Y.2-A.2)*(X.2-A.2):=AD8 J<|FX v;have m2:(X.2-A.2)*1<=(X.2-A.2)*(Y.2-A.2):=AD8 J<|FX y;exact⟨(X.2-A.2)*(Y.2-A.2),Y.2-A.2,X.2-A.2,AD9 (FV y)<|FV v,FX v,ADi,FX y,ADi,ADi,by unfold AE at h;grind⟩
set_option tactic.hygienic true
noncomputable def Em(p:Pt):Pt:=(p.1,-p.2)
theorem gX{a b c d:Pt}(h:Lt a b c d):Lt (Em a) (Em b) (Em c)<|Em d:=by obtain⟨q,s,t,y,v,h3,u,Z,e,l⟩:=h;exact⟨q,s,t,y,v,h3,u,Z,by unfold Em;dsimp only;grind,l⟩
theorem VI(a:Pt):Em (Em a)=a:=AEt rfl<|AGw _
theorem oo{A X Y:Pt}(y:X.2<A.2)(q:Y.2<A.2):Lt A X A Y↔AE A X Y>0:=by have:=UU (A:=Em A) (X:=Em X) (Y:=Em Y) (Int.neg_lt_neg y)<|Int.neg_lt_neg q;rw[show AE (Em A) (Em Y) (Em X)=AE A X Y by unfold AE Em;grind]at this;exact⟨λh=>this.mp<|gX h,λh=>by have:=gX<|this.mpr h;rw[VI,VI,VI]at this;exact this⟩
theorem Qe{A X B:Pt}(f:CO A X B)(h:(A.2<X.2/\A.2<B.2)\/(X.2<A.2/\B.2<A.2)):AE A X B≠0:=λc=>by
 unfold AE at c;rcases h with⟨y,q⟩|⟨y,q⟩
 .have:=(f (B.2-A.2) (X.2-A.2) (FX q) (FX y) ADi ADi).1;lia
 .have:=(f (A.2-B.2) (A.2-X.2) (FX q) (FX y) ADi ADi).1;lia
section
variable{r:List Pt}(S:Ap r){i:Int}(gU:yy r (i-1)≠yy r i)(gV:yy r (i+1)≠yy r i)
include S gU gV
set_option tactic.hygienic false
theorem Ap.BD{k:Int}(h:(i-k)%(r.length)=0\/(i-k)%(r.length)=1):¬ Lt (AA r i) (AA r i) (AA r k) (AA r<|k+1):=by
 have h3:=S.l3;rcases h with a|b
 .simp only[<-Ao a,<-Ao<|CN a];rintro⟨q,s,t,y,v,s1,u,t1,e,l⟩;unfold yy at gV;have:t*((AA r<|i+1).2-(AA r i).2)=0:=ADi
  rcases AEI.mp this with z|z
  .rw[z]at l;grind
  .lia
 .have e:=S.next b;have e0:=(Ao (by have:=FZ (DB h3) b;exact this)).symm;rw[<-e.1];rintro⟨q,s,t,y,v,s1,u,t1,e,l⟩;unfold yy at gU;have:(q-t)*((AA r<|i-1).2-(AA r i).2)=0:=ADi
  rcases AEI.mp this with z|z
  .have:t=q:=ADj
   rw[this]at l;grind
  .clear e0;lia
theorem Ap.Xi{k:Int}(a:(i-k)%(r.length)≠0)(b:(i-k)%(r.length)≠1){q s:Int}(y:0<q)(v:0<=s)(s1:s<=q)(e:q*(AA r k).2+s*((AA r<|k+1).2-(AA r k).2)=q*yy r i) : (q*(AA r i).1<q*(AA r k).1+s*((AA r<|k+1).1-(AA r k).1)/\Lt (AA r i) (AA r i) (AA r k) (AA r<|k+1))\/(q*(AA r k).1+s*((AA r<|k+1).1-(AA r k).1)<q*(AA r i).1/\Lt (AA r k) (AA r<|k+1) (AA r i) (AA r i)/\¬ Lt (AA r i) (AA r i) (AA r k) (AA r<|k+1)):=by
 unfold yy at e;have ns:¬ Bj (AA r i) (AA r i) (AA r k) (AA r<|k+1):=by rintro⟨q',s',t',u,h2,h3,Z,Y,e1,e2⟩;exact S.off a b u Z Y ADi ADi
 rcases AEd (S.off a b y v s1 e)with z|z
 .have l:Lt (AA r k) (AA r<|k+1) (AA r i)<|AA r i:=⟨q,s,0,y,v,s1,CM,J,by rw[e];exact Wa,WZ z⟩;exact .inr ⟨z,l,λc=>Wn ns c l⟩
 .exact .inl ⟨z,⟨q,0,s,y,CM,J,v,s1,by rw[e];exact RU,RY z⟩⟩
theorem Ap.nB:NN r (yy r i) i=NN r (yy r i-1) i:=by
 have Y:∀k:Int,ind (Lt (AA r i) (AA r i) (AA r k)<|AA r<|k+1)*Ac r (yy r i) k=ind (Lt (AA r i) (AA r i) (AA r k)<|AA r<|k+1)*Ac r (yy r i-1) k+(ind (yy r k=yy r i/\(AA r i).1<(AA r k).1)-ind (yy r (k+1)=yy r i/\(AA r i).1<(AA r<|k+1).1)):=by
  intro k;have hd:=j4 r (yy r i) k;by_cases Z:(i-k)%(r.length)=0\/(i-k)%(r.length)=1
  .rw[Ax<|S.BD gU gV Z];have g:ind (yy r k=yy r i/\(AA r i).1<(AA r k).1)=0/\ind (yy r (k+1)=yy r i/\(AA r i).1<(AA r<|k+1).1)=0:=by
    have h3:=S.l3;rcases Z with a|b
    .rw[<-Ao a,<-Gp<|CN a];exact⟨Ax λc=>J,Ax λc=>gV c.1⟩
    .have e0:=by have:=FZ (DB h3) b;exact this
     refine⟨Ax λc=>?_,Ax λc=>?_⟩
     .rw[<-Gp e0]at c;exact gU c.1
     .rw[<-(S.next b).1]at c;lia
   simp only[g.1,g.2];lia
  .have a:=λc=>Z<|.inl c;have b:=λc=>Z<|.inr c;refine comb (x:=ind<|yy r k=yy r i) (y:=ind<|yy r (k+1)=yy r i) J ?_ ?_
   .by_cases v:yy r k=yy r i
    .refine .inl ⟨A6 v,?_⟩;rcases S.Xi gU gV a b (q:=1) (s:=0) Jo CM C1 (by rw[show(AA r k).2=yy r i from v];lia)with⟨z,l⟩|⟨z,_,l⟩
     .rw[A6 l,A6 ⟨v,J⟩]
     .rw[Ax l,Ax λc=>J]
    .exact .inr ⟨Ax v,Ax λc=>v c.1⟩
   .by_cases u:yy r (k+1)=yy r i
    .refine .inl ⟨A6 u,?_⟩;rcases S.Xi gU gV a b (q:=1) (s:=1) Jo C1 J (by rw[show(AA r<|k+1).2=yy r i from u];lia)with⟨z,l⟩|⟨z,_,l⟩
     .rw[A6 l,A6 ⟨u,J⟩]
     .rw[Ax l,Ax λc=>J]
    .exact .inr ⟨Ax u,Ax λc=>u c.1⟩
 exact kW (G:=λk=>ind<|yy r k=yy r i/\(AA r i).1<(AA r k).1) Y (by unfold yy;rw[ZP])
theorem Ap.star{Z:Pt}(u:∀k:Int,(i-k)%(r.length)≠0->(i-k)%(r.length)≠1->Lt (AA r i) Z (AA r k) (AA r<|k+1)->¬ Lt (AA r k) (AA r<|k+1) (AA r i) Z){H:Int}(y:H=yy r i\/H=yy r i-1) : RQ r H (AA r i) Z=NN r (yy r i) i+(ind (Lt (AA r i) Z (AA r i)<|AA r<|i-1)*Ac r H (i-1)+ind (Lt (AA r i) Z (AA r i)<|AA r<|i+1)*Ac r H i):=by
 have h3:=S.l3;have Y:NN r (yy r i) i=NN r H i:=by
  rcases y with rfl|rfl
  .rfl
  .exact S.nB gU gV
 have hp:∀a b:Int,(a-b)%(r.length)=0->ind (Lt (AA r i) Z (AA r a)<|AA r<|a+1)*Ac r H a-ind (Lt (AA r i) (AA r i) (AA r a)<|AA r<|a+1)*Ac r H a=ind (Lt (AA r i) Z (AA r b)<|AA r<|b+1)*Ac r H b-ind (Lt (AA r i) (AA r i) (AA r b)<|AA r<|b+1)*Ac r H b:=λa b z=>by simp only[Ao z,Ao<|CN z,SY z]
 have hd:RQ r H (AA r i) Z=NN r H i+Ab (λk=>ind (Lt (AA r i) Z (AA r k)<|AA r<|k+1)*Ac r H k-ind (Lt (AA r i) (AA r i) (AA r k)<|AA r<|k+1)*Ac r H k) r.length:=by
  delta RQ NN
  rw[<-O8];exact C4 λk _=>J
 simp only[hd,Y,<-Xv (CI h3) hp<|i-1]
 congr 1
 rw[ABh (c:=0) (d:=1) J J λm hm m0 m1=>?_]
 .show ind (Lt (AA r i) Z (AA r<|i-1+0)<|AA r<|i-1+0+1)*Ac r H (i-1+0)-ind (Lt (AA r i) (AA r i) (AA r<|i-1+0)<|AA r<|i-1+0+1)*Ac r H (i-1+0)+(ind (Lt (AA r i) Z (AA r<|i-1+1)<|AA r<|i-1+1+1)*Ac r H (i-1+1)-ind (Lt (AA r i) (AA r i) (AA r<|i-1+1)<|AA r<|i-1+1+1)*Ac r H (i-1+1))=_;rw[show i-1+0=i-1 by lia,show i-1+1=i from Dt];have v:=S.BD gU gV (.inr (by rw[show i-(i-1)=1 from gQ,ADq C1<|DB h3]));rw[show i-1+1=i from Dt]at v;rw[Ax v,Ax<|S.BD gU gV (k:=i)<|.inl ADk];have e:ind (Lt (AA r i) Z (AA r<|i-1)<|AA r i)=ind (Lt (AA r i) Z (AA r i)<|AA r<|i-1):=by
   by_cases c:Lt (AA r i) Z (AA r<|i-1)<|AA r i
   .rw[A6 c,A6<|Gh c]
   .rw[Ax c,Ax λz=>c<|Gh z]
  rw[e];lia
 .have a:(i-(i-1+(m)))%(r.length)≠0:=λc=>by have:=F3 c;rw[show i-1+(m)-i=m-1 by lia,ADq J<|MF hm]at this;lia
  have b:(i-(i-1+(m)))%(r.length)≠1:=λc=>by have:=F3<|FZ (DB h3) c;rw[show i-1+(m)-(i-1)=m by lia,ADq J<|Df hm]at this;lia
  generalize i-1+(m)=k at a b ⊢;by_cases hz:Ac r H k=0
  .lia
  .have rs:=EX hz;obtain⟨q,s,Q,O,s1,P,_,_⟩:=Oy (h:=yy r i) (by show yy r k≠yy r (k+1);omega) (by unfold yy at rs y ⊢;lia);rcases S.Xi gU gV a b Q O s1 P with⟨_,l⟩|⟨_,l,l'⟩
   .rw[A6 l,A6 (show Lt (AA r i) Z (AA r k) (AA r<|k+1)from gS l)];lia
   .have n1:=λc=>u k a b c<|Wi l;lia
end
theorem Jj(p:Prop):(p/\ind p=1)\/(¬ p/\ind p=0):=(em p).imp (λh=>⟨h,A6 h⟩) λh=>⟨h,Ax h⟩
theorem HP{x y:Int}(h:x<y):ind (x<y)=1/\ind (y<x)=0:=⟨A6 h,Ax J⟩
theorem L6{x:Int}(h:x≠0):1 + -ind (x<0)=ind (0<x):=by rcases AEd h with z|z<;>rw[(HP z).1,(HP z).2]<;>rfl
theorem u6{x y:Int}(q:x≠0)(v:y≠0):ind (0<x) + -ind (y<0) = -ind (x<0)+ind (0<y):=by rw[<-L6 q,<-L6 v];lia
def Hn(a b c:Int):Prop:=(a>0/\b>0/\c>0)\/(¬ a>0/\(b>0\/c>0))
def Cq(Q a b c:Int):Prop:=(Q=1/\Hn a b c)\/(Q=0/\¬ Hn a b c)
theorem ZL{a b c:Int}(T:(0<a\/c<0\/b<0)/\(a<0\/0<c\/0<b))(ha:a≠0)(hb:b≠0)(hc:c≠0):Cq (ind (a<0)+(-ind (c<0)+ind (0<b))) a b c:=by unfold Cq Hn;rcases Jj (a<0)with⟨x,i⟩|⟨x,i⟩<;>rw[i]<;>rcases Jj (0<b)with⟨y,i⟩|⟨y,i⟩<;>rw[i]<;>rcases Jj (c<0)with⟨z,i⟩|⟨z,i⟩<;>rw[i]<;>first|(refine .inl ⟨rfl,?_⟩;lia)|(refine .inr ⟨rfl,?_⟩;lia)|(exfalso;lia)
theorem ZM{a b c:Int}(T:(0<a\/0<c\/0<b)/\(a<0\/c<0\/b<0))(ha:a≠0):Cq (ind<|a<0) a b c:=by
 unfold Cq Hn;rcases Jj (a<0)with⟨x,i⟩|⟨x,i⟩<;>rw[i]
 .refine .inl ⟨rfl,?_⟩;lia
 .refine .inr ⟨rfl,?_⟩;lia
theorem QD{a b c:Int}(T:(0<a\/c<0\/0<b)/\(a<0\/0<c\/b<0))(hb:b≠0):Cq (ind<|0<b) a b c:=by
 unfold Cq Hn;rcases Jj (0<b)with⟨x,i⟩|⟨x,i⟩<;>rw[i]
 .refine .inl ⟨rfl,?_⟩;lia
 .refine .inr ⟨rfl,?_⟩;lia
theorem Cq.sw{Q a b c:Int}(h:Cq Q a c b):Cq Q a b c:=by
 unfold Cq Hn at *
 rw[and_comm (a:=b>0),or_comm (a:=b>0)];exact h
theorem tr0{X Y Z:Int}(e:X=Y+Z)(h:X≠0\/Y≠0\/Z≠0):(0<X\/Y<0\/Z<0)/\(X<0\/0<Y\/0<Z):=J
theorem mp{x y:Int}(h:y<x)(c:Int):(0<(x-y)*c↔0<c)/\((x-y)*c<0↔c<0):=by have h:0<x-y:=FV h;exact⟨⟨λz=>AGQ z h,AD9 h⟩,λz=>AGq.mp λw=>AHn.mpr (ADz (ADy h) w) z,AG1 h⟩
theorem mn{x y:Int}(h:x<y)(c:Int):(0<(x-y)*c↔c<0)/\((x-y)*c<0↔0<c):=by have:=mp h (-c);rw[show(y-x) * -c=(x-y)*c by grind]at this;exact⟨this.1.trans J,this.2.trans J⟩
theorem pE{A U V B a b c N Q:Int}(Z:U≠A)(Y:V≠A)(y:B≠A)(id:(B-A)*a=(V-A)*c+(U-A)*b)(fa:(A<U/\A<V)\/(U<A/\V<A)->a≠0)(fb:(A<V/\A<B)\/(V<A/\B<A)->b≠0)(fc:(A<U/\A<B)\/(U<A/\B<A)->c≠0) (q:A<V->N=ind (A<U)*ind (a<0)) (O:A<U->N+ind (A<V)*ind (0<a)=1) (P:U<A->N=ind (V<A)*ind (a<0)) (v:A<B->Q=N+(-(ind (A<U)*ind (c<0))+ind (A<V)*ind (0<b))) (u:B<A->Q=N+(ind (U<A)*ind (0<c) + -(ind (V<A)*ind (b<0)))):Cq Q a b c:=by
 have m:∀{X x:Int},X≠A->x≠0->(X-A)*x≠0:=λh=>AG2 J;have T:=λh=>tr0 id h;rcases AEd Z with h1|h1<;>rcases AEd Y with h2|h2<;>simp only[HP h1,HP h2,AFw,AE8,Int.neg_zero,AEj,AE0]at * <;> rcases AEd y with h3|h3
 .have ha:=fa<|.inr ⟨h1,h2⟩;have hb:=fb<|.inr ⟨h2,h3⟩;have hc:=fc<|.inr ⟨h1,h3⟩;have T:=T<|.inl<|m y ha;simp only[mn h1,mn h2,mn h3]at T;rw[u h3,P h1,u6 hc hb];exact ZL T.symm ha hb hc
 .have ha:=fa<|.inr ⟨h1,h2⟩;have T:=T<|.inl<|m y ha;simp only[mn h1,mn h2,mp h3]at T;rw[v h3,P h1];exact ZM T ha
 .have hc:=fc<|.inr ⟨h1,h3⟩;have T:=T<|.inr<|.inl<|m Y hc;simp only[mn h1,mp h2,mn h3]at T;rw[u h3,q h2,AE0];exact(QD ⟨T.2.imp_right Or.symm,T.1.imp_right Or.symm⟩ hc).sw
 .have hb:=fb<|.inl ⟨h2,h3⟩;have T:=T<|.inr<|.inr<|m Z hb;simp only[mn h1,mp h2,mp h3]at T;rw[v h3,q h2,AE0];exact QD T hb
 .have hb:=fb<|.inr ⟨h2,h3⟩;have T:=T<|.inr<|.inr<|m Z hb;simp only[mp h1,mn h2,mn h3]at T;rw[u h3,O h1,L6 hb];exact QD T.symm hb
 .have hc:=fc<|.inl ⟨h1,h3⟩;have T:=T<|.inr<|.inl<|m Y hc;simp only[mp h1,mn h2,mp h3]at T;rw[v h3,O h1,L6 hc];exact(QD ⟨T.1.imp_right Or.symm,T.2.imp_right Or.symm⟩ hc).sw
 .have ha:=fa<|.inl ⟨h1,h2⟩;have T:=T<|.inl<|m y ha;simp only[mp h1,mp h2,mn h3]at T;rw[u h3,q h2];exact ZM T.symm ha
 .have ha:=fa<|.inl ⟨h1,h2⟩;have T:=T<|.inl<|m y ha;simp only[mp h1,mp h2,mp h3]at T;rw[v h3,q h2];exact ZL T ha (fb<|.inl ⟨h2,h3⟩)<|fc<|.inl ⟨h1,h3⟩
def E8(U A V B:Pt):Prop:=Hn (AE U A V) (AE A V B)<|AE U A B
theorem RZ{A Y Z:Pt}:(A.2<Z.2->ind (Lt A Z A Y)*ind (A.2<Y.2)=ind (A.2<Y.2)*ind (0<AE A Y Z))/\(Z.2<A.2->ind (Lt A Z A Y)*ind (Y.2<A.2)=ind (Y.2<A.2)*ind (0<AE A Z Y)):=by
 constructor<;>intro h
 .rcases Jj (A.2<Y.2)with⟨x,i⟩|⟨x,i⟩
  .rw[propext<|UU h x,AGP]
  .rw[i,AE9,AE8]
 .rcases Jj (Y.2<A.2)with⟨x,i⟩|⟨x,i⟩
  .rw[propext<|oo h x,AGP]
  .rw[i,AE9,AE8]
theorem e9{x y:Int}:ind (x<=y)=1 + -ind (y<x):=by
 rcases Jj (y<x)with⟨h,i⟩|⟨h,i⟩
 .rw[i,Ax J];rfl
 .rw[i,A6 J];rfl
theorem jy(r:List Pt)(h j:Int):Ac r h j=ind (h<yy r (j+1))-ind (h<yy r j):=by rw[j5,e9,e9];lia
theorem jz(r:List Pt)(h j:Int):Ac r (h-1) j=ind (yy r j<h)-ind (yy r (j+1)<h):=by rw[j5,Int.le_sub_one_iff,Int.le_sub_one_iff]
section
variable{r:List Pt}(S:Ap r){i:Int}(gU:yy r (i-1)≠yy r i)(gV:yy r (i+1)≠yy r i)
include S gU gV
theorem Ap.Xn{Z:Pt}(y:∀k:Int,(i-k)%(r.length)≠0->(i-k)%(r.length)≠1->Lt (AA r i) Z (AA r k) (AA r<|k+1)->¬ Lt (AA r k) (AA r<|k+1) (AA r i) Z) : (yy r i<Z.2->RQ r (yy r i) (AA r i) Z=NN r (yy r i) i+(-(ind (yy r i<yy r (i-1))*ind (0<AE (AA r i) (AA r<|i-1) Z))+ind (yy r i<yy r (i+1))*ind (0<AE (AA r i) (AA r<|i+1) Z)))/\(Z.2<yy r i->RQ r (yy r i-1) (AA r i) Z=NN r (yy r i) i+(ind (yy r (i-1)<yy r i)*ind (0<AE (AA r i) Z (AA r<|i-1)) + -(ind (yy r (i+1)<yy r i)*ind (0<AE (AA r i) Z (AA r<|i+1))))):=by
 constructor<;>intro z
 .rw[S.star gU gV y<|.inl rfl,jy,jy,show i-1+1=i from Dt,Ax<|AGu _,Int.zero_sub,AG8,AGf]
  delta yy at *
  rw[RZ.1 z,RZ.1 z]
 .rw[S.star gU gV y<|.inr rfl,jz,jz,show i-1+1=i from Dt,Ax<|AGu _,Int.zero_sub,AG8,AGf]
  delta yy at *
  rw[RZ.2 z,RZ.2 z]
theorem Ap.kF:(yy r i<yy r (i+1)->cc r (yy r i) i=NN r (yy r i) i+1-ind (yy r i<yy r (i-1))*ind (AE (AA r<|i-1) (AA r i) (AA r<|i+1)<0))/\(yy r (i+1)<yy r i->cc r (yy r i-1) i=NN r (yy r i) i+ind (yy r (i-1)<yy r i)*ind (0<AE (AA r<|i-1) (AA r i) (AA r<|i+1)))/\(yy r i<yy r (i-1)->cc r (yy r i) (i-1)=NN r (yy r i) i+ind (yy r i<yy r (i+1))*ind (0<AE (AA r<|i-1) (AA r i) (AA r<|i+1)))/\(yy r (i-1)<yy r i->cc r (yy r i-1) (i-1)=NN r (yy r i) i+1-ind (yy r (i+1)<yy r i)*ind (AE (AA r<|i-1) (AA r i) (AA r<|i+1)<0)):=by
 have y:i-1+1=i:=Dt;have v:=S.Xn gU gV (Z:=AA r<|i+1) λk a _=>S.nc a;have u:=S.Xn gU gV (Z:=AA r<|i-1) λk _ b c z=>by
  have h3:=S.l3;refine S.nc (i:=i-1) (j:=k) (λw=>b ?_) ?_ ?_
  .have:=mod_succ (DB h3) w;rw[y]at this;exact this
  .unfold L;rw[y];exact F0 c
  .unfold L;rw[y];exact Gh z
 have Y:∀H,cc r H (i-1)=RQ r H (AA r i) (AA r<|i-1)+ind (yy r (i-1)<yy r i):=λH=>by
  unfold cc;rw[y]
  congr 1
  refine C4 λk _=>?_;unfold L;rw[y,propext ⟨F0 (a:=AA r i) (b:=AA r<|i-1),F0⟩]
 have Q:∀H,cc r H i=RQ r H (AA r i) (AA r<|i+1)+ind (yy r i<yy r (i+1)):=λH=>rfl;have q:=λx:Pt=>(Iw (AA r i) x).2;refine⟨λh=>?_,λh=>?_,λh=>?_,λh=>?_⟩
 .rw[Q,v.1 h,A6 h,q,Ax<|AGu _,DL,propext AHW];lia
 .rw[Q,v.2 h,(HP h).2,q,Ax<|AGu _,Dj];lia
 .rw[Y,u.1 h,(HP h).2,q,Ax<|AGu _,Dj];lia
 .rw[Y,u.2 h,A6 h,q,Ax<|AGu _,DL,propext AHW];lia
end
section
variable{r:List Pt}(S:Ap r)(nl:∀k:Int,yy r (k+1)≠yy r k)
include S nl
theorem Ap.om(i:Int){H H':Int}(Z:Ac r H (i-1)≠0)(Y:Ac r H' i≠0):cc r H (i-1)=cc r H' i:=by
 have q:i-1+1=i:=Dt;have P:=nl<|i-1;rw[q]at P;obtain⟨D,F,R,B⟩:=S.kF P.symm<|nl i;have fA:=S.fork<|i-1;rw[q]at fA;have fa:((AA r i).2<(AA r<|i-1).2/\(AA r i).2<(AA r<|i+1).2)\/((AA r<|i-1).2<(AA r i).2/\(AA r<|i+1).2<(AA r i).2)->AE (AA r<|i-1) (AA r i) (AA r<|i+1)≠0:=λh c=>Qe fA h (by rw[DL,c];rfl);have Q:=λ{h h':Int}(x:Ac r h (i-1)≠0)(y:Ac r h' (i-1)≠0)=>show cc r h (i-1)=cc r h' (i-1)by unfold cc;rw[S.U2 x y]
 have O:=λ{h h':Int}(x:Ac r h i≠0)(y:Ac r h' i≠0)=>show cc r h i=cc r h' i by unfold cc;rw[S.U2 x y]
 rcases AEd P with u|u<;>rcases AEd (nl i)with v|v
 .rw[Q Z (Di<|.inr (by rw[q];exact⟨Ds,u⟩)),O Y (h':=yy r i-1)<|Di<|.inr ⟨AGL v,AGM<|AEm _⟩,R u,F v,(HP v).2,(HP u).2,AE8]
 .rw[Q Z (Di<|.inr (by rw[q];exact⟨Ds,u⟩)),O Y<|Di<|.inl ⟨Ds,v⟩,R u,D v,A6 u,A6 v,<-L6<|fa<|.inl ⟨u,v⟩];lia
 .rw[Q Z (h':=yy r i-1) (Di<|.inl (by rw[q];exact⟨AGL u,AGM<|AEm _⟩)),O Y (h':=yy r i-1)<|Di<|.inr ⟨AGL v,AGM<|AEm _⟩,B u,F v,A6 u,A6 v,<-L6<|fa<|.inr ⟨u,v⟩];lia
 .rw[Q Z (h':=yy r i-1) (Di<|.inl (by rw[q];exact⟨AGL u,AGM<|AEm _⟩)),O Y<|Di<|.inl ⟨Ds,v⟩,B u,D v,(HP v).2,(HP u).2,AE8]
theorem Ap.Y7{y q:Int}(v:Ac r q y≠0):∀(m:Nat)(H:Int),Ac r H (y+m)≠0->cc r H (y+m)=cc r q y
 |0,H,hs=>by rw[Int.natCast_zero,AEj]at hs ⊢;unfold cc;rw[S.U2 hs v]
 |m+1,H,hs=>by
  have Z:y+((m+1:Nat))=y+m+1:=J
  rw[Z]at hs ⊢;obtain⟨u,s1⟩:∃H,Ac r H (y+m)≠0:=by
   rcases AEd (nl<|y+m)with z|z
   .exact⟨_,Di<|.inr ⟨Ds,z⟩⟩
   .exact⟨_,Di<|.inl ⟨Ds,z⟩⟩
  rw[<-Ap.Y7 v m u s1];have:=S.om nl (y+m+1) (H:=u) (by rw[MG];exact s1) hs;rw[MG]at this;exact this.symm
theorem Ap.P0{i j H H':Int}(y:Ac r H i≠0)(q:Ac r H' j≠0):cc r H i=cc r H' j:=by
 have h3:=S.l3;have e:(i-(j+((i-j)%(r.length)).toNat))%(r.length)=0:=by
  rw[AEJ<|AEZ (i-j) (b:=(r.length))<|Jr h3,show i-(j+(i-j)%(r.length))=(i-j)-(i-j)%r.length by lia];have:=AFl (i-j) r.length;have v:(i-j)-(i-j)%(r.length)=r.length*((i-j) / r.length):=ADj
  rw[v];exact AGb _ _
 rw[oh e];exact S.Y7 nl q _ H (by rw[<-SY e];exact y)
end
set_option tactic.hygienic false
theorem VF(r:List Pt)(h j:Int):∃z:Int×Int,Ac r h j≠0->0<z.1/\0<z.2/\z.2<z.1/\2*(z.1*(AA r j).2+z.2*((AA r<|j+1).2-(AA r j).2))=z.1*(2*h+1):=by
 by_cases hs:Ac r h j=0
 .exact⟨(0,0),λc=>absurd hs c⟩
 .obtain⟨q,s,a,b,c,d⟩:=XC <|EX hs;exact⟨(q,s),λ_=>⟨a,b,c,d⟩⟩
noncomputable def kD(r:List Pt)(h j:Int):Int:=(choose<|VF r h j).1
noncomputable def kS(r:List Pt)(h j:Int):Int:=(choose<|VF r h j).2
def kN(r:List Pt)(h j:Int):Int:=kD r h j*(AA r j).1+kS r h j*((AA r<|j+1).1-(AA r j).1)
theorem RD{r:List Pt}{h j:Int}(hs:Ac r h j≠0):0<kD r h j/\0<kS r h j/\kS r h j<kD r h j/\2*(kD r h j*(AA r j).2+kS r h j*((AA r<|j+1).2-(AA r j).2))=kD r h j*(2*h+1):=choose_spec (VF r h j) hs
section
variable{r:List Pt}(S:Ap r)
include S
theorem Ap.fg{h i j:Int}(v:(i-j)%(r.length)≠0)(hi:Ac r h i≠0)(Q:Ac r h j≠0)(O:L r i j):kN r h i*kD r h j<kN r h j*kD r h i:=by
 obtain⟨y,p2,P,u⟩:=RD hi;obtain⟨q,D,F,R⟩:=RD Q;have Z:=AD9 y q;have m2:=AD9 p2 q;have m3:=AD9 D y;have m4:=AGD P q;have m5:kS r h j*kD r h i<kD r h i*kD r h j:=by rw[AGP<|kD r h i];exact AGD F y
 have Y:kD r h i*kD r h j*(AA r i).2+kS r h i*kD r h j*((AA r<|i+1).2-(AA r i).2)=kD r h i*kD r h j*(AA r j).2+kS r h j*kD r h i*((AA r<|j+1).2-(AA r j).2):=by
  have f1:2*(kD r h i*kD r h j*(AA r i).2+kS r h i*kD r h j*((AA r<|i+1).2-(AA r i).2))=kD r h j*(2*(kD r h i*(AA r i).2+kS r h i*((AA r<|i+1).2-(AA r i).2))):=ADi
  have f2:2*(kD r h i*kD r h j*(AA r j).2+kS r h j*kD r h i*((AA r<|j+1).2-(AA r j).2))=kD r h i*(2*(kD r h j*(AA r j).2+kS r h j*((AA r<|j+1).2-(AA r j).2))):=ADi
  rw[u]at f1;rw[R]at f2;lia
 have B:kN r h i*kD r h j=kD r h i*kD r h j*(AA r i).1+kS r h i*kD r h j*((AA r<|i+1).1-(AA r i).1):=by unfold kN;grind
 have G:kN r h j*kD r h i=kD r h i*kD r h j*(AA r j).1+kS r h j*kD r h i*((AA r<|j+1).1-(AA r j).1):=by unfold kN;grind
 simp only[B,G];rcases AFt (kD r h i*kD r h j*(AA r i).1+kS r h i*kD r h j*((AA r<|i+1).1-(AA r i).1)) (kD r h i*kD r h j*(AA r j).1+kS r h j*kD r h i*((AA r<|j+1).1-(AA r j).1))with hl|he|hg
 .exact hl
 .rcases S.share v Z J J (by clear u;lia) ADi he Y with⟨_,z,_⟩|⟨_,z,_⟩<;>lia
 .exact absurd (show L r j i from⟨_,_,_,Z,J,J,J,J,Y.symm,hg⟩) (S.nc v O)
theorem Ap.AA6{h j:Int}(v:Ac r h j≠0):∃e:Int,Ac r h e≠0/\Rr r h e=0:=by
 have h3:=S.l3;have b:=AEL j (b:=(r.length))<|HY h3;have u:Ac r h (((j%(r.length)).toNat))≠0:=by
  rw[AEJ<|AEZ j (b:=(r.length))<|Jr h3,SY (by
   have:=AFl j r.length;have Z:j%(r.length)-j=r.length*(-(j / r.length)):=ADi
   rw[Z];exact AGb _ _)]
  exact v
 obtain⟨e,he,y,hm⟩:=VM (N:=λm=>kN r h<|m) (λm hm=>(RD hm).1) r.length ⟨_,J,u⟩;refine⟨e,y,Sn λm Y=>?_⟩;by_cases hs:Ac r h (m)=0
 .rw[hs,AE9]
 .have:¬ L r (e) (m):=λc=>by
   by_cases q:((e:Int)-m)%(r.length)=0
   .rw[Ph (i':=(e)) ADk<|F3 q]at c;exact NB r e (by have:=EX y;show yy r e≠yy r (e+1);exact Of this) c
   .have k1:=S.fg q y hs c;have k2:=hm m Y hs;lia
  rw[Ax this];lia
theorem Ap.NQ(v:∀k:Int,yy r (k+1)≠yy r k){h j:Int}(y:Ac r h j≠0):cc r h j=0\/cc r h j=1:=by
 obtain⟨e,he,hz⟩:=S.AA6 y;rw[S.P0 v y he];unfold cc;rw[hz];by_cases q:yy r e<yy r (e+1)
 .rw[A6 q];lia
 .rw[Ax q];lia
end
def fw(a b p:Pt):Int:=(if a.2<=p.2/\p.2<b.2/\AE a b p>0 then 1 else 0)-(if b.2<=p.2/\p.2<a.2/\AE a b p<0 then 1 else 0)
def W(r:List Pt)(p:Pt):Int:=Ab (λj=>fw (AA r j) (AA r<|j+1) p) r.length
theorem gc{a b p:Pt}(h:Lt p p a b):∃q x:Int,0<q/\0<x/\q*AE a b p=(b.2-a.2)*x:=by
 obtain⟨q,s,t,y,_,_,_,_,e,l⟩:=h;refine⟨q,q*a.1+t*(b.1-a.1)-(q*p.1+s*(p.1-p.1)),y,J,?_⟩;have v:q*(p.2-a.2)=t*(b.2-a.2):=ADi
 have:q*AE a b p=(b.1-a.1)*(q*(p.2-a.2))-(b.2-a.2)*(q*(p.1-a.1)):=by unfold AE;grind
 simp only[this,v];grind
theorem c8{r:List Pt}{p:Pt}{j:Int}:fw (AA r j) (AA r<|j+1) p=Ac r p.2 j*ind (Lt p p (AA r j)<|AA r<|j+1):=by
 have up:yy r j<yy r (j+1)->yy r j<=p.2->p.2<=yy r (j+1)->(Lt p p (AA r j) (AA r<|j+1)↔AE (AA r j) (AA r<|j+1) p>0):=λy v h3=>by
  constructor
  .intro h;obtain⟨q,x,u,Z,e⟩:=gc h;have:=AD9 (show 0<(AA r<|j+1).2-(AA r j).2 by unfold yy at y;exact FV y) Z;by_cases hc:AE (AA r j) (AA r<|j+1) p>0
   .exact hc
   .have:=AE7 (ADy u) (J:AE (AA r j) (AA r<|j+1) p<=0);omega
  .intro h;unfold yy at y v h3;exact⟨(AA r<|j+1).2-(AA r j).2,0,p.2-(AA r j).2,FV y,CM,FX y,Ci v,J,ADi,by unfold AE at h;grind⟩
 have Y:yy r (j+1)<yy r j->yy r (j+1)<=p.2->p.2<=yy r j->(Lt p p (AA r j) (AA r<|j+1)↔AE (AA r j) (AA r<|j+1) p<0):=λy v h3=>by
  constructor
  .intro h;obtain⟨q,x,u,Z,e⟩:=gc h;have:=Int.mul_neg_of_neg_of_pos (show(AA r<|j+1).2-(AA r j).2<0 by unfold yy at y;lia) Z;by_cases hc:AE (AA r j) (AA r<|j+1) p<0
   .exact hc
   .have:=ADz (ADy u) (show 0<=AE (AA r j) (AA r<|j+1) p from RN hc);omega
  .intro h;unfold yy at y v h3;exact⟨(AA r j).2-(AA r<|j+1).2,0,(AA r j).2-p.2,FV y,CM,FX y,Ci h3,J,ADi,by unfold AE at h;grind⟩
 unfold fw;by_cases y:yy r j<=p.2/\p.2<yy r (j+1)
 .rw[Sb y.1 y.2,ADs (show ¬ ((AA r<|j+1).2<=p.2/\p.2<(AA r j).2/\AE (AA r j) (AA r<|j+1) p<0)by unfold yy at y;lia)];by_cases hs:AE (AA r j) (AA r<|j+1) p>0
  .rw[ADr ⟨y.1,y.2,hs⟩,A6<|(up (Ky y) J J).mpr hs];rfl
  .rw[ADs λc=>hs c.2.2,Ax λc=>hs<|(up (Ky y) J J).mp c];rfl
 .by_cases v:yy r (j+1)<=p.2/\p.2<yy r j
  .rw[Sa v.1 v.2,ADs (show ¬ ((AA r j).2<=p.2/\p.2<(AA r<|j+1).2/\AE (AA r j) (AA r<|j+1) p>0)by unfold yy at v;omega)];by_cases hs:AE (AA r j) (AA r<|j+1) p<0
   .rw[ADr ⟨v.1,v.2,hs⟩,A6<|(Y (Ky v) J J).mpr hs];rfl
   .rw[ADs λc=>hs c.2.2,Ax λc=>hs<|(Y (Ky v) J J).mp c];rfl
  .have:Ac r p.2 j=0:=by unfold Ac;rw[ADs y,ADs v]
   rw[this,ADs λc=>y ⟨c.1,c.2.1⟩,ADs λc=>v ⟨c.1,c.2.1⟩];lia
section
variable{r:List Pt}(S:Ap r){p:Pt}
include S
theorem Ap.ACT{e j:Int}(he:Ac r p.2 e≠0)(P:Ac r p.2 j≠0)(D:Lt p p (AA r e)<|AA r<|e+1)(Z:L r e j):Lt p p (AA r j)<|AA r<|j+1:=by
 have F:=λc=>by rw[Ph (i':=e) ADk<|F3 c]at Z;exact NB r e (by have:=EX he;show yy r e≠yy r (e+1);exact Of this) Z
 have Y:=EX P;obtain⟨q,s,v,Q,s1,O,_,_⟩:=Oy (h:=p.2) (by show yy r j≠yy r (j+1);exact Of Y) (by unfold yy at Y;lia);rcases Int.lt_or_le (q*p.1) (q*(AA r j).1+s*((AA r<|j+1).1-(AA r j).1))with hl|hg
 .exact⟨q,0,s,v,CM,J,Q,s1,by rw[O];exact RU,RY hl⟩
 .exfalso;obtain⟨y,s',t',u,_,_,R,t1,ey',l'⟩:=D;have B:y*(AA r e).2+t'*((AA r<|e+1).2-(AA r e).2)=y*p.2:=ADi
  have G:y*p.1<y*(AA r e).1+t'*((AA r<|e+1).1-(AA r e).1):=ADi
  have m1:=AD8 hg<|ADy u;have m2:=AGt G v;refine S.nc F Z ⟨q*y,s*y,t'*q,AD9 v u,ADz Q<|ADy u,AEP s1<|ADy u,ADz R<|ADy v,by rw[AGP q];exact AEP t1<|ADy v,?_,?_⟩
  .have T:q*y*(AA r j).2+s*y*((AA r<|j+1).2-(AA r j).2)=y*(q*(AA r j).2+s*((AA r<|j+1).2-(AA r j).2)):=ADi
   have C:q*y*(AA r e).2+t'*q*((AA r<|e+1).2-(AA r e).2)=q*(y*(AA r e).2+t'*((AA r<|e+1).2-(AA r e).2)):=ADi
   simp only[T,C,O,B];grind
  .lia
theorem Ap.once:W r p=0\/∃e:Int,Ac r p.2 e≠0/\((yy r e<yy r (e+1)/\W r p=cc r p.2 e)\/(yy r (e+1)<yy r e/\W r p=cc r p.2 e-1)):=by
 have Q:W r p=Ab (λj=>Ac r p.2 j*ind (Lt p p (AA r j)<|AA r<|j+1)) r.length:=C4 λj _=>c8;by_cases y:∃j:Nat,j<r.length/\(Ac r p.2 (j)≠0/\Lt p p (AA r<|j) (AA r<|(j)+1))
 .right;obtain⟨e,he,⟨q,le⟩,hm⟩:=VM (N:=λm=>- kN r p.2 (m)) (λm hm=>(RD hm.1).1) r.length y;have v:=EX q;have F:=NB r (e) (by show yy r e≠yy r (e+1);rcases v with v|v<;>lia);have Z:∀m:Nat,m<r.length->Ac r p.2 (m)*ind (Lt p p (AA r<|m)<|AA r<|(m)+1)=ind (L r (e)<|m)*Ac r p.2 (m)+Ac r p.2 (m)*ind (m=e):=λm Y=>by
   by_cases hs:Ac r p.2 (m)=0
   .rw[hs];lia
   .by_cases O:m=e
    .subst O;rw[A6 le,Ax F,A6 rfl];lia
    .rw[Ax O];have P:((e:Int)-m)%(r.length)≠0:=λc=>by
      rcases AGC (e) m with z|z
      .have R:=F3 c;rw[ADq J J]at R;clear z;lia
      .rw[ADq J J]at c;lia
     by_cases u:L r (e)<|m
     .rw[A6 u,A6<|S.ACT q hs le u];lia
     .have B:L r (m)<|e:=by
       rcases S.Ml P q hs with z|z
       .exact absurd z u
       .exact z
      have hn:¬ Lt p p (AA r<|m) (AA r<|(m)+1):=λc=>by have k1:=S.fg (λz=>P<|F3 z) hs q B;have G:=hm m Y ⟨hs,c⟩;simp only[AGN,AGN]at G;lia
      rw[Ax u,Ax hn];lia
  have D:W r p=Rr r p.2 e+Ac r p.2 e:=by
   rw[Q,C4 (g:=λj=>ind (L r (e) j)*Ac r p.2 j+Ac r p.2 j*ind (j=(e))) λm Y=>by
    rw[Z m Y]
    congr 2
    by_cases h:m=e
    .rw[A6 h,A6 J]
    .rw[Ax h,Ax J]]
   rw[O8 (λj=>ind (L r (e) j)*Ac r p.2 j) λj=>Ac r p.2 j*ind (j=(e))];rw[Sl (f:=λj=>Ac r p.2 j*ind (j=(e))) he λm _ A3=>by rw[Ax J];lia];rw[A6 rfl,Int.mul_one]
   rfl
  refine⟨e,q,?_⟩;unfold cc;rcases v with z|z
  .rw[Sb z.1 z.2]at D;exact .inl ⟨Ky z,by rw[A6<|Ky z];omega⟩
  .rw[Sa z.1 z.2]at D;exact .inr ⟨Ky z,by rw[Ax J];lia⟩
 .left;rw[Q];refine Sn λm hm=>?_;by_cases hs:Ac r p.2 (m)=0
  .lia
  .rw[Ax λc=>y ⟨m,hm,hs,c⟩];lia
set_option tactic.hygienic true
theorem Ap.nI(y:∀k:Int,yy r (k+1)≠yy r k) : -1<=W r p/\W r p<=1:=by
 rcases S.once (p:=p)with h|⟨e,he,h|h⟩
 .lia
 .have:=S.NQ y he;lia
 .have:=S.NQ y he;lia
end
theorem Probe.pD{r:List Pt}(S:Ap r)(C:∀{h j:Int},Ac r h j≠0->cc r h j=1){i j:Int}(p:Probe r i j)(q:yy r (i-1)≠yy r i)(gV:yy r (i+1)≠yy r i)(u:yy r j≠yy r i) : ∃H,((yy r i<=H/\H<yy r j)\/(yy r j<=H/\H<yy r i))/\((RQ r H (AA r i) (AA r j)=1/\E8 (AA r<|i-1) (AA r i) (AA r<|i+1) (AA r j))\/(RQ r H (AA r i) (AA r j)=0/\¬ E8 (AA r<|i-1) (AA r i) (AA r<|i+1) (AA r j))):=by
 have v:i-1+1=i:=Dt;have Y:=S.Xn q gV (Z:=AA r j) λk _ _=>p.nc S k;obtain⟨O,_,P,D⟩:=S.kF q gV;have fA:=S.fork<|i-1;rw[v]at fA;have F:=DL (AA r<|i-1) (AA r i)<|AA r<|i+1;have R:yy r i<yy r (i+1)->NN r (yy r i) i=ind (yy r i<yy r (i-1))*ind (AE (AA r<|i-1) (AA r i) (AA r<|i+1)<0):=λh=>by have c:=O h;rw[C<|Di<|.inl ⟨Ds,h⟩]at c;lia
 have B:yy r i<yy r (i-1)->NN r (yy r i) i+ind (yy r i<yy r (i+1))*ind (0<AE (AA r<|i-1) (AA r i) (AA r<|i+1))=1:=λh=>by rw[<-P h];exact C<|Di<|.inr (by rw[v];exact⟨Ds,h⟩)
 have G:yy r (i-1)<yy r i->NN r (yy r i) i=ind (yy r (i+1)<yy r i)*ind (AE (AA r<|i-1) (AA r i) (AA r<|i+1)<0):=λh=>by have c:=D h;rw[C<|Di<|.inl (by rw[v];exact⟨AGL h,AGM<|AEm _⟩)]at c;lia
 have y:∀Q,(yy r i<yy r j->Q=_)->(yy r j<yy r i->Q=_)->Cq Q _ _ _:=λQ=>pE q gV u (Q:=Q) (a:=AE (AA r<|i-1) (AA r i)<|AA r<|i+1) (b:=AE (AA r i) (AA r<|i+1)<|AA r j) (c:=AE (AA r<|i-1) (AA r i)<|AA r j) (by unfold yy AE;grind) (λh c=>Qe fA h (by rw[F,c];rfl)) (Qe p.f1) (λh c=>Qe p.f2 h (by rw[DL,c];rfl)) R B G;rcases AEd u with h|h
 .refine⟨yy r i-1,.inr ⟨J,J⟩,y _ (λc=>J) λ_=>?_⟩;rw[Y.2 h,Dj<|AA r<|i-1,Dj<|AA r<|i+1,DL (AA r i)<|AA r<|i+1,propext AHW]
 .refine⟨yy r i,.inl ⟨Ds,h⟩,y _ (λ_=>?_) λc=>J⟩;rw[Y.1 h,DL,propext AHW]
set_option tactic.hygienic true
theorem Ro{r:List Pt}(S:Ap r)(g:∀i j:Int,yy r i=yy r j->(i-j)%(r.length)=0)(k:Int):yy r (k+1)≠yy r k:=λc=>by have:=g _ _ c;rw[show k+1-k=1 by lia,ADq C1<|DB S.l3]at this;lia
theorem Ap.map{r:List Pt}(S:Ap r){T:Pt->Pt}(y:∀{A X B},CO A X B->CO (T A) (T X) (T B))(hs:∀{a b c d},Bj (T a) (T b) (T c) (T d)->Bj a b c d):Ap<|r.map T:=by
 have hc:=λi=>GK (T:=T) (CI S.l3) i;refine⟨by rw[ADo];exact S.l3,λk=>?_,λi j h z=>?_⟩
 .rw[hc,hc,hc];exact y<|S.fork k
 .rw[ADo]at h;rw[hc,hc,hc,hc]at z;exact S.apart i j h<|hs z
noncomputable def lean(k:Int)(p:Pt):Pt:=(p.2,k*p.2-p.1)
theorem LG(k:Int)(a b c:Pt):AE (lean k a) (lean k b) (lean k c)=AE a b c:=by delta AE lean;grind
theorem KD{r:List Pt}(h:0<r.length)(k i:Int):AA (r.map<|lean k) i=lean k (AA r i):=GK h i
theorem Sd{k:Int}{a b c d:Pt}:Bj (lean k a) (lean k b) (lean k c) (lean k d)↔Bj a b c d:=by
 unfold lean;constructor<;>rintro⟨q,s,t,y,v,h3,u,Z,Y,Q⟩
 .exact⟨q,s,t,y,v,h3,u,Z,ADi,Y⟩
 .exact⟨q,s,t,y,v,h3,u,Z,Q,by dsimp only;grind⟩
theorem Qd{k:Int}{A X B:Pt}:CO (lean k A) (lean k X) (lean k B)↔CO A X B:=by
 unfold lean;constructor<;>intro h s t hs y q v
 .exact h s t hs y v (by dsimp only;grind)
 .exact h s t hs y ADi q
theorem TM{k:Int}{U A V B:Pt}:E8 (lean k U) (lean k A) (lean k V) (lean k B)↔E8 U A V B:=by unfold E8;rw[LG,LG,LG]
theorem Ap.lean{r:List Pt}(S:Ap r)(k:Int):Ap<|r.map<|lean k:=S.map Qd.mpr Sd.mp
theorem lex{k d u:Int}(h : -k<u/\u<k):0<=k*d+u↔0<d\/(d=0/\0<=u):=by
 rcases AFt d 0 with z|z|z
 .have:=AD8 (J:d<=-1) (J:0<=k);lia
 .rw[z,AE9];lia
 .have:=AD8 (J:1<=d) (J:0<=k);lia
theorem ACR{k:Int}{a b p:Pt}(ha : -k<a.1-p.1/\a.1-p.1<k)(hb : -k<b.1-p.1/\b.1-p.1<k):((lean k a).2<=(lean k p).2/\(lean k p).2<(lean k b).2/\0<AE a b p)↔(a.2<=p.2/\p.2<b.2/\0<AE a b p):=by
 have e:AE a b p=(b.1-p.1)*(p.2-a.2)-(p.2-b.2)*(a.1-p.1):=by unfold AE;grind
 have c:∀{x:Pt},(lean k x).2<=(lean k p).2↔0<=k*(p.2-x.2)+(x.1-p.1):=λ{x}=>by unfold lean;rw[AHK];lia
 rw[<-AGq (a:=(lean k b).2),c,c,lex ha,lex hb,e];refine⟨λ⟨x,y,z⟩=>⟨J,AGq.mp λw=>?_,z⟩,λ⟨x,y,z⟩=>⟨?_,J,z⟩⟩
 .rw[show p.2-b.2=0 by lia,AE8]at z;have:=AHF (J:b.1-p.1<=0) (J:0<=p.2-a.2);lia
 .rcases Int.lt_or_eq_of_le (J:0<=p.2-a.2)with w|w
  .exact .inl w
  .refine .inr ⟨w.symm,AHn.mp λv=>?_⟩;rw[<-w,AE9]at z;have:=AHm (J:p.2-b.2<0) v;lia
theorem c9(a b p:Pt):fw a b p=(if a.2<=p.2/\p.2<b.2/\0<AE a b p then 1 else 0)-(if b.2<=p.2/\p.2<a.2/\0<AE b a p then 1 else 0):=by unfold fw;rw[DL a b];simp only[AHW,GT.gt]
theorem Yi{r:List Pt}(h:0<r.length){k:Int}{p:Pt}(hp:∀j:Int,-k<(AA r j).1-p.1/\(AA r j).1-p.1<k):W (r.map<|lean k) (lean k p)=W r p:=by unfold W;rw[ADo];refine C4 λj _=>?_;rw[KD h,KD h,c9,c9,LG,LG];simp only[ACR (hp _)<|hp _]
theorem Yz(f:Nat->Int):∀n:Nat,∃M:Int,0<M/\∀k,k<n->-M<f k/\f k<M
 |0=>⟨1,Jo,λk h=>J⟩
 |n+1=>by
  obtain⟨M,h0,h⟩:=Yz f n;refine⟨M+(f n).natAbs+1,J,λk y=>?_⟩;by_cases e:k=n
  .rw[e];lia
  .have:=h k<|Fy y e;lia
theorem WQ{r:List Pt}(S:Ap r)(p:Pt):∃k:Int,(∀j:Int,-k<(AA r j).1-p.1/\(AA r j).1-p.1<k)/\∀i j:Int,yy (r.map<|lean k) i=yy (r.map<|lean k) j->(i-j)%((r.map<|lean k).length)=0:=by
 have h3:=S.l3;obtain⟨M,M0,y⟩:=Yz (λk=>(AA r k).1-p.1) r.length;have hb:∀k:Int,-M<(AA r k).1-p.1/\(AA r k).1-p.1<M:=λk=>by have k1:=AEL k (show(0:Int)<r.length from HY h3);have:=y (k%(r.length:Int)).toNat J;rw[AEJ<|AEZ k (b:=(r.length:Int))<|Jr h3,Fl]at this;exact this
 refine⟨2*M,λj=>by have:=hb j;lia,λi j e=>?_⟩;unfold yy at e;rw[KD<|CI h3,KD<|CI h3]at e;unfold lean at e;dsimp only at e;have b1:=hb i;have b2:=hb j;have l1:=lex (k:=2*M) (d:=(AA r i).2-(AA r j).2) (u:=(AA r j).1-(AA r i).1) J;have q:=lex (k:=2*M) (d:=(AA r j).2-(AA r i).2) (u:=(AA r i).1-(AA r j).1) J;rw[AHK]at l1 q;rw[ADo];exact S.inj<|AEt J J
theorem Ap.nH{r:List Pt}(S:Ap r)(p:Pt) : -1<=W r p/\W r p<=1:=by obtain⟨k,hp,g⟩:=WQ S p;rw[<-Yi (CI S.l3) hp];exact(S.lean k).nI (Ro (S.lean k) g)
def sub(r:List Pt)(s:Int)(l:Nat):List Pt:=(List.range<|l+1).map λk:Nat=>AA r<|s+(k:Int)
theorem sub_len(r:List Pt)(s:Int)(l:Nat):(sub r s l).length=l+1:=by unfold sub;rw[ADo,AF4]
theorem E4(r:List Pt)(s:Int)(l:Nat):((sub r s l).length:Int)=l+1:=by rw[sub_len];lia
theorem A7(r:List Pt)(s:Int)(l:Nat){k:Int}(y:0<=k)(h1:k<=l):AA (sub r s l) k=AA r (s+k):=by have q:=AEJ y;unfold AA;rw[E4,ADq y J];rw[AEO];unfold sub;rw[AEy,AIR J];simp only[AEr,Option.getD_some];unfold AA;rw[q]
theorem Hh(r:List Pt)(s:Int)(l:Nat):AA (sub r s l) (l+1)=AA r s:=by have:=Ao (r:=sub r s l) (by rw[E4,AG8,AGs]);rw[this,A7 r s l CM Ew,AEj]
theorem LJ(r:List Pt)(s:Int)(l:Nat)(k:Int):∃m:Int,0<=m/\m<=l/\(k-m)%((sub r s l).length)=0:=by
 refine⟨k%((l)+1),AEZ _ J,by have:=AEL k (J:(0:Int)<(l)+1);lia,?_⟩;rw[E4,AFU,AEf _<|AFT _,AFq]
 rfl
theorem KG{r:List Pt}(i:Int):AA r (i+r.length)=AA r i:=Ef r i
def tm(H:Int)(A B a b:Pt):Int:=ind (Lt A B a b)*(if a.2<=H/\H<b.2 then 1 else if b.2<=H/\H<a.2 then -1 else 0)
theorem k5(H:Int)(A B a b:Pt):tm H A B b a = - tm H A B a b:=by
 unfold tm;have e:ind (Lt A B b a)=ind (Lt A B a b):=by
  by_cases c:Lt A B a b
  .rw[A6 c,A6<|Gh c]
  .rw[Ax c,Ax λz=>c<|Gh z]
 rw[<-AGf]
 congr 1
 (repeat' split)<;>lia
theorem Tz(r:List Pt)(H:Int)(A B:Pt):RQ r H B A=RQ r H A B:=by
 refine C4 λk _=>?_;by_cases c:Lt A B (AA r<|k)<|AA r<|(k)+1
 .rw[A6 c,A6<|F0 c]
 .rw[Ax c,Ax λz=>c<|F0 z]
theorem kP(f:Int->Int)(m:Nat):∀k:Nat,Ab f (m+k)=Ab f m+Ab (λj=>f<|m+j) k
 |0=>by simp[Ab]
 |k+1=>by show Ab f (m+k)+f ((m+k))=Ab f m+(Ab (λj=>f<|m+j) k+f (m+(k)));rw[kP f m k];lia
theorem YM(t:Pt->Pt->Int)(r:List Pt)(s:Int)(l:Nat):ES t (sub r s l)=Ab (λk=>t (AA r<|s+k)<|AA r<|s+k+1) l+t (AA r<|s+l) (AA r s):=by
 unfold ES;rw[sub_len];show Ab _ l+t (AA (sub r s l) l) (AA (sub r s l)<|(l)+1)=_;rw[Hh,A7 r s l Ew Kx]
 congr 1
 refine C4 λk y=>?_;rw[A7 r s l Ew<|wL y,A7 r s l J J,Int.add_assoc]
theorem YL{t:Pt->Pt->Int}(q:∀a b,t b a = - t a b){r:List Pt}{s:Int}{l:Nat}(hl:l<=r.length)(v:0<r.length):ES t r=ES t (sub r s l)+ES t (sub r (s+l)<|r.length-l):=by
 rw[YM,YM];have u:s+(l)+((r.length-l:Nat))=s+r.length:=ADi
 rw[u,KG,q (AA r<|s+(l))<|AA r s];have Z:ES t r=Ab (λk=>t (AA r<|s+k)<|AA r<|s+k+1) r.length:=by exact(Xv (f:=λk=>t (AA r k)<|AA r<|k+1) v (λa b h=>by rw[Ao h,Ao<|CN h]) s).symm
 rw[Z];have y:=kP (λk=>t (AA r<|s+k)<|AA r<|s+k+1) l<|r.length-l;rw[show l+(r.length-l)=r.length by lia]at y;simp only[<-Int.add_assoc]at y;rw[y];lia
theorem Yf{r:List Pt}{s:Int}{l:Nat}(y:l<=r.length)(q:0<r.length)(H:Int)(A B:Pt):RQ r H A B=RQ (sub r s l) H A B+RQ (sub r (s+l)<|r.length-l) H A B:=YL (k5 H A B) y q
def Line(r:List Pt)(i j:Int):Prop:=Probe r i j/\E8 (AA r<|i-1) (AA r i) (AA r<|i+1) (AA r j)
structure Sm(r:List Pt):Prop where
 s:Ap r
 c:∀{h j:Int},Ac r h j≠0->cc r h j=1
 g:∀i j:Int,yy r i=yy r j->(i-j)%(r.length:Int)=0
theorem Ju{n d:Int}(y:0<d)(q:d<n):d%n≠0:=by rw[ADq J q];exact FW y
set_option tactic.hygienic false
section
variable{r:List Pt}(S:Sm r)
include S
theorem Sm.gn{i j:Int}(h:(i-j)%(r.length)≠0):yy r i≠yy r j:=λc=>h<|S.g i j c
theorem Sm.g1(i:Int):yy r (i+1)≠yy r i:=by have:=S.s.l3;exact S.gn<|by exact Ju J J
theorem Sm.g0(i:Int):yy r (i-1)≠yy r i:=λc=>S.g1 (i-1) (by rw[show i-1+1=i from Dt];exact c.symm)
theorem Sm.rq{i j:Int}(p:Probe r i j){H:Int}(h:(yy r i<=H/\H<yy r j)\/(yy r j<=H/\H<yy r i)) : (RQ r H (AA r i) (AA r j)=1/\E8 (AA r<|i-1) (AA r i) (AA r<|i+1) (AA r j))\/(RQ r H (AA r i) (AA r j)=0/\¬ E8 (AA r<|i-1) (AA r i) (AA r<|i+1) (AA r j)):=by obtain⟨H',h',z⟩:=Probe.pD S.s (λh=>S.c h) p (S.g0 i) (S.g1 i) λc=>p.CZ.1<|S.g i j c.symm;rw[p.along S.s h h'];exact z
theorem Sm.lvl{i j:Int}(h:yy r i≠yy r j):∃H,(yy r i<=H/\H<yy r j)\/(yy r j<=H/\H<yy r i):=by
 rcases AEd h with h|h
 .exact⟨yy r i,.inl ⟨Ds,h⟩⟩
 .exact⟨yy r j,.inr ⟨Ds,h⟩⟩
theorem Line.rq{i j:Int}(l:Line r i j){H:Int}(h:(yy r i<=H/\H<yy r j)\/(yy r j<=H/\H<yy r i)):RQ r H (AA r i) (AA r j)=1:=by
 rcases S.rq l.1 h with⟨a,_⟩|⟨_,b⟩
 .exact a
 .exact absurd l.2 b
theorem Line.symm{i j:Int}(l:Line r i j):Line r j i:=by
 have y:=l.1.symm S.s;refine⟨y,?_⟩;obtain⟨H,q⟩:=S.lvl <|S.gn l.1.CZ.1;rcases S.rq y (H:=H) ADi with⟨_,b⟩|⟨a,_⟩
 .exact b
 .rw[Tz,(Line.rq S l q)]at a;cases a
end
theorem Probe.congr{r:List Pt}{i j i' y:Int}(hi:(i-i')%(r.length)=0)(q:(j-y)%(r.length)=0)(p:Probe r i j):Probe r i' y:=by
 have Z:∀k:Int,(i'-k)%(r.length)=(i-k)%(r.length):=λk=>by rw[show i-k=(i-i')+(i'-k)from RP,AFc,hi,AE0,AEf _<|AFT _]
 have Y:∀k:Int,(y-k)%(r.length)=(j-k)%(r.length):=λk=>by rw[show j-k=(j-y)+(y-k)from RP,AFc,q,AE0,AEf _<|AFT _]
 have Q:(i'-y)%(r.length)=(i-j)%(r.length):=by rw[Z,show i-y=(i-j)+(j-y)from RP,AFc<|i-j,q,AEj,AEf _<|AFT _]
 have v:=Ao hi;have O:=Ao (by rw[show i-1-(i'-1)=i-i' by lia];exact hi);have u:=Ao q;have P:=Ao (by rw[show j-1-(y-1)=j-y by lia];exact q);refine⟨?_,v ▸ (Ao<|CN hi) ▸ u ▸ p.f1,v ▸ O ▸ u ▸ p.f2,u ▸ (Ao<|CN q) ▸ v ▸ p.f3,u ▸ P ▸ v ▸ p.f4,λk a b c d=>?_⟩
 .have:=p.CZ;unfold Bv at this ⊢;rw[Q];exact this
 .rw[Z]at a b;rw[Y]at c d;rw[<-v,<-u];exact p.nt k a b c d
theorem Line.congr{r:List Pt}{i j i' y:Int}(hi:(i-i')%(r.length)=0)(q:(j-y)%(r.length)=0)(l:Line r i j):Line r i' y:=by have v:=Ao (by rw[show i-1-(i'-1)=i-i' by lia];exact hi);refine⟨l.1.congr hi q,?_⟩;rw[<-(Ao hi),<-(Ao<|CN hi),<-v,<-(Ao q)];exact l.2
theorem C2{n d:Int}(h0:0<d)(y:d<n):(-d)%n=n-d:=by rw[show -d=(n-d)+n*(-1)by lia,AFb,ADq (FX y) J]
theorem Nm{n d:Int}(h:(2<=d/\d<=n-2)\/(2<=-d/\-d<=n-2)):Bv n d:=by
 unfold Bv;rcases h with h|h
 .rw[ADq J ADj];and_intros<;>lia
 .have:=C2 (n:=n) (d:=-d) ADj ADj;rw[AGw]at this;rw[this];and_intros<;>lia
theorem QZ{n d:Int}(hn:2<=n)(h:Bv n d)(h1 : -n<d)(y:d<n):(2<=d/\d<=n-2)\/(2<=-d/\-d<=n-2):=by
 unfold Bv at h;by_cases c:0<=d
 .rw[ADq c y]at h;clear hn;left;lia
 .have:=C2 (n:=n) (d:=-d) J J;rw[AGw]at this;rw[this]at h;clear hn;right;lia
theorem g9{n d:Int}(h:d%n=0)(h1 : -n<d)(y:d<n):d=0:=by
 by_cases c:0<=d
 .rw[ADq c y]at h;exact h
 .have:=C2 (n:=n) (d:=-d) J J;rw[AGw]at this;lia
theorem Oi{n a b c:Int}(y:(a-b)%n=0)(q:(b-c)%n=0):(a-c)%n=0:=by rw[show a-c=(a-b)+(b-c)from RP,AFc,y,q];rfl
theorem qr{n a b c d:Int}(y:(a-b)%n=0)(q:(c-d)%n=0)(h:Bv n<|a-c):Bv n<|b-d:=by
 have e:=by
  have h3:(a-c-(b-d))%n=0:=by rw[show a-c-(b-d)=(a-b)-(c-d)by lia,AFU,y,q];rfl
  exact(AGA.mpr h3).symm
 unfold Bv at h ⊢;rw[e];exact h
section
variable{r:List Pt}(S:Sm r){s:Int}{l:Nat}(l2:2<=l)(ln:l+2<=r.length)
include S l2 ln
theorem Xq(i j:Int)(h:yy (sub r s l) i=yy (sub r s l) j):(i-j)%((sub r s l).length)=0:=by
 obtain⟨a,a0,q,ea⟩:=LJ r s l i;obtain⟨b,b0,b1,y⟩:=LJ r s l j;rw[Gp ea,Gp y]at h;unfold yy at h;rw[A7 r s l a0 q,A7 r s l b0 b1]at h;have:=S.g (s+a) (s+b) h;have D6:=g9 this J J;have:a=b:=by clear this;lia
 subst this;exact Oi ea<|F3 y
theorem Xr(L:Probe r s<|s+l):Ap<|sub r s l:=by
 have Z:=E4 r s l;have y:∀a:Int,s+(a+1)=s+a+1:=λa=>Ik;refine⟨J,λk=>?_,λi j v hs=>?_⟩
 .obtain⟨a,a0,q,ea⟩:=LJ r s l k;rw[Ao ea,Ao<|CN ea,Ao<|CN<|CN ea];by_cases c1:a+2<=l
  .rw[A7 r s l a0 q,A7 r s l (ET a0) J,A7 r s l J J,y,y,y];exact S.s.fork<|s+a
  by_cases Y:a+1=l
  .rw[A7 r s l a0 q,Y,Hh,A7 r s l J Kx];have:=L.f4;rw[show s+(l)-1=s+a by lia]at this;exact this
  .have Q:a=l:=J
   subst Q;rw[Hh,A7 r s l a0 q];have e:AA (sub r s l) ((l)+1+1)=AA r (s+1):=by rw[Ao (by rw[Z,show(l:Int)+1+1-1=(l)+1 by lia,AGs]),A7 r s l C1 J]
   rw[e];exact L.f1.symm
 .obtain⟨a,a0,q,ea⟩:=LJ r s l i;obtain⟨b,b0,b1,u⟩:=LJ r s l j;have v:=qr ea u v;rw[Z]at v;have hd:=QZ J v J J;rw[Ao ea,Ao<|CN ea,Ao u,Ao<|CN u]at hs;by_cases O:a=l
  .rw[O,Hh,A7 r s l J Kx,A7 r s l b0 b1,A7 r s l (ET b0) J,y]at hs;refine L.nt (s+b) ?_ ?_ ?_ ?_ (Ma hs)
   .rw[show s-(s+b) = -b from Il,C2 J J];lia
   .rw[show s-(s+b) = -b from Il,C2 J J];lia
   .rw[show s+(l)-(s+b)=l-b by lia,ADq J<|Kw b0 ln];lia
   .rw[show s+(l)-(s+b)=l-b by lia,ADq J<|Kw b0 ln];lia
  by_cases P:b=l
  .rw[P,Hh,A7 r s l a0 q,A7 r s l (ET a0) J,A7 r s l J Kx,y]at hs;refine L.nt (s+a) ?_ ?_ ?_ ?_ (Ma hs.symm)
   .rw[show s-(s+a) = -a from Il,C2 J J];lia
   .rw[show s-(s+a) = -a from Il,C2 J J];lia
   .rw[show s+(l)-(s+a)=l-a by lia,ADq J<|Kw a0 ln];lia
   .rw[show s+(l)-(s+a)=l-a by lia,ADq J<|Kw a0 ln];lia
  .rw[A7 r s l a0 q,A7 r s l (ET a0) J,A7 r s l b0 b1,A7 r s l (ET b0) J,y,y]at hs;exact S.s.apart (s+a) (s+b) (Nm J) hs
theorem W3(L:Line r s<|s+l):Line r (s+l)<|s+l+(r.length-l:Nat):=by refine(Line.symm S L).congr (by rw[AFq];rfl) ?_;rw[show s-(s+(l)+((r.length-l:Nat)))=r.length*(-1)by lia,AGb]
theorem kM(L:Line r s<|s+l):(∀{h j:Int},Ac (sub r s l) h j≠0->cc (sub r s l) h j=1)/\(∀{h j:Int},Ac (sub r (s+l)<|r.length-l) h j≠0->cc (sub r (s+l)<|r.length-l) h j=1):=by
 have y:=Xr S l2 ln L.1;have q:=Xr S J J (W3 S l2 ln L).1;have u:s+(l)+((r.length-l:Nat))=s+r.length:=J
 obtain⟨H,R⟩:=S.lvl <|S.gn L.1.CZ.1;have Z:yy (sub r s l) l=yy r (s+l):=by unfold yy;rw[A7 r s l J Kx]
 have Y:yy (sub r s l) ((l)+1)=yy r s:=by unfold yy;rw[Hh]
 have Q:yy (sub r (s+l)<|r.length-l) (r.length-l:Nat)=yy r s:=by unfold yy;rw[A7 r (s+l) (r.length-l) J J,u,KG]
 have O:yy (sub r (s+l)<|r.length-l) ((r.length-l:Nat)+1)=yy r (s+l):=by unfold yy;rw[Hh]
 have g1:Ac (sub r s l) H l≠0:=Di (by rw[Z,Y];lia);have P:=Di (by rw[Q,O];omega);have D:=Ro y<|Xq S l2 ln;have F:=Ro q<|Xq S J J;have c1:=y.NQ D g1;have c2:=q.NQ F P;have B:Rr (sub r s l) H l=RQ (sub r s l) H (AA r s) (AA r<|s+l):=by rw[<-Tz];show RQ (sub r s l) H (AA (sub r s l) l) (AA (sub r s l)<|(l)+1)=_;rw[Hh,A7 r s l Ew Kx]
 have G:Rr (sub r (s+l)<|r.length-l) H (r.length-l:Nat)=RQ (sub r (s+l)<|r.length-l) H (AA r s) (AA r<|s+l):=by show RQ (sub r (s+l)<|r.length-l) H (AA (sub r (s+l)<|r.length-l) (r.length-l:Nat)) (AA (sub r (s+l)<|r.length-l)<|(r.length-l:Nat)+1)=_;rw[Hh,A7 r (s+l) (r.length-l) J J,u,KG]
 have e:=Yf (r:=r) (s:=s) (l:=l) J J H (AA r s)<|AA r<|s+l;rw[Line.rq S L R]at e;have d1:cc (sub r s l) H l=RQ (sub r s l) H (AA r s) (AA r<|s+l)+ind (yy r (s+l)<yy r s):=by unfold cc;rw[B,Z,Y]
 have d2:cc (sub r (s+l)<|r.length-l) H (r.length-l:Nat)=RQ (sub r (s+l)<|r.length-l) H (AA r s) (AA r<|s+l)+ind (yy r s<yy r (s+l)):=by unfold cc;rw[G,Q,O]
 have d3:ind (yy r (s+l)<yy r s)+ind (yy r s<yy r (s+l))=1:=by
  by_cases x:yy r s<yy r (s+l)
  .rw[A6 x,Ax J];rfl
  .rw[Ax x,A6 J];rfl
 have T:cc (sub r s l) H l=1:=J
 have C:cc (sub r (s+l)<|r.length-l) H (r.length-l:Nat)=1:=J
 exact⟨λ{h j} v=>by rw[y.P0 D v g1];exact T,λ{h j} v=>by rw[q.P0 F v P];exact C⟩
theorem LK(L:Line r s<|s+l):Sm<|sub r s l:=⟨Xr S l2 ln L.1,(kM S l2 ln L).1,Xq S l2 ln⟩
end
theorem yr{Q Y a b c d:Int}(Z:0<Q)(O:(Q*a<Y/\Y<Q*b)\/(Q*b<Y/\Y<Q*a))(P:c≠d)(D:(Q*c<=Y/\Y<=Q*d)\/(Q*d<=Y/\Y<=Q*c)) : ∃H,((a<=H/\H<b)\/(b<=H/\H<a))/\((c<=H/\H<d)\/(d<=H/\H<c))/\Q*H<=Y/\Y<=Q*(H+1):=by
 have f1:Q*(Y / Q)<=Y:=Int.mul_ediv_self_le J;have f2:Y<Q*(Y / Q+1):=by have:=Int.lt_mul_ediv_self_add (x:=Y) Z;grind
 generalize Y / Q=f at f1 f2;have y:∀{u v:Int},Q*u<Q*v->u<v:=λh=>AG3 h J;have q:∀{u v:Int},Q*u<=Q*v->u<=v:=λh=>AFC h Z;by_cases hc:(c<=f/\f<d)\/(d<=f/\f<c)
 .refine⟨f,?_,hc,f1,J⟩;rcases O with⟨u,v⟩|⟨u,v⟩
  .have:=y<|AIf u f2;have:=y<|AG9 f1 v;left;lia
  .have:=y<|AIf u f2;have:=y<|AG9 f1 v;right;lia
 .have F:Y=Q*f/\((c<d/\d=f)\/(d<c/\c=f)):=by
   rcases D with⟨u,v⟩|⟨u,v⟩
   .have R:=y<|AG9 u f2;have B:=q<|AGR u v;have h3:=q<|AGR f1 v;have:d=f:=J
    subst this;exact⟨J,by left;lia⟩
   .have R:=y<|AG9 u f2;have B:=q<|AGR u v;have h3:=q<|AGR f1 v;have:c=f:=J
    subst this;exact⟨J,by right;lia⟩
  obtain⟨e,g⟩:=F;subst e;refine⟨f-1,?_,by clear P;rcases g with g|g<;>lia,J,J⟩;rcases O with⟨u,v⟩|⟨u,v⟩
  .have:=y u;have:=y v;left;lia
  .have:=y u;have:=y v;right;lia
def LX(Q X Y:Int)(A B:Pt):Prop:=∃s:Int,0<=s/\s<=Q/\Q*A.1+s*(B.1-A.1)=X/\Q*A.2+s*(B.2-A.2)=Y
theorem ZC{Q X Y H:Int}(y:0<Q){E F:Pt}(hs:E.2<=H/\H<F.2)(h1:Q*H<=Y)(h2:Y<=Q*(H+1)) : (∀A B,LX Q X Y A B->Lt A B E F)\/(∀A B,LX Q X Y A B->Lt E F A B)\/∃d k:Int,0<d/\0<=k/\k<=Q*d/\Q*d*E.1+k*(F.1-E.1)=d*X/\Q*d*E.2+k*(F.2-E.2)=d*Y:=by
 have a1:=AD8 hs.1<|ADy y;have a2:=AD8 (J:H+1<=F.2)<|ADy y;have hd:0<F.2-E.2:=J
 have P:=AD9 y hd;have q:Y-Q*E.2<=Q*(F.2-E.2):=J
 rcases AFt (Q*(F.2-E.2)*E.1+(Y-Q*E.2)*(F.1-E.1)) ((F.2-E.2)*X)with c|c|c
 .refine .inr<|.inl λA B h=>?_;obtain⟨s,v,s1,u,Z⟩:=h;have O:=ADz v<|ADy hd;have D:=AEP s1<|ADy hd;refine⟨Q*(F.2-E.2),Y-Q*E.2,s*(F.2-E.2),P,J,q,O,D,?_,?_⟩
  .rw[<-Z];grind
  .have:Q*(F.2-E.2)*A.1+s*(F.2-E.2)*(B.1-A.1)=(F.2-E.2)*X:=by rw[<-u];grind
   rw[this];exact c
 .exact .inr<|.inr ⟨F.2-E.2,Y-Q*E.2,hd,J,q,c,ADi⟩
 .refine .inl λA B h=>?_;obtain⟨s,v,s1,u,Z⟩:=h;have O:=ADz v<|ADy hd;refine⟨Q*(F.2-E.2),s*(F.2-E.2),Y-Q*E.2,P,O,(AEP s1<|ADy hd),J,q,?_,?_⟩
  .rw[<-Z];grind
  .have:Q*(F.2-E.2)*A.1+s*(F.2-E.2)*(B.1-A.1)=(F.2-E.2)*X:=by rw[<-u];grind
   rw[this];exact c
theorem oq{Q X Y H:Int}(y:0<Q){E F:Pt}(hs:(E.2<=H/\H<F.2)\/(F.2<=H/\H<E.2))(q:Q*H<=Y)(v:Y<=Q*(H+1)) : (∀A B,LX Q X Y A B->Lt A B E F)\/(∀A B,LX Q X Y A B->Lt E F A B)\/∃d k:Int,0<d/\0<=k/\k<=Q*d/\Q*d*E.1+k*(F.1-E.1)=d*X/\Q*d*E.2+k*(F.2-E.2)=d*Y:=by
 rcases hs with hs|hs
 .exact ZC y hs q v
 .rcases ZC y hs q v with h|h|⟨d,k,a,b,c,e1,e2⟩
  .exact .inl λA B z=>Gh<|h A B z
  .exact .inr<|.inl λA B z=>F0<|h A B z
  .exact .inr<|.inr ⟨d,Q*d-k,a,J,J,ADi,ADi⟩
section
variable{r:List Pt}(S:Sm r){s:Int}{l:Nat}(l2:2<=l)(ln:l+2<=r.length)(L:Line r s (s+l))
include S l2 ln L
theorem yF{k:Int}(k0:0<=k)(k1:k<r.length-l){H:Int}(v:(yy r (s+l+k)<=H/\H<yy r (s+l+k+1))\/(yy r (s+l+k+1)<=H/\H<yy r (s+l+k))) : RQ (sub r s l) H (AA r<|s+l+k) (AA r<|s+l+k+1)=0:=by
 have e:=Yf (r:=r) (s:=s) (l:=l) J J H (AA r<|s+l+k)<|AA r<|s+l+k+1;have x1:RQ r H (AA r<|s+l+k) (AA r<|s+l+k+1)+ind (yy r (s+l+k)<yy r (s+l+k+1))=1:=S.c <|Di v;have y:=A7 r (s+l) (r.length-l) k0 J;have q:AA (sub r (s+l)<|r.length-l) (k+1)=AA r (s+l+k+1):=by rw[A7 r (s+l) (r.length-l) (ET k0) J];lia
 have x2:RQ (sub r (s+l)<|r.length-l) H (AA r<|s+l+k) (AA r<|s+l+k+1)+ind (yy r (s+l+k)<yy r (s+l+k+1))=1:=by
  have:=(kM S l2 ln L).2 (Di (by unfold yy;rw[y,q];exact v));unfold cc at this;unfold yy at this ⊢;rw[y,q]at this;have u:Rr (sub r (s+l)<|r.length-l) H k=RQ (sub r (s+l)<|r.length-l) H (AA r<|s+l+k) (AA r<|s+l+k+1):=by show RQ _ _ _ _=_;rw[y,q]
  rw[u]at this;exact this
 omega
theorem iH{a b:Int}(p:Line (sub r s l) a b){k:Int}(k0:0<=k)(k1:k<r.length-l){Q t X Y:Int}(P:0<Q)(D:0<t)(t1:t<Q) (U:Q*(AA (sub r s l) a).1+t*((AA (sub r s l) b).1-(AA (sub r s l) a).1)=X) (n:Q*(AA (sub r s l) a).2+t*((AA (sub r s l) b).2-(AA (sub r s l) a).2)=Y) (F:LX Q X Y (AA r<|s+l+k)<|AA r<|s+l+k+1):False:=by
 have v:=LK S l2 ln L;have x:=v.gn p.1.CZ.1;have Ba:yy r (s+l+k)≠yy r (s+l+k+1):=(S.g1 _).symm;have e:LX Q X Y (AA (sub r s l) a)<|AA (sub r s l) b:=⟨t,J,J,U,n⟩;have ra:(Q*yy (sub r s l) a<Y/\Y<Q*yy (sub r s l) b)\/(Q*yy (sub r s l) b<Y/\Y<Q*yy (sub r s l) a):=by
  unfold yy at x ⊢;rcases AEd x with h|h
  .left;have R:=AD9 D<|AGx.mpr h;have B:=AD9 (AGx.mpr t1)<|AGx.mpr h;exact⟨J,J⟩
  .right;have R:=AD9 D<|AGx.mpr h;have B:=AD9 (AGx.mpr t1)<|AGx.mpr h;exact⟨J,J⟩
 have rc:(Q*yy r (s+l+k)<=Y/\Y<=Q*yy r (s+l+k+1))\/(Q*yy r (s+l+k+1)<=Y/\Y<=Q*yy r (s+l+k)):=by
  obtain⟨u,q,Z,_,f2⟩:=F;unfold yy;rcases AGC (AA r<|s+l+k).2 (AA r<|s+l+k+1).2 with h|h
  .left;have R:=ADz q<|AGl.mpr h;have B:=ADz (AGl.mpr Z)<|AGl.mpr h;exact⟨J,J⟩
  .right;have R:=ADz q<|AGl.mpr h;have B:=ADz (AGl.mpr Z)<|AGl.mpr h;exact⟨J,J⟩
 obtain⟨H,ha,hc,h1,h2⟩:=yr P ra Ba rc;have z0:=yF S l2 ln L k0 k1 hc;have:RQ (sub r s l) H (AA (sub r s l) a) (AA (sub r s l) b)=RQ (sub r s l) H (AA r<|s+l+k) (AA r<|s+l+k+1):=by
  refine C4 λm hm=>?_;by_cases hs:Ac (sub r s l) H m=0
  .rw[hs,AE9,AE9]
  rw[sub_len]at hm;rcases oq P (EX hs) h1 h2 with c|c|⟨d,u,G,q,Z,f1,f2⟩
  .rw[A6<|c _ _ e,A6<|c _ _ F]
  .rw[Ax λz=>p.1.nc v.s m z<|c _ _ e,Ax λz=>?_];have O:=c _ _ F;by_cases hl:(m)=l
   .rw[hl,Hh,A7 r s l J J]at O z;exact L.1.nc S.s (s+l+k) (F0 O)<|Gh z
   .rw[A7 r s l J J,A7 r s l J J,show s+((m)+1)=s+m+1 by lia]at O z;exact S.s.nc (by exact Ju J J) z O
  .exfalso;have td:=AD9 G D;have td':=AD9 G<|AGx.mpr t1;by_cases T:(a-(m))%((sub r s l).length)=0
   .rw[<-Ao T,<-Ao<|CN T]at f1 f2;have:=(p.1.f1 u (d*t) q J ADi ADi).2;lia
   by_cases C:(a-(m))%((sub r s l).length)=1
   .have hn:(1:Int)<((sub r s l).length):=by rw[E4];lia
    have y:=FZ hn C;rw[<-Ao y,<-(v.s.next C).1]at f1 f2;have:=(p.1.f2 (Q*d-u) (d*t) J J ADi ADi).2;lia
   by_cases E:(b-(m))%((sub r s l).length)=0
   .rw[<-Ao E,<-Ao<|CN E]at f1 f2;have:=(p.1.f3 u (d*(Q-t)) q J ADi ADi).2;lia
   by_cases I:(b-(m))%((sub r s l).length)=1
   .have hn:(1:Int)<((sub r s l).length):=by rw[E4];lia
    rw[<-Ao<|FZ hn I,<-(v.s.next I).1]at f1 f2;have:=(p.1.f4 (Q*d-u) (d*(Q-t)) J J ADi ADi).2;lia
   .refine p.1.nt m T C E I ⟨Q*d,d*t,u,(AD9 P G),J,J,q,Z,?_,?_⟩
    .rw[f1,<-U];grind
    .rw[f2,<-n];grind
 rw[z0,(Line.rq v p ha)]at this;cases this
end
theorem Sm.ne{r:List Pt}(S:Sm r){i j:Int}(h:(i-j)%(r.length)≠0):AA r i≠AA r j:=λc=>S.gn h (by unfold yy;rw[c])
theorem Sm.st{r:List Pt}(S:Sm r)(k:Int):AA r (k+1)≠AA r k:=λc=>S.g1 k (by unfold yy;rw[c])
section
variable{r:List Pt}(S:Sm r){s:Int}{l:Nat}(l2:2<=l)(ln:l+2<=r.length)(L:Line r s (s+l))
include S l2 ln L
theorem lI{a b:Int}(a0:0<=a)(R:a<=l)(b0:0<=b)(b1:b<=l)(p:Line (sub r s l) a b){k:Int}(k0:0<=k)(B:k<r.length-l){T:Pt} (O:(AA r (s+l+k)=AA r (s+a)/\T=AA r (s+l+k+1))\/(AA r (s+l+k+1)=AA r (s+a)/\T=AA r (s+l+k))) (P:T≠AA r (s+a)) (G:T≠AA r (s+b)) (C:AA r (s+b)≠AA r (s+a)) (E:¬ At (AA r<|s+l+k) (AA r<|s+l+k+1) (AA r<|s+b)):CO (AA r<|s+a) T<|AA r<|s+b:=by
 have ea:=A7 r s l a0 R;have D:=A7 r s l b0 b1;refine Lu P C ?_ λz=>E ?_
 .rintro⟨u,v,y,H,h,q,Z⟩;by_cases c:u=v
  .apply G;subst c;exact AEt (RT<|AFh (FW y) q)<|RT<|AFh (FW y) Z
  by_cases F:v=0
  .apply P;rw[F,AE8]at q Z;exact AEt (Jq (AEI.mp q)<|FW y)<|Jq (AEI.mp Z)<|FW y
  refine iH S l2 ln L p k0 B (X:=u*T.1) (Y:=u*T.2) y (HZ H F) J ?_ ?_ ?_
  .rw[ea,D];grind
  .rw[ea,D];grind
  .rcases O with⟨_,rfl⟩|⟨_,rfl⟩
   .exact⟨u,J,Ds,ADi,ADi⟩
   .exact⟨0,CM,J,ADi,ADi⟩
 .rcases O with⟨Q,rfl⟩|⟨Q,rfl⟩
  .rw[Q];exact z
  .rw[Q];exact Ld z
theorem S4{a b:Int}(a0:0<=a)(a1:a<=l)(b0:0<=b)(b1:b<=l)(p:Line (sub r s l) a b):(2<=a-b/\a-b<=l-1)\/(2<=b-a/\b-a<=l-1):=by
 have:=p.1.CZ;rw[E4]at this;have:=QZ J this J J
 grind
theorem lG{a b:Int}(a0:0<=a)(y:a<=l)(b0:0<=b)(b1:b<=l)(p:Line (sub r s l) a b):CO (AA r<|s+a) (AA r<|s+a+1)<|AA r<|s+b:=by
 have hf:=S4 S l2 ln L a0 y b0 b1 p;by_cases ha:a<l
 .have:=p.1.f1;rw[A7 r s l a0 y,A7 r s l b0 b1,A7 r s l (ET a0) (by clear y;lia),show s+(a+1)=s+a+1 from Ik]at this;exact this
 .have ha:a=l:=J
  subst ha;have e0:s+(l)+0=s+l:=AEj _;refine lI S l2 ln L a0 y b0 b1 p (k:=0) CM J (.inl ⟨by rw[e0],by rw[e0]⟩) (S.st _) (S.ne ?_) (S.ne ?_) ?_
  .exact Ju J J
  .rw[show s+b-(s+(l)) = -(l-b)by lia,C2 ADj<|Kw b0 ln];lia
  .rw[e0];refine S.s.Ez ?_ ?_
   .rw[show s+b-(s+(l)) = -(l-b)by lia,C2 J<|Kw b0 ln];lia
   .rw[show s+b-(s+(l)) = -(l-b)by lia,C2 J<|Kw b0 ln];lia
theorem lH{a b:Int}(a0:0<=a)(y:a<=l)(b0:0<=b)(b1:b<=l)(p:Line (sub r s l) a b):CO (AA r<|s+a) (AA r<|s+a-1)<|AA r<|s+b:=by
 have hf:=S4 S l2 ln L a0 y b0 b1 p;by_cases ha:0<a
 .have:=p.1.f2;rw[A7 r s l a0 y,A7 r s l b0 b1,A7 r s l J J,show s+(a-1)=s+a-1 from WY]at this;exact this
 .have ha:a=0:=J
  subst ha;have e0:s+(l)+(r.length-l-1)=s-1+r.length:=J
  have q:AA r (s+(l)+(r.length-l-1))=AA r (s-1):=by rw[e0,KG]
  have v:AA r (s+(l)+(r.length-l-1)+1)=AA r (s-1+1):=by rw[e0,show s-1+(r.length)+1=s-1+1+r.length by clear q;lia,KG]
  have u:s-1+1=s+0:=J
  have st:AA r (s+0-1)≠AA r (s+0):=λc=>S.st (s-1) (by rw[u,<-c];congr 1;lia);refine lI S l2 ln L a0 y b0 b1 p (k:=r.length-l-1) J J (.inr ⟨by rw[v,u],by rw[q];congr 1;lia⟩) st (S.ne ?_) (S.ne ?_) ?_
  .rw[show s+0-1-(s+b) = -(b+1)by lia,C2 J J];lia
  .rw[show s+b-(s+0)=b by lia,ADq (MK b0) J];rintro rfl;lia
  .rw[q,v];refine S.s.Ez ?_ ?_
   .rw[show s+b-(s-1)=b+1 from RM,ADq (ET b0) J];lia
   .rw[show s+b-(s-1)=b+1 from RM,ADq (ET b0) J];lia
theorem ACS{a b:Int}(a0:0<=a)(y:a<=l)(b0:0<=b)(b1:b<=l)(p:Line (sub r s l) a b):Probe r (s+a)<|s+b:=by
 have hf:=S4 S l2 ln L a0 y b0 b1 p;have T:=Line.symm (LK S l2 ln L) p;refine⟨Nm ADi,lG S l2 ln L a0 y b0 b1 p,lH S l2 ln L a0 y b0 b1 p,lG S l2 ln L b0 b1 a0 y T,lH S l2 ln L b0 b1 a0 y T,λk q Z Y O h=>?_⟩;have hn:(0:Int)<r.length:=J
 have D:=AEZ (k-s) (b:=(r.length)) J;have m1:=AEL (k-s) hn;have P:(k-(s+(k-s)%(r.length)))%(r.length)=0:=by rw[show k-(s+(k-s)%(r.length))=(k-s)-(k-s)%(r.length)by lia,AFU,AEf _<|AFT _,AFq];rfl
 generalize (k-s)%(r.length)=m at D m1 P;have ek:∀x:Int,(x-k)%(r.length)=(x-(s+m))%(r.length):=λx=>by rw[show x-(s+m)=(x-k)+(k-(s+m))by lia,AFc,P,AEj,AEf _<|AFT _]
 rw[ek]at q Z Y O;rw[Ao P,Ao<|CN P]at h;rw[show s+a-(s+m)=a-m by lia]at q Z;rw[show s+b-(s+m)=b-m by lia]at Y O;have ne:∀{d:Int},d%(r.length)≠0->d%(r.length)≠1->d≠0/\d≠1:=λ{d} u v=>⟨λc=>u (by rw[c];rfl),λc=>v (by rw[c];exact ADq C1 (by clear hn;lia))⟩;obtain⟨n1,n2⟩:=ne q Z;obtain⟨n3,n4⟩:=ne Y O;by_cases hm:m<l
 .have C:∀{d:Int},d≠0->d≠1->-(l)<d->d<=l->d%((l)+1)≠0/\d%((l)+1)≠1:=λ{d} u v w z=>by
   by_cases c:0<=d
   .rw[ADq c J];exact⟨u,v⟩
   .have:=C2 (n:=(l)+1) (d:=-d) J J;rw[AGw]at this;rw[this];lia
  have E:=C n1 n2 J J;have H:=C n3 n4 J J;refine p.1.nt m (by rw[E4];exact E.1) (by rw[E4];exact E.2) (by rw[E4];exact H.1) (by rw[E4];exact H.2) ?_;rw[A7 r s l a0 y,A7 r s l b0 b1,A7 r s l (MK D) J,A7 r s l (ET D) J,show s+(m+1)=s+m+1 from Ik];exact h
 .obtain⟨Q,t,u,F,t0,t1,R,B,I,U⟩:=h;have es:s+m=s+l+(m-l):=J
  have e:=q;have lh:=Z;have lj:=Y;have lq:=O
  rw[show a-m=s+a-(s+m)by lia]at e lh;rw[show b-m=s+b-(s+m)by lia]at lj lq;by_cases G:t=0
  .refine S.s.Ez e lh ⟨Q,u,F,R,B,?_,?_⟩
   .rw[G]at I;grind
   .rw[G]at U;grind
  by_cases c1:t=Q
  .refine S.s.Ez lj lq ⟨Q,u,F,R,B,?_,?_⟩
   .grind
   .grind
  .refine iH S l2 ln L p (k:=m-l) J J F (t:=t) (HZ t0 G) J rfl rfl ?_;rw[<-es,A7 r s l a0 y,A7 r s l b0 b1];exact⟨u,R,B,I.symm,U.symm⟩
theorem gA{a b:Int}(a0:0<a)(a1:a<l)(b0:0<=b)(b1:b<=l)(p:Line (sub r s l) a b):Line r (s+a)<|s+b:=by refine⟨ACS S l2 ln L J J b0 b1 p,?_⟩;have:=p.2;rw[A7 r s l J J,A7 r s l b0 b1,A7 r s l J J,A7 r s l J J,show s+(a+1)=s+a+1 from Ik,show s+(a-1)=s+a-1 from WY]at this;exact this
theorem v9{a b:Int}(a0:0<=a)(y:a<=l)(b0:0<=b)(b1:b<=l)(p:Line (sub r s l) a b):Line r (s+a)<|s+b:=by
 have hf:=S4 S l2 ln L a0 y b0 b1 p;by_cases c:0<a/\a<l
 .exact gA S l2 ln L c.1 c.2 b0 b1 p
 .exact Line.symm S<|gA S l2 ln L (by clear y;omega) (by clear a0;omega) a0 y<|Line.symm (LK S l2 ln L) p
end
theorem Pq(U V W P:Pt):AE U V P+AE V W P+AE W U P=AE U V W/\AE U V W*P.1=AE V W P*U.1+AE W U P*V.1+AE U V P*W.1/\AE U V W*P.2=AE V W P*U.2+AE W U P*V.2+AE U V P*W.2:=by unfold AE;exact⟨ADi,ADi,ADi⟩
theorem cL{D Q T q O Y y bR Z p r u v w:Int}(F:q+O+Y=D)(P:y+bR+Z=D)(R:D*p=O*u+Y*v+q*w)(eR:D*r=bR*u+Z*v+y*w) : (D*(-y*Q+((Q-T)*q+T*y)))*p+(D*(-y*T+((Q-T)*q+T*y)))*(r-p)=(D*(-y*Q+((Q-T)*q+T*y)))*u+(-y*((Q-T)*Y+T*Z)+((Q-T)*q+T*y)*Z)*(v-u):=by
 have B:(D*(-y*Q+((Q-T)*q+T*y)))*p+(D*(-y*T+((Q-T)*q+T*y)))*(r-p)=(-y*(Q-T))*(D*p)+(-y*T+((Q-T)*q+T*y))*(D*r):=ADi
 rw[B,R,eR];have G:D*(-y*Q+((Q-T)*q+T*y))=(-y*((Q-T)*O+T*bR)+((Q-T)*q+T*y)*bR)+(-y*((Q-T)*Y+T*Z)+((Q-T)*q+T*y)*Z):=by
  have S:D*(-y*Q) = -y*((Q-T)*D+T*D):=ADi
  have C:D*((Q-T)*q+T*y)=((Q-T)*q+T*y)*D:=AGP ..;rw[Int.mul_add,S,C];rw[show(Q-T)*D=(Q-T)*(q+O+Y)by rw[F],show T*D=T*(y+bR+Z)by rw[P],show((Q-T)*q+T*y)*D=((Q-T)*q+T*y)*(y+bR+Z)by rw[P]]
  grind
 rw[G]
 grind
theorem VG{U V W P R:Pt}{Q T ax bx fx:Int}(Y:0<Q)(O:0<=T)(t1:T<=Q)(D:0<AE U V W) (u:ax=(Q-T)*AE U V P+T*AE U V R) (F:bx=(Q-T)*AE V W P+T*AE V W R) (Z:fx=(Q-T)*AE W U P+T*AE W U R) (a0:0<=ax) (B:AE U V R<0) (hb:0<=-AE U V R*bx+ax*AE V W R) (G:0<=-AE U V R*fx+ax*AE W U R) : ∃q s t:Int,0<q/\0<=s/\s<=q/\0<=t/\t<=q/\q*P.1+s*(R.1-P.1)=q*U.1+t*(V.1-U.1)/\q*P.2+s*(R.2-P.2)=q*U.2+t*(V.2-U.2)/\t = -AE U V R*fx+ax*AE W U R/\q-t = -AE U V R*bx+ax*AE V W R:=by
 obtain⟨y,S,C⟩:=Pq U V W P;obtain⟨v,E,H⟩:=Pq U V W R;have m1:=AD9 (show 0 < -AE U V R from Oa B) Y;have m2:=ADz (J:0<=-AE U V R) O;have m3:=ADz (J:0<=-AE U V R) (show 0<=Q-T from Ci t1);have I:0 < -AE U V R*Q+ax:=J
 have n:0<=-AE U V R*T+ax:=J
 have b : -AE U V R*T+ax<=-AE U V R*Q+ax:=J
 have x:AE U V W*(-AE U V R*Q+ax)-(-AE U V R*fx+ax*AE W U R) = -AE U V R*bx+ax*AE V W R:=by
  have e0:ax+bx+fx=Q*AE U V W:=by
   rw[u,F,Z,show Q*AE U V W=(Q-T)*AE U V W+T*AE U V W by grind,<-y];have:T*(AE U V P+AE V W P+AE W U P)=T*(AE U V R+AE V W R+AE W U R):=by rw[y,v]
   rw[this];grind
  have e:AE U V W*(-AE U V R*Q+ax) = -AE U V R*(Q*AE U V W)+ax*AE U V W:=ADi
  rw[e,<-e0,<-v];grind
 refine⟨AE U V W*(-AE U V R*Q+ax),AE U V W*(-AE U V R*T+ax),-AE U V R*fx+ax*AE W U R,(AD9 D I),ADz J n,AD8 b J,G,J,?_,?_,rfl,x⟩
 .rw[u,Z];exact cL y v S E
 .rw[u,Z];exact cL y v C H
theorem qm{U V W P R:Pt}{Q T ax bx fx:Int}(S:0<Q)(C:0<=T)(t1:T<=Q)(E:0<AE U V W) (H:ax=(Q-T)*AE U V P+T*AE U V R) (I:bx=(Q-T)*AE V W P+T*AE V W R) (n:fx=(Q-T)*AE W U P+T*AE W U R) (a0:0<=ax) (b0:0<=bx) (b:0<=fx) (x:0<=AE W U R) (out:AE U V R<0\/AE V W R<0) : (∃q s t:Int,0<q/\0<=s/\s<=q/\0<=t/\t<=q/\q*P.1+s*(R.1-P.1)=q*U.1+t*(V.1-U.1)/\q*P.2+s*(R.2-P.2)=q*U.2+t*(V.2-U.2)/\(0<fx->0<t))\/(∃q s t:Int,0<q/\0<=s/\s<=q/\0<=t/\t<=q/\q*P.1+s*(R.1-P.1)=q*V.1+t*(W.1-V.1)/\q*P.2+s*(R.2-P.2)=q*V.2+t*(W.2-V.2)/\(0<fx->t<q)):=by
 have c1:AE V W U=AE U V W:=by unfold AE;grind
 have oG:AE U V R<0->0<=-AE U V R*bx+ax*AE V W R->(∃q s t:Int,0<q/\0<=s/\s<=q/\0<=t/\t<=q/\q*P.1+s*(R.1-P.1)=q*U.1+t*(V.1-U.1)/\q*P.2+s*(R.2-P.2)=q*U.2+t*(V.2-U.2)/\(0<fx->0<t)):=λv hb=>by have u:=ADz (J:0<=-AE U V R) b;have Z:=ADz a0 x;obtain⟨q,s,t,Y,O,h3,D,F,B,G,et,_⟩:=VG S C t1 E H I n a0 v hb J;refine⟨q,s,t,Y,O,h3,D,F,B,G,λh=>?_⟩;have:=AD9 (show 0 < -AE U V R from Oa v) h;lia
 have e:AE V W R<0->0<=-AE V W R*ax+bx*AE U V R->(∃q s t:Int,0<q/\0<=s/\s<=q/\0<=t/\t<=q/\q*P.1+s*(R.1-P.1)=q*V.1+t*(W.1-V.1)/\q*P.2+s*(R.2-P.2)=q*V.2+t*(W.2-V.2)/\(0<fx->t<q)):=λy ha=>by have u:=ADz (J:0<=-AE V W R) b;have Z:=ADz b0 x;obtain⟨q,s,t,Y,O,h3,D,F,B,G,_,eq⟩:=VG S C t1 (by rw[c1];exact E) I n H b0 y J ha;refine⟨q,s,t,Y,O,h3,D,F,B,G,λh=>?_⟩;have:=AD9 (show 0 < -AE V W R from Oa y) h;lia
 by_cases v:AE U V R<0
 .by_cases hb:0<=-AE U V R*bx+ax*AE V W R
  .exact .inl<|oG v hb
  .by_cases y:AE V W R<0
   .refine .inr<|e y ?_;lia
   .exfalso;have u:=ADz (J:0<=-AE U V R) b0;have Z:=ADz a0 (show 0<=AE V W R from RN y);lia
 .have y:AE V W R<0:=J
  refine .inr<|e y ?_;have u:=ADz (J:0<=-AE V W R) a0;have Z:=ADz b0 (show 0<=AE U V R from RN v);lia
theorem g7(f:Nat->Int):∀n:Nat,0<n->∃m,m<n/\∀k,k<n->f m<=f k
 |0,h=>J
 |1,_=>⟨0,J,λk y=>by rw[show k=0 by lia];exact AEm _⟩
 |n+2,_=>by
  obtain⟨m,hm,h⟩:=g7 f (n+1) J;by_cases c:f m<=f (n+1)
  .refine⟨m,J,λk y=>?_⟩;by_cases e:k=n+1
   .rw[e];exact c
   .exact h k J
  .refine⟨n+1,J,λk y=>?_⟩;by_cases e:k=n+1
   .rw[e];exact AEm _
   .have:=h k J;lia
theorem gp(P:Nat->Prop)(f:Nat->Int):∀n:Nat,(∃k,k<n/\P k)->∃m,m<n/\P m/\∀k,k<n->P k->f k<=f m
 |0,h=>by obtain⟨k,q,_⟩:=h;lia
 |n+1,h=>by
  by_cases c:∃k,k<n/\P k
  .obtain⟨m,hm,pm,v⟩:=gp P f n c;by_cases d:P n/\f m<f n
   .refine⟨n,Ha,d.1,λk q y=>?_⟩;by_cases e:k=n
    .rw[e];exact AEm _
    .have:=v k (Fy q e) y;lia
   .refine⟨m,HX hm,pm,λk q y=>?_⟩;by_cases e:k=n
    .rw[e]at y ⊢;exact AHn.mp λz=>d ⟨y,z⟩
    .exact v k (Fy q e) y
  .obtain⟨k,q,y⟩:=h;have:k=n:=by
    rcases Nat.lt_or_ge k n with z|z
    .exact absurd ⟨k,z,y⟩ c
    .lia
   subst this;refine⟨k,Ha,y,λj u Z=>?_⟩;by_cases e:j=k
   .rw[e];exact AEm _
   .exact absurd ⟨j,Fy u e,Z⟩ c
set_option tactic.hygienic true
theorem LH{a b A B C D:Pt}{Q s t:Int}(y:Q*A.1+s*(B.1-A.1)=Q*C.1+t*(D.1-C.1))(q:Q*A.2+s*(B.2-A.2)=Q*C.2+t*(D.2-C.2)):(Q-s)*AE a b A+s*AE a b B=(Q-t)*AE a b C+t*AE a b D:=by
 have f:∀(X Y:Pt)(u:Int),(Q-u)*AE a b X+u*AE a b Y=(b.1-a.1)*((Q*X.2+u*(Y.2-X.2))-Q*a.2)-(b.2-a.2)*((Q*X.1+u*(Y.1-X.1))-Q*a.1):=λX Y u=>by unfold AE;grind
 rw[f,f,y,q]
theorem Pp{a b A B X:Pt}{q s:Int}(e1:q*(X.1-A.1)=s*(B.1-A.1))(e2:q*(X.2-A.2)=s*(B.2-A.2)):(q-s)*AE a b A+s*AE a b B=q*AE a b X:=by have:=LH (a:=a) (b:=b) (A:=A) (B:=B) (C:=X) (D:=X) (Q:=q) (s:=s) (t:=0) ADi ADi;rw[AE8,AEj,AG8]at this;exact this
theorem UG{a b A B X:Pt}(h:At A B X)(y:0<=AE a b A)(v:0<=AE a b B):0<=AE a b X:=by obtain⟨q,s,u,Z,s1,Y,Q⟩:=h;have m1:=ADz (show 0<=q-s from Ci s1) y;have m2:=ADz Z v;exact AHn.mp λc=>by have:=AG1 u c;rw[<-Pp Y Q]at this;lia
theorem Yo{U V W P:Pt}(v:0<AE U V W)(h:AE U V P=0)(b:0<=AE V W P)(f:0<=AE W U P):At U V P:=by obtain⟨sz,y,q⟩:=Pq U V W P;rw[h,AE8,AEj]at y q;rw[h,AE0]at sz;exact⟨AE U V W,AE W U P,v,f,J,by rw[AHK,y,<-sz];grind,by rw[AHK,q,<-sz];grind⟩
def fA(r:List Pt)(v k:Int):Int:=AE (AA r<|v-1) (AA r v)<|AA r k
def fB(r:List Pt)(v k:Int):Int:=AE (AA r v) (AA r<|v+1)<|AA r k
def fF(r:List Pt)(v k:Int):Int:=AE (AA r<|v+1) (AA r<|v-1)<|AA r k
theorem cN(r:List Pt)(v:Int):fA r v v=0/\fA r v (v-1)=0/\fB r v v=0/\fB r v (v+1)=0/\fF r v (v+1)=0/\fF r v (v-1)=0/\fF r v v=fA r v (v+1)/\fB r v (v-1)=fA r v (v+1):=
 ⟨(Iw _ _).2,(Iw _ _).1,(Iw _ _).1,(Iw _ _).2,(Iw _ _).1,(Iw _ _).2,by unfold fF fA;rw[Dj,Dj],Dj ..⟩
section
variable{r:List Pt}(S:Sm r)
include S
theorem Sm.norm(v k:Int):∃e:Int,0<=e/\e<r.length/\(k-(v+e))%(r.length)=0:=by have h3:=S.s.l3;refine⟨(k-v)%(r.length),AEZ _<|Jr h3,AEL _<|HY h3,?_⟩;rw[show k-(v+(k-v)%(r.length))=(k-v)-(k-v)%(r.length)by lia,AFU,AEf _<|AFT _,AFq];rfl
theorem Sm.low:∃v:Int,∀k:Int,yy r v<=yy r k:=by have h3:=S.s.l3;obtain⟨m,hm,h⟩:=g7 (λk=>yy r<|k) r.length<|CI h3;refine⟨m,λk=>?_⟩;obtain⟨e,e0,e1,he⟩:=S.norm 0 k;rw[AE0]at he;have:=h e.toNat J;rw[AEJ e0,<-Gp he]at this;exact this
theorem Sm.conv{v:Int}(y:∀k,yy r v<=yy r k):0<AE (AA r<|v-1) (AA r v) (AA r<|v+1):=by
 have h3:=S.s.l3;have Z:v-1+1=v:=Dt;have Y:yy r v<yy r (v-1):=by have:=S.g0 v;have:=y<|v-1;omega
 have q:yy r v<yy r (v+1):=by have:=S.g1 v;have:=y<|v+1;lia
 have Q:=Sa (by rw[Z];exact Ds) Y;have sw:=Sb Ds q;have hc:=S.c (by rw[sw];lia);unfold cc at hc;rw[A6 q]at hc;have hR:Rr r (yy r v) v=ind (L r v<|v-1)*(-1):=by
  unfold Rr;have O:=Xv (f:=λj=>ind (L r v j)*Ac r (yy r v) j) (n:=r.length) (CI h3) (λa b h=>by rw[SY h,Ph (by rw[AFq];rfl) h]) (v-1)
  rw[<-O];rw[Sl (d:=0) (CI h3) λm hm A3=>?_]
  .rw[Int.natCast_zero,AEj,Q]
  .by_cases P:m=1
   .rw[P,show v-1+((1:Nat))=v by lia,Ax<|NB r v λc=>S.g1 v c.symm,AE8]
   .have:Ac r (yy r v) (v-1+(m))=0:=by
     apply AFg;intro c;have hr:=EX c;have h1:=y<|v-1+m;have h2:=y<|v-1+m+1;by_cases x:yy r (v-1+m)<=yy r v
     .have:=S.g (v-1+m) v J;rw[show v-1+(m)-v=m-1 by lia]at this;exact Ju J (MF hm) this
     .have:=S.g (v-1+m+1) v (by clear O;omega);rw[show v-1+(m)+1-v=m by lia]at this;exact Ju (by clear P;lia) (Df hm) this
    rw[this,AE9]
 rw[hR]at hc;have hn:¬ L r v (v-1):=λc=>by rw[A6 c]at hc;lia
 have u:=(S.s.Ml (by rw[show v-(v-1)=1 from gQ];exact Ju Jo<|DB h3) (by rw[sw];lia) (by rw[Q];lia)).resolve_left hn;unfold L at u;rw[Z]at u;have:=(UU Y q).mp<|F0 u;rw[Dj]at this;exact this
theorem Sm.lN{v:Int}(H:0<AE (AA r<|v-1) (AA r v) (AA r<|v+1)){e:Int}(I:1<=e)(U:e<=r.length-2){P R:Pt} (n:(P=AA r (v+e)/\R=AA r (v+e+1))\/(P=AA r (v+e+1)/\R=AA r (v+e))) {Q T ax bx fx:Int} (hQ:0<Q) (t0:0<=T) (t1:T<=Q) (GU:ax=(Q-T)*AE (AA r<|v-1) (AA r v) P+T*AE (AA r<|v-1) (AA r v) R) (IT:bx=(Q-T)*AE (AA r v) (AA r<|v+1) P+T*AE (AA r v) (AA r<|v+1) R) (GW:fx=(Q-T)*AE (AA r<|v+1) (AA r<|v-1) P+T*AE (AA r<|v+1) (AA r<|v-1) R) (a0:0<=ax) (b0:0<=bx) (f0:0<=fx) (hF:0<=AE (AA r<|v+1) (AA r<|v-1) R) (ok:0<fx\/(e≠r.length-2/\e≠1)) : 0<=AE (AA r<|v-1) (AA r v) R/\0<=AE (AA r v) (AA r<|v+1) R:=by
 apply AFg;intro c;have C:v-1+1=v:=Dt;have E:(v+e-(v-1))%(r.length)=e+1:=by rw[show v+e-(v-1)=e+1 from RM,ADq J J]
 have m2:(v-1-(v+e))%(r.length)=r.length-(e+1):=by rw[show v-1-(v+e) = -(e+1)by lia,C2 J J]
 have m3:(v+e-v)%(r.length)=e:=by rw[show v+e-v=e from Wd,ADq J J]
 have m4:(v-(v+e))%(r.length)=r.length-e:=by rw[show v-(v+e) = -e from Il,C2 (OZ I) J]
 have rev:∀{q s:Int}{a b:Pt}{x y:Int},0<q->0<=s->s<=q->q*P.1+s*(R.1-P.1)=x->q*P.2+s*(R.2-P.2)=y->∃s':Int,0<=s'/\s'<=q/\q*(AA r<|v+e).1+s'*((AA r<|v+e+1).1-(AA r<|v+e).1)=x/\q*(AA r<|v+e).2+s'*((AA r<|v+e+1).2-(AA r<|v+e).2)=y:=λ{q s a b x y} u Z s1 Y O=>by
  rcases n with⟨rfl,rfl⟩|⟨rfl,rfl⟩
  .exact⟨s,Z,s1,Y,O⟩
  .exact⟨q-s,Ci s1,Kz Z,by rw[<-Y];grind,by rw[<-O];grind⟩
 rcases qm hQ t0 t1 H GU IT GW a0 b0 f0 hF ADj with⟨q,s,t,u,Z,s1,D,F,Y,O,st⟩|⟨q,s,t,u,Z,s1,D,F,Y,O,st⟩
 .obtain⟨s',B,G,f1,f2⟩:=rev (a:=P) (b:=P) u Z s1 Y O;have:=S.s.share (by rw[E];lia) u B G D F (by rw[C];exact f1) (by rw[C];exact f2);rw[E,m2]at this;rcases ok with k|k
  .rcases this with this|this<;>lia
  .clear U;rcases this with this|this<;>lia
 .obtain⟨s',B,G,f1,f2⟩:=rev (a:=P) (b:=P) u Z s1 Y O;have:=S.s.share (by rw[m3];lia) u B G D F f1 f2;rw[m3,m4]at this;rcases ok with k|k
  .rcases this with this|this<;>lia
  .lia
theorem Sm.lM{v:Int}(q:0<fA r v (v+1)){e:Int}(u:1<=e)(Z:e<=r.length-2){Q T ax bx fx:Int}(Y:0<Q)(O:0<=T)(t1:T<=Q) (P:ax=(Q-T)*fA r v (v+e)+T*fA r v (v+e+1)) (D:bx=(Q-T)*fB r v (v+e)+T*fB r v (v+e+1)) (F:fx=(Q-T)*fF r v (v+e)+T*fF r v (v+e+1)) (a0:0<=ax) (b0:0<=bx) (R:0<=fx) (ok:0<fx\/(e≠r.length-2/\e≠1)) : (0<=fF r v (v+e+1)->0<=fA r v (v+e+1)/\0<=fB r v (v+e+1))/\(0<=fF r v (v+e)->0<=fA r v (v+e)/\0<=fB r v (v+e)):=by
 have sw:∀x y:Int,(Q-T)*x+T*y=(Q-(Q-T))*y+(Q-T)*x:=λx y=>by rw[Int.sub_sub_self];lia
 exact⟨λh=>S.lN q u Z (.inl ⟨rfl,rfl⟩) Y O t1 P D F a0 b0 R h ok,λh=>S.lN q u Z (.inr ⟨rfl,rfl⟩) Y (Ci t1) (Kz O) (P.trans<|sw _ _) (D.trans<|sw _ _) (F.trans<|sw _ _) a0 b0 R h ok⟩
end
section
variable{r:List Pt}(S:Sm r)
include S
theorem Sm.iP(v k:Int):∃e:Int,0<=e/\e<r.length/\AA r k=AA r (v+e)/\AA r (k+1)=AA r (v+e+1)/\∀x:Int,(x-k)%(r.length:Int)=(x-(v+e))%(r.length:Int):=by obtain⟨e,e0,q,y⟩:=S.norm v k;exact⟨e,e0,q,Ao y,Ao<|CN y,λx=>by rw[show x-(v+e)=(x-k)+(k-(v+e))by lia,AFc,y,AEj,AEf _<|AFT _]⟩
set_option maxHeartbeats 1000000 in
theorem Sm.qF{v:Int}(T:0<fA r v (v+1)){d:Int}(d2:2<=d)(dn:d<=r.length-2)(az:0<=fA r v (v+d))(bz:0<=fB r v (v+d))(fz:0<=fF r v (v+d)) (mx:∀e:Int,2<=e->e<=r.length-2->0<=fA r v (v+e)->0<=fB r v (v+e)->0<=fF r v (v+e)->fF r v (v+e)<=fF r v (v+d)):Line r v<|v+d:=by
 have em:v-1+1=v:=Dt;have en:fF r v (v+(r.length-1))=fF r v (v-1):=by unfold fF;rw[show v+((r.length:Int)-1)=v-1+r.length by lia,KG]
 obtain⟨vA,_,vB,_,wF,uF,vF,_⟩:=cN r v;have sz:fA r v (v+d)+fB r v (v+d)+fF r v (v+d)=fA r v (v+1):=(Pq ..).1;have n1:(v+d-(v-1))%(r.length)=d+1:=by rw[RM,ADq J J]
 have n2:(v+d-v)%(r.length)=d:=by rw[Wd,ADq J J]
 have C:0<fA r v (v+d):=AGr.mpr ⟨az,λc=>S.s.Ez (m:=v+d) (j:=v-1) (by intro h;lia) (by intro h;lia) (by rw[em];exact Yo T c.symm bz fz)⟩;have E:0<fB r v (v+d):=AGr.mpr ⟨bz,λc=>S.s.Ez (m:=v+d) (j:=v) J J<|Yo (by rw[Dj];exact T) c.symm fz az⟩;have mi:∀e:Int,0<e->e<r.length->0<=fA r v (v+e)->0<=fB r v (v+e)->fF r v (v+d)<fF r v (v+e)->False:=λe e0 D ha hb hf=>by
  by_cases R:e=1
  .rw[R,wF]at hf;grind
  by_cases c2:e=r.length-1
  .rw[c2,en,uF]at hf;omega
  .have:=mx e J J ha hb ADi;grind
 have fk:∀e:Int,1<=e->e<=r.length-1->AA r (v+e)≠AA r (v+d)->¬ At (AA r<|v+d) (AA r<|v+e) (AA r v)->CO (AA r<|v+d) (AA r<|v+e) (AA r v):=λe D e2 dN FN=>by
  refine Lu dN (S.ne (by rw[Il,C2 J J];lia)) (λ⟨q,s,F,s0,s1,Z,Y⟩=>?_) FN;have B:_=q*fA r v (v+e):=Pp Z Y;have G:_=q*fB r v (v+e):=Pp Z Y;have O:_=q*fF r v (v+e):=Pp Z Y;rw[show AE (AA r<|v-1) (AA r v) (AA r v)=0 from vA,AE9,AEj]at B;rw[show AE (AA r v) (AA r<|v+1) (AA r v)=0 from vB,AE9,AEj]at G;rw[show AE (AA r<|v+1) (AA r<|v-1) (AA r v)=_ from vF]at O;have h:s<q:=AGr.mpr ⟨s1,λc=>by subst c;exact S.ne (by rw[Wd];exact Ju (OZ D) J)<|AEt (RT<|AFh (FW F) Z)<|RT<|AFh (FW F) Y⟩
  have k:0<s:=HZ s0 λc=>dN (by rw[c,AE8]at Z Y;exact AEt (Jq (AEI.mp Z)<|FW F)<|Jq (AEI.mp Y)<|FW F)
  have pA:0<q*_:=B ▸ AD9 (FV h) C;have pB:0<q*_:=G ▸ AD9 (FV h) E;have pF:=AD9 k (J:0<fA r v (v+1)-fF r v (v+d));have tF:0<q*(fF r v (v+e)-fF r v (v+d)):=by rw[AHK]at pF ⊢;rw[<-O,AHJ];unfold fF at *;omega
  exact mi e J J (ADy<|AGQ pA F) (ADy<|AGQ pB F)<|Int.lt_of_sub_pos<|AGQ tF F
 refine⟨⟨Nm (by right;constructor<;>lia),Nn (u:=(AA r<|v+1)) (by rw[DL];exact Int.neg_ne_zero.mpr<|FW E),Nn<|FW C,?_,?_,λk H I x3 x4 h=>?_⟩,.inl ⟨T,E,C⟩⟩
 .have c:(v-(v+d))%(r.length)=r.length-d:=by rw[Il,C2 J J]
  rw[<-Ik];refine fk (d+1) J J ?_ ?_
  .rw[Ik];exact S.st _
  .rw[Ik];exact S.s.Ez (m:=v) (j:=v+d) J J
 .have D:v+(d-1)+1=v+d:=J
  have c:(v-(v+(d-1)))%(r.length)=r.length-(d-1):=by rw[Il,C2 J J]
  rw[<-WY];exact fk (d-1) J J (λc=>S.st (v+(d-1))<|by rw[D,c]) λz=>S.s.Ez (m:=v) (j:=v+(d-1)) J J (by rw[D];exact Ld z)
 .obtain⟨e,e0,D,U,R,ex⟩:=S.iP v k;rw[ex]at H I x3 x4;rw[U,R]at h;have n1:e≠0:=λc=>H (by rw[c,AEj,AFq];rfl);have n2:e≠r.length-1:=λc=>I (by rw[Il,C2 (by clear d2 c;lia) ADj];grind);obtain⟨Q,s,u,P,s0,s1,n,t,Z,Y⟩:=h;have U:0<s:=HZ s0 λc=>S.s.Ez H I ⟨Q,u,P,n,t,by rw[c]at Z;grind,by rw[c]at Y;grind⟩;have R:s<Q:=AGr.mpr ⟨s1,λc=>S.s.Ez x3 x4 ⟨Q,u,P,n,t,by rw[c]at Z;clear P;grind,by rw[c]at Y;clear P;grind⟩⟩;clear H I x3 x4 ex;have B:_=(Q-u)*fA r v (v+e)+u*fA r v (v+e+1):=LH Z Y;have G:_=(Q-u)*fB r v (v+e)+u*fB r v (v+e+1):=LH Z Y;have O:_=(Q-u)*fF r v (v+e)+u*fF r v (v+e+1):=LH Z Y;rw[show AE (AA r<|v-1) (AA r v) (AA r v)=0 from vA,AE9,AE0]at B;rw[show AE (AA r v) (AA r<|v+1) (AA r v)=0 from vB,AE9,AE0]at G;rw[show AE (AA r<|v+1) (AA r<|v-1) (AA r v)=_ from vF]at O;have pA:=AD9 U C;have pB:=AD9 U E;have p1:=AD9 (FV R) (J:0<fA r v (v+1)-fF r v (v+d));have p2:=ADz (ADy P) fz;have b:Q*fF r v (v+d)<(Q-s)*fA r v (v+1)+s*fF r v (v+d):=by rw[AHK,AHJ Q s<|fF r v<|v+d]at p1;clear O;grind
  obtain⟨w1,w2⟩:=S.lM T (OZ J) J P n t B G O (ADy pA) (ADy pB) (by unfold fF at *;clear O;omega) (.inl (by unfold fF at *;clear O;omega));have up:∀{x y:Int},x<=y->(Q-u)*x+u*y<=Q*y:=λh=>by have:=AD8 h<|Ci t;rw[AHJ Q u]at this;rw[AHJ]at *;lia
  have dn:∀{x y:Int},x<=y->(Q-u)*y+u*x<=Q*y:=λh=>by have:=AD8 h n;rw[AHJ];lia
  have b:Q*fF r v (v+d)<(Q-u)*fF r v (v+e)+u*fF r v (v+e+1):=O ▸ b;rcases AGC (fF r v<|v+e) (fF r v<|v+e+1)with hle|hle
  .have hR:=AG3 (Int.lt_of_lt_of_le b<|up hle)<|ADy P;obtain⟨ia,ib⟩:=w1<|AGR fz<|ADy hR;rw[<-Ik]at ia ib hR;exact mi (e+1) J J ia ib hR
  .have hR:=AG3 (Int.lt_of_lt_of_le b<|dn hle)<|ADy P;obtain⟨ia,ib⟩:=w2<|AGR fz<|ADy hR;exact mi e (HZ e0 n1) D ia ib hR
end
section
variable{r:List Pt}(S:Sm r)
include S
set_option maxHeartbeats 1000000 in
theorem Sm.qG{v:Int}(h4:4<=r.length)(y:0<fA r v (v+1))(D:∀e:Int,2<=e->e<=r.length-2->¬ (0<=fA r v (v+e)/\0<=fB r v (v+e)/\0<=fF r v (v+e))):Line r (v-1)<|v+1:=by
 have em:v-1+1=v:=Dt;have ew:v+1-1=v:=MG;have e2:AA r (v+(r.length-2))=AA r (v-1-1):=by rw[show v+((r.length:Int)-2)=v-1-1+r.length by lia,KG]
 obtain⟨vA,F,_,wB,wF,B,_,Z⟩:=cN r v;have Y:∀e:Int,2<=e->e<=r.length-2->¬ At (AA r<|v-1) (AA r<|v+1) (AA r<|v+e):=λe a b c=>D e a b ⟨UG c (RW F)<|ADy y,UG c (ADy (show 0<fB r v (v-1)by rw[Z];exact y))<|RW wB,UG c (RW B)<|RW wF⟩;have dP:(AA r<|v+1)≠(AA r<|v-1):=S.ne (by rw[show v+1-(v-1)=2 by lia];exact Ju OY J);have t1:v-1-1+1=v-1:=Dt;have sO:AA r (v-1-1)≠(AA r<|v-1):=λc=>S.st (v-1-1) (by rw[t1,c]);have c3:(v+1-(v-1-1))%(r.length)=3:=by rw[show v+1-(v-1-1)=3 by lia,ADq J J]
 have c2:(v-1-(v+1))%(r.length)=r.length-2:=by rw[show v-1-(v+1) = -2 by lia,C2 OY J]
 refine⟨⟨Nm (by right;lia),?_,Lu sO dP (by rw[<-e2];exact Y _ J J) λc=>S.s.Ez (m:=v+1) (j:=v-1-1) (by intro h;lia) (by intro h;lia) (by rw[t1];exact Ld c),Lu (S.st _) dP.symm (λc=>Y 2 J J (by rw[show v+2=v+1+1 by lia];exact Ld c))<|S.s.Ez (m:=v-1) (j:=v+1) ADj ADj,?_,λk C E H I h=>?_⟩,?_⟩
 .rw[em];exact Nn (u:=(AA r v)) (by rw[DL];exact Int.neg_ne_zero.mpr<|FW y)
 .rw[ew];exact Nn (u:=(AA r v)) (v:=(AA r<|v+1)) (w:=(AA r<|v-1)) (by rw[Dj];exact FW y)
 .obtain⟨e,e0,e1,c0,c1,ex⟩:=S.iP v k;rw[ex]at C E H I;rw[c0,c1]at h;have n1:e≠r.length-1:=λc=>C (by rw[show v-1-(v+e)=r.length*(-1)by lia,AGb]);have n2:e≠r.length-2:=λc=>E (by rw[show v-1-(v+e)=1+r.length*(-1)by lia,AFb,ADq C1 J]);have n3:e≠1:=λc=>H (by rw[c,AFq];rfl);have n4:e≠0:=λc=>I (by rw[c,show v+1-(v+0)=1 by lia,ADq C1 J]);clear C E H I ex;obtain⟨Q,s,u,hQ,n,s1,O,G,x,q2⟩:=h;have sA:_=(Q-u)*fA r v (v+e)+u*fA r v (v+e+1):=LH x q2;have sB:_=(Q-u)*fB r v (v+e)+u*fB r v (v+e+1):=LH x q2;have sF:_=(Q-u)*fF r v (v+e)+u*fF r v (v+e+1):=LH x q2;rw[show AE (AA r<|v-1) (AA r v) (AA r<|v-1)=0 from F,AE9,AE0]at sA;rw[show AE (AA r v) (AA r<|v+1) (AA r<|v+1)=0 from wB,show AE (AA r v) (AA r<|v+1) (AA r<|v-1)=_ from Z,AE9,AEj]at sB;rw[show AE (AA r<|v+1) (AA r<|v-1) (AA r<|v-1)=0 from B,show AE (AA r<|v+1) (AA r<|v-1) (AA r<|v+1)=0 from wF,AE9,AE9,AEj]at sF;obtain⟨w1,w2⟩:=S.lM y J (by clear n2;lia) hQ O G sA sB sF (ADz n<|ADy y) (ADz (Ci s1)<|ADy y) (AEm 0)<|.inr ⟨n2,n3⟩;by_cases c:0<=fF r v (v+e+1)
  .have:=w1 c;rw[<-Ik]at this c;exact D (e+1) J J ⟨this.1,this.2,c⟩
  .have z:0<=fF r v (v+e):=AHn.mp λz=>by
    have m1:=ADz (Ci G) (J:0<=-fF r v (v+e));have m2:=ADz O (J:0<=-fF r v (v+e+1));rw[AGf]at m1 m2;by_cases cu:u=0
    .have:=AD9 hQ<|Oa z;rw[cu,AG8,AE8,AEj]at sF;rw[AGf]at this;lia
    .have:=AD9 (HZ O cu)<|wK c;rw[AGf]at this;clear m2;lia
   have:=w2 z;exact D e J J ⟨this.1,this.2,z⟩
 .unfold E8 Hn;rw[em];by_cases c:AE (AA r<|v-1-1) (AA r<|v-1) (AA r v)>0
  .refine .inl ⟨c,y,AGq.mp λcn=>?_⟩;have aT:0<fA r v (v-1-1):=by unfold fA;rw[Dj<|AA r<|v-1-1];exact c
   have fT:0<=fF r v (v-1-1):=by unfold fF;rw[j7];omega
   have bT:¬ 0<=fB r v (v-1-1):=λb=>D (r.length-2) J J (by delta fA fB fF at *;rw[e2];exact⟨ADy aT,b,fT⟩);unfold fA at aT y F Z;unfold fB at bT Z;unfold fF at fT B;have m1:=ADz (ADy y) fT;have m2:=ADz (ADy y)<|ADy aT;obtain⟨q,s,t,hq,n,s1,O,G,f1,f2,_,_⟩:=VG (U:=(AA r v)) (V:=(AA r<|v+1)) (W:=(AA r<|v-1)) (P:=(AA r<|v-1)) (R:=AA r<|v-1-1) (Q:=1) (T:=0) (ax:=AE (AA r<|v-1) (AA r v)<|AA r<|v+1) (bx:=0) (fx:=0) Jo CM C1 (by rw[Dj];exact y) (by rw[Z];lia) (by rw[B];lia) (by rw[F];lia) (ADy y) ADj ADj ADj;have:=S.s.share (i:=v-1-1) (j:=v) (s:=q-s) (by rw[show v-1-1-v = -2 by clear y;lia,C2 OY J];lia) hq ADi (Kz n) O G (by rw[t1,<-f1];grind) (by rw[t1,<-f2];grind);rw[show v-1-1-v = -2 by lia,C2 OY J,show v-(v-1-1)=2 by lia,ADq J J]at this;lia
  .exact .inr ⟨c,.inl y⟩
theorem Sm.diag(y:4<=r.length):∃(s:Int)(l:Nat),2<=l/\l+2<=r.length/\Line r s (s+l):=by
 obtain⟨v,u⟩:=S.low;have q:0<fA r v (v+1):=S.conv u;by_cases c:∃k:Nat,k<r.length/\(2<=k/\k+2<=r.length/\0<=fA r v (v+k)/\0<=fB r v (v+k)/\0<=fF r v (v+k))
 .obtain⟨m,hm,⟨Z,hn,a,b,f⟩,Y⟩:=gp _ (λk:Nat=>fF r v<|v+k) r.length c;refine⟨v,m,Z,hn,S.qF q J (by clear hm;lia) a b f λe Q O ea P D=>?_⟩;have:=Y e.toNat ADi;rw[AEJ J]at this;exact this ⟨ADi,ADi,ea,P,D⟩
 .refine⟨v-1,2,J,y,?_⟩;rw[show v-1+((2:Nat):Int)=v+1 by lia];refine S.qG y q λe Q O z=>c ⟨e.toNat,ADi,J,J,?_⟩;rw[AEJ J];exact z
end
theorem ACG{t:List Pt}(S:Sm t)(h:t.length=3)(v:Int):0<AE (AA t v) (AA t<|v+1) (AA t<|v+2):=by
 obtain⟨m,hm⟩:=S.low;have c:=S.conv hm;have y:∀{a b:Int},(a-b)%3=0->AA t a=AA t b:=λe=>Ao (by rw[h];exact e);have d:(v-(m-1))%3=0\/(v-m)%3=0\/(v-(m+1))%3=0:=J
 rcases d with d|d|d
 .rw[y d,y (a:=v+1) (b:=m) J,y (a:=v+2) (b:=m+1) J];exact c
 .rw[y d,y (a:=v+1) (b:=m+1) J,y (a:=v+2) (b:=m-1) J,Dj];exact c
 .rw[y d,y (a:=v+1) (b:=m-1) J,y (a:=v+2) (b:=m) J,<-Dj];exact c
theorem Sm.Gz:∀(n:Nat){r:List Pt},r.length=n->Sm r->0<CJ r:=by
 intro n
 induction n using Nat.strongRecOn with
 |ind n ih=>
  intro r hn S;have h3:=S.s.l3;by_cases y:r.length=3
  .have t:=ACG S y 0;rw[UE r<|AA r 0,y];show 0<0+AE _ (AA r 0) (AA r 1)+AE _ (AA r 1) (AA r 2)+AE _ (AA r 2) (AA r 3);rw[Dj (AA r 1) (AA r 0)<|AA r 0,(Iw _ _).2,Ao (i:=3) (j:=0) (by rw[y];rfl),(Iw _ _).1,AEj,AE0,AE0];exact t
  .obtain⟨s,l,q,ln,L⟩:=S.diag J;have a:=ih (l+1) J (sub_len r s l)<|LK S q ln L;have b:=ih (r.length-l+1) J (sub_len r (s+l)<|r.length-l)<|LK S J J<|W3 S q ln L;have:CJ r=CJ (sub r s l)+CJ (sub r (s+l)<|r.length-l):=YL Uc J J;lia
theorem Ap.Y6{r:List Pt}(S:Ap r)(ar:0<CJ r)(g:∀i j:Int,yy r i=yy r j->(i-j)%(r.length)=0){h j:Int}(Y:Ac r h j≠0):cc r h j=1:=by
 have h3:=S.l3;have Z:r.reverse.length=r.length:=AGy;have hc:=λi=>QH (r:=r) (CI h3) i;have y:∀k:Int,-1-(k+1) = -2-k:=λk=>J
 have v:∀k:Int,-2-k+1 = -1-k:=λk=>J
 have Q:=Ro S g;rcases S.NQ Q Y with c|c
 .have g':∀i j:Int,yy r.reverse i=yy r.reverse j->(i-j)%(r.reverse.length)=0:=λi j e=>by unfold yy at e;rw[hc,hc]at e;have:=F3<|g _ _ e;rw[show -1-j-(-1-i)=i-j by lia]at this;rw[Z];exact this
  have O:Ap r.reverse:=by
   refine⟨by rw[Z];exact h3,λk=>?_,λi j f z=>?_⟩
   .have:=S.fork (-2-(k+1));rw[v,y,v]at this;rw[hc,hc,hc,y,y];exact this.symm
   .rw[Z]at f;rw[hc,hc,hc,hc,y,y]at z;refine S.apart (-2-i) (-2-j) ?_ ?_
    .rw[show -2-i-(-2-j) = -(i-j)by lia];exact f.neg<|Jp h3
    .rw[v,v];exact Ma (Ma z.symm).symm
  have C:∀{h j:Int},Ac r.reverse h j≠0->cc r.reverse h j=1:=λ{H i} hi=>by
   have u:=EX hi;unfold yy at u;rw[hc,hc,y]at u;have P:Ac r H (-2-i)≠0:=Di (by rw[v];exact u.symm);have k:=S.P0 Q P Y;rw[c]at k;have q:RQ r.reverse H (AA r (-2-i)) (AA r (-1-i)) = - RQ r H (AA r (-2-i)) (AA r (-1-i)):=TQ (k5 H _ _)<|CI h3;unfold cc at k ⊢;rw[show Rr r.reverse H i=RQ r.reverse H (AA r.reverse i) (AA r.reverse<|i+1)from rfl,hc,hc,y,Tz,q];rw[show Rr r H (-2-i)=RQ r H (AA r (-2-i)) (AA r (-2-i+1))from rfl]at k;unfold yy at *
   rw[v]at k;rw[hc,hc,y];rcases u with z|z
   .rw[Ax J]at k;rw[A6 J];lia
   .rw[A6 J]at k;rw[Ax J];lia
  have a:=Sm.Gz _ rfl ⟨O,C,g'⟩;have b:CJ r.reverse = - CJ r:=TQ Uc<|CI h3;lia
 .exact c
set_option tactic.hygienic false
theorem Rm.sm{r:List Pt}(R:Rm r):∃k:Int,Sm<|r.map<|lean k:=by have S:=R.simple;have y:=CI S.l3;obtain⟨k,_,g⟩:=WQ S (0,0);exact⟨k,S.lean k,(S.lean k).Y6 (by rw[Po (d:=1) y λa b c=>by rw[LG,AFw],AFw];exact R.Gz) g,g⟩
def pr(a b p:Pt):Bool:=((decide (a.2>p.2)) != (decide (b.2>p.2)))&&(if decide (b.2>p.2)=true then decide (AE a b p>0)else decide (AE a b p<0))
theorem zA(a b p:Pt):(pr a b p=true/\(fw a b p=1\/fw a b p = -1))\/(pr a b p=false/\fw a b p=0):=by unfold pr fw;by_cases y:a.2>p.2<;>by_cases q:b.2>p.2<;>by_cases h3:AE a b p>0<;>by_cases v:AE a b p<0<;>simp[y,q,h3,v]<;>grind
theorem iS(r:List Pt)(p:Pt):∀n:Nat,(((List.range n).filter λk:Nat=>pr (AA r k) (AA r<|(k:Int)+1) p).length:Int)%2=Ab (λj=>fw (AA r j) (AA r<|j+1) p) n%2
 |0=>rfl
 |n+1=>by
  have ih:=iS r p n;rw[AFN,List.filter_append,AD1,Ab];rcases zA (AA r (n:Int)) (AA r<|(n:Int)+1) p with⟨a,b⟩|⟨a,b⟩
  .have:([n].filter λk:Nat=>pr (AA r k) (AA r<|(k:Int)+1) p).length=1:=by simp[a]
   rw[this];lia
  .have:([n].filter λk:Nat=>pr (AA r k) (AA r<|(k:Int)+1) p).length=0:=by simp[a]
   rw[this,b];lia
theorem Ap.xG{r:List Pt}(S:Ap r){p:Pt}(hp:∀j:Int,¬ At (AA r j) (AA r<|j+1) p):(((List.range r.length).filter λk:Nat=>pr (AA r k) (AA r<|(k:Int)+1) p).length:Int)%2=1↔W r p≠0:=by
 rw[iS];have:=S.nH p;unfold W at *
 constructor<;>lia
def Ku(r:List Pt)(i j:Int):Bool:=(List.range r.length).any λk=>((!((k:Int)==i||(k:Int)==j))&&Ai (AA r i) (AA r j) (AA r k))||(((!((k:Int)==i||(k:Int)==j))&&(!(((k:Int)+1)%(r.length:Int)==i||((k:Int)+1)%(r.length:Int)==j)))&&BP (AA r i) (AA r j) (AA r k) (AA r<|((k:Int)+1)%(r.length:Int)))
theorem MN{n i k:Int}(hi:0<=i)(CT:i<n)(hk:0<=k)(A4:k<n):(i-k)%n=0↔k=i:=by
 constructor
 .intro h;have e:(i-k)=n*((i-k) / n):=by have:=AFl (i-k) n;lia
  have y:(i-k) / n=0:=by
   have a:(i-k) / n<1:=by apply Int.ediv_lt_of_lt_mul J;lia
   have b : -1<(i-k) / n:=by
    by_cases c : -1<(i-k) / n
    .exact c
    .exfalso;have q:((i-k) / n+1)<=0:=J
     have h3:((i-k) / n+1)*n<=0:=AHF q J;lia
   lia
  rw[y]at e;lia
 .rintro rfl;simp
theorem Ri{n i k:Int}(hn:2<=n)(hi:0<=i)(y:i<n):(i-k)%n=1↔(k+1)%n=i:=by
 constructor
 .intro h;have:(i-(k+1))%n=0:=by rw[show i-(k+1)=(i-k)-1 by lia,AFU,h];simp
  have e:(k+1)%n=i%n:=by rw[show k+1=i-(i-(k+1))by lia,AFU,‹(i-(k+1))%n=0›];simp
  rw[e,ADq hi y]
 .intro h;have:(i-k)%n=((k+1)%n-k)%n:=by rw[h]
  rw[this,AFU,AEf _<|AFT n,<-AFU,show k+1-k=1 by lia,ADq C1 J]
section
variable{r:List Pt}(S:Ap r)
include S
theorem RE(DF:∀k:Int,AE (AA r k) (AA r<|k+1) (AA r<|k+1+1)≠0){i j:Int}(hi:0<=i)(y:i<r.length)(q:0<=j)(v:j<r.length)(Q:Bv r.length<|i-j):Ku r i j=false↔Probe r i j:=by
 have h3:=S.l3;have hn:(0:Int)<r.length:=HY h3;unfold Ku;rw[AFF];constructor
 .intro h;refine jK S DF Q λk a b c d hs=>?_;have k0:=AEZ k (b:=(r.length))<|Jr h3;have Y:=AEL k hn;have hc:=AEJ k0;have u:=h (k%(r.length)).toNat<|AD2.mpr J;rw[hc]at u;apply u;have O:∀x:Int,(x-k%(r.length))%(r.length)=(x-k)%(r.length):=λx=>by rw[AFU,AEf _<|AFT _,<-AFU]
  have P:=Fl r k;have D:AA r ((k%(r.length)+1)%(r.length))=AA r (k+1):=by rw[Fl,<-Fl r<|k%(r.length)+1,<-Fl r<|k+1,AFc,AEf _<|AFT _,<-AFc]
  rw[<-O]at a b c d;have F:=λz=>a<|(MN hi y k0 Y).mpr z;have R:=λz=>c<|(MN q v k0 Y).mpr z;have B:=λz=>b<|(Ri J hi y).mpr z;have G:=λz=>d<|(Ri J q v).mpr z;rw[AEV];right;rw[P,D,Rb,Wj hs,AEG.mpr F,AEG.mpr B,AEG.mpr R,AEG.mpr G]
  rfl
 .intro p k u;have Z:=AD2.mp u;intro h;rw[AEV]at h;rcases h with h|h
  .simp only[ADx,AEQ,AEe,AEG]at h;obtain⟨⟨a,b⟩,c⟩:=h;exact p.lL S (λz=>a<|(MN hi y Ew<|Df Z).mp z) (λz=>b<|(MN q v Ew<|Df Z).mp z)<|Ru.mp<|F4.mp c
  .simp only[ADx,AEQ,AEe,AEG]at h;obtain⟨⟨⟨a,b⟩,c,d⟩,e⟩:=h;rw[Rb,Fl]at e;exact p.nt k (λz=>a<|(MN hi y Ew<|Df Z).mp z) (λz=>c<|(Ri J hi y).mp z) (λz=>b<|(MN q v Ew<|Df Z).mp z) (λz=>d<|(Ri J q v).mp z)<|Xh e
theorem Ap.dbl:Ap<|r.map dbl:=S.map (λh s t hs u y v=>by unfold AH.dbl at y v;exact h s t hs u ADi ADi) λ⟨q,s,t,Z,Y,Q,O,P,y,v⟩=>by unfold AH.dbl at y v;exact⟨q,s,t,Z,Y,Q,O,P,ADi,ADi⟩
end
def Kn(w:List Pt)(p:Pt):Bool:=!((List.range w.length).any λk=>Ai (AA w k) (AA w<|(k:Int)+1) p)&&((((List.range w.length).filter λk:Nat=>pr (AA w k) (AA w<|(k:Int)+1) p).length:Int)%2==1)
def NR(U A V B:Pt):Bool:=if AE U A V>0 then decide (AE A V B>0)&&decide (AE U A B>0)else decide (AE A V B>0)||decide (AE U A B>0)
theorem Ua{U A V B:Pt}:NR U A V B=true↔E8 U A V B:=by
 unfold NR E8 Hn;by_cases h:AE U A V>0
 .simp[h]
 .simp[h]
theorem h9{x y:Int}(hx : -200<=x/\x<=200)(hy : -200<=y/\y<=200) : -40000<=x*y/\x*y<=40000:=by have h1:(x*y).natAbs=x.natAbs*y.natAbs:=Int.natAbs_mul x y;have h2:x.natAbs*y.natAbs<=200*200:=Nat.mul_le_mul J J;lia
def Jn(r:List Pt)(i j:Int):Prop:=(i-j)%(r.length:Int)=1\/(j-i)%(r.length:Int)=1\/Line r i j
theorem Jn.congr{r:List Pt}{i j i' q:Int}(hi:(i-i')%(r.length:Int)=0)(y:(j-q)%(r.length:Int)=0)(h:Jn r i j):Jn r i' q:=by
 have e:∀{a b c d:Int},(a-b)%(r.length:Int)=0->(c-d)%(r.length:Int)=0->(b-d)%(r.length:Int)=(a-c)%(r.length:Int):=λ{a b c d} v u=>by
  have h3:(a-c-(b-d))%(r.length:Int)=0:=by rw[show a-c-(b-d)=(a-b)-(c-d)by lia,AFU,v,u];rfl
  exact(AGA.mpr h3).symm
 unfold Jn;rw[e hi y,e y hi];rcases h with h|h|h
 .exact .inl h
 .exact .inr<|.inl h
 .exact .inr<|.inr<|h.congr hi y
theorem Jn.symm{r:List Pt}(S:Sm r){i j:Int}(h:Jn r i j):Jn r j i:=by
 rcases h with h|h|h
 .exact .inr<|.inl h
 .exact .inl h
 .exact .inr<|.inr<|Line.symm S h
theorem MO{n d:Int}(h:d%n=1)(h1 : -n<d)(y:d<n):d=1\/d=1-n:=by
 by_cases c:0<=d
 .rw[ADq c y]at h;exact .inl h
 .have:=C2 (n:=n) (d:=-d) J J;rw[AGw]at this;right;lia
theorem wg{n:Int}(hn:1<n):(1:Int)%n=1:=ADq C1 hn
section
variable{r:List Pt}(S:Sm r){s:Int}{l:Nat}(l2:2<=l)(ln:l+2<=r.length)(L:Line r s (s+l))
include S l2 ln L
theorem Q8{a b:Int}(a0:0<=a)(q:a<=l)(b0:0<=b)(b1:b<=l)(h:Jn (sub r s l) a b):Jn r (s+a)<|s+b:=by
 have y:=wg (n:=(r.length:Int)) J;rcases h with h|h|h
 .rw[E4]at h;rcases MO h J J with c|c
  .exact .inl (by rw[show s+a-(s+b)=1 by lia];exact y)
  .refine .inr<|.inr ?_;rw[show a=0 by lia,show b=l by lia,AEj];exact L
 .rw[E4]at h;rcases MO h J J with c|c
  .exact .inr (.inl (by rw[show s+b-(s+a)=1 by lia];exact y))
  .refine .inr<|.inr ?_;rw[show b=0 by lia,show a=l by lia,AEj];exact Line.symm S L
 .exact .inr<|.inr<|v9 S l2 ln L a0 q b0 b1 h
theorem nT{e k:Int}(e0:0<=e)(e1:e<l)(q:(k-e)%((sub r s l).length:Int)≠0)(Z:(k-(e+1))%((sub r s l).length:Int)≠0)(Y:Jn (sub r s l) e k)(Q:Jn (sub r s l) k<|e+1) : ∃k:Int,(k-(s+e))%(r.length:Int)≠0/\(k-(s+e+1))%(r.length:Int)≠0/\Jn r (s+e) k/\Jn r k (s+e+1):=by
 obtain⟨a,a0,y,ea⟩:=LJ r s l k;have z:∀x:Int,(x-x)%((sub r s l).length:Int)=0:=λx=>by rw[AFq];rfl
 have n1:a≠e:=λc=>q (by rw[<-c];exact ea);have n2:a≠e+1:=λc=>Z (by rw[<-c];exact ea);have ne:∀{d:Int},d≠0->-(r.length:Int)<d->d<r.length->d%(r.length:Int)≠0:=λ{d} u v w c=>u<|g9 c v w;refine⟨s+a,ne J J J,ne J J J,Q8 S l2 ln L e0 J a0 y<|Y.congr (z e) ea,?_⟩;rw[show s+e+1=s+(e+1)by lia];exact Q8 S l2 ln L a0 y (ET e0) J<|Q.congr ea<|z _
end
theorem Sm.Lb:∀(n:Nat){r:List Pt},r.length=n->Sm r->∀m:Int,∃k:Int,(k-m)%(r.length:Int)≠0/\(k-(m+1))%(r.length:Int)≠0/\Jn r m k/\Jn r k (m+1):=by
 intro n
 induction n using Nat.strongRecOn with
 |ind n ih=>
  intro r hn S m;have h3:=S.s.l3;by_cases v:r.length=3
  .refine⟨m+2,?_,?_,.inl ?_,.inl ?_⟩
   .rw[show m+2-m=2 by lia,v];decide
   .rw[show m+2-(m+1)=1 by lia,v];decide
   .rw[show m-(m+2) = -2 by lia,v];decide
   .rw[show m+2-(m+1)=1 by lia,v];decide
  .obtain⟨s,l,y,ln,L⟩:=S.diag J;have q:∀(s:Int)(l:Nat),2<=l->l+2<=r.length->Line r s (s+l)->∀e:Int,0<=e->e<l->∃k:Int,(k-(s+e))%(r.length:Int)≠0/\(k-(s+e+1))%(r.length:Int)≠0/\Jn r (s+e) k/\Jn r k (s+e+1):=λs l y ln L e e0 P=>by obtain⟨k,u,Z,Y,Q⟩:=ih (l+1) J (r:=sub r s l) (sub_len r s l) (LK S y ln L) e;exact nT S y ln L e0 P u Z Y Q
   obtain⟨e,e0,P,O⟩:=S.norm s m;have z:∀x:Int,(x-x)%(r.length:Int)=0:=λx=>by rw[AFq];rfl
   have fin:(∃k:Int,(k-(s+e))%(r.length:Int)≠0/\(k-(s+e+1))%(r.length:Int)≠0/\Jn r (s+e) k/\Jn r k (s+e+1)):=by
    by_cases c:e<l
    .exact q s l y ln L e e0 c
    .have:=q (s+l) (r.length-l) J ADi (W3 S y ln L) (e-l) J J;rw[show s+(l:Int)+(e-l)=s+e by lia]at this;exact this
   obtain⟨k,u,Z,Y,Q⟩:=fin;have D:=F3 O;refine⟨k,λc=>u<|Oi c O,λc=>Z<|Oi c<|CN O,Y.congr D<|z k,Q.congr (z k)<|CN D⟩
theorem Sm.nR{r:List Pt}(S:Sm r){i j:Int}(i0:0<=i)(ij:i+2<=j)(jn:j<r.length)(h:Line r i j\/(i=0/\j=r.length-1)):∃k:Int,i<k/\k<j/\Jn r i k/\Jn r k j:=by
 have h3:=S.s.l3;rcases h with L|⟨rfl,rfl⟩
 .have hf:=QZ J L.1.CZ J J;have el:i+(((j-i).toNat:Nat):Int)=j:=J
  have q:2<=(j-i).toNat:=J
  have ln:(j-i).toNat+2<=r.length:=J
  rw[<-el]at L;obtain⟨k,v,u,Z,Y⟩:=Sm.Lb _ rfl (LK S q ln L) ((j-i).toNat:Int);obtain⟨a,a0,Q,ea⟩:=LJ r i (j-i).toNat k;have z:∀x:Int,(x-x)%((sub r i (j-i).toNat).length:Int)=0:=λx=>by rw[AFq];rfl
  have y:(((j-i).toNat:Int)+1-0)%((sub r i (j-i).toNat).length:Int)=0:=by rw[(E4 r i (j-i).toNat),AG8,AGs]
  have F:a≠((j-i).toNat:Int):=λc=>v (by rw[<-c];exact ea);have O:a≠0:=λc=>u (by subst c;exact Oi ea<|F3 y);have P:=Q8 S q ln L J Kx a0 Q<|Z.congr (z _) ea;have D:=Q8 S q ln L a0 Q CM J<|Y.congr ea y;rw[el]at P;rw[AEj]at D;exact⟨i+a,J,J,D.symm S,P.symm S⟩
 .obtain⟨k,v,u,Z,Y⟩:=Sm.Lb _ rfl S<|(r.length:Int)-1;obtain⟨a,a0,Q,ea⟩:=S.norm 0 k;rw[AE0]at ea;have z:∀x:Int,(x-x)%(r.length:Int)=0:=λx=>by rw[AFq];rfl
  have y:((r.length:Int)-1+1-0)%(r.length:Int)=0:=by rw[show(r.length:Int)-1+1-0=r.length by lia,AGs]
  have F:a≠(r.length:Int)-1:=λc=>v (by rw[<-c];exact ea);have O:a≠0:=λc=>u (by subst c;exact Oi ea<|F3 y);exact⟨a,HZ a0 O,J,(Y.congr ea y).symm S,(Z.congr (z _) ea).symm S⟩
theorem f9{r:List Pt}(y:0<r.length)(k i j:Int):Line (r.map<|lean k) i j↔Line r i j:=by
 have hc:∀m,AA (r.map<|lean k) m=lean k (AA r m):=λm=>KD y k m;constructor<;>rintro⟨⟨q,p2,v,u,Z,Y⟩,c⟩
 .simp only[ADo,hc,Qd,Sd,TM]at *
  exact⟨⟨q,p2,v,u,Z,Y⟩,c⟩
 .refine⟨⟨?_,?_,?_,?_,?_,?_⟩,?_⟩<;>simp only[ADo,hc,Qd,Sd,TM]<;>assumption
theorem Rm.Lb{r:List Pt}(R:Rm r){i j:Int}(y:0<=i)(Z:i+2<=j)(jn:j<r.length)(h:Line r i j\/(i=0/\j=r.length-1)):∃k:Int,i<k/\k<j/\(k=i+1\/Line r i k)/\(j=k+1\/Line r k j):=by
 have h3:=R.l3;obtain⟨K,S⟩:=R.sm;have q:((r.map<|lean K).length:Int)=r.length:=by rw[ADo]
 obtain⟨k,Y,Q,v,u⟩:=S.nR y Z (by rw[q];exact jn) (by rw[q,f9<|CI h3];exact h);unfold Jn at v u;rw[q,f9 J]at v u;refine⟨k,Y,Q,?_,?_⟩
 .rcases v with c|c|c
  .have:=MO c J (by clear y h3 c;lia);right;lia
  .have:=MO c (by clear y h3 c;lia) J;clear y Z h3 c;left;lia
  .exact .inr c
 .rcases u with c|c|c
  .have:=MO c J (by clear y h3 c;lia);right;lia
  .have:=MO c (by clear y h3 c;lia) J;clear y h3 c;left;lia
  .exact .inr c
theorem wV{A B c d:Pt}(h:Lt (A.1+B.1,A.2+B.2) (A.1+B.1,A.2+B.2) (dbl c)<|dbl d):Lt A B c d:=by obtain⟨q,s,t,h1,h2,h3,h4,h5,e,l⟩:=h;unfold dbl at e l;dsimp only at e l;exact⟨2*q,q,2*t,J,J,J,J,J,ADi,ADi⟩
theorem wW{A B c d:Pt}(h:Lt (dbl c) (dbl d) (A.1+B.1,A.2+B.2) (A.1+B.1,A.2+B.2)):Lt c d A B:=by obtain⟨q,s,t,h1,h2,h3,h4,h5,e,l⟩:=h;unfold dbl at e l;dsimp only at e l;exact⟨2*q,2*s,q,J,J,J,J,J,ADi,ADi⟩
section
variable{r:List Pt}(S:Ap r){i j:Int}(p:Probe r i j)
include S p
theorem Probe.mid:W (r.map dbl) ((AA r i).1+(AA r j).1,(AA r i).2+(AA r j).2)=RQ r ((yy r i+yy r j) / 2) (AA r i) (AA r j):=by
 have h3:=S.l3;have hc:∀k:Int,AA (r.map dbl) k=dbl (AA r k):=λk=>GK (CI h3) k
 delta W RQ
 simp only[ADo];refine C4 λk _=>?_;rw[c8,hc,hc];have hs:Ac (r.map dbl) ((AA r i).2+(AA r j).2) k=Ac r ((yy r i+yy r j) / 2) k:=by
  delta Ac yy
  rw[hc,hc];unfold dbl;dsimp only;generalize (AA r i).2+(AA r j).2=m;generalize (AA r k).2=a;generalize (AA r<|k+1).2=b
  (repeat' split)<;>lia
 rw[hs,AGP];by_cases hz:Ac r ((yy r i+yy r j) / 2) k=0
 .rw[hz];lia
 .congr 1
  have rs:=EX hz;by_cases y:Lt (AA r i) (AA r j) (AA r k)<|AA r<|k+1
  .rw[A6 y];refine A6 ?_;obtain⟨q,s,v,Z,s1,Y,_,_⟩:=Oy (a:=dbl<|AA r k) (b:=dbl<|AA r<|k+1) (h:=(AA r i).2+(AA r j).2) (by unfold dbl;dsimp only;unfold yy at rs;lia) (by unfold dbl;unfold yy at rs;rcases rs with rs|rs<;>lia);rcases AFt (q*((AA r i).1+(AA r j).1)) (q*(dbl<|AA r k).1+s*((dbl<|AA r<|k+1).1-(dbl<|AA r k).1))with u|u|u
   .exact⟨q,0,s,v,CM,J,Z,s1,by rw[Y];lia,ADi⟩
   .exact absurd ⟨q,s,v,Z,s1,ADi,ADi⟩ (p.g6 S k)
   .exact absurd (wW ⟨q,s,0,v,Z,s1,CM,J,J,ADi⟩) (p.nc S k y)
  .rw[Ax y];exact Ax λc=>y<|wV c
end
set_option tactic.hygienic true
theorem Probe.lean{r:List Pt}{i j:Int}(p:Probe r i j)(y:0<r.length)(k:Int):Probe (r.map<|lean k) i j:=by have hc:∀m,AA (r.map<|AH.lean k) m=AH.lean k (AA r m):=λm=>KD y k m;obtain⟨p1,p2,p3,p4,p5,p6⟩:=p;refine⟨?_,?_,?_,?_,?_,?_⟩<;>simp only[ADo,hc,Qd,Sd]<;>assumption
theorem Rm.ABT{r:List Pt}(R:Rm r){k:Int}(g:∀i j:Int,yy (r.map<|AH.lean k) i=yy (r.map<|AH.lean k) j->(i-j)%((r.map<|AH.lean k).length)=0):Sm<|r.map<|AH.lean k:=
 ⟨R.simple.lean k,(R.simple.lean k).Y6 (by rw[Po (d:=1) (CI R.l3) λa b c=>by rw[LG,AFw],AFw];exact R.Gz) g,g⟩
set_option tactic.hygienic false
theorem Probe.pC{r:List Pt}(R:Rm r){i j:Int}(p:Probe r i j) : (W (r.map dbl) ((AA r i).1+(AA r j).1,(AA r i).2+(AA r j).2)=1/\E8 (AA r<|i-1) (AA r i) (AA r<|i+1) (AA r j))\/(W (r.map dbl) ((AA r i).1+(AA r j).1,(AA r i).2+(AA r j).2)=0/\¬ E8 (AA r<|i-1) (AA r i) (AA r<|i+1) (AA r j)):=by
 have S:=R.simple;have y:=CI S.l3;obtain⟨k,u,g⟩:=WQ S.dbl ((AA r i).1+(AA r j).1,(AA r i).2+(AA r j).2);have hc:∀m,AA (r.map<|AH.lean k) m=AH.lean k (AA r m):=λm=>KD y k m;have hd:(r.map dbl).map (AH.lean k)=(r.map<|AH.lean k).map dbl:=by rw[AEH,AEH];exact AFu λx _=>by unfold AH.lean dbl;exact AEt rfl (by dsimp only[Function.comp];grind)
 have q:=R.ABT (k:=k) λa b e=>by
  have:=g a b (by unfold yy at e ⊢;have hm:=λm=>GK (T:=dbl) (r:=r.map<|AH.lean k) (by rw[ADo];exact y) m;rw[hd,hm,hm];show 2*_=2*_;rw[e])
  rw[ADo,ADo]at this;rw[ADo];exact this
 have v:=p.lean y k;rw[<-Yi (by rw[ADo];exact y) u,hd,show AH.lean k ((AA r i).1+(AA r j).1,(AA r i).2+(AA r j).2)=((AA (r.map<|AH.lean k) i).1+(AA (r.map<|AH.lean k) j).1,(AA (r.map<|AH.lean k) i).2+(AA (r.map<|AH.lean k) j).2)by rw[hc,hc];unfold AH.lean;exact AEt rfl (by dsimp only;grind),v.mid q.s];have gy:=q.gn v.CZ.1;have:=q.rq v (H:=(yy (r.map<|AH.lean k) i+yy (r.map<|AH.lean k) j) / 2) J;rw[hc,hc,hc,hc,TM]at this;rw[hc,hc];exact this
def HE(r:List Pt)(A B:Pt)(k:Int):Bool:=(!(decide (A=AA r k)||decide (A=AA r (k+1))))&&(!(decide (B=AA r k)||decide (B=AA r (k+1))))
def Iq(r:List Pt)(A B:Pt):Bool:=(List.range r.length).any λk=>HE r A B k&&A0 A B (AA r k) (AA r<|(k:Int)+1)
section
variable{r:List Pt}(S:Ap r)
include S
theorem cP{i j k:Int}:HE r (AA r i) (AA r j) k=true↔((i-k)%(r.length)≠0/\(i-k)%(r.length)≠1)/\((j-k)%(r.length)≠0/\(j-k)%(r.length)≠1):=by
 have h3:=S.l3;have one:∀i:Int,(AA r i=AA r k\/AA r i=AA r (k+1))↔((i-k)%(r.length)=0\/(i-k)%(r.length)=1):=λi=>by
  constructor
  .rintro(h|h)
   .exact .inl<|S.inj h
   .right;have:=S.inj h;rw[show i-k=(i-(k+1))+1 by lia,AFc,this,ADq (a:=1) C1<|DB h3,AE0,ADq C1<|DB h3]
  .rintro(h|h)
   .exact .inl<|Ao h
   .exact .inr (S.next h).1
 have y:=one i;have q:=one j;unfold HE;simp only[ADx,AEQ,AEe,AF8];constructor
 .rintro⟨⟨a,b⟩,c,d⟩;exact⟨⟨λz=>(y.mpr<|.inl z).elim a b,λz=>(y.mpr<|.inr z).elim a b⟩,λz=>(q.mpr<|.inl z).elim c d,λz=>(q.mpr<|.inr z).elim c d⟩
 .rintro⟨⟨a,b⟩,c,d⟩;exact⟨⟨λz=>(y.mp<|.inl z).elim a b,λz=>(y.mp<|.inr z).elim a b⟩,λz=>(q.mp<|.inl z).elim c d,λz=>(q.mp<|.inr z).elim c d⟩
theorem jL(DF:∀k:Int,AE (AA r k) (AA r<|k+1) (AA r<|k+1+1)≠0){i j:Int}(u:Bv r.length<|i-j):Iq r (AA r i) (AA r j)=false↔Probe r i j:=by
 have h3:=S.l3;have hn:(0:Int)<r.length:=HY h3;unfold Iq;rw[AFF];constructor
 .intro h;refine jK S DF u λk a b c d hs=>?_;have k1:=AEL k hn;have hc:=AEJ<|AEZ k (b:=(r.length))<|Jr h3;have y:=h (k%(r.length)).toNat<|AD2.mpr J;rw[hc]at y;apply y;have q:=Fl r k;have v:AA r (k%(r.length)+1)=AA r (k+1):=by rw[<-Fl r<|k%(r.length)+1,<-Fl r<|k+1,AFc,AEf _<|AFT _,<-AFc]
  rw[ADx,q,v];refine⟨?_,Wj hs⟩;have:=(cP S).mpr ⟨⟨a,b⟩,c,d⟩;unfold HE at this ⊢;rw[q,v];exact this
 .intro p k y;rw[ADx];rintro⟨Z,Y⟩;obtain⟨⟨a,b⟩,c,d⟩:=(cP S).mp Z;exact p.nt k a b c d<|Xh Y
end
theorem v3{r:List Pt}(R:Rm r){i j:Int}(hi:0<=i)(q:i<r.length)(v:0<=j)(u:j<r.length)(y:Bv r.length<|i-j) : (!Iq r (AA r i) (AA r j)&&Kn (r.map dbl) ((AA r i).1+(AA r j).1,(AA r i).2+(AA r j).2))=(!Ku r i j&&NR (AA r<|i-1) (AA r i) (AA r<|i+1) (AA r j)):=by
 have S:=R.simple;have h3:=S.l3;have hn:0<r.length:=CI h3;by_cases p:Probe r i j
 .rw[(jL S R.DF y).mpr p,(RE S R.DF hi q v u y).mpr p,AIK,AE5,AE5];have off:∀k:Int,¬ At (AA (r.map dbl) k) (AA (r.map dbl)<|k+1) ((AA r i).1+(AA r j).1,(AA r i).2+(AA r j).2):=λk=>by rw[GK hn,GK hn];exact p.g6 S k
  have e:Kn (r.map dbl) ((AA r i).1+(AA r j).1,(AA r i).2+(AA r j).2)=true↔W (r.map dbl) ((AA r i).1+(AA r j).1,(AA r i).2+(AA r j).2)≠0:=by
   unfold Kn;rw[ADx,AFf,(S.dbl.xG off)];constructor
   .exact λh=>h.2
   .refine λh=>⟨?_,h⟩;rw[AEQ,AFF];intro k _ Z;exact off k<|Ru.mp<|F4.mp Z
  rw[AEk,e,Ua];rcases p.pC R with⟨a,b⟩|⟨a,b⟩
  .rw[a];simp[b]
  .rw[a];simp[b]
 .have a:Iq r (AA r i) (AA r j)=true:=by
   cases h:Iq r (AA r i)<|AA r j
   .exact absurd ((jL S R.DF y).mp h) p
   .rfl
  have b:Ku r i j=true:=by
   cases h:Ku r i j
   .exact absurd ((RE S R.DF hi q v u y).mp h) p
   .rfl
  rw[a,b];rfl
end AH
namespace JG
abbrev NN:=Nat×Nat
def X(e f:NN):Prop:=(e.1<f.1/\f.1<e.2/\e.2<f.2)\/(f.1<e.1/\e.1<f.2/\f.2<e.2)
noncomputable def mc(S:List NN)(i j:Nat):Nat:=S.countP λe=>decide (i<=e.1/\e.2<=j)
def jn(S:List NN)(i j:Nat):Prop:=j=i+1\/(i,j)∈S
structure Nx(S:List NN):Prop where
 nd:S.Nodup
 CZ:∀e∈S,e.1+1<e.2
 nx:∀e∈S,∀f∈S,¬ X e f
set_option tactic.hygienic false
theorem countP_le{α}(p q r:α->Bool):∀l:List α,(∀x∈l,p x=true->q x=true\/r x=true)->l.countP p<=l.countP q+l.countP r
 |[],_=>ADk
 |x::l,h=>by
  have ih:=countP_le p q r l λy v=>h y<|AD4 _ v;simp only[AFy,AFy,AFy];by_cases a:p x=true
  .rcases(h x AD6) a with b|b<;>rw[ADr a,ADr b]<;>lia
  .rw[ADs a];lia
theorem qu(S:List NN){i j:Nat}(h:i+1<j):∃c,i<c/\c<j/\jn S i c/\∀d,c<d->d<j->(i,d)∉S:=by
 suffices ∀k,i+1+k<j->(∀d,i+1+k<d->d<j->(i,d)∉S)->∃c,i<c/\c<j/\jn S i c/\∀d,c<d->d<j->(i,d)∉S from
  this (j-i-2) J λd a b=>J
 intro k
 induction k with
 |zero=>exact λa b=>⟨i+1,Ha,a,.inl rfl,b⟩
 |succ k ih=>
  intro a b;by_cases m:(i,i+1+(k+1))∈S
  .exact⟨_,J,a,.inr m,b⟩
  .refine ih J λd p q=>?_;by_cases e:d=i+1+(k+1)
   .rwa [e]
   .exact b d J q
theorem Nx.split{S:List NN}(N:Nx S){i j:Nat}(h:i+1<j):∃c,i<c/\c<j/\jn S i c/\∀e∈S,i<=e.1->e.2<=j->e=(i,j)\/e.2<=c\/c<=e.1:=by
 obtain⟨c,u,Z,y,Y⟩:=qu S h;refine⟨c,u,Z,y,λe he a b=>?_⟩;have v:e.1=i->c<e.2->e.2<j->False:=λp q r=>Y e.2 q r (by rw[<-p];exact he);rcases y with y|y
 .by_cases p:e.1=i
  .by_cases q:e.2=j
   .exact .inl<|AEt p q
   .right;left;have:=v p;lia
  .lia
 .have:=N.nx _ y e he;unfold X at this;by_cases p:e.1=i
  .by_cases q:e.2=j
   .exact .inl<|AEt p q
   .right;left;have:=v p;lia
  .dsimp only at this;lia
theorem ZK{S:List NN}(nd:S.Nodup)(e:NN):S.countP (λf=>decide (f=e))<=1:=by have:=List.nodup_iff_count.mp nd e;refine AEF (AGO ?_) this;exact List.countP_congr λx _=>ADk
theorem Nx.cut{S:List NN}(N:Nx S){i j c:Nat}(hc:∀e∈S,i<=e.1->e.2<=j->e=(i,j)\/e.2<=c\/c<=e.1):mc S i j<=S.countP (λf=>decide (f=(i,j)))+(mc S i c+mc S c j):=by
 have a:=countP_le (λe=>decide (i<=e.1/\e.2<=j)) (λf=>decide (f=(i,j))) (λe=>decide (i<=e.1/\e.2<=c)||decide (c<=e.1/\e.2<=j)) S λe he h=>by
  simp only[ADu,AEV]at h ⊢;rcases hc e he h.1 h.2 with z|z|z
  .exact .inl z
  .exact .inr<|.inl ⟨h.1,z⟩
  .exact .inr<|.inr ⟨z,h.2⟩
 have b:=countP_le (λe:NN=>decide (i<=e.1/\e.2<=c)||decide (c<=e.1/\e.2<=j)) (λe=>decide (i<=e.1/\e.2<=c)) (λe=>decide (c<=e.1/\e.2<=j)) S λe _ h=>by simpa using h
 unfold mc;lia
theorem Nx.le{S:List NN}(N:Nx S):∀(k i j:Nat),j-i<=k->i<j->mc S i j<=j-i-1
 |0,i,j,h,h'=>J
 |k+1,i,j,h,h'=>by
  by_cases g:i+1<j
  .obtain⟨c,y,q,_,v⟩:=N.split g;have:=N.cut v;have:=ZK N.nd (i,j);have:=N.le k i c J y;have:=N.le k c j J q;lia
  .have:mc S i j=0:=AF9.mpr λe he z=>by have:=N.CZ e he;simp only[ADu]at z;lia
   lia
def full(S:List NN)(i j:Nat):Prop:=mc S i j=j-i-1
theorem Nx.c7{S:List NN}(N:Nx S){i j:Nat}(h:i<j)(f:full S i j):jn S i j:=by
 by_cases g:i+1<j
 .right;by_cases m:(i,j)∈S
  .exact m
  .obtain⟨c,y,q,_,v⟩:=N.split g;have a:=N.cut v;have b:=N.le (c-i) i c J y;have d:=N.le (j-c) c j J q;have:S.countP (λf=>decide (f=(i,j)))=0:=AF9.mpr λe he z=>m (by simp only[ADu]at z;rwa [<-z]);unfold full at f
   grind
 .exact .inl J
theorem Nx.Lb{S:List NN}(N:Nx S){i j:Nat}(g:i+1<j)(f:j-i-1<=mc S i j+1/\(i,j)∉S\/full S i j):∃c,i<c/\c<j/\full S i c/\full S c j/\∀e∈S,i<=e.1->e.2<=j->e=(i,j)\/e.2<=c\/c<=e.1:=by
 obtain⟨c,y,q,_,v⟩:=N.split g;have a:=N.cut v;have b:=N.le (c-i) i c J y;have d:=N.le (j-c) c j J q;have o:=ZK N.nd (i,j);refine⟨c,y,q,?_,?_,v⟩<;>unfold full at *
 all_goals
  rcases f with⟨f,m⟩|f
  .have:S.countP (λf=>decide (f=(i,j)))=0:=AF9.mpr λe he z=>m (by simp only[ADu]at z;rwa [<-z]);clear g;grind
  .clear g;grind
structure Ct(n:Nat)(S:List NN):Prop extends Nx S where
 lt:∀e∈S,e.2<n
 rt:(0,n-1)∉S
 ln:S.length+3=n
end JG
namespace BB
noncomputable def Dy(n:Nat)(f:Nat->Int):Int:=((List.range n).map f).sum
theorem kO(f:Nat->Int):Dy 0 f=0:=rfl
theorem O7(n:Nat)(f:Nat->Int):Dy (n+1) f=Dy n f+f n:=by unfold Dy;rw[AFN,AEl,List.sum_append];simp
theorem Sk{n:Nat}{f g:Nat->Int}(h:∀t,t<n->f t=g t):Dy n f=Dy n g:=by
 induction n with
 |zero=>rfl
 |succ n ih=>rw[O7,O7,ih λt ht=>h t ADj,h n ADj]
theorem ABf{n:Nat}{f:Nat->Int}{B:Int}(h:∀t,t<n->0<=f t/\f t<=B):0<=Dy n f/\Dy n f<=n*B:=by
 induction n with
 |zero=>simp[kO]
 |succ n ih=>
  have h1:=ih λt ht=>h t ADj;have h2:=h n ADj;rw[O7];have e:((n+1:Nat):Int)*B=n*B+B:=by rw[Int.natCast_add,Int.add_mul];simp
  rw[e];omega
def G9(ADh:Nat->Nat->Bool):Nat->Nat->Nat->Int
 |0,_,_=>0
 |f+1,i,j=>if j=i+1 then 1 else Dy (j-(i+1)) λt=>if(ADh i (i+1+t)&&ADh (i+1+t) j)=true then G9 ADh f i (i+1+t)*G9 ADh f (i+1+t) j else 0
theorem QA{ADh:Nat->Nat->Bool}:∀{f g i j:Nat},i<j->j-i<=f->j-i<=g->G9 ADh f i j=G9 ADh g i j
 |0,_,i,j,h,hf,_=>ADj
 |_+1,0,i,j,h,_,hg=>ADj
 |f+1,g+1,i,j,h,hf,hg=>by
  unfold G9;by_cases e:j=i+1
  .rw[ADr e,ADr e]
  .rw[ADs e,ADs e];refine Sk λt ht=>?_;rw[QA (f:=f) (g:=g) (i:=i) (j:=i+1+t) ADj ADj ADj,QA (f:=f) (g:=g) (i:=i+1+t) (j:=j) ADj ADj ADj]
def cnt(ADh:Nat->Nat->Bool)(i j:Nat):Int:=G9 ADh (j-i) i j
theorem UW{ADh:Nat->Nat->Bool}(i:Nat):cnt ADh i (i+1)=1:=by unfold cnt;rw[show i+1-i=0+1 by omega];unfold G9;rw[ADr rfl]
theorem UY{ADh:Nat->Nat->Bool}{i j:Nat}(h:i+1<j):cnt ADh i j=Dy (j-(i+1)) λt=>if(ADh i (i+1+t)&&ADh (i+1+t) j)=true then cnt ADh i (i+1+t)*cnt ADh (i+1+t) j else 0:=by
 unfold cnt;rw[show j-i=(j-i-1)+1 by omega]
 conv=>lhs;unfold G9
 rw[ADs ADj];refine Sk λt ht=>?_;rw[QA (f:=j-i-1) (g:=i+1+t-i) ADj ADj ADj,QA (f:=j-i-1) (g:=j-(i+1+t)) ADj ADj ADj]
theorem ot{ADh:Nat->Nat->Bool}:∀(d i j:Nat),j-i=d->i<j->j-i<=12->0<=cnt ADh i j/\cnt ADh i j<=12 ^ (j-i-1):=by
 intro d
 induction d using Nat.strongRecOn with
 |_ d ih=>
  intro i j hd h Ca;by_cases e:j=i+1
  .subst e;rw[UW];simp
  .rw[UY ADj];have hb:∀t,t<j-(i+1)->0<=(if(ADh i (i+1+t)&&ADh (i+1+t) j)=true then cnt ADh i (i+1+t)*cnt ADh (i+1+t) j else 0)/\(if(ADh i (i+1+t)&&ADh (i+1+t) j)=true then cnt ADh i (i+1+t)*cnt ADh (i+1+t) j else 0)<=(12:Int) ^ (j-i-2):=λt ht=>by
    have a:=ih (i+1+t-i) ADj i (i+1+t) rfl ADj ADj;have b:=ih (j-(i+1+t)) ADj (i+1+t) j rfl ADj ADj;split
    .refine⟨ADz a.1 b.1,?_⟩;have:=Int.mul_le_mul a.2 b.2 b.1<|AIL ADl;rw[<-Int.pow_add]at this;rw[show i+1+t-i-1+(j-(i+1+t)-1)=j-i-2 by omega]at this;exact this
    .exact⟨AEm _,AIL ADl⟩
   have q:=ABf hb;refine⟨q.1,AGR q.2 ?_⟩;rw[show j-i-1=(j-i-2)+1 by omega,Int.pow_succ,AGP];exact AD8 ADj<|AIL ADl
theorem QB{ADh:Nat->Nat->Bool}{i j:Nat}(h:i<j)(y:j-i<=12):0<=cnt ADh i j/\cnt ADh i j<=1000000000000:=by
 obtain⟨a,b⟩:=ot (ADh:=ADh) _ i j rfl h y;refine⟨a,AGR b ?_⟩;have:j-i-1<=11:=ADj
 generalize j-i-1=m at this;have hm:m=0\/m=1\/m=2\/m=3\/m=4\/m=5\/m=6\/m=7\/m=8\/m=9\/m=10\/m=11:=ADj
 rcases hm with rfl|rfl|rfl|rfl|rfl|rfl|rfl|rfl|rfl|rfl|rfl|rfl<;>decide
def CD(ADh:Nat->Nat->Bool)(i j:Nat):Int:=if ADh i j=true then cnt ADh i j else 0
theorem ACc{ADh:Nat->Nat->Bool}{i j:Nat}(h:i+1<j):(Dy (j-(i+1)) λt=>CD ADh i (i+1+t)*CD ADh (i+1+t) j)=cnt ADh i j:=by rw[UY h];refine Sk λt ht=>?_;unfold CD;cases ADh i (i+1+t)<;>cases ADh (i+1+t) j<;>simp
theorem ACb{ADh:Nat->Nat->Bool}{i j:Nat}(h:i<j)(y:j-i<=12):0<=CD ADh i j/\CD ADh i j<=1000000000000:=by
 unfold CD;split
 .exact QB h y
 .decide
open JG (NN X Nx mc jn full)
noncomputable def comb(i k j:Nat)(A B:NN->Bool):NN->Bool:=λe=>A e||B e||(decide (i+1<k)&&decide (e=(i,k)))||(decide (k+1<j)&&decide (e=(k,j)))
def CG(ADh:Nat->Nat->Bool):Nat->Nat->Nat->List (NN->Bool)
 |0,_,_=>[]
 |f+1,i,j=>if j=i+1 then[λ_=>false]else(List.range<|j-(i+1)).flatMap λt=>if(ADh i (i+1+t)&&ADh (i+1+t) j)=true then(CG ADh f i<|i+1+t).flatMap λA=>(CG ADh f (i+1+t) j).map λB=>comb i (i+1+t) j A B else[]
theorem kT(g:Nat->Nat):∀l:List Nat,(((l.map g).sum:Nat):Int)=(l.map λt=>(g t:Int)).sum
 |[]=>rfl
 |t::l=>by rw[AD0,AD0,List.sum_cons,List.sum_cons,Int.natCast_add,kT g l]
theorem U6{ADh:Nat->Nat->Bool}:∀f i j,((CG ADh f i j).length:Int)=G9 ADh f i j
 |0,_,_=>rfl
 |f+1,i,j=>by
  unfold CG G9;by_cases e:j=i+1
  .rw[ADr e,ADr e]
   rfl
  .rw[ADs e,ADs e,AIT,kT];refine Sk λt _=>?_;by_cases c:(ADh i (i+1+t)&&ADh (i+1+t) j)=true
   .rw[ADr c,ADr c,AIT];simp only[ADo,List.map_const',List.sum_replicate_nat];rw[Int.natCast_mul,U6 f,U6 f]
   .rw[ADs c,ADs c]
    rfl
section
variable{ADh:Nat->Nat->Bool}
theorem Wk{f i j:Nat}{g:NN->Bool}(h:g∈CG ADh (f+1) i j):(j=i+1/\g=λ_=>false)\/(j≠i+1/\∃k,i<k/\k<j/\ADh i k=true/\ADh k j=true/\∃A∈CG ADh f i k,∃B∈CG ADh f k j,g=comb i k j A B):=by
 unfold CG at h;by_cases e:j=i+1
 .rw[ADr e,ADv]at h;exact .inl ⟨e,h⟩
 .rw[ADs e,AFz]at h;obtain⟨t,y,h⟩:=h;have y:=AD2.mp y;by_cases c:(ADh i (i+1+t)&&ADh (i+1+t) j)=true
  .rw[ADr c,AFz]at h;obtain⟨A,q,h⟩:=h;obtain⟨B,v,rfl⟩:=AEC.mp h;rw[ADx]at c;exact .inr ⟨e,i+1+t,J,J,c.1,c.2,A,q,B,v,rfl⟩
  .rw[ADs c]at h;cases h
theorem qW{f i j k:Nat}(e:j≠i+1)(h1:i<k)(h2:k<j)(y:ADh i k=true)(q:ADh k j=true){A B:NN->Bool}(v:A∈CG ADh f i k)(u:B∈CG ADh f k j):comb i k j A B∈CG ADh (f+1) i j:=by unfold CG;rw[ADs e,AFz];refine⟨k-(i+1),AD2.mpr J,?_⟩;rw[show i+1+(k-(i+1))=k by lia,ADr (by rw[y,q];rfl),AFz];exact⟨A,v,AEC.mpr ⟨B,u,rfl⟩⟩
theorem IB{i k j:Nat}{A B:NN->Bool}{e:NN}:comb i k j A B e=true↔A e=true\/B e=true\/(i+1<k/\e=(i,k))\/(k+1<j/\e=(k,j)):=by unfold comb;simp only[AEV,ADx,ADu,or_assoc]
theorem FI:∀{f i j:Nat}{g:NN->Bool},g∈CG ADh f i j->∀e,g e=true->i<=e.1/\e.1+1<e.2/\e.2<=j/\e≠(i,j)/\ADh e.1 e.2=true
 |0,_,_,_,h,_,_=>by cases h
 |f+1,i,j,g,h,e,q=>by
  rcases Wk h with⟨_,rfl⟩|⟨_,k,h1,h2,y,v,A,u,B,Z,rfl⟩
  .cases q
  .rcases IB.mp q with q|q|⟨d,rfl⟩|⟨d,rfl⟩
   .obtain⟨a,b,c,d,z⟩:=FI u e q;exact⟨a,b,J,λw=>by subst w;dsimp only at c;lia,z⟩
   .obtain⟨a,b,c,d,z⟩:=FI Z e q;exact⟨J,b,c,λw=>by subst w;dsimp only at a;lia,z⟩
   .exact⟨ADt _,d,by dsimp only;lia,λw=>by cases w;lia,y⟩
   .exact⟨by dsimp only;lia,d,ADt _,λw=>by cases w;lia,v⟩
theorem U8:∀{f i j:Nat}{g:NN->Bool},g∈CG ADh f i j->∀e d,g e=true->g d=true->¬ X e d
 |0,_,_,_,h,_,_,_,_=>by cases h
 |f+1,i,j,g,h,e,d,q,w=>by
  rcases Wk h with⟨_,rfl⟩|⟨_,k,h1,h2,c1,c2,A,u,B,Z,rfl⟩
  .cases q
  .have s:∀{x},comb i k j A B x=true->A x=true\/B x=true\/x=(i,k)\/x=(k,j):=λ{x} z=>by
    rcases IB.mp z with z|z|z|z
    .exact .inl z
    .exact .inr<|.inl z
    .exact .inr<|.inr<|.inl z.2
    .exact .inr<|.inr<|.inr z.2
   have y:∀{x},A x=true->i<=x.1/\x.1+1<x.2/\x.2<=k:=λz=>by have:=FI u _ z;exact⟨this.1,this.2.1,this.2.2.1⟩
   have v:∀{x},B x=true->k<=x.1/\x.1+1<x.2/\x.2<=j:=λz=>by have:=FI Z _ z;exact⟨this.1,this.2.1,this.2.2.1⟩
   unfold X;rcases s q with q|q|rfl|rfl<;>rcases s w with w|w|rfl|rfl
   .exact U8 u e d q w
   .have:=y q;have:=v w;lia
   .have:=y q;dsimp only;lia
   .have:=y q;dsimp only;lia
   .have:=v q;have:=y w;lia
   .exact U8 Z e d q w
   .have:=v q;dsimp only;lia
   .have:=v q;dsimp only;lia
   .have:=y w;dsimp only;lia
   .have:=v w;dsimp only;lia
   .dsimp only;lia
   .dsimp only;lia
   .have:=y w;dsimp only;lia
   .have:=v w;dsimp only;lia
   .dsimp only;lia
   .dsimp only;lia
theorem U7:∀(f i j:Nat),(CG ADh f i j).Nodup
 |0,_,_=>.nil
 |f+1,i,j=>by
  unfold CG;by_cases e:j=i+1
  .rw[ADr e];exact AEw _ _
  rw[ADs e];unfold List.Nodup;rw[AGm];constructor
  .intro t G;have G:=AD2.mp G;by_cases c:(ADh i (i+1+t)&&ADh (i+1+t) j)=true
   .rw[ADr c,AGm];generalize hk:i+1+t=k;have k1:i<k:=J
    have k2:k<j:=J
    have S:∀{A Z B v},A∈CG ADh f i k->Z∈CG ADh f i k->B∈CG ADh f k j->v∈CG ADh f k j->comb i k j A B=comb i k j Z v->A=Z/\B=v:=λ{A Z B v} Y F Q O z=>by
     have R:∀{A Z B v},A∈CG ADh f i k->Z∈CG ADh f i k->B∈CG ADh f k j->v∈CG ADh f k j->comb i k j A B=comb i k j Z v->∀x,(A x=true->Z x=true)/\(B x=true->v x=true):=λ{A Z B v} Y F Q O z x=>by
      have w:=congrFun z x;refine⟨λq=>?_,λq=>?_⟩
      .have a:=FI Y x q;rcases IB.mp (w ▸ IB.mpr (.inl q))with y|y|y|y
       .exact y
       .have:=FI O x y;lia
       .exact absurd y.2 a.2.2.2.1
       .have:=a.1;have:=a.2.2.1;rw[y.2]at a;dsimp only at a;lia
      .have a:=FI Q x q;rcases IB.mp (w ▸ IB.mpr (.inr<|.inl q))with y|y|y|y
       .have:=FI F x y;lia
       .exact y
       .rw[y.2]at a;dsimp only at a;lia
       .exact absurd y.2 a.2.2.2.1
     have p:=R Y F Q O z;have r:=R F Y O Q z.symm;exact⟨funext λx=>AEk.mpr ⟨(p x).1,(r x).1⟩,funext λx=>AEk.mpr ⟨(p x).2,(r x).2⟩⟩
    constructor
    .intro A Y;rw[AEa];exact(U7 f k j).imp_of_mem λ{B v} Q O d z=>d (S Y Y Q O z).2
    .exact(U7 f i k).imp_of_mem λ{A Z} Y F d x P y D z=>by obtain⟨B,Q,rfl⟩:=AEC.mp P;obtain⟨v,O,rfl⟩:=AEC.mp D;exact d (S Y F Q O z).1
   .rw[ADs c];exact .nil
  .refine AER.mpr λt u G T V3 x P y D z=>?_;rw[AF4]at G T;rw[AGY]at P D;subst z;split at P
   .split at D
    .obtain⟨A,Y,P⟩:=AFz.mp P;obtain⟨B,Q,rfl⟩:=AEC.mp P;obtain⟨Z,F,D⟩:=AFz.mp D;obtain⟨v,O,z⟩:=AEC.mp D;have w:=congrFun z (i,i+1+u);rcases IB.mp (w ▸ IB.mpr (.inr<|.inr<|.inl ⟨J,rfl⟩))with q|q|q|q
     .have:=FI Y _ q;dsimp only at this;lia
     .have:=FI Q _ q;dsimp only at this;lia
     .have:=(AIq q.2).2;lia
     .have:=(AIq q.2).1;lia
    .cases D
   .cases P
end
noncomputable def Gy(n:Nat):List NN:=(List.range n).flatMap λx=>(List.range n).map λy=>(x,y)
def Bg(e f:NN):Prop:=e.1<f.1\/(e.1=f.1/\e.2<f.2)
theorem Rc{n:Nat}{e:NN}:e∈Gy n↔e.1<n/\e.2<n:=by
 unfold Gy;rw[AFz];constructor
 .rintro⟨x,q,h⟩;obtain⟨y,v,rfl⟩:=AEC.mp h;exact⟨AD2.mp q,AD2.mp v⟩
 .rintro⟨a,b⟩;exact⟨e.1,AD2.mpr a,AEC.mpr ⟨e.2,AD2.mpr b,rfl⟩⟩
theorem T9(n:Nat):(Gy n).Pairwise Bg:=by
 unfold Gy;rw[AGm];constructor
 .intro x _;rw[AEa];exact AGe.imp λh=>.inr ⟨rfl,h⟩
 .exact AGe.imp λ{x y} h a ha b hb=>by obtain⟨u,_,rfl⟩:=AEC.mp ha;obtain⟨v,_,rfl⟩:=AEC.mp hb;exact .inl h
theorem Mm{S:List NN}(h:S.Pairwise Bg):S.Nodup:=h.imp λ{a b} h e=>by subst e;unfold Bg at h;lia
theorem up_eq{S T:List NN}(h:S.Pairwise Bg)(k:T.Pairwise Bg)(m:∀e,e∈S↔e∈T):S=T:=
 AG7 (λa b _ _ u v=>by unfold Bg at u v;exact AEt J J) h k ((AFa (Mm h)<|Mm k).mpr m)
theorem QC{α:Type}{p q:α->Bool}:∀{l:List α},(∀x∈l,p x=true->q x=true->False)->l.countP (λx=>p x||q x)=l.countP p+l.countP q
 |[],_=>rfl
 |x::l,h=>by
  rw[AFy,AFy,AFy,QC λy v=>h y<|AD4 _ v];have:=h x AD6;cases a:p x<;>cases b:q x
  .simp
  .simp;lia
  .simp;lia
  .exact(this a b).elim
theorem ZE{n:Nat}{b:Bool}{e0:NN}(m:e0∈Gy n):(Gy n).countP (λe=>b&&decide (e=e0))=if b=true then 1 else 0:=by
 cases b
 .rw[ADs ADk];exact AF9.mpr λ_ _=>ADk
 .rw[ADr rfl,AHV];exact((AFa ((Mm<|T9 n).filter _)<|AEw _ e0).mpr λe=>by rw[AEY,ADv];simp only[AE5,ADu];exact⟨λz=>z.2,λz=>⟨z ▸ m,z⟩⟩).length_eq
section
variable{ADh:Nat->Nat->Bool}
theorem U5{n:Nat}:∀{f i j:Nat}{g:NN->Bool},g∈CG ADh f i j->i<j->j<n->(Gy n).countP g=j-i-2
 |0,_,_,_,h,_,_=>by cases h
 |f+1,i,j,g,h,ij,jn=>by
  rcases Wk h with⟨e,rfl⟩|⟨e,k,Y,Q,c1,c2,A,u,B,Z,rfl⟩
  .rw[AF9.mpr λ_ _=>ADk];lia
  .have a:=U5 (n:=n) u Y J;have b:=U5 (n:=n) Z Q jn;have y:=λx q=>FI u x q;have v:=λx q=>FI Z x q;have s1:=ZE (n:=n) (b:=decide (i+1<k)) (e0:=(i,k)) (Rc.mpr ⟨by dsimp only;lia,by dsimp only;lia⟩);have s2:=ZE (n:=n) (b:=decide (k+1<j)) (e0:=(k,j)) (Rc.mpr ⟨by dsimp only;lia,by dsimp only;lia⟩);unfold comb;rw[QC (p:=λe=>A e||B e||(decide (i+1<k)&&decide (e=(i,k)))) λx _ p q=>?_,QC (p:=λe=>A e||B e) λx _ p q=>?_,QC λx _ p q=>?_,a,b,s1,s2]
   .simp only[ADu];split<;>split<;>lia
   .have:=y x p;have:=v x q;lia
   .simp only[AEV,ADx,ADu]at p q;rcases p with p|p
    .exact(y x p).2.2.2.1 q.2
    .have:=v x p;rw[q.2]at this;dsimp only at this;lia
   .simp only[AEV,ADx,ADu]at p q;rcases p with(p|p)|p
    .have:=y x p;rw[q.2]at this;dsimp only at this;lia
    .exact(v x p).2.2.2.1 q.2
    .have:=(AIq<|p.2.symm.trans q.2).1;lia
noncomputable def MX(S:List NN)(i j:Nat):NN->Bool:=λe=>decide (e∈S/\i<=e.1/\e.2<=j/\e≠(i,j))
theorem XW{S:List NN}(N:Nx S)(q:∀e∈S,ADh e.1 e.2=true)(v:∀x,ADh x (x+1)=true):∀(f i j:Nat),i<j->j-i<=f->(j-i-1<=mc S i j+1/\(i,j)∉S\/full S i j)->MX S i j∈CG ADh f i j
 |0,i,j,a,b,_=>J
 |f+1,i,j,ij,hf,h=>by
  by_cases e:j=i+1
  .unfold CG;rw[ADr e,ADv];refine funext λx=>AFK λz=>?_;have:=N.CZ x z.1;lia
  .obtain⟨c,u,Z,f1,f2,sp⟩:=N.Lb J h;have Y:∀{x y},jn S x y->ADh x y=true:=λz=>by
    rcases z with rfl|z
    .exact v _
    .exact q _ z
   have Q:=N.c7 u f1;have O:=N.c7 Z f2;have:=qW e u Z (Y Q) (Y O) (XW N q v f i c u J<|.inr f1)<|XW N q v f c j Z J<|.inr f2;refine(show MX S i j=comb i c j (MX S i c) (MX S c j)from funext λx=>AEk.mpr ?_) ▸ this;rw[IB];unfold MX;simp only[ADu];constructor
   .rintro⟨m,a,b,d⟩;rcases sp x m a b with z|z|z
    .exact absurd z d
    .by_cases w:x=(i,c)
     .subst w;have:=N.CZ _ m;exact .inr<|.inr<|.inl ⟨this,rfl⟩
     .exact .inl ⟨m,a,z,w⟩
    .by_cases w:x=(c,j)
     .subst w;have:=N.CZ _ m;exact .inr<|.inr<|.inr ⟨this,rfl⟩
     .exact .inr<|.inl ⟨m,z,b,w⟩
   .rintro(⟨m,a,b,d⟩|⟨m,a,b,d⟩|⟨a,rfl⟩|⟨a,rfl⟩)
    .exact⟨m,a,J,λw=>by subst w;dsimp only at b;lia⟩
    .exact⟨m,J,b,λw=>by subst w;dsimp only at a;lia⟩
    .exact⟨Q.resolve_left J,ADt _,by dsimp only;lia,λw=>by cases w;lia⟩
    .exact⟨O.resolve_left J,by dsimp only;lia,ADt _,λw=>by cases w;lia⟩
structure Cu(ADh:Nat->Nat->Bool)(n:Nat)(S:List NN):Prop where
 up:S.Pairwise Bg
 ln:S.length+3=n
 li:∀e∈S,e.1+1<e.2/\e.2<n/\e≠(0,n-1)/\ADh e.1 e.2=true
 nx:∀e∈S,∀f∈S,¬ X e f
theorem pM{n:Nat}(h3:3<=n)(Z:∀x,ADh x (x+1)=true){P:List (List NN)}(nd:P.Nodup)(y:∀S,S∈P↔Cu ADh n S):(P.length:Int)=cnt ADh 0 (n-1):=by
 have pm:(P.map λS e=>decide (e∈S)).Perm<|CG ADh (n-1) 0<|n-1:=by
  refine(AFa ?_ (U7 _ _ _)).mpr λg=>?_
  .unfold List.Nodup;rw[AEa];exact nd.imp_of_mem λ{S T} v Y d z=>d (up_eq ((y S).mp v).up ((y T).mp Y).up λe=>by have:=congrFun z e;exact AFQ.mp this)
  .rw[AEC];constructor
   .rintro⟨S,v,rfl⟩;have C:=(y S).mp v;have N:Nx S:=⟨Mm C.up,λe he=>(C.li e he).1,C.nx⟩;have m:mc S 0 (n-1)=S.length:=List.countP_eq_length.mpr λe he=>by have:=C.li e he;simp only[ADu];lia
    have r:=XW N (λe he=>(C.li e he).2.2.2) Z (n-1) 0 (n-1) J J (.inl ⟨by have:=C.ln;lia,λz=>(C.li _ z).2.2.1 rfl⟩);refine(show MX S 0 (n-1)=(λe=>decide (e∈S))from funext λe=>AFQ.mpr ⟨λz=>z.1,λz=>?_⟩) ▸ r;have:=C.li e z;exact⟨z,AEu _,J,this.2.2.1⟩
   .intro u;have sp:=FI u;have q:∀e,e∈(Gy n).filter g↔g e=true:=λe=>by rw[AEY,Rc];refine⟨λz=>z.2,λz=>⟨?_,z⟩⟩;have:=sp e z;lia
    refine⟨(Gy n).filter g,(y _).mpr ⟨(T9 n).filter _,?_,λe he=>?_,λe he d hd=>U8 u e d ((q e).mp he)<|(q d).mp hd⟩,funext λe=>AEk.mpr ?_⟩
    .rw[<-AHV,U5 u J J];lia
    .have:=sp e<|(q e).mp he;exact⟨this.2.1,J,this.2.2.2.1,this.2.2.2.2⟩
    .rw[ADu];exact q e
 have:=pm.length_eq;rw[ADo]at this;rw[this,U6]
 rfl
end
open JG (NN X)
noncomputable def xN(e f:NN):Bool:=decide ((e.1<f.1/\f.1<e.2/\e.2<f.2)\/(f.1<e.1/\e.1<f.2/\f.2<e.2))
theorem TB{e f:NN}:xN e f=true↔X e f:=decide_eq_true_iff
theorem lu(e f:NN):xN e f=xN f e:=by unfold xN;rw[AFQ];exact Or.comm
noncomputable def ltN(e f:NN):Bool:=decide (e.1<f.1\/(e.1=f.1/\e.2<f.2))
theorem wR{e f:NN}:ltN e f=true↔Bg e f:=decide_eq_true_iff
structure Ni(L S:List NN):Prop where
 up:S.Pairwise Bg
 mem:∀e∈S,e∈L
 nx:S.Pairwise λe f=>¬ X e f
theorem Ni.nil(L:List NN):Ni L []:=⟨.nil,λ_ h=>(nomatch h),.nil⟩
theorem Ni.snoc{L S:List NN}{l:NN}:Ni L (S ++ [l])↔Ni L S/\l∈L/\(∀e∈S,Bg e l)/\∀e∈S,¬ X e l:=by
 constructor
 .intro h;obtain⟨a,_,b⟩:=AEE.mp h.up;obtain⟨c,_,d⟩:=AEE.mp h.nx;exact⟨⟨a,λe m=>h.mem e<|AEp _ m,c⟩,h.mem l ADk,λe m=>b e m l ADk,λe m=>d e m l ADk⟩
 .rintro⟨h,m,a,b⟩;refine⟨AEE.mpr ⟨h.up,AEw _ _,λe k f g=>?_⟩,λe k=>?_,AEE.mpr ⟨h.nx,AEw _ _,λe k f g=>?_⟩⟩
  .rw[ADv.mp g];exact a e k
  .rcases AD7.mp k with k|k
   .exact h.mem e k
   .rw[ADv.mp k];exact m
  .rw[ADv.mp g];exact b e k
def FU(S:List NN)(l:NN):Bool:=match S.getLast? with|none=>true|some e=>ltN e l
theorem fj{S:List NN}(h:S.Pairwise Bg){l:NN}:FU S l=true↔∀e∈S,Bg e l:=by
 unfold FU;rcases AFj S with rfl|⟨T,x,rfl⟩
 .exact⟨λ_ _ m=>(nomatch m),λ_=>rfl⟩
 .rw[AFk]at *
  rw[AIO];dsimp only;rw[wR];refine⟨λz e m=>?_,λz=>z x ADk⟩;rcases AD7.mp m with m|m
  .have:=(AEE.mp h).2.2 e m x ADk;unfold Bg at *
   lia
  .rw[ADv.mp m];exact z
def HD(L:List NN)(P:List<|List NN):List<|List NN:=P.flatMap λS=>((L.filter λl=>FU S l).filter λl=>!S.any (xN l)).map λl=>S ++ [l]
def C9(L:List NN):Nat->List (List NN)
 |0=>[[]]
 |m+1=>HD L<|C9 L m
theorem K1{L:List NN}:∀{m:Nat}{S:List NN},S∈C9 L m↔Ni L S/\S.length=m
 |0,S=>by show S∈[[]]↔_;rw[ADv];exact⟨λe=>e ▸ ⟨Ni.nil L,rfl⟩,λh=>AFA h.2⟩
 |m+1,S=>by
  show S∈HD L (C9 L m)↔_;unfold HD;rw[AFz];constructor
  .rintro⟨T,q,h⟩;obtain⟨N,y⟩:=K1.mp q;obtain⟨l,hh,rfl⟩:=AEC.mp h;rw[AEY,AEY,fj N.up,AEQ,AFF]at hh
   replace h:=hh
   exact⟨Ni.snoc.mpr ⟨N,h.1.1,h.1.2,λe m z=>h.2 e m (by rw[lu];exact TB.mpr z)⟩,by rw[AD1,y];rfl⟩
  .rintro⟨N,y⟩;rcases AFj S with rfl|⟨T,l,rfl⟩
   .cases y
   .rw[AFk]at *
    obtain⟨N,v,a,b⟩:=Ni.snoc.mp N;refine⟨T,K1.mpr ⟨N,by simpa using y⟩,AEC.mpr ⟨l,?_,rfl⟩⟩;rw[AEY,AEY,fj N.up,AEQ,AFF];exact⟨⟨v,a⟩,λe m z=>b e m (by rw[lu]at z;exact TB.mp z)⟩
def Im:List NN->List NN->Prop
 |e::S,f::T=>Bg e f\/(e=f/\Im S T)
 |_,_=>False
theorem gf:∀{S T:List NN}(A B:List NN),Im S T->Im (S++A) (T++B)
 |[],_,_,_,h=>h.elim
 |_::_,[],_,_,h=>h.elim
 |_::_,_::_,A,B,h=>h.imp_right λz=>⟨z.1,gf A B z.2⟩
theorem gk:∀(S:List NN){a b:NN},Bg a b->Im (S ++ [a]) (S ++ [b])
 |[],_,_,h=>.inl h
 |_::S,_,_,h=>.inr ⟨rfl,gk S h⟩
theorem gh:∀S:List NN,¬ Im S S
 |[],h=>h
 |e::S,h=>by
  rcases h with h|h
  .unfold Bg at h;lia
  .exact gh S h.2
theorem Ud{L:List NN}(up:L.Pairwise Bg):∀m,(C9 L m).Pairwise Im
 |0=>AEw _ _
 |m+1=>by
  show(HD L<|C9 L m).Pairwise Im;unfold HD;rw[AGm];constructor
  .intro S _;rw[AEa];exact((up.filter _).filter _).imp λh=>gk S h
  .exact(Ud up m).imp λ{S T} h x q y v=>by obtain⟨a,_,rfl⟩:=AEC.mp q;obtain⟨b,_,rfl⟩:=AEC.mp v;exact gf _ _ h
theorem QF{L:List NN}(up:L.Pairwise Bg)(m:Nat):(C9 L m).Nodup:=(Ud up m).imp λ{S T} h e=>by subst e;exact gh _ h
def J0(w:Nat)(F:List<|List NN)(l:NN):List<|List NN:=F++(F.filter λS=>decide (S.length<w)&&!S.any (λe=>xN e l)).map λS=>S ++ [l]
def DO(w:Nat)(L:List NN):List<|List NN:=L.foldl (J0 w) [[]]
theorem T8(w:Nat)(L:List NN)(l:NN):DO w (L ++ [l])=J0 w (DO w L) l:=by
 unfold DO;rw[AF6]
 rfl
theorem J7(w:Nat):∀{k:Nat}{L:List NN},L.length=k->L.Pairwise Bg->(DO w L).Nodup/\∀S,S∈DO w L↔Ni L S/\S.length<=w
 |0,L,hk,_=>by rw[AFA hk];refine⟨AEw _ _,λS=>?_⟩;show S∈[[]]↔_;rw[ADv];exact⟨λe=>by subst e;exact⟨Ni.nil _,AEu _⟩,λh=>List.eq_nil_iff_forall_not_mem.mpr λe m=>by cases h.1.mem e m⟩
 |k+1,L,hk,up=>by
  rcases AFj L with rfl|⟨L,l,rfl⟩
  .cases hk
  rw[AFk]at *
  obtain⟨Z,_,Y⟩:=AEE.mp up;have lt:∀e∈L,Bg e l:=λe m=>Y e m l ADk;have Q:l∉L:=λm=>by have:=lt l m;unfold Bg at this;lia
  obtain⟨nd,y⟩:=J7 w (k:=k) (L:=L) (by simpa using hk) Z;rw[T8];unfold J0;constructor
  .refine AHg.mpr ⟨nd,?_,λa ha b hb e=>?_⟩
   .unfold List.Nodup;rw[AEa];exact(nd.filter _).imp λh e=>h<|List.append_cancel_right e
   .obtain⟨T,_,rfl⟩:=AEC.mp hb;subst e;exact Q<|((y _).mp ha).1.mem l ADk
  .intro S;rw[AD7,y];constructor
   .rintro(⟨N,h⟩|h)
    .exact⟨⟨N.up,λe m=>AEp _<|N.mem e m,N.nx⟩,h⟩
    .obtain⟨T,v,rfl⟩:=AEC.mp h;rw[AEY,y,ADx,ADu,AEQ,AFF]at v;obtain⟨⟨N,_⟩,u,O⟩:=v;exact⟨Ni.snoc.mpr ⟨⟨N.up,λe m=>AEp _<|N.mem e m,N.nx⟩,ADk,λe m=>lt e<|N.mem e m,λe m z=>O e m<|TB.mpr z⟩,by rw[AD1];exact u⟩
   .rintro⟨N,h⟩;by_cases c:l∈S
    .right;rcases AFj S with rfl|⟨T,x,rfl⟩
     .cases c
     rw[AFk]at *
     obtain⟨q,P,a,b⟩:=Ni.snoc.mp N;have D:x=l:=by
      rcases AD7.mp c with c|c
      .have u:=a l c;rcases AD7.mp P with z|z
       .have:=lt x z;unfold Bg at *
        lia
       .exact ADv.mp z
      .exact(ADv.mp c).symm
     subst D;refine AEC.mpr ⟨T,?_,rfl⟩;rw[AEY,y,ADx,ADu,AEQ,AFF];rw[AD1,AFS]at h;refine⟨⟨⟨q.up,λe m=>?_,q.nx⟩,J⟩,J,λe m z=>b e m<|TB.mp z⟩;rcases AD7.mp (q.mem e m)with z|z
     .exact z
     .have:=a e m;rw[ADv.mp z]at this;unfold Bg at this;lia
    .refine .inl ⟨⟨N.up,λe m=>?_,N.nx⟩,h⟩;rcases AD7.mp (N.mem e m)with z|z
     .exact z
     .exact absurd (ADv.mp z ▸ m) c
def d8:List NN:=(Gy 8).filter λe=>decide (e.1+1<e.2)&&!decide (e=(0,7))
theorem pV:(DO 5 d8).length<=1000:=ADm
theorem sub_len{α:Type}:∀{A B:List α},A.Nodup->(∀x∈A,x∈B)->A.length<=B.length
 |[],_,_,_=>AEu _
 |x::A,B,nd,h=>by
  obtain⟨q,v⟩:=AFd.mp nd;obtain⟨u,Z,rfl⟩:=List.append_of_mem<|h x AD6;have:=sub_len (A:=A) (B:=u++Z) v λy m=>by
   have:=h y<|AD4 _ m;simp only[AD7,AEN]at this ⊢;rcases this with z|rfl|z
   .exact .inl z
   .exact absurd m q
   .exact .inr z
  simp only[AD1,AD5]at this ⊢;lia
theorem Pk{w:Nat}(hw:w<=5){L:List NN}(up:L.Pairwise Bg)(y:∀e∈L,e∈d8):(DO w L).length<=1000:=by obtain⟨nd,q⟩:=J7 w (k:=L.length) rfl up;obtain⟨_,v⟩:=J7 5 (k:=d8.length) (L:=d8) rfl<|(T9 8).filter _;exact AEF (sub_len nd λS h=>(v S).mpr (by obtain⟨N,h⟩:=(q S).mp h;exact⟨⟨N.up,λe m=>y e<|N.mem e m,N.nx⟩,J⟩)) pV
theorem nM{w:Nat}{L:List NN}(up:L.Pairwise Bg):((DO w L).filter λS=>decide (S.length=w)).Perm<|C9 L w:=by obtain⟨nd,y⟩:=J7 w (k:=L.length) rfl up;refine(AFa (nd.filter _)<|QF up w).mpr λS=>?_;rw[AEY,y,K1,ADu];exact⟨λh=>⟨h.1.1,h.2⟩,λh=>⟨⟨h.1,J⟩,h.2⟩⟩
end BB
namespace L2.EV
open L2.PL
abbrev Pt:=AH.Pt
noncomputable def pv(p:Pt):PV:=.tup [.int p.1,.int p.2]
def AN(r:List Pt):List PV:=r.map pv
noncomputable abbrev cB(b:Bool):Option RV:=some<|.cl<|.bl b
noncomputable abbrev cI(x:Int):Option RV:=some<|.cl<|.int x
noncomputable abbrev iM(a:PV):Option SV:=some<|.im a
noncomputable abbrev iI(x:Int):Option SV:=some<|.im<|.int x
abbrev iL(r:List Pt):Option SV:=some<|.im<|.lst<|AN r
theorem CU(r:List Pt):(AN r).length=r.length:=ADo ..
def Bd(n:Int)(p:Pt):Prop:=-n<=p.1/\p.1<=n/\-n<=p.2/\p.2<=n
theorem GH{i j:Int}(h : -1000000<=i/\i<=1000000):E6 i j:=.inl ⟨ADj,ADj⟩
theorem DA(p:Pt):Am (.cl<|pv p) (.cl<|.int 0)=cI p.1:=rfl
theorem DJ(p:Pt):Am (.cl<|pv p) (.cl<|.int 1)=cI p.2:=rfl
theorem Ko(i j:Int):B0 (.cl<|.int i) (.cl<|.int j)=cB (i==j):=by simp[B0,RV.any,Ad,PySem.SeqAt.shaped,PySem.PyData.canLay0,PySem.PyData.depth,PySem.PyData.eqv]
theorem Ks(i j:Int):C0 (.cl<|.int i) (.cl<|.int j)=cB (!(i==j)):=by simp[C0,RV.any,Ad,PySem.SeqAt.shaped,PySem.PyData.canLay0,PySem.PyData.depth,PySem.PyData.eqv]
theorem vU(i j:Bool):B0 (.cl<|.bl i) (.cl<|.bl j)=cB (i==j):=by simp[B0,RV.any,Ad,PySem.SeqAt.shaped,PySem.PyData.canLay0,PySem.PyData.depth,PySem.PyData.eqv]
theorem fY(i j:Bool):C0 (.cl<|.bl i) (.cl<|.bl j)=cB (!(i==j)):=by simp[C0,RV.any,Ad,PySem.SeqAt.shaped,PySem.PyData.canLay0,PySem.PyData.depth,PySem.PyData.eqv]
theorem Ig(i j:Int):Cf (.cl<|.int i) (.cl<|.int j)=cB (decide (i<j)):=rfl
theorem Ie(i j:Int):Cw (.cl<|.int i) (.cl<|.int j)=cB (decide (i<=j)):=rfl
theorem Ic(i j:Int):Cv (.cl<|.int i) (.cl<|.int j)=cB (decide (j<i)):=rfl
theorem Dr(i j:Int):BL (.cl<|.int i) (.cl<|.int j)=cI (i-j):=rfl
theorem IZ(i j:Int):As (.cl<|.int i) (.cl<|.int j)=cI (i+j):=rfl
theorem Fw{i j:Int}(h:E6 i j):DU (.cl<|.int i) (.cl<|.int j)=cI (i*j):=by simp[DU,kI,h]
theorem FT{i j:Int}(h:0<j):BY (.cl<|.int i) (.cl<|.int j)=cI (i%j):=by simp[BY,kI,h]
theorem vT{i j:Int}(h:0<j)(y:j<1073741824):De (.cl<|.int i) (.cl<|.int j)=cI (i / j):=by simp[De,kI,Mt,h,y]
theorem Jl(ps:List PV):EO [.cl<|.lst ps]=cI ps.length:=rfl
theorem fW(ps:List PV):EO [.fr ps]=cI ps.length:=rfl
theorem u3(i j:Int):(if j<i then j else i)=min i j:=ADi
theorem uy(i j:Int):(if j>i then j else i)=max i j:=J
theorem RB(i j:Int):HS [.cl<|.int i,.cl<|.int j]=cI (min i j):=by simp only[HS,u3]
theorem L8(i j:Int):Fv [.cl<|.int i,.cl<|.int j]=cI (max i j):=by simp only[Fv,uy]
noncomputable def Dd(i:Int):Int:=if i<0 then -i else i
theorem OM(i:Int):HR [.cl<|.int i]=cI (Dd i):=rfl
set_option tactic.hygienic false
theorem AA3(n:Nat):MV 0 (n)=(List.range n).map λk:Nat=>PV.int<|k:=by apply AFu;intro k _;rw[show(0:Int)+(k)=k by lia]
theorem jT(i j:Int):MV i j=(List.range (j-i).toNat).map λk:Nat=>PV.int<|i+(k):=rfl
section
variable{α β:Type}{enc:α->PV}
theorem GI{g:GF}{t:BF}{fe:EF}{v:AS}{c:α->Bool}{h:α->PV}:∀{xs:List α},(∀x∈xs,∃q,g (enc x) v=some q/\t q=some (c x)/\(c x=true->∃r,fe q=some r/\r.clean=some (h x)))->collect g t fe v (xs.map enc)=some ((xs.filter c).map h)
 |[],_=>rfl
 |x::xs,H=>by
  have u:=GI λy Z=>H y<|AD4 _ Z;obtain⟨q,Y,Q,O⟩:=H x AD6;rw[AD0];unfold collect;rw[Y];dsimp only;rw[Q];cases hc:c x with
  |false=>
   dsimp only;rw[u,List.filter_cons_of_neg<|by simp[hc]]
  |true=>
   obtain⟨r,P,D⟩:=O hc;dsimp only;rw[P];dsimp only;simp only[D,u,List.filter_cons_of_pos hc,AD0]
theorem GJ{g:GF}{fe:EF}{q:AS}{h:α->PV}{xs:List α}(H:∀x∈xs,∃y r,g (enc x) q=some y/\fe y=some r/\r.clean=some (h x)):collect g Bk fe q (xs.map enc)=some (xs.map h):=by
 have:=GI (t:=Bk) λx v=>by obtain⟨y,r,u,Z,Y⟩:=H x v;exact⟨y,u,rfl,λ_=>⟨r,Z,Y⟩⟩
 rw[this,AIU.mpr λ_ _=>rfl]
theorem Ii{gt:GF}{body:SF}{c:α->Bool}{r:RV}(I:AS->Prop):∀{xs:List α}{ρ:AS},I ρ->(∀x∈xs,∀ρ,I ρ->∃q,gt (enc x) ρ=some q/\(c x=true->body q=some (.rt r))/\(c x=false->∃v,body q=some (.nx v)/\I v))->(xs.any c=true->ER gt body (xs.map enc) ρ=some (.rt r))/\(xs.any c=false->∃ρ',ER gt body (xs.map enc) ρ=some (.nx ρ')/\I ρ')
 |[],ρ,hI,_=>⟨λh=>by simp at h,λ_=>⟨ρ,rfl,hI⟩⟩
 |x::xs,ρ,hI,H=>by
  obtain⟨q,u,Z,Y⟩:=H x AD6 ρ hI;rw[AD0,AFI];unfold ER;rw[u];dsimp only;cases hc:c x with
  |true=>
   rw[Z hc];exact⟨λ_=>rfl,λh=>by simp at h⟩
  |false=>
   obtain⟨v,Q,O⟩:=Y hc;rw[Q];exact Ii I O λy P=>H y<|AD4 _ P
theorem WX{gt:GF}{body:SF}(f:β->α->β)(R:β->AS->Prop):∀{xs:List α}{b:β}{ρ:AS},R b ρ->(∀x∈xs,∀b ρ,R b ρ->∃q v,gt (enc x) ρ=some q/\body q=some (.nx v)/\R (f b x) v)->∃ρ',ER gt body (xs.map enc) ρ=some (.nx ρ')/\R (xs.foldl f b) ρ'
 |[],b,ρ,hR,_=>⟨ρ,rfl,hR⟩
 |x::xs,b,ρ,hR,H=>by obtain⟨q,v,u,Z,Y⟩:=H x AD6 b ρ hR;rw[AD0];unfold ER;rw[u];dsimp only;rw[Z];exact WX f R Y λy Q=>H y<|AD4 _ Q
end
theorem nY(r:List Pt)(i:Int)(v : -(r.length)<=i)(q:i<r.length):CP (AN r) i=some (pv<|AH.AA r i):=by
 delta CP Gb
 rw[CU];by_cases y:0<=i
 .rw[ADr y,ADr q];have hi:i.toNat<r.length:=J
  simp only[AES,AN];unfold AH.AA;rw[ADq y q];simp[List.getD,ADp hi]
 .rw[ADs y,ADr v];have hi:(i+r.length).toNat<r.length:=J
  simp only[AES,AN];unfold AH.AA;rw[<-Int.add_emod_right i r.length,ADq J J];simp[List.getD,ADp hi]
theorem Ce(r:List Pt)(i:Int)(y : -(r.length)<=i)(q:i<r.length):Am (.cl<|.lst<|AN r) (.cl<|.int i)=some (.cl<|pv<|AH.AA r i):=by show(CP (AN r) i).map _=_;rw[nY r i y q];rfl
theorem Py(bs:List Bool):G0 (bs.map PV.bl)=some bs:=by
 induction bs with
 |nil=>rfl
 |cons b bs ih=>rw[AD0,G0,ih];rfl
theorem fE(bs:List Int):EM (bs.map PV.int)=some bs:=by
 induction bs with
 |nil=>rfl
 |cons b bs ih=>rw[AD0,EM,ih];rfl
open L2.PL L2.K
open AH (AE Ai A0 AA M nb)
theorem DP{n:Int}{r:List Pt}(hn:0<=n)(h:∀p∈r,Bd n p)(i:Int):Bd n<|AA r i:=by
 unfold AH.AA;simp only[List.getD];cases e:r[(i%(r.length)).toNat]? with
 |none=>exact⟨by simp;exact MK hn,by simp;exact MK hn,by simp;exact MK hn,by simp;exact MK hn⟩
 |some p=>exact h p<|AEX e
theorem Bi{N n:Nat}{g:SF}{ps:List PV}{r:RV}(h:ps.length=n)(e:g (BD N ps)=some (.rt r)):denote N n g ps=some r:=by unfold denote;rw[ADr h,e];rfl
theorem C3{f:EF}{ρ:AS}{p:PV}(e:f ρ=some (.cl p)):Az f ρ=some (.rt<|.cl p):=by unfold Az;rw[e]
theorem SK{f:EF}{ρ:AS}{p:List PV}(e:f ρ=some (.fr p)):Az f ρ=some (.rt<|.fr p):=by unfold Az;rw[e]
theorem B8{k:List RV->Option RV}{g:AF}{ρ:AS}{rs:List RV}{z:RV}(e:g ρ=some rs)(h:k rs=some z):fB k g ρ=some z:=by unfold fB;rw[e];exact h
theorem AJ{f:EF}{g:AF}{ρ:AS}{x:RV}{xs:List RV}(e:f ρ=some x)(h:g ρ=some xs):AG f g ρ=some (x::xs):=by unfold AG;rw[e,h]
theorem AR{ρ:AS}:AO ρ=some []:=rfl
theorem AK{k:RV->RV->Option RV}{fa fb:EF}{ρ:AS}{x y z:RV}(ha:fa ρ=some x)(hb:fb ρ=some y)(h:k x y=some z):f2 k fa fb ρ=some z:=by unfold f2;rw[ha];rw[hb];exact h
theorem Ar{F:List PV->Option RV}{g:AF}{ρ:AS}{rs:List RV}{ps:List PV}{z:RV}(e:g ρ=some rs)(c:C8 rs=some ps)(h:F ps=some z):AW F g ρ=some z:=by unfold AW;rw[e];dsimp only;rw[c];exact h
theorem Lk{f g:EF}{ρ:AS}{a b:Bool}(ha:f ρ=cB a)(hb:a=true->g ρ=cB b):DR f g ρ=cB (a&&b):=by
 unfold DR;rw[ha];cases a
 .rfl
 .exact hb rfl
theorem Nj{f g:EF}{ρ:AS}{a b:Bool}(ha:f ρ=cB a)(hb:a=false->g ρ=cB b):EE f g ρ=cB (a||b):=by
 unfold EE;rw[ha];cases a
 .exact hb rfl
 .rfl
theorem Aq{f:EF}{ρ:AS}{a:Bool}(ha:f ρ=cB a):AV f ρ=some a:=by unfold AV;rw[ha]
theorem D4{f:BF}{ρ:AS}{a:Bool}(ha:f ρ=some a):CY f ρ=some (!a):=by unfold CY;rw[ha];rfl
theorem JQ{f g:BF}{ρ:AS}{a b:Bool}(ha:f ρ=some a)(hb:a=true->g ρ=some b):D5 f g ρ=some (a&&b):=by
 unfold D5;rw[ha];cases a
 .rfl
 .exact hb rfl
theorem Ei{f g:BF}{ρ:AS}{a b:Bool}(ha:f ρ=some a)(hb:a=false->g ρ=some b):Cr f g ρ=some (a||b):=by
 unfold Cr;rw[ha];cases a
 .exact hb rfl
 .rfl
theorem sq{g h:SF}{ρ ρ':AS}(e:g ρ=some (.nx ρ')):AM g h ρ=h ρ':=by unfold AM;rw[e]
theorem DE{g h:SF}{ρ:AS}{r:RV}(e:g ρ=some (.rt r)):AM g h ρ=some (.rt r):=by unfold AM;rw[e]
theorem A1{i:Nat}{f:EF}{ρ:AS}{r:RV}{p:PV}(e:f ρ=some r)(c:r.clean=some p):Aa i f ρ=some (.nx<|ρ.set i<|iM p):=by unfold Aa;rw[e];dsimp only;rw[c]
theorem set_own{i:Nat}{f:EF}{ρ:AS}{ps:List PV}(e:f ρ=some (.fr ps)):Eo i f ρ=some (.nx<|ρ.set i<|some<|.own ps):=by unfold Eo;rw[e]
theorem Bl{t:BF}{g h:SF}{ρ:AS}(e:t ρ=some true):A2 t g h ρ=g ρ:=by unfold A2;rw[e]
theorem Bb{t:BF}{g h:SF}{ρ:AS}(e:t ρ=some false):A2 t g h ρ=h ρ:=by unfold A2;rw[e]
theorem CH{its:IF}{gt:GF}{body:SF}{ρ:AS}{xs:List PV}(e:its ρ=some xs):CK its gt body ρ=ER gt body xs ρ:=by unfold CK;rw[e]
theorem LS{a b c:Pt}(ha:Bd 1000 a)(hb:Bd 1000 b):Ho [pv a,pv b,pv c]=cI (AE a b c):=by have y:E6 (b.1-a.1)<|c.2-a.2:=GH (by unfold Bd at *;omega);have q:E6 (b.2-a.2)<|c.1-a.1:=GH (by unfold Bd at *;omega);simp[Ho,denote,Zs,BD,Az,f2,AD,fC,DA,DJ,BL,kI,DU,y,q,Out.val,AE]
def pw(a b:Pt):PV:=.tup [pv a,pv b]
theorem Kq(a b:Pt):Am (.cl<|pw a b) (.cl<|.int 0)=some (.cl<|pv a):=rfl
theorem Kr(a b:Pt):Am (.cl<|pw a b) (.cl<|.int 1)=some (.cl<|pv b):=rfl
theorem My{a b c:Pt}(ha:Bd 1000 a)(hb:Bd 1000 b):Gu [pv c,pw a b]=cB (Ai a b c):=by
 have q:=LS (c:=c) ha hb;have v:Ai a b c=(decide (AE a b c=0)&&((decide (min a.1 b.1<=c.1)&&decide (c.1<=max a.1 b.1))&&(decide (min a.2 b.2<=c.2)&&decide (c.2<=max a.2 b.2)))):=by simp only[Ai,AG4,AG4]
 rw[v];have u:(!(AE a b c==0)) = !(decide (AE a b c=0)):=rfl;have Z:=Ie (min a.1 b.1) c.1;have Y:=Ie c.1<|max a.1 b.1;have Q:=Ie (min a.2 b.2) c.2;have O:=Ie c.2<|max a.2 b.2;have y:=Ks (AE a b c) 0;rw[u]at y;generalize decide (min a.1 b.1<=c.1)=b1 at *
 generalize decide (c.1<=max a.1 b.1)=b2 at *
 generalize decide (min a.2 b.2<=c.2)=b3 at *
 generalize decide (c.2<=max a.2 b.2)=b4 at *
 generalize decide (AE a b c=0)=b5 at *
 cases b5
 .simp only[Gu,denote,Ue,BD,AM,Aa,A2,Az,f2,AD,fC,AV,AW,AG,AO,C8,Out.val,RV.clean,
  AD5,AFe,AD0,AGi,AFR,AFW,List.replicate,AE6,AFG,AFp,AHA,AES,
  Kq,Kr,AF3,Nat.reduceAdd,q,y,AIK,AGk]
 .cases b1<;>cases b2<;>cases b3<;>cases b4<;>simp only[Gu,denote,Ue,BD,AM,Aa,A2,Az,f2,AD,fC,AV,AW,AG,AO,C8,Ej,fB,DR,Out.val,RV.clean,
  AD5,AFe,AD0,AGi,AFR,AFW,List.replicate,AE6,AFG,AFp,AHA,AES,
  DA,DJ,Kq,Kr,BI,RB,L8,AF3,Nat.reduceAdd,q,y,Z,Y,Q,O,Bool.not_true,AE5,AGk]
theorem YW{a b c d:Pt}(ha:Bd 1000 a)(hb:Bd 1000 b):Mz [pw a b,pw c d]=cB (AH.parts a b c d):=by
 have q:=LS (c:=c) ha hb;have v:=LS (c:=d) ha hb;have u:=Ig (AE a b c) 0;have Z:=Ic (AE a b c) 0;have Y:=Ig (AE a b d) 0;have Q:=Ic (AE a b d) 0;unfold AH.parts;generalize AE a b c=x at *
 generalize AE a b d=y at *
 generalize decide (x<0)=b1 at *
 generalize decide (0<x)=b2 at *
 generalize decide (y<0)=b3 at *
 generalize decide (0<y)=b4 at *
 cases b1<;>cases b2<;>cases b3<;>cases b4<;>simp only[Mz,denote,Zq,BD,AM,Aa,Az,f2,AD,fC,AW,AG,AO,C8,DR,EE,Out.val,RV.clean,AD5,AFe,AD0,AGi,AFR,AFW,List.replicate,AE6,AFG,AFp,AHA,AES,Kq,Kr,AF3,Nat.reduceAdd,q,v,u,Z,Y,Q,AE5,AGk,AGW,AIi]
theorem YU{a b c d:Pt}(ha:Bd 1000 a)(hb:Bd 1000 b)(hc:Bd 1000 c)(hd:Bd 1000 d):LR [pw a b,pw c d]=cB (A0 a b c d):=by
 have y:=YW (c:=c) (d:=d) ha hb;have q:=YW (c:=a) (d:=b) hc hd;have v:=My (c:=c) ha hb;have u:=My (c:=d) ha hb;have Z:=My (c:=a) hc hd;have Y:=My (c:=b) hc hd;unfold A0;generalize AH.parts a b c d=b1 at *
 generalize AH.parts c d a b=b2 at *
 generalize Ai a b c=b3 at *
 generalize Ai a b d=b4 at *
 generalize Ai c d a=b5 at *
 generalize Ai c d b=b6 at *
 cases b1<;>cases b2<;>cases b3<;>cases b4<;>cases b5<;>cases b6<;>simp only[LR,denote,Zo,BD,AM,Aa,A2,Az,f2,AD,fC,AV,AW,AG,AO,C8,EE,D5,Out.val,RV.clean,AD5,AFe,AD0,AGi,AFR,AFW,List.replicate,AE6,AFG,AFp,AHA,AES,Kq,Kr,BI,AF3,Nat.reduceAdd,y,q,v,u,Z,Y,AE5,AGk,AGW,AIi]
def Ey(p:Pt):Bool:=decide (Dd p.1<=100)&&decide (Dd p.2<=100)
theorem Wo{p:Pt}:Ey p=true↔Bd 100 p:=by
 have y:∀i:Int,Dd i<=100↔(-100<=i/\i<=100):=λi=>by unfold Dd;split<;>omega
 simp only[Ey,ADx,ADu,y];exact⟨λh=>⟨h.1.1,h.1.2,h.2.1,h.2.2⟩,λh=>⟨⟨h.1,h.2.1⟩,h.2.2.1,h.2.2.2⟩⟩
theorem mE{r:List Pt}(y:r.length<=1000):PF [.lst<|AN r]=cB (r.all Ey):=by
 have hc:collect (Aj 0) Bk aQ (Bf 1 [] [iL r]) (AN r)=some ((r.map Ey).map PV.bl):=by rw[AEH];refine GJ λp _=>⟨_,.cl<|.bl<|Ey p,rfl,?_,rfl⟩;simp only[Bf,DR,f2,fB,AG,AO,AD,fC,List.replicate,AFR,AFW,AFp,AE6,DA,OM,Ie];unfold Ey;cases decide (Dd p.1<=100)<;>rfl
 simp only[PF,denote,ZR,BD,Az,fB,AG,AO,BH,B9,AD,AD5,AFe,AD0,AGi,AFR,AFW,List.replicate,AE6,RV.list,AF3,Nat.reduceAdd,Nat.reduceSub,Bool.false_eq_true,if_false];rw[ADr (by rw[CU];exact y),hc];simp only[AEr,Ge,RV.list,AES,Py,Out.val];rw[AHw];rfl
def JH(r:List Pt):Bool:=(List.range r.length).all λk=>!(AE (AA r<|(k:Int)-2) (AA r<|(k:Int)-1) (AA r k)==0)
theorem Y5{n:Nat}(h:n<=1000):JC<|n:=⟨J,J⟩
theorem EH{g:AF}{ρ:AS}{n:Nat}(e:g ρ=some [.cl<|.int<|n])(h:n<=1000):Cs g ρ=some ((List.range n).map λk:Nat=>PV.int<|k):=by unfold Cs;rw[e];dsimp only;rw[ADr<|Y5 h,AA3]
theorem DS{its:IF}{own:Nat}{cap:List Nat}{g:GF}{t:BF}{fe:EF}{ρ:AS}{xs ys:List PV}(e:its ρ=some xs)(h:xs.length<=1000)(y:collect g t fe (Bf own cap ρ) xs=some ys):BH its own cap g t fe ρ=some (.fr ys):=by
 unfold BH;rw[e];dsimp only;rw[ADr h,y]
 rfl
theorem mD{r:List Pt}(y:r.length<=1000)(h2:2<=r.length)(hb:∀p∈r,Bd 1000 p):TR [.lst<|AN r]=cB (JH r):=by
 have hc:collect (Aj 0) Bk aJ (Bf 1 [0] [iL r]) ((List.range r.length).map λk:Nat=>PV.int<|k) =
  some (((List.range r.length).map λk:Nat=>!(AE (AA r<|(k)-2) (AA r<|(k)-1) (AA r k)==0)).map PV.bl):=by
  rw[AEH];refine GJ λk v=>⟨_,.cl<|.bl (!(AE (AA r<|(k)-2) (AA r<|(k)-1) (AA r k)==0)),rfl,?_,rfl⟩;have q:=AD2.mp v;simp only[Bf,f2,AW,AG,AO,AD,fC,C8,RV.clean,List.replicate,AD0,AFR,AFW,AFp,AE6,AFG,Option.join_some,Dr,Ce r ((k)-2) J J,Ce r ((k)-1) J<|MF q,Ce r (k) J<|Df q,LS (DP Du hb _)<|DP Du hb _,Ks]
 refine Bi rfl (C3<|B8 (AJ (DS (EH (g:=Nc) (by rw[<-CU];rfl) y) (by simpa using y) hc) AR) ?_);simp only[Ge,RV.list,AES,Py,AEr,AHw]
 rfl
def BV(r:List Pt):List<|Pt×Pt:=(List.range r.length).map λk:Nat=>(AA r k,AA r<|(k:Int)+1)
def BN(ws:List<|Pt×Pt):List PV:=ws.map λw=>pw w.1 w.2
theorem Pf{r:List Pt}(y:r.length<=1000)(q:0<r.length):M5 [.lst<|AN r]=some (.fr<|BN<|BV r):=by
 have hc:collect (Aj 0) Bk aj (Bf 1 [0] [iL r]) ((List.range r.length).map λk:Nat=>PV.int<|k)=some (BN<|BV r):=by
  delta BN BV
  rw[AEH];refine GJ λk v=>⟨_,.cl<|pw (AA r k)<|AA r<|(k)+1,rfl,?_,rfl⟩;have u:=AD2.mp v;have hm:AA r (((k)+1)%(r.length))=AA r ((k)+1):=by unfold AH.AA;rw[AEf _<|AFT _]
  simp only[Bf,f2,BA,AG,AO,AD,fC,fB,RV.clean,List.replicate,AD0,AFR,AFW,AFp,AE6,AFG,Option.join_some,IZ,Jl,CU,FT (i:=(k)+1) (j:=(r.length))<|Ij q,Ce r (k) J<|Df u,Ce r (((k)+1)%(r.length)) J<|AEL _<|Ij q,hm]
  rfl
 exact Bi rfl<|SK<|DS (EH (g:=Nc) (by rw[<-CU];rfl) y) (by simpa using y) hc
theorem vW(i a b:Int):Bc false (.cl<|.int i) (.cl<|.tup [.int a,.int b])=cB (i==a||i==b):=by simp only[Bc,RV.seq,EM,AEr,AFI,AHR,AGW,Bool.false_eq_true,if_false];rw[AGv,AGv (a:=b)]
theorem Tn{n i j:Int}(hn:0<n):LQ [.int n,.int i,.int j]=cB (nb n<|j-i):=by simp only[LQ,denote,ZT,BD,Az,f2,AD,fC,BA,AG,AO,C8,RV.clean,Out.val,AD5,AFe,AD0,AFR,AFW,List.replicate,AE6,AFG,AES,Dr,FT hn,vW,AF3,Nat.reduceAdd,Nat.reduceSub,Nat.reduceLeDiff,nb]
def X9(r:List Pt)(k:Int):PV:=pw (AA r k)<|AA r<|k+1
theorem lP(r:List Pt)(k:Nat)(h:k<r.length):Am (.cl<|.lst<|BN<|BV r) (.cl<|.int<|k)=some (.cl<|X9 r k):=by
 show(CP _ _).map _=_;have:CP (BN<|BV r) (k)=some (X9 r k):=by
  delta CP Gb BN BV
  simp[h,X9]
 rw[this];rfl
def J8(r:List Pt):Bool:=!((List.range r.length).any λk=>(List.range<|r.length-(k+1)).any λd=>!(nb r.length<|((k:Int)+1+d)-k)&&M r k ((k:Int)+1+d))
theorem mF{r:List Pt}(v:r.length<=1000)(u:0<r.length)(hb:∀p∈r,Bd 1000 p):Tp [.lst<|AN r]=cB (J8 r):=by
 have y:(BN<|BV r).length=r.length:=by simp[BN,BV]
 refine Bi rfl ?_;unfold Zt;rw[sq<|A1 (Ar (AJ rfl AR) rfl<|Pf v u) rfl];show AM _ _ [iL r,iM<|.lst<|BN<|BV r,none,none]=_;have Z:∀a b:Option SV,Cs Uz [iL r,iM<|.lst<|BN<|BV r,a,b]=some ((List.range r.length).map λk:Nat=>PV.int<|k):=λa b=>EH (by rw[<-y];rfl) v;have H:=Ii (gt:=Aj 2) (λρ=>∃a b,ρ=[iL r,iM<|.lst<|BN<|BV r,a,b]) (xs:=List.range r.length) ⟨none,none,rfl⟩ (by
  rintro k P ρ ⟨a,b,rfl⟩;have Y:=AD2.mp P;refine⟨_,rfl,?_⟩;have Q:EI Uo [iL r,iM<|.lst<|BN<|BV r,iI k,b]=some ((List.range<|r.length-(k+1)).map λd:Nat=>PV.int<|(k)+1+d):=by
   have D:Uo [iL r,iM<|.lst<|BN<|BV r,iI k,b]=some [.cl<|.int<|(k)+1,.cl<|.int<|r.length]:=by rw[<-y];rfl
   unfold EI;rw[D];dsimp only;have F:JC<|(k)+1:=⟨J,J⟩;rw[ADr ⟨F,Y5 v⟩,jT]
   congr 3
   lia
  have O:=Ii (enc:=λd:Nat=>PV.int<|(k)+1+d) (gt:=Aj 3) (body:=aD)
   (c:=λd=>!(nb r.length<|((k)+1+d)-k)&&M r k ((k)+1+d))
   (λρ=>∃b,ρ=[iL r,iM<|.lst<|BN<|BV r,iI k,b]) (xs:=List.range<|r.length-(k+1)) ⟨b,rfl⟩ (by
   rintro d hd ρ ⟨b,rfl⟩;have HK:=AD2.mp hd;refine⟨_,rfl,?_⟩;have q:aM [iL r,iM<|.lst<|BN<|BV r,iI k,iI<|(k)+1+d]=some (!(nb r.length<|((k)+1+d)-k)&&M r k ((k)+1+d)):=by refine JQ (D4<|Aq<|Ar (rs:=[.cl<|.int<|r.length,.cl<|.int k,.cl<|.int<|(k)+1+d]) (by rw[<-y];rfl) rfl<|Tn<|Ij u) λ_=>?_;refine Aq (Ar (AJ (AK rfl rfl<|lP r k Y)<|AJ (AK rfl rfl<|lP r (k+1+d) (by clear y Y;omega)) AR) rfl ?_);exact YU (DP Du hb _) (DP Du hb _) (DP Du hb _)<|DP Du hb _
   refine⟨λh=>?_,λh=>⟨_,?_,iI<|(k)+1+d,rfl⟩⟩
   .show A2 _ _ _ [iL r,iM<|.lst<|BN<|BV r,iI k,iI<|(k)+1+d]=_;rw[h]at q;rw[Bl q];rfl
   .show A2 _ _ _ [iL r,iM<|.lst<|BN<|BV r,iI k,iI<|(k)+1+d]=_;rw[h]at q;rw[Bb q];rfl)
  refine⟨λh=>?_,λh=>?_⟩
  .exact(CH Q).trans (O.1 h)
  .obtain⟨ρ',e,b',rfl⟩:=O.2 h;exact⟨_,(CH Q).trans e,_,_,rfl⟩)
 unfold J8;cases ha:(List.range r.length).any λk=>(List.range<|r.length-(k+1)).any λd=>!(nb r.length<|((k)+1+d)-k)&&M r k ((k)+1+d)with
 |true=>exact DE<|(CH<|Z none none).trans<|H.1 ha
 |false=>
  obtain⟨ρ',e,a,b,rfl⟩:=H.2 ha;rw[sq<|(CH<|Z none none).trans e];rfl
theorem kU(f:Int->Int):∀n:Nat,((List.range n).map λk:Nat=>f k).sum=AH.Ab f n
 |0=>rfl
 |n+1=>by simp only[AFN,AEl,List.sum_append,kU f n];simp[AH.Ab]
theorem FJ{f:EF}{ρ:AS}{r:RV}{ps:List PV}(e:f ρ=some r)(h:r.list=some ps):B9 false f ρ=some ps:=by unfold B9;rw[e];exact h
theorem ni:Bd 1000 (0,0):=by unfold Bd;lia
theorem t1{r:List Pt}(hb:∀p∈r,Bd 1000 p)(k:Nat):Uk [iM<|pw (AA r k)<|AA r<|(k)+1]=cI (AH.Bx (AA r k)<|AA r<|(k)+1):=by
 refine Ar (ps:=[pv (0,0),pv<|AA r k,pv<|AA r<|(k)+1]) (AJ rfl<|AJ (AK rfl rfl<|Kq _ _)<|AJ (AK rfl rfl<|Kr _ _) AR) rfl ?_;rw[LS ni<|DP Du hb _];have:AE (0,0) (AA r k) (AA r<|(k)+1)=AH.Bx (AA r k) (AA r<|(k)+1):=by simp[AE,AH.Bx]
 rw[this]
theorem t2{r:List Pt}(hb:∀p∈r,Bd 1000 p):collect (Aj 0) Bk Uk (Bf 1 [] [iL r]) (BN<|BV r) = some (((List.range r.length).map λk:Nat=>AH.Bx (AA r k)<|AA r<|(k)+1).map PV.int):=by
 delta BN BV
 simp only[AEH,AEH];exact GJ λk hk=>⟨_,.cl<|.int<|AH.Bx (AA r k)<|AA r<|(k)+1,rfl,t1 hb k,rfl⟩
theorem t3{r:List Pt}(y:r.length<=1000)(q:0<r.length):QM [iL r]=some (BN<|BV r):=by exact FJ (Ar (AJ rfl AR) rfl<|Pf y q) rfl
theorem mG{r:List Pt}(y:r.length<=1000)(q:0<r.length)(hb:∀p∈r,Bd 1000 p):TV [.lst<|AN r]=cI (AH.CJ r):=by
 have Eu:(BN<|BV r).length=r.length:=by simp[BN,BV]
 refine Bi rfl<|C3<|B8 (AJ (DS (t3 y q) J<|t2 hb) AR) ?_;simp only[HV,RV.list,AES,fE,AEr];rw[kU λk=>AH.Bx (AA r k)<|AA r<|k+1,AH.CJ]
noncomputable def kl(r:List Pt):List<|List Int:=r.map λp=>[p.1,p.2]
theorem X2:∀r:List Pt,J3 (AN r)=some (kl r)
 |[]=>rfl
 |p::r=>by
  show J3 (pv p::AN r)=_;unfold pv J3;rw[(X2 r)]
  rfl
def dist(r:List Pt):Nat:=(Internal.ST.D9 []<|kl r).length
theorem cH{f:EF}{ρ:AS}{r:RV}{ps:List PV}{ks:List (List Int)}(e:f ρ=some r)(h:r.list=some ps)(y:J3 ps=some ks)(h3:ks.length<=17):KO f ρ=cI ((Internal.ST.D9 [] ks).length):=by unfold KO;rw[e];dsimp only;rw[h,AES,y];dsimp only;rw[ADr h3]
theorem QS{fa fb fc:EF}{ρ:AS}{i j k:Int}(ha:fa ρ=cI i)(hb:fb ρ=cI j)(hc:fc ρ=cI k):Ej Cw Cw fa fb fc ρ=cB (decide (i<=j)&&decide (j<=k)):=by
 unfold Ej;rw[ha,hb];dsimp only;rw[Ie];cases h:decide (i<=j)
 .rfl
 .dsimp only;rw[hc];dsimp only;rw[Ie,AE5]
def DK(r:List Pt):Bool:=(decide ((3:Int)<=r.length)&&decide ((r.length:Int)<=12))&&(((dist r:Int)==(r.length:Int))&&(r.all Ey&&(JH r&&(J8 r&&decide (0<AH.CJ r)))))
theorem mL{r:List Pt}:TX [.lst<|AN r]=cB (DK r):=by
 refine Bi rfl ?_;unfold ZX;have el:Cp (BD 1 [.lst<|AN r])=cI r.length:=by rw[<-CU];rfl
 have y:=D4<|Aq<|QS (fa:=fC<|.int 3) (fc:=fC<|.int 12) rfl el rfl;unfold DK;cases u:(decide ((3:Int)<=r.length)&&decide ((r.length:Int)<=12))with
 |false=>
  rw[u]at y;exact DE<|(Bl y).trans rfl
 |true=>
  rw[u]at y;rw[sq<|(Bb y).trans rfl,AE5];have q:=Aq (AK (cH (f:=AD 0) rfl rfl (X2 r) (by unfold kl;rw[ADo];lia)) el<|Ks _ _);have v:CW (BD 1 [.lst<|AN r])=some [.cl<|.lst<|AN r]:=rfl;cases Z:((dist r:Int)==(r.length))with
  |false=>
   rw[show(((Internal.ST.D9 []<|kl r).length:Int)==(r.length))=false from Z]at q;exact DE<|(Bl q).trans rfl
  |true=>
   rw[show(((Internal.ST.D9 []<|kl r).length:Int)==(r.length))=true from Z]at q;rw[sq<|(Bb q).trans rfl,AE5];refine C3<|Lk (Ar v rfl<|mE J) λh3=>?_;have hb:∀p∈r,Bd 1000 p:=λp hp=>by have:=Wo.mp<|AFo.mp h3 p hp;unfold Bd at *;and_intros<;>lia
   refine Lk (Ar v rfl<|mD J J hb) λ_=>?_;refine Lk (Ar v rfl<|mF J J hb) λ_=>?_;exact AK (Ar v rfl<|mG J J hb) rfl<|Ic _ _
open AH (AE Ai A0 BP AA M nb)
theorem JR{g:AF}{ρ:AS}{rs:List RV}{ps:List PV}(e:g ρ=some rs)(c:C8 rs=some ps)(h:Nat.ble ps.length 1000=true:=by rfl):BA g ρ=some (.cl<|.tup ps):=by unfold BA;rw[e];dsimp only;rw[c];dsimp only;rw[ADr<|AGE h]
theorem D3{g:AF}{ρ:AS}{rs:List RV}{ps:List PV}(e:g ρ=some rs)(c:C8 rs=some ps)(h:Nat.ble ps.length 1000=true:=by rfl):CB g ρ=some (.fr ps):=by unfold CB;rw[e];dsimp only;rw[c];dsimp only;rw[ADr<|AGE h]
theorem iy{i j:Nat}{ga:AF}{ρ:AS}{rs:List RV}{p q:PV}(e:ga ρ=some rs)(c:C8 rs=some [p,q]):JX i j ga ρ=some (.nx<|(ρ.set i<|iM p).set j<|iM q):=by unfold JX;rw[e];dsimp only;rw[c]
noncomputable def Au(s:List Int):List PV:=s.map PV.int
theorem WB(s:List Int):(Au s).length=s.length:=ADo ..
noncomputable def AZ(s:List Int)(k:Int):Int:=if k<s.length then s.getD k.toNat 0 else(s.getD 0 0%65521*48271+k*30103)%65521
theorem Ym(s:List Int)(k:Int)(y:0<=k)(h:k<s.length):Am (.cl<|.rd<|Au s) (.cl<|.int k)=cI (s.getD k.toNat 0):=by
 show(CP (Au s) k).map _=_;have q:k.toNat<s.length:=J
 have:CP (Au s) k=some (.int<|s.getD k.toNat 0):=by
  delta CP Gb
  rw[WB,ADr y,ADr h];simp[Au,q]
 rw[this];rfl
theorem ZD{i j:Int}(h : -1000000<=j/\j<=1000000):E6 i j:=.inr ⟨J,J⟩
theorem YN(s:List Int)(k:Int)(u:0<=k):E9 [.rd<|Au s,.int k]=cI (AZ s k):=by
 refine Bi rfl ?_;unfold Zb;have el:Cp (BD 3 [.rd<|Au s,.int k])=cI s.length:=by rw[<-WB];rfl
 have y:=Aq<|AK (fa:=AD 1) rfl el<|Ig k _;unfold AZ;by_cases h:k<s.length
 .rw[AEs h]at y;rw[ADr h];exact DE<|(Bl y).trans<|C3<|AK rfl rfl<|Ym s k u h
 .rw[AFK h]at y;rw[ADs h,sq<|(Bb y).trans rfl,sq<|A1 rfl rfl];have Z:Cp [iM<|.rd<|Au s,iI k,iI 0]=cI s.length:=by rw[<-WB];rfl
  have q:=Aq<|AK (fb:=fC<|.int 0) Z rfl<|Ic _ _;have fin:∀b:Int,Az aZ [iM<|.rd<|Au s,iI k,iI b]=some (.rt<|.cl<|.int<|(b%65521*48271+k*30103)%65521):=λb=>
   C3 (AK (AK (AK (AK rfl rfl<|FT J) rfl<|Fw<|ZD J) (AK rfl rfl<|Fw<|ZD J)<|IZ _ _) rfl<|FT J)
  by_cases v:(0:Int)<s.length
  .rw[AEs v]at q;have Y:Aa 2 Dp [iM<|.rd<|Au s,iI k,iI 0]=some (.nx [iM<|.rd<|Au s,iI k,iI<|s.getD 0 0]):=A1 (AK rfl rfl<|Ym s 0 CM v) rfl;refine(sq<|(Bl q).trans Y).trans (fin _)
  .have:s=[]:=AH1.mp J;subst this;exact(sq<|(Bb q).trans rfl).trans (fin 0)
theorem Pe{a b c:Pt}(ha:Bd 1000 a)(hb:Bd 1000 b):FA [pv a,pv b,pv c]=cI (AE a b c):=by have y:E6 (b.1-a.1)<|c.2-a.2:=GH (by unfold Bd at *;lia);have q:E6 (b.2-a.2)<|c.1-a.1:=GH (by unfold Bd at *;lia);refine Bi rfl ?_;exact C3<|AK (AK rfl rfl<|Fw y) (AK rfl rfl<|Fw q)<|Dr _ _
def GQ(r:List Pt):Bool:=(List.range r.length).any λk=>AE (AA r<|(k:Int)-2) (AA r<|(k:Int)-1) (AA r k)==0
theorem OV(r:List Pt)(ρ:AS)(h:ρ[0]? = some (iL r)):Cp ρ=cI r.length:=by rw[<-CU];exact B8 (AJ (by unfold AD;rw[h]) AR) rfl
theorem YQ{r:List Pt}(u:r.length<=1000)(h2:2<=r.length)(hb:∀p∈r,Bd 1000 p):PU [.lst<|AN r]=cB (GQ r):=by
 refine Bi rfl ?_;unfold Zc;have q:KH (BD 2 [.lst<|AN r])=some ((List.range r.length).map λk:Nat=>PV.int<|k):=EH (AJ (OV r _ rfl) AR) u;have H:=Ii (enc:=λk:Nat=>PV.int<|k) (gt:=Aj 1) (body:=Z9)
  (c:=λk=>AE (AA r<|(k)-2) (AA r<|(k)-1) (AA r k)==0)
  (λρ=>∃a,ρ=[iL r,a]) (xs:=List.range r.length) ⟨none,rfl⟩ (by
  rintro k Z ρ ⟨a,rfl⟩;have v:=AD2.mp Z;refine⟨_,rfl,?_⟩;have y:AV aI [iL r,iI k]=some (AE (AA r<|(k)-2) (AA r<|(k)-1) (AA r k)==0):=by refine Aq<|AK (Ar (AJ (AK rfl rfl<|Ce r ((k)-2) J J)<|AJ (AK rfl rfl<|Ce r ((k)-1) J<|MF v)<|AJ (AK rfl rfl<|Ce r (k) J<|Df v) AR) rfl<|Pe (DP Du hb _)<|DP Du hb _) rfl<|Ko _ _
  refine⟨λh=>?_,λh=>⟨_,?_,iI k,rfl⟩⟩
  .rw[h]at y;exact(Bl y).trans rfl
  .rw[h]at y;exact(Bb y).trans rfl)
 unfold GQ;cases ha:(List.range r.length).any λk=>AE (AA r<|(k)-2) (AA r<|(k)-1) (AA r k)==0 with
 |true=>exact DE<|(CH q).trans<|H.1 ha
 |false=>
  obtain⟨ρ',e,a,rfl⟩:=H.2 ha;rw[sq<|(CH q).trans e];rfl
theorem cY(r:List Pt):JH r = !GQ r:=by
 delta JH GQ
 simp only[List.not_any_eq_all_not]
theorem YV{a b c:Pt}(ha:Bd 1000 a)(hb:Bd 1000 b):Mw [pv a,pv b,pv c]=cB (Ai a b c):=by
 refine Bi rfl ?_;unfold Zh;have y:=Aq<|AK (ρ:=BD 5 [pv a,pv b,pv c]) (fb:=fC<|.int 0) (Ar (AJ (f:=AD 0) rfl<|AJ (f:=AD 1) rfl<|AJ (f:=AD 2) rfl AR) rfl<|Pe ha hb) rfl<|Ks _ _;by_cases h:AE a b c=0
 .rw[show(!(AE a b c==0))=false by simp[h]]at y;rw[sq<|(Bb y).trans rfl,sq<|A1 (JR (AJ (B8 (AJ (AK rfl rfl<|DA a)<|AJ (AK rfl rfl<|DA b) AR)<|RB _ _)<|AJ (B8 (AJ (AK rfl rfl<|DJ a)<|AJ (AK rfl rfl<|DJ b) AR)<|RB _ _) AR) rfl) rfl,sq<|A1 (JR (AJ (B8 (AJ (AK rfl rfl<|DA a)<|AJ (AK rfl rfl<|DA b) AR)<|L8 _ _)<|AJ (B8 (AJ (AK rfl rfl<|DJ a)<|AJ (AK rfl rfl<|DJ b) AR)<|L8 _ _) AR) rfl) rfl]
  have q:Ai a b c=((decide (min a.1 b.1<=c.1)&&decide (c.1<=max a.1 b.1))&&(decide (min a.2 b.2<=c.2)&&decide (c.2<=max a.2 b.2))):=by simp only[Ai,AG4,AG4,AEs h,AE5]
  rw[q];exact C3<|Lk (QS rfl rfl rfl) λ_=>QS rfl rfl rfl
 .rw[show(!(AE a b c==0))=true by simp[h]]at y;rw[show Ai a b c=false by simp[Ai,h]];exact DE<|(Bl y).trans rfl
theorem YS{a b c d:Pt}(ha:Bd 1000 a)(hb:Bd 1000 b)(hc:Bd 1000 c)(hd:Bd 1000 d):PY [pv a,pv b,pv c,pv d]=cB (BP a b c d):=by
 refine Bi rfl ?_;unfold Zg;have e0:∀h:SF,AM ak (AM aX h) (BD 9 [pv a,pv b,pv c,pv d]) = h [iM<|pv a,iM<|pv b,iM<|pv c,iM<|pv d,iM<|.lst [.tup [pv a,pv b,pv c],.tup [pv a,pv b,pv d],.tup [pv c,pv d,pv a],.tup [pv c,pv d,pv b]],none,none,none,none]:=λh=>by rw[sq rfl];rw[sq (ρ':=[iM<|pv a,iM<|pv b,iM<|pv c,iM<|pv d,iM<|.lst [.tup [pv a,pv b,pv c],.tup [pv a,pv b,pv d],.tup [pv c,pv d,pv a],.tup [pv c,pv d,pv b]],none,none,none,none]) rfl]
 rw[e0];have H:=Ii (enc:=λt:Pt×Pt×Pt=>PV.tup [pv t.1,pv t.2.1,pv t.2.2]) (gt:=JY 3<|Fq (Aj 5)<|Fq (Aj 6)<|Fq (Aj 7) Kb) (body:=bI)
  (c:=λt=>Ai t.1 t.2.1 t.2.2)
  (λρ=>∃x y z,ρ=[iM<|pv a,iM<|pv b,iM<|pv c,iM<|pv d,iM<|.lst [.tup [pv a,pv b,pv c],.tup [pv a,pv b,pv d],.tup [pv c,pv d,pv a],.tup [pv c,pv d,pv b]],x,y,z,none]) (xs:=[(a,b,c),(a,b,d),(c,d,a),(c,d,b)]) ⟨none,none,none,rfl⟩ (by
  rintro⟨q,Z,Y⟩ O ρ ⟨x,y,z,rfl⟩;refine⟨_,rfl,?_⟩;have P:Bd 1000 q/\Bd 1000 Z:=by simp only[AEN,AGG,AH0,or_false]at O;rcases O with⟨rfl,rfl,_⟩|⟨rfl,rfl,_⟩|⟨rfl,rfl,_⟩|⟨rfl,rfl,_⟩<;>constructor<;>assumption
  have Q:AV (AW Mw<|AG (AD 5)<|AG (AD 6)<|AG (AD 7) AO) [iM<|pv a,iM<|pv b,iM<|pv c,iM<|pv d,iM<|.lst [.tup [pv a,pv b,pv c],.tup [pv a,pv b,pv d],.tup [pv c,pv d,pv a],.tup [pv c,pv d,pv b]],iM<|pv q,iM<|pv Z,iM<|pv Y,none]=some (Ai q Z Y):=
   Aq (Ar (AJ rfl<|AJ rfl<|AJ rfl AR) rfl<|YV P.1 P.2)
  refine⟨λh=>?_,λh=>⟨_,?_,iM<|pv q,iM<|pv Z,iM<|pv Y,rfl⟩⟩
  .rw[show Ai q Z Y=true from h]at Q;exact(Bl Q).trans rfl
  .rw[show Ai q Z Y=false from h]at Q;exact(Bb Q).trans rfl)
 have ea:([(a,b,c),(a,b,d),(c,d,a),(c,d,b)]).any (λt=>Ai t.1 t.2.1 t.2.2)=(Ai a b c||Ai a b d||Ai c d a||Ai c d b):=by simp only[AFI,AHR,AGW,Bool.or_assoc]
 rw[ea]at H;unfold BP;have D:∀x y z w:Option SV,B9 true (AD 4) [iM<|pv a,iM<|pv b,iM<|pv c,iM<|pv d,iM<|.lst [.tup [pv a,pv b,pv c],.tup [pv a,pv b,pv d],.tup [pv c,pv d,pv a],.tup [pv c,pv d,pv b]],x,y,z,w]=some (([(a,b,c),(a,b,d),(c,d,a),(c,d,b)]).map λt=>PV.tup [pv t.1,pv t.2.1,pv t.2.2]):=λ_ _ _ _=>rfl;cases ho:(Ai a b c||Ai a b d||Ai c d a||Ai c d b)with
 |true=>
  exact DE<|(CH<|D _ _ _ _).trans<|H.1 ho
 |false=>
  obtain⟨ρ',e,x,y,z,rfl⟩:=H.2 ho;rw[sq<|(CH<|D _ _ _ _).trans e];have sd:∀(f g h:EF)(u v w:Pt)(ρ:AS),Bd 1000 u->Bd 1000 v->f ρ=some (.cl<|pv u)->g ρ=some (.cl<|pv v)->h ρ=some (.cl<|pv w)->f2 Cv (AW FA<|AG f<|AG g<|AG h AO) (fC<|.int 0) ρ=cB (decide (AE u v w>0)):=λf g h u v w ρ b1 b2 F R B=>
   AK (Ar (AJ F<|AJ R<|AJ B AR) rfl<|Pe b1 b2) rfl (Ic _ _)
  rw[sq<|A1 (AK (sd _ _ _ a b c _ ha hb rfl rfl rfl) (sd _ _ _ a b d _ ha hb rfl rfl rfl)<|fY _ _) rfl];exact C3<|Lk rfl λ_=>AK (sd _ _ _ c d a _ hc hd rfl rfl rfl) (sd _ _ _ c d b _ hc hd rfl rfl rfl)<|fY _ _
section
variable{α β:Type}{enc:α->PV}
theorem Kv{gt:GF}{body:SF}(f:β->α->β)(R:Nat->β->AS->Prop):∀{xs:List α}{n:Nat}{b:β}{ρ:AS},R n b ρ->(∀i x,xs[i]? = some x->∀b ρ,R (n+i) b ρ->∃q v,gt (enc x) ρ=some q/\body q=some (.nx v)/\R (n+i+1) (f b x) v)->∃ρ',ER gt body (xs.map enc) ρ=some (.nx ρ')/\R (n+xs.length) (xs.foldl f b) ρ'
 |[],n,b,ρ,hR,_=>⟨ρ,rfl,hR⟩
 |x::xs,n,b,ρ,hR,H=>by
  obtain⟨q,v,u,Z,Y⟩:=H 0 x rfl b ρ hR;rw[AD0];unfold ER;rw[u];dsimp only;simp only[Z];obtain⟨ρ',e,h⟩:=Kv f R Y λi y Q b ρ hb=>by have:=H (i+1) y (by simpa using Q) b ρ (by rw[show n+(i+1)=n+1+i by lia];exact hb);rw[show n+1+i+1=n+(i+1)+1 by lia];exact this
  exact⟨ρ',e,by rw[AD5,show n+(xs.length+1)=n+1+xs.length by lia];exact h⟩
end
theorem cv(f:Int->Int):∀(n:Nat)(z:Int),((List.range n).foldl (λt (k:Nat)=>t+f k) z)=z+AH.Ab f n
 |0,z=>by simp[AH.Ab]
 |n+1,z=>by rw[AFN,AF6,cv f n z];simp[AH.Ab];lia
theorem mO{r:List Pt}(q:r.length<=1000)(h1:0<r.length)(hb:∀p∈r,Bd 1000 p):TZ [.lst<|AN r]=cI (AH.Lc r):=by
 refine Bi rfl ?_;unfold Za;rw[sq (ρ':=[iL r,iI 0,none,none,none]) rfl];have v:KH [iL r,iI 0,none,none,none]=some ((List.range r.length).map λk:Nat=>PV.int<|k):=EH (AJ (OV r _ rfl) AR) q;obtain⟨ρ',e,a,b,c,rfl⟩:=WX (enc:=λk:Nat=>PV.int<|k) (gt:=Aj 2) (body:=bY)
  (λ(t)(k)=>t+AH.Bx (AA r<|(k)-1) (AA r k)) (λt ρ=>∃a b c,ρ=[iL r,iI t,a,b,c]) (xs:=List.range r.length) ⟨none,none,none,rfl⟩ (by
  rintro k u t ρ ⟨a,b,c,rfl⟩;have y:=AD2.mp u;refine⟨_,[iL r,iI<|t+AH.Bx (AA r<|(k)-1) (AA r k),iI k,iM<|pv<|AA r<|(k)-1,iM<|pv<|AA r k],rfl,?_,_,_,_,rfl⟩;have h3:=DP Du hb<|(k)-1;have Z:bF [iL r,iI t,iI k,b,c] = some (.nx [iL r,iI t,iI k,iM<|pv<|AA r<|(k)-1,iM<|pv<|AA r k]):=by exact iy (AJ (AK rfl rfl<|Ce r ((k)-1) J<|MF y)<|AJ (AK rfl rfl<|Ce r (k) J<|Df y) AR) rfl
  refine(sq Z).trans ?_;have Y:t+(AA r<|(k)-1).1*(AA r k).2-(AA r<|(k)-1).2*(AA r k).1=t+AH.Bx (AA r<|(k)-1) (AA r k):=by unfold AH.Bx;lia
  rw[<-Y];refine(A1 (AK (AK rfl (AK (AK rfl rfl<|DA _) (AK rfl rfl<|DJ _)<|Fw<|GH (by unfold Bd at h3;omega))<|IZ _ _) (AK (AK rfl rfl<|DJ _) (AK rfl rfl<|DA _)<|Fw<|GH (by unfold Bd at h3;omega))<|Dr _ _) rfl).trans ?_
  rfl)
 rw[sq<|(CH v).trans e,cv λk=>AH.Bx (AA r<|k-1)<|AA r k,AE0]
 rfl
theorem ZJ{f:EF}{t:BF}{fe:EF}{ρ:AS}{cap:List Nat}{rv:RV}{r:List Pt}{c:Pt->Bool}{h:Pt->PV}(e:f ρ=some rv)(hp:rv.list=some (AN r))(y:r.length<=1000) (H:∀p∈r,t (iI p.1::iI p.2::cap.map λj=>(ρ[j]?).join)=some (c p)/\(c p=true->∃x,fe (iI p.1::iI p.2::cap.map λj=>(ρ[j]?).join)=some x/\x.clean=some (h p))) :
 BH (B9 false f) 2 cap GN t fe ρ=some (.fr<|(r.filter c).map h):=by
 refine DS (FJ e hp) (by rw[CU];exact y) ?_;refine GI λp hp=>⟨_,rfl,?_⟩;exact H p hp
theorem UZ{f:EF}{fe:EF}{ρ:AS}{cap:List Nat}{rv:RV}{r:List Pt}{h:Pt->PV}(e:f ρ=some rv)(hp:rv.list=some (AN r))(y:r.length<=1000) (H:∀p∈r,∃x,fe (iI p.1::iI p.2::cap.map λj=>(ρ[j]?).join)=some x/\x.clean=some (h p)) :
 BH (B9 false f) 2 cap GN Bk fe ρ=some (.fr<|r.map h):=by
 have:=ZJ (t:=Bk) e hp y λp hp=>⟨rfl,λ_=>H p hp⟩;rw[this,AIU.mpr λ_ _=>rfl]
theorem OP(i a b:Int):Bc true (.cl<|.int i) (.fr [.int a,.int b])=cB (!(i==a||i==b)):=by simp only[Bc,RV.seq,RV.list,EM,AEr,AFI,AHR,AGW,AF3];rw[AGv,AGv (a:=b)]
def HE(r:List Pt):Bool:=decide ((0:Int)<((r.filter λp=>decide (max (Dd p.1) (Dd p.2)>100)).length:Int))
def NS(r:List Pt):Bool:=(List.range r.length).any λk=>(List.range k).any λj=>!(nb r.length<|(k:Int)-j)&&BP (AA r<|(k:Int)-1) (AA r k) (AA r<|(j:Int)-1) (AA r j)
def Ka(r:List Pt):Bool:=!(!(decide ((3:Int)<=r.length)&&decide ((r.length:Int)<=12))||HE r)&&(!(!((dist r:Int)==(r.length:Int))||(GQ r||decide (AH.Lc r<=0)))&&!NS r)
theorem cR(r:List Pt):HE r = !(r.all Ey):=by
 have h:∀p:Pt,decide (max (Dd p.1) (Dd p.2)>100) = !Ey p:=λp=>by unfold Ey;rw[<-AG4,<-decide_not];apply AFQ.mpr;omega
 unfold HE;rw[List.filter_congr λp _=>h p];cases ha:r.all Ey with
 |true=>
  have:r.filter (λp=>!Ey p)=[]:=AHI.mpr λp hp=>by have:=AFo.mp ha p hp;simp[this]
  rw[this];rfl
 |false=>
  obtain⟨p,hp,hn⟩:=List.all_eq_false.mp ha;have hm:p∈r.filter (λp=>!Ey p):=AEY.mpr ⟨hp,by simpa using hn⟩;have:=AH6 hm;rw[AEs<|Ij this];rfl
theorem mJ{r:List Pt}(O:r.length<=1000):Tb [.lst<|AN r]=cB (Ka r):=by
 refine Bi rfl ?_;unfold Zd;rw[sq<|A1 (OV r _ rfl) rfl];show AM _ _ [iL r,iI r.length,none,none]=_;have q:ay [iL r,iI r.length,none,none] = some (!(decide ((3:Int)<=r.length)&&decide ((r.length:Int)<=12))||HE r):=by
  refine Ei (D4<|Aq<|QS rfl rfl rfl) λ_=>?_;have v:=ZJ (f:=AD 0) (t:=AV bC) (fe:=fC<|.int 1) (ρ:=[iL r,iI r.length,none,none]) (cap:=[]) rfl rfl O λp _=>⟨Aq<|AK (B8 (AJ (B8 (AJ rfl AR)<|OM p.1)<|AJ (B8 (AJ rfl AR)<|OM p.2) AR)<|L8 _ _) rfl<|Ic _ _,λ_=>⟨_,rfl,rfl⟩⟩
  refine Aq<|AK (B8 (AJ v AR)<|fW _) rfl ?_;rw[ADo]
  rfl
 unfold Ka;cases u:(!(decide ((3:Int)<=r.length)&&decide ((r.length:Int)<=12))||HE r)with
 |true=>
  rw[u]at q;exact DE<|(Bl q).trans rfl
 |false=>
  rw[u]at q;rw[sq<|(Bb q).trans rfl];simp only[AEe,Bool.not_eq_false',ADx,ADu]at u;obtain⟨⟨dz,Qx⟩,P⟩:=u;rw[cR,Bool.not_eq_false']at P;have hb:∀p∈r,Bd 1000 p:=λp hp=>by have:=Wo.mp<|AFo.mp P p hp;unfold Bd at *;and_intros<;>lia
  have v:CW [iL r,iI r.length,none,none]=some [.cl<|.lst<|AN r]:=rfl;have Z:ae [iL r,iI r.length,none,none] = some (!((dist r:Int)==(r.length))||(GQ r||decide (AH.Lc r<=0))):=by refine Ei (Aq<|AK (cH rfl rfl (X2 r) (by unfold kl;rw[ADo];lia)) rfl<|Ks _ _) λ_=>?_;exact Ei (Aq<|Ar v rfl<|YQ J J hb) λ_=>Aq<|AK (Ar v rfl<|mO J J hb) rfl<|Ie _ _
  cases D:(!((dist r:Int)==(r.length))||(GQ r||decide (AH.Lc r<=0)))with
  |true=>
   rw[D]at Z;exact DE<|(Bl Z).trans rfl
  |false=>
   rw[D]at Z;rw[sq<|(Bb Z).trans rfl];have F:Cs DQ [iL r,iI r.length,none,none]=some ((List.range r.length).map λk:Nat=>PV.int<|k):=EH rfl O;have H:=Ii (gt:=Aj 2) (λρ=>∃a b,ρ=[iL r,iI r.length,a,b]) (xs:=List.range r.length) ⟨none,none,rfl⟩ (by
    rintro k S ρ ⟨a,b,rfl⟩;have R:=AD2.mp S;refine⟨_,rfl,?_⟩;have B:Cs IE [iL r,iI r.length,iI k,b]=some ((List.range k).map λd:Nat=>PV.int<|d):=EH rfl J;have G:=Ii (enc:=λk:Nat=>PV.int<|k) (gt:=Aj 3) (body:=af)
     (c:=λj=>!(nb r.length<|(k)-j)&&BP (AA r<|(k)-1) (AA r k) (AA r<|(j)-1) (AA r j))
     (λρ=>∃b,ρ=[iL r,iI r.length,iI k,b]) (xs:=List.range k) ⟨b,rfl⟩ (by
     rintro j T ρ ⟨b,rfl⟩;have Cb:=AD2.mp T;refine⟨_,rfl,?_⟩;have y:AV aq [iL r,iI r.length,iI k,iI j]=some (!(nb r.length<|(k)-j)):=
      Aq (AK (AK (AK rfl rfl<|Dr _ _) rfl<|FT J) (D3 rfl rfl)<|OP _ _ _)
     have Y:AV aH [iL r,iI r.length,iI k,iI j]=some (BP (AA r<|(k)-1) (AA r k) (AA r<|(j)-1)<|AA r j):=
      Aq (Ar (AJ (AK rfl rfl<|Ce r ((k)-1) J<|MF R)<|AJ (AK rfl rfl<|Ce r (k) J<|Df R)<|AJ (AK rfl rfl<|Ce r ((j)-1) J J)<|AJ (AK rfl rfl<|Ce r (j) J J) AR) rfl<|YS (DP Du hb _) (DP Du hb _) (DP Du hb _)<|DP Du hb _)
     refine⟨λh=>?_,λh=>⟨_,?_,iI j,rfl⟩⟩
     .simp only[ADx]at h;rw[h.1]at y;rw[h.2]at Y;exact(Bl y).trans ((Bl Y).trans rfl)
     .cases Q:(!(nb r.length<|(k)-j))with
      |false=>rw[Q]at y;exact(Bb y).trans rfl
      |true=>
       rw[Q,AE5]at h;rw[Q]at y;rw[h]at Y;exact(Bl y).trans ((Bb Y).trans rfl))
    refine⟨λh=>?_,λh=>?_⟩
    .exact(CH B).trans (G.1 h)
    .obtain⟨ρ',e,b',rfl⟩:=G.2 h;exact⟨_,(CH B).trans e,_,_,rfl⟩)
   unfold NS;cases ha:(List.range r.length).any λk=>(List.range k).any λj=>!(nb r.length<|(k)-j)&&BP (AA r<|(k)-1) (AA r k) (AA r<|(j)-1) (AA r j)with
   |true=>exact DE<|(CH F).trans<|H.1 ha
   |false=>
    obtain⟨ρ',e,a,b,rfl⟩:=H.2 ha;rw[sq<|(CH F).trans e];rfl
theorem Yk(r:List Pt):J8 r=true↔AH.NJ r:=by
 delta J8 AH.NJ
 simp only[AEQ,AFF,AD2,ADx,not_and,Bool.not_eq_true];constructor
 .intro h k m q y h2 hn;have:=h k.toNat ADi (m-k-1).toNat;rw[AEJ q,AEJ J,show k+1+(m-k-1)=m by lia]at this;exact this ADj hn
 .intro h k v d hd y;exact h k (k+1+d) Ew (by clear y;lia) (by clear v;omega) y
theorem pG(r:List Pt):NS r=false↔AH.UB r:=by
 delta NS AH.UB
 simp only[AFF,AD2,ADx,not_and,Bool.not_eq_true,AEQ];constructor
 .intro h k j q y h2 hn;have:=h k.toNat ADi j.toNat J;rw[AEJ q,AEJ J]at this;unfold M;rw[<-AH.Rb,show k-1+1=k from Dt,show j-1+1=j from Dt];exact this hn
 .intro h k v j u y;have:=h k j Ew (Df u) (Df v) y;unfold M at this;rw[<-AH.Rb,show(k:Int)-1+1=k from We,show(j:Int)-1+1=j from We]at this;exact this
theorem rX(r:List Pt):Ka r=DK r:=by
 have y:(!NS r)=J8 r:=by rw[AEk,AEQ,pG,Yk];exact AH.nP r
 delta Ka DK
 simp only[y,cR,cY,AH.nU];have q:decide (0<AH.CJ r) = !decide (AH.CJ r<=0):=by rw[<-decide_not];apply AFQ.mpr;lia
 simp only[q];generalize (decide ((3:Int)<=r.length)&&decide ((r.length:Int)<=12))=b1;generalize r.all Ey=b2;generalize ((dist r:Int)==(r.length))=b3;generalize GQ r=b4;generalize decide (AH.CJ r<=0)=b5;generalize J8 r=b6;cases b1<;>cases b2<;>cases b3<;>cases b4<;>cases b5<;>cases b6<;>rfl
theorem HC{f g:EF}{ρ:AS}{s:List Int}{k:Int}(y:f ρ=some (.cl<|.rd<|Au s))(q:g ρ=cI k)(h:0<=k):AW E9 (AG f<|AG g AO) ρ=cI (AZ s k):=
 Ar (AJ y<|AJ q AR) rfl (YN s k h)
theorem IL{f:EF}{ρ:AS}{i:Int}(n:Int)(e:f ρ=cI i)(h:0<n:=by lia)(y:n<1073741824:=by lia):f2 De f (fC<|.int n) ρ=cI (i / n):=AK e rfl<|vT h y
theorem Eh{f:EF}{ρ:AS}{i:Int}(n:Int)(e:f ρ=cI i)(h:0<n:=by lia):f2 BY f (fC<|.int n) ρ=cI (i%n):=AK e rfl<|FT h
theorem JP{f g:EF}{ρ:AS}{i j:Int}(e:f ρ=cI i)(y:g ρ=cI j):f2 As f g ρ=cI (i+j):=AK e y<|IZ _ _
theorem Ll{f g:EF}{ρ:AS}{i j:Int}(e:f ρ=cI i)(y:g ρ=cI j):f2 BL f g ρ=cI (i-j):=AK e y<|Dr _ _
theorem KN{f:EF}{ρ:AS}{i:Int}(n:Int)(e:f ρ=cI i):AV (f2 B0 f<|fC<|.int n) ρ=some (i==n):=Aq<|AK e rfl<|Ko _ _
def Fc(s:List Int)(k count mode:Int)(b:Int×List Pt×List Pt)(d:Nat):Int×List Pt×List Pt:=
 let x:=if mode=3 then 1+(d:Int)else b.1+1+AZ s (k+4+(1+(d:Int))) / 2%4
 let y:=if mode=3 then(1+(d:Int))*(count-1-(1+(d:Int)))else 1+AZ s (k+4+(1+(d:Int))) / 8%9
 if AZ s (k+4+(1+(d:Int)))%2=0 then(x,b.2.1 ++ [(x,0-y)],b.2.2)else(x,b.2.1,b.2.2 ++ [(x,y)])
def Ck(s:List Int)(k count:Int):Int×List Pt×List Pt:=(List.range (count-2).toNat).foldl (Fc s k count<|AZ s (k+1)%4) (0,[],[])
noncomputable def Ee(count:Int):List Pt:=(List.range count.toNat).map λj:Nat=>((j:Int),0-(j:Int)*(count-1-j))
noncomputable def Ak(b:Int×List Pt×List Pt):List Pt:=[(0,0)]++b.2.1 ++ [(b.1+1,0)]++b.2.2.reverse
def Gk(s:List Int)(k count:Int):List Pt:=if GQ (Ak<|Ck s k count)=true then Ee count else Ak (Ck s k count)
structure LW(i:Nat)(b:Int×List Pt×List Pt):Prop where
 lo:0<=b.1
 hi:b.1<=4*i
 len:b.2.1.length+b.2.2.length=i
 bl:∀p∈b.2.1,Bd 500 p
 bh:∀p∈b.2.2,Bd 500 p
theorem h9{a b:Int}{n m:Int}(v : -n<=a)(u:a<=n)(h3 : -m<=b)(Z:b<=m) : -(n*m)<=a*b/\a*b<=n*m:=by
 have hm:0<=m:=J
 constructor
 .rcases AGC 0 a with ha|ha
  .have y:=AD8 h3 ha;have q:=AEP u hm;rw[AGf]at y;lia
  .have y:=AHS ha Z;have q:=AEP v hm;lia
 .rcases AGC 0 a with ha|ha
  .have y:=AD8 Z ha;have q:=AEP u hm;lia
  .have y:=AHS ha h3;have q:=AEP v hm;rw[AGf]at y;lia
theorem jG{s:List Int}{k count mode:Int}{i:Nat}{b:Int×List Pt×List Pt}(h1:3<=count)(h2:count<=12)(hi:(i)<count-2)(h:LW i b):LW (i+1)<|Fc s k count mode b i:=by
 obtain⟨v,low,Bq⟩:=b;obtain⟨lo,hh,len,bl,bh⟩:=h;dsimp only at lo hh len bl bh;have u:∀x,x=(if mode=3 then 1+(i:Int)else v+1+AZ s (k+4+(1+(i))) / 2%4)->0<=x/\x<=4*((i)+1):=λx e=>by subst e;split<;>lia
 have Z:∀y,y=(if mode=3 then(1+(i))*(count-1-(1+(i)))else 1+AZ s (k+4+(1+(i))) / 8%9)->-121<=y/\y<=121:=λy e=>by
  subst e;split
  .have:=h9 (n:=11) (m:=11) (a:=1+(i)) (b:=count-1-(1+(i))) J J J J
   assumption
  .lia
 unfold Fc;dsimp only;generalize ex:(if mode=3 then 1+(i:Int)else v+1+AZ s (k+4+(1+(i))) / 2%4)=x;generalize Y:(if mode=3 then(1+(i))*(count-1-(1+(i)))else 1+AZ s (k+4+(1+(i))) / 8%9)=y;have q:=u x ex.symm;have ui:=Z y Y.symm;split
 .refine⟨q.1,by exact q.2,by simp;lia,λp hp=>?_,bh⟩;rcases AD7.mp hp with z|z
  .exact bl p z
  .rw[ADv.mp z];unfold Bd;dsimp only;and_intros<;>lia
 .refine⟨q.1,by exact q.2,by simp;lia,bl,λp hp=>?_⟩;rcases AD7.mp hp with z|z
  .exact bh p z
  .rw[ADv.mp z];unfold Bd;dsimp only;and_intros<;>lia
theorem cq{s:List Int}{k count mode:Int}(y:3<=count)(q:count<=12):∀n:Nat,(n)<=count-2->LW n ((List.range n).foldl (Fc s k count mode) (0,[],[]))
 |0,_=>⟨ADk,ADk,rfl,(λp hp=>by cases hp),(λp hp=>by cases hp)⟩
 |n+1,hn=>by rw[AFN,AF6];exact jG y q ADn<|cq y q n J
theorem jF(s:List Int)(k:Int){count:Int}(q:3<=count)(y:count<=12):LW (count-2).toNat<|Ck s k count:=cq q y _ (by clear y;omega)
theorem SU(b:Int×List Pt×List Pt):(Ak b).length=b.2.1.length+b.2.2.length+2:=by simp[Ak];lia
theorem AA9{i:Nat}{b:Int×List Pt×List Pt}(h:LW i b)(hi:i<=100):∀p∈Ak b,Bd 1000 p:=λp hp=>by
 unfold Ak at hp;simp only[AD7,ADv,AFx]at hp;have:=h.lo;have:=h.hi;rcases hp with((rfl|hp)|rfl)|hp
 .unfold Bd;lia
 .have:=h.bl p hp;unfold Bd at *;lia
 .unfold Bd;lia
 .have:=h.bh p hp;unfold Bd at *;lia
theorem MU(a b:List Pt):AN (a++b)=AN a++AN b:=AEl ..
theorem fS(l:List Pt)(p:Pt)(h:l.length<1000):FR (AN l) [pv p]=some (AN<|l ++ [p]):=by
 unfold FR;dsimp only;rw[ADr (by rw[CU];exact h),MU]
 rfl
theorem Rh{i:Nat}{k:List PV->List PV->Option (List PV)}{ga:AF}{ρ:AS}{ps qs y:List PV}{rs:List RV}(h:ρ[i]? = some (some<|.own ps))(e:ga ρ=some rs)(c:C8 rs=some qs)(q:k ps qs=some y):DT i k ga ρ=some (.nx<|ρ.set i<|some<|.own y):=by unfold DT;rw[h,e];dsimp only;rw[c];dsimp only;rw[q]
theorem Ia{x y:RV}{xs ys:List PV}(q:x.list=some xs)(v:y.list=some ys)(h:xs.length+ys.length<=1000):As x y=some (.fr<|xs++ys):=by
 have hc:ON x y=some (.fr<|xs++ys):=by unfold ON;rw[q,v];dsimp only;rw[ADr h]
 unfold As;split
 .contradiction
 .exact hc
theorem cJ{f:EF}{ρ:AS}{r:RV}{ps:List PV}(e:f ρ=some r)(h:r.list=some ps):GP f ρ=some (.fr ps.reverse):=by unfold GP;rw[e];dsimp only;rw[h]
theorem mZ(s:List Int)(k count:Int)(S:0<=k)(F:3<=count)(R:count<=12):Tf [.rd<|Au s,.int k,.int count]=some (.cl<|.lst<|AN<|Gk s k count):=by
 refine Bi rfl ?_;unfold Zi;rw[sq<|A1 (Eh 4<|HC rfl rfl<|ET S) rfl];generalize T:AZ s (k+1)%4=mode;have C:Ck s k count=(List.range (count-2).toNat).foldl (Fc s k count mode) (0,[],[]):=by unfold Ck;rw[T]
 show AM _ _ [iM<|.rd<|Au s,iI k,iI count,iI mode,iI 0,some<|.own [],some<|.own [],none,none,none,none]=_;have E:EI Ut [iM<|.rd<|Au s,iI k,iI count,iI mode,iI 0,some<|.own [],some<|.own [],none,none,none,none]=some ((List.range (count-2).toNat).map λd:Nat=>PV.int<|1+(d)):=by unfold EI;rw[show Ut [iM<|.rd<|Au s,iI k,iI count,iI mode,iI 0,some<|.own [],some<|.own [],none,none,none,none]=some [.cl<|.int 1,.cl<|.int<|count-1]from rfl];dsimp only;rw[ADr ⟨⟨J,J⟩,⟨J,J⟩⟩,jT,show(count-1-1).toNat=(count-2).toNat by lia]
 obtain⟨ρ',e,⟨v,u,Z,rfl⟩,AX⟩:=Kv (enc:=λd:Nat=>PV.int<|1+(d)) (gt:=Aj 7) (body:=Ui)
  (Fc s k count mode) (λi b ρ=>(∃v u Z,ρ=[iM<|.rd<|Au s,iI k,iI count,iI mode,iI b.1,some<|.own<|AN b.2.1,some<|.own<|AN b.2.2,v,u,Z,none])/\LW i b)
  (xs:=List.range (count-2).toNat) (n:=0) (b:=(0,[],[])) ⟨⟨none,none,none,rfl⟩,ADk,ADk,rfl,(λp hp=>by cases hp),(λp hp=>by cases hp)⟩ (by
  rintro i d hd b ρ ⟨⟨v,u,Z,rfl⟩,AX⟩;have tS:=by have:=(ADw.mp hd).1;simpa using this
  have H:=by have:=(ADw.mp hd).2;simpa using this.symm
  subst H;rw[AFD]at AX;have I:=jG (s:=s) (k:=k) (mode:=mode) F R ADn AX;have D:=AX.len;obtain⟨Y,low,q⟩:=b;refine⟨_,[iM<|.rd<|Au s,iI k,iI count,iI mode,iI<|(Fc s k count mode (Y,low,q) d).1,some<|.own<|AN (Fc s k count mode (Y,low,q) d).2.1,some<|.own<|AN (Fc s k count mode (Y,low,q) d).2.2,iI<|1+(d),iI<|AZ s<|k+4+(1+(d)),iI (if mode=3 then(1+(d))*(count-1-(1+(d)))else 1+AZ s (k+4+(1+(d))) / 8%9),none],rfl,?_,⟨_,_,_,rfl⟩,by rw[AFD];exact I⟩;dsimp only at D;unfold Fc
  delta Ui
  rw[sq<|A1 (HC rfl rfl J) rfl];generalize AZ s (k+4+(1+(d)))=c;show AM _ _ [iM<|.rd<|Au s,iI k,iI count,iI mode,iI<|Y+1+c / 2%4,some<|.own<|AN low,some<|.own<|AN q,iI<|1+(d),iI c,iI<|1+c / 8%9,none]=_;have Q:=KN (f:=AD 3) (ρ:=[iM<|.rd<|Au s,iI k,iI count,iI mode,iI<|Y+1+c / 2%4,some<|.own<|AN low,some<|.own<|AN q,iI<|1+(d),iI c,iI<|1+c / 8%9,none]) 3 rfl;have fin:∀x y:Int,QJ [iM<|.rd<|Au s,iI k,iI count,iI mode,iI x,some<|.own<|AN low,some<|.own<|AN q,iI<|1+(d),iI c,iI y,none] = some (.nx [iM<|.rd<|Au s,iI k,iI count,iI mode,iI ((if c%2=0 then(x,low ++ [(x,0-y)],q)else(x,low,q ++ [(x,y)])).1),some (.own (AN (if c%2=0 then(x,low ++ [(x,0-y)],q)else(x,low,q ++ [(x,y)])).2.1)),some (.own (AN (if c%2=0 then(x,low ++ [(x,0-y)],q)else(x,low,q ++ [(x,y)])).2.2)),iI<|1+(d),iI c,iI y,none]):=λx y=>by
   have O:=KN (f:=f2 BY (AD 8)<|fC<|.int 2) (ρ:=[iM<|.rd<|Au s,iI k,iI count,iI mode,iI x,some<|.own<|AN low,some<|.own<|AN q,iI<|1+(d),iI c,iI y,none]) 0<|Eh 2 rfl;by_cases hc:c%2=0
   .rw[show(c%2==0)=true by simp[hc]]at O
    delta QJ
    rw[Bl O,ADr hc];exact Rh rfl (AJ (x:=.cl<|pv (x,0-y)) rfl AR) rfl<|fS low _ J
   .rw[show(c%2==0)=false by simp[hc]]at O
    delta QJ
    rw[Bb O,ADs hc];exact Rh rfl (AJ (x:=.cl<|pv (x,y)) rfl AR) rfl<|fS q _ J
  by_cases hm:mode=3
  .rw[show(mode==3)=true by simp[hm]]at Q;simp only[ADr hm];refine Eq.trans (sq<|(Bl Q).trans ?_)<|fin _ _;refine(sq<|A1 rfl rfl).trans ?_;refine(A1 (AK rfl rfl<|Fw<|GH J) rfl)
  .rw[show(mode==3)=false by simp[hm]]at Q;simp only[ADs hm];exact(sq<|(Bb Q).trans rfl).trans (fin _ _))
 rw[sq<|(CH E).trans e,<-C];have B:=jF s k F R;have D:=B.len;have hrl:=SU<|Ck s k count;have U:f2 As aK (GP<|AD 6) [iM<|.rd<|Au s,iI k,iI count,iI mode,iI<|(Ck s k count).1,some<|.own<|AN (Ck s k count).2.1,some<|.own<|AN (Ck s k count).2.2,v,u,Z,none]=some (.fr<|AN<|Ak<|Ck s k count):=by
  have l1:=CU (Ck s k count).2.1;have l2:=CU (Ck s k count).2.2;refine(AK (AK (AK rfl rfl<|Ia rfl rfl (by simp;grind)) rfl<|Ia rfl rfl (by simp;grind)) (cJ rfl rfl)<|Ia rfl rfl (by simp;grind)).trans ?_;unfold Ak;rw[MU,MU];unfold AN;rw[List.map_reverse]
  rfl
 rw[sq<|A1 U rfl];have P:=Aq (Ar (ρ:=[iM<|.rd<|Au s,iI k,iI count,iI mode,iI<|(Ck s k count).1,some<|.own<|AN (Ck s k count).2.1,some<|.own<|AN (Ck s k count).2.2,v,u,Z,iL<|Ak<|Ck s k count]) (AJ (f:=AD 10) rfl AR) rfl<|YQ ADi (by clear D;lia)<|AA9 B ADi);unfold Gk;cases G:GQ (Ak<|Ck s k count)with
 |false=>
  rw[G]at P;exact(sq<|(Bb P).trans rfl).trans rfl
 |true=>
  simp only[G]at P;have t:count=(count.toNat):=ADi
  have eb:BH (Cs IE) 1 [2] (Aj 0) Bk aw [iM<|.rd<|Au s,iI k,iI count,iI mode,iI<|(Ck s k count).1,some<|.own<|AN (Ck s k count).2.1,some<|.own<|AN (Ck s k count).2.2,v,u,Z,iL<|Ak<|Ck s k count]=some (.fr<|AN<|Ee count):=by
   refine DS (EH (by rw[<-t];rfl) J) (by simp;lia) ?_
   delta Ee AN
   simp only[AEH];refine GJ λj hj=>⟨_,.cl<|pv ((j),0-(j)*(count-1-j)),rfl,?_,rfl⟩;have Cb:=AD2.mp hj;exact JR (AJ rfl<|AJ (Ll rfl<|AK rfl rfl<|Fw<|GH J) AR) rfl
  exact(sq<|(Bl P).trans<|A1 eb rfl).trans rfl
def wx(s:List Int)(k:Int):Nat->Int
 |0=>0
 |i+1=>wx s k i+1+AZ s (k+5+(i:Int))%4
def wy(s:List Int)(k:Int):Nat->Int
 |0=>0
 |i+1=>wy s k i+1+AZ s (k+5+(i:Int)) / 4%4
def Mn(s:List Int)(k:Int):List Pt:=
 [(wx s k 0,wy s k 0),(wx s k 5,wy s k 0),(wx s k 5,wy s k 5),(wx s k 1,wy s k 5),(wx s k 1,wy s k 2),(wx s k 3,wy s k 2),(wx s k 3,wy s k 3),(wx s k 2,wy s k 3),(wx s k 2,wy s k 4),(wx s k 4,wy s k 4),(wx s k 4,wy s k 1),(wx s k 0,wy s k 1)]
noncomputable def upTo(f:Nat->Int)(n:Nat):List PV:=(List.range<|n+1).map λi=>PV.int<|f i
theorem lF(f:Nat->Int)(n:Nat):upTo f (n+1)=upTo f n ++ [.int<|f<|n+1]:=by unfold upTo;rw[AFN,AEl];rfl
theorem lE(f:Nat->Int)(n:Nat):Am (.bo<|upTo f n) (.cl<|.int (-1))=cI (f n):=by
 show(CP (upTo f n) (-1)).map _=_;have:CP (upTo f n) (-1)=some (.int<|f n):=by
  have y:(upTo f n).length=n+1:=by simp[upTo]
  delta CP Gb
  rw[y,ADs J,ADr (by clear y;lia),show(-1+((n+1:Nat):Int)).toNat=n by lia];simp[upTo]
 rw[this];rfl
theorem fQ(l:List PV)(p:PV)(h:l.length<1000):FR l [p]=some (l ++ [p]):=by unfold FR;dsimp only;rw[ADr h]
theorem mq(s:List Int)(k:Int)(h0:0<=k):Th [.rd<|Au s,.int k]=some (.fr<|AN<|Mn s k):=by
 refine Bi rfl ?_;show AM _ _ [iM<|.rd<|Au s,iI k,some<|.own [.int 0],some<|.own [.int 0],none,none,none]=_;have v:Cs (AG (fC<|.int 5) AO) [iM<|.rd<|Au s,iI k,some<|.own [.int 0],some<|.own [.int 0],none,none,none]=some ((List.range 5).map λd:Nat=>PV.int<|d):=EH rfl J;obtain⟨ρ',e,y,q,rfl⟩:=Kv (enc:=λd:Nat=>PV.int<|d) (gt:=Aj 4) (body:=Uj)
  (λ(u)(_)=>u) (λi _ ρ=>∃y q,ρ=[iM<|.rd<|Au s,iI k,some<|.own<|upTo (wx s k) i,some<|.own<|upTo (wy s k) i,y,q,none]) (xs:=List.range 5) (b:=()) ⟨none,none,rfl⟩ (by
  rintro i d hd _ ρ ⟨y,q,rfl⟩;have Z:=by have:=(ADw.mp hd).2;simpa using this.symm
  have tS:=by have:=(ADw.mp hd).1;simpa using this
  subst Z;rw[AFD];have HL:(upTo (wx s k) d).length=d+1:=by simp[upTo]
  have HM:(upTo (wy s k) d).length=d+1:=by simp[upTo]
  refine⟨_,[iM<|.rd<|Au s,iI k,some<|.own<|upTo (wx s k)<|d+1,some<|.own<|upTo (wy s k)<|d+1,iI d,iI<|AZ s<|k+5+(d),none],rfl,?_,_,_,rfl⟩
  delta Uj
  rw[sq<|A1 (HC rfl rfl J) rfl];simp only[lF,lF,wx,wy];refine(sq<|Rh rfl (AJ (JP (JP (AK rfl rfl<|lE _ _) rfl)<|Eh 4 rfl) AR) rfl<|fQ _ _ J).trans ?_;exact(Rh rfl (AJ (JP (JP (AK rfl rfl<|lE _ _) rfl)<|Eh 4<|IL 4 rfl) AR) rfl<|fQ _ _ J))
 rw[sq<|(CH v).trans e];refine(sq<|A1 rfl rfl).trans ?_;exact SK rfl
theorem pK(r:List Pt)(n:Nat)(h:n<=r.length):KC (AN r) none (some<|n)=AN (r.take n):=by unfold KC;rw[HT.Xc,HT.Xb,CU,List.drop_zero,Nat.sub_zero,AH4 h,AN,AN,List.map_take]
theorem pJ(r:List Pt)(n:Nat)(h:n<=r.length):KC (AN r) (some<|n) none=AN (r.drop n):=by unfold KC;rw[HT.Xc,HT.Xb,CU,AH4 h,AFv (by simp[AN]),AN,AN,List.map_drop]
theorem cK{f g:EF}{ρ:AS}{rv:RV}{r:List Pt}{n:Nat}(e:f ρ=some rv)(y:rv.list=some (AN r))(q:g ρ=cI n)(h:n<=r.length):EJ f Ek (EG g) ρ=some (.fr<|AN<|r.take n):=by
 delta EJ Ek EG
 rw[e,q];dsimp only;rw[y];dsimp only;rw[pK r n h]
theorem cE{f g:EF}{ρ:AS}{rv:RV}{r:List Pt}{n:Nat}(e:f ρ=some rv)(y:rv.list=some (AN r))(q:g ρ=cI n)(h:n<=r.length):EJ f (EG g) Ek ρ=some (.fr<|AN<|r.drop n):=by
 delta EJ Ek EG
 rw[e,q];dsimp only;rw[y];dsimp only;rw[pJ r n h]
noncomputable def Dg(r:List Pt)(c:Int):Nat:=(c%(r.length:Int)).toNat
theorem R8{r:List Pt}(h:0<r.length)(c:Int):Dg r c<r.length:=by have h2:=AEL c (b:=(r.length))<|Ij h;unfold Dg;lia
theorem jI{r:List Pt}(h:0<r.length)(c:Int):c%(r.length)=(Dg r c):=by have h1:=AEZ c (b:=(r.length))<|Oc h;unfold Dg;lia
def E1(r:List Pt)(c:Int):Pt:=((AA r<|Dg r c).1+c / 16%33-16,(AA r<|Dg r c).2+c / 1024%33-16)
def Hf(r:List Pt)(c:Int):List Pt:=r.take (Dg r c) ++ [E1 r c]++r.drop (Dg r c+1)
def MT(s:List Int)(k:Int)(r:List Pt)(d:Nat):List Pt:=
 let c:=AZ s<|k+15+(d:Int)
 if(decide (max (Dd (E1 r c).1) (Dd (E1 r c).2)<80)&&Ka (Hf r c))=true then Hf r c else r
def MS(s:List Int)(k:Int)(r:List Pt):List Pt:=(List.range (AZ s (k+1) / 4%5).toNat).foldl (MT s k) r
theorem zQ{r:List Pt}(h:0<r.length)(c:Int):(Hf r c).length=r.length:=by
 have:=R8 h c;unfold Hf;simp only[AD1,AEq,AD5,AFe,AFm]
 grind
theorem mf(s:List Int)(k:Int)(G:0<=k){r:List Pt}(h1:0<r.length)(h2:r.length<=100):Tg [.rd<|Au s,.int k,.lst<|AN r]=some (.cl<|.lst<|AN<|MS s k r)/\(MS s k r).length=r.length:=by
 have hn:AZ s (k+1) / 4%5=((AZ s (k+1) / 4%5).toNat):=J
 have S:Cs au (BD 9 [.rd<|Au s,.int k,.lst<|AN r])=some ((List.range (AZ s (k+1) / 4%5).toNat).map λd:Nat=>PV.int<|d):=
  EH (AJ (by rw[<-hn];exact Eh 5<|IL 4<|HC rfl rfl<|ET G) AR) J
 obtain⟨ρ',e,⟨P,v,u,Z,Y,Q,rfl⟩,T⟩:=WX (gt:=Aj 3) (body:=Z3) (MT s k) (λ(q) ρ=>(∃P v u Z Y Q,ρ=[iM<|.rd<|Au s,iI k,iL q,P,v,u,Z,Y,Q])/\q.length=r.length) (ρ:=BD 9 [.rd<|Au s,.int k,.lst<|AN r]) ⟨⟨none,none,none,none,none,none,rfl⟩,rfl⟩ (by
  rintro d hd q ρ ⟨⟨P,v,u,Z,Y,Q,rfl⟩,D⟩;have F:0<q.length:=J
  unfold MT;dsimp only;have R:=HC (f:=AD 0) (g:=f2 As (f2 As (AD 1)<|fC<|.int 15)<|AD 3) (ρ:=[iM<|.rd<|Au s,iI k,iL q,iI d,v,u,Z,Y,Q]) rfl rfl J;generalize AZ s (k+15+(d))=c at R ⊢;have hp:=R8 F c;have B:Am (.cl<|.lst<|AN q) (.cl<|.int<|Dg q c)=some (.cl<|pv<|AA q<|Dg q c):=Ce q _ (by clear D;lia) (by clear D;lia);have C:=CU q;have uZ:=zQ F c;have pre:∀h:SF,AM bG (AM (Aa 5<|f2 BY (AD 4) NW)<|AM aU<|AM aS<|AM aO h)
    [iM<|.rd<|Au s,iI k,iL q,iI d,v,u,Z,Y,Q] =
    h [some<|.im<|.rd<|Au s,some<|.im<|.int k,some<|.im<|.lst<|AN q,some<|.im<|.int d,some<|.im<|.int c,some<|.im<|.int<|Dg q c,some<|.im<|.int (E1 q c).1,some<|.im<|.int (E1 q c).2,some<|.im<|.lst<|AN<|Hf q c]:=λh=>by
   rw[sq<|A1 R rfl];refine(sq (A1 (r:=.cl<|.int<|Dg q c) (by rw[<-(jI F c),<-C];exact AK rfl rfl<|FT J) rfl)).trans ?_
   refine(sq<|A1 (Ll (JP (AK (AK rfl rfl B) rfl<|DA _)<|Eh 33<|IL 16 rfl) rfl) rfl).trans ?_;refine(sq<|A1 (Ll (JP (AK (AK rfl rfl B) rfl<|DJ _)<|Eh 33<|IL 1024 rfl) rfl) rfl).trans ?_;refine(sq<|A1 (AK (AK (cK rfl rfl rfl ADi) (y:=.fr [pv<|E1 q c]) rfl<|Ia rfl rfl (by simp[AN];grind)) (cE rfl rfl rfl ADn)<|Ia rfl rfl (by simp[AN];grind)) rfl).trans ?_;unfold Hf;simp only[MU,MU]
   rfl
  have O:aY [iM<|.rd<|Au s,iI k,iL q,iI d,iI c,iI<|Dg q c,iI<|(E1 q c).1,iI<|(E1 q c).2,iL<|Hf q c] = some (decide (max (Dd (E1 q c).1) (Dd (E1 q c).2)<80)&&Ka (Hf q c)):=
   JQ (Aq<|AK (B8 (AJ (B8 (AJ rfl AR)<|OM _)<|AJ (B8 (AJ rfl AR)<|OM _) AR)<|L8 _ _) rfl<|Ig _ _) λ_=>Aq<|Ar (AJ rfl AR) rfl<|mJ J
  cases hb:(decide (max (Dd (E1 q c).1) (Dd (E1 q c).2)<80)&&Ka (Hf q c))with
  |true=>
   rw[hb]at O;rw[ADr rfl];exact⟨_,_,rfl,(pre _).trans<|(Bl O).trans<|A1 rfl rfl,⟨_,_,_,_,_,_,rfl⟩,J⟩
  |false=>
   rw[hb]at O;exact⟨_,_,rfl,(pre _).trans<|(Bb O).trans rfl,⟨_,_,_,_,_,_,rfl⟩,D⟩)
 refine⟨Bi rfl ?_,T⟩;exact(sq<|(CH S).trans e).trans rfl
noncomputable def Hg(z:Int)(p:Pt):Pt:=(p.1+z*p.2,p.2)
noncomputable def KR(p:Pt):Pt:=(0-p.1,p.2)
noncomputable def KS(p:Pt):Pt:=(p.1,0-p.2)
noncomputable def LL(p:Pt):Pt:=(p.2,p.1)
noncomputable def Jv(x y:Int)(p:Pt):Pt:=(p.1+x,p.2+y)
def D2(s:List Int)(k most:Int):List Pt:=if most=12/\AZ s (k+1) / 20%6=5 then Mn s k else Gk s k (3+AZ s k%(most-2))
def Dk(s:List Int)(k:Int):Int:=AZ s (k+2) / 8%3-1
def E2(s:List Int)(k most:Int):List Pt:=MS s k<|(D2 s k most).map<|Hg<|Dk s k
def Hj(s:List Int)(k:Int)(r:List Pt):List Pt:=if AZ s (k+2)%8%2=1 then(r.map KR).reverse else r
def LP(s:List Int)(k:Int)(r:List Pt):List Pt:=if AZ s (k+2)%8 / 2%2=1 then(r.map KS).reverse else r
def S0(s:List Int)(k:Int)(r:List Pt):List Pt:=if AZ s (k+2)%8 / 4=1 then(r.map LL).reverse else r
def DV(s:List Int)(k most:Int):List Pt:=S0 s k<|LP s k<|Hj s k<|E2 s k most
noncomputable def LC(r:List Pt)(n:Nat):List Pt:=r.drop n++r.take n
def drawn(s:List Int)(k most:Int):List Pt:=(LC (DV s k most)<|Dg (DV s k most)<|AZ s<|k+3).map<|Jv (AZ s (k+3) / 16%41-20)<|AZ s (k+4)%41-20
theorem yx(s:List Int)(k:Int){count:Int}(y:3<=count)(q:count<=12):((Gk s k count).length)=count:=by
 have h:=(jF s k y q).len;unfold Gk;split
 .simp[Ee];grind
 .rw[SU];grind
theorem ng(s:List Int)(k:Int){most:Int}(y:3<=most)(h2:most<=12):3<=(D2 s k most).length/\((D2 s k most).length)<=most:=by
 unfold D2;split
 .simp[Mn];lia
 .have a:=AEZ (AZ s k) (b:=most-2) J;have b:=AEL (AZ s k) (b:=most-2) (by clear a;lia);have:=yx s k (count:=3+AZ s k%(most-2)) ADj (by clear y;omega);omega
theorem X3(s:List Int)(k:Int)(r:List Pt):(Hj s k r).length=r.length:=by unfold Hj;split<;>simp
theorem k9(s:List Int)(k:Int)(r:List Pt):(LP s k r).length=r.length:=by unfold LP;split<;>simp
theorem ACK(s:List Int)(k:Int)(r:List Pt):(S0 s k r).length=r.length:=by unfold S0;split<;>simp
theorem AA5(r:List Pt)(q:Pt->Pt):(r.map<|pv∘q).reverse=AN ((r.map q).reverse):=by unfold AN;rw[List.map_reverse,AEH]
theorem YX(s:List Int)(k most:Int)(v:0<=k)(T:3<=most)(C:most<=12):PZ [.rd<|Au s,.int k,.int most]=some (.fr<|AN<|drawn s k most)/\3<=(drawn s k most).length/\((drawn s k most).length)<=most:=by
 have hb:=ng s k T C;have R:=mf s k v (r:=(D2 s k most).map<|Hg<|Dk s k) (by simp;omega) (by simp;lia);have E:(E2 s k most).length=(D2 s k most).length:=by simp only[E2,R.2,ADo]
 have uZ:(DV s k most).length=(D2 s k most).length:=by simp only[DV,ACK,k9,X3,E]
 have VV:(drawn s k most).length=(D2 s k most).length:=by
  delta drawn LC
  simp only[ADo,AD1,AFm,AEq]
  grind
 refine⟨?_,J,J⟩;refine Bi rfl ?_;unfold Zj;have em:=AEZ (AZ s k) (b:=most-2) J;have em2:=AEL (AZ s k) (b:=most-2) J;rw[sq<|A1 (HC rfl rfl v) rfl];rw[sq<|A1 (Ar (AJ rfl<|AJ rfl<|AJ (JP rfl<|AK rfl rfl<|FT J) AR) rfl<|mZ s k (3+AZ s k%(most-2)) v ADj J) rfl];show AM _ _ [iM<|.rd<|Au s,iI k,iI most,iI<|AZ s k,iL<|Gk s k<|3+AZ s k%(most-2),none,none,none,none,none]=_;have H:Z6 [iM<|.rd<|Au s,iI k,iI most,iI<|AZ s k,iL<|Gk s k<|3+AZ s k%(most-2),none,none,none,none,none] = some (.nx [iM<|.rd<|Au s,iI k,iI most,iI<|AZ s k,iL<|D2 s k most,none,none,none,none,none]):=by
  have y:=JQ (KN (f:=AD 2) (ρ:=[iM<|.rd<|Au s,iI k,iI most,iI<|AZ s k,iL<|Gk s k<|3+AZ s k%(most-2),none,none,none,none,none]) 12 rfl) λ_=>KN 5<|Eh 6<|IL 20<|HC (f:=AD 0) (g:=f2 As (AD 1)<|fC<|.int 1) rfl rfl<|ET v;unfold D2;by_cases hc:most=12/\AZ s (k+1) / 20%6=5
  .rw[show(most==12&&AZ s (k+1) / 20%6==5)=true by simp[hc.1,hc.2]]at y;rw[ADr hc];exact(Bl y).trans (A1 (Ar (AJ rfl<|AJ rfl AR) rfl<|mq s k v) rfl)
  .rw[show(most==12&&AZ s (k+1) / 20%6==5)=false by rw[Bool.eq_false_iff];intro z;simp at z;exact hc z]at y
   rw[ADs hc];exact(Bb y).trans rfl
 rw[sq H];have B:∀(u Z Y Q O P:Option SV),Ur [iM<|.rd<|Au s,iI k,iI most,iI<|AZ s k,u,Z,Y,Q,O,P]=cI (AZ s<|k+2):=λ_ _ _ _ _ _=>HC rfl rfl J;have G:∀(u Z Y Q O P:Option SV),QL [iM<|.rd<|Au s,iI k,iI most,iI<|AZ s k,u,Z,Y,Q,O,P]=cI (AZ s<|k+3):=λ_ _ _ _ _ _=>HC rfl rfl J;have I:∀(u Z Y Q O P:Option SV),AW E9 (AG (AD 0)<|AG (f2 As (AD 1)<|fC<|.int 4) AO) [iM<|.rd<|Au s,iI k,iI most,iI<|AZ s k,u,Z,Y,Q,O,P]=cI (AZ s<|k+4):=λ_ _ _ _ _ _=>HC rfl rfl J;rw[sq<|A1 (Ll (Eh 3<|IL 8<|B _ _ _ _ _ _) rfl) rfl];show AM _ _ [iM<|.rd<|Au s,iI k,iI most,iI<|AZ s k,iL<|D2 s k most,iI<|Dk s k,none,none,none,none]=_;have U:BH IH 2 [5] GN Bk bX [iM<|.rd<|Au s,iI k,iI most,iI<|AZ s k,iL<|D2 s k most,iI<|Dk s k,none,none,none,none] = some (.fr<|AN<|(D2 s k most).map<|Hg<|Dk s k):=by unfold AN;rw[AEH];refine UZ rfl rfl J λp _=>⟨.cl<|pv<|Hg (Dk s k) p,?_,rfl⟩;exact JR (AJ (JP rfl<|AK rfl rfl<|Fw<|GH (by unfold Dk;lia))<|AJ rfl AR) rfl
 rw[sq<|A1 (Ar (AJ rfl<|AJ rfl<|AJ U AR) rfl R.1) rfl];show AM _ _ [iM<|.rd<|Au s,iI k,iI most,iI<|AZ s k,iL<|E2 s k most,iI<|Dk s k,none,none,none,none]=_;rw[sq<|A1 (Eh 8<|B _ _ _ _ _ _) rfl];show AM _ _ [iM<|.rd<|Au s,iI k,iI most,iI<|AZ s k,iL<|E2 s k most,iI<|Dk s k,iI<|AZ s (k+2)%8,none,none,none]=_;have tn:∀(q:Pt->Pt)(f:EF)(t:BF)(b:Bool)(r:List Pt),r.length<=1000->t [iM<|.rd<|Au s,iI k,iI most,iI<|AZ s k,iL r,iI<|Dk s k,iI<|AZ s (k+2)%8,none,none,none]=some b->(∀p:Pt,f [iI p.1,iI p.2]=some (.cl<|pv<|q p))->A2 t (Aa 4<|GP<|BH IH 2 [] GN Bk f) BI [iM<|.rd<|Au s,iI k,iI most,iI<|AZ s k,iL r,iI<|Dk s k,iI<|AZ s (k+2)%8,none,none,none] = some (.nx [some<|.im<|.rd<|Au s,some<|.im<|.int k,some<|.im<|.int most,some<|.im<|.int<|AZ s k,some (.im (.lst (AN (if b=true then(r.map q).reverse else r)))),some<|.im<|.int<|Dk s k,some<|.im<|.int<|AZ s (k+2)%8,none,none,none]):=λq f t b r x y e=>by
  cases b with
  |false=>exact(Bb y).trans rfl
  |true=>
   rw[ADr rfl,Bl y];rw[<-AA5];exact A1 (cJ (UZ (f:=AD 4) (ρ:=[iM<|.rd<|Au s,iI k,iI most,iI<|AZ s k,iL r,iI<|Dk s k,iI<|AZ s (k+2)%8,none,none,none]) (cap:=[]) (h:=pv∘q) rfl rfl x λp _=>⟨_,e p,rfl⟩) rfl) rfl
 have D:∀i n:Int,∀r F:List Pt,(if(i==n)=true then r else F)=(if i=n then r else F):=λi n r F=>by
  by_cases h:i=n
  .rw[ADr (by simpa using h),ADr h]
  .rw[ADs (by simpa using h),ADs h]
 have t1:=tn KR (BA<|AG (f2 BL (fC<|.int 0)<|AD 0) DQ) _ _ (E2 s k most) J (KN (f:=f2 BY (AD 6)<|fC<|.int 2) 1<|Eh 2 rfl) λp=>rfl;rw[D]at t1;have t2:=tn KS (BA<|AG (AD 0)<|AG (f2 BL (fC<|.int 0)<|AD 1) AO) _ _ (Hj s k<|E2 s k most) (by rw[X3];lia) (KN (f:=f2 BY (f2 De (AD 6)<|fC<|.int 2)<|fC<|.int 2) 1<|Eh 2<|IL 2 rfl) λp=>rfl;rw[D]at t2;have t3:=tn LL (BA IJ) _ _ (LP s k<|Hj s k<|E2 s k most) (by rw[k9,X3];lia) (KN (f:=f2 De (AD 6)<|fC<|.int 4) 1<|IL 4 rfl) λp=>rfl;rw[D]at t3;rw[sq t1];refine(sq t2).trans ?_;refine(sq t3).trans ?_;show AM _ _ [iM<|.rd<|Au s,iI k,iI most,iI<|AZ s k,iL<|DV s k most,iI<|Dk s k,iI<|AZ s (k+2)%8,none,none,none]=_;have S:0<(DV s k most).length:=J
 have ADV:=R8 S<|AZ s<|k+3;have e7:f2 BY QL (fB EO JL) [iM<|.rd<|Au s,iI k,iI most,iI<|AZ s k,iL<|DV s k most,iI<|Dk s k,iI<|AZ s (k+2)%8,none,none,none] = cI (Dg (DV s k most)<|AZ s<|k+3):=by rw[<-(jI S<|AZ s<|k+3)];exact AK (G _ _ _ _ _ _) (by rw[<-CU];rfl)<|FT (by cases hb;lia)
 rw[sq<|A1 e7 rfl];refine(sq<|A1 (Ll (Eh 41<|IL 16<|G _ _ _ _ _ _) rfl) rfl).trans ?_;refine(sq<|A1 (Ll (Eh 41<|I _ _ _ _ _ _) rfl) rfl).trans ?_;refine SK ?_;show BH _ _ _ _ _ _ [iM<|.rd<|Au s,iI k,iI most,iI<|AZ s k,iL<|DV s k most,iI<|Dk s k,iI<|AZ s (k+2)%8,iI<|Dg (DV s k most)<|AZ s<|k+3,iI<|AZ s (k+3) / 16%41-20,iI<|AZ s (k+4)%41-20]=_;unfold drawn;have Qs:=UZ (f:=bZ) (fe:=ba) (cap:=[8,9]) (h:=pv∘Jv (AZ s (k+3) / 16%41-20) (AZ s (k+4)%41-20)) (ρ:=[iM<|.rd<|Au s,iI k,iI most,iI<|AZ s k,iL<|DV s k most,iI<|Dk s k,iI<|AZ s (k+2)%8,iI<|Dg (DV s k most)<|AZ s<|k+3,iI<|AZ s (k+3) / 16%41-20,iI<|AZ s (k+4)%41-20]) (rv:=.fr<|AN<|LC (DV s k most)<|Dg (DV s k most)<|AZ s<|k+3) (by refine(AK (cE rfl rfl rfl ADi) (cK rfl rfl rfl J)<|Ia rfl rfl (by simp[AN];grind)).trans ?_;unfold LC;rw[MU]) rfl (by unfold LC;simp;lia) λp _=>⟨.cl<|pv<|Jv (AZ s (k+3) / 16%41-20) (AZ s (k+4)%41-20) p,rfl,rfl⟩
 rw[Qs];unfold AN;rw[AEH]
theorem VB:∀r:List Pt,PySem.PyData.eqvAll (B5<|AN r) (B5<|AN r)=true
 |[]=>by simp[AN,B5,PySem.PyData.eqvAll]
 |p::r=>by
  have e:B5 (AN (p::r))=Ad (pv p)::B5 (AN r):=by unfold AN;rw[AD0,B5]
  simp only[e,PySem.PyData.eqvAll,(VB r)];simp[pv,Ad,B5,PySem.PyData.eqv,PySem.PyData.eqvAll]
theorem WO:∀r:List Pt,PySem.PyData.canLayAll0 (B5<|AN r)=true/\PySem.PyData.depthAll (B5<|AN r)<=1
 |[]=>by simp[AN,B5,PySem.PyData.canLayAll0,PySem.PyData.depthAll]
 |p::r=>by
  have y:=WO r;have e:B5 (AN (p::r))=Ad (pv p)::B5 (AN r):=by unfold AN;rw[AD0,B5]
  simp only[e,PySem.PyData.canLayAll0,PySem.PyData.depthAll,y.1];have h2:PySem.PyData.depth (Ad<|pv p)<=1:=by simp[pv,Ad,B5,PySem.PyData.depth,PySem.PyData.depthAll]
  refine⟨by rfl,J⟩
theorem vV{x y:RV}{b:Bool}(q:PySem.SeqAt.shaped (Ad x.any)=true)(v:PySem.SeqAt.shaped (Ad y.any)=true)(h:PySem.PyData.eqv (Ad x.any) (Ad y.any)=b):B0 x y=cB b:=by unfold B0;rw[ADr ⟨q,v⟩,h]
theorem ABJ(r:List Pt):PySem.SeqAt.shaped (Ad<|.lst<|AN r)=true/\PySem.PyData.eqv (Ad<|.lst<|AN r) (Ad<|.lst<|AN r)=true:=by
 have h:=WO r;constructor
 .unfold PySem.SeqAt.shaped Ad;simp only[PySem.PyData.canLay0,PySem.PyData.depth,h.1,AE5,ADu];lia
 .exact VB r
open AH (AE Ai A0 BP AA M nb At Keeps Rm Rows Bj)
theorem X5:∀(l acc:List<|List Int),(Internal.ST.D9 acc l).length<=acc.length+l.length/\((Internal.ST.D9 acc l).length=acc.length+l.length↔(l.Nodup/\∀x∈l,x∉acc))
 |[],acc=>by delta Internal.ST.D9;simp
 |k::r,acc=>by
  unfold Internal.ST.D9;by_cases q:k∈acc
  .rw[ADr q];obtain⟨u,v⟩:=X5 r acc;refine⟨by rw[AD5];lia,⟨λh=>by simp only[AD5]at h;lia,λh=>absurd q (h.2 k AD6)⟩⟩
  .rw[ADs q];obtain⟨u,v⟩:=X5 r (k::acc);simp only[AD5]at u v;refine⟨by rw[AD5];lia,?_⟩;rw[AD5,show acc.length+(r.length+1)=acc.length+1+r.length by lia,v,AFd];constructor
   .rintro⟨a,b⟩;refine⟨⟨λhm=>b k hm AD6,a⟩,λx y=>?_⟩;rcases AEN.mp y with rfl|y
    .exact q
    .exact λhm=>b x y<|AD4 _ hm
   .rintro⟨⟨a,b⟩,c⟩;refine⟨b,λx y hm=>?_⟩;rcases AEN.mp hm with rfl|hm
    .exact a y
    .exact c x (AD4 _ y) hm
theorem vm(r:List Pt):(kl r).Nodup↔r.Nodup:=by
 delta kl List.Nodup
 rw[AEa];constructor
 .exact λh=>h.imp λy e=>y<|by rw[e]
 .exact λh=>h.imp λ{a b} y e=>y (by simp only[AGa,and_true]at e;exact AEt e.1 e.2)
theorem Z0(r:List Pt):dist r=r.length↔r.Nodup:=by have:=(X5 (kl r) []).2;unfold dist;rw[show(kl r).length=r.length from ADo ..]at this;rw[show r.length=([]).length+r.length by simp,this,vm];simp
theorem Pu(r:List Pt):JH r=true↔∀k:Nat,k<r.length->AE (AA r<|(k)-2) (AA r<|(k)-1) (AA r k)≠0:=by unfold JH;simp[AFo]
theorem UJ{r:List Pt}(y:0<r.length)(h:JH r=true)(k:Int):AE (AA r<|k-2) (AA r<|k-1) (AA r k)≠0:=by
 have b:=AEL k (b:=(r.length))<|Ij y;have:=(Pu r).mp h (k%(r.length)).toNat J;rw[AEJ<|AEZ k (b:=(r.length))<|Oc y]at this;have e:∀d:Int,AA r (k%(r.length)-d)=AA r (k-d):=λd=>by unfold AH.AA;rw[Int.emod_sub_emod]
 simp only[e,e,AH.Fl]at this;exact this
theorem LB(r:List Pt):DK r=true↔Rm r/\∀p∈r,Bd 100 p:=by
 unfold DK;simp only[ADx,ADu,AFf,AFo,Wo,Yk];constructor
 .rintro⟨⟨h1,h2⟩,h3,y,q,v,u⟩;have hd:dist r=r.length:=J
  exact⟨⟨J,J,(Z0 r).mp hd,UJ J q,AH.UD J v,u⟩,y⟩
 .rintro⟨R,h⟩;have h3:=R.l3;have Ca:=R.OT;refine⟨⟨J,J⟩,by rw[(Z0 r).mpr R.nd],h,(Pu r).mpr λk _=>R.NM k,AH.nO R.apart,R.Gz⟩
theorem va(z:Int):Keeps (Hg z) 1 where
 one:=.inl rfl
 sd:=λa b c=>by delta AE Hg;grind
 at_:=λa b p=>by
  delta At Hg
  constructor
  .rintro⟨q,s,v,y,h3,u,Z⟩;exact⟨q,s,v,y,h3,by dsimp only at *;grind,by dsimp only at *;grind⟩
  .rintro⟨q,s,v,y,h3,u,Z⟩;exact⟨q,s,v,y,h3,by dsimp only at *;grind,by dsimp only at *;grind⟩
 inj:=λa b h=>by unfold Hg at h;rw[AGG]at h;obtain⟨v,y⟩:=h;rw[y]at v;exact AEt J y
theorem vZ(x y:Int):Keeps (Jv x y) 1 where
 one:=.inl rfl
 sd:=λa b c=>by delta AE Jv;grind
 at_:=λa b p=>by
  delta At Jv
  constructor
  .rintro⟨q,s,v,u,h3,Z,Y⟩;exact⟨q,s,v,u,h3,by dsimp only at *;grind,by dsimp only at *;grind⟩
  .rintro⟨q,s,v,u,h3,Z,Y⟩;exact⟨q,s,v,u,h3,by dsimp only at *;grind,by dsimp only at *;grind⟩
 inj:=λa b h=>by unfold Jv at h;rw[AGG]at h;exact AEt J J
theorem vX:Keeps KR (-1) where
 one:=.inr rfl
 sd:=λa b c=>by delta AE KR;grind
 at_:=λa b p=>by
  delta At KR
  constructor
  .rintro⟨q,s,y,v,h3,u,Z⟩;exact⟨q,s,y,v,h3,ADi,by dsimp only at *;grind⟩
  .rintro⟨q,s,y,v,h3,u,Z⟩;exact⟨q,s,y,v,h3,by dsimp only at *;grind,by dsimp only at *;grind⟩
 inj:=λa b h=>by unfold KR at h;rw[AGG]at h;exact AEt J J
theorem vY:Keeps KS (-1) where
 one:=.inr rfl
 sd:=λa b c=>by delta AE KS;grind
 at_:=λa b p=>by
  delta At KS
  constructor
  .rintro⟨q,s,y,v,h3,u,Z⟩;exact⟨q,s,y,v,h3,by dsimp only at *;grind,ADi⟩
  .rintro⟨q,s,y,v,h3,u,Z⟩;exact⟨q,s,y,v,h3,by dsimp only at *;grind,by dsimp only at *;grind⟩
 inj:=λa b h=>by unfold KS at h;rw[AGG]at h;exact AEt J J
theorem vb:Keeps LL (-1) where
 one:=.inr rfl
 sd:=λa b c=>by delta AE LL;grind
 at_:=λa b p=>by
  delta At LL
  constructor
  .rintro⟨q,s,y,v,h3,u,Z⟩;exact⟨q,s,y,v,h3,by dsimp only at *;grind,by dsimp only at *;grind⟩
  .rintro⟨q,s,y,v,h3,u,Z⟩;exact⟨q,s,y,v,h3,by dsimp only at *;grind,by dsimp only at *;grind⟩
 inj:=λa b h=>by unfold LL at h;exact AEt J J
theorem NT{r:List Pt}{i:Nat}(h:i<r.length):AA r (i)=r[i]:=by unfold AH.AA;rw[ADq Ew<|Df h];simp[List.getD,h]
theorem QG(r:List Pt):AA r (r.length)=AA r 0:=by have:=AH.Ef r 0;rw[AE0]at this;exact this
theorem je{r:List Pt}{m:Nat}(R:Rows r.length m λi=>AA r<|i)(u:r.length<=12)(hb:JH r=true):Rm r:=by
 have h3:=R.h3;refine⟨h3,u,?_,UJ (CI h3) hb,AH.UD J λk j h0 y h2 hn=>?_,?_⟩
 .refine AER.mpr λi j hi q Z=>?_;have:=R.inj Z q;rw[NT hi,NT q]at this;exact this
 .have v:=AH.cS (FV y) J hn;unfold AH.Bv at v;rw[ADq (FX y) J]at v;have:=R.apart (i:=k.toNat) (j:=j.toNat) ADi J (by clear hn;grind) ADi;rw[show((k.toNat))=k by lia,show((k.toNat+1:Nat))=k+1 by lia,show((j.toNat))=j by grind,show((j.toNat+1:Nat))=j+1 by grind]at this;exact AH.gq this
 .have:=R.Gz;simp only[AH.Pn];rw[AH.C4]at this
  .exact this
  .intro i _;unfold AH.JK;rw[show(((i:Int).toNat):Int)=i by lia,show((((i:Int)+1).toNat):Int)=i+1 by lia]
structure NG(mode:Int)(i:Nat)(b:Int×List Pt×List Pt):Prop where
 lo:0<=b.1
 hi:b.1<=4*i
 m3:mode=3->b.1=i
 len:b.2.1.length+b.2.2.length=i
 lp:b.2.1.Pairwise λp q=>p.1<q.1
 hp:b.2.2.Pairwise λp q=>p.1<q.1
 bl:∀p∈b.2.1,1<=p.1/\p.1<=b.1/\-30<=p.2/\p.2<=-1
 bh:∀p∈b.2.2,1<=p.1/\p.1<=b.1/\1<=p.2/\p.2<=30
theorem hG{a b:Int}(ha:1<=a)(hb:1<=b)(h:a+b<=11):1<=a*b/\a*b<=30:=by
 have h1:=AD9 (by exact OZ ha:0<a) (by exact OZ hb:0<b);have h2:0<=(a-b)*(a-b):=by
  rcases AGC a b with h|h
  .exact AHE J J
  .exact ADz (Ci h)<|Ci h
 have h3:=Int.mul_le_mul h h J J;lia
theorem y6{s:List Int}{k count mode:Int}{i:Nat}{b:Int×List Pt×List Pt}(h1:3<=count)(h2:count<=12)(hi:(i)<count-2)(h:NG mode i b):NG mode (i+1)<|Fc s k count mode b i:=by
 obtain⟨q,low,Bq⟩:=b;obtain⟨lo,hh,m3,len,lp,hp,bl,bh⟩:=h;dsimp only at lo hh m3 len lp hp bl bh;unfold Fc;dsimp only;generalize ec:AZ s (k+4+(1+(i)))=c;have u:∀x,(if mode=3 then 1+(i:Int)else q+1+c / 2%4)=x->q<x/\x<=4*((i)+1)/\(mode=3->x=i+1):=λx e=>by
  subst e;by_cases hm:mode=3
  .rw[ADr hm];exact⟨J,J,λ_=>J⟩
  .rw[ADs hm];exact⟨J,J,λz=>absurd z hm⟩
 have Z:∀y,(if mode=3 then(1+(i))*(count-1-(1+(i)))else 1+c / 8%9)=y->1<=y/\y<=30:=λy e=>by
  subst e;by_cases hm:mode=3
  .rw[ADr hm];exact hG J J J
  .rw[ADs hm];lia
 generalize ex:(if mode=3 then 1+(i:Int)else q+1+c / 2%4)=x;generalize Y:(if mode=3 then(1+(i))*(count-1-(1+(i)))else 1+c / 8%9)=y;obtain⟨IY,DI,v⟩:=u x ex;have ui:=Z y Y;split
 .refine⟨by dsimp only;lia,by push_cast;omega,λz=>by exact v z,by simp;lia,?_,hp,λp hp=>?_,λp hp=>?_⟩
  .refine AEE.mpr ⟨lp,ADk,λa ha b hb=>?_⟩;rw[ADv.mp hb];have:=bl a ha;dsimp only;lia
  .rcases AD7.mp hp with z|z
   .have:=bl p z;dsimp only;grind
   .rw[ADv.mp z];dsimp only;and_intros<;>lia
  .have:=bh p hp;dsimp only;grind
 .refine⟨by dsimp only;lia,by push_cast;lia,λz=>by exact v z,by simp;lia,lp,?_,λp hp=>?_,λp hp=>?_⟩
  .refine AEE.mpr ⟨hp,ADk,λa ha b hb=>?_⟩;rw[ADv.mp hb];have:=bh a ha;dsimp only;lia
  .have:=bl p hp;dsimp only;lia
  .rcases AD7.mp hp with z|z
   .have:=bh p z;dsimp only;lia
   .rw[ADv.mp z];dsimp only;and_intros<;>lia
theorem jH{s:List Int}{k count mode:Int}(y:3<=count)(q:count<=12):∀n:Nat,(n)<=count-2->NG mode n ((List.range n).foldl (Fc s k count mode) (0,[],[]))
 |0,_=>⟨ADk,ADk,λ_=>rfl,rfl,.nil,.nil,(λp hp=>by cases hp),(λp hp=>by cases hp)⟩
 |n+1,hn=>by rw[AFN,AF6];exact y6 y q ADn<|jH y q n J
theorem ABA{mode:Int}{i:Nat}{b:Int×List Pt×List Pt}(h:NG mode i b)(hi:1<=i):Rows (Ak b).length b.2.1.length λi=>AA (Ak b)<|i:=by
 obtain⟨y,low,v⟩:=b;obtain⟨lo,hh,m3,len,lp,hp,bl,bh⟩:=h;dsimp only at lo hh m3 len lp hp bl bh ⊢;have D:(Ak (y,low,v)).length=low.length+v.length+2:=SU _;have F:Ak (y,low,v)=((0,0)::(low ++ [(y+1,0)]))++v.reverse:=by simp[Ak]
 have R:Ak (y,low,v) ++ [(0,0)]=((0,0)::low)++((y+1,0)::(v.reverse ++ [(0,0)])):=by simp[Ak]
 have B:((0,0)::(low ++ [(y+1,0)]):List Pt).Pairwise λp q=>p.1<q.1:=by
  refine AFn.mpr ⟨λp hp=>?_,AEE.mpr ⟨lp,ADk,λa ha c hc=>?_⟩⟩
  .rcases AD7.mp hp with z|z
   .have:=bl p z;dsimp only;omega
   .rw[ADv.mp z];dsimp only;lia
  .rw[ADv.mp hc];have:=bl a ha;dsimp only;omega
 have pt:((y+1,0)::(v.reverse ++ [(0,0)]):List Pt).Pairwise λp q=>q.1<p.1:=by
  refine AFn.mpr ⟨λp hp=>?_,AEE.mpr ⟨AGj.mpr hp,ADk,λa ha c hc=>?_⟩⟩
  .rcases AD7.mp hp with z|z
   .have:=bh p<|AFx.mp z;dsimp only;omega
   .rw[ADv.mp z];dsimp only;lia
  .rw[ADv.mp hc];have:=bh a<|AFx.mp ha;dsimp only;omega
 have Q:∀j:Nat,(u:j<=low.length+1)->AA (Ak (y,low,v)) (j)=((0,0)::(low ++ [(y+1,0)]):List Pt)[j]'(by simp;lia):=λj u=>by rw[NT (by clear len;lia)];simp only[F];rw[AGS]
 have gt:∀j:Nat,(Z:low.length+1<=j)->(u:j<=low.length+v.length+2)->AA (Ak (y,low,v)) (j)=((y+1,0)::(v.reverse ++ [(0,0)]):List Pt)[j-(low.length+1)]'(by simp;clear len;grind):=λj Z u=>by
  have e:AA (Ak (y,low,v)) (j)=(Ak (y,low,v) ++ [(0,0)])[j]'(by simp[D];clear len;lia):=by
   by_cases P:j<(Ak (y,low,v)).length
   .simp only[NT P,AGS P]
   .have O:j=(Ak (y,low,v)).length:=by clear len;lia
    subst O;rw[QG];have:=by have:=Q 0 J;simpa using this
    simp only[this];simp
  rw[e];simp only[R];rw[List.getElem_append_right (by simp;assumption)];simp
 refine⟨J,J,QG _,λj u=>?_,λj Z u=>?_,?_,?_,λj Z u=>?_,λj Z u=>?_⟩
 .rw[Q j<|MM u,Q (j+1)<|Od u];exact AER.mp B j (j+1) (by simp;lia) (by simp;exact Js u) Ha
 .rw[gt j Z J,gt (j+1) J J];exact AER.mp pt (j-(low.length+1)) (j+1-(low.length+1)) (by simp;clear Z;omega) (by simp;grind) ADi
 .rfl
 .rw[Q (low.length+1) J];simp
 .rw[Q j<|MM u];obtain⟨Y,rfl⟩:∃Y,j=Y+1:=⟨j-1,J⟩;rw[AGd,AGS J];have:=bl _<|AFP (n:=Y) J;omega
 .rw[gt j J J];obtain⟨Y,O⟩:∃Y,j-(low.length+1)=Y+1:=⟨j-(low.length+1)-1,ADi⟩;simp only[O];rw[AGd,AGS (by simp;clear Z;omega)];have:=bh _ (AFx.mp<|AFP (n:=Y) (by simp;lia));omega
theorem JJ{c:Int}{i:Nat}(h:(i)<c):AA (Ee c) (i)=((i:Int),0-(i)*(c-1-i)):=by rw[NT (by simp[Ee];assumption)];simp[Ee]
theorem ABN(u v w d:Int):AE (u,0-u*(d-u)) (v,0-v*(d-v)) (w,0-w*(d-w))=(v-u)*(w-u)*(w-v):=by unfold AE;grind
theorem oE{c:Int}(h:0<=c):((Ee c).length)=c:=by simp[Ee];lia
theorem oF{c:Int}(Y:3<=c)(h2:c<=12):Rm<|Ee c:=by
 have y:=oE (c:=c) J;refine je (m:=c.toNat-2) ⟨ADi,J,QG _,λi hi=>?_,λi hi Q=>?_,?_,?_,λi hi Q=>?_,λi hi Q=>ADi⟩ J<|(Pu _).mpr λk hk=>?_
 .rw[JJ ADi,JJ ADi];dsimp only;lia
 .have D:i=c.toNat-1:=ADi
  subst D;have F:AA (Ee c) ((c.toNat-1+1:Nat))=AA (Ee c) 0:=by rw[<-QG];congr 1;grind
  have O:=JJ (c:=c) (i:=0) (by clear y;lia);rw[F,JJ J];rw[show((0:Nat):Int)=0 from rfl]at O;rw[O];dsimp only;lia
 .rw[(JJ (c:=c) (i:=0) J)];simp
 .rw[JJ ADi];dsimp only;rw[show c-1-((c.toNat-2+1:Nat))=0 by grind];lia
 .rw[JJ J];dsimp only;have:=AD9 (J:(0:Int)<i) (ADi:0<c-1-(i));omega
 .have e:∀j:Int,0<=j->j<c->AA (Ee c) j=(j,0-j*(c-1-j)):=λj P Y=>by have:=JJ (c:=c) (i:=j.toNat) (by clear y;lia);rw[AEJ P]at this;exact this
  have Z:∀j:Int,-c<=j->j<0->AA (Ee c) j=(j+c,0-(j+c)*(c-1-(j+c))):=λj P Y=>by rw[<-AH.Ef,y];exact e (j+c) J J
  have q:∀u v w:Int,u≠v->u≠w->v≠w->AE (u,0-u*(c-1-u)) (v,0-v*(c-1-v)) (w,0-w*(c-1-w))≠0:=λu v w a b d=>by rw[ABN];exact AG2 (AG2 (Wb a)<|Wb b)<|Wb d
  by_cases Je:2<=k
  .rw[e _ J J,e _ J J,e _ J J];exact q _ _ _ J J J
  .by_cases R:k=1
   .subst R;rw[Z _ (by clear y;lia) J,e _ J (by clear y;lia),e _ J J];exact q _ _ _ J J J
   .have B:k=0:=J
    subst B;rw[Z _ (by clear y;lia) J,Z _ (by clear y;lia) J,e _ J J];exact q _ _ _ J J J
def Hw(p:Pt):Prop:=-41<=p.1/\p.1<=41/\-30<=p.2/\p.2<=30
theorem yz(s:List Int)(k:Int){count:Int}(y:3<=count)(q:count<=12):Rm (Gk s k count)/\∀p∈Gk s k count,Hw p:=by
 have st:NG (AZ s (k+1)%4) (count-2).toNat<|Ck s k count:=jH y q _ ADj;unfold Gk;cases u:GQ (Ak<|Ck s k count)with
 |true=>
  refine⟨oF y q,λp hp=>?_⟩;obtain⟨j,Z,rfl⟩:=AEC.mp hp;have Cb:=AD2.mp Z;unfold Hw;dsimp only;by_cases v:j=0
  .subst v;simp
  .by_cases hc:(j)=count-1
   .rw[hc,show count-1-(count-1)=0 by lia];lia
   .have:=hG (a:=(j)) (b:=count-1-j) J ADi J;clear v;grind
 |false=>
  rw[ADs ADk];have hl:=SU<|Ck s k count;have BO:=st.len;refine⟨je (ABA st J) ADi (by rw[cY,u];rfl),λp hp=>?_⟩;unfold Ak at hp;simp only[AD7,ADv,AFx]at hp;have:=st.lo;have:=st.hi;unfold Hw;rcases hp with((rfl|hp)|rfl)|hp
  .simp
  .have:=st.bl p hp;grind
  .grind
  .have:=st.bh p hp;grind
theorem ACs{a b c d:Pt}(h:a.1<c.1/\a.1<d.1/\b.1<c.1/\b.1<d.1\/a.2<c.2/\a.2<d.2/\b.2<c.2/\b.2<d.2):¬ Bj a b c d:=by
 rcases h with h|h
 .exact AH.Xe (max a.1 b.1) (max a.1 b.1+1) ADj ADj J ADj ADj
 .exact AH.ABG (max a.2 b.2) (max a.2 b.2+1) ADj ADj J ADj ADj
noncomputable def Dw:List Pt:=[(0,0),(5,0),(5,5),(1,5),(1,2),(3,2),(3,3),(2,3),(2,4),(4,4),(4,1),(0,1)]
noncomputable abbrev YB(a b c d:Pt):Bool:=decide <| a.1.toNat<c.1.toNat/\a.1.toNat<d.1.toNat/\b.1.toNat<c.1.toNat/\b.1.toNat<d.1.toNat\/a.2.toNat<c.2.toNat/\a.2.toNat<d.2.toNat/\b.2.toNat<c.2.toNat/\b.2.toNat<d.2.toNat
abbrev wbd(a b c:Pt):Prop:=a.1.toNat=b.1.toNat/\b.2.toNat=c.2.toNat/\a.2.toNat≠b.2.toNat/\b.1.toNat≠c.1.toNat\/a.2.toNat=b.2.toNat/\b.1.toNat=c.1.toNat/\a.1.toNat≠b.1.toNat/\b.2.toNat≠c.2.toNat
theorem Hl{X:Nat->Int}(h:∀i,X i<X (i+1)){i j:Nat}(y:i<j):X i<X j:=by
 induction y with
 |refl=>exact h _
 |step _ ih=>exact AIf ih<|h _
theorem Mo{X:Nat->Int}(h:∀i,X i<X (i+1)){i j:Nat}(y:i≠j):X i-X j≠0:=by
 rcases Nat.lt_or_gt_of_ne y with z|z
 .have:=Hl h z;lia
 .have:=Hl h z;lia
theorem ACe{X Y:Nat->Int}(y:∀i,X i<X (i+1))(q:∀i,Y i<Y (i+1)):Rm<|Dw.map λp=>(X p.1.toNat,Y p.2.toNat):=by
 have hc:∀k,AA (Dw.map λp=>(X p.1.toNat,Y p.2.toNat)) k=(X (AA Dw k).1.toNat,Y (AA Dw k).2.toNat):=AH.GK ADl;refine⟨by show 3<=12;decide,by show 12<=12;decide,?_,UJ (by show 0<12;decide)<|(Pu _).mpr λk v=>?_,AH.UD (by show 2<=12;decide) λk m u Z Q hn=>?_,?_⟩
 .refine List.Pairwise.map _ (λa b O e=>?_) (show Dw.Pairwise (λa b=>a.1.toNat≠b.1.toNat\/a.2.toNat≠b.2.toNat)by decide);injection e with e1 e2
  rcases O with z|z
  .exact Mo y z J
  .exact Mo q z J
 .simp only[hc,hc,hc];unfold AE;rcases(ADm:∀k:Nat,k<12->wbd (AA Dw<|(k)-2) (AA Dw<|(k)-1) (AA Dw k)) k v with⟨a,b,c,d⟩|⟨a,b,c,d⟩
  .have:=AG2 (Mo q c)<|Mo y d;dsimp only;rw[a,<-b];intro h;grind
  .have:=AG2 (Mo y c)<|Mo q d;dsimp only;rw[a,<-b];intro h;grind
 .obtain⟨i,rfl⟩:=AH2 u;obtain⟨j,rfl⟩:=AH2 (J:0<=m);have h2':(j:Int)<12:=Q;have:=(ADm:∀j:Nat,j<12->∀i:Nat,i<j->nb 12 ((j)-i)=false->YB (AA Dw i) (AA Dw<|(i)+1) (AA Dw j) (AA Dw<|(j)+1)\/YB (AA Dw j) (AA Dw<|(j)+1) (AA Dw i) (AA Dw<|(i)+1)) j J i (Oe Z) hn;unfold M;simp only[hc,hc,hc,hc];have w:∀{a b c d:Pt},YB a b c d->¬ Bj (X a.1.toNat,Y a.2.toNat) (X b.1.toNat,Y b.2.toNat) (X c.1.toNat,Y c.2.toNat) (X d.1.toNat,Y d.2.toNat):=λh=>ACs<|(AHi h).imp (λh=>⟨Hl y h.1,Hl y h.2.1,Hl y h.2.2.1,Hl y h.2.2.2⟩) λh=>⟨Hl q h.1,Hl q h.2.1,Hl q h.2.2.1,Hl q h.2.2.2⟩;exact AH.gq<|this.elim w λh z=>w h z.symm
 .unfold AH.CJ;have a:=y 0;have b:=y 1;have c:=y 2;have d:=y 3;have e:=y 4
  have f:=q 0;have g:=q 1;have h:=q 2;have i:=q 3;have j:=q 4
  have:=AD9 (J:0<X 5-X 4) (J:0<Y 5-Y 0);have:=AD9 (J:0<X 4-X 0) (J:0<Y 1-Y 0);have:=AD9 (J:0<X 4-X 2) (J:0<Y 5-Y 4);have:=AD9 (J:0<X 3-X 2) (J:0<Y 3-Y 2);have:=AD9 (J:0<X 2-X 1) (J:0<Y 5-Y 2);simp[AH.Ab,AA,Dw,AH.Bx]
  grind
theorem lX(s:List Int)(k:Int)(i:Nat):wx s k i<wx s k (i+1)/\wx s k (i+1)<=wx s k i+4:=by simp only[wx];lia
theorem lZ(s:List Int)(k:Int)(i:Nat):wy s k i<wy s k (i+1)/\wy s k (i+1)<=wy s k i+4:=by simp only[wy];lia
theorem lW(s:List Int)(k:Int):∀i:Nat,0<=wx s k i/\wx s k i<=4*i
 |0=>by simp[wx]
 |i+1=>by have:=lW s k i;have:=lX s k i;lia
theorem lY(s:List Int)(k:Int):∀i:Nat,0<=wy s k i/\wy s k i<=4*i
 |0=>by simp[wy]
 |i+1=>by have:=lY s k i;have:=lZ s k i;lia
theorem ACd(s:List Int)(k:Int):Rm (Mn s k)/\∀p∈Mn s k,Hw p:=by
 refine⟨ACe (λi=>(lX s k i).1) λi=>(lZ s k i).1,λp hp=>?_⟩;have y:∀i j:Nat,i<=5->j<=5->Hw (wx s k i,wy s k j):=λi j hi hj=>by have h1:=lW s k i;have h2:=lY s k j;unfold Hw;dsimp only;and_intros<;>lia
 unfold Mn at hp;simp only[AEN,AH0,or_false]at hp;rcases hp with rfl|rfl|rfl|rfl|rfl|rfl|rfl|rfl|rfl|rfl|rfl|rfl<;>exact y _ _ J J
theorem nh(s:List Int)(k:Int){most:Int}(h1:3<=most)(h2:most<=12):Rm (D2 s k most)/\∀p∈D2 s k most,Hw p:=by
 unfold D2;split
 .exact ACd s k
 .have a:=AEZ (AZ s k) (b:=most-2) J;have b:=AEL (AZ s k) (b:=most-2) J;exact yz s k J J
theorem ABP{z:Int}(hz:z = -1\/z=0\/z=1){p:Pt}(h:Hw p):Bd 80<|Hg z p:=by
 unfold Hw at h
 delta Bd Hg
 dsimp only;rcases hz with rfl|rfl|rfl<;>omega
theorem ee{i:Int}(h:Dd i<80) : -80<=i/\i<=80:=by unfold Dd at h;split at h<;>lia
theorem zP{s:List Int}{k:Int}{r:List Pt}{d:Nat}(h:Rm r/\∀p∈r,Bd 80 p):Rm (MT s k r d)/\∀p∈MT s k r d,Bd 80 p:=by
 unfold MT;dsimp only;generalize AZ s (k+15+(d))=c;split
 .rename_i hc;simp only[ADx,ADu]at hc;obtain⟨h1,y⟩:=hc;rw[rX]at y;refine⟨((LB _).mp y).1,λp hp=>?_⟩;unfold Hf at hp;simp only[AD7,ADv]at hp;rcases hp with(hp|rfl)|hp
  .exact h.2 p<|AF2 hp
  .have a:=ee (i:=(E1 r c).1) J;have b:=ee (i:=(E1 r c).2) J;exact⟨a.1,a.2,b.1,b.2⟩
  .exact h.2 p<|AFr hp
 .exact h
theorem zO{s:List Int}{k:Int}{r:List Pt}(h:Rm r/\∀p∈r,Bd 80 p):Rm (MS s k r)/\∀p∈MS s k r,Bd 80 p:=by
 unfold MS;generalize List.range (AZ s (k+1) / 4%5).toNat=l
 induction l generalizing r with
 |nil=>exact h
 |cons d l ih=>exact ih<|zP h
theorem zR(s:List Int)(k:Int){most:Int}(y:3<=most)(v:most<=12):Rm (E2 s k most)/\∀p∈E2 s k most,Bd 80 p:=by have hb:=nh s k y v;refine zO ⟨hb.1.map<|va _,λp hp=>?_⟩;obtain⟨q,u,rfl⟩:=AEC.mp hp;exact ABP (by unfold Dk;lia)<|hb.2 q u
theorem XQ{T:Pt->Pt}(k:Keeps T (-1))(y:∀p,Bd 80 p->Bd 80 (T p)){r:List Pt}(h:Rm r/\∀p∈r,Bd 80 p):Rm (r.map T).reverse/\∀p∈(r.map T).reverse,Bd 80 p:=
 ⟨h.1.mapRev k,λp hp=>by obtain⟨q,v,rfl⟩:=AEC.mp<|AFx.mp hp;exact y q<|h.2 q v⟩
theorem ACP(s:List Int)(k:Int){most:Int}(y:3<=most)(q:most<=12):Rm (DV s k most)/\∀p∈DV s k most,Bd 80 p:=by
 have h:=zR s k y q;have t1:Rm (Hj s k<|E2 s k most)/\∀p∈Hj s k (E2 s k most),Bd 80 p:=by
  unfold Hj;split
  .exact XQ vX (λp hp=>by delta Bd KR at *;dsimp only at *;and_intros<;>lia) h
  .exact h
 have t2:Rm (LP s k<|Hj s k<|E2 s k most)/\∀p∈LP s k (Hj s k<|E2 s k most),Bd 80 p:=by
  unfold LP;split
  .exact XQ vY (λp hp=>by delta Bd KS at *;dsimp only at *;and_intros<;>lia) t1
  .exact t1
 delta DV S0;split
 .exact XQ vb (λp hp=>by delta Bd LL at *;dsimp only at *;and_intros<;>lia) t2
 .exact t2
theorem qL(s:List Int)(k:Int){most:Int}(y:3<=most)(v:most<=12):Rm (drawn s k most)/\∀p∈drawn s k most,Bd 100 p:=by
 have h:=ACP s k y v;have h3:=h.1.l3;have hp:=R8 (r:=DV s k most) (CI h3)<|AZ s<|k+3;refine⟨(h.1.LC J).1.map<|vZ _ _,λp hp=>?_⟩;obtain⟨q,u,rfl⟩:=AEC.mp hp;have Z:q∈DV s k most:=by
  rcases AD7.mp u with z|z
  .exact AFr z
  .exact AF2 z
 have:=h.2 q Z;unfold Bd Jv at *
 clear hp;and_intros<;>lia
theorem bg(s:List Int)(k:Int){most:Int}(y:3<=most)(q:most<=12):DK (drawn s k most)=true:=(LB _).mpr<|qL s k y q
open AH (AE Ai A0 BP AA M nb Rm)
theorem U1{f:EF}{ρ:AS}{r:RV}(e:f ρ=some r):JW f ρ=some (.nx ρ):=by unfold JW;rw[e]
theorem Zv{N n:Nat}{g:SF}{ps:List PV}{ρ:AS}(h:ps.length=n)(e:g (BD N ps)=some (.nx ρ)):denote N n g ps=some (.cl .Aw):=by unfold denote;rw[ADr h,e];rfl
theorem YO{r:List Pt}(h:DK r=true):PJ [.lst<|AN r]=some (.cl .Aw):=by refine Zv (ρ:=BD 1 [.lst<|AN r]) rfl ?_;unfold ZU;have e:=D4<|Aq<|Ar (ρ:=BD 1 [.lst<|AN r]) (AJ (f:=AD 0) (x:=.cl<|.lst<|AN r) rfl AR) rfl<|mL (r:=r);rw[h]at e;exact(Bb e).trans rfl
theorem Jy{r:List Pt}(h:DK r=true):3<=r.length/\r.length<=12/\∀p∈r,Bd 1000 p:=by obtain⟨R,hb⟩:=(LB r).mp h;exact⟨R.l3,R.OT,λp hp=>by have:=hb p hp;unfold Bd at *;lia⟩
theorem cG{t:BF}{f g:EF}{ρ:AS}(e:t ρ=some true):IP t f g ρ=f ρ:=by unfold IP;rw[e]
theorem cF{t:BF}{f g:EF}{ρ:AS}(e:t ρ=some false):IP t f g ρ=g ρ:=by unfold IP;rw[e]
theorem cC{fa fb fc fd:EF}{ρ:AS}{i j k l:Int}(ha:fa ρ=cI i)(hb:fb ρ=cI j)(hc:fc ρ=cI k)(hd:fd ρ=cI l):FK Cw Cf Cf fa fb fc fd ρ=cB (decide (i<=j)&&(decide (j<k)&&decide (k<l))):=by
 unfold FK;rw[ha,hb];dsimp only;simp only[Ie];cases h:decide (i<=j)
 .rfl
 .dsimp only;rw[hc];dsimp only;simp only[Ig];cases h2:decide (j<k)
  .rfl
  .dsimp only;rw[hd];rfl
theorem me{a b c:Pt}(ha:Bd 1000 a)(hb:Bd 1000 b):Pd [pw a b,pv c]=cB (AH.pr a b c):=by
 refine Bi rfl ?_;unfold AH.pr;show AM _ _ [iM<|pw a b,iM<|pv c,iM<|.bl<|decide (a.2>c.2),iM<|.bl<|decide (b.2>c.2),none]=_;generalize decide (a.2>c.2)=x;generalize decide (b.2>c.2)=y;have q:AV (f2 B0 (AD 2)<|AD 3) [iM<|pw a b,iM<|pv c,iM<|.bl x,iM<|.bl y,none]=some (x==y):=Aq<|AK rfl rfl<|vU _ _;have es:Aa 4 bD [iM<|pw a b,iM<|pv c,iM<|.bl x,iM<|.bl y,none]=some (.nx [iM<|pw a b,iM<|pv c,iM<|.bl x,iM<|.bl y,iI<|AE a b c]):=
  A1 (Ar (AJ (AK rfl rfl<|Kq a b)<|AJ (AK rfl rfl<|Kr a b)<|AJ rfl AR) rfl<|LS ha hb) rfl
 cases x<;>cases y
 .exact DE<|(Bl q).trans rfl
 .rw[sq<|(Bb q).trans rfl,sq es];exact C3<|(cG rfl).trans<|AK rfl rfl<|Ic _ _
 .rw[sq<|(Bb q).trans rfl,sq es];exact C3<|(cF rfl).trans<|AK rfl rfl<|Ig _ _
 .exact DE<|(Bl q).trans rfl
theorem VD{f:EF}{ρ:AS}{bs:List Bool}(e:f ρ=some (.fr<|bs.map PV.bl)):fB Jk (AG f AO) ρ=cB (bs.any id):=by refine B8 (AJ e AR) ?_;simp only[Jk,RV.list,AES,Py,AEr]
def place(ws:List<|Pt×Pt)(p:Pt):PySem.Str:=if(ws.any λw=>Ai w.1 w.2 p)=true then "on" else if((((ws.filter λw=>AH.pr w.1 w.2 p).length:Int)%2==1)=true)then "in" else "out"
theorem mY{ws:List (Pt×Pt)}{p:Pt}(Z:ws.length<=1000)(hb:∀w∈ws,Bd 1000 w.1/\Bd 1000 w.2):To [.lst<|BN ws,pv p]=some (.cl<|.str<|place ws p):=by
 refine Bi rfl ?_;unfold Zr;have u:(BN ws).length<=1000:=by simpa[BN]using Z
 have Y:collect (Aj 0) Bk (AW Gu IJ) (Bf 1 [1]<|BD 3 [.lst<|BN ws,pv p]) (BN ws)=some ((ws.map λw=>Ai w.1 w.2 p).map PV.bl):=by rw[AEH];exact GJ λw y=>⟨_,.cl<|.bl<|Ai w.1 w.2 p,rfl,Ar (AJ rfl<|AJ rfl AR) rfl<|My (hb w y).1 (hb w y).2,rfl⟩
 have Q:collect (Aj 0) (AV<|AW Pd KI) (AD 0) (Bf 1 [1]<|BD 3 [.lst<|BN ws,pv p]) (BN ws)=some (BN<|ws.filter λw=>AH.pr w.1 w.2 p):=by exact GI λw y=>⟨_,rfl,Aq<|Ar (AJ rfl<|AJ rfl AR) rfl<|me (hb w y).1 (hb w y).2,λ_=>⟨.cl<|pw w.1 w.2,rfl,rfl⟩⟩
 have q:=Aq<|VD<|DS (its:=IG) (FJ rfl rfl) u Y;rw[show(ws.map λw=>Ai w.1 w.2 p).any id=ws.any λw=>Ai w.1 w.2 p by rw[AF0];rfl]at q;unfold place;cases h:ws.any λw=>Ai w.1 w.2 p with
 |true=>
  rw[h]at q;exact DE<|(Bl q).trans rfl
 |false=>
  rw[h]at q;rw[sq<|(Bb q).trans rfl,sq<|A1 (DS (its:=IG) (FJ rfl rfl) u Q) rfl];have O:(BN<|ws.filter λw=>AH.pr w.1 w.2 p).length=(ws.filter λw=>AH.pr w.1 w.2 p).length:=by simp[BN]
  generalize (ws.filter λw=>AH.pr w.1 w.2 p)=vs at *
  have el:NW ((BD 3 [.lst<|BN ws,pv p]).set 2<|iM<|.lst<|BN vs)=cI vs.length:=by rw[<-O];rfl
  have v:=Aq<|AK (AK el (fb:=fC<|.int 2) rfl<|FT OY) (fb:=fC<|.int 1) rfl<|Ko _ _;refine C3 ?_;cases h3:((vs.length:Int)%2==1)with
  |true=>rw[h3]at v;exact(cG v).trans rfl
  |false=>rw[h3]at v;exact(cF v).trans rfl
theorem WI{a b:PySem.Str}{c:Bool}(ha:PySem.SeqAt.shaped (Ad<|.str a)=true)(hb:PySem.SeqAt.shaped (Ad<|.str b)=true)(h:(a==b)=c):B0 (.cl<|.str a) (.cl<|.str b)=cB c:=
 vV ha hb (by rw[<-h];show PySem.PyData.eqv (Ad<|.str a) (Ad<|.str b)=_;delta Ad;simp[PySem.PyData.eqv])
theorem yw(ws:List<|Pt×Pt)(p:Pt):B0 (.cl<|.str<|place ws p) (.cl<|.str "in")=cB (!(ws.any λw=>Ai w.1 w.2 p)&&(((ws.filter λw=>AH.pr w.1 w.2 p).length:Int)%2==1)):=by
 have s1:PySem.SeqAt.shaped (Ad<|.str "on")=true:=ADm
 have s2:PySem.SeqAt.shaped (Ad<|.str "in")=true:=ADm
 have y:PySem.SeqAt.shaped (Ad<|.str "out")=true:=ADm
 unfold place;cases (ws.any λw=>Ai w.1 w.2 p)
 .cases (((ws.filter λw=>AH.pr w.1 w.2 p).length:Int)%2==1)
  .exact WI y s2 ADm
  .exact WI s2 s2 ADm
 .refine WI (a:="on") s1 s2 ?_;show(("on")==("in"))=false
  decide +kernel
theorem YA{r:List Pt}(hb:∀p∈r,Bd 1000 p):∀w∈BV r,Bd 1000 w.1/\Bd 1000 w.2:=λw y=>by obtain⟨k,_,rfl⟩:=AEC.mp y;exact⟨DP ADj hb _,DP ADj hb _⟩
theorem lO(r:List Pt):(BV r).length=r.length:=by simp[BV]
theorem pY{r:List Pt}(hb:∀p∈r,Bd 100 p):∀p∈r.map AH.dbl,Bd 1000 p:=λp hp=>by
 obtain⟨q,y,rfl⟩:=AEC.mp hp;have:=hb q y;unfold Bd AH.dbl at *
 dsimp only
 and_intros<;>lia
theorem u4(w:List Pt)(p:Pt):(!((BV w).any λz=>Ai z.1 z.2 p)&&((((BV w).filter λz=>AH.pr z.1 z.2 p).length:Int)%2==1))=AH.Kn w p:=by
 delta AH.Kn BV
 simp only[AF0,List.filter_map,ADo]
 rfl
theorem mV{r:List Pt}(v:0<r.length)(y:r.length<=1000)(hb:∀p∈r,Bd 100 p)(A B:Pt):Tj [.lst<|AN r,pw A B]=cB (AH.Kn (r.map AH.dbl) (A.1+B.1,A.2+B.2)):=by
 refine Bi rfl ?_;unfold Zp;have u:collect (Aj 0) Bk ag (Bf 1 []<|BD 4 [.lst<|AN r,pw A B]) (AN r)=some (AN<|r.map AH.dbl):=by unfold AN;rw[AEH];exact GJ λp hp=>⟨_,.cl<|pv<|AH.dbl p,rfl,JR (AJ (AK rfl (AK rfl rfl<|DA p)<|Fw<|GH J)<|AJ (AK rfl (AK rfl rfl<|DJ p)<|Fw<|GH J) AR) rfl,rfl⟩
 rw[sq<|A1 (DS (its:=IG) (FJ rfl rfl) (by rw[CU];exact y) u) rfl];rw[sq<|A1 (r:=.cl<|pv (A.1+B.1,A.2+B.2)) rfl rfl];refine C3 ?_;have q:(r.map AH.dbl).length<=1000:=by simpa using y
 refine(AK (Ar (AJ (Ar (AJ rfl AR) rfl<|Pf q<|by simpa using v)<|AJ rfl AR) rfl<|mY (by rw[lO];exact q)<|YA<|pY hb) rfl<|yw _ _).trans ?_;rw[u4]
theorem VA(a b:Pt):PySem.PyData.eqv (Ad<|pv a) (Ad<|pv b)=decide (a=b):=by
 have:decide (a=b)=(a.1==b.1&&a.2==b.2):=by rw[AEk];simp[Prod.ext_iff]
 rw[this];simp[pv,Ad,B5,PySem.PyData.eqv,PySem.PyData.eqvAll]
theorem Xf(a:Pt):PySem.SeqAt.shaped (Ad<|pv a)=true:=by
 have h1:PySem.PyData.canLay0 (Ad<|pv a)=true:=by simp[pv,Ad,B5,PySem.PyData.canLay0,PySem.PyData.canLayAll0]
 have h2:PySem.PyData.depth (Ad<|pv a)<=1:=by simp[pv,Ad,B5,PySem.PyData.depth,PySem.PyData.depthAll]
 unfold PySem.SeqAt.shaped
 assumption
theorem fV(a c d:Pt):Gf true (.cl<|pv a) (.cl<|pw c d)=cB (!(decide (a=c)||decide (a=d))):=by unfold Gf;have e:(RV.cl<|pw c d).seq=some [pv c,pv d]:=rfl;rw[e];dsimp only;have y:(RV.cl<|pv a).any=pv a:=rfl;rw[y,ADr ⟨Xf a,by unfold O3;simp[Xf]⟩,ADr rfl];unfold inD;simp only[AFI,AFI,AHR,AGW,VA,VA,show decide (c=a)=decide (a=c)by simp[eq_comm],show decide (d=a)=decide (a=d)by simp[eq_comm]]
noncomputable def JT(A B:Pt)(w:Pt×Pt):Bool:=(!(decide (A=w.1)||decide (A=w.2)))&&(!(decide (B=w.1)||decide (B=w.2)))
theorem zB(r:List Pt)(A B:Pt):(((BV r).filter<|JT A B).map λw=>A0 A B w.1 w.2).any id=AH.Iq r A B:=by
 delta AH.Iq BV
 simp only[AF0,List.any_filter,AF0]
 rfl
def KA(n i j:Int):Bool:=(decide (0<=i)&&(decide (i<j)&&decide (j<n)))&&!(nb n<|j-i)
def K8(r:List Pt)(i j:Int):Bool:=KA r.length i j&&(!AH.Iq r (AA r i) (AA r j)&&AH.Kn (r.map AH.dbl) ((AA r i).1+(AA r j).1,(AA r i).2+(AA r j).2))
theorem mK{r:List Pt}(h:DK r=true)(i j:Int):PQ [.lst<|AN r,.int i,.int j]=cB (K8 r i j):=by
 obtain⟨h3,v,hb⟩:=Jy h;refine Bi rfl ?_;unfold ZW;have el:Cp (BD 5 [.lst<|AN r,.int i,.int j])=cI r.length:=OV r _ rfl;have q:aN (BD 5 [.lst<|AN r,.int i,.int j])=some (!(KA r.length i j)):=by unfold KA;rw[Bool.not_and,Bool.not_not];exact Ei (D4<|Aq<|cC rfl rfl rfl el) λ_=>Aq<|Ar (AJ el<|AJ rfl<|AJ rfl AR) rfl<|Tn<|HY h3
 unfold K8;cases hc:KA r.length i j with
 |false=>
  rw[hc]at q;exact DE<|(Bl q).trans rfl
 |true=>
  rw[hc]at q;rw[sq<|(Bb q).trans rfl];have BM:=by unfold KA at hc;simp only[ADx,ADu]at hc;exact hc.1
  have Z:BA Us (BD 5 [.lst<|AN r,.int i,.int j])=some (.cl<|pw (AA r i)<|AA r j):=
   JR (AJ (AK rfl rfl<|Ce r i J J)<|AJ (AK rfl rfl<|Ce r j J J) AR) rfl
  rw[sq<|A1 Z rfl];show AM _ _ [iL r,iI i,iI j,iM<|pw (AA r i)<|AA r j,none]=_;have Y:=DP Du hb i;have Q:=DP Du hb j;generalize AA r i=A at *
  generalize AA r j=B at *
  have O:(BN<|BV r).length<=1000:=by simp[BN,BV];exact Ob v
  have P:collect (Aj 0) ao (AD 0) (Bf 1 [3] [iL r,iI i,iI j,iM<|pw A B,none]) (BN<|BV r)=some (BN<|(BV r).filter<|JT A B):=by exact GI λw u=>⟨_,rfl,JQ (Aq<|AK (AK rfl rfl<|Kq A B) rfl<|fV _ _ _) λ_=>Aq<|AK (AK rfl rfl<|Kr A B) rfl<|fV _ _ _,λ_=>⟨.cl<|pw w.1 w.2,rfl,rfl⟩⟩
  rw[sq<|A1 (DS (its:=QM) (FJ (Ar (AJ rfl AR) rfl<|Pf (Ob v)<|CI h3) rfl) O P) rfl];show AM _ _ [iL r,iI i,iI j,iM<|pw A B,iM<|.lst<|BN<|(BV r).filter<|JT A B]=_;have D:(BN<|(BV r).filter<|JT A B).length<=1000:=by have:=AGF (JT A B)<|BV r;rw[lO]at this;simp only[BN,ADo];lia
  have F:collect (Aj 0) Bk (AW LR IJ) (Bf 1 [3] [iL r,iI i,iI j,iM<|pw A B,iM<|.lst<|BN<|(BV r).filter<|JT A B]) (BN<|(BV r).filter<|JT A B)=some ((((BV r).filter<|JT A B).map λw=>A0 A B w.1 w.2).map PV.bl):=by rw[AEH];exact GJ λw u=>⟨_,.cl<|.bl<|A0 A B w.1 w.2,rfl,Ar (AJ rfl<|AJ rfl AR) rfl<|YU Y Q (YA hb w (AEY.mp u).1).1 (YA hb w (AEY.mp u).1).2,rfl⟩
  have y:=Aq<|VD<|DS (its:=IH) (FJ rfl rfl) D F;rw[zB]at y;cases hp:AH.Iq r A B with
  |true=>
   rw[hp]at y;exact DE<|(Bl y).trans rfl
  |false=>
   rw[hp]at y;rw[sq<|(Bb y).trans rfl];exact C3<|Ar (AJ rfl<|AJ rfl AR) rfl<|mV (CI h3) (Ob v) (((LB r).mp h).2) A B
theorem fU(i a b:Int):Bc false (.cl<|.int i) (.fr [.int a,.int b])=cB (i==a||i==b):=by simp only[Bc,RV.seq,RV.list,EM,AEr,AFI,AHR,AGW,Bool.false_eq_true,if_false];rw[AGv,AGv (a:=b)]
noncomputable def Fj(n i j:Int):Bool:=(decide (0<=i)&&(decide (i<j)&&decide (j<n)))&&!((j-i)==1||(j-i)==n-1)
def HW(r:List Pt)(i j:Int):Bool:=Fj r.length i j&&(!AH.Ku r i j&&AH.NR (AA r<|i-1) (AA r i) (AA r<|i+1) (AA r j))
theorem mS{r:List Pt}(h3:3<=r.length)(T:r.length<=12)(hb:∀p∈r,Bd 1000 p)(i j:Int):Td [.lst<|AN r,.int i,.int j]=cB (HW r i j):=by
 refine Bi rfl ?_;unfold Zf;rw[sq<|A1 (OV r (BD 10 [.lst<|AN r,.int i,.int j]) rfl) rfl];show AM _ _ [iL r,iI i,iI j,iI r.length,none,none,none,none,none,none]=_;have Z:aG [iL r,iI i,iI j,iI r.length,none,none,none,none,none,none]=some (!(Fj r.length i j)):=by unfold Fj;rw[Bool.not_and,Bool.not_not];exact Ei (D4<|Aq<|cC rfl rfl rfl rfl) λ_=>Aq<|AK (AK rfl rfl<|Dr _ _) (D3 (AJ rfl<|AJ (AK rfl rfl<|Dr _ _) AR) rfl)<|fU _ _ _
 unfold HW;cases hc:Fj r.length i j with
 |false=>
  rw[hc]at Z;exact DE<|(Bl Z).trans rfl
 |true=>
  rw[hc]at Z;rw[sq<|(Bb Z).trans rfl,AE5];have D:=by unfold Fj at hc;simp only[ADx,ADu]at hc;exact hc.1
  rw[sq<|iy (AJ (AK rfl rfl<|Ce r i (by cases D;lia) J)<|AJ (AK rfl rfl<|Ce r j J ADj) AR) rfl];show AM _ _ [iL r,iI i,iI j,iI r.length,iM<|pv<|AA r i,iM<|pv<|AA r j,none,none,none,none]=_;have q:=λk=>DP Du hb k;have F:Cs Fm [iL r,iI i,iI j,iI r.length,iM<|pv<|AA r i,iM<|pv<|AA r j,none,none,none,none]=some ((List.range r.length).map λk:Nat=>PV.int<|k):=EH (AJ rfl AR)<|Ob T;have H:=Ii (enc:=λk:Nat=>PV.int<|k) (gt:=Aj 6) (body:=aE)
   (c:=λk=>((!((k)==i||(k)==j))&&Ai (AA r i) (AA r j) (AA r k))||(((!((k)==i||(k)==j))&&(!(((k)+1)%(r.length)==i||((k)+1)%(r.length)==j)))&&BP (AA r i) (AA r j) (AA r k) (AA r<|((k)+1)%(r.length))))
   (λρ=>∃a b,ρ=[iL r,iI i,iI j,iI r.length,iM<|pv<|AA r i,iM<|pv<|AA r j,a,b,none,none]) (xs:=List.range r.length) ⟨none,none,rfl⟩ (by
   rintro k C ρ ⟨a,b,rfl⟩;have R:=AD2.mp C;refine⟨_,rfl,?_⟩;have l1:=AEL ((k)+1) (b:=(r.length))<|HY h3;have Y:aW [iL r,iI i,iI j,iI r.length,iM<|pv<|AA r i,iM<|pv<|AA r j,iI k,b,none,none]=some ((!((k)==i||(k)==j))&&Ai (AA r i) (AA r j) (AA r k)):=
    JQ (Aq<|AK rfl (D3 (AJ rfl<|AJ rfl AR) rfl)<|OP _ _ _) λ_=>Aq<|Ar (AJ rfl<|AJ rfl<|AJ (AK rfl rfl<|Ce r (k) J<|Df R) AR) rfl<|YV (q _)<|q _
   have es:Aa 7 (f2 BY (f2 As (AD 6)<|fC<|.int 1)<|AD 3) [iL r,iI i,iI j,iI r.length,iM<|pv<|AA r i,iM<|pv<|AA r j,iI k,b,none,none]=some (.nx [iL r,iI i,iI j,iI r.length,iM<|pv<|AA r i,iM<|pv<|AA r j,iI k,iI<|((k)+1)%(r.length),none,none]):=
    A1 (AK (AK rfl rfl<|IZ _ _) rfl<|FT<|HY h3) rfl
   have P:ai [iL r,iI i,iI j,iI r.length,iM<|pv<|AA r i,iM<|pv<|AA r j,iI k,iI<|((k)+1)%(r.length),none,none]=some ((!((k)==i||(k)==j))&&(!(((k)+1)%(r.length)==i||((k)+1)%(r.length)==j))):=
    JQ (Aq<|AK rfl (D3 (AJ rfl<|AJ rfl AR) rfl)<|OP _ _ _) λ_=>Aq<|AK rfl (D3 (AJ rfl<|AJ rfl AR) rfl)<|OP _ _ _
   have B:(AV bE) [iL r,iI i,iI j,iI r.length,iM<|pv<|AA r i,iM<|pv<|AA r j,iI k,iI<|((k)+1)%(r.length),none,none]=some (BP (AA r i) (AA r j) (AA r k)<|AA r<|((k)+1)%(r.length)):=
    Aq (Ar (AJ rfl<|AJ rfl<|AJ (AK rfl rfl<|Ce r (k) J<|Df R)<|AJ (AK rfl rfl<|Ce r (((k)+1)%(r.length)) J ADn) AR) rfl<|YS (q _) (q _) (q _)<|q _)
   generalize ((!((k)==i||(k)==j))&&Ai (AA r i) (AA r j) (AA r k))=b1 at *
   generalize ((!((k)==i||(k)==j))&&(!(((k)+1)%(r.length)==i||((k)+1)%(r.length)==j)))=b2 at *
   generalize BP (AA r i) (AA r j) (AA r k) (AA r<|((k)+1)%(r.length))=b3 at *
   cases b1 with
   |true=>exact⟨λ_=>DE<|(Bl Y).trans rfl,λh=>by simp at h⟩
   |false=>
    cases b2 with
    |false=>exact⟨λh=>by simp at h,λ_=>⟨_,(sq<|(Bb Y).trans rfl).trans<|(sq es).trans<|(Bb P).trans rfl,_,_,rfl⟩⟩
    |true=>
     cases b3 with
     |false=>exact⟨λh=>by simp at h,λ_=>⟨_,(sq<|(Bb Y).trans rfl).trans<|(sq es).trans<|(Bl P).trans<|(Bb B).trans rfl,_,_,rfl⟩⟩
     |true=>exact⟨λ_=>(sq<|(Bb Y).trans rfl).trans<|(sq es).trans<|(Bl P).trans<|(Bl B).trans rfl,λh=>by simp at h⟩)
  cases G:AH.Ku r i j with
  |true=>exact DE<|(CH F).trans<|H.1 G
  |false=>
   obtain⟨ρ',e,a,b,rfl⟩:=H.2 G;rw[sq<|(CH F).trans e,AIK,AE5];have l0:=AEZ (i+1) (b:=(r.length))<|Jr h3;have l1:=AEL (i+1) (b:=(r.length))<|HY h3;have E:AA r ((i+1)%(r.length))=AA r (i+1):=AH.Fl r _;have S:=Ce r ((i+1)%(r.length)) J ADn;rw[E]at S;have fn:∀x y z w:Option SV,QK [iL r,iI i,iI j,iI r.length,iM<|pv<|AA r i,iM<|pv<|AA r j,x,y,z,w]=some (.cl<|pv<|AA r<|i+1):=λ_ _ _ _=>
    AK rfl (AK (AK rfl rfl<|IZ _ _) rfl<|FT<|HY h3) S
   have fp:∀x y z w:Option SV,NZ [iL r,iI i,iI j,iI r.length,iM<|pv<|AA r i,iM<|pv<|AA r j,x,y,z,w]=some (.cl<|pv<|AA r<|i-1):=λ_ _ _ _=>
    AK rfl (AK rfl rfl<|Dr _ _) (Ce r (i-1) (by cases D;lia) J)
   have sd:∀(f g h:EF)(u v w:Pt)(ρ:AS),Bd 1000 u->Bd 1000 v->f ρ=some (.cl<|pv u)->g ρ=some (.cl<|pv v)->h ρ=some (.cl<|pv w)->f2 Cv (AW FA<|AG f<|AG g<|AG h AO) (fC<|.int 0) ρ=cB (decide (AE u v w>0)):=λf g h u v w ρ b1 b2 I U n=>
    AK (Ar (AJ I<|AJ U<|AJ n AR) rfl<|Pe b1 b2) rfl (Ic _ _)
   rw[sq<|A1 (sd _ _ _ (AA r i) (AA r<|i+1) (AA r j) _ (q _) (q _) rfl (fn _ _ _ _) rfl) rfl];show AM _ _ [iL r,iI i,iI j,iI r.length,iM<|pv<|AA r i,iM<|pv<|AA r j,a,b,iM<|.bl<|decide (AE (AA r i) (AA r<|i+1) (AA r j)>0),none]=_;rw[sq<|A1 (sd _ _ _ (AA r<|i-1) (AA r i) (AA r j) _ (q _) (q _) (fp _ _ _ _) rfl rfl) rfl];show AM _ _ [iL r,iI i,iI j,iI r.length,iM<|pv<|AA r i,iM<|pv<|AA r j,a,b,iM<|.bl<|decide (AE (AA r i) (AA r<|i+1) (AA r j)>0),iM<|.bl<|decide (AE (AA r<|i-1) (AA r i) (AA r j)>0)]=_;have Q:=Aq<|sd NZ (AD 4) QK (AA r<|i-1) (AA r i) (AA r<|i+1) [iL r,iI i,iI j,iI r.length,iM<|pv<|AA r i,iM<|pv<|AA r j,a,b,iM<|.bl<|decide (AE (AA r i) (AA r<|i+1) (AA r j)>0),iM<|.bl<|decide (AE (AA r<|i-1) (AA r i) (AA r j)>0)] (q _) (q _) (fp _ _ _ _) rfl<|fn _ _ _ _;unfold AH.NR;by_cases O:AE (AA r<|i-1) (AA r i) (AA r<|i+1)>0
   .rw[AEs O]at Q;rw[ADr O];exact DE<|(Bl Q).trans<|C3<|Lk rfl λ_=>rfl
   .rw[AFK O]at Q;rw[ADs O,sq<|(Bb Q).trans rfl];exact C3<|Nj rfl λ_=>rfl
theorem RH{r:List Pt}(h:DK r=true)(i j:Int):K8 r i j=HW r i j:=by
 obtain⟨R,_⟩:=(LB r).mp h;have h3:=R.l3
 delta K8 HW
 have y:KA r.length i j=Fj r.length i j:=by
  delta KA Fj
  cases hd:(decide (0<=i)&&(decide (i<j)&&decide (j<(r.length))))with
  |false=>rfl
  |true=>
   simp only[ADx,ADu]at hd;unfold AH.nb;rw[ADq J J]
 simp only[y];cases hc:Fj r.length i j with
 |false=>rfl
 |true=>
  simp only[Fj,ADx,ADx,ADx,ADu,ADu,ADu,AEQ,AEe,AEG,AEG]at hc;obtain⟨⟨a,b,c⟩,d,e⟩:=hc;refine AH.v3 R a J J c ?_;have f:AH.Bv r.length<|j-i:=by unfold AH.Bv;rw[ADq J<|wM a c];exact⟨J,d,e⟩
  have:=f.neg<|Jp h3;rw[show -(j-i)=i-j by lia]at this;exact this
theorem QY{g:AF}{ρ:AS}{i j:Nat}(e:g ρ=some [.cl<|.int<|i,.cl<|.int<|j])(hi:i<=1000)(hj:j<=1000):EI g ρ=some ((List.range<|j-i).map λt:Nat=>PV.int<|(i+t:Nat)):=by unfold EI;rw[e];dsimp only;rw[ADr (by unfold JC;and_intros<;>lia)];unfold MV;rw[show((j:Int)-(i)).toNat=j-i by lia];dsimp only[Int.natCast_add]
theorem QT{fa fb fc fd:EF}{ρ:AS}{i j k l:Int}(ha:fa ρ=cI i)(hb:fb ρ=cI j)(hc:fc ρ=cI k)(hd:fd ρ=cI l):FK Cf Cf Cf fa fb fc fd ρ=cB (decide (i<j)&&(decide (j<k)&&decide (k<l))):=by
 unfold FK;rw[ha,hb];dsimp only;simp only[Ig];cases h:decide (i<j)
 .rfl
 .dsimp only;rw[hc];dsimp only;simp only[Ig];cases h2:decide (j<k)
  .rfl
  .dsimp only;rw[hd];rfl
noncomputable def xB(e f:Pt):Bool:=(decide (e.1<f.1)&&(decide (f.1<e.2)&&decide (e.2<f.2)))||(decide (f.1<e.1)&&(decide (e.1<f.2)&&decide (f.2<e.2)))
theorem mH(e f:Pt):PK [pv e,pv f]=cB (xB e f):=by refine Bi rfl ?_;exact C3<|Nj (QT (AK rfl rfl<|DA e) (AK rfl rfl<|DA f) (AK rfl rfl<|DJ e)<|AK rfl rfl<|DJ f) λ_=>QT (AK rfl rfl<|DA f) (AK rfl rfl<|DA e) (AK rfl rfl<|DJ f)<|AK rfl rfl<|DJ e
theorem qk{f:EF}{ρ:AS}{b:Bool}(e:f ρ=cB b):KP f ρ=cB (!b):=by unfold KP;rw[e]
theorem qi{f:EF}{ρ:AS}{bs:List Bool}(e:f ρ=some (.fr<|bs.map PV.bl)):fB Ge (AG f AO) ρ=cB (bs.all id):=by refine B8 (AJ e AR) ?_;simp only[Ge,RV.list,AES,Py,AEr]
theorem nN{its:IF}{own:Nat}{cap:List Nat}{g:GF}{fe:EF}{ρ:AS}{α:Type}{enc:α->PV}{h:α->Bool}{xs:List α}(e:its ρ=some (xs.map enc))(q:xs.length<=1000)(H:∀x∈xs,∃y,g (enc x) (Bf own cap ρ)=some y/\fe y=cB (h x)):fB Ge (AG (BH its own cap g Bk fe) AO) ρ=cB (xs.all h):=by have:=qi ((DS e (by rw[ADo];exact q)<|GJ λx v=>(by obtain⟨y,a,b⟩:=H x v;exact⟨y,_,a,b,rfl⟩)).trans (by rw[AEH];rfl));rw[AHw]at this;exact this
theorem mW(e:Pt){N:List Pt}(y:N.length<=1000):PM [pv e,.lst<|AN N]=cB (!N.any (xB e)):=by refine Bi rfl ?_;have:=qk (VD <|(DS (own:=1) (cap:=[0]) (its:=B9 false<|AD 1) (ρ:=BD 2 [pv e,.lst<|AN N]) (FJ rfl rfl) (by rw[CU];exact y)<|GJ (g:=Aj 0) (fe:=AW PK IJ) λf _=>⟨_,_,rfl,Ar (AJ rfl<|AJ rfl AR) rfl<|mH e f,rfl⟩).trans (by rw[AEH];rfl));rw[AF0]at this;exact C3 this
theorem kp(c:Int->Int->Int->Int->Bool)(e f:Pt):HU c (.cl<|pv e) (.cl<|pv f)=cB (c e.1 e.2 f.1 f.2):=rfl
theorem ME{gt:GF}{body:SF}{enc:Nat->PV}(R:Nat->AS->Prop){n:Nat}{ρ:AS}(Y:R 0 ρ)(step:∀i,i<n->∀ρ,R i ρ->∃y q,gt (enc i) ρ=some y/\body y=some (.nx q)/\R (i+1) q) : ∃ρ',ER gt body ((List.range n).map enc) ρ=some (.nx ρ')/\R n ρ':=by
 have H:=Kv (λ(u)(_)=>u) (λi _ ρ=>R i ρ) (xs:=List.range n) (b:=()) Y λi x v b ρ hR=>by have hi:=(ADw.mp v).1;have Z:=(ADw.mp v).2;simp at hi Z;subst Z;rw[AFD]at hR ⊢;exact step i hi ρ hR
 rw[AF4,AFD]at H;exact H
theorem VE{f:EF}{g:AF}{ρ:AS}{r:RV}{rs:List RV}{ks:List (List Int)}{xs:List PV}{k:List Int}{p:PV}(e:f ρ=some r)(y:g ρ=some rs)(q:r.By=some (ks,xs))(v:Jx rs=some k)(u:CS ks xs k=some p)(Z:Nat.ble k.length 1000=true:=by rfl):JS f g ρ=some (.cl p):=by
 unfold JS;rw[e,y];dsimp only;rw[q,v];dsimp only;rw[ADr<|AGE Z,u]
 rfl
theorem cD{i:Nat}{g:AF}{f:EF}{ρ:AS}{r:RV}{rs:List RV}{t:Option PySem.Addr}{ks:List (List Int)}{xs:List PV}{k:List Int}{p:PV}(e:f ρ=some r)(y:ρ[i]? = some (some<|.Cj t ks xs))(q:g ρ=some rs)(v:r.clean=some p)(u:Jx rs=some k)(Z:ks.length<1000000)(Y:Nat.ble k.length 1000=true:=by rfl) : KW i g f ρ=some (.nx<|ρ.set i<|some<|.Cj t (FH ks k)<|HB ks xs k p):=by unfold KW;rw[e,y,q];dsimp only;rw[v,u];dsimp only;rw[ADr ⟨Z,AGE Y⟩]
noncomputable def kN(i j:Nat):List Int:=[(i:Int),(j:Int)]
theorem WJ{i j k l:Nat}:kN i j=kN k l↔i=k/\j=l:=by unfold kN;constructor<;>lia
def EN(r:List Pt)(i j:Nat):Bool:=((j:Int)-(i:Int)==1||(j:Int)-(i:Int)==(r.length:Int)-1)||HW r (i:Int) (j:Int)
def kE(e:Nat×Nat):List Int:=kN e.1 e.2
def Tu(r:List Pt)(K:List<|Nat×Nat):Prop:=K.Nodup/\∀e∈K,e.1<e.2/\e.2<r.length
def NA(r:List Pt)(ok:Nat->Nat->Prop)(b:Nat)(ks:List<|List Int)(xs:List PV):Prop:=ks.length=xs.length/\ks.length<=b/\(∃K,ks=K.map kE/\Tu r K)/\∀x y,x<y->y<r.length->ok x y->CS ks xs (kN x y)=some (.bl<|EN r x y)
theorem NA.put{r:List Pt}{ok q:Nat->Nat->Prop}{b:Nat}{ks:List (List Int)}{xs:List PV}(h:NA r ok b ks xs){i j:Nat}(hi:i<j)(Y:j<r.length)(AX:∀x y,x<y->y<r.length->q x y->(x=i/\y=j)\/ok x y):NA r q (b+1) (FH ks<|kN i j)<|HB ks xs (kN i j)<|.bl<|EN r i j:=by
 refine⟨Z2 h.1 _ _,AEF (Z1 _ _) (by have:=h.2.1;exact Od this),?_,λx y v u h3=>?_⟩
 .obtain⟨K,rfl,nd,Z⟩:=h.2.2.1;unfold FH;split
  .exact⟨K,rfl,nd,Z⟩
  .rename_i n;refine⟨K ++ [(i,j)],by rw[AEl];rfl,AHg.mpr ⟨nd,AEw _ _,λa ha b hb z=>?_⟩,λe he=>?_⟩
   .rw[ADv]at hb;subst hb z;exact n<|AEC.mpr ⟨_,ha,rfl⟩
   .rcases AD7.mp he with he|he
    .exact Z e he
    .rw[ADv]at he;subst he;exact⟨hi,Y⟩
 .rw[Zx h.1];by_cases e:kN x y=kN i j
  .rw[ADr e];obtain⟨rfl,rfl⟩:=WJ.mp e
   rfl
  .rw[ADs e];rcases AX x y v u h3 with⟨rfl,rfl⟩|Q
   .exact absurd rfl e
   .exact h.2.2.2 x y v u Q
theorem mR{r:List Pt}(h:DK r=true):∃K xs,Tc [.lst<|AN r]=some (.fd (K.map kE) xs)/\K.length<=144/\Tu r K/\∀x y,x<y->y<r.length->CS (K.map kE) xs (kN x y)=some (.bl<|EN r x y):=by
 obtain⟨h3,Y,hb⟩:=Jy h;have el:Cp (BD 5 [.lst<|AN r])=cI r.length:=by rw[<-CU];rfl
 obtain⟨ρ',e,ks,xs,c,d,rfl,q⟩:=ME (gt:=Aj 3) (body:=Z7) (λm ρ=>∃ks xs c d,ρ=[iL r,iI r.length,some<|.Cj none ks xs,c,d]/\NA r (λ_ y=>y<m) (12*m) ks xs) (n:=r.length) ⟨[],[],none,none,rfl,rfl,ADk,⟨[],rfl,.nil,λ_ z=>(nomatch z)⟩,λx y _ _ h=>J⟩ (by
  rintro m hm ρ ⟨ks,xs,c,d,rfl,q⟩;obtain⟨ρ',e,OS,TF,d',rfl,Z⟩:=ME (gt:=Aj 4) (body:=aA) (λf ρ=>∃ks xs d,ρ=[iL r,iI r.length,some<|.Cj none ks xs,iI m,d]/\NA r (λx y=>y<m\/(y=m/\x<f)) (12*m+f) ks xs) (n:=m) ⟨ks,xs,d,rfl,q.1,q.2.1,q.2.2.1,λx y u v h3=>q.2.2.2 x y u v J⟩ (by
   rintro f Q ρ ⟨ks,xs,d,rfl,q⟩;have O:aL [iL r,iI r.length,some<|.Cj none ks xs,iI m,iI f]=cB (EN r f m):=by exact Nj (AK (AK rfl rfl<|Dr _ _) (D3 (AJ rfl<|AJ (AK rfl rfl<|Dr _ _) AR) rfl)<|fU _ _ _) λ_=>Ar (AJ rfl<|AJ rfl<|AJ rfl AR) rfl<|mS h3 Y hb _ _
   exact⟨_,_,rfl,cD (k:=kN f m) O rfl rfl rfl rfl (by have:=q.2.1;lia),_,_,_,rfl,q.put (i:=f) (j:=m) Q hm λx y u v h3=>by rcases h3 with h3|h3<;>lia⟩)
  exact⟨_,_,rfl,(CH<|EH (AJ rfl AR) J).trans e,_,_,_,_,rfl,Z.1,by have:=Z.2.1;lia,Z.2.2.1,λx y u v h3=>Z.2.2.2 x y u v J⟩)
 obtain⟨K,rfl,kI⟩:=q.2.2.1;refine⟨K,xs,Bi rfl ?_,by have:=q.2.1;rw[ADo]at this;lia,kI,λx y u v=>q.2.2.2 x y u v v⟩;unfold Ze;rw[sq<|A1 el rfl];rw[sq (ρ':=[iL r,iI r.length,some<|.Cj none [] [],none,none]) rfl];rw[sq<|(CH<|EH (AJ rfl AR)<|Ob Y).trans e]
 rfl
theorem WT{r:List Pt}(h:DK r=true){i j:Nat}(q:i<j)(v:j<r.length):HW r (i) (j)=true↔AH.Line r (i) (j):=by
 obtain⟨R,_⟩:=(LB r).mp h;have h3:=R.l3;unfold HW;constructor
 .intro e;rw[ADx,ADx,AEQ]at e;obtain⟨hc,hb,y⟩:=e;simp only[Fj,ADx,ADx,ADx,ADu,ADu,ADu,AEQ,AEe,AEG,AEG]at hc;obtain⟨⟨a,b,c⟩,d,e⟩:=hc;have f:AH.Bv r.length<|(i)-j:=AH.Nm (by clear y;right;lia);exact⟨(AH.RE R.simple R.DF a ADj ADj c f).mp hb,AH.Ua.mp y⟩
 .rintro⟨p,k⟩;have f:=AH.QZ (Jp h3) p.CZ (by clear q;lia) J;simp only[ADx,ADx,AEQ];refine⟨?_,(AH.RE R.simple R.DF Ew ADj J (Df v) p.CZ).mpr p,AH.Ua.mpr k⟩;simp only[Fj,ADx,ADx,ADx,ADu,ADu,ADu,AEQ,AEe,AEG,AEG];clear h3;omega
theorem WE{r:List Pt}{i j:Nat}:EN r i j=true↔(j:Int)-i=1\/(j:Int)-i=(r.length)-1\/HW r i j=true:=by unfold EN;rw[AEV,AEV,AFf,AFf,or_assoc]
theorem vQ{r:List Pt}(h:DK r=true){a b:Nat}(v:a+1<b)(hb:b<r.length)(u:EN r a b=true):∃c,a<c/\c<b/\EN r a c=true/\EN r c b=true:=by
 obtain⟨R,_⟩:=(LB r).mp h;obtain⟨k,y,q,Z,Y⟩:=R.Lb (i:=(a)) (j:=(b)) Ew J (Df hb) (by
  rcases WE.mp u with c|c|c
  .lia
  .right;lia
  .exact .inl<|(WT h (gO v) hb).mp c)
 obtain⟨c,rfl⟩:∃c:Nat,k=(c):=⟨k.toNat,J⟩;refine⟨c,Oe y,Oe q,WE.mpr ?_,WE.mpr ?_⟩
 .rcases Z with e|e
  .left;lia
  .exact .inr<|.inr<|(WT h (Oe y) J).mpr e
 .rcases Y with e|e
  .left;lia
  .exact .inr<|.inr<|(WT h (Oe q) ADn).mpr e
set_option tactic.hygienic true
abbrev NN:=Nat×Nat
noncomputable def pl(e:Nat×Nat):PV:=.tup [.int (e.1:Int),.int (e.2:Int)]
noncomputable def Fb(n i:Nat):List<|Nat×Nat:=(List.range<|n-(i+1)).map λt=>(i,i+1+t)
def Ga(r:List Pt)(e:Nat×Nat):Bool:=K8 r (e.1:Int) (e.2:Int)
def Be(r:List Pt):List<|Nat×Nat:=(List.range r.length).foldl (λl i=>l++(Fb r.length i).filter (Ga r)) []
theorem RI{r:List Pt}{i j:Nat}:(i,j)∈Be r↔i<j/\j<r.length/\K8 r (i:Int) (j:Int)=true:=by
 have gen:∀(m:Nat)(l:List<|Nat×Nat),(i,j)∈(List.range m).foldl (λl i=>l++(Fb r.length i).filter (Ga r)) l↔(i,j)∈l\/(i<m/\i<j/\j<r.length/\K8 r (i:Int) (j:Int)=true):=by
  intro m l
  induction m with
  |zero=>simp
  |succ m ih=>
   rw[AFN,AF6,AGZ,AIM,AD7,ih,AEY];have e:(i,j)∈Fb r.length m↔i=m/\m<j/\j<r.length:=by unfold Fb;simp only[AEC,AD2,AGG];exact⟨λ⟨t,h,u,e2⟩=>⟨u.symm,ADj,ADj⟩,λ⟨q,y,h3⟩=>⟨j-(m+1),ADj,q.symm,ADj⟩⟩
   rw[e];unfold Ga;constructor
   .rintro((h|h)|⟨⟨q,y,h3⟩,v⟩)
    .exact .inl h
    .exact .inr ⟨ADj,h.2⟩
    .subst q;exact .inr ⟨ADj,y,h3,v⟩
   .rintro(h|⟨q,y,h3,v⟩)
    .exact .inl<|.inl h
    .by_cases hm:i=m
     .subst hm;exact .inr ⟨⟨rfl,y,h3⟩,v⟩
     .exact .inl<|.inr ⟨ADj,y,h3,v⟩
 unfold Be;rw[gen];simp only[AH0,false_or];exact⟨λh=>h.2,λh=>⟨ADj,h⟩⟩
theorem gC(r:List Pt)(h:r.length<=12):∀m,m<=12->((List.range m).foldl (λl i=>l++(Fb r.length i).filter (Ga r)) []).length<=12*m:=by
 intro m hm
 induction m with
 |zero=>simp
 |succ m ih=>
  rw[AFN,AF6,AGZ,AIM,AD1];have h1:=ih ADj;have h2:=AGF (Ga r)<|Fb r.length m;have h3:(Fb r.length m).length=r.length-(m+1):=by unfold Fb;simp
  omega
theorem wa{i:Nat}{ga:AF}{ρ:AS}{rs:List RV}{ps zs:List PV}(y:ρ[i]? = some (some<|.own ps))(ea:ga ρ=some rs)(q:C8 rs=some [.lst zs])(h:ps.length+zs.length<=1000):DT i Kp ga ρ=some (.nx<|ρ.set i<|some<|.own<|ps++zs):=by unfold DT;rw[y,ea];dsimp only;rw[q];dsimp only;unfold Kp;dsimp only;rw[ADr h]
def Fx(r:List Pt)(m:Nat):List<|Nat×Nat:=(List.range m).foldl (λl i=>l++(Fb r.length i).filter (Ga r)) []
theorem gE(r:List Pt)(m:Nat):Fx r (m+1)=Fx r m++(Fb r.length m).filter (Ga r):=by unfold Fx;rw[AFN,AF6,AGZ,AIM]
theorem YR{r:List Pt}(h:DK r=true):Pb [.lst<|AN r]=some (.fr<|(Be r).map pl):=by
 obtain⟨h3,q,_⟩:=Jy h;refine Bi rfl ?_;unfold Zl;rw[sq<|set_own<|D3 AR rfl];show AM _ _ [some<|.im<|.lst<|AN r,some<|.own [],none]=_;have el:∀x y:Option SV,Cp [some<|.im<|.lst<|AN r,x,y]=some (.cl<|.int (r.length:Int)):=λ_ _=>by rw[<-CU];rfl
 obtain⟨ρ',e,x,rfl⟩:=ME (enc:=λk:Nat=>PV.int (k:Int)) (gt:=Aj 2) (body:=Z8)
  (λm ρ=>∃x,ρ=[some<|.im<|.lst<|AN r,some<|.own<|(Fx r m).map pl,x]) (n:=r.length) (ρ:=[some<|.im<|.lst<|AN r,some<|.own [],none]) ⟨none,rfl⟩ (by
  rintro i hi ρ ⟨x,rfl⟩;have eR:bO [some<|.im<|.lst<|AN r,some<|.own<|(Fx r i).map pl,some<|.im<|.int (i:Int)]=some ((List.range<|r.length-(i+1)).map λt:Nat=>PV.int ((i+1+t:Nat):Int)):=
   QY (AJ (by exact AK (x:=.cl<|.int (i:Int)) (y:=.cl<|.int 1) rfl rfl (by rw[IZ];rfl))<|AJ (el _ _) AR) ADj ADj
  have c:collect (Aj 0) (AV<|AW PQ<|AG (AD 1) NV) (BA NV) (Bf 1 [0,2] [some<|.im<|.lst<|AN r,some<|.own<|(Fx r i).map pl,some<|.im<|.int (i:Int)]) ((List.range<|r.length-(i+1)).map λt:Nat=>PV.int ((i+1+t:Nat):Int))=some (((List.range<|r.length-(i+1)).filter λt=>Ga r (i,i+1+t)).map λt=>pl (i,i+1+t)):=
   GI (enc:=λt:Nat=>PV.int ((i+1+t:Nat):Int)) (c:=λt=>Ga r (i,i+1+t)) (h:=λt=>pl (i,i+1+t)) λt ht=>
    ⟨_,rfl,Aq<|Ar (AJ (x:=.cl<|.lst<|AN r) rfl<|AJ (x:=.cl<|.int (i:Int)) rfl<|AJ (x:=.cl<|.int ((i+1+t:Nat):Int)) rfl AR) rfl<|mK h _ _,λ_=>⟨_,JR (AJ (x:=.cl<|.int (i:Int)) rfl<|AJ (x:=.cl<|.int ((i+1+t:Nat):Int)) rfl AR) rfl,rfl⟩⟩
  have v:=DS (own:=1) (cap:=[0,2]) eR (by simp;omega) c;have HL:=gC r q i ADj;have HM:((List.range<|r.length-(i+1)).filter λt=>Ga r (i,i+1+t)).length<=r.length:=AEF (AGF _ _) ADk;refine⟨_,_,rfl,wa (ps:=(Fx r i).map pl) rfl (AJ v AR) rfl (by rw[ADo,ADo];unfold Fx;omega),some<|.im<|.int (i:Int),?_⟩;rw[gE,AEl];unfold Fb;rw[List.filter_map,AEH]
  rfl)
 rw[sq<|(CH<|EH (AJ (el _ _) AR) ADj).trans e]
 rfl
theorem qd(a b:Nat×Nat):PySem.PyData.eqv (Ad<|pl a) (Ad<|pl b)=decide (a=b):=by have:=VA ((a.1:Int),(a.2:Int)) ((b.1:Int),(b.2:Int));unfold pv at this;unfold pl;rw[this,AFQ];obtain⟨a1,a2⟩:=a;obtain⟨b1,b2⟩:=b;simp only[AGG,Int.ofNat_inj]
theorem j6(a:Nat×Nat):PySem.SeqAt.shaped (Ad<|pl a)=true:=Xf ((a.1:Int),(a.2:Int))
theorem u5(L:List<|Nat×Nat)(a:Nat×Nat):inD (L.map pl) (pl a)=decide (a∈L):=by unfold inD;rw[AF0,AEk];simp only[List.any_eq_true,Function.comp,qd,ADu];exact⟨λ⟨x,y,e⟩=>e ▸ y,λy=>⟨a,y,rfl⟩⟩
def Bm(r:List Pt)(i j:Nat):Bool:=nb (r.length:Int) ((j:Int)-(i:Int))||decide ((i,j)∈Be r)
theorem mM{r:List Pt}(h0:0<r.length){i j:Nat}(BM:i<j):PH [.int (r.length:Int),.lst<|(Be r).map pl,.int (i:Int),.int (j:Int)]=some (.cl<|.bl<|Bm r i j):=by
 refine Bi rfl ?_;unfold ZS;refine C3<|Nj (Ar (AJ (x:=.cl<|.int (r.length:Int)) rfl<|AJ (x:=.cl<|.int (i:Int)) rfl<|AJ (x:=.cl<|.int (j:Int)) rfl AR) rfl<|Tn ADj) λ_=>?_;refine AK (x:=.cl<|pl (i,j)) (y:=.cl<|.lst<|(Be r).map pl) ?_ rfl ?_
 .refine JR (AJ (B8 (AJ (x:=.cl<|.int (i:Int)) rfl<|AJ (x:=.cl<|.int (j:Int)) rfl AR)<|RB _ _)<|AJ (B8 (AJ (x:=.cl<|.int (i:Int)) rfl<|AJ (x:=.cl<|.int (j:Int)) rfl AR)<|L8 _ _) AR) ?_;rw[Int.min_eq_left ADj,Int.max_eq_right ADj]
  rfl
 .unfold Gf;have:O3 ((Be r).map pl)=true:=by unfold O3;simp[j6]
  show(if PySem.SeqAt.shaped (Ad<|pl (i,j))=true/\O3 ((Be r).map pl)=true then some (RV.cl (.bl (if false=true then !inD ((Be r).map pl) (pl (i,j))else inD ((Be r).map pl) (pl (i,j)))))else none)=_;rw[ADr ⟨j6 _,this⟩,ADs ADk,u5]
open BB (cnt CD Dy)
theorem ql{f:EF}{ρ:AS}{ns:List Int}(e:f ρ=some (.fr<|ns.map PV.int)):fB HV (AG f AO) ρ=some (.cl<|.int ns.sum):=by refine B8 (AJ e AR) ?_;simp only[HV,RV.list,AES,fE,AEr]
theorem qj{F:List PV->Option RV}{g:AF}{ρ:AS}{rs:List RV}{z:RV}(e:g ρ=some rs)(h:F (rs.map RV.any)=some z):Lm F g ρ=some z:=by unfold Lm;rw[e];exact h
theorem mj{r:List Pt}(h3:3<=r.length)(Ca:r.length<=12){i j:Nat}(Z:i<j)(hj:j<r.length){ks:List (List Int)}{xs:List PV}(hd:∀x y,x<y->y<r.length->y-x<j-i->CS ks xs (kN x y)=some (.int<|CD (Bm r) x y)) : Pg [.int (r.length:Int),.lst<|(Be r).map pl,.By ks xs,.int (i:Int),.int (j:Int)]=some (.cl<|.int<|CD (Bm r) i j):=by
 refine Bi rfl ?_;unfold Zu;have q:=D4<|Aq<|Ar (F:=PH) (g:=AG (AD 0)<|AG (AD 1)<|AG (AD 3) JL) (ρ:=BD 5 [.int (r.length:Int),.lst<|(Be r).map pl,.By ks xs,.int (i:Int),.int (j:Int)]) (rs:=[.cl<|.int (r.length:Int),.cl<|.lst<|(Be r).map pl,.cl<|.int (i:Int),.cl<|.int (j:Int)]) rfl rfl<|mM (r:=r) ADj Z;cases v:Bm r i j with
 |false=>
  rw[v]at q;unfold CD;rw[v];exact DE<|(Bl q).trans rfl
 |true=>
  rw[v]at q;rw[sq<|(Bb q).trans rfl];have u:AV (f2 B0 (f2 BL (AD 4)<|AD 3)<|fC<|.int 1) (BD 5 [.int (r.length:Int),.lst<|(Be r).map pl,.By ks xs,.int (i:Int),.int (j:Int)])=some ((j:Int)-(i:Int)==1):=
   Aq (AK (AK (x:=.cl<|.int (j:Int)) (y:=.cl<|.int (i:Int)) rfl rfl<|Dr _ _) rfl<|Ko _ _)
  have Y:CD (Bm r) i j=cnt (Bm r) i j:=by unfold CD;rw[v,ADr rfl]
  rw[Y];by_cases Q:j=i+1
  .rw[show((j:Int)-(i:Int)==1)=true by simp;omega]at u;subst Q;rw[BB.UW];exact DE<|(Bl u).trans rfl
  .rw[show((j:Int)-(i:Int)==1)=false by simp;omega]at u;rw[sq<|(Bb u).trans rfl,<-BB.ACc ADj];refine C3<|ql (ns:=(List.range<|j-(i+1)).map λt=>CD (Bm r) i (i+1+t)*CD (Bm r) (i+1+t) j) ?_;refine DS (xs:=(List.range<|j-(i+1)).map λt:Nat=>PV.int ((i+1+t:Nat):Int)) (QY (AJ (by exact AK (x:=.cl<|.int (i:Int)) (y:=.cl<|.int 1) rfl rfl (by rw[IZ];rfl))<|AJ (x:=.cl<|.int (j:Int)) rfl AR) ADj ADj) (by simp;omega) ?_;rw[AEH];refine GJ (enc:=λt:Nat=>PV.int ((i+1+t:Nat):Int)) (h:=PV.int∘λt=>CD (Bm r) i (i+1+t)*CD (Bm r) (i+1+t) j) λt O=>?_;have ht':t<j-(i+1):=by simpa using O
   have b1:=BB.ACb (ADh:=Bm r) (i:=i) (j:=i+1+t) ADj ADj;refine⟨_,_,rfl,AK (x:=.cl<|.int<|CD (Bm r) i<|i+1+t) (y:=.cl<|.int<|CD (Bm r) (i+1+t) j) (VE (r:=.cl<|.By ks xs) (rs:=[.cl<|.int (i:Int),.cl<|.int ((i+1+t:Nat):Int)]) (k:=kN i<|i+1+t) rfl rfl rfl rfl<|hd _ _ ADj ADj ADj) (VE (r:=.cl<|.By ks xs) (rs:=[.cl<|.int ((i+1+t:Nat):Int),.cl<|.int (j:Int)]) (k:=kN (i+1+t) j) rfl rfl rfl rfl<|hd _ _ ADj ADj ADj)<|Fw<|.inl ⟨ADj,ADj⟩,rfl⟩
def NC(r:List Pt)(ok:Nat->Nat->Prop)(b:Nat)(ks:List<|List Int)(xs:List PV):Prop:=ks.length=xs.length/\ks.length<=b/\∀x y,x<y->y<r.length->ok x y->CS ks xs (kN x y)=some (.int<|CD (Bm r) x y)
theorem NC.put{r:List Pt}{ok q:Nat->Nat->Prop}{b:Nat}{ks:List (List Int)}{xs:List PV}(h:NC r ok b ks xs)(i j:Nat)(AX:∀x y,x<y->y<r.length->q x y->(x=i/\y=j)\/ok x y):NC r q (b+1) (FH ks<|kN i j)<|HB ks xs (kN i j)<|.int<|CD (Bm r) i j:=by
 refine⟨Z2 h.1 _ _,AEF (Z1 _ _) (by have:=h.2.1;omega),λx y v u h3=>?_⟩;rw[Zx h.1];by_cases e:kN x y=kN i j
 .rw[ADr e];obtain⟨rfl,rfl⟩:=WJ.mp e
  rfl
 .rw[ADs e];rcases AX x y v u h3 with⟨rfl,rfl⟩|Z
  .exact absurd rfl e
  .exact h.2.2 x y v u Z
theorem mU{r:List Pt}(h:DK r=true):Ti [.lst<|AN r]=some (.cl<|.int<|CD (Bm r) 0<|r.length-1):=by
 obtain⟨h3,Q,_⟩:=Jy h;refine Bi rfl ?_;unfold Zn;rw[sq<|U1<|Ar (rs:=[.cl<|.lst<|AN r]) rfl rfl<|YO h];have el:Cp (BD 6 [.lst<|AN r])=some (.cl<|.int (r.length:Int)):=by rw[<-CU];rfl
 rw[sq<|A1 el rfl,sq<|A1 (Ar (rs:=[.cl<|.lst<|AN r]) rfl rfl<|YR h) rfl];rw[sq (ρ':=[some<|.im<|.lst<|AN r,some<|.im<|.int (r.length:Int),some<|.im<|.lst<|(Be r).map pl,some<|.Cj none [] [],none,none]) rfl];obtain⟨ρ',e,ks,xs,a,b,rfl,q⟩:=ME (enc:=λt:Nat=>PV.int ((1+t:Nat):Int)) (gt:=Aj 4) (body:=aC)
  (λs ρ=>∃ks xs a b,ρ=[some<|.im<|.lst<|AN r,some<|.im<|.int (r.length:Int),some<|.im<|.lst<|(Be r).map pl,some<|.Cj none ks xs,a,b]/\NC r (λx y=>y-x<=s) (12*s) ks xs) (n:=r.length-1) (ρ:=[some<|.im<|.lst<|AN r,some<|.im<|.int (r.length:Int),some<|.im<|.lst<|(Be r).map pl,some<|.Cj none [] [],none,none]) ⟨[],[],none,none,rfl,rfl,ADk,λx y v _ u=>ADj⟩ (by
  rintro s hs ρ ⟨ks,xs,a,b,rfl,q⟩;obtain⟨ρ',e,OS,TF,b',rfl,Z⟩:=ME (enc:=λt:Nat=>PV.int (t:Int)) (gt:=Aj 5) (body:=aV)
   (λf ρ=>∃ks xs b,ρ=[some<|.im<|.lst<|AN r,some<|.im<|.int (r.length:Int),some<|.im<|.lst<|(Be r).map pl,some<|.Cj none ks xs,some<|.im<|.int ((1+s:Nat):Int),b]/\NC r (λx y=>y-x<=s\/(y-x=s+1/\x<f)) (12*s+f) ks xs) (n:=r.length-(1+s)) (ρ:=[some<|.im<|.lst<|AN r,some<|.im<|.int (r.length:Int),some<|.im<|.lst<|(Be r).map pl,some<|.Cj none ks xs,some<|.im<|.int ((1+s:Nat):Int),b]) ⟨ks,xs,b,rfl,q.1,q.2.1,λx y v u h3=>q.2.2 x y v u ADj⟩ (by
   rintro f hf ρ ⟨ks,xs,b,rfl,q⟩;have Y:f2 As (AD 5) (AD 4) [some<|.im<|.lst<|AN r,some<|.im<|.int (r.length:Int),some<|.im<|.lst<|(Be r).map pl,some<|.Cj none ks xs,some<|.im<|.int ((1+s:Nat):Int),some<|.im<|.int (f:Int)]=some (.cl<|.int ((f+(1+s):Nat):Int)):=by refine AK (x:=.cl<|.int (f:Int)) (y:=.cl<|.int ((1+s:Nat):Int)) rfl rfl ?_;rw[IZ,<-Int.natCast_add]
   refine⟨_,_,rfl,cD (t:=none) (ks:=ks) (xs:=xs) (k:=kN f<|f+(1+s)) (p:=.int<|CD (Bm r) f<|f+(1+s)) (qj (rs:=[.cl<|.int (r.length:Int),.cl<|.lst<|(Be r).map pl,.bd ks xs,.cl<|.int (f:Int),.cl<|.int ((f+(1+s):Nat):Int)]) (AJ rfl<|AJ rfl<|AJ rfl<|AJ rfl<|AJ Y AR)<|mj h3 Q ADj ADj λx y v u h3=>q.2.2 x y v u<|.inl ADj) rfl (AJ (x:=.cl<|.int (f:Int)) rfl<|AJ Y AR) rfl rfl (by have:=q.2.1;omega),_,_,_,rfl,q.put f (f+(1+s)) λx y v u h3=>ADj⟩)
  refine⟨_,_,rfl,(CH<|EH (n:=r.length-(1+s)) (AJ (AK (x:=.cl<|.int (r.length:Int)) (y:=.cl<|.int ((1+s:Nat):Int)) rfl rfl<|by rw[Dr,<-Int.natCast_sub ADj]) AR) ADj).trans e,_,_,_,_,rfl,Z.1,by have:=Z.2.1;omega,λx y v u h3=>Z.2.2 x y v u ADj⟩)
 rw[sq<|(CH<|QY (i:=1) (j:=r.length) (AJ (x:=.cl<|.int 1) rfl<|AJ (x:=.cl<|.int (r.length:Int)) rfl AR) ADj ADj).trans e];refine C3<|VE (r:=.bd ks xs) (rs:=[.cl<|.int 0,.cl<|.int ((r.length-1:Nat):Int)]) (k:=kN 0<|r.length-1) rfl (AJ rfl<|AJ (AK (x:=.cl<|.int (r.length:Int)) (y:=.cl<|.int 1) rfl rfl (by rw[Dr,Int.natCast_sub ADj];rfl)) AR) rfl rfl<|q.2.2 0 (r.length-1) ADj ADj ADj
open BB (FU xN ltN HD C9 DO J0 Ni Bg)
theorem gu{i:Nat}{k:List PV->List PV->Option (List PV)}{ga:AF}{ρ:AS}{rs:List RV}{ps qs zs:List PV}(y:ρ[i]? = some (some<|.own ps))(ea:ga ρ=some rs)(q:C8 rs=some qs)(h:k ps qs=some zs):DT i k ga ρ=some (.nx<|ρ.set i<|some<|.own zs):=by unfold DT;rw[y,ea];dsimp only;rw[q];dsimp only;rw[h]
theorem QU{f:EF}{ρ:AS}{r:RV}{ps:List PV}(e:f ρ=some r)(h:r.clean=some (.lst ps)):B9 true f ρ=some ps:=by unfold B9;rw[e];dsimp only;rw[ADr rfl,h]
noncomputable def zc(e:NN):Pt:=((e.1:Int),(e.2:Int))
theorem R4(S:List NN):S.map pl=AN (S.map zc):=by unfold AN;rw[AEH];rfl
def rl(S:List NN):PV:=.lst<|S.map pl
theorem lr(l e:NN):xB (zc l) (zc e)=xN l e:=by
 delta xB xN zc
 rw[AEk];simp only[AEV,ADx,ADu];lia
theorem mX{S:List NN}(y:S.length<=1000)(l:NN):PM [pl l,.lst<|S.map pl]=cB (!S.any (xN l)):=by
 rw[R4];refine(mW (zc l) (by rw[ADo];exact y)).trans ?_;rw[AF0]
 congr 4
 exact funext λe=>lr l e
theorem last_eq{S:List NN}{l:NN}{ρ:AS}(e0:AD 0 ρ=some (.cl<|pl l))(q:AD 1 ρ=some (.cl<|rl S)):Cr (CY<|Hi<|AD 1) (AV<|f2 (HU Fi) Na<|AD 0) ρ=some (FU S l):=by
 have t:Hi (AD 1) ρ=some (!(S.map pl).isEmpty):=by unfold Hi;rw[q];rfl
 rcases AFj S with rfl|⟨T,x,rfl⟩
 .exact Ei (a:=true) (b:=true) (D4 (a:=false) t) λz=>(nomatch z)
 .rw[AFk]at *
  have t':Hi (AD 1) ρ=some true:=by rw[t];simp
  have k:Am (.cl<|rl<|T ++ [x]) (.cl<|.int (-1))=some (.cl<|pl x):=by
   show(CP ((T ++ [x]).map pl) (-1)).map RV.cl=_
   delta CP Gb
   rw[ADs ADl,ADr (by simp;lia),AES,AEl,show((-1:Int)+((List.map pl T++List.map pl [x]).length:Nat)).toNat=(List.map pl T).length by simp;lia,AED<|ADt _,AHx]
   rfl
  have a:Na ρ=some (.cl<|pl x):=AK q (y:=.cl<|.int (-1)) rfl k;have:=Ei (a:=false) (D4 (a:=true) t') λ_=>Aq (AK a e0 (show HU Fi (.cl<|pl x) (.cl<|pl l)=cB (Fi x.1 x.2 l.1 l.2)from rfl));rw[this];unfold FU;rw[AIO];dsimp only;rw[Bool.false_or];unfold Fi ltN
  congr 1
  rw[AFQ];lia
def lB:SF:=(AM (Aa 4<|BH (B9 false<|AD 1) 1 [3] (Aj 0) (Cr (CY<|Hi<|AD 1)<|AV<|f2 (HU Fi) Na<|AD 0)<|AD 0) aa)
def IM(L S:List NN):List<|List NN:=((L.filter λl=>FU S l).filter λl=>!S.any (xN l)).map λl=>S ++ [l]
section
variable{L:List NN}(hL:L.length<=900)
include hL
theorem vo{S:List NN}(hS:S.length<=900){a x:Option SV}{B:List (List NN)}(q:B.length+(IM L S).length<=1000):∃y,lB [a,iM<|.lst<|L.map pl,some<|.own<|B.map rl,iM<|rl S,x]=some (.nx [a,iM<|.lst<|L.map pl,some<|.own<|(B++IM L S).map rl,iM<|rl S,y]):=by
 refine⟨iM<|.lst<|(L.filter λl=>FU S l).map pl,?_⟩;have v:BH (B9 false<|AD 1) 1 [3] (Aj 0) (Cr (CY<|Hi<|AD 1)<|AV<|f2 (HU Fi) Na<|AD 0) (AD 0) [a,iM<|.lst<|L.map pl,some<|.own<|B.map rl,iM<|rl S,x]=some (.fr<|(L.filter λl=>FU S l).map pl):=
  DS (FJ rfl rfl) (by rw[ADo];lia) (GI λl _=>⟨_,rfl,last_eq rfl rfl,λ_=>⟨_,rfl,rfl⟩⟩)
 have u:av [a,iM<|.lst<|L.map pl,some<|.own<|B.map rl,iM<|rl S,iM<|.lst<|(L.filter λl=>FU S l).map pl]=some (.fr<|((L.filter λl=>FU S l).filter λl=>!S.any (xN l)).map λl=>rl<|S ++ [l]):=
  DS (FJ rfl rfl) (by rw[ADo];exact AEF (AGF _ _) J) (GI λl _=>⟨_,rfl,Aq<|Ar rfl rfl<|mX J l,λ_=>⟨.fr<|(S.map pl) ++ [pl l],AK rfl (D3 (AJ rfl AR) rfl) (Ia rfl rfl (by rw[ADo,AFS];lia)),by unfold rl;rw[AEl];rfl⟩⟩)
 unfold lB;rw[sq<|A1 v rfl];refine(gu rfl (AJ u AR) rfl<|ADr ?_).trans ?_
 .rw[ADo,ADo];unfold IM at q;rw[ADo]at q;exact q
 .rw[AEl];unfold IM;rw[AEH]
  rfl
theorem mT{P:List (List NN)}(Q:∀S∈P,S.length<=900)(O:(HD L P).length<=1000):Pc [.lst<|P.map rl,.lst<|L.map pl]=some (.fr<|(HD L P).map rl):=by
 obtain⟨ρ',e,q,y,rfl⟩:=Kv (enc:=rl) (gt:=Aj 3) (body:=lB) (λ(u:Unit) _=>u) (λm _ ρ=>∃q y,ρ=[iM<|.lst<|P.map rl,iM<|.lst<|L.map pl,some<|.own<|((P.take m).flatMap<|IM L).map rl,q,y]) (xs:=P) (n:=0) (b:=()) ⟨none,none,rfl⟩ λi S v _ ρ ⟨q,y,e⟩=>by
  subst e;rw[AFD];have hi:=(ADw.mp v).1;have Z:P.take (i+1)=P.take i ++ [S]:=by rw[AIF,v];rfl
  have le:((P.take<|i+1).flatMap<|IM L).length<=1000:=by
   refine AEF ?_ O;show _<=(P.flatMap<|IM L).length
   conv=>rhs;rw[<-AEc (i+1) P]
   rw[AHU,AD1];lia
  rw[Z,AHU,AD1]at le;have Y:[S].flatMap (IM L)=IM L S:=AE1 _;rw[Y]at le;obtain⟨z,D⟩:=vo hL (S:=S) (Q S<|AEX v) (a:=iM<|.lst<|P.map rl) (x:=y) le;refine⟨_,_,rfl,D,iM<|rl S,z,?_⟩;rw[Z,AHU,Y]
 rw[AFD,AHz]at e;refine Bi rfl ?_;unfold Zm;rw[sq<|set_own<|D3 AR rfl];exact(sq<|(CH<|QU rfl rfl).trans e).trans rfl
end
open BB (FU xN ltN HD C9 DO J0 Ni Bg d8)
theorem OW(r:List Pt):(Be r).Pairwise Bg:=by
 suffices ∀m,(Fx r m).Pairwise Bg/\∀e∈Fx r m,e.1<m from(this r.length).1
 intro m
 induction m with
 |zero=>exact⟨.nil,λ_ h=>(nomatch h)⟩
 |succ m ih=>
  rw[gE];have y:∀e∈(Fb r.length m).filter (Ga r),e.1=m:=λe he=>by
   obtain⟨t,_,rfl⟩:=AEC.mp (AEY.mp he).1
   rfl
  refine⟨AEE.mpr ⟨ih.1,?_,λa ha b hb=>.inl (by rw[y b hb];exact ih.2 a ha)⟩,λe he=>?_⟩
  .refine List.Pairwise.filter _ ?_;unfold Fb;rw[AEa];exact AGe.imp λh=>.inr ⟨rfl,by dsimp only;lia⟩
  .rcases AD7.mp he with z|z
   .have:=ih.2 e z;lia
   .rw[y e z];lia
section
variable{r:List Pt}(h:DK r=true)
include h
theorem RJ{e:NN}(m:e∈Be r):e.1+1<e.2/\e.2<r.length/\e≠(0,r.length-1)/\HW r e.1 e.2=true:=by obtain⟨a,b,c⟩:=(RI (i:=e.1) (j:=e.2)).mp m;rw[RH h]at c;have d:=c;unfold HW Fj at d;simp only[ADx,ADu,AEQ,AEe,AEG]at d;obtain⟨⟨_,k1,y⟩,_⟩:=d;refine⟨J,b,λz=>?_,c⟩;rw[z]at y;dsimp only at y;have:=(Jy h).1;lia
variable(h8:r.length<=8)
include h8
theorem WU{e:NN}(m:e∈Be r):e∈d8:=by obtain⟨a,b,c,_⟩:=RJ h m;unfold BB.d8;rw[AEY,BB.Rc,ADx,ADu,AEQ,AF8];refine⟨⟨J,J⟩,a,λz=>c ?_⟩;subst z;dsimp only at b;rw[show r.length-1=7 by lia]
theorem ZO{m:Nat}(hm:m<=5):(C9 (Be r) m).length<=1000:=by have up:=OW r;refine AEF (BB.sub_len (BB.QF up m) λS y=>?_)<|BB.Pk (ADt 5) up λe he=>WU h h8 he;obtain⟨N,hl⟩:=BB.K1.mp y;exact((BB.J7 5 rfl up).2 S).mpr ⟨N,J⟩
theorem mI:PN [.lst<|AN r]=some (.cl<|.lst<|(C9 (Be r)<|r.length-3).map rl):=by
 obtain⟨h3,q,_⟩:=Jy h;have ll:=gC r q r.length J;have v:(Be r).length<=900:=by show(Fx r r.length).length<=900;unfold Fx;lia
 have Lq:TU [.lst<|AN r]=some (.cl .Aw):=by refine Zv (ρ:=BD 1 [.lst<|AN r]) rfl ?_;have e:AV (f2 Cv Cp<|fC<|.int 8) (BD 1 [.lst<|AN r])=some (decide ((8:Int)<r.length)):=Aq (AK (B8 (AJ rfl AR)<|by rw[Jl,CU]) rfl<|Ic _ _);rw[AFK J]at e;exact(Bb e).trans rfl
 refine Bi rfl ?_;unfold ZV;rw[sq<|U1<|Ar (AJ rfl AR) rfl<|YO h,sq<|U1<|Ar (AJ rfl AR) rfl Lq,sq<|A1 (Ar (AJ rfl AR) rfl<|YR h) rfl,sq<|A1 (D3 (AJ (D3 AR rfl) AR) rfl) rfl];obtain⟨ρ',e,y,rfl⟩:=ME (enc:=λt:Nat=>PV.int ((3+t:Nat):Int)) (gt:=Aj 3) (body:=Aa 2<|AW Pc<|AG (AD 2) DQ) (λm ρ=>∃y,ρ=[iL r,iM<|.lst<|(Be r).map pl,iM<|.lst<|(C9 (Be r) m).map rl,y]) (n:=r.length-3) (ρ:=[iL r,iM<|.lst<|(Be r).map pl,iM<|.lst [.lst []],none]) ⟨none,rfl⟩ (by rintro m hm ρ ⟨y,rfl⟩;exact⟨_,_,rfl,A1 (Ar rfl rfl (mT v (λS u=>by have:=(BB.K1.mp u).2;lia)<|ZO h h8 (m:=m+1) J)) rfl,_,rfl⟩)
 exact(sq<|(CH<|QY (i:=3) (AJ rfl<|AJ (B8 (AJ rfl AR)<|by rw[Jl,CU]) AR) J J).trans e).trans rfl
end
open BB (FU xN ltN HD C9 DO J0 Ni Bg Im d8)
theorem mQ(e f:Pt):Ta [pv e,pv f]=cB (xB e f):=by refine Bi rfl ?_;exact C3<|Nj (QT (AK rfl rfl<|DA e) (AK rfl rfl<|DA f) (AK rfl rfl<|DJ e)<|AK rfl rfl<|DJ f) λ_=>QT (AK rfl rfl<|DA f) (AK rfl rfl<|DA e) (AK rfl rfl<|DJ f)<|AK rfl rfl<|DJ e
def Io(w:Nat)(l:NN)(S:List NN):Bool:=decide (S.length<w)&&!S.any λe=>xN e l
theorem ck{w:Nat}{l:NN}:∀{F B:List (List NN)},F.foldl (λb S=>if Io w l S=true then b ++ [S ++ [l]]else b) B=B++(F.filter<|Io w l).map λS=>S ++ [l]
 |[],B=>ADk
 |S::F,B=>by
  rw[AGZ,ck,List.filter_cons];cases Io w l S
  .rfl
  .rw[ADr rfl,ADr rfl,AD0,AEW]
   rfl
noncomputable def aB:SF:=U0
theorem nJ{w:Nat}{l:NN}{a b:Option SV}{S:List NN}(hS:S.length<=900){B:List (List NN)}(q:B.length<1000):aB [a,iI w,b,iM<|pl l,some<|.own<|B.map rl,iM<|rl S]=some (.nx [a,iI w,b,iM<|pl l,some (.own ((if Io w l S=true then B ++ [S ++ [l]]else B).map rl)),iM<|rl S]):=by
 have v:bH [a,iI w,b,iM<|pl l,some<|.own<|B.map rl,iM<|rl S]=some (.fr<|(S.filter λe=>xN e l).map pl):=
  DS (FJ rfl rfl) (by rw[ADo];lia) (GI λe _=>⟨_,rfl,Aq (Ar rfl rfl<|(mQ (zc e)<|zc l).trans<|by rw[lr]),λ_=>⟨_,rfl,rfl⟩⟩)
 have y:aF [a,iI w,b,iM<|pl l,some<|.own<|B.map rl,iM<|rl S]=some (Io w l S):=by
  refine(JQ (Aq<|AK (B8 (AJ rfl AR)<|Jl _) rfl<|Ig _ _) λ_=>Aq<|AK (B8 (AJ v AR)<|fW _) rfl<|Ko _ _).trans ?_;unfold Io;rw[ADo,ADo]
  congr 2
  .rw[AFQ];lia
  .rw[AEk,AFf,AEQ,AFF];constructor
   .intro z e he c;have:e∈S.filter λe=>xN e l:=AEY.mpr ⟨he,c⟩;rw[AFA (show(S.filter λe=>xN e l).length=0 by lia)]at this;cases this
   .intro z;rw[AHI.mpr z]
    rfl
 unfold aB;cases c:Io w l S
 .rw[c]at y;exact(Bb y).trans rfl
 .rw[c]at y
  delta U0
  rw[Bl y];refine(gu rfl (AJ (AK rfl (D3 (AJ rfl AR) rfl)<|Ia rfl rfl (by rw[ADo,AFS];lia)) AR) rfl<|ADr (by rw[ADo];exact q)).trans ?_;rw[ADr rfl,AEl];unfold rl;rw[List.map_singleton,AEl]
  rfl
theorem gj:∀{S T:List NN},Im S T->Bh.Cg (S.map zc) (T.map zc)=true
 |[],_,h=>h.elim
 |_::_,[],h=>h.elim
 |e::S,f::T,h=>by
  show(if zc e=zc f then Bh.Cg (S.map zc) (T.map zc)else Bh.Hd (zc e) (zc f))=true;rcases h with h|⟨rfl,h⟩
  .unfold Bg at h;rw[ADs λz=>by have:=AFX Prod.fst z;have:=AFX Prod.snd z;unfold zc at *;dsimp only at *;lia];unfold Bh.Hd zc;rw[ADu];dsimp only;lia
  .rw[ADr rfl];exact gj h
theorem YG{e f:NN}(h:zc e=zc f):e=f:=by unfold zc at h;exact AEt (by have:=AFX Prod.fst h;dsimp only at this;lia) (by have:=AFX Prod.snd h;dsimp only at this;lia)
theorem jd(S:List NN):rl S=D8 (S.map zc):=by unfold rl D8;rw[AEH];rfl
theorem jl:∀F:List<|List NN,Jz (F.map rl)=some (F.map λS=>S.map zc)
 |[]=>rfl
 |S::F=>by
  have p:F5 (S.map pl)=some (S.map zc):=by
   induction S with
   |nil=>rfl
   |cons e S ih=>
    show(F5<|S.map pl).map _=_;rw[ih]
    rfl
  show(match F5 (S.map pl),Jz (F.map rl)with|some p,some q=>some (p::q)|_,_=>none)=_;rw[p,jl F]
  rfl
theorem mN{w:Nat}(D:w<=5){L:List NN}(up:L.Pairwise Bg)(R:∀e∈L,e∈d8):TY [.lst<|L.map pl,.int w]=some (.fr<|(C9 L w).map rl):=by
 have pre:∀m,(L.take m).Pairwise Bg/\∀e∈L.take m,e∈d8:=λm=>⟨up.sublist<|AGH _ _,λe he=>R e<|AF2 he⟩;obtain⟨ρ',e,Q,O,Z,rfl⟩:=Kv (enc:=pl) (gt:=Aj 3) (body:=(AM (Eo 4<|CB AO)<|AM (CK (B9 true<|AD 2) (Aj 5) aB)<|Aa 2<|f2 As (AD 2)<|AD 4)) (λ(u:Unit) _=>u) (λm _ ρ=>∃Q O Z,ρ=[iM<|.lst<|L.map pl,iI w,iM<|.lst<|(DO w<|L.take m).map rl,Q,O,Z]) (xs:=L) (n:=0) (b:=()) ⟨none,none,none,rfl⟩ λi l U _ ρ ⟨Q,O,Z,e⟩=>by
  subst e;rw[AFD];have B:L.take (i+1)=L.take i ++ [l]:=by rw[AIF,U];rfl
  have l1:=BB.Pk D (pre i).1 (pre i).2;have P:=BB.Pk D (pre<|i+1).1 (pre<|i+1).2;rw[B,BB.T8]at P;rw[B,BB.T8];have sm:∀S∈DO w (L.take i),S.length<=900:=λS v=>by have:=((BB.J7 w rfl (pre i).1).2 S).mp v;lia
  generalize DO w (L.take i)=F at *
  obtain⟨CF,G,⟨t,rfl⟩,_⟩:=Kv (enc:=rl) (gt:=Aj 5) (body:=aB) (λb S=>if Io w l S=true then b ++ [S ++ [l]]else b) (λm b ρ=>(∃y,ρ=[iM<|.lst<|L.map pl,iI w,iM<|.lst<|F.map rl,iM<|pl l,some<|.own<|b.map rl,y])/\b.length<=m) (xs:=F) (n:=0) (b:=[]) (ρ:=[iM<|.lst<|L.map pl,iI w,iM<|.lst<|F.map rl,iM<|pl l,some<|.own [],Z]) ⟨⟨Z,rfl⟩,ADt _⟩ λj S v b ρ ⟨⟨y,e⟩,hb⟩=>by
   subst e;have hj:=(ADw.mp v).1;refine⟨_,_,rfl,nJ (sm S<|AEX v) J,⟨_,rfl⟩,?_⟩;split
   .rw[AD1,AFS];lia
   .lia
  rw[ck,AFW]at G;refine⟨_,_,rfl,?_,iM<|pl l,some<|.own<|((F.filter<|Io w l).map λS=>S ++ [l]).map rl,t,rfl⟩;rw[sq<|set_own<|D3 AR rfl];refine(sq<|(CH<|QU rfl rfl).trans G).trans ?_;refine(A1 (AK rfl rfl<|Ia rfl rfl (by unfold J0 at P;rw[AD1]at P;rw[ADo,ADo];exact P)) rfl).trans ?_;unfold J0;rw[AEl]
  rfl
 rw[AFD,AHz]at e;have C:=BB.Pk D up R;have ok:=BB.J7 w rfl up;have pm:=BB.nM (w:=w) up;refine Bi rfl ?_;unfold ZZ;rw[sq<|A1 (D3 (AJ (D3 AR rfl) AR) rfl) rfl];refine(sq<|(CH<|QU rfl rfl).trans e).trans ?_;have E:BH (B9 false<|AD 2) 1 [1] (Aj 0) (AV<|f2 B0 Cp<|AD 1) (AD 0) [iM<|.lst<|L.map pl,iI w,iM<|.lst<|(DO w L).map rl,Q,O,Z]=some (.fr<|((DO w L).filter λS=>decide (S.length=w)).map rl):=
  DS (FJ rfl rfl) (by rw[ADo];exact C) (GI λS _=>⟨_,rfl,(Aq<|AK (B8 (AJ rfl AR)<|Jl _) rfl<|Ko _ _).trans (by rw[ADo];congr 1;rw[AEk,AFf,ADu];lia),λ_=>⟨_,rfl,rfl⟩⟩)
 have fl:((DO w L).filter λS=>decide (S.length=w)).length<=1000:=AEF (AGF _ _) C;have fn:=ok.1.filter λS=>decide (S.length=w);have fw:∀S∈(DO w L).filter (λS=>decide (S.length=w)),S.length=w:=λS v=>AHi (AEY.mp v).2;generalize ((DO w L).filter λS=>decide (S.length=w))=F at E fl pm fn fw;refine SK<|B8 (AJ E AR) ?_;unfold OQ;dsimp only[RV.list];rw[jl];dsimp only;have H:∀q∈F.map (λS=>S.map zc),q.length=w:=λq Y=>by obtain⟨S,v,rfl⟩:=AEC.mp Y;rw[ADo];exact fw S v
 have nd:(F.map λS=>S.map zc).Nodup:=by unfold List.Nodup;rw[AEa];exact fn.imp λ{S T} d z=>d (AHa (λ_ _=>YG) |>.mp z)
 have hh:∀q∈F.map (λS=>S.map zc),q.length=((F.map λS=>S.map zc).getD 0 []).length:=λq Y=>by
  rw[H q Y];cases I:F.map (λS=>S.map zc)with
  |nil=>rw[I]at Y;cases Y
  |cons x X=>exact(H x (by rw[I];exact AD6)).symm
 rw[ADr ⟨by rw[ADo];exact fl,nd,hh⟩,kC (q:=(C9 L w).map λS=>S.map zc) (pm.symm.map _) (by rw[AEa];exact(BB.Ud up w).imp λh=>gj h),AEH]
 congr 3
 exact funext λS=>(jd S).symm
open BB (C9 Bg d8 cnt CD)
theorem iu:∀Q:List Pt,F5 (AN Q)=some Q
 |[]=>rfl
 |q::Q=>by
  show(F5<|AN Q).map _=_;rw[iu Q]
  rfl
theorem rR(Q:List Pt)(i:Nat)(hi:i<Q.length):(AN Q).getD i .Aw=pv (Q.getD i (0,0)):=by
 unfold AN;rw[AEO,AEO,AEy,ADp hi]
 rfl
def E3(Q:List Pt):List Pt:=(C7.ord Q).map λi=>Q.getD i (0,0)
theorem ABX{f:EF}{ρ:AS}{r:RV}{Q:List Pt}(e:f ρ=some r)(y:r.list=some (AN Q))(q:Q.length<64)(nd:Q.Nodup):fB Kt (AG f AO) ρ=some (.fr<|AN<|E3 Q):=by
 refine B8 (AJ e AR) ?_;unfold Kt;dsimp only;rw[y];dsimp only;rw[iu];dsimp only;rw[ADr ⟨by rw[CU];exact q,nd⟩];unfold E3;rw[show AN ((C7.ord Q).map λi=>Q.getD i (0,0))=(C7.ord Q).map λi=>pv (Q.getD i (0,0))by unfold AN;rw[AEH];rfl]
 congr 2
 exact AFu λi hi=>rR Q i<|C7.W0 nd i hi
theorem ABb{Q:List Pt}(nd:Q.Nodup):(E3 Q).Perm Q:=by have:=(C7.W2 nd).map λi=>Q.getD i (0,0);rw[show(List.range Q.length).map (λi=>Q.getD i (0,0))=Q from AHN ADk λi h1 y=>by simp[List.getD,y]]at this;exact this
theorem ABc{Q:List Pt}(nd:Q.Nodup):(E3 Q).Pairwise λp q=>Fi p.1 p.2 q.1 q.2=true:=by unfold E3;rw[AEa];exact C7.yC nd
theorem Zw:∀{ks:List (List Int)}{xs:List PV}{k:List Int}{p:PV},CS ks xs k=some p->k∈ks
 |[],_,_,_,e=>by contradiction
 |_::_,[],_,_,e=>by contradiction
 |k'::ks,x::xs,k,p,e=>by
  unfold CS at e;split at e
  .rename_i z;exact z ▸ AD6
  .exact AD4 _<|Zw e
def OX(r:List Pt)(e:NN):Bool:=EN r e.1 e.2&&!((e.2:Int)-e.1==1||(e.2:Int)-e.1==(r.length:Int)-1)
section
variable{r:List Pt}(h:DK r=true)
include h
theorem gJ{e:NN}(q:e.1<e.2)(v:e.2<r.length):OX r e=true↔e∈Be r:=by
 unfold OX EN;rw[show e=(e.1,e.2)from rfl,RI,RH h];constructor
 .intro z;rw[ADx,AEQ,AEV]at z;exact⟨q,v,z.1.resolve_left λy=>by rw[z.2]at y;contradiction⟩
 .rintro⟨_,_,z⟩;rw[z,AIi,AE5];have:=RJ h (RI.mpr ⟨q,v,by rw[RH h];exact z⟩);rw[AEQ,AEe,AEG,AEG];obtain⟨a,b,c,_⟩:=this;dsimp only at *
  refine⟨J,λy=>c ?_⟩;exact AEt (by dsimp only;lia) (by dsimp only;lia)
variable(h8:r.length<=8)
include h8
theorem wG{K:List NN}{xs:List PV}(lK:K.length<=144)(kI:Tu r K)(hd:∀x y,x<y->y<r.length->CS (K.map kE) xs (kN x y)=some (.bl<|EN r x y)){ρ:AS}(D:ρ[1]? = some (iL r))(O:ρ[2]? = some (iM<|.By (K.map kE) xs)) : fB Kt bf ρ=some (.fr<|(Be r).map pl):=by
 have F:Lo (AD 2) ρ=some (K.map pl):=by
  unfold Lo AD;rw[O];dsimp only;rw[AEH]
  rfl
 have R:Bf 1 [2,1] ρ=[none,iM<|.By (K.map kE) xs,iL r]:=by
  unfold Bf;rw[AD0,AD0,AGi,D,O]
  rfl
 have ea:Z4 ρ=some (.fr<|(K.filter<|OX r).map pl):=by
  refine DS F (by rw[ADo];lia) ?_;rw[R];refine GI λe he=>⟨_,rfl,?_,λ_=>⟨_,rfl,rfl⟩⟩;obtain⟨Z,Y⟩:=kI.2 e he;have G:OO (.cl<|.By (K.map kE) xs) (.cl<|pl e)=cB (EN r e.1 e.2):=by
   show(CS (K.map kE) xs<|kN e.1 e.2).map RV.cl=_;rw[hd _ _ Z Y]
   rfl
  exact JQ (Aq<|AK rfl rfl G) λ_=>Aq<|AK (AK (AK rfl rfl<|DJ<|zc e) (AK rfl rfl<|DA<|zc e)<|Dr _ _) (D3 (AJ rfl<|AJ (AK (B8 (AJ rfl AR)<|by rw[Jl,CU]) rfl<|Dr _ _) AR) rfl)<|OP _ _ _
 have up:=OW r;have pm:(K.filter<|OX r).Perm<|Be r:=(AFa (kI.1.filter _)<|BB.Mm up).mpr λe=>by
  rw[AEY];constructor
  .rintro⟨m,z⟩;obtain⟨Z,Y⟩:=kI.2 e m;exact(gJ h Z Y).mp z
  .intro z;obtain⟨a,b,_⟩:=RJ h z;refine⟨?_,(gJ h J b).mpr z⟩;obtain⟨S,m,q⟩:=AEC.mp<|Zw<|hd e.1 e.2 J b;obtain⟨T,C⟩:=WJ.mp q;rw[show e=S from AEt T.symm C.symm];exact m
 have P:=pm.map zc;have Q:((K.filter<|OX r).map zc).Nodup:=by unfold List.Nodup;rw[AEa];exact(kI.1.filter _).imp λd z=>d<|YG z
 have l20:(Be r).length<=20:=BB.sub_len (B:=d8) (BB.Mm up) λe m=>WU h h8 m;rw[R4]at ea ⊢;rw[ABX ea rfl (by rw[P.length_eq,ADo];lia) Q]
 congr 3
 refine AG7 (λa b _ _ u v=>?_) (ABc Q) ?_ ((ABb Q).trans P)
 .unfold Fi at u v;rw[ADu]at u v;exact AEt J J
 .rw[AEa];refine up.imp λz=>?_;unfold Bg at z;unfold Fi zc;rw[ADu];dsimp only;lia
end
open BB (C9 Bg d8 cnt CD Dy)
theorem mh(N:List Pt):Te [.lst<|AN N]=cB true:=by
 refine Bi rfl ?_;have H:=Ii (gt:=Aj 1) (body:=Z5) (c:=λ_=>false) (r:=.cl<|.bl false) (λρ=>∃x,ρ=[iL N,x]) (xs:=N) ⟨none,rfl⟩ (by
  rintro e he ρ ⟨x,rfl⟩;refine⟨_,rfl,λh=>(nomatch h),λ_=>⟨_,(Bb (?_)).trans rfl,_,rfl⟩⟩;exact Ei (D4 (a:=true)<|Aq rfl) λ_=>Ei (a:=false) (Aq<|AK rfl rfl<|Ks 2 2) λ_=>
   Ei (D4 (a:=true)<|Aq<|Ar (AJ (AK rfl rfl<|DA e) AR) rfl rfl) λ_=>D4 (a:=true)<|Aq<|Ar (AJ (AK rfl rfl<|DJ e) AR) rfl rfl)
 obtain⟨ρ',e,x,rfl⟩:=H.2 ADk;exact(sq<|(CH<|QU rfl rfl).trans e).trans rfl
theorem fX{x y:RV}{p:PV}(q:x.any=p)(v:y.any=p)(h:PySem.SeqAt.shaped (Ad p)=true/\PySem.PyData.eqv (Ad p) (Ad p)=true):C0 x y=cB false:=by unfold C0;rw[q,v];exact(ADr ⟨h.1,h.1⟩).trans (AFX (λb=>some<|RV.cl<|PV.bl (!b)) h.2)
theorem fm:∀P:List<|List NN,PySem.PyData.canLayAll0 (B5<|P.map rl)=true/\PySem.PyData.depthAll (B5<|P.map rl)<=2/\PySem.PyData.eqvAll (B5<|P.map rl) (B5<|P.map rl)=true
 |[]=>by simp[B5,PySem.PyData.canLayAll0,PySem.PyData.depthAll,PySem.PyData.eqvAll]
 |S::P=>by obtain⟨a,b,c⟩:=fm P;have h:=WO<|S.map zc;have q:=VB<|S.map zc;rw[AD0,rl,R4];simp only[B5,Ad,PySem.PyData.canLayAll0,PySem.PyData.canLay0,PySem.PyData.depthAll,PySem.PyData.depth,PySem.PyData.eqvAll,PySem.PyData.eqv,a,c,h.1,q,Bool.and_self,true_and];exact⟨J,trivial⟩
theorem ABK(P:List<|List NN):PySem.SeqAt.shaped (Ad<|.lst<|P.map rl)=true/\PySem.PyData.eqv (Ad<|.lst<|P.map rl) (Ad<|.lst<|P.map rl)=true:=by
 obtain⟨a,b,c⟩:=fm P;constructor
 .dsimp only[PySem.SeqAt.shaped,Ad,PySem.PyData.canLay0,PySem.PyData.depth];rw[a];simp only[AE5,ADu];lia
 .simp only[Ad,PySem.PyData.eqv,c]
theorem YT{P:List (List NN)}(y:P.length<=1000):Mx [.lst<|P.map rl,.lst<|P.map rl]=cB true:=by refine Bi rfl ?_;have t:Cr (CY<|AV<|GO "list"<|AD 0) (AV<|f2 C0 (AD 0)<|AD 1) (BD 2 [.lst<|P.map rl,.lst<|P.map rl])=some false:=Ei (D4 (a:=true)<|Aq rfl) λ_=>Aq<|AK rfl rfl<|fX rfl rfl<|ABK P;unfold Zk;rw[sq<|(Bb t).trans rfl];refine C3 ((nN (enc:=rl) (h:=λ_=>true) (FJ rfl rfl) y λS _=>⟨_,rfl,Ar (AJ rfl AR) rfl ?_⟩).trans<|by rw[AFo.mpr λ_ _=>rfl]);rw[rl,R4];exact mh _
theorem ABg{f:Nat->Int}{n t:Nat}(h:∀k,k<n->0<=f k)(ht:t<n)(hp:0<f t):0<Dy n f:=by
 induction n with
 |zero=>lia
 |succ n ih=>
  rw[BB.O7];have:=h n J;by_cases e:t=n
  .subst e;have:0<=Dy t f:=by
    clear ih;have hh:∀m,m<=t->0<=Dy m f:=λm=>by
     induction m with
     |zero=>intro _;rw[BB.kO];exact AEm _
     |succ m ih=>intro hm;rw[BB.O7];have:=ih J;have:=h m J;lia
    exact hh t<|ADt _
   lia
  .have:=ih (λk hk=>h k J) J;lia
theorem jN{R:NN->NN->Prop}(q:∀x y,R x y->R y x)(v:∀x,R x x):∀{l:List NN},l.Pairwise R->∀e∈l,∀f∈l,R e f
 |_,.nil,_,h,_,_=>nomatch h
 |_,.cons a b,e,he,f,hf=>by
  rcases AEN.mp he with rfl|h1<;>rcases AEN.mp hf with rfl|h2
  .exact v _
  .exact a f h2
  .exact q _ _<|a e h1
  .exact jN q v b e h1 f h2
section
variable{r:List Pt}(h:DK r=true)
include h
theorem WG{i j:Nat}(y:i<j)(v:j<r.length):Bm r i j=EN r i j:=by
 unfold Bm EN;rw[AH.K2 J J]
 congr 1
 rw[AEk,ADu,RI,RH h];exact⟨λq=>q.2.2,λq=>⟨y,v,q⟩⟩
theorem UX:∀(d:Nat){i j:Nat},j-i<=d->i<j->j<r.length->Bm r i j=true->0<cnt (Bm r) i j
 |0,i,j,h1,h2,_,_=>J
 |d+1,i,j,h1,h2,h3,h4=>by
  by_cases e:j=i+1
  .subst e;rw[BB.UW]
   decide
  .rw[BB.UY J];rw[WG h h2 h3]at h4;obtain⟨c,u,Z,y,v⟩:=vQ h J h3 h4;rw[<-WG h u J]at y;rw[<-WG h Z h3]at v;have pos:∀k,i<k->k<j->Bm r i k=true->Bm r k j=true->0<cnt (Bm r) i k*cnt (Bm r) k j:=λk a b p q=>AD9 (UX d J a J p)<|UX d J b h3 q;refine ABg (t:=c-(i+1)) (λk hk=>?_) J ?_
   .split
    .rename_i z;rw[ADx]at z;exact ADy<|pos _ J J z.1 z.2
    .exact AEm _
   .rw[show i+1+(c-(i+1))=c by lia,y,v];exact pos c u Z y v
theorem pN:((C9 (Be r)<|r.length-3).length:Int)=CD (Bm r) 0 (r.length-1)/\C9 (Be r) (r.length-3)≠[]:=by
 obtain⟨h3,Ca,_⟩:=Jy h;have q:∀{i j:Nat},i<j->j-i<r.length->nb (r.length:Int) ((j:Int)-i)=((j:Int)-i==1||(j:Int)-i==(r.length:Int)-1):=λa b=>AH.K2 J J;have u:Bm r 0 (r.length-1)=true:=by unfold Bm;rw[q J J,AEV,AEV,AFf,AFf];exact .inl<|.inr J
 have c:=BB.pM (ADh:=Bm r) (n:=r.length) h3 (λx=>by
  unfold Bm;rw[q J J,AEV,AEV,AFf];exact .inl<|.inl J) (BB.QF (OW r)<|r.length-3) λS=>by
  rw[BB.K1];constructor
  .rintro⟨N,l⟩;refine⟨N.up,J,λe he=>?_,λe he f v=>?_⟩
   .have m:=N.mem e he;obtain⟨a,b,c,_⟩:=RJ h m;refine⟨a,b,c,?_⟩;unfold Bm;rw[AEV,ADu];exact .inr m
   .exact jN (λx y z w=>z (by unfold JG.X at *;lia)) (λx w=>by unfold JG.X at w;lia) N.nx e he f v
  .intro C;refine⟨⟨C.up,λe he=>?_,?_⟩,by have:=C.ln;lia⟩
   .obtain⟨a,b,c,d⟩:=C.li e he;unfold Bm at d;rw[q J J,AEV,AEV,AFf,AFf,ADu]at d;rcases d with(d|d)|d
    .lia
    .exact absurd (AEt (by dsimp only;lia) (by dsimp only;lia)) c
    .exact d
   .exact List.pairwise_of_forall_mem_list λe he f v=>C.nx e he f v
 have w:CD (Bm r) 0 (r.length-1)=cnt (Bm r) 0 (r.length-1):=by unfold CD;rw[ADr u]
 refine⟨by rw[w];exact c,λz=>?_⟩;have:=UX h r.length (i:=0) (j:=r.length-1) J J J u;rw[z]at c;simp only[AFe]at c;lia
end
theorem c6{f:EF}{ρ:AS}{rv:RV}{p:PV}{ps:List PV}(e:f ρ=some rv)(y:rv.list=some (p::ps)):EJ f (EG<|fC<|.int 1) Ek ρ=some (.fr ps):=by
 delta EJ Ek EG fC
 rw[e];dsimp only;rw[y];dsimp only;unfold KC;rw[HT.Xc,show HT.DD (p::ps).length 0 (some 1)=min 1 (p::ps).length from HT.Xb ..,AD5,AH4 J,AFv ADk]
 rfl
theorem cZ:∀r:List Pt,PV.JV (AN r)=true
 |[]=>rfl
 |_::r=>cZ r
set_option tactic.hygienic false
theorem mP(s:List Int):PR [.rd<|Au s]=cB true:=by
 obtain⟨C,_,l7⟩:=YX s 0 7 ADj ADj ADj;obtain⟨E,_,l8⟩:=YX s 0 8 ADj ADj ADj;have H:=bg s 0 (most:=7) ADj ADj;have I:=bg s 0 (most:=8) ADj ADj;refine Bi rfl ?_;unfold ZY;rw[sq<|A1 (Ar (AJ rfl<|AJ rfl<|AJ rfl AR) rfl C) rfl];obtain⟨r,y,u,U⟩:∃r,DK r=true/\r.length<=8/\A2 (AV Ul) bQ BI [iM<|.rd<|Au s,iL<|drawn s 0 7,none,none,none,none,none,none]=some (.nx [iM<|.rd<|Au s,iL r,none,none,none,none,none,none]):=by
  have e:AV Ul [iM<|.rd<|Au s,iL<|drawn s 0 7,none,none,none,none,none,none]=some (AZ s 20%5==1):=Aq<|AK (AK (Ar (AJ rfl<|AJ rfl AR) rfl<|YN s 20 J) rfl<|FT J) rfl<|Ko _ _;cases c:(AZ s 20%5==1)<;>rw[c]at e
  .exact⟨_,H,J,(Bb e).trans rfl⟩
  .exact⟨_,I,J,(Bl e).trans<|A1 (Ar (AJ rfl<|AJ rfl<|AJ rfl AR) rfl E) rfl⟩
 refine(sq U).trans ?_;obtain⟨K,xs,n,t,kI,hd⟩:=mR y;obtain⟨h3,Ca,_⟩:=Jy y;rw[sq<|A1 (Ar (AJ rfl AR) rfl n) rfl,sq<|A1 (wG y u t kI hd rfl rfl) rfl];have ea:=mN (w:=r.length-3) J (OW r) λe m=>WU y u m;rw[show((r.length-3:Nat):Int)=(r.length:Int)-3 by lia]at ea;rw[sq (A1 (Ar (AJ rfl<|AJ (AK (B8 (AJ rfl AR)<|by rw[Jl,CU]) rfl<|Dr _ _) AR) rfl ea) rfl),sq<|A1 (B8 (AJ rfl AR) rfl) rfl];obtain⟨F,R⟩:=pN y;have O:=mI y u;have D:=mU y;have cl:=ZO y u (m:=r.length-3) J;have nd:=BB.QF (OW r)<|r.length-3;have B:=λS=>BB.K1 (L:=Be r) (m:=r.length-3) (S:=S);rw[<-F]at D;generalize C9 (Be r) (r.length-3)=P at O D cl nd B R F;cases P with
 |nil=>exact absurd rfl R
 |cons S Q=>
  obtain⟨b,nQ⟩:=AFd.mp nd;have G:=((B S).mp AD6).2;rw[AD5]at cl;have t1:=YT (P:=S::Q) (by rw[AD5];exact cl);have t2:=YT (P:=Q) J;have Y:∀Z:List<|List NN,Z.map rl=(Z.map λS=>S.map zc).map D8:=λZ=>by rw[AEH];exact AFu λS _=>jd S
  obtain⟨p,v,rfl⟩:∃p v,r=p::v:=by
   cases r with
   |nil=>simp at h3
   |cons p v=>exact⟨p,v,rfl⟩
  refine ADr ⟨[.int p.1,.int p.2],AN v,S.map zc,Q.map λS=>S.map zc,(S::Q).length,?_,AGE rfl,ADl,rfl,?_,?_,?_,?_,?_,?_,?_,rfl,?_,?_⟩
  .intro k sv e
   match k,e with
   |0,e=>cases e;exact⟨_,rfl⟩
   |1,e=>cases e;exact⟨_,rfl⟩
   |2,e=>cases e;exact⟨_,rfl⟩
   |3,e=>cases e;exact⟨_,rfl⟩
   |4,e=>cases e;exact⟨_,rfl⟩
   |5,e=>cases e;exact⟨_,rfl⟩
   |6,e=>cases e
   |7,e=>cases e
   |k+8,e=>cases e
  .exact cZ (p::v)
  .rw[<-AD0,<-Y];exact Ar (AJ rfl AR) rfl O
  .intro z;obtain⟨T,x,q⟩:=AEC.mp z;rw[AHa λ_ _=>YG]at q;exact b<|q ▸ x
  .rw[ADo,G,CU,AD5];lia
  .rw[ADo,G];lia
  .rw[<-AD0,<-Y];exact Ar (AJ rfl AR) rfl D
  .rw[<-AD0,<-Y];exact Ei (a:=false) (D4 (a:=true)<|Aq<|Ar rfl rfl t1) λ_=>Ei (a:=false) (D4 (a:=true)<|Aq<|Ar (AJ rfl AR) rfl rfl) λ_=>Ei (a:=false) (Aq<|(AK rfl (B8 (AJ rfl AR)<|by rw[Jl,ADo])<|Ks _ _).trans (by rw[beq_self_eq_true];rfl)) λ_=>Aq<|AK rfl rfl<|fX rfl rfl<|ABJ _
  .refine D4 (a:=true)<|Aq<|Ar (AJ (c6 rfl rfl)<|AJ (c6 rfl rfl) AR) rfl ?_;rw[<-Y];exact t2
  .exact Ar (AJ (Ar (AJ rfl AR) rfl O)<|AJ rfl AR) rfl t1
end L2.EV
namespace L2.K
open PySem L2.PL
theorem m9(ns:List Int)(_:ns.length<=63):PR [.rd<|ns.map PV.int]=some (.cl<|.bl true):=L2.EV.mP ns
open PySem PySem.Spec PyProof.Rows L2.PL
set_option maxHeartbeats 0
seal AV f2 DR D5 fB fC AW Lm Ej FK BH AG JS QW IP GO QX Lo B9 KO CB Lp AO Ek KP CY EE Cr EG GP Cs EI EJ Bk BA AD KW JW CK A2 DT Qi BI JX Az Qj Nq AM Nr Aa Eo Aj Nt JY Hi HR As Ge Jk FR OO De B0 Kp Cv Bc Gf Am Cw EO RA Cf Fv HS BY DU C0 HU OQ Kt BL HV dR BG PX C6 Hu Co DN Ed Ht LU JF J6 LV
noncomputable def top (i : Nat) : Stmt := PySem.Challenge.pw_threewards_k13_whole_all_cuts.main.body.getD i (.Pass ⟨0,0,0,0⟩)
def Ms:List Prop->Prop
 |[]=>True
 |p::l=>p/\Ms l
theorem YI:∀{L:List Prop}{k:Nat}{p:Prop},Ms L->L[k]? = some p->p
 |[],_,_,_,e=>by simp at e
 |_::_,0,_,h,e=>by cases e;exact h.1
 |_::_,_+1,_,h,e=>YI h.2 e
theorem qM{L:List Prop}{k:Nat}{p:Prop}(h:L[k]? = some p)(x:p)(f:p->Ms (L.drop<|k+1)):Ms<|L.drop k:=by obtain⟨y,e⟩:=ADw.mp h;rw[AEx y,e];exact⟨x,f x⟩
def NU(K:W.Frag):List (Str×Nat)->Prop
 |[]=>True
 |(x,i)::l=>dR K x (top i)/\NU K l
theorem dcs{K:W.Frag}{x:Str}{i:Nat}{l:List (Str×Nat)}(h:dR K x<|top i)(t:NU K l):NU K ((x,i)::l):=⟨h,t⟩
theorem dnl{K:W.Frag}:NU K []:=trivial
theorem DZ{X:Cx}{N ps:List Str}{st:Stmt}{scope:Scope}{Nb:List Str}{own:Nat}{cap:List Nat}(_:FS N ps st)(y:X.env.scope=CQ st)(q:X.N=N)(h:(US (CQ st).names N scope Nb own cap&&(Nb.take own).all λx=>scope.names.lookup x==some .local||scope.names.lookup x==some .cell)=true):F9 X scope Nb own cap:=oa (by rw[y,q];exact(Bool.and_eq_true_iff.mp h).1)
theorem ABE:FS ["script","room","joined","lines","due","handed","found","total"] ["script"]<|top 59:=MZ ADm ⟨[_],rfl,rfl⟩
theorem qz:∀ps r,Pg ps=some r->r.flat=true:=qx<|cX (cV (VH<|cU rfl) cW)<|cX (cV (VH<|cU rfl) cW)<|VH qy
def Sf(K:W.Frag):Sp:=λvs H Q _=>∃(a:Addr)(ns:List Int),vs=[.ref a]/\B6 K H a (ns.map V.int)/\ns.length<=63/\∀H',Q (.bl true) H'
set_option tactic.hygienic false
theorem O2{K:W.Frag}{H:Hp}:∀ns:List Int,AQ K H (ns.map PV.int) (ns.map V.int)
 |[]=>by simp[AQ]
 |n::ns=>by rw[AD0,AD0,AQ];exact⟨_,_,rfl,by simp[Rep],O2 ns⟩
theorem ACI{K:W.Frag}{G:Hp}{a:Addr}(ns:List Int)(h:∃(o:Obj)(its:Array Value)(n:Nat),K.lookup a=some o/\o.cls=.type "tuple"/\o.data=.seq its n/\its.size<=sizeLine/\An (ns.map V.int) its.toList):Rep K G (.tup<|ns.map PV.int)<|.ref a:=by unfold Rep;exact⟨a,ns.map V.int,rfl,.inr h,O2 ns⟩
theorem ABa{K:W.Frag}{vs:List V}{H:Hp}{Q:VK}{E:XK}(h:Sf K vs H Q E):Mc K 1 PR vs H Q E:=by
 obtain⟨a,ns,rfl,y,q,k⟩:=h;refine⟨rfl,H,[.rd<|ns.map PV.int],.cl<|.bl true,AY.refl _,?_,m9 ns q,λv G' H' _ r=>?_⟩
 .unfold AQ;refine⟨_,_,rfl,?_,by unfold AQ;rfl⟩;unfold Rep;exact⟨a,_,rfl,y,O2 ns⟩
 .rw[r.bl];exact k H'
def eR(K:W.Frag)(x:Str)(C:Addr):Prop:=W.nsIn K mainGlobals x=some (some<|.ref C)/\W.excIn K C [.type "ValueError",.type "Exception",.type "BaseException",.type "object"] "ValueError.__new__" = true
def nF(l:W.OpenLaw)(w:World)(K:W.Frag)(mg:Str->Option Value)(base:Heap)(fa:Addr)(fd:FuncData):List Prop:=[FS ["script","k","base"] ["script","k"]<|top 38,BG l.prog w K mg base "_law_cell" 1 2 E9,FS ["one","two","point","across","up"] ["one","two","point"]<|top 40,BG l.prog w K mg base "_law_side" 1 3 FA,FS ["room","k"] ["room"]<|top 41,BG l.prog w K mg base "_law_flat" 2 1 PU,FS ["script","k","count","mode","x","low","high","j","cell","y","room"] ["script","k","count"]<|top 42,BG l.prog w K mg base "_law_plain_room" 3 3 Tf,FS ["script","k","xs","ys","j","cell","plan"] ["script","k"]<|top 43,BG l.prog w K mg base "_law_winding" 2 2 Th,FS ["room","total","k","one","two"] ["room"]<|top 48,BG l.prog w K mg base "_law_area" 1 1 TZ,FS ["one","two","point","low","high"] ["one","two","point"]<|top 46,BG l.prog w K mg base "_law_on" 2 3 Mw,FS ["one","two","three","four","some","a","b","point","first"] ["one","two","three","four"]<|top 47,BG l.prog w K mg base "_law_meet" 3 4 PY,FS ["room","count","k","j"] ["room"]<|top 49,BG l.prog w K mg base "_law_good" 4 1 Tb,FS ["script","k","room","j","cell","at","x","y","tried"] ["script","k","room"]<|top 44,BG l.prog w K mg base "_law_pushed" 5 3 Tg,FS ["script","k","most","cell","room","slant","turn_v","first","x","y"] ["script","k","most"]<|top 45,BG l.prog w K mg base "_law_room" 6 3 PZ,FS ["room","one","other","count","here","there","k","later","left","right"] ["room","one","other"]<|top 50,BG l.prog w K mg base "_law_line" 4 3 Td,FS ["room","count","joined","other","one"] ["room"]<|top 54,BG l.prog w K mg base "_law_joined" 5 1 Tc,FS ["line","other"] ["line","other"]<|top 51,BG l.prog w K mg base "_law_cross" 1 2 Ta,FS ["lines","wanted","found","line","longer","row"] ["lines","wanted"]<|top 57,BG l.prog w K mg base "_law_all" 2 2 TY,FS ["corners"] ["corners"]<|top 18,BG l.prog w K mg base "all_near" 1 1 PF,FS ["one","other","third"] ["one","other","third"]<|top 5,BG l.prog w K mg base "turn" 1 3 Ho,FS ["corners"] ["corners"]<|top 19,BG l.prog w K mg base "all_bend" 2 1 TR,FS ["corners"] ["corners"]<|top 21,BG l.prog w K mg base "walls_of" 1 1 M5,FS ["count","one","other"] ["count","one","other"]<|top 20,BG l.prog w K mg base "are_neighbours" 1 3 LQ,FS ["way","other","start_side","end_side"] ["way","other"]<|top 7,BG l.prog w K mg base "parts" 2 2 Mz,FS ["point","way","start","end","in_width","in_height"] ["point","way"]<|top 6,BG l.prog w K mg base "lies_on" 2 2 Gu,FS ["way","other","touches_way","touches_other"] ["way","other"]<|top 8,BG l.prog w K mg base "meet" 3 2 LR,FS ["corners","walls","k","m"] ["corners"]<|top 22,BG l.prog w K mg base "walls_keep_apart" 4 1 Tp,FS ["corners"] ["corners"]<|top 23,BG l.prog w K mg base "doubled_area" 2 1 TV,FS ["room"] ["room"]<|top 15,BG l.prog w K mg base "is_room" 5 1 TX,FS ["room"] ["room"]<|top 17,BG l.prog w K mg base "check_room" 6 1 PJ,FS ["room"] ["room"]<|top 30,BG l.prog w K mg base "check_few_corners" 1 1 TU,FS ["way","point","start_above","end_above","side"] ["way","point"]<|top 9,BG l.prog w K mg base "passes_right_of" 2 2 Pd,FS ["walls","point","passed"] ["walls","point"]<|top 24,BG l.prog w K mg base "place_within" 3 2 To,FS ["corners","way","doubled","middle"] ["corners","way"]<|top 25,BG l.prog w K mg base "middle_is_inside" 4 2 Tj,FS ["room","one","other","way","far_walls"] ["room","one","other"]<|top 16,BG l.prog w K mg base "has_line" 5 3 PQ,FS ["room","told","one"] ["room"]<|top 31,BG l.prog w K mg base "lines_of" 6 1 Pb,FS ["one","other"] ["one","other"]<|top 32,BG l.prog w K mg base "cross" 1 2 PK,FS ["line","lines"] ["line","lines"]<|top 33,BG l.prog w K mg base "crosses_none" 2 2 PM,FS ["lists","found","told","lines","later"] ["lists","found"]<|top 36,BG l.prog w K mg base "longer_by_one" 3 2 Pc,FS ["room","found","told","size"] ["room"]<|top 29,BG l.prog w K mg base "cuts" 7 1 PN,FS ["count","lines","one","other"] ["count","lines","one","other"]<|top 34,BG l.prog w K mg base "are_joined" 2 4 PH,FS ["count","found","ways","first","last"] ["count","found","ways","first","last"]<|top 35,BG l.prog w K mg base "ways_between" 3 5 Pg,FS ["room","count","found","ways","span","first"] ["room"]<|top 28,BG l.prog w K mg base "many" 7 1 Ti,FS ["found"] ["found"]<|top 39,BG l.prog w K mg base "_law_whole" 1 1 Pa,FS ["lines","line"] ["lines"]<|top 52,BG l.prog w K mg base "_law_lines_told" 2 1 Te,FS ["found","due"] ["found","due"]<|top 58,BG l.prog w K mg base "_law_told" 3 2 Mx,FS ["script","room","joined","lines","due","handed","found","total"] ["script"]<|top 59,DM l.prog w K mg base Eb 8 fa fd ["script"]<|Mc K 1 PR]
theorem all_mk{l:W.OpenLaw}{w:World}{K:W.Frag}{h:Heap}{mg:Str->Option Value}{fa:Addr}(X:K.In h)(G:h.Ns mainGlobals mg)(tN:mg "law" = some (.ref fa)) {Z:Tok} {Y O:Tok} {ie:Addr} {P:Obj} {wz:Nat} {R:Tok} {B:Tok} {S:Tok} (D:NU K (("_law_cell",38)::("_law_side",40)::("_law_flat",41)::("_law_plain_room",42)::("_law_winding",43)::("_law_area",48)::("_law_on",46)::("_law_meet",47)::("_law_good",49)::("_law_pushed",44)::("_law_room",45)::("_law_line",50)::("_law_joined",54)::("_law_cross",51)::("_law_all",57)::("all_near",18)::("turn",5)::("all_bend",19)::("walls_of",21)::("are_neighbours",20)::("parts",7)::("lies_on",6)::("meet",8)::("walls_keep_apart",22)::("doubled_area",23)::("is_room",15)::("check_room",17)::("check_few_corners",30)::("passes_right_of",9)::("place_within",24)::("middle_is_inside",25)::("has_line",16)::("lines_of",31)::("cross",32)::("crosses_none",33)::("longer_by_one",36)::("cuts",29)::("are_joined",34)::("ways_between",35)::("many",28)::("_law_whole",39)::("_law_lines_told",52)::("_law_told",58)::("law",59) :: [])) (zs:bR K ["len","range","min","max","abs","set","sorted","all","sum","any","isinstance","int","bool","list","tuple"]) (T:W.nsIn K mainGlobals "FARTHEST" = some (some<|.int 100 Z)) (C:W.nsIn K mainGlobals "ORIGIN" = some (some<|.ref ie)) (I:K.lookup ie=some P) (U:P.cls=.type "tuple") (n:P.data=.seq #[.int 0 Y,.int 0 O] wz) (b:W.nsIn K mainGlobals "FEWEST_CORNERS" = some (some<|.int 3 R)) (x:W.nsIn K mainGlobals "MOST_CORNERS" = some (some<|.int 12 B)) (ACx:W.nsIn K mainGlobals "MOST_CORNERS_FOR_ALL" = some (some<|.int 8 S)) : ∃fd:FuncData,(∀(s:Shared)(v:Value),BindsTo s fd ⟨[v],[]⟩ [("script",v)])/\∀base:Heap,K.In base->base.Ns mainGlobals mg->DM l.prog w K mg base Eb 8 fa fd ["script"] (Sf K):=by
 have ADN:∃t,mg "FARTHEST" = some (.int 100 t):=⟨_,W.mg_of X G T⟩;have ADR:∃a,mg "ORIGIN" = some (.ref a)/\∀G,Rep K G (.tup [(.int 0),(.int 0)])<|.ref a:=⟨_,W.mg_of X G C,λG=>ACI [0,0] ⟨_,_,_,I,U,n,(by show 2<=sizeLine;decide),(.cons ⟨_,rfl⟩<|.cons ⟨_,rfl⟩ .nil)⟩⟩;have ADO:∃t,mg "FEWEST_CORNERS" = some (.int 3 t):=⟨_,W.mg_of X G b⟩;have ADP:∃t,mg "MOST_CORNERS" = some (.int 12 t):=⟨_,W.mg_of X G x⟩;have ADQ:∃t,mg "MOST_CORNERS_FOR_ALL" = some (.int 8 t):=⟨_,W.mg_of X G ACx⟩;obtain⟨ADA,ADE,ADD,ADC,AC4,ADF,ADG,AC5,ADH,AC6,AC9,AC8,AC7,ADB,ADI,_⟩:=Yy X G zs;obtain⟨d0,d1,d2,d3,d4,d5,d6,d7,d8,d9,d10,d11,d12,d13,d14,d15,d16,d17,d18,d19,d20,d21,d22,d23,d24,d25,d26,d27,d28,d29,d30,d31,d32,d33,d34,d35,d36,d37,d38,d39,d40,d41,d42,pU,_⟩:=D;obtain⟨f,fd,F,hm⟩:=Qb X G pU;have e:=tN.symm.trans hm;cases e;refine⟨fd,λs v=>GB.bt F ABE s [v] rfl,λbase KB _=>?_⟩;have H:Ms<|(nF l w K mg base fa fd).drop 0:=by
  iterate 88
   refine qM rfl ?_ λsc=>?_
   .first
     |exact MZ ADm ⟨[_],rfl,rfl⟩|exact MZ ADm ⟨[_,_],rfl,rfl⟩|exact MZ ADm ⟨[_,_,_],rfl,rfl⟩|exact MZ ADm ⟨[_,_,_,_],rfl,rfl⟩|exact MZ ADm ⟨[_,_,_,_,_],rfl,rfl⟩
     |refine gG (Qb X G ADn) sc λy q V6 u hc=>?_
     |refine gY (Qb X G ADn) sc λy q V6 u hc=>?_
     |refine gW (Qb X G ADn) sc λy q hc=>?_
     |refine gL F sc λy q V6 u hc=>?_
    repeat' first|(show _=_;first|exact rfl|exact iO _|exact WV|exact ln2|exact WW|exact RK|exact Ln RK|assumption|decide|with_unfolding_all rfl)|(show _\/_;first|exact Or.inl rfl|exact Or.inr rfl|exact Or.inr<|Or.inl rfl)|(show PX _ _ _;first|apply AAK|apply zq|apply zw|apply za (Fn.of (by first|assumption|exact mw.toG ADn) y)|apply AAH|apply zX|apply zx|apply AAI|apply z7|apply zZ|apply zf|apply z6|apply zh|apply zg|apply zj|apply z9|apply zY|apply AAD|apply AAC|apply zd|apply ze|apply AAE|apply AAF|apply zp|apply AAG|apply AAA|apply AAB|apply zy|apply zm|apply zo|apply zr|apply zu|apply zv|apply zi|apply zl|apply zt|apply zk|apply Ir (oU hc) x6 ADn oA|apply Ir (oT hc) x5 ADn n6|apply Ir oK xr ADn nr|apply Ir (oX u) x8 ADn Y3|apply Ir (oM hc) xu ADn nu|apply Ir (oZ hc) yA ADn oC|apply Ir (oN hc) xw ADn nv|apply Ir oY x9 ADn Y3|apply AAJ oS xy ADn Y2|apply zb (Fn.of (by first|assumption|exact mw.toG ADn) y) qz)|(show Co _ _ _;first|apply yI|apply ig|apply yJ|apply O1|apply XE)|(show C6 _ _ _;first|apply AAs|apply AAu|apply AAq|apply AAr|apply AAt|apply AAv|apply AAw)|(show DN _ _ _ _ _;first|apply AAl|apply AAk|apply AAh|apply AAc|apply AAb|apply AAn|apply AAW|apply AAg|apply AAZ|apply AAm|apply AAY|apply AAd|apply AAa|apply AAj|apply AAi)|(show Ed _ _ _ _ _;first|apply AAX|apply AAf|apply AAe|apply AAp)|(show Hu _ _ _;first|apply AAz|apply AAx|apply AAy|apply AA0)|(show JF _ _ _ _ _;first|apply AAP|apply AAQ|apply AAR)|(show LV _ _ _;first|apply AAU|apply AAV)|(show J6 _ _ _;first|apply AAS|apply AAT)|(show LU _ _ _;first|apply AAN|apply AAO)|(show Ht _ _ _;first|apply AAL|apply AAM)|(show M7 _ _;first|apply rV|apply rW)|(show Hr _ _;first|apply rS|apply rT)|(show Cn _ _ _;first|exact o3|exact ow|exact oz|exact ou q|exact o5 q|exact o6|exact ox|exact o7 u|exact o4 V6|exact oy u)|(show F9 _ _ _ _ _;first|exact DZ sc rfl rfl (Nb:=["wall"]) ADm|exact DZ sc rfl rfl (Nb:=["lines"]) ADm|exact DZ sc rfl rfl (Nb:=["x","y"]) ADm|exact DZ sc rfl rfl (Nb:=["corner"]) ADm|exact DZ sc rfl rfl (Nb:=["j","count"]) ADm|exact DZ sc rfl rfl (Nb:=["one","line"]) ADm|exact DZ sc rfl rfl (Nb:=["wall","way"]) ADm|exact DZ sc rfl rfl (Nb:=["k","corners"]) ADm|exact DZ sc rfl rfl (Nb:=["row","wanted"]) ADm|exact DZ sc rfl rfl (Nb:=["wall","point"]) ADm|exact DZ sc rfl rfl (Nb:=["other","line"]) ADm|exact DZ sc rfl rfl (Nb:=["line","lines"]) ADm|exact DZ sc rfl rfl (Nb:=["x","y","slant"]) ADm|exact DZ sc rfl rfl (Nb:=["a","b","x","y"]) ADm|exact DZ sc rfl rfl (Nb:=["a","b","xs","ys"]) ADm|exact DZ sc rfl rfl (Nb:=["other","room","one"]) ADm|exact DZ sc rfl rfl (Nb:=["pair","joined","room"]) ADm|exact DZ sc rfl rfl (Nb:=["tip","ways","first","last"]) ADm)|(show List.Nodup _;first|exact sc.nd|decide|(dsimp only[B7];decide +kernel))|assumption|decide|exact WV|exact ln2|exact WW|exact RK|exact Ln RK|exact iO _|exact PassesOwn.never|(intro;first|rfl|skip)
  exact trivial
 exact(YI (k:=87) H rfl).imp λvs H Q E h=>ABa h
theorem walk{l:W.OpenLaw}{q:Program}{y:List Str}{Z:(Str->Option Value)->Heap->Prop}{v:World->Heap->Prop}{d:DefRec}{K:Params->W.Frag}(hn:l.most=some 63)(Y:d.params.defaults=[]) (Q:∀(w:World)(h:Heap),v w h->(K w.params).In h) (F:∀(w:World)(mg:Str->Option Value)(fa:Addr)(h:Heap),(K w.params).In h->h.Ns mainGlobals mg->mg d.name=some (.ref fa)->
  ∃fd:FuncData,(∀(s:Shared)(u:Value),BindsTo s fd ⟨[u],[]⟩ [("script",u)])/\∀base:Heap,(K w.params).In base->base.Ns mainGlobals mg->DM l.prog w (K w.params) mg base Eb 8 fa fd ["script"] (Sf<|K w.params)) :
 W.WalkO q y Z v l.row.toRowW d [] (λf vs=>PySem.call f vs):=
 L2.ACa (n:=63) (k:=8) (x:="script") (CX:=λ_=>Eb) (sp:=λw=>Sf<|K w.params) hn ADl Y ⟨rfl,ADl,ADl⟩ Q F (λ_ _ a ns O _ P=>⟨a,ns,rfl,P,O,λ_=>rfl⟩) λ_ _ _ _ _ z=>z
end L2.K
end
end Internal
open Internal
namespace PySem.W.Fast
def N:=Nat
def tw18366225366900166730:=N
def tw18043358839574595051:=N
def tw3686446229155993958:=N
def tw3857933185907931097:=N
def tw4484503645165019141:=N
def tw50601703158861470:=N
def tw7733396340028363257:=N
def tw4622500223662515482:=N
def tw16061303226626726775:=N
def tw906452999924429337:=N
def tw12639343004431761597:=N
def tw14654834401268574058:=N
def tw358468371836402999:=N
def tw4718324765992700840:=N
def tw17754401056766031522:=N
def tw3520229784702937968:=N
def tw3338076165286801602:=N
def tw7569149924126396241:=N
def tw17621159265726690300:=N
def tw9682486058725711341:=N
def tw6630378896863005930:=N
def tw3797753127786588670:=N
def tw4103871316885258822:=N
def tw15157031789698517421:=N
def tw5895555877640058887:=N
def tw17761462833242198308:=N
def tw14602788884236282946:=N
def tw17926206769228357741:=N
def tw6954202882016388085:=N
def tw17654186035545655081:=N
def tw11709559122331632513:=N
def tw15712666432413437463:=N
def tw2527072018836558463:=N
def tw8068473053186940864:=N
def tw9062089515431131466:=N
def tw11268036706091205151:=N
def tw5960070001723452028:=N
def tw1297055601829340299:=N
def tw1401513104443140907:=N
def tw15017193764517382364:=N
def tw117734812564412628:=N
def tw15631744894913200814:=N
def tw2483405368102218762:=N
def tw4722148285724774332:=N
def tw14026842859342879887:=N
def tw16264711440973226590:=N
def tw8120726766021265080:=N
def tw7200179640530812791:=N
def tw9574060672120372607:=N
def tw12961677413431815039:=N
def tw16403233366147534274:=N
def tw13266590778442736214:=N
def tw3048133048440197731:=N
def tw8404525160586712910:=N
def tw10123209196866583138:=N
def tw11656880613068968011:=N
def tw3373996196485905425:=N
def tw16465440859147195656:=N
def tw8951300897478177193:=N
def tw4461319414534356212:=N
def tw8335708551129216878:=N
def tw12502304676611241544:=N
def tw16565129651108745120:=N
def tw11576004799507826605:=N
def tw3023661511273993851:=N
def tw18419437571405779918:=N
def tw686543967970521462:=N
def tw10987885993413369543:=N
def tw6953766135485027347:=N
def tw4246171191368078262:=N
def tw18035222213418180048:=N
def tw6646496497311063879:=N
def tw1412005785397288456:=N
def tw3723527827277954851:=N
def tw3503580983086242175:=N
def tw11297421443054970562:=N
def tw10899121717354392889:=N
def tw13659550457329429408:=N
def tw18163620295066657806:=N
def tw14705882311240953844:=N
def tw17169937119218668189:=N
def tw10995731670096118402:=N
def tw66274579462240749:=N
def tw17913679680379924609:=N
def tw7615651430375278152:=N
def tw15203670364939659687:=N
def tw1455054849308081270:=N
def tw7645636766536765512:=N
def tw11497014638508705477:=N
def tw15262824241881032073:=N
def tw8315237947336536293:=N
def tw6679646288767648424:=N
def tw14543469788742200918:=N
def tw3974280992937194990:=N
def tw13367974940835082696:=N
def tw1323168337676656681:=N
def tw6875853370289678711:=N
def tw4890919256757530055:=N
def tw1025950169009264752:=N
def tw4920409189362941895:=N
def tw12496137122986337974:=N
def tw841720734660589616:=N
def tw13803475221242347938:=N
def tw3304844866790154792:=N
def tw8402855006050852566:=N
def tw13872067375295548125:=N
def tw13771109280687854665:=N
def tw15630273008824913243:=N
def tw7537716706096006640:=N
def tw11022520871374082678:=N
def tw2345658648393818295:=N
def tw3340008836660457068:=N
def tw9583421425540619681:=N
def tw1450275373255295903:=N
def tw16278448762964201348:=N
def tw14616109788804837375:=N
def tw3892826844217113809:=N
def tw18395401013501321756:=N
def tw2520243220130478432:=N
def tw9189786788784499318:=N
def tw7213016007010477550:=N
def tw6375644015864353155:=N
def tw15211253101369346839:=N
def tw17544806961444540469:=N
def tw6726642023344411464:=N
def tw1122719677162486639:=N
def tw3800281444566532042:=N
def tw2246518566915754543:=N
def tw10896656232484188934:=N
def tw1198722811664934552:=N
def tw1295174783950591410:=N
def tw6642705998648039136:=N
def tw16812161243173365107:=N
def tw1418645434828594434:=N
def tw3304921672621553502:=N
def tw10647296230138907190:=N
def tw17576209967210892785:=N
def tw10922891035611299329:=N
def tw8082819283070089843:=N
def tw14645121845201961079:=N
def tw9199481929415926126:=N
def tw17392210272205579143:=N
def tw3618172517724052160:=N
def tw15689143215961288102:=N
def tw14524839472136926002:=N
def tw7191517832151325993:=N
def tw9544098838121653973:=N
def tw10310005072850280499:=N
def tw6525185301588676336:=N
def tw15505112952379822641:=N
def tw14697986337539167444:=N
def tw9455414669591851369:=N
def tw9336679906645765148:=N
def tw5811510691436933138:=N
def tw81073568435945823:=N
def tw3489847642684648999:=N
def tw2320833907942069787:=N
def tw7708731423057116157:=N
def tw18335174835929769551:=N
def tw11191749634449649288:=N
def tw11042327590122055115:=N
def tw9471675228623357264:=N
def tw913429849510327085:=N
def tw16501710691923273826:=N
def tw13320190691718282316:=N
def tw15810086406187184653:=N
def tw17110839545003809361:=N
def tw15654728772783803330:=N
def tw7876887545751651685:=N
def tw15814638008852869566:=N
def tw2591981810860992856:=N
def tw11398266259105746271:=N
def tw1008189293535436494:=N
def tw9432370420968572246:=N
def tw5381863932060229630:=N
def tw2664881904827024260:=N
def tw18008173824822787459:=N
def tw9843145643790601460:=N
def tw5341814445380696537:=N
def tw18038566583519741335:=N
def tw16187283399970934331:=N
def tw13993423441209634309:=N
def tw12159519207616794179:=N
def tw3947174117196753607:=N
def tw16241432579072535121:=N
def tw14051517460984261679:=N
def tw8372161279781087922:=N
def tw4720828428533468066:=N
def tw17522697751151462331:=N
def tw3145274305563278100:=N
def tw2982187260016441108:=N
def tw16869262327362509096:=N
def tw3774114341167130072:=N
def tw15591627589715192638:=N
def tw862996532532477220:=N
def tw11663293592871387299:=N
def tw247655234698989530:=N
def tw17717208577951438173:=N
def tw11140167200497934515:=N
def tw4981899628120712763:=N
def tw9493695546834908121:=N
def tw9480332334687433630:=N
def tw6685901882922974230:=N
def tw5562282244341097579:=N
def tw11271672541761608235:=N
def tw10797582839469328033:=N
def tw16418385283140959495:=N
def tw5481287478261762511:=N
def tw13199283824259889777:=N
def tw14954430358167145451:=N
def tw10534684205541050721:=N
def tw9157532904855485494:=N
def tw6429990893690582318:=N
def tw10207873461499169508:=N
def tw10034169746347827875:=N
def tw2901618320543744549:=N
def tw2518158509267496326:=N
def tw11892532456321267269:=N
def tw11522049367096109757:=N
def tw14546606129299385521:=N
def tw13881370376570624439:=N
def tw13156437595231496811:=N
def tw4095577608376213667:=N
def tw131261530668888484:=N
def tw12630747956951747895:=N
def tw12264278599385464120:=N
def tw465390543021421581:=N
def tw15690068561041624633:=N
def tw14469372267617681341:=N
def tw997838527750419382:=N
def tw9977056864488669993:=N
def tw9716578714282184525:=N
def tw9669097136856028790:=N
def tw9468366614496086940:=N
def tw863588866674403185:=N
def tw8486825230493937029:=N
def tw8475163250007265883:=N
def tw8424836928668582188:=N
def tw8320208177034206837:=N
def tw8271707280311756992:=N
def tw8054351216823500866:=N
def tw7897230203506246082:=N
def tw7220928784437904050:=N
def tw6889419170681560074:=N
def tw6860927216844012343:=N
def tw6775551071406699391:=N
def tw6602212113982870682:=N
def tw6491341573372991337:=N
def tw6185543462932368953:=N
def tw6181708258985130232:=N
def tw5315931992281920644:=N
def tw5292272471080793408:=N
def tw5191695194679760764:=N
def tw5181455651822976123:=N
def tw4878522594839372499:=N
def tw4043789089094940795:=N
def tw3613125741404635671:=N
def tw3473330872984652916:=N
def tw3460768552092690471:=N
def tw3231819947445993263:=N
def tw3005203964548837843:=N
def tw286458177453132734:=N
def tw2787104702426629734:=N
def tw2627914907634702155:=N
def tw2079864750868976362:=N
def tw17898477178434904996:=N
def tw17868915739905855263:=N
def tw17749398622815240725:=N
def tw1774232138034280703:=N
def tw1725043756122482617:=N
def tw17216527227815745480:=N
def tw17077844086663403528:=N
def tw16771962056061063061:=N
def tw16741768565121890528:=N
def tw16645730984662693115:=N
def tw1644932421258397041:=N
def tw16393427227008800105:=N
def tw16290798108569648845:=N
def tw16279680459999958880:=N
def tw15863623149561633798:=N
def tw15678301233297691906:=N
def tw15608443363168621682:=N
def tw14650462746233524924:=N
def tw14507778445888429931:=N
def tw14308842596676214782:=N
def tw14124795223110511782:=N
def tw13716595474738975244:=N
def tw13568253401585109471:=N
def tw13164696313664756123:=N
def tw13064853570004559718:=N
def tw1305671526762809568:=N
def tw12935427625494005301:=N
def tw12926266045222892902:=N
def tw12654626530598237093:=N
def tw12636563190886286959:=N
def tw12546259261852906629:=N
def tw12538075961168590954:=N
def tw12033616743607879245:=N
def tw11983595594208234836:=N
def tw11864405951965006622:=N
def tw11665729061583880494:=N
def tw11629722804826059478:=N
def tw11532418377283485238:=N
def tw1140987677892336776:=N
def tw10910216292664429768:=N
def tw10905000340532842878:=N
def tw105874866392020652:=N
def tw10412163982046312707:=N
def tw10034818795655538063:=N
end PySem.W.Fast
open PySem PySem.W PyProof.Rows
set_option maxHeartbeats 0 in
theorem PySem.Challenge.cw_threewards_k13_whole_all_cuts_holds : PySem.Challenge.rw_threewards_k13_whole_all_cuts.Holds := by
  w_on; o_law; k_head; (case hw => w_witness2)
  k_fill
  refine L2.K.walk (l := PySem.Challenge.rw_threewards_k13_whole_all_cuts) rfl rfl (fun w h Y => PySem.W.kIn_of Y) ?F
  case F =>
    intro w mg fa h KX G hmg
    refine' L2.K.all_mk KX G hmg ..
    all_goals try first | ((refine' L2.K.dcs (L2.PL.dmk ?a ?b ?c ?d) ?_; (case a => k_is); (case b => k_is); (case c => k_is); (case d => k_is)); (repeat (refine' L2.K.dcs (L2.PL.dmk ?a ?b ?c ?d) ?_; (case a => k_is); (case b => k_is); (case c => k_is); (case d => k_is))); exact L2.K.dnl) | k_is | (refine' L2.PL.dmk ?a ?b ?c ?d; (case a => k_is); (case b => k_is); (case c => k_is); (case d => k_is)) | (refine' ⟨?_, ?_⟩; k_is; k_exc) | exact rfl | (refine' ⟨?_, ?_⟩; k_is; refine' ⟨?_, ?_⟩; k_is; refine' ⟨?_, ?_⟩; k_is; refine' ⟨?_, ?_⟩; k_is; refine' ⟨?_, ?_⟩; k_is; refine' ⟨?_, ?_⟩; k_is; refine' ⟨?_, ?_⟩; k_is; refine' ⟨?_, ?_⟩; k_is; refine' ⟨?_, ?_⟩; k_is; refine' ⟨?_, ?_⟩; k_is; refine' ⟨?_, ?_⟩; k_is; refine' ⟨?_, ?_⟩; k_is; refine' ⟨?_, ?_⟩; k_is; refine' ⟨?_, ?_⟩; k_is; refine' ⟨?_, ?_⟩; k_is; trivial)
