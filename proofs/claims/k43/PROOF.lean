import PyProof.Rows.All
import Wide.All
import OpenK.AllK
import Wide.FinOn
import Lean
import PyProof.EqAt
import PyProof.EqKinds
import PyProof.TupleCall
import PyProof.ZipIter
import KE.KSortKey
import KE.KRevIter
import PyProof.MinMaxWalk
import PySem.Challenge.RW_ringfell_k43_three_ties_looked_for
open PySem renaming wpAny_bind → DX,Value → D1,wpAny_pure → D3,Shared → D5,sizeLine → Ei,Program → Eo,wpAny → Es,model → EF,mainGlobals → EJ,World → ES,starEach → E5,codeAny_builtin → E6,FuncData → Fb,wpAny_holding → Fe,Around → Fi,wpAny_newObj_type → Fq,bootBuiltins → Fx,wpAny_call_entry → FA,wpAny_callSpecial?_slot → FD,wpAny_seqItems → FG,compareOp → FP,boot_len → FQ,plainId_quiet → FV,wpAny_updateSeq → Gb,wpAny_truthy_bool → Gi,wpAny_setField_rec → Gn,wpAny_mono → Gp,richCompare_meets_room → Gq,wpAny_field → GG,wpAny_rule → GQ,wpAny_tryCatch → GU,wpAny_typeOf → GX,wpAny_pyIter_list → G7,mem_of_lookup → G9,wpAny_letGo → Hd,wpAny_Call_Name_kw → Ho,wpAny_attempt → Hq,codeAny_call_builtin → Hs,wpAny_passesOwn → HE,wpAny_execs_nil → Ib,sizeLine_eq → Ic,codeAny_mono → Ie,backTo → Ig,wpAny_newList → Ij,wpAny_loadPart_at → Ik,wpAny_runValue → Iv,wpAny_isInstance → Iy,call_meets → IK,wpAny_pyIter_tuple → IY,tupleKind_room_in1 → Ja,codeAny → Jb,holding → Jv,wpAny_updateSeq_pair → Jz,wpAny_standAt → JD,wpAny_specialOf → JS,rawInt → Kb,isSubtype_type → Kh,wpAny_of_eq → KA,wpAny_onRaise → KC,wpAny_execs_cons → KO,noFill_tuple_add → KP,wpAny_forIn_list → KQ,wpAny_askSetting → KR,wpAny_Call_method_late → K2,wpAny_isTrue_Compare1 → Lh,concat_meets → Li,wpAny_eqIsQuiet_tuple → Ll,codeAny_of_tree → Lm,weight_type_call_type → Ln,wpAny_load → Lp,wpAny_call → Lq,typeIs_int → Lr,intKind_is → Lv,wpAny_loadName_local → LB,wpAny_newTuple → LH,isSubtype_stop → LK,wpAny_loadName_cell → LS,wpAny_setEntries_of → LX,rangeSize_one → Mk,seq_tuple_add → Ml,wpAny_evalAll_cons → Mo,wpAny_sequenceKey → MB,wpAny_pyIter_slot → MC,wpAny_evalAll_nil → MD,seqIndex_neg → MF,seqIndex_of → M1,wpAny_Name → Nd
open List renaming length_map → DY,size_toArray → D4,length_append → D7,mem_cons_self → D8,getElem?_eq_some_iff → Ea,mem_of_getElem? → Eb,getElem?_eq_getElem → Ec,map_append → Ee,mem_singleton → Ef,mem_cons_of_mem → Eg,mem_append → Eh,getElem?_map → En,take_of_length_le → Et,getD_eq_getElem?_getD → Ew,map_cons → Ez,mem_cons → EB,length_singleton → ED,mem_append_right → EH,length_cons → EI,mem_map → EK,append_nil → EN,append_assoc → EV,range → E2,take_add_one → E4,mem_append_left → E9,replicate → Fc,getElem?_toArray → Fd,length_take → Ff,pairwise_map → Fh,mem_filter → Ft,mem_range → Fv,mem_iff_getElem? → Fw,drop_sublist → Fy,nodup_cons → FC,extract_eq_take_drop → FE,pairwise_append → FH,mem_of_mem_take → FI,length_drop → FJ,take_sublist → FK,count_cons → FW,length_range → FZ,getElem?_set_self → F1,filter_append → F4,pairwise_singleton → Ge,filter_cons_of_pos → Gf,filter_cons_of_neg → Gg,filter_congr → Gh,getElem?_append_right → Gj,getElem?_set_ne → Gk,pairwise_iff_getElem → Gs,nodup_nil → Gu,all_eq_true → Gv,take_append_drop → Gz,pairwise_cons → GB,getElem?_take → GD,mem_of_mem_drop → GH,filterMap_cons → GL,flatten_cons → GN,mem_map_of_mem → GP,getElem?_append_left → GR,length_filter_le → GW,take_length → G2,getElem?_cons_succ → G5,map_map → G6,getElem_of_mem → Hb,any_eq_true → Hj,filter_cons → Hk,perm_append_comm → Hl,sum_cons → Hn,length_set → Ht,find?_cons → Hy,nodup_append → Hz,count_append → HD,replicate_succ → HG,length_eq_zero_iff → HI,getElem_mem → HM,not_mem_nil → HP,getElem?_drop → HS,nil_append → HW,getElem?_eq_none → HY,perm_ext_iff_of_nodup → Il,length_eraseIdx_of_lt → Im,getElem?_eq_none_iff → Ir,lookup_cons → Iw,reverse_append → IC,mem_filterMap → IL,getElem?_replicate → IM,any_cons → IQ,eraseIdx_cons_succ → IS,length_nil → IV,eraseIdxIfInBounds_toArray → Jf,take_zero → Jj,count_nil → Jk,length_replicate → Jl,drop_append_of_le_length → Jq,take_append_of_le_length → Jr,eq_nil_of_length_eq_zero → Jt,map_drop → JB,of_mem_zip → JF,forIn_cons → JI,map_eq_nil_iff → JL,getElem?_range → JN,range_succ → JP,filter_eq_self → JQ,set_set → JX,zip_cons_cons → JZ,getElem?_zip_eq_some → Kc,drop_left → Kf,getElem?_take_of_lt → Ki,ext_getElem? → Kk,find?_range_eq_none → Kl,mem_of_mem_eraseIdx → Kq,length_eraseIdx_le → Ky,perm_middle → KI,zipIdx_cons → KJ,cons_append → KL,drop_eq_nil_of_le → KU,pairwise_lt_range → KW,filter_eq_nil_iff → K0,map_nil → K3,foldl_cons → K4,length_zip → K6,contains_iff_mem → K8,eq_nil_or_concat → Ld,concat_eq_append → Lf,reverse_reverse → Lx,dropLast_concat → Lz,getElem?_of_mem → LA,drop_zero → LD,forIn_nil → LF,map_congr_left → LO,length_take_le → LQ,length_pos_iff → LR,all_cons → Mb,map_take → Me,filter_filter → Mi,reverse_perm → Mx,getElem_take → Mz,foldl_append → MA,nodup_range → MM,ext_getElem → MO,countP_cons → MQ,zipIdx_nil → M0,drop_drop → M7,take_succ → M8,all_map → Nj
open PySem.Heap renaming get?_push_of_some → DZ,get?_push_size → Ed,lt_size → Ej,get?_update_other → EG,get?_update_self → Fj,size_push → Gd,get?_update_ne → Gw,size_update → ML
open PySem.W renaming Frag → D2,nsIn → E7,mg_none_of → Fp,mg_of → FT,hideAll_get → KD,cellsFrom_some → KS,kat_nil → K7,callWith_K → L9,looks_findIn → MH
open Nat renaming le_refl → D6,lt_of_lt_of_le → Er,ne_of_lt → Ey,le_trans → ET,zero_le → EZ,lt_irrefl → Fu,lt_succ_of_lt → Fz,le_add_right → GI,ne_of_gt → GV,lt_of_le_of_lt → GZ,lt_succ_self → G1,le_sub_one_of_lt → G3,zero_add → Hm,lt_of_succ_lt → Hv,add_sub_cancel_left → HH,le_of_not_lt → HL,lt_of_not_le → HN,eq_zero_of_not_pos → HQ,le_of_lt → HU,le_of_lt_succ → Ih,succ_pos → II,le_antisymm → IT,le_succ_of_le → Jg,mod_lt → Jh,sub_one_lt_of_lt → Jx,pow_le_pow_right → Jy,add_le_add_left → JH,lt_of_le_of_ne → JY,min_self → J0,le_succ → Ks,succ_le_succ → KG,le_of_sub_eq_zero → K5,add_sub_cancel → Md,sub_pos_of_lt → Mr,le_of_succ_le → Ms,min_eq_left → MU,add_assoc → Nf
open Array renaming length_toList → D9,getElem?_toList → Em,getElem?_eq_getElem → EL,mem_toList_iff → EW,toList_append → E3,size_map → Fm,toList_extract → Gm,toList_push → Gx,getD_eq_getD_getElem? → GF,getElem?_eq_some_iff → GJ,size_push → Ha,getElem?_eq_none → Hh,toList_reverse → Hr,size_append → Hw,toList_inj → Jo,toList_map → Js,toList_setIfInBounds → JV,perm_iff_toList_perm → JW,forIn_toList → J6,size_setIfInBounds → Kj,getElem?_replicate → Km,append_assoc → L0,getElem?_map → Mf
open Bool renaming false_ne_true → Ek,false_eq_true → Ex,and_eq_true → EO,not_true → F3,eq_iff_iff → Gr,eq_false_iff → GO,false_and → Io,and_true → JC,and_false → Kg,true_and → Kx,not_false → LC,or_false → Ng,false_or → Nh
open PyProof.Rows renaming wpS_bind → Ep,Keyed → EA,wpS_pure → EC,arrOf → EE,pendingOf → ER,SortSt → EU,slot_tuple_getitem → FL,wpS_forRange → FR,wpS_mono → GS,wpS_modify → G8,IntsAre → He,callWith_type1 → HV,listUpdate_at → Ii,get?_update_seq → IZ,reverseSlice'_eq → Ju,wpS_get → JR,KeyOrd → JT,wpS_lift → J8,listItems_at → Ka,callWith_kw → Kp,subscriptTail_builtinR → K1,plain_sorted → Lj,entry_sorted → Lk,size_push' → Lu,args_list_sort → LI,sortedHeap_old → LJ,getElem?_mirror_all → LU,seqEpoch_at → LV,kind_sorted → LW,args_tuple_getitem → Mm,sortedHeap_at → Mn,args_sorted1 → MG
open PySem.Value renaming ref → Eu,int → F7,none → GA,type → G0,isInt_shape → Je
open PySem.F renaming plainAttrs_list → EM,plain_min_loop → Fg,slot_list_append → FN,type_list_append → FO,slot_dict_keyiterator_next → FX,called_set → Ga,entry_min_loop → GK,slot_tuple_iterator_next → Hi,plain_extend_loop → HK,slot_list_pop → HZ,type_list_pop → Ia,args_dict_keyiterator_next_1 → Iu,entry_dict_keyiterator_next → ID,args_tuple_add_2 → IH,entry_tuple_add → IP,slot_list_count → IX,slot_tuple_add → Jc,plain_list_iadd → Ji,typeOf_object_class → Jn,args_list_ne_2 → Jp,args_tuple_iterator_next_1 → JA,entry_list_ne → JJ,entry_tuple_iterator_next → JK,slot_zip_next → JO,slot_list_ne → Ke,slot_tuple_count → Kn,plain_list_iadd → Kv,type_list_count → Kz,args_list_eq_2 → KN,typeCall_set_1 → KY,slot_dict_iter → KZ,entry_proto_collect → K9,plain_proto_collect → La,entry_list_eq → Lb,attrBase_ValueError → Lc,excBase_ValueError → Ly,slot_list_eq → LG,entry_extend_loop → LM,slot_gs_get → Mh,entry_type_call → Mu,entry_list_iadd → Mv,args_zip_next_1 → Mw,entry_list_pop → MJ,entry_set_init → MN,entry_zip_next → MP,slot_list_pop → MR,slot_int_rmul → MS,plain_set_new → MY,slot_set_iter → MZ
open PySem.Around renaming under_plainId → EY,under_plain → Mg
open Option.some renaming inj → E1
open PyProof.Rows.KeyOrd renaming kle_trans → E8,kle_of_klt → FY,kle_refl → GC,kle_antisymm → LL
open PySem.PassesOwn renaming never → Fl
open PySem.Builtin.List renaming listExtendWith → Fn,listLengthHint → Hf,listSameRef → HF
open Int renaming toNat_natCast → Fo,emod_lt_of_pos → IW,emod_nonneg → JM,zero_add → ME
open PySem.Obj renaming mapSeq → Fs,data_mapFields → Mc
open Classical renaming byContradiction → FF
open Iff renaming rfl → FU
open Ne renaming symm → F8
open List.Perm renaming append_left → Gy,append_right → Hg,refl → Ip,length_eq → LP
open PySem.SeqAt.EqAt renaming int_int → GY,same → JG,bool_bool → Lw,int_str → LY,str_int → LZ
open PySem.Paired renaming length → G4,snoc → Nn
open Option renaming map_some → Hu,map_eq_some_iff → HR,isSome_iff_exists → IG,isSome_map → Ko,getD_none → MI
open PyProof.Rows.F renaming plain_set_update_loop → HJ,entry_set_update_loop → Ku
open PySem.Calls renaming call_function_entry → Iq,callWith_builtin → Jd,evalArgs_plain → Jw,Name_function_global → JU
open PySem.Heap.SameBut renaming update → Iz
open PySem.Pv renaming boot_tuple → IE,boot_set → My
open List.Pairwise renaming imp_of_mem → IJ,filter → Nl,imp → Nq,and → Nr
open PySem.Code renaming quiet_builtin → IU
open List.Nodup renaming length_le_of_subset → Jm
open PySem.SeqAt renaming EqAt → JE,list_ne_lengthsAt → Kt,list_eq_lengthsAt → Kw,list_neAt → MT
open Sum.inl renaming inj → Kr
open PySem.AutoListH renaming list_insert_list_int_val_1 → KH
open List.cons renaming injEq → Lg,inj → Mj
open PySem.SeqAt.RcNeAt renaming tuples → LN
open Prod renaming ext → Ma
open PySem.Walks renaming list → Mp
open PySem.SeqAt.RcAt renaming tuples → Mq,lists → MK
open StateT renaming run_pure → MX
open PySem.EqMixed renaming eq_bool_str → M3,eq_str_bool → M4,ne_bool_str → M5,ne_str_bool → M6,eq_int_str → M9,eq_str_int → Na,ne_int_str → Nb,ne_str_int → Nc
open PySem.W.Looks renaming of_pure → Ni
open PySem.W.KatTups renaming cons → Nk
open PySem.Moved renaming trans → Nm
open PySem.Heap.IsSliceOf renaming new → Np
set_option Elab.async false
set_option linter.all false
set_option maxRecDepth 100000
set_option maxHeartbeats 4000000
namespace L2
open PySem PySem.Spec PyProof.Rows
abbrev Key:=Sum Int Str
def nW:Key->D1->Bool
 | .inl k,v=>Value.isInt k v
 | .inr x,v=>Value.isStrOf x v
def keyH (w:ES):Key->Int
 | .inl k=>hashInt k
 | .inr x=>hashStr w x
theorem bJ:∀{k:Key} {v:D1},nW k v=true->(∃i t,k=Sum.inl i/\v=F7 i t)\/(∃x t,k=Sum.inr x/\v=Value.str x t)
 | .inl i,v,h=>by
  obtain ⟨t,e⟩:=Je (k:=i) (v:=v) h
  exact .inl ⟨i,t,rfl,e⟩
 | .inr x,v,h=>by
  obtain ⟨t,e⟩:=Value.isStrOf_shape (x:=x) (v:=v) h
  exact .inr ⟨x,t,rfl,e⟩
theorem vX (i:Int)(t:Tok):nW (.inl i) (.int i t)=true:=by simp[nW,Value.isInt]
theorem vY (x:Str)(t:Tok):nW (.inr x) (.str x t)=true:=by simp[nW,Value.isStrOf]
theorem BD (a b:Int):decide ((Sum.inl a:Key)=Sum.inl b)=(a == b):=by
 by_cases e:a=b
 ·subst e;simp
 ·have h:¬ (Sum.inl a:Key)=Sum.inl b:=λq=>e (Kr q)
  rw[decide_eq_false h]
  exact (beq_eq_false_iff_ne.mpr e).symm
theorem BE (a b:Str):decide ((Sum.inr a:Key)=Sum.inr b)=decide (a=b):=by
 by_cases e:a=b
 ·subst e;simp
 ·have h:¬ (Sum.inr a:Key)=Sum.inr b:=λq=>e (Sum.inr.inj q)
  rw[decide_eq_false h,decide_eq_false e]
theorem BF (a:Int)(b:Str):decide ((Sum.inl a:Key)=Sum.inr b)=false:=decide_eq_false (λq=>nomatch q)
theorem BG (a:Str)(b:Int):decide ((Sum.inr a:Key)=Sum.inl b)=false:=decide_eq_false (λq=>nomatch q)
def bH (prog:Eo)(w:ES):PySem.KeyKind prog w Key where
 is:=nW
 hash:=keyH w
 inj:=λv a b ha hb=>by
  rcases bJ ha with ⟨i,t,rfl,rfl⟩ | ⟨x,t,rfl,rfl⟩
  ·rcases bJ hb with ⟨j,u,rfl,e⟩ | ⟨y,u,rfl,e⟩
   ·injection e with e1 _;rw[e1]
   ·exact nomatch e
  ·rcases bJ hb with ⟨j,u,rfl,e⟩ | ⟨y,u,rfl,e⟩
   ·exact nomatch e
   ·injection e with e1 _;rw[e1]
 byValue:=λk v h=>by
  rcases bJ h with ⟨i,t,rfl,rfl⟩ | ⟨x,t,rfl,rfl⟩ <;> rfl
 pyHash:=λhv h=>by
  rcases bJ hv with ⟨i,t,rfl,rfl⟩ | ⟨x,t,rfl,rfl⟩
  ·exact wpAny_pyHash_int h
  ·exact wpAny_pyHash_str h
 eqBool:=λhu hv h=>by
  rcases bJ hu with ⟨i,t,rfl,rfl⟩ | ⟨x,t,rfl,rfl⟩
  ·rcases bJ hv with ⟨j,u,rfl,rfl⟩ | ⟨y,u,rfl,rfl⟩
   ·rw[BD] at h;exact wpAny_eqBool_int h
   ·rw[BF] at h;exact LY i t y u _ _ _ _ h
  ·rcases bJ hv with ⟨j,u,rfl,rfl⟩ | ⟨y,u,rfl,rfl⟩
   ·rw[BG] at h;exact LZ x t j u _ _ _ _ h
   ·rw[BE] at h;exact wpAny_eqBool_str h
 «strs» := λk x t v h=>by
  rcases bJ h with ⟨i,u,rfl,e⟩ | ⟨y,u,rfl,e⟩
  ·exact nomatch e
  ·injection e with e1 _
   subst e1
   cases v <;> rfl
theorem qA (prog:Eo)(w:ES)(i:Int)(t:Tok):(bH prog w).is (.inl i) (.int i t)=true:=vX i t
theorem qB (prog:Eo)(w:ES)(x:Str)(t:Tok):(bH prog w).is (.inr x) (.str x t)=true:=vY x t
inductive V where
 | non | bl (b:Bool) | int (i:Int) | str (x:Str) | byt (b:Array UInt8) | flt (b:UInt64) | ref (a:Addr) | ty (n:String)
 deriving DecidableEq
def RelV:V->D1->Prop
 | .non,u=>u=GA
 | .bl b,u=>u=Value.bool b
 | .int i,u=>∃t,u=F7 i t
 | .str x,u=>∃t,u=Value.str x t
 | .byt b,u=>∃t,u=Value.bytes b t
 | .flt b,u=>∃t,u=Value.float b t
 | .ref a,u=>u=Eu a
 | .ty n,u=>u=G0 n
abbrev Vals:List V->List D1->Prop:=Paired RelV
theorem Vals.length {xs:List V}{us:List D1}(r:Vals xs us):xs.length=us.length:=G4 r
theorem Vals.get:∀{xs:List V} {us:List D1} {i:Nat} {x:V},Vals xs us->xs[i]? = some x->∃u,us[i]? = some u/\RelV x u
 | _,_,_,_,.nil,e=>by simp at e
 | _,_,0,_,.cons r _,e=>by simp at e;subst e;exact ⟨_,rfl,r⟩
 | _,_,i+1,x,.cons _ t,e=>by
  obtain ⟨u,h1,h2⟩:=Vals.get (i:=i) (x:=x) t (by simpa using e)
  exact ⟨u,by simpa using h1,h2⟩
theorem Vals.set {x:V}{u:D1}(r:RelV x u):∀{xs:List V} {us:List D1} (i:Nat),Vals xs us->Vals (xs.set i x) (us.set i u)
 | _,_,_,.nil =>.nil
 | _,_,0,.cons _ t =>.cons r t
 | _,_,i+1,.cons q t =>.cons q (Vals.set r i t)
theorem Vals.append:∀{xs ys:List V} {us ws:List D1},Vals xs us->Vals ys ws->Vals (xs++ys) (us++ws)
 | _,_,_,_,.nil,s=>s
 | _,_,_,_,.cons r t,s =>.cons r (Vals.append t s)
theorem Vals.take:∀{xs:List V} {us:List D1} (n:Nat),Vals xs us->Vals (xs.take n) (us.take n)
 | _,_,0,_ =>.nil
 | _,_,_+1,.nil =>.nil
 | _,_,n+1,.cons r t =>.cons r (Vals.take n t)
theorem Vals.drop:∀{xs:List V} {us:List D1} (n:Nat),Vals xs us->Vals (xs.drop n) (us.drop n)
 | _,_,0,r=>r
 | _,_,_+1,.nil =>.nil
 | _,_,n+1,.cons _ t=>Vals.drop n t
def nE:Option V->Option D1->Prop
 | some v,some u=>RelV v u
 | none,none=>True
 | _,_=>False
def KV {κ:Type}:List (κ×V)->List (κ×D1)->Prop:=Paired λ(p:κ×V) (q:κ×D1)=>p.1=q.1/\RelV p.2 q.2
def kV:Key->V
 | .inl i =>.int i
 | .inr x =>.str x
inductive HO where
  | lst (xs:List V)
  | tup (xs:List V)
  | dK (kvs:List (Key×V)) | dT (kvs:List (List Key×V))
  | set (S:Int->Bool) (n:Nat)
  | ins (C dx:Addr) (fs:List (Str×V))
  | own (x:Addr)
  | xd (fs:List (Str×V))
  | met (f x:Addr)
  | rng (lo hi:Int)
  | frz (o:Obj) (u:HO)
  | tbl (ps:Array D1)
  | ext (φ:Heap->Prop)
abbrev Hp:=Addr->Option HO
def upd (H:Hp)(a:Addr)(o:HO):Hp:=λb=>if b=a then some o else H b
theorem ae {H:Hp}{a:Addr}{o:HO}:upd H a o a=some o:=by unfold upd;rw[if_pos rfl]
theorem ak {H:Hp}{a b:Addr}{o:HO}(h:b≠a):upd H a o b=H b:=by unfold upd;rw[if_neg h]
theorem cZ {H:Hp}{a b:Addr}{o u:HO}(h:H a=some o)(h':H b=some u)(d:o≠u):a≠b:=by
 intro e;subst e;rw[h] at h';exact d (E1 h')
theorem aq {H:Hp}{a b:Addr}{o:HO}(h:H a=some o)(h':H b=none):a≠b:=by
 intro e;subst e;rw[h] at h';cases h'
def eG (h:Heap)(a:Addr)(items:Array D1):Prop:=∃o,h.get? a=some o/\(o.cls = .type "tuple" /\ o.dict=none)/\∃n,o.data = .seq items n
theorem eG.tup {h:Heap}{a:Addr}{items:Array D1}(x:eG h a items):IsTup h a items:=let ⟨o,e,c,n,d⟩:=x;⟨o,e,c.1,n,d⟩
theorem eG.new (h:Heap)(items:Array D1):eG (h.push { cls :=.type "tuple",data :=.seq items }) h.objs.size items:=⟨_,Ed _ rfl,⟨rfl,rfl⟩,_,rfl⟩
section
variable  (P:Eo)(w:ES)
def aX (H:Hp)(h:Heap)(a:Addr):HO->Prop
 | .lst xs=>xs.length<=Ei/\∃(its:List D1) (n:Nat),Vals xs its/\h.get? a=some { cls :=.type "list",data :=.seq its.toArray n }
 | .tup xs=>xs.length<=Ei/\∃its:List D1,Vals xs its/\eG h a its.toArray
 | .dK kvs=>kvs.length<=Ei/\(a == sysModules)=false/\∃vs,KV kvs vs/\h.DictOf (bH P w) a vs
 | .dT kvs=>kvs.length<=Ei/\(a == sysModules)=false/\∃xs:List (List Key×Addr×D1),
   Paired (λ(p:List Key×V) (q:List Key×Addr×D1)=>p.1=q.1/\H q.2.1=some (.tup (p.1.map kV))/\RelV p.2 q.2.2) kvs xs ∧
   ∃o es ep,h.get? a=some o/\o.ExactDict/\o.data = .dict es ep/\es.toList=xs.map (entryOfKey (tupleKind (bH P w)))/\(xs.map (·.1)).Nodup
 | .set S n=>h.SetOf (intKind P w) a S n
 | .ins C dx fs=>H dx=some (.own a)/\fs.length<=1000/\dx≠a/\h.get? a=some (PySem.W.instObj C dx) ∧
   ∃mA,h.Ns1 dx mA/\(∀f,nE (fs.lookup f) (mA f))/\PySem.Within mA (fs.map (·.1))
 | .own _=>∃o,h.get? a=some o
 | .xd fs=>∃mA,h.Ns1 a mA/\∀f,nE (fs.lookup f) (mA f)
 | .rng lo hi=>∃t u v,h.get? a=some { cls :=.type "range",data :=.fields #[.int lo t,.int hi u,.int 1 v] }
 | .frz o u=>h.get? a=some o/\aX H h a u
 | .tbl ps=>h.get? a=some { cls :=.none,data :=.fields ps }
 | .met f x=>h.get? a=some (PySem.W.methodObj (.ref f) (.ref x))
 | .ext φ=>φ h/\(∃o,h.get? a=some o)/\∀h1 h2:Heap, φ h1->(∀o,h1.get? a=some o->h2.get? a=some o) -> φ h2
def HOk (H:Hp)(h:Heap):Prop:=∀a o,H a=some o->aX P w H h a o
end
section
variable  {P:Eo}{w:ES}{H H':Hp}{h h':Heap}{a:Addr}{o:HO}
theorem aX.lt (x:aX P w H h a o):a<h.objs.size:=by
 cases o with
 | lst xs=>obtain ⟨_,_,_,_,e⟩:=x;exact Ej e
 | tup xs=>obtain ⟨_,_,_,p⟩:=x;exact (eG.tup p).lt
 | dK kvs=>obtain ⟨_,_,_,_,o,_,_,e,_⟩:=x;exact Ej e
 | dT kvs=>obtain ⟨_,_,_,_,o,_,_,e,_⟩:=x;exact Ej e
 | set S n=>obtain ⟨o,_,_,_,e,_⟩:=x;exact Ej e
 | ins C dx fs=>obtain ⟨_,_,_,e,_⟩:=x;exact Ej e
 | own y=>obtain ⟨_,e⟩:=x;exact Ej e
 | xd fs=>obtain ⟨_,⟨_,_,_,e,_⟩,_⟩:=x;exact Ej e
 | rng lo hi=>obtain ⟨_,_,_,e⟩:=x;exact Ej e
 | frz ob u=>obtain ⟨e,_⟩:=x;exact Ej e
 | tbl ps=>exact Ej (show h.get? a=some _ from x)
 | met f y=>exact Ej (show h.get? a=some _ from x)
 | ext φ=>obtain ⟨_,⟨_,e⟩,_⟩:=x;exact Ej e
theorem Paired.BH {α β:Type}{F G:α -> β -> Prop}:∀{l₁:List α} {l₂:List β},Paired F l₁ l₂->(∀a b,F a b->G a b)->Paired G l₁ l₂
 | _,_,.nil,_ =>.nil
 | _,_,.cons r t,f =>.cons (f _ _ r) (Paired.BH t f)
theorem aX.stay (x:aX P w H h a o)(k:∀b u,(b=a\/H b=some (.own a))->h.get? b=some u->h'.get? b=some u)
  (ho:∀b,H b=some (.own a)->H' b=some (.own a)) (ht:∀b xs,H b=some (.tup xs)->H' b=some (.tup xs)):aX P w H' h' a o:=by
 induction o with
 | lst xs=>obtain ⟨z,its,n,r,e⟩:=x;exact ⟨z,its,n,r,k _ _ (.inl rfl) e⟩
 | tup xs=>obtain ⟨z,its,r,ob,e,c⟩:=x;exact ⟨z,its,r,ob,k _ _ (.inl rfl) e,c⟩
 | dK kvs=>obtain ⟨z,y,vs,r,ob,es,ep,e,c⟩:=x;exact ⟨z,y,vs,r,ob,es,ep,k _ _ (.inl rfl) e,c⟩
 | dT kvs =>
  obtain ⟨z,y,xs,r,ob,es,ep,e,c⟩:=x
  exact ⟨z,y,xs,Paired.BH r λp q z=>⟨z.1,ht _ _ z.2.1,z.2.2⟩,ob,es,ep,k _ _ (.inl rfl) e,c⟩
 | set S n=>obtain ⟨ob,es,ep,t,e,c⟩:=x;exact ⟨ob,es,ep,t,k _ _ (.inl rfl) e,c⟩
 | ins C dx fs =>
  obtain ⟨d,z,ne,e,mA,⟨od,es,ep,e2,c⟩,r⟩:=x
  exact ⟨ho _ d,z,ne,k _ _ (.inl rfl) e,mA,⟨od,es,ep,k _ _ (.inr d) e2,c⟩,r⟩
 | own y=>obtain ⟨ob,e⟩:=x;exact ⟨ob,k _ _ (.inl rfl) e⟩
 | xd fs=>obtain ⟨mA,⟨od,es,ep,e,c⟩,r⟩:=x;exact ⟨mA,⟨od,es,ep,k _ _ (.inl rfl) e,c⟩,r⟩
 | rng lo hi=>obtain ⟨t,u,v,e⟩:=x;exact ⟨t,u,v,k _ _ (.inl rfl) e⟩
 | frz ob u ih=>obtain ⟨e,q⟩:=x;exact ⟨k _ _ (.inl rfl) e,ih q⟩
 | tbl ps =>
  have e:h.get? a=some { cls :=.none,data :=.fields ps }:=x
  show h'.get? a=some { cls :=.none,data :=.fields ps }
  exact k a _ (.inl rfl) e
 | met f y =>
  have e:h.get? a=some (PySem.W.methodObj (.ref f) (.ref y)):=x
  show h'.get? a=some (PySem.W.methodObj (.ref f) (.ref y))
  exact k a _ (.inl rfl) e
 | ext φ=>obtain ⟨p,⟨o,e⟩,st⟩:=x;exact ⟨st _ _ p λo q=>k _ _ (.inl rfl) q,⟨o,k _ _ (.inl rfl) e⟩,st⟩
theorem HOk.lt (x:HOk P w H h)(e:H a=some o):a<h.objs.size:=(x a o e).lt
theorem HOk.fresh (x:HOk P w H h)(e:h.objs.size<=a):H a=none:=by
 cases q:H a with
 | none=>rfl
 | some u=>exact absurd (Er (x.lt q) e) (Fu _)
theorem HOk.kept (x:HOk P w H h)(k:∀b u,h.get? b=some u->h'.get? b=some u):HOk P w H h':=λa o e =>
 (x a o e).stay (λb u _ q=>k b u q) (λ_ q=>q) λ_ _ q=>q
theorem HOk.laid (x:HOk P w H h)(k:∀b u,h.get? b=some u->h'.get? b=some u)(hp:h.objs.size<=a)(new:aX P w (upd H a o) h' a o):HOk P w (upd H a o) h':=λb u e=>by
 have hn:=x.fresh hp
 by_cases hb:b=a
 ·subst hb;rw[ae] at e;cases e;exact new
 ·rw[ak hb] at e
  exact (x b u e).stay (λc v _ q=>k c v q) (λc q=>by rw[ak (aq q hn)];exact q) λc xs q=>by rw[ak (aq q hn)];exact q
end
def Rd (H:Hp)(a:Addr)(u:HO):Prop:=H a=some u\/∃o,H a=some (.frz o u)
theorem Rd.ok {P:Eo}{w:ES}{H:Hp}{h:Heap}{a:Addr}{u:HO}(r:Rd H a u)(x:HOk P w H h):aX P w H h a u:=by
 rcases r with r | ⟨o,r⟩
 ·exact x a u r
 ·obtain ⟨_,q⟩:=x a _ r
  exact q
def Mut:Option HO->Prop
 | some (.lst _)=>True
 | some (.dK _)=>True
 | some (.dT _)=>True
 | some (.set _ _)=>True
 | some (.ins _ _ _)=>True
 | some (.ext _)=>True
 | _=>False
section
variable  {P:Eo}{w:ES}{H:Hp}{h h':Heap}{x e:Addr}{o':HO}
theorem HOk.write (ok:HOk P w H h)(mu:Mut (H x))(he:e=x\/H e=some (.own x))(k:∀b u,b≠e->h.get? b=some u->h'.get? b=some u)(heo:∃u,h'.get? e=some u)
  (new:aX P w (upd H x o') h' x o'):HOk P w (upd H x o') h':=λb u q=>by
 have nown:∀c y,H c=some (.own y)->c≠x:=λc y r z=>by subst z;rw[r] at mu;exact mu
 have ntup:∀c xs,H c=some (.tup xs)->c≠x:=λc xs r z=>by subst z;rw[r] at mu;exact mu
 by_cases hb:b=x
 ·subst hb;rw[ae] at q;cases q;exact new
 ·rw[ak hb] at q
  by_cases hbe:b=e
  ·have q':H b=some (.own x):=by
    rcases he with z | z
    ·exact absurd (hbe.trans z) hb
    ·rw[hbe];exact z
   rw[q] at q';cases q'
   obtain ⟨v,hv⟩:=heo
   exact ⟨v,by rw[hbe];exact hv⟩
  ·refine (ok b u q).stay (λc v hc r=>k c v ?_ r) (λc r=>by rw[ak (nown c b r)];exact r) λc xs r=>by rw[ak (ntup c xs r)];exact r
   rcases hc with rfl | hc
   ·exact hbe
   ·rintro rfl
    rcases he with z | z
    ·exact nown c b hc z
    ·rw[hc] at z;cases z;exact hb rfl
end
structure Un (fs ex:List Addr)(H H':Hp)(h h':Heap):Prop where
 keep:∀b o,h.get? b=some o->H b=none->b∉fs->b∉ex->h'.get? b=some o
 slot:∀b o,h.get? b=some o->H b=none->b∈fs->b∉ex->∃sl,h'.get? b=some { o with slots:=sl }
 free:∀b o,h.get? b=some o->H b=none->b∉ex->H' b=none
 there:∀b o,h.get? b=some o->b∉ex->∃o',h'.get? b=some o'
 tups:∀b xs,H b=some (.tup xs)->H' b=some (.tup xs)
 frzs:∀b o u,H b=some (.frz o u)->H' b=some (.frz o u)
 tbls:∀b ps,H b=some (.tbl ps)->∃more,H' b=some (.tbl (ps++more))
section
variable  {fs fs' ex ex':List Addr}{H H1 H2:Hp}{h h1 h2 h':Heap}{a x e:Addr}{o:HO}
theorem Un.any (u:Un fs ex H H1 h h1){b:Addr}{ob:Obj}(q:h.get? b=some ob)(n:H b=none)(hx:b∉ex):∃sl,h1.get? b=some { ob with slots:=sl }:=by
 by_cases hb:b∈fs
 ·exact u.slot b ob q n hb hx
 ·exact ⟨ob.slots,u.keep b ob q n hb hx⟩
theorem Un.kept (k:∀b u,h.get? b=some u->h'.get? b=some u):Un fs ex H H h h' :=
 ⟨λb ob q _ _ _=>k b ob q,λb ob q _ _ _=>⟨ob.slots,k b ob q⟩,λ_ _ _ n _=>n,λb ob q _=>⟨ob,k b ob q⟩,λ_ _ q=>q,λ_ _ _ q=>q,λ_ ps q=>⟨#[],by rw[q];simp⟩⟩
theorem Un.refl:Un fs ex H H h h:=Un.kept λ_ _ q=>q
theorem Un.laid (k:∀b u,h.get? b=some u->h'.get? b=some u)(hp:h.objs.size<=a)(hn:H a=none):Un fs ex H (upd H a o) h h' where
 keep:=λb u q _ _ _=>k b u q
 slot:=λb u q _ _ _=>⟨u.slots,k b u q⟩
 free:=λb u q n _=>by rw[ak (Ey (Er (Ej q) hp))];exact n
 there:=λb u q _=>⟨u,k b u q⟩
 tups:=λb xs q=>by rw[ak (aq q hn)];exact q
 frzs:=λb u xs q=>by rw[ak (aq q hn)];exact q
 tbls:=λb ps q=>⟨#[],by rw[ak (aq q hn),q];simp⟩
theorem Un.write (mu:Mut (H x))(he:e=x\/H e=some (.own x))(k:∀b u,b≠e->h.get? b=some u->h'.get? b=some u)(heo:∃u,h'.get? e=some u):Un fs ex H (upd H x o) h h':=by
 have hx:∀b,H b=none->b≠x:=λb n z=>by subst z;rw[n] at mu;exact mu
 have hb:∀b,H b=none->b≠e:=λb n z=>by
  subst z
  rcases he with r | r
  ·exact hx b n r
  ·rw[n] at r;cases r
 have hm:∀b u,H b=some u->¬ Mut (some u)->b≠x:=λb u q nm z=>by subst z;rw[q] at mu;exact nm mu
 refine ⟨λb u q n _ _=>k b u (hb b n) q,λb u q n _ _=>⟨u.slots,k b u (hb b n) q⟩,λb u q n _=>by rw[ak (hx b n)];exact n,λb u q _ =>?_,
  λb xs q=>by rw[ak (hm b _ q λz=>z)];exact q,λb u xs q=>by rw[ak (hm b _ q λz=>z)];exact q,λb ps q=>⟨#[],by rw[ak (hm b _ q λz=>z),q];simp⟩⟩
 by_cases hbe:b=e
 ·subst hbe;exact heo
 ·exact ⟨u,k b u hbe q⟩
end
def trk (h:Heap)(H:Hp):List Addr:=(E2 h.objs.size).filter λa=>(H a).isSome
def pK (h:Heap)(H:Hp):Heap:=PySem.W.hideAll h (trk h H)
theorem vZ (h:Heap)(H:Hp):(pK h H).objs.size=h.objs.size:=PySem.W.hideAll_size _ _
theorem xD {h:Heap}{H:Hp}{b:Addr}{o:Obj}(e:h.get? b=some o)(n:H b=none):(pK h H).get? b=some o :=
 PySem.W.hideAll_get _ e λhm=>by
  have q:(H b).isSome=true:=(Ft.mp hm).2
  rw[n] at q;simp at q
theorem zP {h:Heap}{H:Hp}{b:Addr}{o:Obj}(e:(pK h H).get? b=some o):h.get? b=some o/\H b=none:=by
 have e':h.get? b=some o:=PySem.W.of_hideAll (trk h H) e
 refine ⟨e',?_⟩
 cases q:H b with
 | none=>rfl
 | some x =>
  have hm:b∈trk h H:=Ft.mpr ⟨Fv.mpr (Ej e'),by simp[q]⟩
  have z:(pK h H).get? b=none:=PySem.W.hideAll_none (trk h H) hm
  rw[z] at e;cases e
def zQ (g h:Heap)(L:Addr):List (Addr×Obj):=(E2 h.objs.size).filterMap λa=>if a=L\/(g.get? a).isSome=true then none else (h.get? a).map λo=>(a,o)
def rest (g h:Heap)(L d:Addr):List (Addr×Obj):=(zQ g h L).filter λp=>decide (p.1≠d)
structure Mod (K:D2)(mg:Str->Option D1)(base:Heap):Prop where
 kin:K.In base
 glob:base.Ns EJ mg
 blt:∃mb,base.Ns builtinsNs mb/\∀x:Str,x ≠ "__name__" -> mb x=Fx x
 nolimit:base.NoLimit
structure Cx where
 prog:Eo
 w:ES
 K:D2
 mg:Str->Option D1
 base:Heap
 A:Fi
 N:List Str
 s₀:D5
 H₀:Hp
 env:Env
 outer:List Env
 stack:List Env
 ex:List Addr
 fn:Str->Bool
 calm:Bool
 pn:List (Addr×Obj)
 xe:D1->D5->Prop
def frs (l:List Env):List Addr:=l.filterMap (·.frame)
abbrev Cx.fs (X:Cx):List Addr:=frs X.outer
def Vis (sc:Scope)(x:Str):Prop:=sc.names.lookup x=some .local\/sc.names.lookup x=some .cell\/sc.names.lookup x=some .free
def Loc (sc:Scope)(x:Str):Prop:=sc.names.lookup x=some .local\/sc.names.lookup x=some .cell
def Look (env:Env)(h:Heap)(m:Str->Option D1)(x:Str)(u:D1):Prop :=
 (env.kindOf x=some .local/\m x=some u)\/((env.kindOf x=some .cell\/env.kindOf x=some .free)/\∃c,env.cells.lookup x=some c/\h.IsCell c (some u))
structure Cx.Ok (X:Cx):Prop where
 mod:Mod X.K X.mg X.base
 kind:X.env.scope.kind = .function
 glob:X.env.globals=EJ
 blt:X.env.builtins=builtinsNs
 above:X.s₀.heap.objs.size<=X.env.locals
 inj:∀x y c,X.env.cells.lookup x=some c->X.env.cells.lookup y=some c->x=y
 has:∀x,(X.env.kindOf x=some .cell\/X.env.kindOf x=some .free)->∃c,X.env.cells.lookup x=some c
 cab:∀x c,X.fn x=true->X.env.cells.lookup x=some c->X.s₀.heap.objs.size<=c
 hd:X.calm=true->X.A.handled=none
 frames:X.A.frames=some X.stack
 stk:X.stack=X.outer\/(X.stack=X.env :: X.outer/\X.env.frame=some X.env.locals)
 exf:∀b∈X.ex,b≠X.env.locals/\∀x c,X.env.cells.lookup x=some c->c≠b
 bs:∀b o,X.base.get? b=some o->X.s₀.heap.get? b=some o/\X.H₀ b=none
 bsz:X.base.objs.size<=X.s₀.heap.objs.size
 noex:∀b o,X.base.get? b=some o->b∉X.ex
 exfs:∀b∈X.ex,b∉X.fs
 funs:X.s₀.heap.FunFrames X.base X.outer
 frf:∀b∈X.fs,X.H₀ b=none
structure Inv (X:Cx)(pins:List (Addr×Obj))(σ:List (Option V))(H:Hp)(s:D5):Prop where
 ok:X.Ok
 os:s.os=X.s₀.os
 bare:AllBare s.gens
 base:Un X.fs X.ex X.H₀ H X.s₀.heap s.heap
 loc:∃m,s.heap.Ns X.env.locals m/\∀(i:Nat) (x:Str) (v:V),X.N[i]? = some x->σ[i]? = some (some v)->Vis X.env.scope x->∃u,RelV v u/\Look X.env s.heap m x u
 cell:∀x c,X.env.cells.lookup x=some c->∃v,s.heap.IsCell c v
 free:H X.env.locals=none
 freeC:∀x c,X.env.cells.lookup x=some c->H c=none
 pin:∀p∈X.pn++pins,s.heap.get? p.1=some p.2/\H p.1=none/\p.1≠X.env.locals/\p.1∉X.fs/\∀v,p.2.data ≠ .cell v
 hok:HOk X.prog X.w H s.heap
 len:σ.length=X.N.length
section
variable  {X:Cx}{pins:List (Addr×Obj)}{σ:List (Option V)}{H H':Hp}{s:D5}{h':Heap}
theorem Cx.Ok.nofr (ok:X.Ok){b:Addr}{o:Obj}(e:X.base.get? b=some o):b∉X.fs:=λhb=>by
 have:=(ok.funs.mem hb).1
 rw[e] at this;cases this
theorem Inv.bs (I:Inv X pins σ H s):∀b o,X.base.get? b=some o->s.heap.get? b=some o/\H b=none:=λb o e =>
 ⟨I.base.keep b o (I.ok.bs b o e).1 (I.ok.bs b o e).2 (I.ok.nofr e) (I.ok.noex b o e),I.base.free b o (I.ok.bs b o e).1 (I.ok.bs b o e).2 (I.ok.noex b o e)⟩
theorem Inv.bk (I:Inv X pins σ H s):∀b o,X.base.get? b=some o->s.heap.get? b=some o:=λb o e=>(I.bs b o e).1
theorem Inv.mod (I:Inv X pins σ H s):Mod X.K X.mg X.base:=I.ok.mod
theorem Inv.kIn (I:Inv X pins σ H s):X.K.In s.heap:=I.ok.mod.kin.keeps I.bk
theorem Inv.lt (I:Inv X pins σ H s):X.env.locals<s.heap.objs.size:=let ⟨_,hn,_⟩:=I.loc;hn.lt
theorem Inv.sz (I:Inv X pins σ H s):X.s₀.heap.objs.size<=s.heap.objs.size:=ET I.ok.above (HU I.lt)
theorem Inv.BI (I:Inv X pins σ H s){a:Addr}(h:s.heap.objs.size<=a):a∉X.fs:=λhb=>by
 obtain ⟨_,o,ho,_⟩:=I.ok.funs.mem hb
 exact absurd (Er (Ej ho) (ET I.sz h)) (Fu _)
theorem Inv.cne (I:Inv X pins σ H s):∀x c,X.env.cells.lookup x=some c->c≠X.env.locals:=λx c e z=>by
 obtain ⟨v,o,ho,hd⟩:=I.cell x c e
 obtain ⟨m,⟨o',es,ep,ho',hd',_⟩,_⟩:=I.loc
 rw[z,ho'] at ho;cases ho;rw[hd'] at hd;cases hd
theorem Inv.funs (I:Inv X pins σ H s):s.heap.FunFrames X.base X.outer:=by
 have all:∀(l:List Env),(∀b∈frs l,b∈X.fs)->X.s₀.heap.FunFrames X.base l->s.heap.FunFrames X.base l:=by
  intro l
  induction l with
  | nil=>intro _ _;trivial
  | cons env r ih =>
   intro hs hl
   obtain ⟨hk,⟨L,o,hf,hn,ho,hd⟩,hr⟩:=hl
   have hL:L∈X.fs:=hs L (by unfold frs;rw[GL,hf];exact D8)
   obtain ⟨sl,e⟩:=I.base.slot L o ho (I.ok.frf L hL) hL λz=>I.ok.exfs L z hL
   exact ⟨hk,⟨L,_,hf,hn,e,hd⟩,ih (λb hb=>hs b (by unfold frs;rw[GL,hf];exact Eg _ hb)) hr⟩
 exact all X.outer (λ_ hb=>hb) I.ok.funs
theorem Inv.stack (I:Inv X pins σ H s):s.heap.FunFrames X.base X.stack:=by
 rcases I.ok.stk with e | ⟨e,hf⟩
 ·rw[e];exact I.funs
 ·rw[e]
  obtain ⟨m,hn,_⟩:=I.loc
  refine .cons (by rw[I.ok.kind];decide) hf hn ?_ I.funs
  exact Heap.get?_none_of_le (ET I.ok.bsz I.ok.above)
theorem Inv.pL (I:Inv X pins σ H s):∀b∈frs X.stack,b∈X.env.locals :: X.fs:=λb hb=>by
 rcases I.ok.stk with e | ⟨e,hf⟩
 ·rw[e] at hb;exact Eg _ hb
 ·rw[e] at hb
  unfold frs at hb
  rw[GL,hf] at hb
  exact hb
theorem Inv.pM (I:Inv X pins σ H s):∀b∈frs X.stack,H b=none:=λb hb=>by
 rcases EB.mp (I.pL b hb) with e | hb
 ·rw[e];exact I.free
 ·obtain ⟨_,o,ho,_⟩:=I.ok.funs.mem hb
  exact I.base.free b o ho (I.ok.frf b hb) λz=>I.ok.exfs b z hb
theorem Inv.step {g':Array GenState}{t':Nat}{d':Drawn}{ch:List Addr}(I:Inv X pins σ H s)
  (hch:∀b∈ch,(b∈X.ex\/X.s₀.heap.objs.size<=b)/\b≠X.env.locals/\(∀x c,X.env.cells.lookup x=some c->c≠b)/\∀p∈X.pn++pins,p.1≠b)
  (keep:∀b o,b≠X.env.locals->b∉X.fs->b∉ch->s.heap.get? b=some o->H b=none->h'.get? b=some o)
  (slot:∀b o,b≠X.env.locals->b∈X.fs->b∉ch->s.heap.get? b=some o->H b=none->∃sl,h'.get? b=some { o with slots:=sl }) (free:∀b o,b∉ch->s.heap.get? b=some o->H b=none->H' b=none)
  (there:∀b o,b∉ch->s.heap.get? b=some o->∃o',h'.get? b=some o')
  (tups:∀b xs,H b=some (.tup xs)->H' b=some (.tup xs)) (frzs:∀b o u,H b=some (.frz o u)->H' b=some (.frz o u)) (tbls:∀b ps,H b=some (.tbl ps)->∃more,H' b=some (.tbl (ps++more)))
  (ns:∀m,s.heap.Ns X.env.locals m->h'.Ns X.env.locals m) (hok:HOk X.prog X.w H' h') (hg:AllBare g') :
  Inv X pins σ H' { s with heap:=h',gens:=g',drawn:=d',toks:=t' }:=by
 have neL:∀b o,X.s₀.heap.get? b=some o->b≠X.env.locals:=λb o e=>Ey (Er (Ej e) I.ok.above)
 have neC:∀b o,X.s₀.heap.get? b=some o->b∉X.ex->b∉ch:=λb o e hx hb=>by
  rcases (hch b hb).1 with z | z
  ·exact hx z
  ·exact absurd (Er (Ej e) z) (Fu _)
 have cellK:∀x c,X.env.cells.lookup x=some c->∀v,s.heap.IsCell c v->h'.IsCell c v:=λx c e v ⟨o,ho,hd⟩=>by
  have nch:c∉ch:=λz=>(hch c z).2.2.1 x c e rfl
  by_cases hc:c∈X.fs
  ·obtain ⟨sl,q⟩:=slot c o (I.cne x c e) hc nch ho (I.freeC x c e)
   exact ⟨_,q,hd⟩
  ·exact ⟨o,keep c o (I.cne x c e) hc nch ho (I.freeC x c e),hd⟩
 refine ⟨I.ok,I.os,hg,⟨λb o e n hb hx =>?_,λb o e n hb hx =>?_,λb o e n hx =>?_,λb o e hx =>?_,λb xs e=>tups b xs (I.base.tups b xs e),λb o xs e=>frzs b o xs (I.base.frzs b o xs e),λb ps e =>?_⟩,?_,λx c e =>?_,?_,λx c e =>?_,λp hp =>?_,hok,I.len⟩
 ·exact keep b o (neL b o e) hb (neC b o e hx) (I.base.keep b o e n hb hx) (I.base.free b o e n hx)
 ·obtain ⟨sl,e1⟩:=I.base.slot b o e n hb hx
  obtain ⟨sl',e2⟩:=slot b _ (neL b o e) hb (neC b o e hx) e1 (I.base.free b o e n hx)
  exact ⟨sl',e2⟩
 ·obtain ⟨o',e1⟩:=I.base.there b o e hx
  exact free b o' (neC b o e hx) e1 (I.base.free b o e n hx)
 ·obtain ⟨o',e1⟩:=I.base.there b o e hx
  exact there b o' (neC b o e hx) e1
 ·obtain ⟨m1,e1⟩:=I.base.tbls b ps e
  obtain ⟨m2,e2⟩:=tbls b _ e1
  exact ⟨m1++m2,by rw[e2,L0]⟩
 ·obtain ⟨m,hn,hl⟩:=I.loc
  refine ⟨m,ns m hn,λi x v e1 e2 e3 =>?_⟩
  obtain ⟨u,r,l⟩:=hl i x v e1 e2 e3
  refine ⟨u,r,?_⟩
  rcases l with l | ⟨k,c,e,z⟩
  ·exact .inl l
  ·exact .inr ⟨k,c,e,cellK x c e _ z⟩
 ·obtain ⟨v,z⟩:=I.cell x c e
  exact ⟨v,cellK x c e v z⟩
 ·obtain ⟨m,⟨o,_,_,ho,_⟩,_⟩:=I.loc
  exact free _ o (λz=>(hch _ z).2.1 rfl) ho I.free
 ·obtain ⟨v,o,ho,hd⟩:=I.cell x c e
  exact free c o (λz=>(hch c z).2.2.1 x c e rfl) ho (I.freeC x c e)
 ·obtain ⟨e,n,ne,nf,d⟩:=I.pin p hp
  have nch:p.1∉ch:=λz=>(hch p.1 z).2.2.2 p hp rfl
  exact ⟨keep p.1 p.2 ne nf nch e n,free p.1 p.2 nch e n,ne,nf,d⟩
theorem Inv.un {t':Nat}(I:Inv X pins σ H s)(u:Un X.fs [] H H' s.heap h')(hok:HOk X.prog X.w H' h'):Inv X pins σ H' { s with heap:=h',toks:=t' }:=by
 obtain ⟨m,⟨o,es,ep,ho,r⟩,_⟩:=id I.loc
 obtain ⟨sl,hL⟩:=u.any ho I.free (by simp)
 exact I.step (g':=s.gens) (d':=s.drawn) (ch:=[]) (λ_ z=>nomatch z) (λb o _ hb _ e n=>u.keep b o e n hb (by simp)) (λb o _ hb _ e n=>u.slot b o e n hb (by simp)) (λb o _ e n=>u.free b o e n (by simp)) (λb o _ e=>u.there b o e (by simp)) u.tups u.frzs u.tbls (λm' hm=>by
  obtain ⟨o',es',ep',ho',r'⟩:=hm
  rw[ho] at ho';cases ho'
  exact ⟨_,es',ep',hL,r'⟩) hok I.bare
theorem Inv.call {g':Array GenState}{t':Nat}{d':Drawn}{ch:List Addr}(I:Inv X pins σ H s)(u:Un (frs X.stack) ch H H' s.heap h')(hok:HOk X.prog X.w H' h')(hg:AllBare g')
  (hch:∀b∈ch,(b∈X.ex\/X.s₀.heap.objs.size<=b)/\b≠X.env.locals/\(∀x c,X.env.cells.lookup x=some c->c≠b)/\∀p∈X.pn++pins,p.1≠b) :
  Inv X pins σ H' { s with heap:=h',gens:=g',drawn:=d',toks:=t' }:=by
 obtain ⟨m,⟨o,es,ep,ho,r⟩,_⟩:=id I.loc
 obtain ⟨sl,hL⟩:=u.any ho I.free λz=>(hch _ z).2.1 rfl
 exact I.step (ch:=ch) hch (λb o hL hb hc e n=>u.keep b o e n (λz=>(EB.mp (I.pL b z)).elim hL hb) hc) (λb o _ _ hc e n=>u.any e n hc) (λb o hc e n=>u.free b o e n hc) (λb o hc e=>u.there b o e hc) u.tups u.frzs u.tbls (λm' hm=>by
  obtain ⟨o',es',ep',ho',r'⟩:=hm
  rw[ho] at ho';cases ho'
  exact ⟨_,es',ep',hL,r'⟩) hok hg
theorem Inv.turned {t':Nat}{it:Addr}(I:Inv X pins σ H s)(k:∀b o,b≠it->s.heap.get? b=some o->h'.get? b=some o)(hn:H it=none)(hL:it≠X.env.locals)
  (h1:it∈X.ex\/X.s₀.heap.objs.size<=it) (h2:∀x c,X.env.cells.lookup x=some c->c≠it) (h3:∀p∈X.pn++pins,p.1≠it):Inv X pins σ H { s with heap:=h',toks:=t' }:=by
 have nit:∀b u,H b=some u->b≠it:=λb u e z=>by rw[z,hn] at e;cases e
 refine I.step (g':=s.gens) (d':=s.drawn) (ch:=[it]) (λb hb =>?_) (λb o _ _ hc e _=>k b o (λz=>hc (by simp[z])) e) (λb o _ _ hc e _=>⟨o.slots,k b o (λz=>hc (by simp[z])) e⟩) (λ_ _ _ _ n=>n)
  (λb o hc e=>⟨o,k b o (λz=>hc (by simp[z])) e⟩) (λ_ _ e=>e) (λ_ _ _ e=>e) (λb ps e=>⟨#[],by rw[e];simp⟩) (λm hm =>?_) (λb u e =>?_) I.bare
 ·have e:b=it:=by simpa using hb
  subst e
  exact ⟨h1,hL,h2,h3⟩
 ·obtain ⟨o,es,ep,ho,r⟩:=hm
  exact ⟨o,es,ep,k _ o (F8 hL) ho,r⟩
 ·refine (I.hok b u e).stay (λc v hc q=>k c v ?_ q) (λ_ q=>q) λ_ _ q=>q
  rcases hc with z | z
  ·rw[z];exact nit b u e
  ·exact nit c _ z
theorem Inv.tok (I:Inv X pins σ H s)(t:Nat):Inv X pins σ H { s with toks:=t }:=I.un (h':=s.heap) (t':=t) Un.refl I.hok
theorem Inv.kept {t':Nat}(I:Inv X pins σ H s)(k:∀b u,s.heap.get? b=some u->h'.get? b=some u):Inv X pins σ H { s with heap:=h',toks:=t' }:=I.un (Un.kept k) (I.hok.kept k)
theorem Inv.laid {a:Addr}{o:HO}{t':Nat}(I:Inv X pins σ H s)(k:∀b u,s.heap.get? b=some u->h'.get? b=some u)(hp:s.heap.objs.size<=a)(new:aX X.prog X.w (upd H a o) h' a o) :
  Inv X pins σ (upd H a o) { s with heap:=h',toks:=t' }:=I.un (Un.laid k hp (I.hok.fresh hp)) (I.hok.laid k hp new)
theorem Inv.write {x e:Addr}{o:HO}{t':Nat}(I:Inv X pins σ H s)(mu:Mut (H x))(he:e=x\/H e=some (.own x))(k:∀b u,b≠e->s.heap.get? b=some u->h'.get? b=some u)(heo:∃u,h'.get? e=some u)
  (new:aX X.prog X.w (upd H x o) h' x o):Inv X pins σ (upd H x o) { s with heap:=h',toks:=t' }:=I.un (Un.write mu he k heo) (I.hok.write mu he k heo new)
theorem Inv.i5 {pins':List (Addr×Obj)}(I:Inv X pins σ H s)(h:∀p∈pins',s.heap.get? p.1=some p.2/\H p.1=none/\p.1≠X.env.locals/\p.1∉X.fs/\∀v,p.2.data ≠ .cell v):Inv X pins' σ H s :=
 ⟨I.ok,I.os,I.bare,I.base,I.loc,I.cell,I.free,I.freeC,λp hp=>(Eh.mp hp).elim (λz=>I.pin p (E9 _ z)) (h p),I.hok,I.len⟩
theorem lI {N:List Str}(hN:N.Nodup){i j:Nat}{x:Str}(a:N[i]? = some x)(b:N[j]? = some x):i=j:=by
 obtain ⟨h1,e1⟩:=Ea.mp a
 obtain ⟨h2,e2⟩:=Ea.mp b
 exact (List.getElem_inj hN).mp (e1.trans e2.symm)
theorem v3 {M:Model}{A:Fi}{E:D1->D5->Prop}{i:Nat}{x:Str}{v:V}{u:D1}{Q:Unit->D5->Prop}(I:Inv X pins σ H s)(hN:X.N.Nodup)(hi:X.N[i]? = some x)(hx:Loc X.env.scope x)(r:RelV v u)
  (h:∀s',Inv X pins (σ.set i (some v)) H s'->(∃a,Heap.SameBut a s.heap s'.heap/\(a=X.env.locals\/X.env.cells.lookup x=some a))->Q () s') (hf:X.fn x=true\/X.env.scope.names.lookup x=some .local:=by first | exact .inl rfl | exact .inr rfl | assumption):Es M A (storeName X.env x u) Q E s:=by
 obtain ⟨m,hn,hl⟩:=id I.loc
 have hcls:(X.env.scope.kind == .class || (X.env.scope.kind == .module && X.env.locals != X.env.globals))=false:=by rw[I.ok.kind];rfl
 have hiσ:i<σ.length:=by rw[I.len];exact (Ea.mp hi).1
 have cne:=I.cne
 have tracked:∀{a:Addr} {h':Heap},(∃o,s.heap.get? a=some o/\H a=none)->Heap.SameBut a s.heap h'->HOk X.prog X.w H h':=λ{a h'} ha hs b ob e=>by
  obtain ⟨_,_,hfree⟩:=ha
  refine (I.hok b ob e).stay (λc w' hc q=>(hs.2 c ?_).trans q) (λ_ q=>q) λ_ _ q=>q
  rintro rfl
  rcases hc with rfl | hc
  ·rw[hfree] at e;cases e
  ·rw[hfree] at hc;cases hc
 rcases hx with hk | hk
 ·refine wpAny_storeName_local hk hn (λh' hn' hs =>?_) hcls
  obtain ⟨oL,_,_,hoL,_⟩:=id hn
  refine h _ ⟨I.ok,I.os,I.bare,⟨λb o e n hb hx =>?_,λb o e n hb hx =>?_,I.base.free,λb o e hx =>?_,I.base.tups,I.base.frzs,I.base.tbls⟩,⟨_,hn',λj y v' e1 e2 e3 =>?_⟩,λy c e =>?_,I.free,I.freeC,λp hp =>?_,tracked ⟨oL,hoL,I.free⟩ hs,by simpa using I.len⟩ ⟨_,hs,.inl rfl⟩
  ·exact (hs.2 b (Ey (Er (Ej e) I.ok.above))).trans (I.base.keep b o e n hb hx)
  ·obtain ⟨sl,e1⟩:=I.base.slot b o e n hb hx
   exact ⟨sl,(hs.2 b (Ey (Er (Ej e) I.ok.above))).trans e1⟩
  ·obtain ⟨o',e1⟩:=I.base.there b o e hx
   exact ⟨o',(hs.2 b (Ey (Er (Ej e) I.ok.above))).trans e1⟩
  ·by_cases hj:j=i
   ·subst hj
    rw[hi] at e1;cases e1
    rw[F1 hiσ] at e2
    cases e2
    exact ⟨u,r,.inl ⟨hk,by simp⟩⟩
   ·rw[Gk (F8 hj)] at e2
    obtain ⟨u',r',q⟩:=hl j y v' e1 e2 e3
    refine ⟨u',r',?_⟩
    rcases q with ⟨k,e⟩ | ⟨k,c,e,z⟩
    ·refine .inl ⟨k,?_⟩
     have:y≠x:=λe=>hj (lI hN e1 (e ▸ hi))
     simp[this,e]
    ·exact .inr ⟨k,c,e,z.sameBut hs (cne y c e)⟩
  ·obtain ⟨w',z⟩:=I.cell y c e
   exact ⟨w',z.sameBut hs (cne y c e)⟩
  ·obtain ⟨e,n,ne,nf,d⟩:=I.pin p hp
   exact ⟨(hs.2 p.1 ne).trans e,n,ne,nf,d⟩
 ·have hfn:X.fn x=true:=by
   rcases hf with z | z
   ·exact z
   ·rw[z] at hk;cases hk
  obtain ⟨c,hc⟩:=I.ok.has x (.inl hk)
  obtain ⟨w',z⟩:=I.cell x c hc
  refine wpAny_storeName_cell I.ok.kind hk hc z (λh' hc' hs =>?_)
  obtain ⟨oc,hoc,hocd⟩:=id z
  refine h { s with heap:=h' } ⟨I.ok,I.os,I.bare,⟨λb o e n hb hx =>?_,λb o e n hb hx =>?_,I.base.free,λb o e hx =>?_,I.base.tups,I.base.frzs,I.base.tbls⟩,⟨m,hn.sameBut hs (F8 (cne x c hc)),λj y v' e1 e2 e3 =>?_⟩,λy c' e =>?_,I.free,I.freeC,λp hp =>?_,tracked ⟨oc,hoc,I.freeC x c hc⟩ hs,by simpa using I.len⟩ ⟨c,hs,.inr hc⟩
  ·exact (hs.2 b (Ey (Er (Ej e) (I.ok.cab x c hfn hc)))).trans (I.base.keep b o e n hb hx)
  ·obtain ⟨sl,e1⟩:=I.base.slot b o e n hb hx
   exact ⟨sl,(hs.2 b (Ey (Er (Ej e) (I.ok.cab x c hfn hc)))).trans e1⟩
  ·obtain ⟨o',e1⟩:=I.base.there b o e hx
   exact ⟨o',(hs.2 b (Ey (Er (Ej e) (I.ok.cab x c hfn hc)))).trans e1⟩
  ·by_cases hj:j=i
   ·subst hj
    rw[hi] at e1;cases e1
    rw[F1 hiσ] at e2
    cases e2
    exact ⟨u,r,.inr ⟨.inl hk,c,hc,hc'⟩⟩
   ·rw[Gk (F8 hj)] at e2
    obtain ⟨u',r',q⟩:=hl j y v' e1 e2 e3
    refine ⟨u',r',?_⟩
    rcases q with q | ⟨k,c',e,z'⟩
    ·exact .inl q
    ·refine .inr ⟨k,c',e,z'.sameBut hs ?_⟩
     rintro rfl
     exact hj (lI hN e1 (I.ok.inj _ _ _ e hc ▸ hi))
  ·by_cases hcc:c'=c
   ·subst hcc;exact ⟨_,hc'⟩
   ·obtain ⟨w2,z2⟩:=I.cell y c' e
    exact ⟨w2,z2.sameBut hs hcc⟩
  ·obtain ⟨e,n,ne,nf,d⟩:=I.pin p hp
   refine ⟨(hs.2 p.1 ?_).trans e,n,ne,nf,d⟩
   intro q
   rw[q,hoc] at e
   have q':oc=p.2:=E1 e
   exact d w' (by rw[<- q'];exact hocd)
theorem i6 {M:Model}{A:Fi}{E:D1->D5->Prop}{i:Nat}{x:Str}{v:V}{u:D1}{Q:Unit->D5->Prop}(I:Inv X pins σ H s)(hN:X.N.Nodup)(hi:X.N[i]? = some x)(hx:Loc X.env.scope x)(r:RelV v u)
  (h:∀s',Inv X pins (σ.set i (some v)) H s'->Q () s') (hf:X.fn x=true\/X.env.scope.names.lookup x=some .local:=by first | exact .inl rfl | exact .inr rfl | assumption):Es M A (storeName X.env x u) Q E s :=
 v3 I hN hi hx r (λs' I' _=>h s' I') hf
theorem Inv.Bm {s':D5}{ch:List Addr}(I:Inv X pins σ H s)(ho:s'.os=s.os)(u:Un (frs X.stack) ch H H' s.heap s'.heap)(hok:HOk X.prog X.w H' s'.heap)(hg:AllBare s'.gens)
  (hch:∀b∈ch,(b∈X.ex\/X.s₀.heap.objs.size<=b)/\b≠X.env.locals/\(∀x c,X.env.cells.lookup x=some c->c≠b)/\∀p∈X.pn++pins,p.1≠b):Inv X pins σ H' s':=by
 obtain ⟨h',g',d',t',o'⟩:=s'
 have e:o'=s.os:=ho
 subst e
 exact I.call (g':=g') (t':=t') (d':=d') u hok hg hch
end
abbrev XK:=D1->Option Addr->Hp->Prop
abbrev St:=List (Option V)
abbrev VK:=V->Hp->Prop
abbrev TE:=St->Hp->VK->Prop
abbrev TT:=St->Hp->(Bool->Hp->Prop)->Prop
abbrev TA:=St->Hp->(List V->Hp->Prop)->Prop
structure Ends where
 nx:St->Hp->Prop
 rt:VK
 bk:St->Hp->Prop:=λ_ _=>False
 ct:St->Hp->Prop:=λ_ _=>False
abbrev TS:=Ends->St->Hp->Prop
def EP (X:Cx)(pins:List (Addr×Obj))(σ:St)(Q:VK)(u:D1)(s':D5):Prop:=∃v H',Inv X pins σ H' s'/\RelV v u/\Q v H'
def TP (X:Cx)(pins:List (Addr×Obj))(σ:St)(Q:Bool->Hp->Prop)(b:Bool)(s':D5):Prop:=∃H',Inv X pins σ H' s'/\Q b H'
def AP (X:Cx)(pins:List (Addr×Obj))(σ:St)(Q:List V->Hp->Prop)(us:List D1)(s':D5):Prop:=∃vs H',Inv X pins σ H' s'/\Vals vs us/\Q vs H'
def SP (X:Cx)(pins:List (Addr×Obj))(D:Ends)(f:Flow)(s':D5):Prop :=
 match f with
 | .next=>∃σ' H',Inv X pins σ' H' s'/\D.nx σ' H'
 | .brk=>∃σ' H',Inv X pins σ' H' s'/\D.bk σ' H'
 | .cont=>∃σ' H',Inv X pins σ' H' s'/\D.ct σ' H'
 | .ret u=>∃v σ' H',Inv X pins σ' H' s'/\RelV v u/\D.rt v H'
def PE (X:Cx)(e:Expr)(t:TE):Prop :=
 ∀(pins:List (Addr×Obj)) (s:D5) (σ:St) (H:Hp) (Q:VK),Inv X pins σ H s->t σ H Q->Es (EF X.prog X.w) X.A (eval e X.env) (EP X pins σ Q) X.xe s
def PT (X:Cx)(e:Expr)(t:TT):Prop :=
 ∀(pins:List (Addr×Obj)) (s:D5) (σ:St) (H:Hp) (Q:Bool->Hp->Prop),Inv X pins σ H s->t σ H Q->Es (EF X.prog X.w) X.A (isTrue e X.env (eval e X.env)) (TP X pins σ Q) X.xe s
def PW (X:Cx)(e:Expr)(t:TT):Prop :=
 ∀(whole:Sem D1) (pins:List (Addr×Obj)) (s:D5) (σ:St) (H:Hp) (Q:Bool->Hp->Prop),Inv X pins σ H s->t σ H Q->Es (EF X.prog X.w) X.A (isTrue e X.env whole) (TP X pins σ Q) X.xe s
theorem PW.pt {X:Cx}{e:Expr}{t:TT}(h:PW X e t):PT X e t:=h _
def PA (X:Cx)(es:List Expr)(t:TA):Prop :=
 ∀(pos:Pos) (pins:List (Addr×Obj)) (s:D5) (σ:St) (H:Hp) (Q:List V->Hp->Prop),Inv X pins σ H s->t σ H Q->Es (EF X.prog X.w) X.A (spliced (Ig pos (E5 es X.env))) (AP X pins σ Q) X.xe s
def PS (X:Cx)(st:Stmt)(t:TS):Prop :=
 ∀(pins:List (Addr×Obj)) (s:D5) (σ:St) (H:Hp) (D:Ends),Inv X pins σ H s->t D σ H->Es (EF X.prog X.w) X.A (exec st X.env) (SP X pins D) X.xe s
def PSs (X:Cx)(st:List Stmt)(t:TS):Prop :=
 ∀(pins:List (Addr×Obj)) (s:D5) (σ:St) (H:Hp) (D:Ends),Inv X pins σ H s->t D σ H->Es (EF X.prog X.w) X.A (execs st X.env) (SP X pins D) X.xe s
theorem thn {α:Type}{t:Sem α}{Q Q':α -> D5->Prop}{M:Model}{A:Fi}{E:D1->D5->Prop}{s:D5}(h:Es M A t Q E s)(hQ:∀a s,Q a s->Q' a s):Es M A t Q' E s:=Gp h hQ λ_ _ x=>x
section
variable  {X:Cx}
theorem bin {a b:Expr}{ta tb:TE}(ha:PE X a ta)(hb:PE X b tb){pins:List (Addr×Obj)}{s:D5}{σ:St}{H:Hp}{R:V->V->Hp->Prop}(I:Inv X pins σ H s)(h:ta σ H λx H1=>tb σ H1 λy H2=>R x y H2)
  {α:Type} {Q:α -> D5->Prop} {f:D1->D1->Sem α}
  (hf:∀v u s2 x y H2,Inv X pins σ H2 s2->RelV x v->RelV y u->R x y H2->Es (EF X.prog X.w) X.A (f v u) Q X.xe s2) :
  Es (EF X.prog X.w) X.A (eval a X.env) (λv s₁=>Es (EF X.prog X.w) X.A (eval b X.env) (λu s₂=>Es (EF X.prog X.w) X.A (f v u) Q X.xe s₂) X.xe s₁) X.xe s:=by
 refine thn (ha pins s σ H _ I h) λv s1 ⟨x,H1,I1,r1,q1⟩ =>?_
 refine thn (hb pins s1 σ H1 _ I1 q1) λu s2 ⟨y,H2,I2,r2,q2⟩ =>?_
 exact hf v u s2 x y H2 I2 r1 r2 q2
def C0 (i:Nat):TE:=λσ H Q=>∃v,σ[i]? = some (some v)/\Q v H
def tC (v:V):TE:=λ_ H Q=>Q v H
theorem BJ {i:Nat}{x:Str}{pos:Pos}(hN:X.N[i]? = some x)(hv:Vis X.env.scope x)(hd:(x == ("__debug__" : Str))=false:=by decide)(hcd:(x == ("__classdict__" : Str))=false:=by decide):PE X (.Name x pos) (C0 i):=by
 intro pins s σ H Q I h
 obtain ⟨v,e,h⟩:=h
 obtain ⟨m,hn,hl⟩:=I.loc
 obtain ⟨u,r,l⟩:=hl i x v hN e hv
 have fin:EP X pins σ Q u s:=⟨v,H,I,r,h⟩
 rcases l with ⟨hk,hm⟩ | ⟨hk,c,hc,hcell⟩
 ·exact Nd (LB I.ok.kind hk hn hm fin) hd
 ·rcases hk with hk | hk
  ·exact Nd (LS I.ok.kind hk hc hcell fin) hd
  ·exact Nd (wpAny_loadName_free I.ok.kind hk hc hcell fin hcd) hd
theorem ai {i j pos}:PE X (.Constant (.int i) j pos) (tC (.int i)):=λ_ _ _ H _ I h=>wpAny_Constant_int ⟨.int i,H,I.tok _,⟨_,rfl⟩,h⟩
theorem kh {b j pos}:PE X (.Constant (.bool b) j pos) (tC (.bl b)):=λ_ _ _ H _ I h=>Constant_bool ⟨.bl b,H,I,rfl,h⟩
theorem lJ {j pos}:PE X (.Constant .none j pos) (tC .non):=λ_ _ _ H _ I h=>Constant_none ⟨.non,H,I,rfl,h⟩
theorem sN {x j pos}:PE X (.Constant (.str x) j pos) (tC (.str x)):=λ_ _ _ H _ I h=>Calls.Constant_str ⟨.str x,H,I.tok _,⟨_,rfl⟩,h⟩
def Gl (X:Cx)(x:Str):Prop:=X.env.kindOf x=some .globalImplicit
theorem i7 {E:D1->D5->Prop}{pins:List (Addr×Obj)}{s:D5}{σ:St}{H:Hp}{x:Str}{u:D1}{pos:Pos}{Q:D1->D5->Prop}(I:Inv X pins σ H s)(hg:Gl X x)(hm:X.mg x=some u)(h:Q u s)
  (hd:(x == ("__debug__" : Str))=false:=by decide):Es (EF X.prog X.w) X.A (eval (.Name x pos) X.env) Q E s :=
 JU I.ok.kind hg (Calls.loadGlobal_global (by rw[I.ok.glob];exact I.mod.glob.keeps I.bk) hm h) hd
theorem fB {E:D1->D5->Prop}{pins:List (Addr×Obj)}{s:D5}{σ:St}{H:Hp}{x:Str}{u:D1}{pos:Pos}{Q:D1->D5->Prop}(I:Inv X pins σ H s)(hg:Gl X x)(hm:X.mg x=none)(hv:Fx x=some u)(h:Q u s)
  (hn:x ≠ "__name__" := by decide) (hd:(x == ("__debug__" : Str))=false:=by decide):Es (EF X.prog X.w) X.A (eval (.Name x pos) X.env) Q E s:=by
 obtain ⟨mb,h1,h2⟩:=I.mod.blt
 exact JU I.ok.kind hg (Calls.loadGlobal_builtin (by rw[I.ok.glob];exact I.mod.glob.keeps I.bk) hm (by rw[I.ok.blt];exact h1.keeps I.bk) ((h2 x hn).trans hv) h) hd
theorem cg {x:Str}{v:V}{u:D1}{pos:Pos}(hg:Gl X x)(hm:X.mg x=some u)(r:RelV v u)(hd:(x == ("__debug__" : Str))=false:=by decide):PE X (.Name x pos) (tC v) :=
 λ_ _ _ H _ I h=>i7 I hg hm ⟨v,H,I,r,h⟩ hd
theorem zR {x:Str}{v:V}{u:D1}{pos:Pos}(hg:Gl X x)(hm:X.mg x=none)(hv:Fx x=some u)(r:RelV v u)(hn:x ≠ "__name__" := by decide)(hd:(x == ("__debug__" : Str))=false:=by decide):PE X (.Name x pos) (tC v) :=
 λ_ _ _ H _ I h=>fB I hg hm hv ⟨v,H,I,r,h⟩ hn hd
variable  {a b:Expr}{ta tb:TE}{pos:Pos}
def PC (X:Cx)(op:CmpOp)(a b:Expr)(t:TE):Prop :=
 ∀(pins:List (Addr×Obj)) (s:D5) (σ:St) (H:Hp) (Q:VK),Inv X pins σ H s->t σ H Q →
  Es (EF X.prog X.w) X.A (eval a X.env) (λv s₁=>Es (EF X.prog X.w) X.A (eval b X.env) (λu s₂=>Es (EF X.prog X.w) X.A (FP op v u) (EP X pins σ Q) X.xe s₂) X.xe s₁) X.xe s
theorem xE (b:Expr){op:CmpOp}(h:op ≠ .In)(h2:op ≠ .NotIn):behindInMarks op b=false:=by
 have e1:(op == CmpOp.In)=false:=by cases op <;> first | rfl | exact absurd rfl h
 have e2:(op == CmpOp.NotIn)=false:=by cases op <;> first | rfl | exact absurd rfl h2
 cases b <;> simp[behindInMarks,e1,e2]
def tB (t:TE):TT:=λσ H Q=>t σ H λx H1=>∃c,x = .bl c/\Q c H1
theorem pN {op:CmpOp}{t:TE}(h:PC X op a b t)(h1:behindInMarks op b=false:=by first | exact xE _ (by decide) (by decide) | rfl):PT X (.Compare a [op] [b] pos) (tB t):=by
 intro pins s σ H Q I hw
 refine Lh (thn (h pins s σ H _ I hw) λv s1 h1=>thn h1 λu s2 h2=>thn h2 λc s3 ⟨x,H1,I1,r1,q1⟩ =>?_) h1
 obtain ⟨d,rfl,q⟩:=q1
 cases r1
 exact Gi ⟨H1,I1,q⟩
theorem dG {e:Expr}{t:TE}(h:PE X e t)(he:∀whole,isTrue e X.env whole=(do let v ← whole;standAt e.pos;Jv [v] (truthy v)):=by intro _;rfl):PT X e (tB t):=by
  intro pins s σ H Q I hw
  refine isTrue_plain (thn (h pins s σ H _ I hw) λv s1 ⟨x,H1,I1,r1,q1⟩ =>?_) (he _)
  obtain ⟨d,rfl,q⟩:=q1
  cases r1
  exact Gi ⟨H1,I1,q⟩
variable  {tA tB':TT}{rest:List Expr}
def tAnd (t u:TT):TT:=λσ H Q=>t σ H λc H1=>if c=true then u σ H1 Q else Q false H1
def tOr (t u:TT):TT:=λσ H Q=>t σ H λc H1=>if c=true then Q true H1 else u σ H1 Q
def tNot (t:TT):TT:=λσ H Q=>t σ H λc H1=>Q (!c) H1
theorem cj (ha:PT X a tA):PW X (.BoolOp .And [a] pos) tA:=by
 intro wh pins s σ H Q I h
 refine isTrue_and (thn (ha pins s σ H Q I h) λc s1 e =>?_)
 cases c with
 | true=>exact isTrue_and_nil e
 | false=>exact e
theorem pO (ha:PT X a tA):PW X (.BoolOp .Or [a] pos) tA:=by
 intro wh pins s σ H Q I h
 refine isTrue_or (thn (ha pins s σ H Q I h) λc s1 e =>?_)
 cases c with
 | false=>exact isTrue_or_nil e
 | true=>exact e
theorem c9 (ha:PT X a tA)(hb:PW X (.BoolOp .And (b :: rest) pos) tB'):PW X (.BoolOp .And (a :: b :: rest) pos) (tAnd tA tB'):=by
 intro wh pins s σ H Q I h
 refine isTrue_and (thn (ha pins s σ H _ I h) λc s1 ⟨H1,I1,q1⟩ =>?_)
 cases c with
 | true=>exact hb wh pins s1 σ H1 Q I1 q1
 | false=>exact ⟨H1,I1,q1⟩
theorem uE (ha:PT X a tA)(hb:PW X (.BoolOp .Or (b :: rest) pos) tB'):PW X (.BoolOp .Or (a :: b :: rest) pos) (tOr tA tB'):=by
 intro wh pins s σ H Q I h
 refine isTrue_or (thn (ha pins s σ H _ I h) λc s1 ⟨H1,I1,q1⟩ =>?_)
 cases c with
 | true=>exact ⟨H1,I1,q1⟩
 | false=>exact hb wh pins s1 σ H1 Q I1 q1
theorem gw (ha:PT X a tA):PT X (.UnaryOp .Not a pos) (tNot tA):=by
 intro pins s σ H Q I h
 exact isTrue_not (ha pins s σ H (λc H1=>Q (!c) H1) I h)
def C2 (ta tb:TE):TE:=λσ H Q=>ta σ H λx H1=>∃c,x = .bl c/\if c=true then tb σ H1 Q else Q (.bl false) H1
theorem xF {op}{t:TE}(h:PE X a t):PE X (.BoolOp op [a] pos) t:=λpins s σ H Q I hw=>BoolOp_one (h pins s σ H Q I hw)
theorem xG (ha:PE X a ta)(hb:PE X (.BoolOp .And (b :: rest) pos) tb):PE X (.BoolOp .And (a :: b :: rest) pos) (C2 ta tb):=by
 intro pins s σ H Q I h
 refine BoolOp_and (thn (ha pins s σ H _ I h) λv s1 ⟨x,H1,I1,r1,q1⟩ =>?_)
 obtain ⟨c,rfl,q1⟩:=q1
 cases r1
 refine Gi ?_
 cases c with
 | true=>exact hb pins s1 σ H1 Q I1 q1
 | false=>exact ⟨.bl false,H1,I1,rfl,q1⟩
end
def SqL (K:D2)(H:Hp)(a:Addr)(xs:List V):Prop :=
 Rd H a (.lst xs) ∨
  ∃(o:Obj) (its:Array D1) (n:Nat),K.lookup a=some o/\o.cls = .type "list" /\ o.dict=none/\o.data = .seq its n/\its.size<=Ei/\Vals xs its.toList
def SqT (K:D2)(H:Hp)(a:Addr)(xs:List V):Prop :=
 Rd H a (.tup xs) ∨
  ∃(o:Obj) (its:Array D1) (n:Nat),K.lookup a=some o/\o.cls = .type "tuple" /\ o.data = .seq its n/\its.size<=Ei/\Vals xs its.toList
def absV:D1->Option V
 | .none=>some .non
 | .bool b=>some (.bl b)
 | .int i _=>some (.int i)
 | .str x _=>some (.str x)
 | .bytes b _=>some (.byt b)
 | .float b _=>some (.flt b)
 | .ref a=>some (.ref a)
 | .type n=>some (.ty n)
 | _=>none
theorem RelV.abs {x:V}{u:D1}(r:RelV x u):absV u=some x:=by
 cases x with
 | non=>cases r;rfl
 | bl _=>cases r;rfl
 | int _=>obtain ⟨t,rfl⟩:=r;rfl
 | str _=>obtain ⟨t,rfl⟩:=r;rfl
 | byt _=>obtain ⟨t,rfl⟩:=r;rfl
 | flt _=>obtain ⟨t,rfl⟩:=r;rfl
 | ref _=>cases r;rfl
 | ty _=>cases r;rfl
theorem RelV.inj {x y:V}{u:D1}(r:RelV x u)(q:RelV y u):x=y:=E1 (r.abs.symm.trans q.abs)
theorem Vals.inj:∀{xs ys:List V} {us:List D1},Vals xs us->Vals ys us->xs=ys
 | _,_,_,.nil,.nil=>rfl
 | _,_,_,.cons r t,.cons r' t'=>by rw[r.inj r',Vals.inj t t']
section
variable  {X:Cx}{pins:List (Addr×Obj)}{σ:St}{H:Hp}{s:D5}{a:Addr}{xs ys:List V}
theorem SqL.of {K:D2}(h:H a=some (.lst xs)):SqL K H a xs :=.inl (.inl h)
theorem SqT.of {K:D2}(h:H a=some (.tup xs)):SqT K H a xs :=.inl (.inl h)
theorem Inv.list (I:Inv X pins σ H s)(h:SqL X.K H a xs):∃its:List D1,Vals xs its/\PlainL s.heap a its.toArray/\xs.length<=Ei:=by
 rcases h with h | ⟨o,its,n,hk,hc,hd,hs,hz,r⟩
 ·obtain ⟨z,its,n,r,e⟩:=h.ok I.hok
  exact ⟨its,r,⟨_,n,e,rfl,rfl,rfl⟩,z⟩
 ·refine ⟨its.toList,r,⟨o,n,I.kIn a o hk,hc,hd,by simpa using hs⟩,?_⟩
  have e:=r.length
  simp only[D9] at e
  lia
theorem Inv.tuple (I:Inv X pins σ H s)(h:SqT X.K H a xs):∃its:List D1,Vals xs its/\IsTup s.heap a its.toArray/\xs.length<=Ei:=by
 rcases h with h | ⟨o,its,n,hk,hc,hs,hz,r⟩
 ·obtain ⟨z,its,r,p⟩:=h.ok I.hok
  exact ⟨its,r,p.tup,z⟩
 ·refine ⟨its.toList,r,⟨o,I.kIn a o hk,hc,n,by simpa using hs⟩,?_⟩
  have e:=r.length
  simp only[D9] at e
  lia
theorem Inv.qC (I:Inv X pins σ H s)(h:SqL X.K H a xs)(h':SqL X.K H a ys):xs=ys:=by
 obtain ⟨its,r,⟨o,n,e,_,_,d⟩,_⟩:=I.list h
 obtain ⟨its',r',⟨o',n',e',_,_,d'⟩,_⟩:=I.list h'
 rw[e] at e';cases e'
 rw[d] at d'
 injection d' with d1 _
 have:its=its':=by simpa using congrArg Array.toList d1
 subst this
 exact r.inj r'
theorem Inv.nX (I:Inv X pins σ H s)(h:SqT X.K H a xs)(h':SqT X.K H a ys):xs=ys:=by
 obtain ⟨its,r,⟨o,e,_,n,d⟩,_⟩:=I.tuple h
 obtain ⟨its',r',⟨o',e',_,n',d'⟩,_⟩:=I.tuple h'
 rw[e] at e';cases e'
 rw[d] at d'
 injection d' with d1 _
 have:its=its':=by simpa using congrArg Array.toList d1
 subst this
 exact r.inj r'
end
abbrev Cx.lK (X:Cx)(E:D1->D5->Prop):Cx:={ X with xe:=E }
abbrev Cx.nox (X:Cx):Cx:=X.lK λ_ _=>False
theorem Cx.Ok.lK {X:Cx}(ok:X.Ok)(E:D1->D5->Prop):(X.lK E).Ok :=
 ⟨ok.mod,ok.kind,ok.glob,ok.blt,ok.above,ok.inj,ok.has,ok.cab,ok.hd,ok.frames,ok.stk,ok.exf,ok.bs,ok.bsz,ok.noex,ok.exfs,ok.funs,ok.frf⟩
theorem Cx.Ok.eI {X:Cx}{E:D1->D5->Prop}(ok:(X.lK E).Ok):X.Ok :=
 ⟨ok.mod,ok.kind,ok.glob,ok.blt,ok.above,ok.inj,ok.has,ok.cab,ok.hd,ok.frames,ok.stk,ok.exf,ok.bs,ok.bsz,ok.noex,ok.exfs,ok.funs,ok.frf⟩
section
variable  {X:Cx}{pins:List (Addr×Obj)}{σ:St}{H:Hp}{s:D5}{E:D1->D5->Prop}
theorem Inv.lK (I:Inv X pins σ H s)(E:D1->D5->Prop):Inv (X.lK E) pins σ H s:=⟨I.ok.lK E,I.os,I.bare,I.base,I.loc,I.cell,I.free,I.freeC,I.pin,I.hok,I.len⟩
theorem Inv.eI (I:Inv (X.lK E) pins σ H s):Inv X pins σ H s:=⟨I.ok.eI,I.os,I.bare,I.base,I.loc,I.cell,I.free,I.freeC,I.pin,I.hok,I.len⟩
theorem SP.eI {D:Ends}{f:Flow}{s':D5}(h:SP (X.lK E) pins D f s'):SP X pins D f s':=by
 cases f with
 | next=>obtain ⟨σ',H',I,q⟩:=h;exact ⟨σ',H',I.eI,q⟩
 | brk=>obtain ⟨σ',H',I,q⟩:=h;exact ⟨σ',H',I.eI,q⟩
 | cont=>obtain ⟨σ',H',I,q⟩:=h;exact ⟨σ',H',I.eI,q⟩
 | ret u=>obtain ⟨v,σ',H',I,r,q⟩:=h;exact ⟨v,σ',H',I.eI,r,q⟩
theorem PSs.nox {st:List Stmt}{t:TS}(h:PSs X.nox st t):PSs X st t:=λpins s σ H D I hw =>
 Gp (h pins s σ H D (I.lK _) hw) (λ_ _ q=>q.eI) λ_ _ z=>False.elim z
end
section
variable  {X:Cx}{st:Stmt}{rest:List Stmt}{t u:TS}{e:Expr}{te:TE}{pos:Pos}
def C6:TS:=λD σ H=>D.nx σ H
def C7 (t u:TS):TS:=λD σ H=>t { D with nx:=u D } σ H
theorem aI:PSs X [] C6:=λ_ _ σ H _ I h=>Ib ⟨σ,H,I,h⟩
theorem ah (h1:PS X st t)(h2:PSs X rest u):PSs X (st :: rest) (C7 t u):=by
 intro pins s σ H D I h
 refine KO (thn (h1 pins s σ H { D with nx:=u D } I h) λf s1 q =>?_)
 cases f with
 | next =>
  obtain ⟨σ',H',I',q⟩:=q
  exact h2 pins s1 σ' H' D I' q
 | ret v=>exact q
 | brk=>exact q
 | cont=>exact q
theorem aj (h1:PS X st t):PSs X [st] t:=by
 intro pins s σ H D I h
 refine KO (thn (h1 pins s σ H D I h) λf s1 q =>?_)
 cases f with
 | next=>exact Ib q
 | ret v=>exact q
 | brk=>exact q
 | cont=>exact q
theorem Inv.quiet {pins:List (Addr×Obj)}{σ:St}{H:Hp}{s:D5}(I:Inv X pins σ H s):interactive X.env=false:=by simp[interactive,I.ok.kind]
def C8 (te:TE):TS:=λD σ H=>te σ H λ_ H1=>D.nx σ H1
theorem bA (he:PE X e te)(hs:swapsWith e none pos.line X.env=pure false:=by rfl):PS X (.Expr e pos) (C8 te):=by
 intro pins s σ H D I h
 exact wpAny_Expr_any (thn (he pins s σ H _ I h) λv s1 ⟨x,H1,I1,r1,q1⟩=>⟨σ,H1,I1,q1⟩) I.quiet hs
def tRet (te:TE):TS:=λD σ H=>te σ H D.rt
theorem aJ (he:PE X e te):PS X (.Return (some e) pos) (tRet te):=by
 intro pins s σ H D I h
 exact wpAny_Return_some (thn (he pins s σ H _ I h) λv s1 ⟨x,H1,I1,r1,q1⟩=>⟨x,σ,H1,I1,r1,q1⟩)
def tIfS (c:TT)(t u:TS):TS:=λD σ H=>c σ H λb H1=>if b=true then t D σ H1 else u D σ H1
theorem bq {c:Expr}{a b:List Stmt}{tc:TT}(hc:PT X c tc)(ha:PSs X a t)(hb:PSs X b u):PS X (.If c a b pos) (tIfS tc t u):=by
 intro pins s σ H D I h
 refine wpAny_If (thn (hc pins s σ H _ I h) λd s1 ⟨H1,I1,q1⟩ =>?_)
 cases d with
 | true=>exact ha pins s1 σ H1 D I1 q1
 | false=>exact hb pins s1 σ H1 D I1 q1
def BK:TS:=λ_ _ _=>False
theorem nY {sts:List Stmt}:PSs X sts BK:=λ_ _ _ _ _ _ h=>h.elim
end
abbrev TG:=V->St->Hp->(St->Hp->Prop)->Prop
abbrev TGs:=List V->St->Hp->(St->Hp->Prop)->Prop
def PG (X:Cx)(target:Expr)(t:TG):Prop :=
 ∀(pins:List (Addr×Obj)) (s:D5) (σ:St) (H:Hp) (v:V) (u:D1) (Q:St->Hp->Prop),Inv X pins σ H s->RelV v u->t v σ H Q →
  Es (EF X.prog X.w) X.A (assign target X.env u) (λ_ s'=>∃σ' H',Inv X pins σ' H' s'/\Q σ' H') X.xe s
def PGs (X:Cx)(ts:List Expr)(t:TGs):Prop :=
 ∀(pins:List (Addr×Obj)) (s:D5) (σ:St) (H:Hp) (vs:List V) (us:List D1) (Q:St->Hp->Prop),Inv X pins σ H s->Vals vs us->t vs σ H Q →
  Es (EF X.prog X.w) X.A (assignInOrder ((assignEach ts X.env).map (·.2)) us) (λ_ s'=>∃σ' H',Inv X pins σ' H' s'/\Q σ' H') X.xe s
abbrev BL:=V->V->V->Hp->(Hp->Prop)->Prop
def C9 (X:Cx)(t:BL):Prop :=
 ∀(pins:List (Addr×Obj)) (s:D5) (σ:St) (H:Hp) (o i v:V) (ov iv u:D1) (Q:Hp->Prop),Inv X pins σ H s->RelV o ov->RelV i iv->RelV v u->t o i v H Q →
  Es (EF X.prog X.w) X.A (setItem ov iv u) (λ_ s'=>∃H',Inv X pins σ H' s'/\Q H') X.xe s
abbrev TIp:=V->V->Hp->VK->Prop
def PIp (X:Cx)(op:Operator)(t:TIp):Prop :=
 ∀(pins:List (Addr×Obj)) (s:D5) (σ:St) (H:Hp) (x y:V) (v u:D1) (Q:VK),Inv X pins σ H s->RelV x v->RelV y u->t x y H Q →
  Es (EF X.prog X.w) X.A (inplaceOp op v u) (EP X pins σ Q) X.xe s
section
variable  {X:Cx}{pos:Pos}
def gx (i:Nat):TG:=λv σ H Q=>Q (σ.set i (some v)) H
theorem ay {i:Nat}{x:Str}(hN:X.N.Nodup)(hi:X.N[i]? = some x)(hx:Loc X.env.scope x)(hf:X.fn x=true\/X.env.scope.names.lookup x=some .local:=by first | exact .inl rfl | exact .inr rfl | assumption):PG X (.Name x pos) (gx i):=by
 intro pins s σ H v u Q I r h
 exact wpAny_assign_Name (i6 I hN hi hx r (λs' I'=>⟨_,H,I',h⟩) hf)
def Dc:TGs:=λvs σ H Q=>vs=[]/\Q σ H
def xH (t:TG)(u:TGs):TGs:=λvs σ H Q=>∃v r,vs=v :: r/\t v σ H λσ' H'=>u r σ' H' Q
theorem kT:PGs X [] Dc:=by
 intro pins s σ H vs us Q I r h
 obtain ⟨e,h⟩:=h
 subst e
 cases r
 exact assignInOrder_nil ⟨σ,H,I,h⟩
theorem dw {e:Expr}{es:List Expr}{t:TG}{u:TGs}(h1:PG X e t)(h2:PGs X es u)
  (hs:(assignEach (e :: es) X.env).map (·.2)=assign e X.env :: (assignEach es X.env).map (·.2):=by rfl):PGs X (e :: es) (xH t u):=by
 intro pins s σ H vs us Q I r h
 obtain ⟨v,vr,e1,h⟩:=h
 subst e1
 cases r with
 | cons r rr =>
  rw[hs]
  refine assignInOrder_cons (thn (h1 pins s σ H _ _ _ I r h) λ_ s1 ⟨σ1,H1,I1,q1⟩ =>?_)
  exact h2 pins s1 σ1 H1 _ _ Q I1 rr q1
def Dd (K:D2)(n:Nat)(t:TGs):TG:=λv σ H Q=>∃a xs,v = .ref a/\SqT K H a xs/\xs.length=n/\t xs σ H Q
theorem pP {es:List Expr}{k:Nat}{t:TGs}{n:Nat}(hc:X.calm=true)(h:PGs X es t)
  (hn:(assignEach es X.env).length=n:=by rfl) (hst:(assignEach es X.env).findIdx? (·.1)=none:=by rfl):PG X (.Tuple es k pos) (Dd X.K n t):=by
 intro pins s σ H v u Q I r hw
 obtain ⟨a,xs,e1,hq,hl,hw⟩:=hw
 subst e1
 cases r
 obtain ⟨its,rv,ht,hz⟩:=I.tuple hq
 refine assign_Tuple_tuple (I.ok.hd hc) ht (by simp[hn, <- hl,rv.length]) hst λh' hx =>?_
 have I1:Inv X pins σ H { s with heap:=h' }:=I.kept (t':=s.toks) λb o e=>hx b o (Ey (Ej e)) e
 exact h pins _ σ H xs _ Q I1 (by simpa using rv) hw
def gSub (to ti:TE)(t:BL):TG:=λv σ H Q=>to σ H λo H1=>ti σ H1 λi H2=>t o i v H2 λH3=>Q σ H3
theorem xI {o i:Expr}{to ti:TE}{t:BL}(ho:PE X o to)(hi:PE X i ti)(hs:C9 X t)
    (ha:∀v,assign (.Subscript o i pos) X.env v=(do
      let ov ← Jv [v] (eval o X.env)
      let iv ← Jv [v,ov] (eval i X.env)
      standAt pos
      Jv [v,ov,iv] (setItem ov iv v)
      release [v,ov,iv] []):=by intro _;rfl):PG X (.Subscript o i pos) (gSub to ti t):=by
  intro pins s σ H v u Q I r h
  rw[ha]
  refine DX (Fe (thn (ho pins s σ H _ I h) λov s1 ⟨x,H1,I1,r1,q1⟩ =>?_))
  refine DX (Fe (thn (hi pins s1 σ H1 _ I1 q1) λiv s2 ⟨y,H2,I2,r2,q2⟩ =>?_))
  refine DX (JD (DX (Fe (thn (hs pins s2 σ H2 x y v ov iv u _ I2 r1 r2 r q2) λ_ s3 ⟨H3,I3,q3⟩ =>?_))))
  exact wpAny_release ⟨σ,H3,I3,q3⟩
def BM (te:TE)(g:TG):TS:=λD σ H=>te σ H λx H1=>g x σ H1 D.nx
theorem pQ {tg e:Expr}{te:TE}{g:TG}(he:PE X e te)(hg:PG X tg g)(hs:swapsWithSole [tg] e pos.line X.env=pure false:=by rfl)(hw:swappedStores [tg] e X.env=pure none:=by rfl)
  (h1:(assignEach [tg] X.env).map (·.2)=[assign tg X.env]:=by rfl):PS X (.Assign [tg] e pos) (BM te g):=by
 intro pins s σ H D I h
 refine wpAny_Assign_stores (thn (he pins s σ H _ I h) λv s1 ⟨x,H1,I1,r1,q1⟩ =>?_) hs hw
 rw[h1]
 exact thn (hg pins s1 σ H1 x v _ I1 r1 q1) λ_ s2 q=>q
theorem aE {i:Nat}{x:Str}{e:Expr}{te:TE}{pos':Pos}(hN:X.N.Nodup)(hi:X.N[i]? = some x)(hx:Loc X.env.scope x)(he:PE X e te)(hs:swapsWith e (some (.Name x pos')) pos.line X.env=pure false:=by rfl)(hf:X.fn x=true\/X.env.scope.names.lookup x=some .local:=by first | exact .inl rfl | exact .inr rfl | assumption) :
  PS X (.Assign [.Name x pos'] e pos) (BM te (gx i)):=by
 intro pins s σ H D I h
 refine wpAny_Assign_Name (thn (he pins s σ H _ I h) λv s1 ⟨y,H1,I1,r1,q1⟩ =>?_) hs
 exact i6 I1 hN hi hx r1 (λs2 I2=>⟨_,H1,I2,q1⟩) hf
def tAug (i:Nat)(te:TE)(ti:TIp):TS:=λD σ H=>∃x,σ[i]? = some (some x)/\te σ H λy H1=>ti x y H1 λz H2=>D.nx (σ.set i (some z)) H2
theorem BN {i:Nat}{x:Str}{e:Expr}{te:TE}{op:Operator}{ti:TIp}{pos':Pos}(hN:X.N.Nodup)(hi:X.N[i]? = some x)(hx:Loc X.env.scope x)(he:PE X e te)(ho:PIp X op ti)(hf:X.fn x=true\/X.env.scope.names.lookup x=some .local:=by first | exact .inl rfl | exact .inr rfl | assumption) :
  PS X (.AugAssign (.Name x pos') op e pos) (tAug i te ti):=by
 intro pins s σ H D I h
 obtain ⟨v,e1,h⟩:=h
 obtain ⟨m,hn,hl⟩:=I.loc
 have vis:Vis X.env.scope x:=by rcases hx with k | k;exact .inl k;exact .inr (.inl k)
 obtain ⟨u,r,l⟩:=hl i x v hi e1 vis
 refine wpAny_AugAssign_Name ?_
 have go:Es (EF X.prog X.w) X.A (eval e X.env) (λw s₂=>Es (EF X.prog X.w) X.A (inplaceOp op u w) (λr s₃=>Es (EF X.prog X.w) X.A (storeName X.env x r) (λ_=>SP X pins D .next) X.xe s₃) X.xe s₂) X.xe s:=by
  refine thn (he pins s σ H _ I h) λw s1 ⟨y,H1,I1,r1,q1⟩ =>?_
  refine thn (ho pins s1 σ H1 v y u w _ I1 r r1 q1) λz s2 ⟨zv,H2,I2,r2,q2⟩ =>?_
  exact i6 I2 hN hi hx r2 (λs3 I3=>⟨_,H2,I3,q2⟩) hf
 rcases l with ⟨hk,hm⟩ | ⟨hk,c,hc,hcell⟩
 ·exact LB I.ok.kind hk hn hm go
 ·rcases hk with hk | hk
  ·exact LS I.ok.kind hk hc hcell go
  ·rcases hx with k | k
   ·have:X.env.scope.names.lookup x=some .free:=hk
    rw[k] at this;cases this
   ·have:X.env.scope.names.lookup x=some .free:=hk
    rw[k] at this;cases this
def ipI (f:Int->Int->Int):TIp:=λx y H Q=>∃i j,x = .int i/\y = .int j/\Q (.int (f i j)) H
theorem BO:PIp X .Add (ipI λi j=>i+j):=by
 intro pins s σ H x y v u Q I r1 r2 h
 obtain ⟨i,j,e1,e2,q⟩:=h
 subst e1;subst e2
 obtain ⟨t,rfl⟩:=r1
 obtain ⟨t',rfl⟩:=r2
 exact iadd_int ⟨.int _,H,I.tok _,⟨_,rfl⟩,q⟩
end
section
variable  {X:Cx}{pos:Pos}
def xJ (c:TT)(tb:TS):TS:=λD σ H=>∃W:Nat->St->Hp->Prop,(∃m,W m σ H)/\∀m σ H,W m σ H →
 c σ H λb H1=>if b=true then ∃N:St->Hp->Prop,(∀σ' H',N σ' H'->∃m',m'<m/\W m' σ' H')/\tb { D with nx:=N,ct:=N,bk:=D.nx } σ H1 else D.nx σ H1
theorem qD {c:Expr}{body:List Stmt}{tc:TT}{tb:TS}(hp:PassesOwn (EF X.prog X.w) X.A X.env X.xe)(hc:PT X c tc)(hb:PSs X body tb):PS X (.While c body [] pos) (xJ tc tb):=by
 intro pins s σ H D I h
 obtain ⟨W,⟨m0,w0⟩,turn⟩:=h
 refine wpAny_While (codeAny_whileLoop (λn s'=>∃σ' H',Inv X pins σ' H' s'/\W n σ' H') ?_ m0 ⟨σ,H,I,w0⟩)
 rintro n s1 ⟨σ1,H1,I1,w1⟩
 refine HE hp (thn (hc pins s1 σ1 H1 _ I1 (turn n σ1 H1 w1)) λb s2 ⟨H2,I2,q2⟩ =>?_)
 cases b with
 | true =>
  obtain ⟨N,hN,q2⟩:=q2
  rw[if_pos rfl]
  refine HE hp (thn (hb pins s2 σ1 H2 _ I2 q2) λf s3 q3 =>?_)
  cases f with
  | next =>
   obtain ⟨σ3,H3,I3,n3⟩:=q3
   obtain ⟨m',hm,w3⟩:=hN σ3 H3 n3
   exact ⟨m',hm,σ3,H3,I3,w3⟩
  | cont =>
   obtain ⟨σ3,H3,I3,n3⟩:=q3
   obtain ⟨m',hm,w3⟩:=hN σ3 H3 n3
   exact ⟨m',hm,σ3,H3,I3,w3⟩
  | brk=>exact q3
  | ret v=>exact q3
 | false =>
  rw[if_neg Ek]
  exact Ib ⟨σ1,H2,I2,q2⟩
end
structure It where
 go:Nat->Hp->Prop
 yld:Nat->Hp->V->Hp->Prop
 stop:Nat->Hp->Prop
def jL (X:Cx)(pins:List (Addr×Obj))(H:Hp)(b:Addr):Prop :=
 H b=none/\b≠X.env.locals/\b∉X.fs/\(b∈X.ex\/X.s₀.heap.objs.size<=b)/\(∀x c,X.env.cells.lookup x=some c->c≠b)/\∀p∈X.pn++pins,p.1≠b
theorem Inv.v5 {X:Cx}{pins:List (Addr×Obj)}{σ:St}{H H':Hp}{s:D5}{b:Addr}(I:Inv X pins σ H s)(hb:s.heap.objs.size<=b)(hn:H' b=none):jL X pins H' b:=by
 refine ⟨hn,GV (Er I.lt hb),I.BI hb,.inr (ET I.sz hb),λx c e z =>?_,λp hp z =>?_⟩
 ·obtain ⟨v,q⟩:=I.cell x c e
  exact absurd (Er q.lt (by rw[z];exact hb)) (Fu _)
 ·exact absurd (Er (Ej (I.pin p hp).1) (by rw[z];exact hb)) (Fu _)
structure Turn (P:Eo)(w:ES)(K:D2)(tg:Expr)(J:It)(fp:List Addr)(it:Addr)(tn:Nat->Heap->Prop):Prop where
 mem:it∈fp
 obj:∀i h,tn i h->∀b∈fp,∃o,h.get? b=some o/\∀v,o.data ≠ .cell v
 keep:∀i h h',tn i h->(∀b∈fp,∀o,h.get? b=some o->h'.get? b=some o)->tn i h'
 item:∀(X:Cx),X.prog=P->X.w=w->X.K=K->X.calm=true->∀(i:Nat) (pins:List (Addr×Obj)) (s:D5) (σ:St) (H:Hp) (E:D1->D5->Prop),Inv X pins σ H s->(∀b∈fp,jL X pins H b)->tn i s.heap->J.go i H →
  Es (EF P w) X.A (pyNext (.ref it)) (λr s1=>∃u,r=some u ∧
   Es (EF P w) X.A (letOwnedTupleGo tg (.ref it) u) (λ_ s2=>∃x H',Inv X pins σ H' s2/\RelV x u/\J.yld i H x H'/\tn (i+1) s2.heap/\∀b∈fp,H' b=none) E s1) E s
 done:∀(X:Cx),X.prog=P->X.w=w->X.K=K->X.calm=true->∀(i:Nat) (pins:List (Addr×Obj)) (s:D5) (σ:St) (H:Hp) (E:D1->D5->Prop),Inv X pins σ H s->(∀b∈fp,jL X pins H b)->tn i s.heap->J.stop i H →
  Es (EF P w) X.A (pyNext (.ref it)) (λr s1=>r=none/\Inv X pins σ H s1) E s
 self:∀(A:Fi) (i:Nat) (s:D5) (Q:D1->D5->Prop) (E:D1->D5->Prop),tn i s.heap->Q (.ref it) s->Es (EF P w) A (pyIter (.ref it)) Q E s
abbrev TI:=St->Hp->(It->Hp->Prop)->Prop
def PIE (X:Cx)(pins:List (Addr×Obj))(σ:St)(tg:Expr)(R:It->Hp->Prop)(itv:D1)(s2:D5):Prop :=
 ∃(it:Addr) (fp:List Addr) (tn:Nat->Heap->Prop) (J:It) (H':Hp),itv = .ref it/\Inv X pins σ H' s2/\Turn X.prog X.w X.K tg J fp it tn/\tn 0 s2.heap/\(∀b∈fp,jL X pins H' b)/\R J H'
def PI (X:Cx)(tg iter:Expr)(wi:TI):Prop :=
 ∀(pins:List (Addr×Obj)) (s:D5) (σ:St) (H:Hp) (R:It->Hp->Prop),Inv X pins σ H s->wi σ H R →
  Es (EF X.prog X.w) X.A (eval iter X.env) (λv s1=>Es (EF X.prog X.w) X.A (pyIter v) (PIE X pins σ tg R) X.xe s1) X.xe s
theorem uF {M:Model}{A:Fi}{E:D1->D5->Prop}{s:D5}{tg:Expr}{it:Addr}{u:D1}{o:Obj}{n:String}{vs:Array D1}{Q:Unit->D5->Prop}(ho:s.heap.get? it=some o)(hc:o.cls = .type n)(hd:o.data = .fields vs)
    (hn:["enumerate", "zip", "dict_itemiterator", "dict_reverseitemiterator", "odict_iterator", "itertools.zip_longest", "itertools.pairwise"].contains n=false) (hQ:Q () s):Es M A (letOwnedTupleGo tg (.ref it) u) Q E s:=by
  unfold letOwnedTupleGo
  cases tg <;> first
    | exact D3 hQ
    | (cases u <;> first
        | exact D3 hQ
        | (refine DX (Lp ho ?_)
           rw[hc,hd]
           show Es M A (if (["enumerate", "zip", "dict_itemiterator", "dict_reverseitemiterator", "odict_iterator", "itertools.zip_longest", "itertools.pairwise"].contains n && vs[0]? == some (Kb _))=true then _ else _) Q E s
           rw[if_neg (by intro h;rw[hn,Io] at h;cases h)]
           exact D3 hQ))
def Itl (K:D2)(a:Addr):It :=
 ⟨λi H=>∃xs x,SqL K H a xs/\xs[i]? = some x,λi H x H'=>H'=H/\∀xs,SqL K H a xs->xs[i]? = some x,λi H=>∃xs,SqL K H a xs/\xs.length<=i⟩
def Itt (K:D2)(a:Addr):It :=
 ⟨λi H=>∃xs x,SqT K H a xs/\xs[i]? = some x,λi H x H'=>H'=H/\∀xs,SqT K H a xs->xs[i]? = some x,λi H=>∃xs,SqT K H a xs/\xs.length<=i⟩
def Itr (lo:Int)(n:Nat):It:=⟨λi _=>i<n,λi H x H'=>H'=H/\x = .int (lo+i),λi _=>n<=i⟩
theorem nZ {P:Eo}{w:ES}{K:D2}{tg:Expr}(a it:Addr):Turn P w K tg (Itl K a) [it] it (λi h=>h.IsListIter it a i) where
 mem:=by simp
 obj:=λi h st b hb=>by
  have e:b=it:=by simpa using hb
  subst e
  obtain ⟨o,e,c,d⟩:=st
  exact ⟨o,e,λv z=>by rw[d] at z;cases z⟩
 keep:=λi h h' st k=>st.at λo e=>k it (by simp) o e
 item:=by
  intro X hP hw hK hc i pins s σ H E I hf st hg
  subst hP hw hK
  obtain ⟨xs,x,hq,hx⟩:=hg
  obtain ⟨its,rv,p,hz⟩:=I.list hq
  obtain ⟨u,hu,ru⟩:=rv.get hx
  obtain ⟨f0,f1,f2,f3,f4,f5⟩:=hf it (by simp)
  refine wpAny_pyNext_list_item st p.isList (x:=u) (by simpa using hu) λh' st' sb =>?_
  have I1:Inv X pins σ H { s with heap:=h' }:=I.turned (t':=s.toks) (λb o hb e=>(sb.2 b hb).trans e) f0 f1 f3 f4 f5
  obtain ⟨o,e,c,d⟩:=id st'
  exact ⟨u,rfl,uF (s:={ s with heap:=h' }) e c d (by decide) ⟨x,H,I1,ru,⟨rfl,λys hy=>by rw[I.qC hy hq];exact hx⟩,st',λb hb=>(hf b hb).1⟩⟩
 done:=by
  intro X hP hw hK hc i pins s σ H E I hf st hg
  subst hP hw hK
  obtain ⟨xs,hq,hx⟩:=hg
  obtain ⟨its,rv,p,hz⟩:=I.list hq
  obtain ⟨f0,f1,f2,f3,f4,f5⟩:=hf it (by simp)
  have hl:=rv.length
  exact wpAny_pyNext_list_end (I.ok.hd hc) st p.isList (by simp;lia) λh' eb=>⟨rfl,I.turned (t':=s.toks) (λb o hb e=>eb b o hb e) f0 f1 f3 f4 f5⟩
 self:=λ_ _ _ _ _ st h=>wpAny_pyIter_listiter st h
theorem lL {P:Eo}{w:ES}{K:D2}{tg:Expr}(a it:Addr):Turn P w K tg (Itt K a) [it] it (λi h=>h.IsTupleIter it a i) where
 mem:=by simp
 obj:=λi h st b hb=>by
  have e:b=it:=by simpa using hb
  subst e
  obtain ⟨o,e,c,d⟩:=st
  exact ⟨o,e,λv z=>by rw[d] at z;cases z⟩
 keep:=λi h h' st k=>st.at λo e=>k it (by simp) o e
 item:=by
  intro X hP hw hK hc i pins s σ H E I hf st hg
  subst hP hw hK
  obtain ⟨xs,x,hq,hx⟩:=hg
  obtain ⟨its,rv,p,hz⟩:=I.tuple hq
  obtain ⟨u,hu,ru⟩:=rv.get hx
  obtain ⟨f0,f1,f2,f3,f4,f5⟩:=hf it (by simp)
  refine wpAny_pyNext_tuple_item st (show s.heap.IsTuple a its.toArray from p) (x:=u) (by simpa using hu) λh' st' sb =>?_
  have I1:Inv X pins σ H { s with heap:=h' }:=I.turned (t':=s.toks) (λb o hb e=>(sb.2 b hb).trans e) f0 f1 f3 f4 f5
  obtain ⟨o,e,c,d⟩:=id st'
  exact ⟨u,rfl,uF (s:={ s with heap:=h' }) e c d (by decide) ⟨x,H,I1,ru,⟨rfl,λys hy=>by rw[I.nX hy hq];exact hx⟩,st',λb hb=>(hf b hb).1⟩⟩
 done:=by
  intro X hP hw hK hc i pins s σ H E I hf st hg
  subst hP hw hK
  obtain ⟨xs,hq,hx⟩:=hg
  obtain ⟨its,rv,p,hz⟩:=I.tuple hq
  obtain ⟨f0,f1,f2,f3,f4,f5⟩:=hf it (by simp)
  have hl:=rv.length
  exact wpAny_pyNext_tuple_end (I.ok.hd hc) st (show s.heap.IsTuple a its.toArray from p) (by simp;lia) λh' eb=>⟨rfl,I.turned (t':=s.toks) (λb o hb e=>eb b o hb e) f0 f1 f3 f4 f5⟩
 self:=λ_ _ _ _ _ st h=>wpAny_pyIter_tupleiter st h
theorem sO {P:Eo}{w:ES}{K:D2}{tg:Expr}(it:Addr)(lo:Int)(n:Nat):Turn P w K tg (Itr lo n) [it] it (λi h=>IsRangeIter h it (lo+(i:Nat)*1) ((n:Int)-(i:Nat)) 1) where
 mem:=by simp
 obj:=λi h st b hb=>by
  have e:b=it:=by simpa using hb
  subst e
  exact ⟨_,st,λv z=>by
   have z':Data.fields _=Data.cell v:=z
   cases z'⟩
 keep:=λi h h' st k=>k it (by simp) _ st
 item:=by
  intro X hP hw hK hc i pins s σ H E I hf st hg
  subst hP hw hK
  obtain ⟨f0,f1,f2,f3,f4,f5⟩:=hf it (by simp)
  have W:=Walks.range (prog:=X.prog) (w:=X.w) (I.ok.hd hc) it lo 1 n
  refine W.item i s _ _ hg st λv h' tk hv st' kk =>?_
  obtain ⟨t,rfl⟩:=hv
  have I1:Inv X pins σ H { s with heap:=h',toks:=tk }:=I.turned (λb o hb e=>kk b o (by simpa using hb) e) f0 f1 f3 f4 f5
  refine ⟨_,rfl,uF (s:={ s with heap:=h',toks:=tk }) (n := "range_iterator") st' rfl rfl (by decide) ⟨.int (lo+i),H,I1,⟨t,?_⟩,⟨rfl,rfl⟩,st',λb hb=>(hf b hb).1⟩⟩
  rw[Int.mul_one]
 done:=by
  intro X hP hw hK hc i pins s σ H E I hf st hg
  subst hP hw hK
  obtain ⟨f0,f1,f2,f3,f4,f5⟩:=hf it (by simp)
  exact wpAny_pyNext_range_end (I.ok.hd hc) st (by have:n<=i:=hg;lia) λh' eb=>⟨rfl,I.turned (t':=s.toks) (λb o hb e=>eb b o hb e) f0 f1 f3 f4 f5⟩
 self:=λ_ _ _ _ _ st h=>wpAny_pyIter_rangeiter st h
section
variable  {X:Cx}{tg:Expr}
def De (K:D2)(tl:TE):TI:=λσ H R=>tl σ H λx H1=>∃a,x = .ref a/\(∃xs,SqL K H1 a xs)/\R (Itl K a) H1
def iTup (K:D2)(tl:TE):TI:=λσ H R=>tl σ H λx H1=>∃a,x = .ref a/\(∃xs,SqT K H1 a xs)/\R (Itt K a) H1
theorem dg {l:Expr}{tl:TE}(hl:PE X l tl):PI X tg l (De X.K tl):=by
 intro pins s σ H R I h
 refine thn (hl pins s σ H _ I h) λv s1 ⟨x,H1,I1,r1,q1⟩ =>?_
 obtain ⟨a,e,⟨xs,hq⟩,q⟩:=q1
 subst e
 cases r1
 obtain ⟨its,rv,p,hz⟩:=I1.list hq
 refine G7 p.isList ?_
 refine ⟨s1.heap.objs.size,[s1.heap.objs.size],_,_,H1,rfl,I1.kept (t':=s1.toks) λb o e=>DZ _ e,nZ a _,⟨_,Ed _ rfl,rfl,rfl⟩,λb hb =>?_,q⟩
 have e:b=s1.heap.objs.size:=by simpa using hb
 subst e
 exact I1.v5 (D6 _) (I1.hok.fresh (D6 _))
theorem cV {l:Expr}{tl:TE}(hl:PE X l tl):PI X tg l (iTup X.K tl):=by
 intro pins s σ H R I h
 refine thn (hl pins s σ H _ I h) λv s1 ⟨x,H1,I1,r1,q1⟩ =>?_
 obtain ⟨a,e,⟨xs,hq⟩,q⟩:=q1
 subst e
 cases r1
 obtain ⟨its,rv,p,hz⟩:=I1.tuple hq
 refine IY (show s1.heap.IsTuple a its.toArray from p) ?_
 refine ⟨s1.heap.objs.size,[s1.heap.objs.size],_,_,H1,rfl,I1.kept (t':=s1.toks) λb o e=>DZ _ e,lL a _,⟨_,Ed _ rfl,rfl,rfl⟩,λb hb =>?_,q⟩
 have e:b=s1.heap.objs.size:=by simpa using hb
 subst e
 exact I1.v5 (D6 _) (I1.hok.fresh (D6 _))
theorem xK {pins:List (Addr×Obj)}{σ:St}{H:Hp}{s:D5}{R:It->Hp->Prop}{E:D1->D5->Prop}{lo hi:Int}{t u v:Tok}{tk:Nat}(I:Inv X pins σ H s)(h1 : -(2 ^ 62)<=lo)(h2:lo<2 ^ 62)(h3 : -(2 ^ 62)<=hi)(h4:hi<2 ^ 62)
  (q:R (Itr lo (hi-lo).toNat) H):Es (EF X.prog X.w) X.A (pyIter (.ref s.heap.objs.size)) (PIE X pins σ tg R) E { s with heap:=s.heap.push { cls :=.type "range",data :=.fields #[.int lo t,.int hi u,.int 1 v] },toks:=tk }:=by
 refine wpAny_pyIter_range (IsRange.new ..) (small_one h1 h2 h3 h4) ?_
 have I1:Inv X pins σ H { s with heap:=s.heap.push { cls :=.type "range",data :=.fields #[.int lo t,.int hi u,.int 1 v] },toks:=tk }:=I.kept λb o e=>DZ _ e
 refine ⟨(s.heap.push { cls :=.type "range",data :=.fields #[.int lo t,.int hi u,.int 1 v] }).objs.size,[(s.heap.push { cls :=.type "range",data :=.fields #[.int lo t,.int hi u,.int 1 v] }).objs.size],_,_,H,rfl,
  I1.kept (t':=tk) λb o e=>DZ _ e,sO _ lo (hi-lo).toNat,?_,λb hb =>?_,q⟩
 ·have e1:lo+((0:Nat):Int)*1=lo:=by simp
  have e2:(((hi-lo).toNat:Nat):Int)-((0:Nat):Int)=Builtin.Range.rangeSize lo hi 1:=by rw[Mk];split <;> lia
  show IsRangeIter _ _ (lo+((0:Nat):Int)*1) ((((hi-lo).toNat:Nat):Int)-((0:Nat):Int)) 1
  rw[e1,e2]
  exact Ed _ rfl
 ·have e:b=(s.heap.push { cls :=.type "range",data :=.fields #[.int lo t,.int hi u,.int 1 v] }).objs.size:=by simpa using hb
  subst e
  exact I1.v5 (D6 _) (I1.hok.fresh (D6 _))
def Df (ta:TA):TI:=λσ H R=>ta σ H λvs H1=>∃j:Int,vs=[.int j] /\ -(2 ^ 62)<=j/\j<2 ^ 62/\R (Itr 0 j.toNat) H1
theorem bu {a:Expr}{ta:TA}{p pos:Pos}(hg:Gl X "range")(hm:X.mg "range" = none)(ha:PA X [a] ta)(hs:E5 [a] X.env=[(false,eval a X.env)]:=by rfl):PI X tg (.Call (.Name "range" p) [a] [] pos) (Df ta):=by
 intro pins s σ H R I h
 refine Call_ (fB I hg hm boot_range (HV (thn (ha pos pins s σ H _ I h) λus s1 ⟨vs,H1,I1,r1,q1⟩ =>?_) hs rfl))
 obtain ⟨j,e,q1,q2,q⟩:=q1
 subst e
 cases r1 with
 | cons r rr =>
  cases rr
  obtain ⟨t,rfl⟩:=r
  exact call_range_1 (xK I1 (by lia) (by lia) q1 q2 (by simpa using q))
def tFor (wi:TI)(g:TG)(tb:TS):TS:=λD σ H=>wi σ H λJ H1=>∃W:Nat->Nat->St->Hp->Prop,(∃m,W 0 m σ H1)/\∀i m σ H,W i m σ H →
 (J.stop i H/\D.nx σ H)\/(J.go i H/\∃N:St->Hp->Prop,(∀σ' H',N σ' H'->∃m',m'<m/\W (i+1) m' σ' H')/\∀x H',J.yld i H x H'->g x σ H' λσ2 H2=>tb { D with nx:=N,ct:=N,bk:=D.nx } σ2 H2)
def iD (fp:List Addr)(h:Heap):List (Addr×Obj):=fp.filterMap λb=>(h.get? b).map λo=>(b,o)
theorem dU {fp:List Addr}{h:Heap}{b:Addr}{o:Obj}(hb:b∈fp)(e:h.get? b=some o):(b,o)∈iD fp h:=IL.mpr ⟨b,hb,by rw[e];rfl⟩
theorem n5 {fp:List Addr}{h:Heap}{p:Addr×Obj}(hp:p∈iD fp h):p.1∈fp/\h.get? p.1=some p.2:=by
 obtain ⟨b,hb,e⟩:=IL.mp hp
 cases q:h.get? b with
 | none=>rw[q] at e;cases e
 | some o =>
  rw[q] at e
  have e':(b,o)=p:=E1 e
  subst e'
  exact ⟨hb,q⟩
theorem Inv.pinned {pins:List (Addr×Obj)}{σ:St}{H:Hp}{s:D5}{fp:List Addr}(I:Inv X pins σ H s)(hf:∀b∈fp,jL X pins H b)(ho:∀b∈fp,∃o,s.heap.get? b=some o/\∀v,o.data ≠ .cell v):Inv X (pins++iD fp s.heap) σ H s :=
 I.i5 λp hp=>(Eh.mp hp).elim (λz=>I.pin p (EH _ z)) λz=>by
  obtain ⟨hb,e⟩:=n5 z
  obtain ⟨f0,f1,f2,_⟩:=hf p.1 hb
  obtain ⟨o,e',d⟩:=ho p.1 hb
  rw[e] at e';cases e'
  exact ⟨e,f0,f1,f2,d⟩
theorem Inv.eR {pins pl:List (Addr×Obj)}{σ:St}{H:Hp}{s:D5}(I:Inv X (pins++pl) σ H s):Inv X pins σ H s:=I.i5 λp hp=>I.pin p (EH _ (E9 _ hp))
theorem cf {iter:Expr}{body:List Stmt}{wi:TI}{g:TG}{tb:TS}{pos:Pos}(hp:PassesOwn (EF X.prog X.w) X.A X.env X.xe)(hc:X.calm=true)(hi:PI X tg iter wi)(hg:PG X tg g)(hb:PSs X body tb)
  (hs:∀x,foldedSetIterable iter X.env x=pure x:=by intro _;rfl):PS X (.For tg iter body [] pos) (tFor wi g tb):=by
 intro pins s σ H D I h
 refine wpAny_For (thn (hi pins s σ H _ I h) λv s1 h1=>thn h1 λitv s2 h2 =>?_) hs
 obtain ⟨it,fp,tn,J,H2,e,I2,T,st2,f2,W,⟨m0,w0⟩,turn⟩:=h2
 subst e
 have stat:∀{H':Hp},(∀b∈fp,H' b=none)->∀b∈fp,jL X pins H' b:=λhn b hb=>⟨hn b hb,(f2 b hb).2⟩
 refine codeAny_forLoop_any (λn s'=>∃i σ' H',Inv X pins σ' H' s'/\tn i s'.heap/\(∀b∈fp,H' b=none)/\W i n σ' H') ?_ m0 ⟨0,σ,H2,I2,st2,λb hb=>(f2 b hb).1,w0⟩
 rintro n s3 ⟨i,σ3,H3,I3,st3,fr3,w3⟩
 rcases turn i n σ3 H3 w3 with ⟨stop,qn⟩ | ⟨go,N,hN,step⟩
 ·refine HE hp (thn (T.done X rfl rfl rfl hc i pins s3 σ3 H3 X.xe I3 (stat fr3) st3 stop) λr s4 ⟨hr,I4⟩ =>?_)
  subst hr
  exact Ib ⟨σ3,H3,I4,qn⟩
 ·refine HE hp (thn (T.item X rfl rfl rfl hc i pins s3 σ3 H3 X.xe I3 (stat fr3) st3 go) λr s4 ⟨u,hr,h4⟩ =>?_)
  subst hr
  refine HE hp (thn h4 λ_ s5 ⟨x,H5,I5,r5,y5,st5,fr5⟩ =>?_)
  have I5':=I5.pinned (stat fr5) (T.obj _ _ st5)
  refine HE hp (thn (hg _ s5 σ3 H5 x u _ I5' r5 (step x H5 y5)) λ_ s6 ⟨σ6,H6,I6,q6⟩ =>?_)
  refine HE hp (thn (hb _ s6 σ6 H6 _ I6 q6) λf s7 q7 =>?_)
  have again:∀{σ7:St} {H7:Hp},Inv X (pins++iD fp s5.heap) σ7 H7 s7->N σ7 H7->∃m,m<n/\∃i σ' H',Inv X pins σ' H' s7/\tn i s7.heap/\(∀b∈fp,H' b=none)/\W i m σ' H':=λ{σ7 H7} I7 n7=>by
   obtain ⟨m',hm,w7⟩:=hN σ7 H7 n7
   refine ⟨m',hm,i+1,σ7,H7,I7.eR,T.keep _ _ _ st5 λb hb o e=>(I7.pin (b,o) (EH _ (EH _ (dU hb e)))).1,λb hb =>?_,w7⟩
   obtain ⟨o,e,d⟩:=T.obj _ _ st5 b hb
   exact (I7.pin (b,o) (EH _ (EH _ (dU hb e)))).2.1
  cases f with
  | next=>obtain ⟨σ7,H7,I7,n7⟩:=q7;exact again I7 n7
  | cont=>obtain ⟨σ7,H7,I7,n7⟩:=q7;exact again I7 n7
  | brk=>obtain ⟨σ7,H7,I7,q7⟩:=q7;exact ⟨σ7,H7,I7.eR,q7⟩
  | ret v=>obtain ⟨x7,σ7,H7,I7,r7,q7⟩:=q7;exact ⟨x7,σ7,H7,I7.eR,r7,q7⟩
end
theorem dW {K:D2}{a:Addr}{xs:List V}{g:TG}{tb:TS}{D:Ends}{σ:St}{H:Hp}(Pv:Nat->St->Hp->Prop)(h0:Pv 0 σ H)(hl:∀i σ H,i<=xs.length->Pv i σ H->SqL K H a xs)
  (hs:∀i x σ H,xs[i]? = some x->Pv i σ H->g x σ H λσ2 H2=>tb { D with nx:=Pv (i+1),ct:=Pv (i+1),bk:=D.nx } σ2 H2) (hd:∀σ H,Pv xs.length σ H->D.nx σ H) :
  ∃W:Nat->Nat->St->Hp->Prop,(∃m,W 0 m σ H)/\∀i m σ H,W i m σ H →
   ((Itl K a).stop i H/\D.nx σ H)\/((Itl K a).go i H/\∃N:St->Hp->Prop,(∀σ' H',N σ' H'->∃m',m'<m/\W (i+1) m' σ' H')/\∀x H',(Itl K a).yld i H x H'->g x σ H' λσ2 H2=>tb { D with nx:=N,ct:=N,bk:=D.nx } σ2 H2):=by
 refine ⟨λi m σ H=>m=xs.length-i/\i<=xs.length/\Pv i σ H,⟨xs.length,by simp,EZ _,h0⟩,?_⟩
 rintro i m σ H ⟨rfl,hi,p⟩
 have q:=hl i σ H hi p
 by_cases hlt:i<xs.length
 ·refine .inr ⟨⟨xs,xs[i],q,by simp[hlt]⟩,Pv (i+1),λσ' H' p'=>⟨xs.length-(i+1),by lia,rfl,hlt,p'⟩,λx H' y =>?_⟩
  obtain ⟨e,y⟩:=y
  subst e
  exact hs i x σ _ (y xs q) p
 ·have e:i=xs.length:=by lia
  subst e
  exact .inl ⟨⟨xs,q,D6 _⟩,hd σ H p⟩
theorem pS {K:D2}{a:Addr}{xs:List V}{g:TG}{tb:TS}{D:Ends}{σ:St}{H:Hp}(Pv:Nat->St->Hp->Prop)(h0:Pv 0 σ H)(hl:∀i σ H,i<=xs.length->Pv i σ H->SqT K H a xs)
  (hs:∀i x σ H,xs[i]? = some x->Pv i σ H->g x σ H λσ2 H2=>tb { D with nx:=Pv (i+1),ct:=Pv (i+1),bk:=D.nx } σ2 H2) (hd:∀σ H,Pv xs.length σ H->D.nx σ H) :
  ∃W:Nat->Nat->St->Hp->Prop,(∃m,W 0 m σ H)/\∀i m σ H,W i m σ H →
   ((Itt K a).stop i H/\D.nx σ H)\/((Itt K a).go i H/\∃N:St->Hp->Prop,(∀σ' H',N σ' H'->∃m',m'<m/\W (i+1) m' σ' H')/\∀x H',(Itt K a).yld i H x H'->g x σ H' λσ2 H2=>tb { D with nx:=N,ct:=N,bk:=D.nx } σ2 H2):=by
 refine ⟨λi m σ H=>m=xs.length-i/\i<=xs.length/\Pv i σ H,⟨xs.length,by simp,EZ _,h0⟩,?_⟩
 rintro i m σ H ⟨rfl,hi,p⟩
 have q:=hl i σ H hi p
 by_cases hlt:i<xs.length
 ·refine .inr ⟨⟨xs,xs[i],q,by simp[hlt]⟩,Pv (i+1),λσ' H' p'=>⟨xs.length-(i+1),by lia,rfl,hlt,p'⟩,λx H' y =>?_⟩
  obtain ⟨e,y⟩:=y
  subst e
  exact hs i x σ _ (y xs q) p
 ·have e:i=xs.length:=by lia
  subst e
  exact .inl ⟨⟨xs,q,D6 _⟩,hd σ H p⟩
theorem dQ {lo:Int}{n:Nat}{g:TG}{tb:TS}{D:Ends}{σ:St}{H:Hp}(Pv:Nat->St->Hp->Prop)(h0:Pv 0 σ H)
  (hs:∀i σ H,i<n->Pv i σ H->g (.int (lo+i)) σ H λσ2 H2=>tb { D with nx:=Pv (i+1),ct:=Pv (i+1),bk:=D.nx } σ2 H2) (hd:∀σ H,Pv n σ H->D.nx σ H) :
  ∃W:Nat->Nat->St->Hp->Prop,(∃m,W 0 m σ H)/\∀i m σ H,W i m σ H →
   ((Itr lo n).stop i H/\D.nx σ H)\/((Itr lo n).go i H/\∃N:St->Hp->Prop,(∀σ' H',N σ' H'->∃m',m'<m/\W (i+1) m' σ' H')/\∀x H',(Itr lo n).yld i H x H'->g x σ H' λσ2 H2=>tb { D with nx:=N,ct:=N,bk:=D.nx } σ2 H2):=by
 refine ⟨λi m σ H=>m=n-i/\i<=n/\Pv i σ H,⟨n,by simp,EZ _,h0⟩,?_⟩
 rintro i m σ H ⟨rfl,hi,p⟩
 by_cases hlt:i<n
 ·refine .inr ⟨hlt,Pv (i+1),λσ' H' p'=>⟨n-(i+1),by lia,rfl,hlt,p'⟩,λx H' y =>?_⟩
  obtain ⟨e,y⟩:=y
  subst e y
  exact hs i σ _ hlt p
 ·have e:i=n:=by lia
  subst e
  exact .inl ⟨D6 _,hd σ H p⟩
theorem qF {c:TT}{tb:TS}{D:Ends}{σ:St}{H:Hp}(Pv:St->Hp->Prop)(μ:St->Hp->Nat)(h0:Pv σ H)
  (hs:∀σ H,Pv σ H->c σ H λb H1=>if b=true then tb { D with nx:=λσ' H'=>Pv σ' H' /\ μ σ' H'<μ σ H,ct:=λσ' H'=>Pv σ' H' /\ μ σ' H'<μ σ H,bk:=D.nx } σ H1 else D.nx σ H1)
  (mono:∀σ H Q Q',(∀b H1,Q b H1->Q' b H1)->c σ H Q->c σ H Q'):xJ c tb D σ H:=by
 refine ⟨λm σ H=>m=μ σ H/\Pv σ H,⟨_,rfl,h0⟩,?_⟩
 rintro m σ H ⟨rfl,p⟩
 refine mono σ H _ _ (λb H1 q =>?_) (hs σ H p)
 cases b with
 | true=>exact ⟨_,λσ' H' ⟨p',l⟩=>⟨_,l,rfl,p'⟩,q⟩
 | false=>exact q
abbrev R2:=V->V->Hp->VK->Prop
def OpR (X:Cx)(f:D1->D1->Sem D1)(r:R2):Prop :=
 ∀(pins:List (Addr×Obj)) (s:D5) (σ:St) (H:Hp) (x y:V) (v u:D1) (Q:VK),Inv X pins σ H s->RelV x v->RelV y u->r x y H Q →
  Es (EF X.prog X.w) X.A (f v u) (EP X pins σ Q) X.xe s
def UnR (X:Cx)(f:D1->Sem D1)(r:V->Hp->VK->Prop):Prop :=
 ∀(pins:List (Addr×Obj)) (s:D5) (σ:St) (H:Hp) (x:V) (v:D1) (Q:VK),Inv X pins σ H s->RelV x v->r x H Q →
  Es (EF X.prog X.w) X.A (f v) (EP X pins σ Q) X.xe s
def bZ (X:Cx)(f:D1)(r:List V->Hp->VK->Prop):Prop :=
 ∀(pins:List (Addr×Obj)) (s:D5) (σ:St) (H:Hp) (xs:List V) (us:List D1) (Q:VK),Inv X pins σ H s->Vals xs us->r xs H Q →
  Es (EF X.prog X.w) X.A (call f us) (EP X pins σ Q) X.xe s
def TruR (X:Cx)(r:V->Hp->(Bool->Hp->Prop)->Prop):Prop :=
 ∀(pins:List (Addr×Obj)) (s:D5) (σ:St) (H:Hp) (x:V) (v:D1) (Q:Bool->Hp->Prop),Inv X pins σ H s->RelV x v->r x H Q →
  Es (EF X.prog X.w) X.A (truthy v) (TP X pins σ Q) X.xe s
def tOp (r:R2)(ta tb:TE):TE:=λσ H Q=>ta σ H λx H1=>tb σ H1 λy H2=>r x y H2 Q
def tUn (r:V->Hp->VK->Prop)(ta:TE):TE:=λσ H Q=>ta σ H λx H1=>r x H1 Q
def rI (C:Int->Int->Prop)(g:Int->Int->V):R2:=λx y H Q=>∃i j,x = .int i/\y = .int j/\C i j/\Q (g i j) H
def rI0 (g:Int->Int->V):R2:=λx y H Q=>∃i j,x = .int i/\y = .int j/\Q (g i j) H
def rU (g:Int->V):V->Hp->VK->Prop:=λx H Q=>∃i,x = .int i/\Q (g i) H
section
variable  {X:Cx}{a b c:Expr}{ta tb tc:TE}{pos:Pos}
theorem BP (ha:PE X a ta)(hb:PE X b tb){pins:List (Addr×Obj)}{s:D5}{σ:St}{H:Hp}{R:V->V->Hp->Prop}(I:Inv X pins σ H s)
  (h:ta σ H λx H1=>tb σ H1 λy H2=>R x y H2) {Q:D1->D5->Prop} {f:D1->D1->Sem D1}
  (hf:∀v u s2 x y H2,Inv X pins σ H2 s2->RelV x v->RelV y u->R x y H2->Es (EF X.prog X.w) X.A (f v u) Q X.xe s2) :
  Es (EF X.prog X.w) X.A (eval a X.env) (λv s₁=>Es (EF X.prog X.w) X.A (eval b X.env) (λu s₂=>Es (EF X.prog X.w) X.A (f v u) Q X.xe s₂) X.xe s₁) X.xe s:=by
 refine thn (ha pins s σ H _ I h) λv s1 ⟨x,H1,I1,r1,q1⟩ =>?_
 refine thn (hb pins s1 σ H1 _ I1 q1) λu s2 ⟨y,H2,I2,r2,q2⟩ =>?_
 exact hf v u s2 x y H2 I2 r1 r2 q2
theorem aN {op:Operator}{r:R2}(ho:OpR X (binaryOp op) r)(ha:PE X a ta)(hb:PE X b tb):PE X (.BinOp a op b pos) (tOp r ta tb):=by
 intro pins s σ H Q I h
 exact wpAny_BinOp (BP ha hb I h λv u s2 x y H2 I2 rx ry q=>ho pins s2 σ H2 x y v u Q I2 rx ry q)
theorem Dg {op:UnaryOp}{r:V->Hp->VK->Prop}(ho:UnR X (unaryOp op) r)(ha:PE X a ta):PE X (.UnaryOp op a pos) (tUn r ta):=by
 intro pins s σ H Q I h
 exact UnaryOp_ (thn (ha pins s σ H _ I h) λv s1 ⟨x,H1,I1,r1,q1⟩=>ho pins s1 σ H1 x v Q I1 r1 q1)
theorem opI {f:D1->D1->Sem D1}{C:Int->Int->Prop}{g:Int->Int->Int}
  (rule:∀(i j:Int) (t u:Tok) (s:D5) (Q:D1->D5->Prop) (E:D1->D5->Prop),C i j->Q (.int (g i j) s.toks) { s with toks:=s.toks+1 }->Es (EF X.prog X.w) X.A (f (.int i t) (.int j u)) Q E s) :
  OpR X f (rI C λi j =>.int (g i j)):=by
 intro pins s σ H x y v u Q I rx ry h
 obtain ⟨i,j,rfl,rfl,hc,q⟩:=h
 obtain ⟨t,rfl⟩:=rx
 obtain ⟨t',rfl⟩:=ry
 exact rule i j t t' s _ _ hc ⟨.int (g i j),H,I.tok _,⟨_,rfl⟩,q⟩
theorem Dh {f:D1->D1->Sem D1}{g:Int->Int->Int}
  (rule:∀(i j:Int) (t u:Tok) (s:D5) (Q:D1->D5->Prop) (E:D1->D5->Prop),Q (.int (g i j) s.toks) { s with toks:=s.toks+1 }->Es (EF X.prog X.w) X.A (f (.int i t) (.int j u)) Q E s) :
  OpR X f (rI0 λi j =>.int (g i j)):=by
 intro pins s σ H x y v u Q I rx ry h
 obtain ⟨i,j,rfl,rfl,q⟩:=h
 obtain ⟨t,rfl⟩:=rx
 obtain ⟨t',rfl⟩:=ry
 exact rule i j t t' s _ _ ⟨.int (g i j),H,I.tok _,⟨_,rfl⟩,q⟩
theorem zS {f:D1->D1->Sem D1}{g:Int->Int->Bool}
  (rule:∀(i j:Int) (t u:Tok) (s:D5) (Q:D1->D5->Prop) (E:D1->D5->Prop),Q (.bool (g i j)) s->Es (EF X.prog X.w) X.A (f (.int i t) (.int j u)) Q E s) :
  OpR X f (rI0 λi j =>.bl (g i j)):=by
 intro pins s σ H x y v u Q I rx ry h
 obtain ⟨i,j,rfl,rfl,q⟩:=h
 obtain ⟨t,rfl⟩:=rx
 obtain ⟨t',rfl⟩:=ry
 exact rule i j t t' s _ _ ⟨.bl (g i j),H,I,rfl,q⟩
def CDiv (i j:Int):Prop:=0<j/\j<1073741824
def CPow (i j:Int):Prop:=0<=j/\j<=1000000/\i.natAbs<2 ^ 64
def BQ (i j:Int):Prop:=(-(2 ^ 64)<i/\i<2 ^ 64)\/(-(2 ^ 64)<j/\j<2 ^ 64)
theorem BQ.ok {i j:Int}(h:BQ i j):IntMulOk i j:=by
 rcases h with ⟨h1,h2⟩ | ⟨h1,h2⟩
 ·exact .of_left (intBits_le_64 h1 h2)
 ·exact .of_right (intBits_le_64 h1 h2)
theorem dH:OpR X (binaryOp .Add) (rI0 λi j =>.int (i+j)):=Dh λ_ _ _ _ _ _ _ q=>add_int q
theorem jM:OpR X (binaryOp .Sub) (rI0 λi j =>.int (i-j)):=Dh λ_ _ _ _ _ _ _ q=>sub_int q
theorem lM:OpR X (binaryOp .Mult) (rI BQ λi j =>.int (i*j)):=opI λ_ _ _ _ _ _ _ hc q=>mul_int q hc.ok
theorem kU:OpR X (binaryOp .FloorDiv) (rI CDiv λi j =>.int (i/j)):=opI λi j _ _ _ _ _ hc q=>by
 have h1:(0:Int)<j:=hc.1
 have h2:j<1073741824:=hc.2
 exact floordiv_int (by lia) (by rw[Int.fdiv_eq_ediv_of_nonneg i (by lia)];exact q) (.inl (PyProof.noPylong_small (by lia)))
theorem gy:OpR X (binaryOp .Mod) (rI (λ_ j=>0<j) λi j =>.int (i%j)):=opI λi j _ _ _ _ _ hc q=>by
 have h1:(0:Int)<j:=hc
 exact mod_int' (by lia) (by rw[Int.fmod_eq_emod_of_nonneg i (by lia)];exact q)
theorem jN:OpR X (binaryOp .Pow) (rI CPow λi j =>.int (i ^ j.toNat)):=opI λ_ _ _ _ _ _ _ hc q=>pow_int_small hc.1 hc.2.1 hc.2.2 q
theorem unI {f:D1->Sem D1}{g:Int->Int}
  (rule:∀(i:Int) (t:Tok) (s:D5) (Q:D1->D5->Prop) (E:D1->D5->Prop),Q (.int (g i) s.toks) { s with toks:=s.toks+1 }->Es (EF X.prog X.w) X.A (f (.int i t)) Q E s) :
  UnR X f (rU λi =>.int (g i)):=by
 intro pins s σ H x v Q I rx h
 obtain ⟨i,rfl,q⟩:=h
 obtain ⟨t,rfl⟩:=rx
 exact rule i t s _ _ ⟨.int (g i),H,I.tok _,⟨_,rfl⟩,q⟩
theorem BR:UnR X (unaryOp .USub) (rU λi =>.int (-i)):=unI λ_ _ _ _ _ q=>neg_int q
end
def Di:V->V->Bool
 | .non,.non=>true | .non,.int _=>true | .int _,.non=>true | .non,.bl _=>true | .bl _,.non=>true | .non,.str _=>true | .str _,.non=>true
 | .int _,.int _=>true | .bl _,.bl _=>true | .str _,.str _=>true | .byt _,.byt _=>true
 | .int _,.str _=>true | .str _,.int _=>true | .bl _,.str _=>true | .str _,.bl _=>true
 | _,_=>false
def rEq:R2:=λx y H Q=>Di x y=true/\Q (.bl (decide (x=y))) H
def rNe:R2:=λx y H Q=>Di x y=true/\Q (.bl (!decide (x=y))) H
theorem uG {i j:Int}:decide (V.int i=V.int j)=(i == j):=by
 rw[Gr]
 simp
theorem xM {i j:Bool}:decide (V.bl i=V.bl j)=(i == j):=by
 rw[Gr]
 simp
theorem uH {i j:Str}:decide (V.str i=V.str j)=(i == j):=by
 rw[Gr]
 simp
theorem uI {i j:Array UInt8}:decide (V.byt i=V.byt j)=(i.toList == j.toList):=by
 rw[Gr]
 cases i
 cases j
 simp
section
variable  {X:Cx}{a b c:Expr}{ta tb tc:TE}{pos:Pos}
theorem aV {pins:List (Addr×Obj)}{σ:St}{H:Hp}{s:D5}{Q:VK}{k k':Bool}(I:Inv X pins σ H s)(q:Q (.bl k) H)(e:k=k'):EP X pins σ Q (.bool k') s:=by
 subst e
 exact ⟨.bl k,H,I,rfl,q⟩
theorem cI:OpR X (FP .Eq) rEq:=by
 intro pins s σ H x y v u Q I rx ry h
 obtain ⟨hs,q⟩:=h
 cases x with
 | non =>
  cases rx
  cases y with
  | non=>cases ry;exact PySem.EqNone.eq_none_none (aV I q (by simp))
  | bl j=>cases ry;exact PySem.EqNone.eq_none_bool (aV I q (by simp))
  | int j=>obtain ⟨t',rfl⟩:=ry;exact PySem.EqNone.eq_none_int (aV I q (by simp))
  | str j=>obtain ⟨t',rfl⟩:=ry;exact PySem.EqNone.eq_none_str (aV I q (by simp))
  | _=>exact absurd (show false=true from hs) Ek
 | bl i =>
  cases rx
  cases y with
  | non=>cases ry;exact PySem.EqNone.eq_bool_none (aV I q (by simp))
  | bl j=>cases ry;exact eq_bool (aV I q xM)
  | str j=>obtain ⟨t',rfl⟩:=ry;exact M3 (aV I q (by simp))
  | _=>exact absurd (show false=true from hs) Ek
 | int i =>
  obtain ⟨t,rfl⟩:=rx
  cases y with
  | non=>cases ry;exact PySem.EqNone.eq_int_none (aV I q (by simp))
  | int j=>obtain ⟨t',rfl⟩:=ry;exact eq_int (aV I q uG)
  | str j=>obtain ⟨t',rfl⟩:=ry;exact M9 (aV I q (by simp))
  | _=>exact absurd (show false=true from hs) Ek
 | str i =>
  obtain ⟨t,rfl⟩:=rx
  cases y with
  | non=>cases ry;exact PySem.EqNone.eq_str_none (aV I q (by simp))
  | bl j=>cases ry;exact M4 (aV I q (by simp))
  | int j=>obtain ⟨t',rfl⟩:=ry;exact Na (aV I q (by simp))
  | str j=>obtain ⟨t',rfl⟩:=ry;exact eq_str (aV I q uH)
  | _=>exact absurd (show false=true from hs) Ek
 | byt i =>
  obtain ⟨t,rfl⟩:=rx
  cases y with
  | byt j=>obtain ⟨t',rfl⟩:=ry;exact PySem.W.eq_bytes (aV I q uI)
  | _=>exact absurd (show false=true from hs) Ek
 | _=>cases y <;> exact absurd (show false=true from hs) Ek
theorem uJ:OpR X (FP .NotEq) rNe:=by
 intro pins s σ H x y v u Q I rx ry h
 obtain ⟨hs,q⟩:=h
 cases x with
 | non =>
  cases rx
  cases y with
  | non=>cases ry;exact PySem.EqNone.ne_none_none (aV I q (by simp))
  | bl j=>cases ry;exact PySem.EqNone.ne_none_bool (aV I q (by simp))
  | int j=>obtain ⟨t',rfl⟩:=ry;exact PySem.EqNone.ne_none_int (aV I q (by simp))
  | str j=>obtain ⟨t',rfl⟩:=ry;exact PySem.EqNone.ne_none_str (aV I q (by simp))
  | _=>exact absurd (show false=true from hs) Ek
 | bl i =>
  cases rx
  cases y with
  | non=>cases ry;exact PySem.EqNone.ne_bool_none (aV I q (by simp))
  | bl j=>cases ry;exact ne_bool (aV I q (congrArg not xM))
  | str j=>obtain ⟨t',rfl⟩:=ry;exact M5 (aV I q (by simp))
  | _=>exact absurd (show false=true from hs) Ek
 | int i =>
  obtain ⟨t,rfl⟩:=rx
  cases y with
  | non=>cases ry;exact PySem.EqNone.ne_int_none (aV I q (by simp))
  | int j=>obtain ⟨t',rfl⟩:=ry;exact ne_int (aV I q (congrArg not uG))
  | str j=>obtain ⟨t',rfl⟩:=ry;exact Nb (aV I q (by simp))
  | _=>exact absurd (show false=true from hs) Ek
 | str i =>
  obtain ⟨t,rfl⟩:=rx
  cases y with
  | non=>cases ry;exact PySem.EqNone.ne_str_none (aV I q (by simp))
  | bl j=>cases ry;exact M6 (aV I q (by simp))
  | int j=>obtain ⟨t',rfl⟩:=ry;exact Nc (aV I q (by simp))
  | str j=>obtain ⟨t',rfl⟩:=ry;exact ne_str (aV I q (congrArg not uH))
  | _=>exact absurd (show false=true from hs) Ek
 | byt i =>
  obtain ⟨t,rfl⟩:=rx
  cases y with
  | byt j=>obtain ⟨t',rfl⟩:=ry;exact PySem.W.ne_bytes (aV I q (congrArg not uI))
  | _=>exact absurd (show false=true from hs) Ek
 | _=>cases y <;> exact absurd (show false=true from hs) Ek
theorem uK:OpR X (FP .Lt) (rI0 λi j =>.bl (decide (i<j))):=zS λ_ _ _ _ _ _ _ q=>lt_int q
theorem Dj:OpR X (FP .LtE) (rI0 λi j =>.bl (decide (i<=j))):=zS λ_ _ _ _ _ _ _ q=>le_int q
theorem n6:OpR X (FP .Gt) (rI0 λi j =>.bl (decide (j<i))):=zS λ_ _ _ _ _ _ _ q=>gt_int q
theorem Bn:OpR X (FP .GtE) (rI0 λi j =>.bl (decide (j<=i))):=zS λ_ _ _ _ _ _ _ q=>ge_int q
theorem BS:OpR X (FP .Is) (λx y H Q=>y = .non/\Q (.bl (decide (x = .non))) H):=by
 intro pins s σ H x y v u Q I rx ry h
 obtain ⟨rfl,q⟩:=h
 cases ry
 refine is_none_gen (aV I q ?_)
 cases x <;> first
  | (cases rx;rfl)
  | (obtain ⟨t,rfl⟩:=rx;rfl)
theorem zT:OpR X (FP .IsNot) (λx y H Q=>y = .non/\Q (.bl (!decide (x = .non))) H):=by
 intro pins s σ H x y v u Q I rx ry h
 obtain ⟨rfl,q⟩:=h
 cases ry
 refine isnot_none_gen (aV I q ?_)
 cases x <;> first
  | (cases rx;rfl)
  | (obtain ⟨t,rfl⟩:=rx;rfl)
theorem aM (b:Expr){op:CmpOp}(h:op ≠ .In:=by decide)(h2:op ≠ .NotIn:=by decide):behindInMarks op b=false:=by
 have e1:(op == CmpOp.In)=false:=by cases op <;> first | rfl | exact absurd rfl h
 have e2:(op == CmpOp.NotIn)=false:=by cases op <;> first | rfl | exact absurd rfl h2
 cases b <;> simp[behindInMarks,e1,e2]
theorem fC {op:CmpOp}{r:R2}(ho:OpR X (FP op) r)(ha:PE X a ta)(hb:PE X b tb)(hm:behindInMarks op b=false):PE X (.Compare a [op] [b] pos) (tOp r ta tb):=by
 intro pins s σ H Q I h
 exact wpAny_Compare1 (BP ha hb I h λv u s2 x y H2 I2 rx ry q=>ho pins s2 σ H2 x y v u Q I2 rx ry q) hm
def Dk (t:TE):TT:=λσ H Q=>t σ H λx H'=>∃k,x = .bl k/\Q k H'
theorem az {op:CmpOp}{r:R2}(ho:OpR X (FP op) r)(ha:PE X a ta)(hb:PE X b tb)(hm:behindInMarks op b=false):PT X (.Compare a [op] [b] pos) (Dk (tOp r ta tb)):=by
 intro pins s σ H Q I h
 refine Lh (thn (ha pins s σ H _ I h) λv s1 ⟨x,H1,I1,r1,q1⟩=>thn (hb pins s1 σ H1 _ I1 q1) λu s2 ⟨y,H2,I2,r2,q2⟩ =>
  thn (ho pins s2 σ H2 x y v u _ I2 r1 r2 q2) λc s3 ⟨z,H3,I3,r3,k,e,q3⟩ =>?_) hm
 subst e
 cases r3
 exact Gi ⟨H3,I3,q3⟩
def BU (r r':R2)(ta tb tc:TE):TE:=λσ H Q=>ta σ H λx H1=>tb σ H1 λy H2=>r x y H2 λz H3=>∃k,z = .bl k ∧
 (if k=true then tc σ H3 λw' H4=>r' y w' H4 Q else Q (.bl false) H3)
theorem xN {op op':CmpOp}{r r':R2}(ho:OpR X (FP op) r)(ho':OpR X (FP op') r')(ha:PE X a ta)(hb:PE X b tb)(hc:PE X c tc)
  (hm:lastMarks [op,op'] [b,c]=false:=by with_unfolding_all rfl):PE X (.Compare a [op,op'] [b,c] pos) (BU r r' ta tb tc):=by
 intro pins s σ H Q I h
 refine Compare_chain (thn (ha pins s σ H _ I h) λv s1 ⟨x,H1,I1,r1,q1⟩=>chain_link (thn (hb pins s1 σ H1 _ I1 q1) λu s2 ⟨y,H2,I2,r2,q2⟩ =>
  thn (ho pins s2 σ H2 x y v u _ I2 r1 r2 q2) λd s3 ⟨z,H3,I3,r3,k,e,q3⟩ =>?_)) hm
 subst e
 cases r3
 refine Gi ?_
 cases k with
 | false=>exact ite_ff ⟨.bl false,H3,I3,rfl,q3⟩
 | true=>exact ite_tt (chain_last (thn (hc pins s3 σ H3 _ I3 q3) λw' s4 ⟨z',H4,I4,r4,q4⟩=>ho' pins s4 σ H4 y z' u w' Q I4 r2 r4 q4))
def Dl (K:D2)(x:V)(H:Hp)(k:Bool):Prop :=
 match x with
 | .non=>k=false
 | .bl b=>k=b
 | .int i=>k=(i != 0)
 | .str y=>y.length<=Ei/\k=((y.length:Int) != 0)
 | .byt y=>y.size<=Ei/\k=((y.size:Int) != 0)
 | .ref p=>(∃xs,SqL K H p xs/\k = !xs.isEmpty)\/(∃xs,SqT K H p xs/\k = !xs.isEmpty)\/∃kvs,H p=some (.dK kvs)/\k = !kvs.isEmpty
 | _=>False
theorem sP {κ:Type}{kvs:List (κ×V)}{vs:List (κ×D1)}(r:KV kvs vs):(!vs.isEmpty) = !kvs.isEmpty:=by
 cases r <;> rfl
theorem lN {xs:List V}{its:List D1}(r:Vals xs its):(!its.toArray.isEmpty) = !xs.isEmpty:=by
 cases r <;> simp
theorem iE:(Ei:Nat)<2 ^ 63:=by rw[Ic];decide
theorem BV:TruR X (λx H Q=>∃k,Dl X.K x H k/\Q k H):=by
 intro pins s σ H x v Q I rx h
 obtain ⟨k,e,q⟩:=h
 have hl:=iE
 have hs:Ei=16777216:=Ic
 cases x with
 | non =>
  cases rx
  have e':k=false:=e
  subst e'
  exact truthy_none ⟨H,I,q⟩
 | bl b =>
  cases rx
  have e':k=b:=e
  subst e'
  exact Gi ⟨H,I,q⟩
 | int i =>
  obtain ⟨t,rfl⟩:=rx
  have e':k=(i != 0):=e
  subst e'
  exact PySem.P.truthy_int ⟨H,I,q⟩
 | str y =>
  obtain ⟨t,rfl⟩:=rx
  obtain ⟨hy,e'⟩:y.length<=Ei/\k=((y.length:Int) != 0):=e
  subst e'
  exact PySem.P.truthy_str (by lia) ⟨H,I.tok _,q⟩
 | byt y =>
  obtain ⟨t,rfl⟩:=rx
  obtain ⟨hy,e'⟩:y.size<=Ei/\k=((y.size:Int) != 0):=e
  subst e'
  exact PySem.W.truthy_bytes (by lia) ⟨H,I.tok _,q⟩
 | ref p =>
  cases rx
  have e':(∃xs,SqL X.K H p xs/\k = !xs.isEmpty)\/(∃xs,SqT X.K H p xs/\k = !xs.isEmpty)\/∃kvs,H p=some (.dK kvs)/\k = !kvs.isEmpty:=e
  rcases e' with ⟨xs,hx,e'⟩ | ⟨xs,hx,e'⟩ | ⟨kvs,hx,e'⟩
  ·subst e'
   obtain ⟨its,r,pl,hz⟩:=I.list hx
   have hlen:=r.length
   exact wpAny_truthy_list pl.isList (by simp only[D4];lia) ⟨H,I.tok _,by rw[lN r];exact q⟩
  ·subst e'
   obtain ⟨its,r,pl,hz⟩:=I.tuple hx
   have hlen:=r.length
   exact truthy_tuple pl (by simp only[D4];lia) ⟨H,I.tok _,by rw[lN r];exact q⟩
  ·subst e'
   obtain ⟨hz,hS,vs,r,m⟩:kvs.length<=Ei/\(p == sysModules)=false/\∃vs,KV kvs vs/\s.heap.DictOf (bH X.prog X.w) p vs:=I.hok p _ hx
   have hlen:kvs.length=vs.length:=G4 r
   exact wpAny_truthy_dict hS m (by lia) ⟨H,I.tok _,by rw[sP r];exact q⟩
 | _=>exact (show False from e).elim
theorem xO (ha:PE X a ta)(he:∀whole,isTrue a X.env whole=(do let v ← whole;standAt a.pos;Jv [v] (truthy v))) :
    PT X a (λσ H Q=>ta σ H λx H'=>∃k,Dl X.K x H' k/\Q k H'):=by
  intro pins s σ H Q I h
  exact isTrue_plain (thn (ha pins s σ H _ I h) λv s1 ⟨x,H1,I1,r1,q1⟩=>BV pins s1 σ H1 x v Q I1 r1 q1) (he _)
theorem vals1 {x:V}{us:List D1}(r:Vals [x] us):∃u,us=[u]/\RelV x u:=by
 cases r with
 | cons r1 r2=>cases r2;exact ⟨_,rfl,r1⟩
theorem vals2 {x y:V}{us:List D1}(r:Vals [x,y] us):∃u w',us=[u,w']/\RelV x u/\RelV y w':=by
 cases r with
 | cons r1 r2 =>
  cases r2 with
  | cons r3 r4=>cases r4;exact ⟨_,_,rfl,r1,r3⟩
theorem jP (hc:X.calm=true):bZ X (.builtin "max") (λxs H Q=>∃i j,xs=[.int i,.int j]/\Q (.int (if j>i then j else i)) H):=by
 intro pins s σ H xs us Q I r h
 obtain ⟨i,j,rfl,q⟩:=h
 obtain ⟨u,w',rfl,⟨t,rfl⟩,⟨t',rfl⟩⟩:=vals2 r
 refine max_two_ints (I.ok.hd hc) λh' tk k=>⟨_,H,I.kept k,?_,q⟩
 by_cases hj:j>i
 ·rw[if_pos hj,if_pos hj];exact ⟨_,rfl⟩
 ·rw[if_neg hj,if_neg hj];exact ⟨_,rfl⟩
theorem hU (hc:X.calm=true):bZ X (.builtin "min") (λxs H Q=>∃i j,xs=[.int i,.int j]/\Q (.int (if j<i then j else i)) H):=by
 intro pins s σ H xs us Q I r h
 obtain ⟨i,j,rfl,q⟩:=h
 obtain ⟨u,w',rfl,⟨t,rfl⟩,⟨t',rfl⟩⟩:=vals2 r
 refine min_two_ints (I.ok.hd hc) λh' tk k=>⟨_,H,I.kept k,?_,q⟩
 by_cases hj:j<i
 ·rw[if_pos hj,if_pos hj];exact ⟨_,rfl⟩
 ·rw[if_neg hj,if_neg hj];exact ⟨_,rfl⟩
end
section
variable  {prog:Eo}{w:ES}{A:Fi}{E:D1->D5->Prop}{s:D5}{K:D2}{x dx C f:Addr}{mA:Str->Option D1}{name:Str}{v:D1}
end
theorem nE.some_of {v:V}{o:Option D1}(r:nE (some v) o):∃u,o=some u/\RelV v u:=by
 cases o with
 | none=>exact (show False from r).elim
 | some u=>exact ⟨u,rfl,r⟩
section
variable  {P:Eo}{w:ES}{H H':Hp}{h h':Heap}{a C dx:Addr}{fs fs':List (Str×V)}
end
section
variable  {X:Cx}{pins:List (Addr×Obj)}{σ:St}{H:Hp}{s:D5}{a C dx:Addr}{fs:List (Str×V)}{f:Str}{v:V}{A:Fi}{E:D1->D5->Prop}
end
section
variable  {X:Cx}{o e value:Expr}{f:Str}{pos pos' tpos:Pos}{ta tv:TE}
end
section
variable  {X:Cx}{pins:List (Addr×Obj)}{σ:St}{H:Hp}{s:D5}{A:Fi}{E:D1->D5->Prop}{Q:D1->D5->Prop}{c:D1}{b:Bool}
end
structure cy (k:Nat)(A:Fi):Prop where
 hd:A.handled=none
 dp:A.depth+3*k+5<recursionLimit
 un:A.units+16*k+200<cLine
theorem cy.mono {j k:Nat}{A:Fi}(r:cy k A)(h:j<=k):cy j A:=⟨r.hd,by have:=r.dp;lia,by have:=r.un;lia⟩
theorem cy.deeper {k:Nat}{A:Fi}(r:cy (k+1) A)(env:Env):cy k (A.deeper env) :=
 ⟨r.hd,by have:=r.dp;show A.depth+1+3*k+5<_;lia,by have:=r.un;show A.units+3+16*k+200<_;lia⟩
theorem cy.depth {k:Nat}{A:Fi}(r:cy k A):A.depth<recursionLimit:=by have:=r.dp;lia
theorem cy.units {k:Nat}{A:Fi}(r:cy k A):A.units+64<cLine:=by have:=r.un;lia
def tNil:TA:=λ_ H Q=>Q [] H
def Dm (ta:TE)(tr:TA):TA:=λσ H Q=>ta σ H λx H1=>tr σ H1 λxs H2=>Q (x :: xs) H2
section
variable  {X:Cx}{e:Expr}{es:List Expr}{te:TE}{t:TA}{pos:Pos}
theorem af:PA X [] tNil:=λ_ _ _ _ H Q I h=>Calls.spliced_nil ⟨[],H,I,.nil,h⟩
theorem aa (ha:PE X e te)(hr:PA X es t)(hs:E5 (e :: es) X.env=(false,eval e X.env) :: E5 es X.env:=by rfl):PA X (e :: es) (Dm te t):=by
 intro pos pins s σ H Q I h
 rw[hs]
 show Es _ _ (spliced ((false,eval e X.env) :: Ig pos (E5 es X.env))) _ _ s
 refine Calls.spliced_cons (thn (ha pins s σ H _ I h) λu s1 ⟨x,H1,I1,r1,q1⟩ =>?_)
 exact thn (hr pos pins s1 σ H1 _ I1 q1) λus s2 ⟨xs,H2,I2,r2,q2⟩=>⟨x :: xs,H2,I2,.cons r1 r2,q2⟩
def tTup (t:TA):TE:=λσ H Q=>t σ H λxs H1=>xs.length<=Ei/\∀p,H1 p=none->Q (.ref p) (upd H1 p (.tup xs))
def tLst (t:TA):TE:=λσ H Q=>t σ H λxs H1=>xs.length<=Ei/\∀p,H1 p=none->Q (.ref p) (upd H1 p (.lst xs))
theorem bP {x1}(h:PA X es t):PE X (.Tuple es x1 pos) (tTup t):=by
 intro pins s σ H Q I hq
 refine wpAny_Tuple_spliced (thn (h pos pins s σ H _ I hq) λus s1 ⟨xs,H1,I1,r,z,q⟩=>⟨by rw[<- r.length];exact z,?_⟩)
 have hf:H1 s1.heap.objs.size=none:=I1.hok.fresh (D6 _)
 refine ⟨.ref s1.heap.objs.size,upd H1 s1.heap.objs.size (.tup xs),I1.laid (t':=s1.toks) (λb u e=>DZ _ e) (D6 _) ?_,rfl,q _ hf⟩
 exact ⟨z,us,r,⟨_,Ed _ rfl,⟨rfl,rfl⟩,_,rfl⟩⟩
theorem bR (h:PA X es t):PE X (.List es pos) (tLst t):=by
 intro pins s σ H Q I hq
 refine wpAny_List_spliced (thn (h pos pins s σ H _ I hq) λus s1 ⟨xs,H1,I1,r,z,q⟩=>⟨by rw[<- r.length];exact z,?_⟩)
 have hf:H1 s1.heap.objs.size=none:=I1.hok.fresh (D6 _)
 refine ⟨.ref s1.heap.objs.size,upd H1 s1.heap.objs.size (.lst xs),I1.laid (t':=s1.toks) (λb u e=>DZ _ e) (D6 _) ?_,rfl,q _ hf⟩
 exact ⟨z,us,0,r,Ed _ rfl⟩
end
abbrev Sp:=List V->Hp->VK->XK->Prop
abbrev CXT:=List Env->Hp->D5->XK->D1->D5->Prop
structure zU (P:Eo)(w:ES)(K:D2)(mg:Str->Option D1)(base:Heap)(A:Fi)(outer:List Env)(s:D5)(H:Hp):Prop where
 frames:A.frames=some outer
 mod:Mod K mg base
 bs:∀b o,base.get? b=some o->s.heap.get? b=some o/\H b=none
 bsz:base.objs.size<=s.heap.objs.size
 funs:s.heap.FunFrames base outer
 frf:∀b∈frs outer,H b=none
 hok:HOk P w H s.heap
 bare:AllBare s.gens
def CE (outer:List Env)(P:Eo)(w:ES)(H:Hp)(s:D5)(Q:VK)(u:D1)(s':D5):Prop :=
 ∃v H',s'.os=s.os/\AllBare s'.gens/\Un (frs outer) [] H H' s.heap s'.heap/\HOk P w H' s'.heap/\RelV v u/\Q v H'
def CR (CX:CXT)(outer:List Env)(P:Eo)(w:ES)(H:Hp)(s:D5)(Q:VK)(E:XK)(r:Result)(s':D5):Prop :=
 match r with
 | .ok (.ret u)=>CE outer P w H s Q u s'
 | .ok _=>False
 | .error e=>CX outer H s E e s'
structure bB (P:Eo)(w:ES)(K:D2)(mg:Str->Option D1)(base:Heap)(CX:CXT)(k:Nat)(f:Addr)(fd:Fb)(ps:List Str)(sp:Sp):Prop where
 len:∀vs H Q E,sp vs H Q E->vs.length=ps.length
 run:∀(A:Fi) (outer:List Env) (s:D5) (H:Hp) (args:Args) (us:List D1) (vs:List V) (Q:VK) (E:XK),cy k A->zU P w K mg base A outer s H->BindsTo s fd args (ps.zip us)->Vals vs us->sp vs H Q E →
  Jb (EF P w) A (.call (.ref f) args) (CR CX outer P w H s Q E) s
section
variable  {X:Cx}{pins:List (Addr×Obj)}{σ:St}{H:Hp}{s s':D5}
theorem Inv.Dn (I:Inv X pins σ H s):zU X.prog X.w X.K X.mg X.base X.A X.stack s H :=
 ⟨I.ok.frames,I.ok.mod,I.bs,ET I.ok.bsz I.sz,I.stack,I.pM,I.hok,I.bare⟩
theorem Inv.after {Q:VK}{u:D1}(I:Inv X pins σ H s)(h:CE X.stack X.prog X.w H s Q u s'):EP X pins σ Q u s':=by
 obtain ⟨v,H',os,bare,un,hok,r,q⟩:=h
 obtain ⟨hh,g,d,t,os'⟩:=s'
 obtain rfl:os'=s.os:=os
 exact ⟨v,H',I.call (h':=hh) (g':=g) (d':=d) (t':=t) (ch:=[]) un hok bare (λb z=>absurd z (by simp)),r,q⟩
end
def xP (sp:Sp)(dvs:List V)(E:XK)(t:TA):TE:=λσ H Q=>t σ H λvs H1=>sp (vs++dvs) H1 Q E
def Binds (K:D2)(fd:Fb)(ps:List Str)(ds:List D1):Prop :=
 ∀(s:D5) (us:List D1),K.In s.heap->(us++ds).length=ps.length->BindsTo s fd ⟨us,[]⟩ (ps.zip (us++ds))
theorem Binds.all {K:D2}{fd:Fb}{ps:List Str}(h:∀us:List D1,us.length=ps.length->bindArgs fd ⟨us,[]⟩=pure (ps.zip us)):Binds K fd ps []:=λs us _ hl=>by
 rw[EN] at hl ⊢
 exact .of_eq (h us hl)
def Passes (CX:CXT)(X:Cx)(E:XK):Prop:=∀(pins:List (Addr×Obj)) (σ:St) (H:Hp) (s:D5) (e:D1) (s':D5),Inv X pins σ H s->CX X.stack H s E e s'->X.xe e s'
section
variable  {X:Cx}{CX:CXT}{k:Nat}{f C:Addr}{fd:Fb}{ps:List Str}{sp:Sp}{dvs:List V}{ds:List D1}{E:XK}{x m:Str}{p pos apos:Pos}{e o:Expr}{es:List Expr}{ta:TE}{t:TA}
theorem BW {pins:List (Addr×Obj)}{σ:St}{H:Hp}{s:D5}{Q:VK}{us:List D1}{vs:List V}(F:bB X.prog X.w X.K X.mg X.base CX k f fd ps sp)(hr:cy k X.A)(hb:Binds X.K fd ps ds)(hd:Vals dvs ds)(hx:Passes CX X E)
  (I:Inv X pins σ H s) (r:Vals vs us) (h:sp (vs++dvs) H Q E):Es (EF X.prog X.w) X.A (call (.ref f) us) (EP X pins σ Q) X.xe s:=by
 have r2:Vals (vs++dvs) (us++ds):=r.append hd
 have hl:(us++ds).length=ps.length:=by rw[<- r2.length];exact F.len _ _ _ _ h
 refine Lq (Ie (F.run X.A X.stack s H ⟨us,[]⟩ (us++ds) (vs++dvs) Q E hr I.Dn (hb s us I.kIn hl) r2 h) λr s' hq =>?_)
 cases r with
 | error e=>exact hx pins σ H s e s' I hq
 | ok fl =>
  cases fl with
  | ret u=>exact I.after hq
  | next=>exact False.elim hq
  | brk=>exact False.elim hq
  | cont=>exact False.elim hq
theorem uL (F:bB X.prog X.w X.K X.mg X.base CX k f fd ps sp)(hr:cy k X.A)(hg:Gl X x)(hm:X.mg x=some (.ref f))(hk:PySem.W.keepIn X.K (.ref f)=true)(hb:Binds X.K fd ps ds)(hd:Vals dvs ds)(hx:Passes CX X E)
  (ha:PA X (e :: es) t) (hdb:(x == ("__debug__" : Str))=false:=by decide) (he:E5 (e :: es) X.env=(false,eval e X.env) :: E5 es X.env:=by rfl) (hpl:(Ig pos (E5 es X.env)).any (·.1)=false:=by rfl) :
  PE X (.Call (.Name x p) (e :: es) [] pos) (xP sp dvs E t):=by
 intro pins s σ H Q I h
 refine Ho (i7 I hg hm ?_ hdb)
 refine L9 (h₀:=X.base) I.ok.mod.kin hk (thn (ha pos pins s σ H _ I h) λus s1 ⟨vs,H1,I1,r,q⟩=>⟨I1.kIn,?_⟩) he hpl
 exact BW F hr hb hd hx I1 r q
end
section
variable  {X:Cx}{CX:CXT}{k:Nat}{f C:Addr}{fd:Fb}{ps ks:List Str}{sp:Sp}{E:XK}{x m:Str}{p pos apos kpos:Pos}{e o:Expr}{es:List Expr}{kws:List Keyword}{te ta:TE}{t tk:TA}{nm:Option Str}
variable  {g:List D1->List D1->List D1}{gV:List V->List V->List V}
end
structure aB (N P:List Str)(sc:Scope):Prop where
 kind:sc.kind = .function
 co:sc.isCoroutine=false
 gen:sc.isGenerator=false
 nd:N.Nodup
 pre:N.take P.length=P
 par:∀x∈P,sc.names.lookup x=some .local\/sc.names.lookup x=some .cell
 nofree:∀y∈sc.names,y.2 ≠ .free
theorem oa {kindOf:Str->Option NameKind}{x:Str}:∀{binds:List (Str×D1)} {m:Str->Option D1},(∀v,(x,v)∉binds)->bindL kindOf binds m x=m x
 | [],_,_=>rfl
 | (n,v) :: r,m,h=>by
  unfold bindL
  rw[oa λw hw=>h w (Eg _ hw)]
  split
  ·have:x≠n:=by rintro rfl;exact h v D8
   simp[this]
  ·rfl
theorem og {kindOf:Str->Option NameKind}{x:Str}:∀{binds:List (Str×D1)} {m:Str->Option D1},(∀v,(x,v)∉binds)->bindC kindOf binds m x=m x
 | [],_,_=>rfl
 | (n,v) :: r,m,h=>by
  unfold bindC
  rw[og λw hw=>h w (Eg _ hw)]
  split
  ·rfl
  ·have:x≠n:=by rintro rfl;exact h v D8
   simp[this]
theorem oi {kindOf:Str->Option NameKind}{x:Str}{v:D1}:∀{P:List Str} {vs:List D1} {i:Nat} {m:Str->Option D1},P.Nodup->P[i]? = some x->vs[i]? = some v->kindOf x=some .local →
  bindL kindOf (P.zip vs) m x=some v
 | [],_,_,_,_,h,_,_=>by simp at h
 | _ :: _,[],_,_,_,_,h,_=>by simp at h
 | p :: P,w :: vs,0,m,nd,h1,h2,hk=>by
  simp at h1 h2;subst h1;subst h2
  show bindL kindOf ((p,w) :: P.zip vs) m p=_
  unfold bindL
  rw[oa λv hv=>(FC.mp nd).1 (JF hv).1,if_pos hk]
  simp
 | p :: P,w :: vs,i+1,m,nd,h1,h2,hk=>by
  show bindL kindOf ((p,w) :: P.zip vs) m x=_
  unfold bindL
  exact oi (i:=i) (FC.mp nd).2 (by simpa using h1) (by simpa using h2) hk
theorem oj {kindOf:Str->Option NameKind}{x:Str}{v:D1}:∀{P:List Str} {vs:List D1} {i:Nat} {m:Str->Option D1},P.Nodup->P[i]? = some x->vs[i]? = some v->kindOf x≠some .local →
  bindC kindOf (P.zip vs) m x=some v
 | [],_,_,_,_,h,_,_=>by simp at h
 | _ :: _,[],_,_,_,_,h,_=>by simp at h
 | p :: P,w :: vs,0,m,nd,h1,h2,hk=>by
  simp at h1 h2;subst h1;subst h2
  show bindC kindOf ((p,w) :: P.zip vs) m p=_
  unfold bindC
  rw[og λv hv=>(FC.mp nd).1 (JF hv).1,if_neg hk]
  simp
 | p :: P,w :: vs,i+1,m,nd,h1,h2,hk=>by
  show bindC kindOf ((p,w) :: P.zip vs) m x=_
  unfold bindC
  exact oj (i:=i) (FC.mp nd).2 (by simpa using h1) (by simpa using h2) hk
def start (N:List Str)(vs:List V):St:=vs.map some++Fc (N.length-vs.length) none
def gA (CX:CXT)(P:Eo)(w:ES)(K:D2)(mg:Str->Option D1)(base:Heap)(N:List Str)(qual:Str)(scope:Scope)(f:Addr)(cd:D1)(A:Fi)(outer:List Env)(s:D5)(H:Hp)(E:XK):Cx where
 prog:=P
 w:=w
 K:=K
 mg:=mg
 base:=base
 A:=A.deeper (envOfC qual scope s.heap.objs.size f cd)
 N:=N
 s₀:=s
 H₀:=H
 env:=envOfC qual scope s.heap.objs.size f cd
 outer:=outer
 stack:=envOfC qual scope s.heap.objs.size f cd :: outer
 ex:=[]
 calm:=true
 fn:=λ_=>true
 pn:=[]
 xe:=λe s'=>Es (EF P w) (A.deeper (envOfC qual scope s.heap.objs.size f cd)) (leaving (envOfC qual scope s.heap.objs.size f cd) e) (λ_ s''=>CX outer H s E e s'') (λe' s''=>CX outer H s E e' s'') s'
theorem qG {sc:Scope}{n:Nat}{x:Str}(h:sc.names.lookup x=some .cell):∃c,(cellsFrom n sc.names []).lookup x=some c:=by
 have q:=KS sc.names n [] (.inl h)
 exact IG.mp q
theorem v7 {CX:CXT}{P:Eo}{w:ES}{K:D2}{mg:Str->Option D1}{base:Heap}{N ps:List Str}{qual:Str}{scope:Scope}{f:Addr}{cd:D1}{A:Fi}{outer:List Env}{s s1:D5}{H:Hp}{E:XK}{us:List D1}{vs:List V}
  (S:aB N ps scope) (hd:A.handled=none) (e0:zU P w K mg base A outer s H) (hl:vs.length=ps.length) (r:Vals vs us)
  (x:InCallC s s.heap.objs.size (bindL (envOfC qual scope s.heap.objs.size f cd).kindOf (ps.zip us) λ_=>none) (cellsFrom (s.heap.objs.size+1) scope.names []) (bindC (envOfC qual scope s.heap.objs.size f cd).kindOf (ps.zip us) λ_=>none) s1) :
  Inv (gA CX P w K mg base N qual scope f cd A outer s H E) [] (start N vs) H s1:=by
 have hpl:ps.length<=N.length:=by have:=congrArg List.length S.pre;rw[Ff] at this;lia
 obtain ⟨h1,tk,rfl,hk⟩:=x.done
 have noA:∀b:Addr,b∉(gA CX P w K mg base N qual scope f cd A outer s H E).ex:=λb z=>absurd (show b∈([]:List Addr) from z) (by simp)
 refine ⟨⟨e0.mod,S.kind,rfl,rfl,D6 _,λy z c h1 h2 =>?_,λy hy =>?_,λy c _ h =>?_,λ_=>hd,Around.frames_deeper e0.frames,.inr ⟨rfl,rfl⟩,λb z=>absurd z (noA b),e0.bs,e0.bsz,λb _ _=>noA b,λb z=>absurd z (noA b),e0.funs,e0.frf⟩,
  rfl,e0.bare,Un.kept hk,⟨_,x.toInCall.ns,λi y v h1 h2 h3 =>?_⟩,λy c h=>⟨_,x.cell y c h⟩,e0.hok.fresh (D6 _),λy c h =>?_,λp hp=>absurd (show p∈([]:List (Addr×Obj)) from hp) (by simp),e0.hok.kept hk,?_⟩
 ·exact name_of_addr x.apart (G9 h1) (G9 h2)
 ·have hy:scope.names.lookup y=some .cell\/scope.names.lookup y=some .free:=hy
  rcases hy with hy | hy
  ·exact qG hy
  ·exact absurd rfl (S.nofree _ (G9 hy))
 ·exact HU (x.above y c (G9 h))
 ·have hi:i<vs.length:=by
   unfold start at h2
   by_cases hi:i<vs.length
   ·exact hi
   ·rw[Gj (by simpa using hi)] at h2
    rw[IM] at h2
    split at h2 <;> cases h2
  have ha:vs[i]? = some v:=by
   unfold start at h2
   rw[GR (by simpa using hi),En] at h2
   cases e:vs[i]? with
   | none=>rw[e] at h2;cases h2
   | some a=>rw[e] at h2;cases h2;rfl
  obtain ⟨u,hu,rv⟩:=r.get ha
  have hp:ps[i]? = some y:=by
   rw[<- S.pre,Ki (by lia)];exact h1
  have ndP:ps.Nodup:=by rw[<- S.pre];exact S.nd.sublist (FK _ _)
  refine ⟨u,rv,?_⟩
  rcases S.par y (Eb hp) with k | k
  ·exact .inl ⟨k,oi ndP hp hu k⟩
  ·obtain ⟨c,e⟩:=qG (n:=s.heap.objs.size+1) k
   refine .inr ⟨.inl k,c,e,?_⟩
   have q:=x.cell y c e
   rw[oj ndP hp hu (by show scope.names.lookup y≠_;rw[k];decide)] at q
   exact q
 ·exact e0.hok.fresh (HU (x.above y c (G9 h)))
 ·unfold start
  show _=N.length
  rw[D7,DY,Jl]
  lia
theorem Bo {CX:CXT}{P:Eo}{w:ES}{K:D2}{mg:Str->Option D1}{base:Heap}{k:Nat}{f:Addr}{name qual:Str}{params:Arguments}{body:List Stmt}{scope:Scope}{dV kV doc pm cdv ct oc:D1}{an od:Option Addr}
  {osl:Array (Option D1)} {N ps:List Str} {sp:Sp} (lk:K.lookup f=some ⟨oc,od,.func (PySem.W.fnOf name qual params body scope dV kV doc pm an cdv ct),osl⟩) (hcd:PySem.W.codeIn K cdv qual=true) (S:aB N ps scope)
  (len:∀vs H Q E,sp vs H Q E->vs.length=ps.length)
  (hbody:∀(A:Fi) (outer:List Env) (s:D5) (H:Hp) (vs:List V) (Q:VK) (E:XK),cy k (A.deeper (envOfC qual scope s.heap.objs.size f cdv))->sp vs H Q E →
   ∃t,PSs (gA CX P w K mg base N qual scope f cdv A outer s H E) body t/\t { nx:=λ_ H'=>Q .non H',rt:=Q } (start N vs) H) :
  bB P w K mg base CX (k+1) f (PySem.W.fnOf name qual params body scope dV kV doc pm an cdv ct) ps sp:=by
 refine ⟨len,λA outer s H args us vs Q E hr e0 hb r hsp =>?_⟩
 have hl:=len _ _ _ _ hsp
 have KX:K.In s.heap:=e0.mod.kin.keeps λb o e=>(e0.bs b o e).1
 have lim:s.heap.NoLimit:=e0.mod.nolimit.keeps λb o e=>(e0.bs b o e).1
 have hkind:∀y∈ps.zip us,scope.names.lookup y.1=some .local\/(scope.names.lookup y.1=some .cell/\((cellsFrom (s.heap.objs.size+1) scope.names []).lookup y.1).isSome=true):=λ⟨n,v⟩ hy=>by
  rcases S.par n (JF hy).1 with q | q
  ·exact .inl q
  ·exact .inr ⟨q,KS _ _ _ (.inl q)⟩
 refine codeAny_call_function hr.depth (KX _ _ lk) rfl S.co S.gen rfl (PySem.W.codeRec_of KX hcd) (hb _ _ _ _ ?_)
 refine wpAny_newFunctionEnv_cells S.kind hkind λenv he s1 x =>?_
 subst he
 refine ⟨lim.keeps x.toInCall.keep,codeAny_func ?_⟩
 obtain ⟨t,ht,hq⟩:=hbody A outer s H vs Q E (hr.deeper _) hsp
 have I:Inv (gA CX P w K mg base N qual scope f cdv A outer s H E) [] (start N vs) H s1:=v7 S hr.hd e0 hl r x
 refine Gp (ht [] s1 (start N vs) H _ I hq) (λfl s' hs =>?_) λe s' hs=>hs
 have fin:∀{σ':St} {H':Hp} {v:V} {u:D1},Inv (gA CX P w K mg base N qual scope f cdv A outer s H E) [] σ' H' s'->RelV v u->Q v H'->CE outer P w H s Q u s' :=
  λ{σ' H' v u} J rv q=>⟨v,H',J.os,J.bare,J.base,J.hok,rv,q⟩
 cases fl with
 | ret u =>
  obtain ⟨v,σ',H',J,rv,q⟩:=hs
  exact fin J rv q
 | next =>
  obtain ⟨σ',H',J,q⟩:=hs
  exact fin (v:=V.non) (u:=GA) J rfl q
 | brk =>
  obtain ⟨_,_,_,q⟩:=hs
  exact False.elim q
 | cont =>
  obtain ⟨_,_,_,q⟩:=hs
  exact False.elim q
section
variable  {X:Cx}{x:Str}{p pos:Pos}{e:Expr}{es:List Expr}{t:TA}{id T:String}{r:List V->Hp->VK->Prop}
def tCB (r:List V->Hp->VK->Prop)(t:TA):TE:=λσ H Q=>t σ H λvs H1=>r vs H1 Q
theorem av (hc:bZ X (.builtin id) r)(hg:Gl X x)(hm:X.mg x=none)(hv:Fx x=some (.builtin id))(ha:PA X (e :: es) t)(hn:x ≠ "__name__" := by decide)(hdb:(x == ("__debug__" : Str))=false:=by decide)
  (he:E5 (e :: es) X.env=(false,eval e X.env) :: E5 es X.env:=by rfl) (hpl:(Ig pos (E5 es X.env)).any (·.1)=false:=by rfl):PE X (.Call (.Name x p) (e :: es) [] pos) (tCB r t):=by
 intro pins s σ H Q I h
 refine Ho (fB I hg hm hv ?_ hn hdb)
 exact PyProof.Rows.callWith_builtin1 (thn (ha pos pins s σ H _ I h) λus s1 ⟨vs,H1,I1,r1,q1⟩=>hc pins s1 σ H1 vs us Q I1 r1 q1) he hpl
theorem aQ (hc:bZ X (.type T) r)(hg:Gl X x)(hm:X.mg x=none)(hv:Fx x=some (.type T))(ha:PA X (e :: es) t)(hn:x ≠ "__name__" := by decide)(hdb:(x == ("__debug__" : Str))=false:=by decide)
  (he:E5 (e :: es) X.env=(false,eval e X.env) :: E5 es X.env:=by rfl) (hpl:(Ig pos (E5 es X.env)).any (·.1)=false:=by rfl):PE X (.Call (.Name x p) (e :: es) [] pos) (tCB r t):=by
 intro pins s σ H Q I h
 refine Ho (fB I hg hm hv ?_ hn hdb)
 exact HV (thn (ha pos pins s σ H _ I h) λus s1 ⟨vs,H1,I1,r1,q1⟩=>hc pins s1 σ H1 vs us Q I1 r1 q1) he hpl
end
end L2
namespace HT
open PySem PyProof.Rows
def lexLt:List Int->List Int->Bool
 | [],[]=>false
 | [],_ :: _=>true
 | _ :: _,[]=>false
 | x :: xs,y :: ys=>if x=y then lexLt xs ys else decide (x<y)
theorem fD (x y:Int)(xs ys:List Int):lexLt (x :: xs) (y :: ys)=if x=y then lexLt xs ys else decide (x<y):=rfl
theorem xQ (A:Fi)(s:D5)(a:Int)(t:Tok)(c:Int)(u:Tok)(prog:Eo)(w:ES)(E:D1->D5->Prop)(Q:D1->D5->Prop)(h:Q (.bool (decide (a<c))) s) :
  Es (EF prog w) A (richCompare .Lt (.int a t) (.int c u)) Q E s :=
 (PyProof.Rows.lt_int h:Es (EF prog w) A (FP .Lt (.int a t) (.int c u)) Q E s)
section
open PySem.SeqAt
open PySem.AutoSeq1 (wpAny_loadPart')
open PySem.MeetsSeq PySem.MeetsSeq2 PySem.MeetsSeq3
end
section
variable  {prog:Eo}{w:ES}{A:Fi}{E:D1->D5->Prop}{s:D5}
theorem zV {t b:Addr}{vs ws:List D1}{Q:D1->D5->Prop}(ht:IsTup s.heap t vs.toArray)(hb:IsTup s.heap b ws.toArray)(hv:vs≠[])
  (h1:ws=[]->Q (.ref t) s) (h2:ws≠[]->Q (.ref s.heap.objs.size) { s with heap:=s.heap.push { cls :=.type "tuple",data :=.seq (vs++ws).toArray } })
  (hsz:vs.length+ws.length<=Ei):Es (EF prog w) A (binaryOp .Add (.ref t) (.ref b)) Q E s:=by
 obtain ⟨⟨cls,dd,data,sl⟩,ho,hc,n,hd⟩:=id ht
 obtain ⟨⟨cls2,dd2,data2,sl2⟩,ho2,hc2,n2,hd2⟩:=id hb
 simp only at hc hd hc2 hd2
 subst hc hd hc2 hd2
 have e:vs.toArray++ws.toArray=(vs++ws).toArray:=by simp
 by_cases hw:ws=[]
 ·exact Li ⟨_,ho,rfl⟩ ⟨_,ho2,rfl⟩ KP Ml Jc IP (IH _ _)
   (tuple_addW1 t b vs.toArray ws.toArray n n2 dd dd2 sl sl2 (by simpa using hv) (by simp[hw])) ⟨ho,ho2,h1 hw⟩
 ·refine Li ⟨_,ho,rfl⟩ ⟨_,ho2,rfl⟩ KP Ml Jc IP (IH _ _)
   (tuple_addW2 t b vs.toArray ws.toArray n n2 dd dd2 sl sl2 (by simpa using hv) (by simpa using hw) (by rw[D4,D4];exact hsz)) ⟨ho,ho2,?_⟩
  rw[e]
  exact h2 hw
def sIx (n d:Nat):Option Int->Nat
 | none=>d
 | some v=>if v<0 then (v+(n:Int)).toNat else min v.toNat n
theorem xR (n d:Nat):sIx n d none=d:=rfl
theorem zW (n d k:Nat):sIx n d (some (k:Int))=min k n:=by
 show (if (k:Int)<0 then ((k:Int)+(n:Int)).toNat else min (k:Int).toNat n)=min k n
 rw[if_neg (by lia),Fo]
theorem BX (n d:Nat)(hd:d<=n)(o:Option Int):sIx n d o<=n:=by
 cases o with
 | none=>exact hd
 | some v =>
  show (if v<0 then (v+(n:Int)).toNat else min v.toNat n)<=n
  by_cases hv:v<0
  ·rw[if_pos hv];lia
  ·rw[if_neg hv];exact Nat.min_le_right _ _
theorem uM (v:Int)(n d:Nat):(if v<0 then max (v+(n:Int)) 0 else min v (n:Int))=((sIx n d (some v):Nat):Int):=by
 show (if v<0 then max (v+(n:Int)) 0 else min v (n:Int))=(((if v<0 then (v+(n:Int)).toNat else min v.toNat n):Nat):Int)
 by_cases hv:v<0
 ·simp only[if_pos hv];lia
 ·simp only[if_neg hv];lia
theorem sQ (lo hi:Option Int)(n:Nat):Builtin.Slice.sliceAdjust lo hi 1 (n:Int)=(((sIx n 0 lo:Nat):Int),((sIx n n hi:Nat):Int)):=by
 have h1:¬ ((1:Int)<0):=by lia
 unfold Builtin.Slice.sliceAdjust
 simp only[h1,if_false]
 refine Ma ?_ ?_
 ·cases lo with
  | none=>rfl
  | some v=>exact uM v n 0
 ·cases hi with
  | none=>rfl
  | some v=>exact uM v n n
theorem sR (i j:Nat):Builtin.Slice.slicePlaces (i:Int) (j:Int) 1=j-i:=by
 unfold Builtin.Slice.slicePlaces
 have h1:(1:Int)>0:=by lia
 simp only[h1,if_true,Int.ediv_one]
 split <;> lia
theorem lO {v:D1}{o:Option Int}{Q:Option Int->D5->Prop}(p:IsPart v o)(h:Q o s):Es (EF prog w) A (Builtin.Slice.slicePartIndex v) Q E s:=by
 cases p with
 | none=>exact slicePart_none h
 | int i t=>exact slicePart_int h
theorem eU {sl:Addr}{vl vu:D1}{lo hi:Option Int}{n:Nat}{Q:Int×Int×Nat->D5->Prop}(hs:s.heap.IsSliceOf sl vl vu .none)(pl:IsPart vl lo)(pu:IsPart vu hi)
  (h:Q (((sIx n 0 lo:Nat):Int),1,sIx n n hi-sIx n 0 lo) s):Es (EF prog w) A (Builtin.Slice.sliceApplied (.ref sl) (pure (n:Int))) Q E s:=by
 obtain ⟨os,hos,hcs,hds⟩:=id hs
 unfold Builtin.Slice.sliceApplied Builtin.Slice.sliceFields
 refine DX (DX (GG hos hds (x:=vl) rfl (DX (GG hos hds (x:=vu) rfl (DX (GG hos hds (x :=.none) rfl (D3 ?_)))))))
 refine DX (slicePart_none ?_)
 show Es _ _ (if ((1:Int) == 0)=true then _ else _) _ _ s
 rw[if_neg (by decide)]
 refine DX (lO pl (DX (lO pu (DX (D3 ?_)))))
 show Es _ _ (match Builtin.Slice.sliceAdjust lo hi 1 (n:Int) with | (lo,hi)=>pure (lo,(1:Int),Builtin.Slice.slicePlaces lo hi 1)) _ _ s
 rw[sQ lo hi n]
 show Es _ _ (pure (((sIx n 0 lo:Nat):Int),(1:Int),Builtin.Slice.slicePlaces ((sIx n 0 lo:Nat):Int) ((sIx n n hi:Nat):Int) 1)) _ _ s
 rw[sR]
 exact D3 h
theorem xS (xs:Array D1)(i k:Nat):((E2 k).filterMap λ(m:Nat)=>xs[((i:Int)+(m:Int)*1).toNat]?).toArray=((xs.toList.drop i).take k).toArray:=by
 have e:(λ(m:Nat)=>xs[((i:Int)+(m:Int)*1).toNat]?)=λm=>xs[i+m]? := by
  funext m
  have:((i:Int)+(m:Int)*1).toNat=i+m:=by lia
  rw[this]
 rw[e]
 have:=pick_run xs i k
 rw[List.filterMap_map] at this
 have e2:((λx=>xs[x]?) ∘ λx=>i+x)=λm=>xs[i+m]? := rfl
 rw[e2] at this
 rw[this]
theorem i8 {t sl:Addr}{items:Array D1}{vl vu:D1}{lo hi:Option Int}{Q:D1->D5->Prop}(ht:IsTup s.heap t items)(hs:s.heap.IsSliceOf sl vl vu .none)(pl:IsPart vl lo)(pu:IsPart vu hi)
  (hw:¬ (sIx items.size 0 lo=0/\sIx items.size items.size hi=items.size))
  (h:Q (.ref s.heap.objs.size) { s with heap:=s.heap.push { cls :=.type "tuple",data :=.seq ((items.toList.drop (sIx items.size 0 lo)).take (sIx items.size items.size hi-sIx items.size 0 lo)).toArray } })
  (hsz:items.size<=Ei):Es (EF prog w) A (getItem (.ref t) (.ref sl)) Q E s:=by
 have htake:sizeOk (.seq ((items.toList.drop (sIx items.size 0 lo)).take (sIx items.size items.size hi-sIx items.size 0 lo)).toArray):=by
  show ((items.toList.drop (sIx items.size 0 lo)).take (sIx items.size items.size hi-sIx items.size 0 lo)).toArray.size<=Ei
  rw[D4,Ff,FJ,D9]
  omega
 have hj:sIx items.size items.size hi<=items.size:=BX _ _ (D6 _) hi
 obtain ⟨os,hos,hcs,hds⟩:=id hs
 have hTs:s.TypeIs (.ref sl) "slice" :=⟨os,hos,hcs⟩
 unfold getItem
 try with_reducible refine Fe ?_
 first | refine DX (D3 ?_) | skip
 refine DX (MB ht.typeIs (by decide) ?_)
 refine DX (FD (name:=Str.ofString "__getitem__") ht.typeIs FL
  (FA FL ht.typeIs entry_tuple_getitem ?_ (Mm _ _)))
 show Es _ _ (Builtin.Tuple.tupleItemsOf (.ref t) >>= _) _ _ s
 refine DX (tupleItemsOf_ ht ?_)
 refine DX (GX hTs ?_)
 rw[if_pos (by decide)]
 refine DX (eU hs pl pu ?_)
 have hno:¬ ((((sIx items.size 0 lo:Nat):Int) == 0 && (1:Int) == 1 && (sIx items.size items.size hi-sIx items.size 0 lo) == items.size)=true):=by
  intro q
  rw[EO,EO] at q
  have q1:((sIx items.size 0 lo:Nat):Int)=0:=eq_of_beq q.1.1
  have q2:sIx items.size items.size hi-sIx items.size 0 lo=items.size:=eq_of_beq q.2
  exact hw ⟨by omega,by omega⟩
 show Es _ _ (if (((sIx items.size 0 lo:Nat):Int) == 0 && (1:Int) == 1 && (sIx items.size items.size hi-sIx items.size 0 lo) == items.size)=true then _ else _) _ _ s
 rw[if_neg hno,xS]
 first
  | exact DX (m:=Builtin.Tuple.tupleExact _) (Fq (D3 ⟨_,rfl,D3 h⟩) htake)
  | exact DX (m:=Builtin.Tuple.tupleExact _) (Fq (DX (D3 (D3 ⟨_,rfl,D3 h⟩))) htake)
  | exact DX (DX (m:=Builtin.Tuple.tupleExact _) (Fq (D3 (D3 ⟨_,rfl,D3 h⟩)) htake))
  | exact DX (DX (m:=Builtin.Tuple.tupleExact _) (Fq (D3 ⟨_,rfl,D3 h⟩) htake))
end
end HT
namespace L2
open PySem PySem.Spec PyProof.Rows
abbrev TO:=St->Hp->(Option Int->Hp->Prop)->Prop
def PO (X:Cx)(e:Option Expr)(t:TO):Prop :=
 ∀(pins:List (Addr×Obj)) (s:D5) (σ:St) (H:Hp) (Q:Option Int->Hp->Prop),Inv X pins σ H s->t σ H Q →
  Es (EF X.prog X.w) X.A (evalPart e X.env) (λu s'=>∃o H',Inv X pins σ H' s'/\IsPart u o/\Q o H') X.xe s
def zX:TO:=λ_ H Q=>Q none H
def Dp (t:TE):TO:=λσ H Q=>t σ H λx H1=>∃i,x = .int i/\Q (some i) H1
theorem intsAre_of {ns:List Int}:∀{us:List D1},Vals (ns.map V.int) us->He us ns:=by
 induction ns with
 | nil=>intro us r;rw[K3] at r;cases r;exact .nil
 | cons n ns ih =>
  intro us r
  rw[Ez] at r
  cases r with
  | cons r1 r2 =>
   obtain ⟨t,e⟩:=r1
   subst e
   exact .cons n t (ih r2)
section
variable  {X:Cx}{e:Expr}{te:TE}{lo hi:Option Expr}{tl th:TO}{pos p2:Pos}
theorem kW:PO X none zX:=by
 intro pins s σ H Q I h
 rw[evalPart_none]
 exact D3 ⟨none,H,I,.none,h⟩
theorem kX (h:PE X e te):PO X (some e) (Dp te):=by
 intro pins s σ H Q I hw
 rw[evalPart_some]
 refine thn (h pins s σ H _ I hw) λu s1 ⟨x,H1,I1,r1,q1⟩ =>?_
 obtain ⟨i,rfl,q⟩:=q1
 obtain ⟨t,rfl⟩:=r1
 exact ⟨some i,H1,I1,.int i t,q⟩
def SlR (X:Cx)(r:V->Option Int->Option Int->Hp->VK->Prop):Prop :=
 ∀(pins:List (Addr×Obj)) (s:D5) (σ:St) (H:Hp) (x:V) (v vl vu:D1) (lo hi:Option Int) (sl:Addr) (Q:VK),Inv X pins σ H s->RelV x v->s.heap.IsSliceOf sl vl vu .none->IsPart vl lo->IsPart vu hi->r x lo hi H Q →
  ∃T id,typeLookup (.type T) "__getitem__" = pure (some (.builtin id))/\s.TypeIs v T/\Es (EF X.prog X.w) X.A (getItem v (.ref sl)) (EP X pins σ Q) X.xe s
def tSl (r:V->Option Int->Option Int->Hp->VK->Prop)(te:TE)(tl th:TO):TE:=λσ H Q=>te σ H λx H1=>tl σ H1 λl H2=>th σ H2 λu H3=>r x l u H3 Q
theorem i9 {r:V->Option Int->Option Int->Hp->VK->Prop}(hr:SlR X r)(he:PE X e te)(hl:PO X lo tl)(hu:PO X hi th):PE X (.Subscript e (.Slice lo hi none p2) pos) (tSl r te tl th):=by
 intro pins s σ H Q I h
 refine Subscript_ (thn (he pins s σ H _ I h) λv s1 ⟨x,H1,I1,r1,q1⟩ =>?_)
 refine wpAny_Slice (thn (hl pins s1 σ H1 _ I1 q1) λvl s2 ⟨l,H2,I2,pl,q2⟩=>thn (hu pins s2 σ H2 _ I2 q2) λvu s3 ⟨u,H3,I3,pu,q3⟩ =>?_)
 rw[evalPart_none]
 refine D3 ?_
 have I4:Inv X pins σ H3 { s3 with heap:=s3.heap.push { cls :=.type "slice",data :=.fields #[vl,vu,.none] } }:=I3.kept (t':=s3.toks) λb ob q=>DZ _ q
 obtain ⟨T,id,hT,ht,hg⟩:=hr pins { s3 with heap:=s3.heap.push { cls :=.type "slice",data :=.fields #[vl,vu,.none] } } σ H3 x v vl vu l u s3.heap.objs.size Q I4 r1 (Np ..) pl pu q3
 show Es (EF X.prog X.w) X.A (subscriptTail e (.Slice lo hi none p2) v (.ref s3.heap.objs.size)) (EP X pins σ Q) X.xe { s3 with heap:=s3.heap.push { cls :=.type "slice",data :=.fields #[vl,vu,.none] } }
 exact tail_any (ops:=[.ref s3.heap.objs.size,v]) ht hT hg (by with_unfolding_all rfl)
def iF (xs:List V)(lo hi:Option Int):List V:=(xs.drop (HT.sIx xs.length 0 lo)).take (HT.sIx xs.length xs.length hi-HT.sIx xs.length 0 lo)
theorem kj (xs:List V)(lo hi:Option Int):(iF xs lo hi).length<=xs.length:=by
 unfold iF
 rw[Ff,FJ]
 lia
def rSlT (K:D2):V->Option Int->Option Int->Hp->VK->Prop:=λx lo hi H Q=>∃a xs,x = .ref a/\SqT K H a xs ∧
 ¬ (HT.sIx xs.length 0 lo=0/\HT.sIx xs.length xs.length hi=xs.length)/\∀p,H p=none->Q (.ref p) (upd H p (.tup (iF xs lo hi)))
theorem BY:SlR X (rSlT X.K):=by
 intro pins s σ H x v vl vu lo hi sl Q I rx hs pl pu h
 obtain ⟨a,xs,rfl,hx,hw,q⟩:=h
 cases rx
 obtain ⟨its,r,ht,hz⟩:=I.tuple hx
 have hlen:its.toArray.size=xs.length:=by rw[D4];exact r.length.symm
 refine ⟨"tuple",_,FL.lookup,ht.typeIs,?_⟩
 refine HT.i8 ht hs pl pu (by rw[hlen];exact hw) ?_ (by rw[hlen];exact hz)
 rw[hlen]
 refine ⟨.ref s.heap.objs.size,_,I.laid (t':=s.toks) (o :=.tup (iF xs lo hi)) (λb ob q=>DZ _ q) (D6 _) ?_,rfl,q _ (I.hok.fresh (D6 _))⟩
 exact ⟨ET (kj xs lo hi) hz,_,(r.drop (HT.sIx xs.length 0 lo)).take (HT.sIx xs.length xs.length hi-HT.sIx xs.length 0 lo),eG.new _ _⟩
def Dq (K:D2):R2:=λx y H Q=>∃a b xs ys,x = .ref a/\y = .ref b/\SqT K H a xs/\SqT K H b ys/\xs≠[]/\xs.length+ys.length<=Ei ∧
 (ys=[]->Q (.ref a) H)/\(ys≠[]->∀p,H p=none->Q (.ref p) (upd H p (.tup (xs++ys))))
theorem Vals.kY {xs:List V}{us:List D1}(r:Vals xs us):us=[]↔xs=[]:=by
 cases r with
 | nil=>simp
 | cons _ _=>simp
theorem zY:OpR X (binaryOp .Add) (Dq X.K):=by
 intro pins s σ H x y v u Q I rx ry h
 obtain ⟨a,b,xs,ys,rfl,rfl,ha,hb,hx,hz,q1,q2⟩:=h
 cases rx
 cases ry
 obtain ⟨its,r1,p1,_⟩:=I.tuple ha
 obtain ⟨its2,r2,p2,_⟩:=I.tuple hb
 refine HT.zV p1 p2 (λz=>hx (r1.kY.mp z)) (λz=>⟨.ref a,H,I,rfl,q1 (r2.kY.mp z)⟩) (λz =>?_) (by rw[<- r1.length, <- r2.length];exact hz)
 refine ⟨.ref s.heap.objs.size,_,I.laid (t':=s.toks) (o :=.tup (xs++ys)) (λb ob q=>DZ _ q) (D6 _) ?_,rfl,q2 (λw=>z (r2.kY.mpr w)) _ (I.hok.fresh (D6 _))⟩
 exact ⟨by rw[D7];exact hz,_,r1.append r2,eG.new _ _⟩
end
def ixN (n:Nat)(i:Int):Option Nat:=if 0<=i then (if i<n then some i.toNat else none) else if -(n:Int)<=i then some (i+n).toNat else none
def atI {α:Type}(xs:List α)(i:Int):Option α:=(ixN xs.length i).bind λj=>xs[j]?
theorem kZ {n:Nat}{i:Int}{j:Nat}(h:ixN n i=some j):seqIndex? i n=some j/\j<n /\ -(n:Int)<=i/\i<n:=by
 unfold ixN at h
 by_cases h0:0<=i
 ·rw[if_pos h0] at h
  by_cases h1:i<n
  ·rw[if_pos h1] at h
   have e:i.toNat=j:=E1 h
   exact ⟨by rw[M1 h0 h1,e],by lia,by lia,h1⟩
  ·rw[if_neg h1] at h;cases h
 ·rw[if_neg h0] at h
  by_cases h1 : -(n:Int)<=i
  ·rw[if_pos h1] at h
   have e:(i+n).toNat=j:=E1 h
   exact ⟨by rw[MF (by lia) h1,e],by lia,h1,by lia⟩
  ·rw[if_neg h1] at h;cases h
theorem uN {α:Type}{xs:List α}{i:Int}{v:α}(h:atI xs i=some v):∃j,seqIndex? i xs.length=some j/\xs[j]? = some v/\j<xs.length /\ -(xs.length:Int)<=i/\i<xs.length:=by
 unfold atI at h
 cases e:ixN xs.length i with
 | none=>rw[e] at h;cases h
 | some j =>
  rw[e] at h
  obtain ⟨h1,h2,h3,h4⟩:=kZ e
  exact ⟨j,h1,h,h2,h3,h4⟩
theorem fE {α:Type}{xs:List α}{j:Nat}{v:α}(h:xs[j]? = some v):atI xs (j:Int)=some v:=by
 have hj:j<xs.length:=(Ea.mp h).1
 have e:ixN xs.length (j:Int)=some j:=by
  unfold ixN
  rw[if_pos (by lia),if_pos (by lia)];simp
 unfold atI;rw[e];exact h
def zZ (b:Expr):Prop:=∀o i,subscripted b false o i=operate [o,i] (getItem o i)
def IxR (X:Cx)(r:R2):Prop :=
 ∀(value slice:Expr) (pins:List (Addr×Obj)) (s:D5) (σ:St) (H:Hp) (x y:V) (v u:D1) (Q:VK),Inv X pins σ H s->RelV x v->RelV y u->r x y H Q →
  subscripted slice false v u=operate [v,u] (getItem v u)->Es (EF X.prog X.w) X.A (subscriptTail value slice v u) (EP X pins σ Q) X.xe s
def MtR (X:Cx)(id:String)(r:V->List V->Hp->VK->Prop):Prop :=
 ∀(pins:List (Addr×Obj)) (s:D5) (σ:St) (H:Hp) (x:V) (xs:List V) (v:D1) (us:List D1) (Q:VK),Inv X pins σ H s->RelV x v->Vals xs us->r x xs H Q →
  Es (EF X.prog X.w) X.A (call (.builtin id) (v :: us)) (EP X pins σ Q) X.xe s
section
variable  {X:Cx}{a b:Expr}{ta tb:TE}{pos:Pos}
theorem aD {r:R2}(hr:IxR X r)(ha:PE X a ta)(hb:PE X b tb)(hs:zZ b):PE X (.Subscript a b pos) (tOp r ta tb):=by
 intro pins s σ H Q I h
 exact Subscript_ (BP ha hb I h λv u s2 x y H2 I2 rx ry q=>hr a b pins s2 σ H2 x y v u Q I2 rx ry q (hs _ _))
def rIxL (K:D2):R2:=λx y H Q=>∃p xs i v,x = .ref p/\y = .int i/\SqL K H p xs/\atI xs i=some v/\Q v H
def Dr (K:D2):R2:=λx y H Q=>∃p xs i v,x = .ref p/\y = .int i/\SqT K H p xs/\atI xs i=some v/\Q v H
theorem ck:IxR X (rIxL X.K):=by
 intro value slice pins s σ H x y v u Q I rx ry h hs
 obtain ⟨p,xs,i,z,rfl,rfl,hq,he,q⟩:=h
 cases rx
 obtain ⟨t,rfl⟩:=ry
 obtain ⟨its,r,pl,hz⟩:=I.list hq
 obtain ⟨j,h1,h2,h3,h4,h5⟩:=uN he
 obtain ⟨w,ew,rw'⟩:=r.get h2
 have hl:=r.length
 have hn:=iE
 have fin:EP X pins σ Q w s:=⟨z,H,I,rw',q⟩
 by_cases h0:0<=i
 ·have hj:i.toNat=j:=by
   rw[M1 h0 h5] at h1
   exact E1 h1
  exact item_listR pl.isList h0 (by lia) (by rw[hj];simpa using ew) fin hs
 ·have hj:(i+(its.toArray.size:Int)).toNat=j:=by
   rw[MF (by lia) h4] at h1
   rw[D4, <- hl]
   exact E1 h1
  exact K1 (x:=w) pl.isList.typeIs slot_list_getitem.lookup
   (wpAny_getItem_list_neg (Q:=λr s'=>r=w/\EP X pins σ Q r s') pl.isList (by lia) (by rw[D4] <;> lia) (by lia) (by rw[hj];simpa using ew) ⟨rfl,fin⟩) hs
theorem aG:IxR X (Dr X.K):=by
 intro value slice pins s σ H x y v u Q I rx ry h hs
 obtain ⟨p,xs,i,z,rfl,rfl,hq,he,q⟩:=h
 cases rx
 obtain ⟨t,rfl⟩:=ry
 obtain ⟨its,r,pl,hz⟩:=I.tuple hq
 obtain ⟨j,h1,h2,h3,h4,h5⟩:=uN he
 obtain ⟨w,ew,rw'⟩:=r.get h2
 have hl:=r.length
 have hn:=iE
 have fin:EP X pins σ Q w s:=⟨z,H,I,rw',q⟩
 exact K1 (x:=w) pl.typeIs slot_tuple_getitem.lookup
  (getItem_tuple (j:=j) (Q:=λr s'=>r=w/\EP X pins σ Q r s') pl (by lia) (by lia) (by rw[D4, <- hl];exact h1) (by simpa using ew) ⟨rfl,fin⟩) hs
theorem sT (its:List D1)(n j:Nat)(u:D1):Fs (·.setIfInBounds j u) { cls :=.type "list",data :=.seq its.toArray n }={ cls :=.type "list",data :=.seq (its.set j u).toArray n }:=by
 simp[Fs]
theorem Inv.lst {pins:List (Addr×Obj)}{σ:St}{H:Hp}{s:D5}{p:Addr}{xs:List V}(I:Inv X pins σ H s)(h:H p=some (.lst xs)) :
  ∃(its:List D1) (n:Nat),Vals xs its/\s.heap.get? p=some { cls :=.type "list",data :=.seq its.toArray n }/\xs.length<=Ei:=by
 obtain ⟨z,its,n,r,e⟩:=I.hok p _ h
 exact ⟨its,n,r,e,z⟩
theorem Inv.BZ {pins:List (Addr×Obj)}{σ:St}{H:Hp}{s:D5}{p:Addr}{xs ys:List V}{its its':List D1}{n n':Nat}{f:Obj->Obj}(I:Inv X pins σ H s)(h:H p=some (.lst xs))
  (ho:s.heap.get? p=some { cls :=.type "list",data :=.seq its.toArray n }) (hf:f { cls :=.type "list",data :=.seq its.toArray n }={ cls :=.type "list",data :=.seq its'.toArray n' }) (r:Vals ys its') (hz:ys.length<=Ei) (t:Nat) :
  Inv X pins σ (upd H p (.lst ys)) { s with heap:=s.heap.update p f,toks:=t }:=by
 have e:(s.heap.update p f).get? p=some { cls :=.type "list",data :=.seq its'.toArray n' }:=by
  rw[Fj f ho (by rw[hf] <;> rfl),hf]
 refine I.write (x:=p) (e:=p) (by rw[h];trivial) (.inl rfl) (λb u hb q=>(EG _ _ (F8 hb)).trans q) ⟨_,e⟩ ?_
 exact ⟨hz,its',n',r,e⟩
def Ds:V->V->V->Hp->(Hp->Prop)->Prop:=λo i v H Q=>∃p xs k j,o = .ref p/\i = .int k/\H p=some (.lst xs)/\ixN xs.length k=some j/\Q (upd H p (.lst (xs.set j v)))
theorem set_list:C9 X Ds:=by
 intro pins s σ H o i v ov iv u Q I ro ri rv h
 obtain ⟨p,xs,k,j,rfl,rfl,hp,hj,q⟩:=h
 cases ro
 obtain ⟨t,rfl⟩:=ri
 obtain ⟨its,n,r,ho,hz⟩:=I.lst hp
 obtain ⟨h1,h2,h3,h4⟩:=kZ hj
 have hl:=r.length
 have hn:=iE
 have I':Inv X pins σ (upd H p (.lst (xs.set j v))) { s with heap:=s.heap.update p (Fs (·.setIfInBounds j u)) } :=
  I.BZ hp ho (sT its n j u) (r.set rv j) (by rw[Ht];exact hz) s.toks
 by_cases h0:0<=k
 ·have hk:k.toNat=j:=by
   rw[M1 h0 h4] at h1
   exact E1 h1
  exact PySem.W.ki_setAt ho h0 (by lia) (by rw[D4, <- hl];exact h4) (by rw[hk];exact ⟨_,I',q⟩)
 ·have hk:(k+(its.toArray.size:Int)).toNat=j:=by
   rw[MF (by lia) h3] at h1
   rw[D4, <- hl]
   exact E1 h1
  exact PySem.W.ki_setBack ho (by lia) (by rw[D4, <- hl];exact h3) (by lia) (by rw[hk];exact ⟨_,I',q⟩)
theorem pU (lo hi:Option Int)(n:Nat):(sliceBounds lo hi none n).1=((HT.sIx n 0 lo:Nat):Int)/\(sliceBounds lo hi none n).2.1=((HT.sIx n n hi:Nat):Int)/\(sliceBounds lo hi none n).2.2=1:=by
 refine ⟨?_,?_,rfl⟩
 ·cases lo with
  | none=>simp[sliceBounds,HT.sIx]
  | some i =>
   simp only[sliceBounds,HT.sIx,MI,show (1:Int)>0 by decide,if_true]
   by_cases h:i<0
   ·simp only[h,if_true] <;> lia
   ·simp only[h,if_false] <;> lia
 ·cases hi with
  | none=>simp[sliceBounds,HT.sIx]
  | some i =>
   simp only[sliceBounds,HT.sIx,MI,show (1:Int)>0 by decide,if_true]
   by_cases h:i<0
   ·simp only[h,if_true] <;> lia
   ·simp only[h,if_false] <;> lia
theorem nF (its:List D1)(lo hi:Option Int):slicePick its.toArray lo hi none=((its.drop (HT.sIx its.length 0 lo)).take (HT.sIx its.length its.length hi-HT.sIx its.length 0 lo)).toArray:=by
 obtain ⟨h1,h2,h3⟩:=pU lo hi its.toArray.size
 unfold slicePick
 rw[h1,h2,h3]
 simp only[sliceRange_one,pick_run,D4] <;> rfl
def rSlL (K:D2):V->Option Int->Option Int->Hp->VK->Prop:=λx lo hi H Q=>∃a xs,x = .ref a/\SqL K H a xs/\∀p,H p=none->Q (.ref p) (upd H p (.lst (iF xs lo hi)))
theorem uO:SlR X (rSlL X.K):=by
 intro pins s σ H x v vl vu lo hi sl Q I rx hs pl pu h
 obtain ⟨a,xs,rfl,hx,q⟩:=h
 cases rx
 obtain ⟨its,r,ht,hz⟩:=I.list hx
 have hlen:=r.length
 refine ⟨"list",_,slot_list_getitem.lookup,ht.isList.typeIs,?_⟩
 refine wpAny_getItem_list_slice ht.isList hs pl pu .none (by simp) ?_ (by rw[D4] <;> lia)
 rw[nF, <- hlen]
 refine ⟨.ref s.heap.objs.size,_,I.laid (t':=s.toks) (o :=.lst (iF xs lo hi)) (λb ob q=>DZ _ q) (D6 _) ?_,rfl,q _ (I.hok.fresh (D6 _))⟩
 exact ⟨ET (kj xs lo hi) hz,_,0,(r.drop (HT.sIx xs.length 0 lo)).take (HT.sIx xs.length xs.length hi-HT.sIx xs.length 0 lo),Ed _ rfl⟩
def ja:V->Bool
 | .non=>true
 | .bl _=>true
 | .int _=>true
 | .str _=>true
 | _=>false
def eqV:V->V->Bool
 | .non,.non=>true
 | .bl a,.bl b=>a == b
 | .bl a,.int b=>(if a then 1 else 0) == b
 | .int a,.bl b=>a == (if b then 1 else 0)
 | .int a,.int b=>a == b
 | .str a,.str b=>a == b
 | _,_=>false
theorem B0 {A:Fi}{s:D5}{y x:V}{u v:D1}(ry:RelV y u)(rx:RelV x v)(fy:ja y=true)(fx:ja x=true):JE A s u v (eqV y x):=by
 cases y with
 | non =>
  cases ry
  cases x with
  | non=>cases rx;exact JG _
  | bl b=>cases rx;exact SeqAt.EqAt.none_bool b
  | int b=>obtain ⟨t,rfl⟩:=rx;exact SeqAt.EqAt.none_int b t
  | str b=>obtain ⟨t,rfl⟩:=rx;exact SeqAt.EqAt.none_str b t
  | _=>exact absurd (show false=true from fx) Ek
 | bl a =>
  cases ry
  cases x with
  | non=>cases rx;exact SeqAt.EqAt.bool_none a
  | bl b=>cases rx;exact Lw a b
  | int b=>obtain ⟨t,rfl⟩:=rx;exact SeqAt.EqAt.bool_int a b t
  | str b=>obtain ⟨t,rfl⟩:=rx;exact SeqAt.EqAt.bool_str a b t
  | _=>exact absurd (show false=true from fx) Ek
 | int a =>
  obtain ⟨t',rfl⟩:=ry
  cases x with
  | non=>cases rx;exact SeqAt.EqAt.int_none a t'
  | bl b=>cases rx;exact SeqAt.EqAt.int_bool a t' b
  | int b=>obtain ⟨t,rfl⟩:=rx;exact GY a t' b t
  | str b=>obtain ⟨t,rfl⟩:=rx;exact LY a t' b t
  | _=>exact absurd (show false=true from fx) Ek
 | str a =>
  obtain ⟨t',rfl⟩:=ry
  cases x with
  | non=>cases rx;exact SeqAt.EqAt.str_none a t'
  | bl b=>cases rx;exact SeqAt.EqAt.str_bool a t' b
  | int b=>obtain ⟨t,rfl⟩:=rx;exact LZ a t' b t
  | str b=>obtain ⟨t,rfl⟩:=rx;exact SeqAt.EqAt.str_str a t' b t
  | _=>exact absurd (show false=true from fx) Ek
 | _=>exact absurd (show false=true from fy) Ek
def eqU (x:V)(u:D1):Bool:=match u with
 | .none=>eqV .non x
 | .bool b=>eqV (.bl b) x
 | .int i _=>eqV (.int i) x
 | .str z _=>eqV (.str z) x
 | _=>false
theorem xT {x y:V}{u:D1}(r:RelV y u)(f:ja y=true):eqU x u=eqV y x:=by
 cases y with
 | non=>cases r;rfl
 | bl b=>cases r;rfl
 | int i=>obtain ⟨t,rfl⟩:=r;rfl
 | str z=>obtain ⟨t,rfl⟩:=r;rfl
 | _=>exact absurd (show false=true from f) Ek
theorem jb {x:V}:∀{xs:List V} {us:List D1},Vals xs us->xs.all ja=true->us.any (eqU x)=xs.any λy=>eqV y x
 | _,_,.nil,_=>rfl
 | y :: xs,u :: us,.cons r t,f=>by
  rw[Mb,EO] at f
  rw[IQ,IQ,xT r f.1,jb t f.2]
theorem gB {A:Fi}{s:D5}{x:V}{v:D1}(rx:RelV x v)(fx:ja x=true):∀{xs:List V} {us:List D1},Vals xs us->xs.all ja=true->∀u∈us,JE A s u v (eqU x u)
 | _,_,.nil,_=>λu hu=>by cases hu
 | y :: xs,u :: us,.cons r t,f=>λu' hu=>by
  rw[Mb,EO] at f
  rcases EB.mp hu with rfl | hu
  ·rw[xT r f.1];exact B0 r rx f.1 fx
  ·exact gB rx fx t f.2 u' hu
def inV (x:V)(xs:List V):Bool:=xs.any λy=>eqV y x
def rIn (K:D2)(neg:Bool):R2:=λx y H Q=>∃p xs,y = .ref p/\(SqL K H p xs\/SqT K H p xs)/\ja x=true/\xs.all ja=true/\Q (.bl (if neg then !inV x xs else inV x xs)) H
theorem v8:OpR X (FP .In) (rIn X.K false):=by
 intro pins s σ H x y v u Q I rx ry h
 obtain ⟨p,xs,rfl,hq,fx,fs,q⟩:=h
 cases ry
 rcases hq with hq | hq
 ·obtain ⟨its,r,pl,hz⟩:=I.list hq
  refine SeqAt.in_listAt (eqU x) pl.isList (λw hw=>gB rx fx r fs w (by simpa using hw)) ⟨.bl _,H,I,rfl,?_⟩
  rw[show its.toArray.any (eqU x)=its.any (eqU x) by simp,jb r fs]
  exact q
 ·obtain ⟨its,r,pl,hz⟩:=I.tuple hq
  refine SeqAt.in_tupleAt (eqU x) pl (λw hw=>gB rx fx r fs w (by simpa using hw)) ⟨.bl _,H,I,rfl,?_⟩
  rw[show its.toArray.any (eqU x)=its.any (eqU x) by simp,jb r fs]
  exact q
theorem pV:OpR X (FP .NotIn) (rIn X.K true):=by
 intro pins s σ H x y v u Q I rx ry h
 obtain ⟨p,xs,rfl,hq,fx,fs,q⟩:=h
 cases ry
 rcases hq with hq | hq
 ·obtain ⟨its,r,pl,hz⟩:=I.list hq
  refine SeqAt.notIn_listAt (eqU x) pl.isList (λw hw=>gB rx fx r fs w (by simpa using hw)) ⟨.bl _,H,I,rfl,?_⟩
  rw[show its.toArray.any (eqU x)=its.any (eqU x) by simp,jb r fs]
  exact q
 ·obtain ⟨its,r,pl,hz⟩:=I.tuple hq
  refine SeqAt.notIn_tupleAt (eqU x) pl (λw hw=>gB rx fx r fs w (by simpa using hw)) ⟨.bl _,H,I,rfl,?_⟩
  rw[show its.toArray.any (eqU x)=its.any (eqU x) by simp,jb r fs]
  exact q
theorem aL:bZ X (.builtin "len") (λxs H Q=>∃p ys,xs=[.ref p]/\(SqL X.K H p ys\/SqT X.K H p ys)/\Q (.int ys.length) H):=by
 intro pins s σ H xs us Q I r h
 obtain ⟨p,ys,rfl,hq,q⟩:=h
 obtain ⟨u,rfl,rx⟩:=vals1 r
 cases rx
 have hn:=iE
 rcases hq with hq | hq
 ·obtain ⟨its,r',pl,hz⟩:=I.list hq
  have hlen:=r'.length
  exact Calls.call_len_list pl.isList (by simp only[D4] <;> lia) ⟨.int ys.length,H,I.tok _,⟨s.toks+1,by rw[D4,hlen]⟩,q⟩
 ·obtain ⟨its,r',pl,hz⟩:=I.tuple hq
  have hlen:=r'.length
  exact len_tuple pl (by simp only[D4] <;> lia) ⟨.int ys.length,H,I.tok _,⟨s.toks+1,by rw[D4,hlen]⟩,q⟩
theorem pW:bZ X (.type "list") (λxs H Q=>∃p ys,xs=[.ref p]/\(SqL X.K H p ys\/SqT X.K H p ys)/\∀l,H l=none->Q (.ref l) (upd H l (.lst ys))):=by
 intro pins s σ H xs us Q I r h
 obtain ⟨p,ys,rfl,hq,q⟩:=h
 obtain ⟨u,rfl,rx⟩:=vals1 r
 cases rx
 have fin:∀(its:List D1),Vals ys its->ys.length<=Ei->∀(h':Heap) (c':Nat),(∀b o',s.heap.get? b=some o'->h'.get? b=some o') →
   h'.get? s.heap.objs.size=some { cls :=.type "list",dict:=none,data :=.seq its.toArray c',slots := #[] }->EP X pins σ Q (.ref s.heap.objs.size) { s with heap:=h' }:=λits r' hz h' c' kp e =>
  ⟨.ref s.heap.objs.size,_,I.laid (t':=s.toks) kp (D6 _) (show aX X.prog X.w _ h' _ (.lst ys) from ⟨hz,its,c',r',e⟩),rfl,q _ (I.hok.fresh (D6 _))⟩
 rcases hq with hq | hq
 ·obtain ⟨its,r',pl,hz⟩:=I.list hq
  have hlen:=r'.length
  obtain ⟨o,ho,hc,n,hd⟩:=pl.isList
  exact call_list_seq p (.inl rfl) ho hc hd (λh' c' kp e=>fin its r' hz h' c' kp e) (by simp only[D4] <;> lia)
 ·obtain ⟨its,r',pl,hz⟩:=I.tuple hq
  have hlen:=r'.length
  obtain ⟨o,ho,hc,n,hd⟩:=pl
  exact call_list_seq p (.inr rfl) ho hc hd (λh' c' kp e=>fin its r' hz h' c' kp e) (by simp only[D4] <;> lia)
theorem bX:bZ X (.type "tuple") (λxs H Q=>∃p ys,xs=[.ref p]/\((SqL X.K H p ys/\∀l,H l=none->Q (.ref l) (upd H l (.tup ys)))\/(SqT X.K H p ys/\Q (.ref p) H))):=by
 intro pins s σ H xs us Q I r h
 obtain ⟨p,ys,rfl,h⟩:=h
 obtain ⟨u,rfl,rx⟩:=vals1 r
 cases rx
 rcases h with ⟨hq,q⟩ | ⟨hq,q⟩
 ·obtain ⟨its,r',pl,hz⟩:=I.list hq
  have hlen:=r'.length
  refine call_tuple_list pl.isList (λh' kp =>?_) (by simp only[D4] <;> lia)
  have I1:Inv X pins σ H { s with heap:=h' }:=I.kept (t':=s.toks) kp
  have I2:Inv X pins σ (upd H h'.objs.size (.tup ys)) { s with heap:=h'.push { cls :=.type "tuple",data :=.seq its.toArray } } :=
   I1.laid (t':=s.toks) (λb o e=>DZ _ e) (D6 _) (show aX X.prog X.w _ _ _ (.tup ys) from ⟨hz,its,r',eG.new _ _⟩)
  exact ⟨.ref h'.objs.size,_,I2,rfl,q _ (I1.hok.fresh (D6 _))⟩
 ·obtain ⟨its,r',pl,hz⟩:=I.tuple hq
  exact call_tuple_same pl ⟨.ref p,H,I,rfl,q⟩
def tyV (K:D2)(T:String)(x:V)(H:Hp):Prop:=match x with
 | .str _=>T = "str"
 | .int _=>T = "int"
 | .ref p=>(T = "list" /\ ∃xs,SqL K H p xs)\/(T = "tuple" /\ ∃o,K.lookup p=some o/\o.cls = .type "tuple" /\ o.dict=none) ∨
   (T = "dict" /\ ((∃kvs,H p=some (.dK kvs))\/∃kvs,H p=some (.dT kvs)))\/(T = "set" /\ ∃S n,H p=some (.set S n))
 | _=>False
theorem xU {pins:List (Addr×Obj)}{σ:St}{H:Hp}{s:D5}{T:String}{x:V}{v:D1}(I:Inv X pins σ H s)(r:RelV x v)(ty:tyV X.K T x H) :
  s.TypeIs v T/\∀a,v = .ref a->∃ob,s.heap.get? a=some ob/\ob.dict=none:=by
 cases x with
 | str z =>
  obtain ⟨t,rfl⟩:=r
  cases (show T = "str" from ty)
  exact ⟨typeIs_str s z t,λ_ e=>nomatch e⟩
 | int i =>
  obtain ⟨t,rfl⟩:=r
  cases (show T = "int" from ty)
  exact ⟨Lr s i t,λ_ e=>nomatch e⟩
 | ref p =>
  cases r
  rcases ty with ⟨rfl,xs,hq⟩ | ⟨rfl,o,hk,hc,hd⟩ | ⟨rfl,hk⟩ | ⟨rfl,S,n,hk⟩
  ·obtain ⟨its,_,pl,_⟩:=I.list hq
   refine ⟨pl.isList.typeIs,λa e =>?_⟩
   cases e
   obtain ⟨o,n,e,c,hd,_⟩:=pl
   exact ⟨o,e,hd⟩
  ·refine ⟨⟨o,I.kIn p o hk,hc⟩,λa e =>?_⟩
   cases e
   exact ⟨o,I.kIn _ o hk,hd⟩
  ·have z:∃o,s.heap.get? p=some o/\o.ExactDict:=by
    rcases hk with ⟨kvs,hk⟩ | ⟨kvs,hk⟩
    ·obtain ⟨_,_,_,_,o,_,_,e,ex,_⟩:=I.hok p _ hk
     exact ⟨o,e,ex⟩
    ·obtain ⟨_,_,_,_,o,_,_,e,ex,_⟩:=I.hok p _ hk
     exact ⟨o,e,ex⟩
   obtain ⟨o,e,ex⟩:=z
   refine ⟨⟨o,e,ex.1⟩,λa e2 =>?_⟩
   cases e2
   exact ⟨o,e,ex.2.1⟩
  ·obtain ⟨o,_,_,_,e,ex,_⟩:=I.hok p _ hk
   refine ⟨⟨o,e,ex.1⟩,λa e2 =>?_⟩
   cases e2
   exact ⟨o,e,ex.2.1⟩
 | _=>exact False.elim ty
def tBM0 (K:D2)(T:String)(r:V->List V->Hp->VK->Prop)(to:TE):TE:=λσ H Q=>to σ H λx H1=>tyV K T x H1/\r x [] H1 Q
def tBM (K:D2)(T:String)(r:V->List V->Hp->VK->Prop)(to:TE)(t:TA):TE:=λσ H Q=>to σ H λx H1=>tyV K T x H1/\t σ H1 λxs H2=>r x xs H2 Q
variable  {o e:Expr}{es:List Expr}{to:TE}{t:TA}{name:Str}{apos cpos:Pos}{T id:String}{r:V->List V->Hp->VK->Prop}
theorem xV (pa:PlainAttrs T)(slot:Slot T name id)(hty:typeOf (.builtin id)=pure (.type "method_descriptor"))(hm:MtR X id r)(ho:PE X o to)
  (hbase:attributeBase o name X.env (eval o X.env)=eval o X.env:=by rfl) (hline:(apos.endLine == cpos.line)=true:=by rfl):PE X (.Call (.Attribute o name apos) [] [] cpos) (tBM0 X.K T r to):=by
 intro pins s σ H Q I h
 refine wpAny_Call_method0_late hbase hline (thn (ho pins s σ H _ I h) λv s1 ⟨x,H1,I1,r1,ty,q1⟩ =>?_)
 obtain ⟨h1,h2⟩:=xU I1 r1 ty
 exact ⟨T,id,pa,slot,hty,h1,h2,Jd rfl (PySem.evalArgs_none (hm pins s1 σ H1 x [] v [] Q I1 r1 .nil q1))⟩
theorem eC (pa:PlainAttrs T)(slot:Slot T name id)(hty:typeOf (.builtin id)=pure (.type "method_descriptor"))(hm:MtR X id r)(ho:PE X o to)(ha:PA X (e :: es) t)
  (hbase:attributeBase o name X.env (eval o X.env)=eval o X.env:=by rfl)
  (hfew:((Ig cpos (E5 (e :: es) X.env)).all (λx => !x.1) && (backToKw cpos (keywordEach [] X.env)).all (λx=>x.1.isSome)
   && decide ((e :: es).length+([]:List Keyword).length+(if ([]:List Keyword).isEmpty then 0 else 1)<30))=true:=by rfl)
  (hline:(apos.endLine == cpos.line)=true:=by rfl) (hs:E5 (e :: es) X.env=(false,eval e X.env) :: E5 es X.env:=by rfl) (hplain:(Ig cpos (E5 es X.env)).any (·.1)=false:=by rfl) :
  PE X (.Call (.Attribute o name apos) (e :: es) [] cpos) (tBM X.K T r to t):=by
 intro pins s σ H Q I h
 refine K2 hbase hfew hline rfl (thn (ho pins s σ H _ I h) λv s1 ⟨x,H1,I1,r1,ty,q1⟩ =>?_)
 obtain ⟨h1,h2⟩:=xU I1 r1 ty
 refine ⟨T,id,pa,slot,hty,h1,h2,?_⟩
 have hA:=ha cpos pins s1 σ H1 _ I1 q1
 rw[hs] at hA ⊢
 refine Jd (by show (false || (Ig cpos (E5 es X.env)).any (·.1))=false;rw[hplain] <;> rfl) (Jw ?_)
 exact thn hA λus s2 ⟨vs,H2,I2,r2,q2⟩=>hm pins s2 σ H2 x vs v us Q I2 r1 r2 q2
end
def MtM (X:Cx)(id:String)(r:V->List V->Hp->VK->Prop):Prop :=
 ∀(pins:List (Addr×Obj)) (s:D5) (σ:St) (H:Hp) (x:V) (xs:List V) (v:D1) (us:List D1) (Q:VK),Inv X pins σ H s->RelV x v->Vals xs us->r x xs H Q →
  Es (EF X.prog X.w) X.A (call (.builtin id) (v :: us)) (EP X pins σ Q) X.xe s
theorem Vals.one:∀{x:V} {us:List D1},Vals [x] us->∃u,us=[u]/\RelV x u
 | _,_,.cons r .nil=>⟨_,rfl,r⟩
theorem Vals.zero:∀{us:List D1},Vals [] us->us=[]
 | _,.nil=>rfl
theorem Vals.dropLast {xs:List V}{us:List D1}(h:Vals xs us):Vals xs.dropLast us.dropLast:=by
 induction h with
 | nil=>exact .nil
 | cons r t ih =>
  cases t with
  | nil=>exact .nil
  | cons q t'=>exact .cons r ih
theorem Vals.eraseIdx:∀{xs:List V} {us:List D1} (i:Nat),Vals xs us->Vals (xs.eraseIdx i) (us.eraseIdx i)
 | _,_,_,.nil =>.nil
 | _,_,0,.cons _ t=>t
 | _,_,i+1,.cons r t =>.cons r (Vals.eraseIdx i t)
theorem Vals.rep {xs:List V}{us:List D1}(h:Vals xs us):∀k:Nat,Vals (Fc k xs).flatten (Fc k us).flatten
 | 0 =>.nil
 | k+1=>by
  rw[HG,HG,GN,GN]
  exact Vals.append h (Vals.rep h k)
theorem sU {α:Type}(l:List α):l.eraseIdx (l.length-1)=l.dropLast:=by
 induction l with
 | nil=>rfl
 | cons a r ih =>
  cases r with
  | nil=>rfl
  | cons b r =>
   have e:(a :: b :: r).length-1=((b :: r).length-1)+1:=by
    have h1:(a :: b :: r).length=r.length+2:=rfl
    have h2:(b :: r).length=r.length+1:=rfl
    lia
   rw[e,IS,ih]
   all_goals rfl
theorem om {α:Type}:∀(l:List α) (i:Nat),(l.eraseIdx i).length<=l.length
 | [],_=>D6 _
 | _ :: _,0=>Ks _
 | _ :: r,i+1=>KG (om r i)
theorem foldl_rep (its:List D1):∀(k:Nat) (acc:List D1),
  List.foldl (λx1 x2=>x1++x2) acc.toArray (Fc k its.toArray)=(acc++(Fc k its).flatten).toArray
 | 0,acc=>by simp
 | k+1,acc=>by
  have e:acc.toArray++its.toArray=(acc++its).toArray:=by simp
  have e2:(acc++its)++(Fc k its).flatten=acc++(Fc (k+1) its).flatten:=by
   rw[HG,GN,EV]
  rw[<- e2, <- foldl_rep its k (acc++its), <- e,HG,K4]
section
variable  {X:Cx}{pins:List (Addr×Obj)}{σ:St}{H:Hp}{s:D5}{l b:Addr}{xs ys zs:List V}
theorem Inv.xW {its its':List D1}{n:Nat}{f:Array D1->Array D1}{t':Nat}(I:Inv X pins σ H s)(hH:H l=some (.lst xs))
  (e:s.heap.get? l=some { cls :=.type "list",data :=.seq its.toArray n }) (hf:f its.toArray=its'.toArray) (hv:Vals ys its') (hz:ys.length<=Ei) :
  Inv X pins σ (upd H l (.lst ys)) { s with heap:=s.heap.update l (Fs f),toks:=t' }:=by
 have q:=PySem.IsL.update e f
 rw[hf] at q
 refine I.write (x:=l) (e:=l) (by rw[hH];exact trivial) (.inl rfl) (λb' u hb hu=>(EG s.heap (Fs f) (F8 hb)).trans hu) ⟨_,q⟩ ?_
 exact ⟨hz,its',_,hv,q⟩
theorem Inv.Dt {its:List D1}{t':Nat}(I:Inv X pins σ H s)(hv:Vals ys its)(hz:ys.length<=Ei) :
  Inv X pins σ (upd H s.heap.objs.size (.lst ys)) { s with heap:=s.heap.push { cls :=.type "list",data :=.seq its.toArray },toks:=t' } :=
 I.laid (λ_ _ q=>DZ _ q) (D6 _) ⟨hz,its,0,hv,Ed _ rfl⟩
theorem Inv.fresh (I:Inv X pins σ H s):H s.heap.objs.size=none:=I.hok.fresh (D6 _)
theorem Inv.v9 (I:Inv X pins σ H s)(hH:H l=some (.lst xs)):xs.length<=Ei/\∃(its:List D1) (n:Nat),Vals xs its/\xs.length=its.length/\s.heap.get? l=some { cls :=.type "list",data :=.seq its.toArray n }:=by
 obtain ⟨z,its,n,r,e⟩:=I.hok l _ hH
 exact ⟨z,its,n,r,r.length,e⟩
theorem qH {n:Nat}(h:n<=Ei):Builtin.List.listTooLong n=false:=by
 unfold Builtin.List.listTooLong
 exact decide_eq_false (by lia)
end
section
variable  {X:Cx}
def z0:V->List V->Hp->VK->Prop:=λx vs H Q=>∃l xs y,x = .ref l/\vs=[y]/\H l=some (.lst xs)/\xs.length<Ei/\Q .non (upd H l (.lst (xs++[y])))
theorem cK:MtM X "list.append" z0:=by
 intro pins s σ H x vs v us Q I rx rv h
 obtain ⟨l,xs,y,rfl,rfl,hH,hz,q⟩:=h
 cases rx
 obtain ⟨u,rfl,ru⟩:=rv.one
 obtain ⟨z,its,n,r,hl,e⟩:=I.v9 hH
 refine IK F.slot_list_append ⟨_,e,rfl⟩ F.entry_list_append (F.args_list_append_2 _ _) (PySem.list_append l its.toArray n u (by rw[D4];lia)) ⟨e,?_⟩
 refine ⟨.non,_,I.xW (its':=its++[u]) hH e (by simp) (r.append (.cons ru .nil)) ?_,rfl,q⟩
 rw[D7,ED]
 lia
def rPop:V->List V->Hp->VK->Prop:=λx vs H Q=>∃l xs y,x = .ref l/\vs=[]/\H l=some (.lst xs)/\xs[xs.length-1]? = some y/\Q y (upd H l (.lst xs.dropLast))
theorem xX:MtM X "list.pop" rPop:=by
 intro pins s σ H x vs v us Q I rx rv h
 obtain ⟨l,xs,y,rfl,rfl,hH,hy,q⟩:=h
 cases rx
 have hus:=rv.zero
 subst hus
 obtain ⟨z,its,n,r,hl,e⟩:=I.v9 hH
 obtain ⟨u,hu,ru⟩:=r.get hy
 have hy':its.toArray[its.toArray.size-1]? = some u:=by
  show its.toArray[its.length-1]? = some u
  rw[<- Em, <- hl]
  exact hu
 refine IK MR ⟨_,e,rfl⟩ MJ (F.args_list_pop_1 _) (MeetsSeq.list_pop_last l its.toArray n u hy' (by rw[D4];lia)) ⟨e,?_⟩
 refine ⟨y,_,I.xW (its':=its.dropLast) hH e ?_ r.dropLast ?_,ru,q⟩
 ·show its.toArray.eraseIdxIfInBounds (its.toArray.size-1)=its.dropLast.toArray
  rw[D4,Jf,sU]
 ·rw[List.length_dropLast]
  lia
def B1:V->List V->Hp->VK->Prop:=λx vs H Q=>∃l xs i k y,x = .ref l/\vs=[.int i]/\H l=some (.lst xs) /\ -(2 ^ 63)<=i/\i<2 ^ 63/\seqIndex? i xs.length=some k/\xs[k]? = some y/\Q y (upd H l (.lst (xs.eraseIdx k)))
theorem qI:MtM X "list.pop" B1:=by
 intro pins s σ H x vs v us Q I rx rv h
 obtain ⟨l,xs,i,k,y,rfl,rfl,hH,h1,h2,hk,hy,q⟩:=h
 cases rx
 obtain ⟨u,rfl,ru⟩:=rv.one
 obtain ⟨t,rfl⟩:=ru
 obtain ⟨z,its,n,r,hl,e⟩:=I.v9 hH
 obtain ⟨w,hw,rw'⟩:=r.get hy
 refine IK MR ⟨_,e,rfl⟩ MJ (F.args_list_pop_2 _ _)
  (MeetsSeq.list_pop_at l its.toArray n i t k w (fitsIndex_both h1 h2) (by rw[D4, <- hl];exact hk) (by rw[<- Em];exact hw) (by rw[D4];lia)) ⟨e,?_⟩
 refine ⟨y,_,I.xW (its':=its.eraseIdx k) hH e ?_ (r.eraseIdx k) ?_,rw',q⟩
 ·show its.toArray.eraseIdxIfInBounds k=(its.eraseIdx k).toArray
  rw[Jf]
 ·have:=om xs k
  lia
def rRep:R2:=λx y H Q=>∃l k xs,x = .ref l/\y = .int k/\H l=some (.lst xs) /\ -(2 ^ 63)<=k/\k<2 ^ 63/\xs.length*k.toNat<=Ei ∧
 ∀p,H p=none->Q (.ref p) (upd H p (.lst (Fc k.toNat xs).flatten))
theorem len_rep {α:Type}(xs:List α)(k:Nat):(Fc k xs).flatten.length=k*xs.length:=by
 induction k with
 | zero=>simp
 | succ k ih=>rw[HG,GN,D7,ih,Nat.succ_mul,Nat.add_comm]
theorem B2:OpR X (binaryOp .Mult) rRep:=by
 intro pins s σ H x y v u Q I rx ry h
 obtain ⟨l,k,xs,rfl,rfl,hH,h1,h2,hz,q⟩:=h
 cases rx
 obtain ⟨t,rfl⟩:=ry
 obtain ⟨z,its,n,r,hl,e⟩:=I.v9 hH
 have hlen:its.toArray.size*k.toNat<=Ei:=by rw[D4, <- hl];exact hz
 have hcap:¬ its.toArray.size*k.toNat>(2 ^ 63-1)/8:=by
  have:(Ei:Nat)<=(2 ^ 63-1)/8:=by decide
  lia
 have hfit:¬ (!Builtin.List.listFitsIndex k)=true:=by
  rw[fitsIndex_both h1 h2]
  exact Ek
 have hlong:¬ Builtin.List.listTooLong (its.toArray.size*k.toNat)=true:=by
  rw[qH hlen]
  exact Ek
 have hnew:List.foldl (λx1 x2=>x1++x2) #[] (Fc (if its.toArray.isEmpty=true then 0 else k.toNat) its.toArray)=(Fc k.toNat its).flatten.toArray:=by
  have f0:∀m:Nat,List.foldl (λx1 x2=>x1++x2) #[] (Fc m its.toArray)=(Fc m its).flatten.toArray:=λm=>by
   have:=foldl_rep its m []
   rw[HW] at this
   exact this
  rw[f0]
  cases its with
  | nil=>simp
  | cons a r'=>rw[if_neg (by simp)]
 refine wpAny_binaryOp_repeat_ref (T := "list") (U := "int") (by decide) ⟨_,e,rfl⟩ (λs'=>Lr s' k t) noFill_list_mul F.fills_int_mul MS repeat_list F.slot_int_index.lookup
  (IK MS (Lr s k t) F.entry_int_rmul (F.args_int_rmul_2 _ _) (int___rmul___int_list k t l its.toArray n)
   ⟨e,rfl,⟨_,e,rfl⟩,IK F.slot_list_mul ⟨_,e,rfl⟩ F.entry_list_mul (F.args_list_mul_2 _ _) (AutoListH.list___mul___list_int_3 l its.toArray n k t hfit hcap hlong) ⟨e,?_⟩⟩)
 rw[hnew]
 exact ⟨.ref _,_,I.Dt (t':=s.toks) (r.rep k.toNat) (by rw[len_rep,Nat.mul_comm];exact hz),rfl,q _ I.fresh⟩
end
section
variable  {prog:Eo}{w:ES}{A:Fi}{E:D1->D5->Prop}{s:D5}
end
section
variable  {X:Cx}
end
end L2
namespace Att
open PySem PySem.W PySem.Calls PyProof.Rows
theorem kQ {P:Params}{h:Heap}:∀(ns:List Int) (vs:List D1),WellAll P h vs (ns.map WData.int)->He vs ns:=by
 intro ns
 induction ns with
 | nil =>
  intro vs w
  rw[K3] at w
  cases w
  exact .nil
 | cons n ns ih =>
  intro vs w
  rw[Ez] at w
  cases w with
  | cons a b =>
   cases a
   exact .cons _ _ (ih _ b)
theorem wa {l:OpenLaw}{n:Nat}(hn:l.most=some n){P:Params}{h:Heap}{args:List WData}{vals:List D1}
  (hpre:l.row.toRowW.claim.pre args=true) (hwl:WellAll P h vals args) :
  ∃a vs ns,vals=[Eu a]/\args=[WData.list (ns.map WData.int)]/\h.get? a=some { cls :=.type "list",data :=.seq vs.toArray }/\He vs ns/\ns.length<=n:=by
 have hsh:WShape.hasAll [] args [.list .int]=true:=(pre_splitW hpre).1
 have hc:l.pre.holds [] { args:=args }=true:=(pre_splitW hpre).2
 obtain ⟨d,r,rfl,h1,h2⟩:=hasAllW_cons hsh
 obtain rfl:=hasAllW_nil h2
 obtain ⟨xs,rfl,h3⟩:=hasW_list h1
 obtain ⟨ns,rfl⟩:=items_int h3
 have hlen:ns.length<=n:=by
  unfold OpenLaw.pre at hc
  have h4:(WTm.not (.lt (.lit (.int (n:Int))) (.len (.arg 0)))).holds [] { args:=[.list (ns.map .int)] }=true:=by
   have h4:=(holds_andW hc).1
   rw[hn] at h4
   exact h4
  have h5:=condW_of h4 (w_not (w_lt w_lit (w_len_list (w_arg rfl))))
  rw[DY] at h5
  refine HL λq =>?_
  have q':(n:Int)<((ns.length:Nat):Int):=by omega
  first
   | (rw[decide_eq_true q'] at h5;exact absurd h5 (by decide))
   | (simp at h5;omega)
 cases hwl with
 | cons w1 w2 =>
  cases w2
  cases w1 with
  | list ho hall=>exact ⟨_,_,ns,rfl,rfl,ho,kQ ns _ hall,hlen⟩
theorem wc (l:OpenLaw)(args:List WData):l.row.toRowW.claim.post args (.bool true) args=true :=
 postW_of (r:=l.row.toRowW) (X:=(true == true))
  (show WShape.has [] (.bool true) .bool=true by first | rfl | decide | simp[WShape.has,WShape.arms,WShape.armsAll])
  (show (WTm.eq .res (.lit (.bool true))).value [] { args:=args,res:=some (.bool true),after:=args }=some (.bool (true == true)) from w_eq_bool (w_res rfl) w_lit) rfl
theorem qJ {l:OpenLaw}{n:Nat}{q:Eo}{loose:List Str}{XP:(Str->Option D1)->Heap->Prop}{YP:ES->Heap->Prop}{d:DefRec}
  (hn:l.most=some n) (hdf:d.params.defaults=[])
  (call:∀(w:ES) (s₀ s₁:D5) (mg mb:Str->Option D1) (fa:Addr) (o:Obj) (pm cd doc:D1) (a:Addr) (vs:List D1) (ns:List Int),
   Ground q loose [] XP w s₀ mg mb s₁.heap->YP w s₁.heap →
   s₁.heap.get? fa=some o->o.data = .func (docDef d.name d.params d.body d.scope pm cd doc)->s₁.heap.CodeRec cd d.name->mg d.name=some (.ref fa) →
   s₁.heap.get? a=some { cls :=.type "list",data :=.seq vs.toArray }->He vs ns->ns.length<=n->s₁.gens = #[] →
   Jb (EF l.prog w) callerA (.call (.ref fa) ⟨[.ref a],[]⟩) (λr s'=>r = .ok (.ret (.bool true))/\OldK s₁.heap s'.heap/\s'.os=s₁.os/\AllBare s'.gens) s₁) :
  WalkO q loose XP YP l.row.toRowW d [] (λf vs=>PySem.call f vs):=by
 intro w s₀ s₁ mg mb G Y fa o pm cd doc dV kV ho hd hcd hD hmg hg args vals as hpre hlay hrd hwl hlo
 obtain rfl:dV = .none:=Dflts.none hD hdf
 obtain rfl:kV = .none:=Dflts.noKw hD
 obtain ⟨a,vs,ns,rfl,rfl,hobj,hints,hlen⟩:=wa hn hpre hwl
 refine enter_call (Ie (call w s₀ s₁ mg mb fa o pm cd doc a vs ns G Y ho (fd_plain hd) hcd hmg hobj hints hlen hg) λr s' hq =>?_)
 obtain ⟨rfl,h2,h3,h4⟩:=hq
 exact ⟨.inl ⟨.bool true,.bool true,[],rfl,λ_=>rfl,.bool true,wc l _,λ_=>⟨List.Pairwise.nil,λ_ hm=>(nomatch hm)⟩⟩,h2,h3,h4⟩
section
variable  {prog:Eo}{w:ES}{A:Fi}{E:D1->D5->Prop}{s:D5}{K:Frag}
def ledger (h:Heap)(L d:Addr):List (Addr×Obj):=(E2 h.objs.size).filterMap λa=>if a=L\/a=d then none else (h.get? a).map λo=>(a,o)
end
end Att
namespace L2
open PySem PySem.Spec PyProof.Rows
theorem jQ:∀{vs:List D1} {ns:List Int},He vs ns->Vals (ns.map V.int) vs
 | _,_,.nil =>.nil
 | _,_,.cons n t h =>.cons ⟨t,rfl⟩ (jQ h)
def B6 (H:Hp):Prop:=∀b,H b=none\/∃o xs,H b=some (.frz o (.lst xs))
theorem xY {P:Eo}{w:ES}{K:D2}{mg mb:Str->Option D1}{CX:CXT}{k:Nat}{fa a:Addr}{fd:Fb}{x:Str}{sp:Sp}{s₁:D5}{vs:List D1}{ns:List Int}
  (KX:K.In s₁.heap) (hns:s₁.heap.Ns EJ mg) (hb:s₁.heap.Ns builtinsNs mb) (hbb:∀x:Str,x ≠ "__name__" -> mb x=Fx x) (hlim:s₁.heap.NoLimit) (hg:s₁.gens = #[])
  (ha:s₁.heap.get? a=some { cls :=.type "list",data :=.seq vs.toArray }) (hi:He vs ns) (hl:ns.length<=Ei) (hr:cy k callerA)
  (F:∀base:Heap,K.In base->base.Ns EJ mg->bB P w K mg base CX k fa fd [x] sp) (hbind:∀(s:D5) (u:D1),BindsTo s fd ⟨[u],[]⟩ [(x,u)])
  (hsp:∀H:Hp,B6 H->SqL K H a (ns.map V.int)->sp [.ref a] H (λv _=>v = .bl true) λ_ _ _=>False)
  (hCX:∀H e s',CX [] H s₁ (λ_ _ _=>False) e s'->False) :
  Jb (EF P w) callerA (.call (.ref fa) ⟨[.ref a],[]⟩) (λr s'=>r = .ok (.ret (.bool true))/\OldK s₁.heap s'.heap/\s'.os=s₁.os/\AllBare s'.gens) s₁:=by
 have rv:=jQ hi
 have lenV:=hi.length
 have core:∀H:Hp,B6 H->SqL K H a (ns.map V.int)->HOk P w H s₁.heap->(∀b,H b≠none->b=a)->(H a≠none->K.lookup a=none) →
   Jb (EF P w) callerA (.call (.ref fa) ⟨[.ref a],[]⟩) (λr s'=>r = .ok (.ret (.bool true))/\OldK s₁.heap s'.heap/\s'.os=s₁.os/\AllBare s'.gens) s₁:=by
  intro H hO hS hok hA hK
  have base_of:∀{b:Addr} {o:Obj},s₁.heap.get? b=some o->H b=none->(pK s₁.heap H).get? b=some o:=λe n=>xD e n
  have noA:∀{b:Addr} {o:Obj} {es:Array DictEntry} {ep:Nat},s₁.heap.get? b=some o->o.data = .dict es ep->H b=none:=λ{b o es ep} e d=>by
   cases q:H b with
   | none=>rfl
   | some u =>
    have e':b=a:=hA b (by rw[q];simp)
    subst e'
    rw[ha] at e;cases e
    have d':Data.seq vs.toArray _=Data.dict es ep:=d
    cases d'
  have nsK:∀{b:Addr} {m:Str->Option D1},s₁.heap.Ns b m->(pK s₁.heap H).Ns b m:=λ{b m} ⟨o,es,ep,e,d,r⟩=>⟨o,es,ep,base_of e (noA e d),d,r⟩
  have hKb:K.In (pK s₁.heap H):=λb o e=>base_of (KX b o e) (by
   cases q:H b with
   | none=>rfl
   | some u =>
    have e':b=a:=hA b (by rw[q];simp)
    subst e'
    rw[hK (by rw[q];simp)] at e;cases e)
  have hM:Mod K mg (pK s₁.heap H):=⟨hKb,nsK hns,⟨mb,nsK hb,hbb⟩,let ⟨mc,h1,h2⟩:=hlim;⟨mc,nsK h1,h2⟩⟩
  have e0:zU P w K mg (pK s₁.heap H) callerA [] s₁ H:=⟨rfl,hM,λb o e=>zP e,Nat.le_of_eq (vZ _ _),trivial,λb hb=>absurd (show b∈([]:List Addr) from hb) (by simp),hok,.of_eq hg⟩
  refine Ie ((F _ hKb (nsK hns)).run callerA [] s₁ H ⟨[.ref a],[]⟩ [.ref a] [.ref a] _ _ hr e0 (hbind s₁ (.ref a)) (.cons rfl .nil) (hsp H hO hS)) λr s' h =>?_
  cases r with
  | error e=>exact (hCX H e s' h).elim
  | ok fl =>
   cases fl with
   | next=>exact False.elim h
   | brk=>exact False.elim h
   | cont=>exact False.elim h
   | ret u =>
    obtain ⟨v,H',os,bare,un,hok',r',q⟩:=h
    have q':v = .bl true:=q
    subst q'
    obtain rfl:u=Value.bool true:=r'
    refine ⟨rfl,OldK.of_keep λb o e =>?_,os,bare⟩
    cases q:H b with
    | none=>exact un.keep b o e q (by intro z;exact absurd (show b∈([]:List Addr) from z) (by simp)) (by simp)
    | some u =>
     rcases hO b with z | ⟨ob,xs,z⟩
     ·rw[q] at z;cases z
     ·have z2:=un.frzs b ob _ z
      obtain ⟨e1,_⟩:=hok b _ z
      obtain ⟨e2,_⟩:=hok' b _ z2
      rw[e] at e1;cases e1
      exact e2
 cases hk:K.lookup a with
 | some o =>
  have e:=KX a o hk
  rw[ha] at e
  cases e
  refine core (λ_=>none) (λ_ =>.inl rfl) (.inr ⟨_,vs.toArray,_,hk,rfl,rfl,rfl,by rw[D4,lenV];exact hl,by simpa using rv⟩) (λb u z=>by have z':(none:Option HO)=some u:=z;cases z') (λb z=>absurd rfl z) λz=>absurd rfl z
 | none =>
  refine core (λb=>if b=a then some (.frz { cls :=.type "list",data :=.seq vs.toArray } (.lst (ns.map V.int))) else none) (λb =>?_) (.inl (.inr ⟨{ cls :=.type "list",data :=.seq vs.toArray },if_pos rfl⟩)) (λb u z =>?_) (λb z =>?_) λ_=>hk
  ·by_cases hb:b=a
   ·exact .inr ⟨_,_,if_pos hb⟩
   ·exact .inl (if_neg hb)
  ·by_cases hb:b=a
   ·have z':=(if_pos hb).symm.trans z
    cases z'
    subst hb
    exact ⟨ha,by rw[DY];exact hl,vs,_,rv,ha⟩
   ·have z':=(if_neg hb).symm.trans z
    cases z'
  ·by_cases hb:b=a
   ·exact hb
   ·exact absurd (if_neg hb) z
theorem z9 {l:PySem.W.OpenLaw}{n k:Nat}{q:Eo}{loose:List Str}{XP:(Str->Option D1)->Heap->Prop}{YP:ES->Heap->Prop}{d:DefRec}{K:Params->D2}{CX:ES->CXT}{sp:ES->Sp}{x:Str}
  (hn:l.most=some n) (hn2:n<=Ei) (hdf:d.params.defaults=[]) (hr:cy k callerA)
  (hY:∀(w:ES) (h:Heap),YP w h->(K w.params).In h)
  (F:∀(w:ES) (mg:Str->Option D1) (fa:Addr) (h:Heap),(K w.params).In h->h.Ns EJ mg->mg d.name=some (.ref fa) →
   ∃fd:Fb,(∀(s:D5) (u:D1),BindsTo s fd ⟨[u],[]⟩ [(x,u)]) ∧
    ∀base:Heap,(K w.params).In base->base.Ns EJ mg->bB l.prog w (K w.params) mg base (CX w) k fa fd [x] (sp w))
  (hsp:∀(w:ES) (H:Hp) (a:Addr) (ns:List Int),ns.length<=n->B6 H->SqL (K w.params) H a (ns.map V.int)->sp w [.ref a] H (λv _=>v = .bl true) λ_ _ _=>False)
  (hCX:∀(w:ES) (H:Hp) (s:D5) (e:D1) (s':D5),CX w [] H s (λ_ _ _=>False) e s'->False) :
  PySem.W.WalkO q loose XP YP l.row.toRowW d [] (λf vs=>PySem.call f vs):=by
 refine Att.qJ hn hdf λw s₀ s₁ mg mb fa o pm cd doc a vs ns G Y ho hd hcd hmg hobj hints hlen hg =>?_
 have KX:=hY w _ Y
 obtain ⟨fd,hb,hF⟩:=F w mg fa _ KX G.T.g hmg
 exact xY KX G.T.g G.T.b G.T.builtins G.T.nolimit hg hobj hints (ET hlen hn2) hr hF hb (λH hO hS=>hsp w H a ns hlen hO hS) λH e s'=>hCX w H s₁ e s'
def dI (s:Stmt):Arguments:=match s with
 | .FunctionDef _ a _ _ _ _ _ _ _ _=>a
 | _=>{ posonlyargs:=[],args:=[],vararg:=none,kwonlyargs:=[],kw_defaults:=[],kwarg:=none,defaults:=[] }
def bK (s:Stmt):List Stmt:=match s with
 | .FunctionDef _ _ b _ _ _ _ _ _ _=>b
 | _=>[]
def ao (s:Stmt):Scope:=match s with
 | .FunctionDef _ _ _ _ _ _ sc _ _ _=>sc
 | _=>{ kind :=.function,names:=[],isGenerator:=false,isCoroutine:=false }
abbrev CX0:CXT:=λ_ _ _ _ _ _=>False
abbrev E0:XK:=λ_ _ _=>False
theorem Du {X:Cx}:Passes CX0 X E0:=λ_ _ _ _ _ _ _ h=>h.elim
structure Fun (K:D2)(x qual:Str)(st:Stmt)(f:Addr)(fd:Fb):Prop where
 ex:∃(oc:D1) (od:Option Addr) (kV doc pm:D1) (an:Option Addr) (cdv ct:D1) (osl:Array (Option D1)),
  fd=PySem.W.fnOf x qual (dI st) (bK st) (ao st) .none kV doc pm an cdv ct/\K.lookup f=some ⟨oc,od,.func fd,osl⟩/\PySem.W.codeIn K cdv qual=true
 kp:PySem.W.keepIn K (.ref f)=true
section
variable  {P:Eo}{w:ES}{K:D2}{mg:Str->Option D1}{base:Heap}
theorem Fun.ok {x qual:Str}{st:Stmt}{f:Addr}{fd:Fb}{N ps:List Str}{k:Nat}{sp:Sp}(F:Fun K x qual st f fd)(S:aB N ps (ao st))(len:∀vs H Q E,sp vs H Q E->vs.length=ps.length)
  (hbody:∀(cdv:D1) (A:Fi) (outer:List Env) (s:D5) (H:Hp) (vs:List V) (Q:VK) (E:XK),cy k (A.deeper (envOfC qual (ao st) s.heap.objs.size f cdv))->sp vs H Q E →
   ∃t,PSs (gA CX0 P w K mg base N qual (ao st) f cdv A outer s H E).nox (bK st) t/\t { nx:=λ_ H'=>Q .non H',rt:=Q } (start N vs) H):bB P w K mg base CX0 (k+1) f fd ps sp:=by
 obtain ⟨oc,od,kV,doc,pm,an,cdv,ct,osl,rfl,lk,hcd⟩:=F.ex
 refine Bo lk hcd S len λA outer s H vs Q E hr hsp =>?_
 obtain ⟨t,h,q⟩:=hbody cdv A outer s H vs Q E hr hsp
 exact ⟨t,h.nox,q⟩
theorem Fun.binds {x qual:Str}{st:Stmt}{f:Addr}{fd:Fb}{ps:List Str}(F:Fun K x qual st f fd)
  (h:∀(kV doc pm:D1) (an:Option Addr) (cdv ct:D1) (us:List D1),us.length=ps.length->bindArgs (PySem.W.fnOf x qual (dI st) (bK st) (ao st) .none kV doc pm an cdv ct) ⟨us,[]⟩=pure (ps.zip us)):Binds K fd ps []:=by
 obtain ⟨oc,od,kV,doc,pm,an,cdv,ct,osl,rfl,lk,hcd⟩:=F.ex
 exact .all (h kV doc pm an cdv ct)
theorem sV {x qual:Str}{st:Stmt}{f:Addr}{oc:D1}{od an:Option Addr}{osl:Array (Option D1)}{kV doc pm cdv ct:D1}(l:K.lookup f=some ⟨oc,od,.func (PySem.W.fnOf x qual (dI st) (bK st) (ao st) .none kV doc pm an cdv ct),osl⟩)
  (c:PySem.W.codeIn K cdv qual=true) (k:PySem.W.keepIn K (.ref f)=true):Fun K x qual st f (PySem.W.fnOf x qual (dI st) (bK st) (ao st) .none kV doc pm an cdv ct):=⟨⟨oc,od,kV,doc,pm,an,cdv,ct,osl,rfl,l,c⟩,k⟩
end
theorem oo {A:Fi}{k:Nat}(hr:cy k A):A.units+1<cLine:=GZ (JH (by decide:1<=64) _) hr.units
theorem bE {n:Nat}(h:n<=1000):n<Ei:=GZ h (by decide)
section
variable  {X:Cx}
theorem pv (i:Nat){x:Str}{pos:Pos}(hN:X.N[i]? = some x:=by rfl)(hv:Vis X.env.scope x:=by first | exact Or.inl rfl | exact Or.inr (Or.inl rfl) | exact Or.inr (Or.inr rfl))(hd:(x == ("__debug__" : Str))=false:=by decide)
  (hcd:(x == ("__classdict__" : Str))=false:=by decide):PE X (.Name x pos) (C0 i):=BJ hN hv hd hcd
end
theorem aF {A B:Prop}(h:B):if false=true then A else B:=by
 rw[if_neg Ek]
 exact h
theorem aS {A B:Prop}(h:A):if true=true then A else B:=by
 rw[if_pos rfl]
 exact h
theorem dy {c A B:Prop}[Decidable c](h1:c->A)(h2:¬ c->B):if c then A else B:=by
 by_cases h:c
 ·rw[if_pos h]
  exact h1 h
 ·rw[if_neg h]
  exact h2 h
theorem Dv {c A B:Prop}[Decidable c](hc:c)(h:B):if (!decide c)=true then A else B:=by
 rw[decide_eq_true hc]
 exact aF h
def ax (H H':Hp):Prop:=∀b o,H b=some o->H' b=some o
theorem ax.refl (H:Hp):ax H H:=λ_ _ h=>h
theorem ax.trans {H H1 H2:Hp}(a:ax H H1)(b:ax H1 H2):ax H H2:=λc o h=>b c o (a c o h)
theorem ax.free {H H':Hp}(e:ax H H'){l:Addr}(h:H' l=Option.none):H l=Option.none:=by
 cases q:H l with
 | none=>rfl
 | some o =>
  rw[e l o q] at h
  cases h
theorem ax.seq {K:D2}{H H':Hp}{a:Addr}{xs:List V}(e:ax H H')(h:SqL K H a xs):SqL K H' a xs:=by
 rcases h with (h | ⟨o,h⟩) | h
 ·exact .inl (.inl (e _ _ h))
 ·exact .inl (.inr ⟨o,e _ _ h⟩)
 ·exact .inr h
def qK (on:List (Str×NameKind))(N:List Str)(sc:Scope)(N':List Str)(ix:List (Option Nat)):Bool :=
 decide (sc.kind = .function) &&
 sc.names.all (λy=>match y.2 with
  | .local=>decide (sc.names.lookup y.1=some .local)
  | .cell=>false
  | .free=>decide (on.lookup y.1=some .cell) || decide (on.lookup y.1=some .free)
  | _=>true) &&
 decide (ix.length=N'.length) &&
 (ix.zip N').all (λp=>match p.1 with
  | none=>true
  | some j=>decide (N[j]? = some p.2) && decide (sc.names.lookup p.2=some .free))
theorem kn {ns:List (Str×NameKind)}{y:Str}{k:NameKind}(h:ns.lookup y=some k):(y,k)∈ns:=G9 h
structure lP (on:List (Str×NameKind))(N:List Str)(sc:Scope)(N':List Str)(ix:List (Option Nat)):Prop where
 kind:sc.kind = .function
 locs:∀y∈sc.names,y.2 = .local->sc.names.lookup y.1=some .local
 nocell:∀y∈sc.names,y.2 ≠ .cell
 frees:∀y∈sc.names,y.2 = .free->on.lookup y.1=some .cell\/on.lookup y.1=some .free
 len:ix.length=N'.length
 slot:∀(i j:Nat) (y:Str),ix[i]? = some (some j)->N'[i]? = some y->N[j]? = some y/\sc.names.lookup y=some .free
theorem lP.of {on:List (Str×NameKind)}{N:List Str}{sc:Scope}{N':List Str}{ix:List (Option Nat)}(h:qK on N sc N' ix=true):lP on N sc N' ix:=by
 unfold qK at h
 rw[EO,EO,EO] at h
 obtain ⟨⟨⟨h1,h2⟩,h3⟩,h4⟩:=h
 rw[Gv] at h2 h4
 refine ⟨of_decide_eq_true h1,λy hy e =>?_,λy hy e =>?_,λy hy e =>?_,of_decide_eq_true h3,λi j y e1 e2 =>?_⟩
 ·have q:=h2 y hy
  rw[e] at q
  exact of_decide_eq_true q
 ·have q:=h2 y hy
  rw[e] at q
  cases q
 ·have q:=h2 y hy
  rw[e] at q
  exact ((Bool.or_eq_true _ _).mp q).imp of_decide_eq_true of_decide_eq_true
 ·have q:=h4 (some j,y) (Eb (i:=i) (by rw[Kc];exact ⟨e1,e2⟩))
  dsimp only at q
  rw[EO] at q
  exact ⟨of_decide_eq_true q.1,of_decide_eq_true q.2⟩
theorem kq {α β:Type}(f:α -> β -> β)(b:α -> β -> Sem (ForInStep β)):∀(l:List α) (c:β),(∀x∈l,∀d,b x d=pure (.yield (f x d)))->forIn l c b=pure (l.foldl (λd x=>f x d) c)
 | [],c,_=>rfl
 | x :: l,c,h=>by
  rw[JI,h x D8,pure_bind]
  exact kq f b l (f x c) λy hy=>h y (Eg _ hy)
def aW (env:Env)(l:List (Str×NameKind))(c:List (Str×Addr)):List (Str×Addr) :=
 l.foldl (λd y=>if y.2 = .free then (y.1,(env.cells.lookup y.1).getD 0) :: d else d) c
theorem sW {sc:Scope}{env:Env}(h:∀y∈sc.names,y.2 = .free->∃c,env.cells.lookup y.1=some c):closureFor sc env=pure (aW env sc.names []):=by
 simp only[closureFor]
 unfold aW
 rw[kq (λy d=>if y.2 = .free then (y.1,(env.cells.lookup y.1).getD 0) :: d else d)]
 ·rfl
 ·rintro ⟨n,k⟩ hy d
  by_cases hk:k = .free
  ·subst hk
   obtain ⟨c,e⟩:=h _ hy rfl
   have e':env.cells.lookup n=some c:=e
   simp only[beq_self_eq_true,if_true,cellOf,e',Option.getD_some]
   rfl
  ·have hb:(k == NameKind.free)=false:=by simpa using hk
   simp only[hb,Ex,if_false,hk]
theorem dJ {env:Env}{y:Str}{c:Addr}:∀(l:List (Str×NameKind)) (d:List (Str×Addr)),(∀z∈l,z.2 = .free->∃c,env.cells.lookup z.1=some c)->(aW env l d).lookup y=some c →
  d.lookup y=some c\/env.cells.lookup y=some c
 | [],d,_,h =>.inl h
 | (n,k) :: l,d,hf,h=>by
  have h':(aW env l (if k = .free then (n,(env.cells.lookup n).getD 0) :: d else d)).lookup y=some c:=h
  have ih:=dJ l _ (λz hz=>hf z (Eg _ hz)) h'
  by_cases hk:k = .free
  ·subst hk
   rw[if_pos rfl] at ih
   rcases ih with q | q
   ·rw[Iw] at q
    cases hx:(y == n) with
    | true =>
     rw[hx] at q
     obtain ⟨c',e⟩:=hf (n,.free) D8 rfl
     have e':env.cells.lookup n=some c':=e
     have q':some ((env.cells.lookup n).getD 0)=some c:=q
     rw[e'] at q'
     have en:y=n:=eq_of_beq hx
     rw[en,e']
     exact .inr q'
    | false =>
     rw[hx] at q
     exact .inl q
   ·exact .inr q
  ·rw[if_neg hk] at ih
   exact ih
theorem fF {env:Env}{y:Str}:∀(l:List (Str×NameKind)) (d:List (Str×Addr)),((y,NameKind.free)∈l\/∃c,d.lookup y=some c)->∃c,(aW env l d).lookup y=some c
 | [],d,h=>by
  rcases h with h | h
  ·cases h
  ·exact h
 | (n,k) :: l,d,h=>by
  show ∃c,(aW env l (if k = .free then (n,(env.cells.lookup n).getD 0) :: d else d)).lookup y=some c
  refine fF l _ ?_
  have old:(∃c,d.lookup y=some c)->∃c,(if k = .free then (n,(env.cells.lookup n).getD 0) :: d else d).lookup y=some c:=λ⟨c,e⟩=>by
   by_cases hk:k = .free
   ·rw[if_pos hk,Iw]
    cases hx:(y == n) with
    | true=>exact ⟨_,rfl⟩
    | false=>exact ⟨c,e⟩
   ·rw[if_neg hk];exact ⟨c,e⟩
  rcases h with h | h
  ·rcases EB.mp h with q | q
   ·cases q
    rw[if_pos rfl,Iw,beq_self_eq_true]
    exact .inr ⟨_,rfl⟩
   ·exact .inl q
  ·exact .inr (old h)
theorem lQ {c:Str->NameKind->Bool}{y:Str}:∀l:List (Str×NameKind),(l.map λz=>if c z.1 z.2=true then (z.1,NameKind.cell) else (z.1,z.2)).lookup y=(l.lookup y).map λk=>if c y k=true then NameKind.cell else k
 | []=>rfl
 | (n,k) :: l=>by
  have ih:=lQ (c:=c) (y:=y) l
  rw[Ez]
  have e:(if c n k=true then (n,NameKind.cell) else (n,k))=(n,if c n k=true then NameKind.cell else k):=by split <;> rfl
  show List.lookup y ((if c n k=true then (n,NameKind.cell) else (n,k)) :: _)=_
  rw[e,Iw,Iw]
  cases hx:(y == n) with
  | true =>
   have en:y=n:=eq_of_beq hx
   subst en
   rfl
  | false=>exact ih
def blk (X:Cx)(sc:Scope)(cl:List (Str×Addr))(C:Addr)(N':List Str)(s:D5)(H:Hp)(fp:List Addr):Cx :=
 { X with N:=N',s₀:=s,H₀:=H,env:=compEnvC sc cl C X.env,outer:=X.stack,ex:=fp,fn:=λ_=>false,pn:=[],xe:=λ_ _=>False }
def PF (X:Cx)(ifs:List Expr)(t:TT):Prop :=
  ∀(pins:List (Addr×Obj)) (s:D5) (σ:St) (H:Hp) (Q:Bool->Hp->Prop),Inv X pins σ H s->t σ H Q →
    Es (EF X.prog X.w) X.A (forIn ifs true λc r=>if r=true then do let ok ← isTrue c X.env (eval c X.env);pure (ForInStep.yield ok) else pure (ForInStep.yield r)) (TP X pins σ Q) X.xe s
theorem cF {X:Cx}:PF X [] (λ_ H Q=>Q true H):=λ_ _ _ H _ I h=>wpAny_tests_nil ⟨H,I,h⟩
theorem da {X:Cx}{c:Expr}{t:TT}(h:PT X c t):PF X [c] t:=λpins s σ H Q I q=>wpAny_tests_one (h pins s σ H Q I q)
def inner (ix:List (Option Nat))(σ:St):St:=ix.map λo=>match o with | none=>none | some j=>(σ[j]?).join
def lS (J:It)(g:TG)(tc:TT)(te:TE)(τ:St)(Q:VK)(H1:Hp):Prop:=∃W:Nat->Nat->St->List V->Hp->Prop,(∃m,W 0 m τ [] H1)/\∀i m τ ys H,W i m τ ys H →
 (J.stop i H/\ys.length<=Ei/\∀l,H l=none->Q (.ref l) (upd H l (.lst ys))) ∨
 (J.go i H/\∀x H',J.yld i H x H'->g x τ H' λτ2 H2=>tc τ2 H2 λb H3=>if b=true then te τ2 H3 λy H4=>ys.length<Ei/\∃m',m'<m/\W (i+1) m' τ2 (ys++[y]) H4 else ∃m',m'<m/\W (i+1) m' τ2 ys H3)
def xZ (ix:List (Option Nat))(wi:TI)(g:TG)(tc:TT)(te:TE):TE:=λσ H Q=>wi σ H λJ H1=>lS J g tc te (inner ix σ) Q H1
section
variable  {X:Cx}{sc:Scope}{N':List Str}{ix:List (Option Nat)}{pins:List (Addr×Obj)}{σ:St}{H:Hp}{s:D5}
theorem B7 (I:Inv X pins σ H s)(K:lP X.env.scope.names X.N sc N' ix){C:Addr}{fp:List Addr}(hC:s.heap.objs.size<=C)(f:∀b∈fp,jL X pins H b)(fl:∀b∈fp,b<s.heap.objs.size) :
  (blk X sc (aW X.env sc.names []) C N' s H fp).Ok:=by
 have hcl:∀y∈sc.names,y.2 = .free->∃c,X.env.cells.lookup y.1=some c:=λy hy e=>I.ok.has y.1 (K.frees y hy e)
 have up:∀y c,(aW X.env sc.names []).lookup y=some c->X.env.cells.lookup y=some c:=λy c e=>by
  rcases dJ sc.names [] hcl e with q | q
  ·cases q
  ·exact q
 have nfs:∀b∈fp,b∉frs X.stack:=λb hb z=>by
  rcases EB.mp (I.pL b z) with q | q
  ·exact (f b hb).2.1 q
  ·exact (f b hb).2.2.1 q
 refine ⟨I.ok.mod,K.kind,I.ok.glob,I.ok.blt,hC,λy z c h1 h2=>I.ok.inj y z c (up _ _ h1) (up _ _ h2),λy hy =>?_,(λy c h=>nomatch h),I.ok.hd,I.ok.frames,.inl rfl,λb hb =>?_,λb o e=>I.bs b o e,ET I.ok.bsz I.sz,λb o e hb =>?_,nfs,I.stack,I.pM⟩
 ·have hy':(relabel sc X.env).names.lookup y=some .cell\/(relabel sc X.env).names.lookup y=some .free:=hy
  have em:=lQ (c:=λn k=>k == .free && X.env.scope.kind == .function && X.env.kindOf n == some .cell) (y:=y) sc.names
  have em':(relabel sc X.env).names.lookup y=_:=em
  rw[em'] at hy'
  cases hq:sc.names.lookup y with
  | none=>rw[hq] at hy';rcases hy' with q | q <;> cases q
  | some k =>
   have km:=kn hq
   have hk:k = .free:=by
    rw[hq] at hy'
    simp only[Hu,Option.some.injEq] at hy'
    by_cases hc:(k == .free && X.env.scope.kind == .function && X.env.kindOf y == some .cell)=true
    ·rw[EO,EO] at hc
     exact by simpa using hc.1.1
    ·rw[if_neg hc] at hy'
     rcases hy' with q | q
     ·exact absurd q (K.nocell _ km)
     ·exact q
   subst hk
   exact fF sc.names [] (.inl km)
 ·exact ⟨Ey (Er (fl b hb) hC),λy c e=>(f b hb).2.2.2.2.1 y c (up y c e)⟩
 ·rcases (f b hb).2.2.2.1 with q | q
  ·exact I.ok.noex b o e q
  ·exact absurd (Er (Ej e) (ET I.ok.bsz q)) (Fu _)
theorem Aa (I:Inv X pins σ H s)(K:lP X.env.scope.names X.N sc N' ix){C:Addr}{fp:List Addr}(hC:s.heap.objs.size<=C)(f:∀b∈fp,jL X pins H b)(fl:∀b∈fp,b<s.heap.objs.size)
  {h1:Heap} {t:Nat} {m:Str->Option D1} (k:∀b o,s.heap.get? b=some o->h1.get? b=some o) (ns:h1.Ns C m) :
  Inv (blk X sc (aW X.env sc.names []) C N' s H fp) [] (inner ix σ) H { s with heap:=h1,toks:=t }:=by
 have hcl:∀y∈sc.names,y.2 = .free->∃c,X.env.cells.lookup y.1=some c:=λy hy e=>I.ok.has y.1 (K.frees y hy e)
 have up:∀y c,(aW X.env sc.names []).lookup y=some c->X.env.cells.lookup y=some c:=λy c e=>by
  rcases dJ sc.names [] hcl e with q | q
  ·cases q
  ·exact q
 refine ⟨B7 I K hC f fl,rfl,I.bare,Un.kept k,⟨m,ns,λi y v e1 e2 e3 =>?_⟩,λy c e =>?_,I.hok.fresh hC,λy c e=>I.freeC y c (up y c e),(λp hp=>nomatch hp),I.hok.kept k,?_⟩
 ·have e2':(ix.map λo=>match o with | none=>none | some j=>(σ[j]?).join)[i]? = some (some v):=e2
  rw[En] at e2'
  cases hi:ix[i]? with
  | none=>rw[hi] at e2';cases e2'
  | some o =>
   cases o with
   | none=>rw[hi] at e2';cases e2'
   | some j =>
    rw[hi] at e2'
    have e4:(σ[j]?).join=some v:=E1 e2'
    have e5:σ[j]? = some (some v):=by
     cases hj:σ[j]? with
     | none=>rw[hj] at e4;cases e4
     | some z=>rw[hj] at e4;rw[show z=some v from e4]
    obtain ⟨n1,n2⟩:=K.slot i j y hi e1
    have mem:=kn n2
    have kc:X.env.kindOf y=some .cell\/X.env.kindOf y=some .free:=K.frees _ mem rfl
    obtain ⟨m',_,hl⟩:=I.loc
    obtain ⟨u,r,l⟩:=hl j y v n1 e5 (.inr kc)
    refine ⟨u,r,?_⟩
    rcases l with ⟨q,_⟩ | ⟨_,c,q,z⟩
    ·rcases kc with kc | kc <;> (rw[kc] at q;cases q)
    ·obtain ⟨c',hc'⟩:=fF (env:=X.env) (y:=y) sc.names [] (.inl mem)
     have:=up y c' hc'
     rw[q] at this
     cases this
     refine .inr ⟨?_,c,hc',z.keeps k⟩
     have em:=lQ (c:=λn k=>k == .free && X.env.scope.kind == .function && X.env.kindOf n == some .cell) (y:=y) sc.names
     have em':(relabel sc X.env).names.lookup y=_:=em
     rcases kc with kc | kc
     ·left
      show (relabel sc X.env).names.lookup y=some .cell
      rw[em',n2]
      simp only[Hu,kc,I.ok.kind]
      rfl
     ·right
      show (relabel sc X.env).names.lookup y=some .free
      rw[em',n2]
      simp only[Hu,kc,I.ok.kind]
      rfl
 ·obtain ⟨v,z⟩:=I.cell y c (up y c e)
  exact ⟨v,z.keeps k⟩
 ·show (ix.map _).length=N'.length
  rw[DY]
  exact K.len
end
theorem sZ {prog:Eo}{w:ES}{A:Fi}{R:Result->D5->Prop}{s:D5}{elt target iter:Expr}{ifs:List Expr}{sc:Scope}{pos:Pos}{it acc:D1}{env:Env}(J:Nat->D5->Prop)
    (turn:∀n s,J n s->Es (EF prog w) A (pyNext it) (λr s1=>match r with
      | none=>R (.ok .next) s1
      | some v=>Es (EF prog w) A (letOwnedTupleGo target it v) (λ_ s2=>Es (EF prog w) A (assign target env v) (λ_ s3 =>
          Es (EF prog w) A (forIn ifs true λc r=>if r=true then do let ok ← isTrue c env (eval c env);pure (ForInStep.yield ok) else pure (ForInStep.yield r)) (λok s4 =>
            if ok=true then Es (EF prog w) A (eval elt env) (λx s5=>Es (EF prog w) A (call (.builtin "list.append") [acc,x]) (λ_ s6=>∃m,m<n/\J m s6) (λ_ _=>False) s5) (λ_ _=>False) s4
            else ∃m,m<n/\J m s4) (λ_ _=>False) s3) (λ_ _=>False) s2) (λ_ _=>False) s1) (λ_ _=>False) s)
    (n:Nat) (h:J n s):Jb (EF prog w) A (.compLoop (.ListComp elt [⟨target,iter,ifs,0⟩] sc pos) 0 it acc env) R s:=by
  refine codeAny_loop rfl J (λk t q =>?_) n h
  show Es _ A (Sem.onRaise (compTurn (.ListComp elt [⟨target,iter,ifs,0⟩] sc pos) 0 it acc env) (λx=>do noteFrame x env;theTreesLotGoes x)) _ _ t
  refine wpAny_noted ?_
  rw[compTurn_list]
  have no:∀{E:D1->D5->Prop} (x:D1) (t:D5),False->E x t:=λ_ _ z=>z.elim
  refine DX (JD (DX (Gp (turn k t q) (λr s1 h1 =>?_) no)))
  cases r with
  | none=>exact D3 h1
  | some v =>
    refine DX (Gp h1 (λ_ s2 h2=>DX (Gp h2 (λ_ s3 h3=>DX (Gp h3 (λok s4 h4 =>?_) no)) no)) no)
    cases ok with
    | false=>exact D3 ⟨rfl,h4⟩
    | true=>exact DX (DX (Gp h4 (λx s5 h5=>DX (Gp h5 (λ_ s6 h6=>D3 (D3 ⟨rfl,h6⟩)) no)) no))
section
variable  {X:Cx}
def Ab (X:Cx)(pins:List (Addr×Obj))(σ:St)(Q:VK)(use:Option (D1->Sem Unit))(Q2:D1->D5->Prop):Prop :=
 ∀(s4:D5) (H3:Hp) (acc C:Addr) (ys:List V) (oC:Obj),Inv X (pins++[(C,oC)]) σ (upd H3 acc (.lst ys)) s4->(∃m,s4.heap.Ns C m)->X.s₀.heap.objs.size<=C->(∀x c,X.env.cells.lookup x=some c->c≠C)->(∀p∈X.pn++pins,p.1≠C)->Q (.ref acc) (upd H3 acc (.lst ys)) →
  compPost (EF X.prog X.w) X.A X.xe use Q2 (.ref acc) C (.ok .next) s4
theorem oq {elt target iter:Expr}{ifs:List Expr}{sc:Scope}{pos ps:Pos}{wi:TI}{g:TG}{tc:TT}{te:TE}{N':List Str}{ix:List (Option Nat)}{use:Option (D1->Sem Unit)}{Q2:D1->D5->Prop}
  {pins:List (Addr×Obj)} {s:D5} {σ:St} {H:Hp} {Q:VK}
  (hcalm:X.calm=true) (hi:PI X target iter wi) (hk:qK X.env.scope.names X.N sc N' ix=true)
  (hg:∀cl C s H fp,PG (blk X sc cl C N' s H fp) target g) (hc:∀cl C s H fp,PF (blk X sc cl C N' s H fp) ifs tc) (he:∀cl C s H fp,PE (blk X sc cl C N' s H fp) elt te)
  (hs:∀x,foldedSetIterable iter X.env x=pure x) (fin:Ab X pins σ Q use Q2) (I:Inv X pins σ H s) (h:xZ ix wi g tc te σ H Q) :
  Es (EF X.prog X.w) X.A (comprehension (.ListComp elt [⟨target,iter,ifs,0⟩] sc pos) sc X.env ps (newList []) false (eval iter X.env) use) Q2 X.xe s:=by
 have K:=lP.of hk
 have hcl:∀y∈sc.names,y.2 = .free->∃c,X.env.cells.lookup y.1=some c:=λy hy e=>I.ok.has y.1 (K.frees y hy e)
 refine wpAny_comprehension_free rfl hs (sW hcl) K.kind K.locs (thn (hi pins s σ H _ I h) λv s1 h1=>thn h1 λitv s2 h2 =>?_)
 obtain ⟨it,fp,tn,J,H2,e,I2,T,st2,f2,W,⟨m0,w0⟩,turn⟩:=h2
 subst e
 refine Fq (wpAny_newFunctionEnv K.nocell (by intro y hy;simp at hy) (λh1 ns1 sb1 =>?_) K.kind)
 dsimp only at ns1 sb1 ⊢
 generalize hP:s2.heap.push { cls :=.type "list",dict:=none,data :=.seq ([]:List D1).toArray }=G at ns1 sb1 ⊢
 have sG:G.objs.size=s2.heap.objs.size+1:=by rw[<- hP,Gd]
 have fl:∀b∈fp,b<s2.heap.objs.size:=λb hb=>by
  obtain ⟨o,e,_⟩:=T.obj _ _ st2 b hb
  exact Ej e
 have hC:s2.heap.objs.size<=G.objs.size:=by rw[sG];exact Ks _
 have aC:s2.heap.objs.size≠G.objs.size:=by rw[sG];exact Ey (G1 _)
 have old:∀b o,s2.heap.get? b=some o->h1.get? b=some o:=λb o e=>by
  have lt:=Ej e
  have ne:b≠G.objs.size:=Ey (Er lt hC)
  rw[sb1.2 b ne]
  exact DZ _ (hP ▸ DZ _ e)
 have accO:h1.PlainList s2.heap.objs.size #[]:=⟨_,by
  rw[sb1.2 _ aC]
  exact DZ _ (hP ▸ Ed _ rfl)⟩
 have IB:=Aa (t:=s2.toks+([]:List (Str×D1)).length) I2 K hC f2 fl old ns1
 have up:∀y c,(aW X.env sc.names []).lookup y=some c->X.env.cells.lookup y=some c:=λy c e=>by
  rcases dJ sc.names [] hcl e with q | q
  ·cases q
  ·exact q
 have accNotCell:∀y c,(aW X.env sc.names []).lookup y=some c->c≠s2.heap.objs.size:=λy c e z=>by
  obtain ⟨v,q⟩:=I2.cell y c (up y c e)
  exact absurd q.lt (by rw[z];exact Fu _)
 have accFs:s2.heap.objs.size∉frs X.stack:=λz=>by
  rcases EB.mp (I2.pL _ z) with q | q
  ·exact absurd I2.lt (by rw[<- q];exact Fu _)
  ·exact I2.BI (D6 _) q
 have accFp:s2.heap.objs.size∉fp:=λz=>absurd (fl _ z) (Fu _)
 have stat:∀{H':Hp} {ob:Obj},(∀b∈fp,H' b=none)->∀b∈fp,jL (blk X sc (aW X.env sc.names []) G.objs.size N' s2 H2 fp) [(s2.heap.objs.size,ob)] H' b:=λ{H' ob} hn b hb=>by
  refine ⟨hn b hb,Ey (Er (fl b hb) hC),IB.ok.exfs b hb,.inl hb,λy c e=>(f2 b hb).2.2.2.2.1 y c (up y c e),λp hp z =>?_⟩
  have ep:p=(s2.heap.objs.size,ob):=by simpa [blk] using hp
  subst ep
  exact accFp (by rw[show s2.heap.objs.size=b from z];exact hb)
 have accPin:∀{pl:List (Addr×Obj)} {σ':St} {H':Hp} {s':D5} {its:Array D1} {n:Nat},Inv (blk X sc (aW X.env sc.names []) G.objs.size N' s2 H2 fp) pl σ' H' s'->s'.heap.get? s2.heap.objs.size=some { cls :=.type "list",data :=.seq its n } →
   H' s2.heap.objs.size=none->Inv (blk X sc (aW X.env sc.names []) G.objs.size N' s2 H2 fp) [(s2.heap.objs.size,{ cls :=.type "list",data :=.seq its n })] σ' H' s':=λ{pl σ' H' s' its n} J' e nn=>J'.i5 λp hp=>by
  have ep:p=(s2.heap.objs.size,({ cls :=.type "list",data :=.seq its n }:Obj)):=by simpa [blk] using hp
  subst ep
  exact ⟨e,nn,aC,accFs,λv z=>nomatch z⟩
 have loop:Jb (EF X.prog X.w) X.A (.compLoop (.ListComp elt [⟨target,iter,ifs,0⟩] sc pos) 0 (.ref it) (.ref s2.heap.objs.size) (compEnvC sc (aW X.env sc.names []) G.objs.size X.env))
   (compPost (EF X.prog X.w) X.A X.xe use Q2 (.ref s2.heap.objs.size) G.objs.size) { s2 with heap:=h1,toks:=s2.toks+([]:List (Str×D1)).length }:=by
  refine sZ (λn s'=>∃i ys its nn σ' H',Inv (blk X sc (aW X.env sc.names []) G.objs.size N' s2 H2 fp) [(s2.heap.objs.size,{ cls :=.type "list",data :=.seq its nn })] σ' H' s'/\Vals ys its.toList/\tn i s'.heap/\(∀b∈fp,H' b=none)/\W i n σ' ys H')
   (λn s3 h3 =>?_) m0 ?_
  ·obtain ⟨i,ys,its,nn,σ3,H3,I3,r3,st3,fr3,w3⟩:=h3
   obtain ⟨e3,a3,_,_,_⟩:=I3.pin (s2.heap.objs.size,{ cls :=.type "list",data :=.seq its nn }) (by simp[blk])
   rcases turn i n σ3 ys H3 w3 with ⟨stop,zl,q3⟩ | ⟨go,step⟩
   ·refine thn (T.done (blk X sc (aW X.env sc.names []) G.objs.size N' s2 H2 fp) rfl rfl rfl hcalm i _ s3 σ3 H3 _ I3 (stat fr3) st3 stop) λr s4 ⟨hr,I4⟩ =>?_
    subst hr
    obtain ⟨e4,a4,_,_,_⟩:=I4.pin (s2.heap.objs.size,{ cls :=.type "list",data :=.seq its nn }) (by simp[blk])
    obtain ⟨m4,n4,_⟩:=I4.loc
    obtain ⟨oC,es4,ep4,c4,d4,r4⟩:=id n4
    have ltA:∀b o,s2.heap.get? b=some o->b≠s2.heap.objs.size:=λb o e=>Ey (Ej e)
    have B:=I4.base
    have hok:HOk X.prog X.w (upd H3 s2.heap.objs.size (.lst ys)) s4.heap:=λb o e=>by
     by_cases hb:b=s2.heap.objs.size
     ·subst hb
      rw[ae] at e
      cases e
      exact ⟨zl,its.toList,nn,r3,e4⟩
     ·rw[ak hb] at e
      refine (I4.hok b o e).stay (λc u hc q=>q) (λc q =>?_) (λc xs q =>?_)
      ·rw[ak (aq q a4)];exact q
      ·rw[ak (aq q a4)];exact q
    have I5:Inv X pins σ (upd H3 s2.heap.objs.size (.lst ys)) s4:=by
     refine I2.Bm (ch:=fp) I4.os ⟨λb o e n hb hx=>B.keep b o e n hb hx,λb o e n hb hx=>B.slot b o e n hb hx,λb o e n hx =>?_,λb o e hx=>B.there b o e hx,λb xs e =>?_,λb o u e =>?_,λb ps e =>?_⟩ hok I4.bare (λb hb =>?_)
     ·rw[ak (ltA b o e)];exact B.free b o e n hx
     ·have q:=B.tups b xs e
      rw[ak (aq q a4)];exact q
     ·have q:=B.frzs b o u e
      rw[ak (aq q a4)];exact q
     ·obtain ⟨more,q⟩:=B.tbls b ps e
      exact ⟨more,by rw[ak (aq q a4)];exact q⟩
     ·obtain ⟨g0,g1,g2,g3,g4,g5⟩:=f2 b hb
      exact ⟨g3,g1,g4,g5⟩
    have cL:G.objs.size≠X.env.locals:=GV (Er I2.lt hC)
    have I6:Inv X (pins++[(G.objs.size,oC)]) σ (upd H3 s2.heap.objs.size (.lst ys)) s4:=I5.i5 λp hp=>by
     rcases Eh.mp hp with q | q
     ·exact I5.pin p (EH _ q)
     ·have ep:p=(G.objs.size,oC):=by simpa using q
      subst ep
      exact ⟨c4,by rw[ak (F8 aC)];exact I4.free,cL,I2.BI hC,λv z=>by rw[d4] at z;cases z⟩
    refine fin s4 H3 s2.heap.objs.size G.objs.size ys oC I6 ⟨m4,n4⟩ (ET I2.sz hC) (λy c e z =>?_) (λp hp z =>?_) (q3 _ a4)
    ·obtain ⟨v,q⟩:=I2.cell y c e
     exact absurd (Er q.lt hC) (by rw[z];exact Fu _)
    ·exact absurd (Er (Ej (I2.pin p hp).1) hC) (by rw[z];exact Fu _)
   ·refine thn (T.item (blk X sc (aW X.env sc.names []) G.objs.size N' s2 H2 fp) rfl rfl rfl hcalm i _ s3 σ3 H3 _ I3 (stat fr3) st3 go) λr s4 ⟨u,hr,h4⟩ =>?_
    subst hr
    refine thn h4 λ_ s5 ⟨x,H5,I5,r5,y5,st5,fr5⟩ =>?_
    have I5':=I5.pinned (stat fr5) (T.obj _ _ st5)
    refine thn (hg _ _ _ _ _ _ s5 σ3 H5 x u _ I5' r5 (step x H5 y5)) λ_ s6 ⟨σ6,H6,I6,q6⟩ =>?_
    refine thn (hc _ _ _ _ _ _ s6 σ6 H6 _ I6 q6) λok s7 ⟨H7,I7,q7⟩ =>?_
    have back:∀{σ7:St} {H7:Hp} {s7:D5},Inv (blk X sc (aW X.env sc.names []) G.objs.size N' s2 H2 fp) ([(s2.heap.objs.size,{ cls :=.type "list",data :=.seq its nn })]++iD fp s5.heap) σ7 H7 s7->tn (i+1) s7.heap/\∀b∈fp,H7 b=none:=λJ7 =>
     ⟨T.keep _ _ _ st5 λb hb o e=>(J7.pin (b,o) (EH _ (EH _ (dU hb e)))).1,λb hb=>by
      obtain ⟨o,e,d⟩:=T.obj _ _ st5 b hb
      exact (J7.pin (b,o) (EH _ (EH _ (dU hb e)))).2.1⟩
    cases ok with
    | false =>
     rw[if_neg (by decide)] at q7
     obtain ⟨m',lm,w7⟩:=q7
     show ∃m,m<n/\_
     exact ⟨m',lm,i+1,ys,its,nn,σ6,H7,I7.eR,r3,(back I7).1,(back I7).2,w7⟩
    | true =>
     rw[if_pos rfl] at q7
     refine thn (he _ _ _ _ _ _ s7 σ6 H7 _ I7 q7) λz s8 ⟨y,H8,I8,r8,lz,m',lm,w8⟩ =>?_
     obtain ⟨e8,a8,_,_,_⟩:=I8.pin (s2.heap.objs.size,{ cls :=.type "list",data :=.seq its nn }) (by simp[blk])
     have sz:its.size<=Ei:=by
      have l:ys.length=its.size:=r3.length.trans D9
      rw[<- l]
      exact HU lz
     refine wpAny_list_append_plain ⟨nn,e8⟩ (λh' pl' sb' =>?_) sz
     obtain ⟨n9,e9⟩:=pl'
     have I8p:Inv (blk X sc (aW X.env sc.names []) G.objs.size N' s2 H2 fp) (iD fp s5.heap) σ6 H8 s8:=I8.i5 λp hp=>I8.pin p (EH _ (EH _ hp))
     have I9:=I8p.turned (it:=s2.heap.objs.size) (h':=h') (t':=s8.toks) (λb o ne e=>by rw[sb'.2 b ne];exact e) a8 aC (.inr (D6 _)) (λy c e=>accNotCell y c e) (λp hp z=>by
      have hp':p∈iD fp s5.heap:=by simpa [blk] using hp
      exact accFp (by rw[<- z];exact (n5 hp').1))
     have b9:tn (i+1) h'/\∀b∈fp,H8 b=none :=
      ⟨T.keep _ _ _ st5 λb hb o e=>(I9.pin (b,o) (EH _ (dU hb e))).1,(back I8).2⟩
     exact ⟨m',lm,i+1,ys++[y],its.push z,n9,σ6,H8,accPin I9 e9 a8,by rw[Gx];exact r3.append (.cons r8 .nil),b9.1,b9.2,w8⟩
  ·obtain ⟨n0,e0⟩:=accO
   exact ⟨0,[], #[],n0,_,H2,accPin IB e0 (I2.hok.fresh (D6 _)),.nil,T.keep _ _ _ st2 λb hb o e=>old b o e,λb hb=>(f2 b hb).1,w0⟩
 exact codeAny_compStart_list loop (T.self _ 0 _ _ _ (T.keep _ _ _ st2 λb hb o e=>old b o e) loop)
theorem bI {elt target iter:Expr}{ifs:List Expr}{sc:Scope}{pos:Pos}{wi:TI}{g:TG}{tc:TT}{te:TE}(N':List Str)(ix:List (Option Nat))
  (hcalm:X.calm=true) (hi:PI X target iter wi) (hk:qK X.env.scope.names X.N sc N' ix=true)
  (hg:∀cl C s H fp,PG (blk X sc cl C N' s H fp) target g) (hc:∀cl C s H fp,PF (blk X sc cl C N' s H fp) ifs tc) (he:∀cl C s H fp,PE (blk X sc cl C N' s H fp) elt te)
  (hs:∀x,foldedSetIterable iter X.env x=pure x:=by intro _;rfl):PE X (.ListComp elt [⟨target,iter,ifs,0⟩] sc pos) (xZ ix wi g tc te):=by
 intro pins s σ H Q I h
 rw[eval_ListComp]
 refine oq hcalm hi hk hg hc he hs (λs4 H3 acc C ys oC I4 ns hC hc hp q =>?_) I h
 obtain ⟨m,ns⟩:=ns
 refine ⟨m,ns,λh' sb=>⟨.ref acc,_,?_,rfl,q⟩⟩
 obtain ⟨_,n0,n1,n2,_⟩:=I4.pin (C,oC) (by simp)
 exact (I4.eR).turned (it:=C) (h':=h') (t':=s4.toks) (λb o ne e=>by rw[sb.2 b ne];exact e) n0 n1 (.inr hC) hc hp
theorem bO {elt target iter:Expr}{ifs:List Expr}{sc:Scope}{pos pos' spos:Pos}{wi:TI}{g:TG}{tc:TT}{te:TE}{i:Nat}{x:Str}(N':List Str)(ix:List (Option Nat))
    (hcalm:X.calm=true) (hN:X.N.Nodup) (hx:X.N[i]? = some x) (hl:X.env.scope.names.lookup x=some .local)
    (hi:PI X target iter wi) (hk:qK X.env.scope.names X.N sc N' ix=true)
    (hg:∀cl C s H fp,PG (blk X sc cl C N' s H fp) target g) (hc:∀cl C s H fp,PF (blk X sc cl C N' s H fp) ifs tc) (he:∀cl C s H fp,PE (blk X sc cl C N' s H fp) elt te)
    (hsw:swapsWith (.ListComp elt [⟨target,iter,ifs,0⟩] sc pos) (some (.Name x pos')) spos.line X.env=pure true:=by rfl)
    (hs:∀x,foldedSetIterable iter X.env x=pure x:=by intro _;rfl):PS X (.Assign [.Name x pos'] (.ListComp elt [⟨target,iter,ifs,0⟩] sc pos) spos) (BM (xZ ix wi g tc te) (gx i)):=by
  intro pins s σ H D I h
  rw[exec_Assign_Name_used _ _ _ _ hsw]
  refine DX (JD (DX ?_))
  show Es _ X.A (do let _ ← comprehension (.ListComp elt [⟨target,iter,ifs,0⟩] sc pos) sc X.env _ (newList []) false (eval iter X.env) (some (assign (.Name x pos') X.env))) _ _ s
  refine DX (Gp (oq (Q:=λv H1=>D.nx (σ.set i (some v)) H1) (Q2:=λ_ s'=>SP X pins D .next s') hcalm hi hk hg hc he hs (λs4 H3 acc C ys oC I4 ns hC hc hp q =>?_) I h) (λ_ s' q=>D3 (D3 q)) λ_ _ e=>e)
  obtain ⟨m,ns⟩:=ns
  obtain ⟨e0,n0,n1,n2,_⟩:=I4.pin (C,oC) (by simp)
  show Es _ X.A (assign (.Name x pos') X.env (.ref acc)) _ _ s4
  refine thn ((ay (i:=i) hN hx (.inl hl) (.inr hl)) (pins++[(C,oC)]) s4 σ _ (.ref acc) (.ref acc) _ I4 rfl q) λ_ s5 ⟨σ5,H5,I5,q5⟩ =>?_
  obtain ⟨e5,k0,k1,k2,_⟩:=I5.pin (C,oC) (by simp)
  obtain ⟨o',es',ep',c',r'⟩:=ns
  have e':=e0.symm.trans c'
  cases e'
  refine ⟨m,⟨_,es',ep',e5,r'⟩,λh' sb=>⟨σ5,H5,?_,q5⟩⟩
  exact (I5.eR).turned (it:=C) (h':=h') (t':=s5.toks) (λb o ne e=>by rw[sb.2 b ne];exact e) k0 k1 (.inr hC) hc hp
end
section
variable  {X:Cx}
def Bp (K:D2):R2:=λx y H Q=>∃l b xs zs,x = .ref l/\y = .ref b/\SqL K H l xs/\SqL K H b zs/\xs.length+zs.length<=Ei/\∀p,H p=none->Q (.ref p) (upd H p (.lst (xs++zs)))
theorem hV:OpR X (binaryOp .Add) (Bp X.K):=by
 intro pins s σ H x y v u Q I rx ry h
 obtain ⟨l,b,xs,zs,rfl,rfl,hH,hB,hz,q⟩:=h
 cases rx
 cases ry
 obtain ⟨its,r,e,z⟩:=I.list hH
 obtain ⟨its2,r2,e2,z2⟩:=I.list hB
 obtain ⟨⟨c1,d1,da1,sl1⟩,n,e,k1,k2,k3⟩:=e
 obtain ⟨⟨c2,d2,da2,sl2⟩,n2,e2,g1,g2,g3⟩:=e2
 simp only at k1 k3 g1 g3
 subst k1 k3 g1 g3
 have l1:=r.length
 have l2:=r2.length
 have ea:its.toArray++its2.toArray=(its++its2).toArray:=by simp
 refine Li ⟨_,e,rfl⟩ ⟨_,e2,rfl⟩ noFill_list_add seq_list_add PySem.F.slot_list_add PySem.F.entry_list_add
  (PySem.F.args_list_add_2 _ _) (list_addW l b its.toArray its2.toArray n n2 d1 d2 sl1 sl2 (by rw[D4,D4];omega)) ⟨e,e2,?_⟩
 rw[ea]
 exact ⟨.ref _,_,I.Dt (t':=s.toks) (r.append r2) (by rw[D7];omega),rfl,q _ I.fresh⟩
end
def uP (k:Nat)(tc:TT)(te:TE)(τ:St)(Pv:Nat->List V->Hp->Prop)(i:Nat)(x:V)(ys:List V)(H:Hp):Prop :=
 ∀(R1:V->Hp->Prop) (R0:Hp->Prop),(∀y H4,Pv (i+1) (ys++[y]) H4->R1 y H4)->(∀H3,Pv (i+1) ys H3->R0 H3)->tc (τ.set k (some x)) H λb H3=>if b=true then te (τ.set k (some x)) H3 R1 else R0 H3
theorem dX {K:D2}{a:Addr}{xs:List V}{k:Nat}{tc:TT}{te:TE}{τ:St}{H:Hp}{Q:VK}(Pv:Nat->List V->Hp->Prop)(h0:Pv 0 [] H)(hz:xs.length<=Ei)
  (hl:∀i ys H,i<=xs.length->Pv i ys H->SqL K H a xs) (hs:∀i x ys H,xs[i]? = some x->ys.length<=i->Pv i ys H->uP k tc te τ Pv i x ys H)
  (hd:∀ys H,ys.length<=xs.length->Pv xs.length ys H->∀l,H l=none->Q (.ref l) (upd H l (.lst ys))) :
  lS (Itl K a) (gx k) tc te τ Q H:=by
 refine ⟨λi m σ ys H=>m=xs.length-i/\i<=xs.length/\(∀x,σ.set k (some x)=τ.set k (some x))/\ys.length<=i/\Pv i ys H,⟨xs.length,by simp,EZ _,λ_=>rfl,D6 _,h0⟩,?_⟩
 rintro i m σ ys H ⟨rfl,hi,hτ,hy,p⟩
 have q:=hl i ys H hi p
 by_cases hlt:i<xs.length
 ·refine .inr ⟨⟨xs,xs[i],q,by simp[hlt]⟩,λx H' y =>?_⟩
  obtain ⟨e,y⟩:=y
  subst e
  show tc (σ.set k (some x)) _ _
  rw[hτ x]
  have hσ:∀z,(τ.set k (some x)).set k (some z)=τ.set k (some z):=λz=>by rw[JX]
  refine hs i x ys _ (y xs q) hy p _ _ (λy4 H4 p4=>⟨by lia,xs.length-(i+1),by lia,rfl,hlt,hσ,by rw[D7,ED];lia,p4⟩) λH3 p3=>⟨xs.length-(i+1),by lia,rfl,hlt,hσ,by lia,p3⟩
 ·have e:i=xs.length:=by lia
  subst e
  exact .inl ⟨⟨xs,q,D6 _⟩,by lia,hd ys H hy p⟩
theorem bF {K:D2}{a:Addr}{xs:List V}{k:Nat}{tc:TT}{te:TE}{τ:St}{H:Hp}{Q:VK}(Pv:Nat->List V->Hp->Prop)(h0:Pv 0 [] H)(hz:xs.length<=Ei)
  (hl:∀i ys H,i<=xs.length->Pv i ys H->SqT K H a xs) (hs:∀i x ys H,xs[i]? = some x->ys.length<=i->Pv i ys H->uP k tc te τ Pv i x ys H)
  (hd:∀ys H,ys.length<=xs.length->Pv xs.length ys H->∀l,H l=none->Q (.ref l) (upd H l (.lst ys))) :
  lS (Itt K a) (gx k) tc te τ Q H:=by
 refine ⟨λi m σ ys H=>m=xs.length-i/\i<=xs.length/\(∀x,σ.set k (some x)=τ.set k (some x))/\ys.length<=i/\Pv i ys H,⟨xs.length,by simp,EZ _,λ_=>rfl,D6 _,h0⟩,?_⟩
 rintro i m σ ys H ⟨rfl,hi,hτ,hy,p⟩
 have q:=hl i ys H hi p
 by_cases hlt:i<xs.length
 ·refine .inr ⟨⟨xs,xs[i],q,by simp[hlt]⟩,λx H' y =>?_⟩
  obtain ⟨e,y⟩:=y
  subst e
  show tc (σ.set k (some x)) _ _
  rw[hτ x]
  have hσ:∀z,(τ.set k (some x)).set k (some z)=τ.set k (some z):=λz=>by rw[JX]
  refine hs i x ys _ (y xs q) hy p _ _ (λy4 H4 p4=>⟨by lia,xs.length-(i+1),by lia,rfl,hlt,hσ,by rw[D7,ED];lia,p4⟩) λH3 p3=>⟨xs.length-(i+1),by lia,rfl,hlt,hσ,by lia,p3⟩
 ·have e:i=xs.length:=by lia
  subst e
  exact .inl ⟨⟨xs,q,D6 _⟩,by lia,hd ys H hy p⟩
theorem bL {lo:Int}{n:Nat}{k:Nat}{tc:TT}{te:TE}{τ:St}{H:Hp}{Q:VK}(Pv:Nat->List V->Hp->Prop)(h0:Pv 0 [] H)(hz:n<=Ei)
  (hs:∀i ys H,i<n->ys.length<=i->Pv i ys H->uP k tc te τ Pv i (.int (lo+i)) ys H)
  (hd:∀ys H,ys.length<=n->Pv n ys H->∀l,H l=none->Q (.ref l) (upd H l (.lst ys))) :
  lS (Itr lo n) (gx k) tc te τ Q H:=by
 refine ⟨λi m σ ys H=>m=n-i/\i<=n/\(∀x,σ.set k (some x)=τ.set k (some x))/\ys.length<=i/\Pv i ys H,⟨n,by simp,EZ _,λ_=>rfl,D6 _,h0⟩,?_⟩
 rintro i m σ ys H ⟨rfl,hi,hτ,hy,p⟩
 by_cases hlt:i<n
 ·refine .inr ⟨hlt,λx H' y =>?_⟩
  obtain ⟨e,y⟩:=y
  subst e y
  show tc (σ.set k (some (.int (lo+i)))) _ _
  rw[hτ]
  have hσ:∀z,(τ.set k (some (.int (lo+i)))).set k (some z)=τ.set k (some z):=λz=>by rw[JX]
  refine hs i ys _ hlt hy p _ _ (λy4 H4 p4=>⟨by lia,n-(i+1),by lia,rfl,hlt,hσ,by rw[D7,ED];lia,p4⟩) λH3 p3=>⟨n-(i+1),by lia,rfl,hlt,hσ,by lia,p3⟩
 ·have e:i=n:=by lia
  subst e
  exact .inl ⟨D6 _,by lia,hd ys H hy p⟩
structure Cal (P:Eo)(w:ES)(K:D2)(mg:Str->Option D1)(base:Heap)(k:Nat)(x:Str)(ps:List Str)(sp:Sp):Prop where
 ex:∃f fd,bB P w K mg base CX0 k f fd ps sp/\mg x=some (.ref f)/\PySem.W.keepIn K (.ref f)=true/\Binds K fd ps []
theorem aA {X:Cx}{j k:Nat}{x:Str}{ps:List Str}{sp:Sp}{e:Expr}{es:List Expr}{t:TA}{p pos:Pos}(C:Cal X.prog X.w X.K X.mg X.base k x ps sp)(hr:cy j X.A)(hj:k<=j)(hg:Gl X x)(ha:PA X (e :: es) t)
  (hdb:(x == ("__debug__" : Str))=false:=by decide) (he:E5 (e :: es) X.env=(false,eval e X.env) :: E5 es X.env:=by rfl) (hpl:(Ig pos (E5 es X.env)).any (·.1)=false:=by rfl) :
  PE X (.Call (.Name x p) (e :: es) [] pos) (xP sp [] E0 t):=by
 obtain ⟨f,fd,F,m,kp,b⟩:=C.ex
 exact uL F (hr.mono hj) hg m kp b .nil Du ha hdb he hpl
theorem ag {H:Hp}{p:Addr}(h:H p=none)(o:HO):ax H (upd H p o):=λb u q=>by rw[ak (aq q h)];exact q
theorem nwZ {H:Hp}{x:Addr}(h:H x=none)(o:HO):∃ H',upd H x o=H'∧ax H H'∧H' x=some o:=⟨_,rfl,ag h o,ae⟩
theorem small {n:Nat}(h:n<=1000):n<=Ei:=HU (bE h)
section
variable  {X:Cx}
theorem ku {its:List D1}{bs:List Bool}(h:Vals (bs.map V.bl) its){prog:Eo}{w:ES}{A:Fi}:TruthOf prog w A (λi v=>its.toArray[i]? = some v) (λi=>bs.getD i false):=by
 intro i v s Q E hv q
 have l:=h.length
 rw[DY] at l
 have hi:i<its.length:=by
  rw[Fd] at hv
  exact (Ea.mp hv).1
 have e:(bs.map V.bl)[i]? = some (.bl (bs.getD i false)):=by
  rw[En,Ew,Ec (by lia)]
  rfl
 obtain ⟨u,e1,e2⟩:=h.get e
 rw[Fd,e1] at hv
 have ev:u=v:=E1 hv
 subst ev
 cases (show u=Value.bool _ from e2)
 exact Gi q
theorem all_range (bs:List Bool):((E2 bs.length).all λi=>bs.getD i false)=bs.all id:=by
 rw[Gr,Gv,Gv]
 constructor
 ·intro h x hx
  obtain ⟨i,e⟩:=Fw.mp hx
  have hi:i<bs.length:=(Ea.mp e).1
  have q:=h i (Fv.mpr hi)
  rw[Ew,e] at q
  exact q
 ·intro h i hi
  have hi':=Fv.mp hi
  rw[Ew,Ec hi']
  exact h _ (HM hi')
theorem lT (hc:X.calm=true):bZ X (.builtin "all") (λxs H Q=>∃(p:Addr) (bs:List Bool),xs=[.ref p]/\SqL X.K H p (bs.map V.bl)/\Q (.bl (bs.all id)) H):=by
 intro pins s σ H xs us Q I r h
 obtain ⟨p,bs,rfl,hs,q⟩:=h
 obtain ⟨u,rfl,ru⟩:=vals1 r
 cases (show u=Eu p from ru)
 obtain ⟨its,rv,pl,hz⟩:=I.list hs
 have l:=rv.length
 rw[DY] at l
 have hpl:p<s.heap.objs.size:=by obtain ⟨o,_,e,_⟩:=pl;exact Ej e
 refine call_all_walk (G7 pl.isList ?_)
 have hd:X.A.in1.handled=none:=I.ok.hd hc
 refine ⟨s.heap.objs.size,_,_,_,_,_,_,rfl,Mp hd s.heap.objs.size p (Ey hpl) its.toArray,⟨⟨_,Ed _ rfl,rfl,rfl⟩,?_⟩,ku rv,λh' tk k =>?_⟩
 ·exact pl.isList.at λo e=>DZ _ e
 ·have e:((E2 its.toArray.size).all λi=>bs.getD i false)=bs.all id:=by rw[D4, <- l,all_range]
  rw[e]
  refine ⟨.bl (bs.all id),H,I.kept (t':=tk) (λb o eb=>k b o ?_ (DZ _ eb)),rfl,q⟩
  intro hb
  have:b=s.heap.objs.size:=by simpa using hb
  exact absurd (Ej eb) (by rw[this];exact Fu _)
def Ac:V->List V->Hp->VK->Prop:=λx vs H Q=>∃(l:Addr) (xs:List V) (i:Int) (y:V),x = .ref l/\vs=[.int i,y]/\H l=some (.lst xs)/\0<=i/\i<=xs.length/\xs.length<Ei/\Q .non (upd H l (.lst (xs.take i.toNat++y :: xs.drop i.toNat)))
theorem we:MtM X "list.insert" Ac:=by
 intro pins s σ H x vs v us Q I rx rv h
 obtain ⟨l,xs,i,y,rfl,rfl,hH,h0,h1,hz,q⟩:=h
 cases rx
 obtain ⟨ui,uy,rfl,⟨t,rfl⟩,ry⟩:=vals2 rv
 obtain ⟨z,its,n,r,hl,e⟩:=I.v9 hH
 have zl:=iE
 have fits:¬ (!Builtin.List.listFitsIndex i)=true:=by
  have:Builtin.List.listFitsIndex i=true:=by
   unfold Builtin.List.listFitsIndex
   simp only[EO,decide_eq_true_eq]
   lia
  rw[this];simp
 refine IK F.slot_list_insert ⟨_,e,rfl⟩ F.entry_list_insert (F.args_list_insert_3 _ _ _) (KH l its.toArray n i t uy fits (by rw[D4];lia)) ⟨e,?_⟩
 refine ⟨.non,_,I.xW (its':=its.take i.toNat++uy :: its.drop i.toNat) hH e ?_ ((r.take _).append (.cons ry (r.drop _))) ?_,rfl,q⟩
 ·have ek:min i.toNat its.toArray.size=i.toNat:=by rw[D4];lia
  dsimp only
  rw[if_neg (by lia),ek]
  apply Jo.mp
  rw[E3,Gx,Gm,Gm,FE,FE]
  simp
  rw[Et (by rw[FJ];lia)]
 ·rw[D7,EI,Ff,FJ]
  lia
def fG (K:D2)(H:Hp):Nat->V->V->Prop
 | 0,x,y=>(∃i,x = .int i/\y = .int i)\/∃a,x = .ref a/\y = .ref a
 | n+1,x,y=>(∃i,x = .int i/\y = .int i)\/(∃a,x = .ref a/\y = .ref a)\/∃a b xs ys,x = .ref a/\y = .ref b/\((SqT K H a xs/\SqT K H b ys)\/(SqL K H a xs/\SqL K H b ys))/\Paired (fG K H n) xs ys
theorem ot {α β:Type}{F:α -> β -> Prop}:∀{l:List α} {m:List β} {i:Nat} {x:α} {y:β},Paired F l m->l[i]? = some x->m[i]? = some y->F x y
 | _,_,0,_,_,.cons h _,e1,e2=>by simp at e1 e2;subst e1 e2;exact h
 | _,_,i+1,_,_,.cons _ t,e1,e2=>ot (i:=i) t (by simpa using e1) (by simpa using e2)
 | _,_,_,_,_,.nil,e1,_=>by simp at e1
theorem all_true (n:Nat):((E2 n).all λ_=>true)=true:=by simp
theorem cX {K:D2}{H:Hp}{n:Nat}{s:D5}{A:Fi}{xs ys:List V}{us vs:List D1}(p:Paired (fG K H n) xs ys)(r1:Vals xs us)(r2:Vals ys vs)
  (ih:∀x y u v,fG K H n x y->RelV x u->RelV y v->JE A s u v true):∀j (h1:j<us.toArray.size) (h2:j<vs.toArray.size),JE A s us.toArray[j] vs.toArray[j] true:=λj h1 h2=>by
 rw[D4] at h1 h2
 have l1:=r1.length
 have l2:=r2.length
 have e1:xs[j]? = some xs[j]:=Ec (by omega)
 have e2:ys[j]? = some ys[j]:=Ec (by omega)
 obtain ⟨u,g1,q1⟩:=r1.get e1
 obtain ⟨v,g2,q2⟩:=r2.get e2
 have f1:us.toArray[j]=u:=by simp[Ea] at g1;obtain ⟨_,g⟩:=g1;simpa using g
 have f2:vs.toArray[j]=v:=by simp[Ea] at g2;obtain ⟨_,g⟩:=g2;simpa using g
 rw[f1,f2]
 exact ih _ _ u v (ot p e1 e2) q1 q2
theorem hW {pins:List (Addr×Obj)}{σ:St}{H:Hp}{s:D5}(I:Inv X pins σ H s):∀(n:Nat) (A:Fi) (x y:V) (u v:D1),A.units+n<cLine->fG X.K H n x y->RelV x u->RelV y v->JE A s u v true
 | 0,A,x,y,u,v,_,h,ru,rv=>by
  rcases h with ⟨i,rfl,rfl⟩ | ⟨a,rfl,rfl⟩
  ·obtain ⟨t,rfl⟩:=(show ∃t,u=F7 i t from ru)
   obtain ⟨t',rfl⟩:=(show ∃t,v=F7 i t from rv)
   have:=GY (A:=A) (s:=s) i t i t'
   rw[beq_self_eq_true] at this
   exact this
  ·cases (show u=Eu a from ru)
   cases (show v=Eu a from rv)
   exact JG _
 | n+1,A,x,y,u,v,hA,h,ru,rv=>by
  rcases h with ⟨i,rfl,rfl⟩ | ⟨a,rfl,rfl⟩ | ⟨a,b,xs,ys,rfl,rfl,hs,p⟩
  ·obtain ⟨t,rfl⟩:=(show ∃t,u=F7 i t from ru)
   obtain ⟨t',rfl⟩:=(show ∃t,v=F7 i t from rv)
   have:=GY (A:=A) (s:=s) i t i t'
   rw[beq_self_eq_true] at this
   exact this
  ·cases (show u=Eu a from ru)
   cases (show v=Eu a from rv)
   exact JG _
  ·cases (show u=Eu a from ru)
   cases (show v=Eu b from rv)
   by_cases hab:a=b
   ·subst hab;exact JG _
   refine SeqAt.EqAt.of_refs hab ?_
   have ih:∀x y u v,fG X.K H n x y->RelV x u->RelV y v->JE A.in1 s u v true:=λx y u v h1 h2 h3=>hW I n A.in1 x y u v (by show A.units+1+n<cLine;lia) h1 h2 h3
   have pl:=G4 p
   rcases hs with ⟨h1,h2⟩ | ⟨h1,h2⟩
   ·obtain ⟨its,r1,p1,_⟩:=I.tuple h1
    obtain ⟨its2,r2,p2,_⟩:=I.tuple h2
    have q:=Mq (e:=λ_=>true) (show s.heap.IsTuple a its.toArray from p1) (show s.heap.IsTuple b its2.toArray from p2) (by lia) (cX p r1 r2 ih)
    have ez:its.toArray.size=its2.toArray.size:=by rw[D4,D4, <- r1.length, <- r2.length,pl]
    rw[all_true,ez,beq_self_eq_true] at q
    exact q
   ·obtain ⟨its,r1,p1,_⟩:=I.list h1
    obtain ⟨its2,r2,p2,_⟩:=I.list h2
    have q:=MK (e:=λ_=>true) p1.isList p2.isList (by rw[D4,D4, <- r1.length, <- r2.length,pl]) (by lia) (cX p r1 r2 ih)
    rw[all_true] at q
    exact q
theorem B8 {k:Nat}(hr:cy k X.A):OpR X (FP .NotEq) (λx y H Q=>∃a b xs ys,x = .ref a/\y = .ref b/\SqL X.K H a xs/\SqL X.K H b ys/\((xs.length≠ys.length/\Q (.bl true) H)\/(Paired (fG X.K H 20) xs ys/\Q (.bl false) H))):=by
 intro pins s σ H x y v u Q I rx ry h
 obtain ⟨a,b,xs,ys,rfl,rfl,h1,h2,h3⟩:=h
 cases (show v=Eu a from rx)
 cases (show u=Eu b from ry)
 obtain ⟨its,r1,⟨⟨c1,d1,da1,sl1⟩,n1,e1,k1,_,k3⟩,_⟩:=I.list h1
 obtain ⟨its2,r2,⟨⟨c2,d2,da2,sl2⟩,n2,e2,g1,_,g3⟩,_⟩:=I.list h2
 simp only at k1 k3 g1 g3
 subst k1 k3 g1 g3
 have l1:=r1.length
 have l2:=r2.length
 have hu:=hr.un
 have hu1:X.A.units<cLine:=by lia
 rcases h3 with ⟨ne,q⟩ | ⟨p,q⟩
 ·refine Gq (op :=.NotEq) ⟨_,e1,rfl⟩ ⟨_,e2,rfl⟩ Ke JJ (Jp _ _) (Kt a b its.toArray its2.toArray n1 n2 d1 d2 sl1 sl2 (by simp;lia)) ⟨e1,e2,?_⟩ hu1
  exact ⟨(λz=>nomatch z),⟨.bl true,H,I,rfl,q⟩⟩
 ·have pl:=G4 p
  refine Gq (op :=.NotEq) ⟨_,e1,rfl⟩ ⟨_,e2,rfl⟩ Ke JJ (Jp _ _) (MT a b its.toArray its2.toArray n1 n2 d1 d2 sl1 sl2 (by rw[D4,D4];lia) (λ_=>true)) ⟨e1,e2,?_,?_⟩ hu1
  ·exact cX p r1 r2 λx y u v h1 h2 h3=>hW I 20 _ x y u v (by show X.A.units+1+_<cLine;lia) h1 h2 h3
  ·rw[all_true]
   exact ⟨(λz=>nomatch z),⟨.bl false,H,I,rfl,q⟩⟩
end
def Bq (K:D2)(k l:Nat):TG:=Dd K 2 (xH (gx k) (xH (gx l) Dc))
def Dw (k l:Nat)(tc:TT)(te:TE)(τ:St)(Pv:Nat->List V->Hp->Prop)(i:Nat)(a b:V)(ys:List V)(H:Hp):Prop :=
 ∀(R1:V->Hp->Prop) (R0:Hp->Prop),(∀y H4,Pv (i+1) (ys++[y]) H4->R1 y H4)->(∀H3,Pv (i+1) ys H3->R0 H3)->tc ((τ.set k (some a)).set l (some b)) H λc H3=>if c=true then te ((τ.set k (some a)).set l (some b)) H3 R1 else R0 H3
section
variable  {X:Cx}{K:D2}
theorem dM (h:X.K=K:=by rfl):IxR X (Dr K):=by subst h;exact aG
theorem gC (h:X.K=K:=by rfl):OpR X (FP .In) (rIn K false):=by subst h;exact v8
theorem cn (h:X.K=K:=by rfl):OpR X (FP .NotIn) (rIn K true):=by subst h;exact pV
end
theorem Inv.tj {X:Cx}{pins:List (Addr×Obj)}{σ:St}{H:Hp}{s:D5}{h':Heap}{t':Nat}{ch:List Addr}{T:Addr}{o:HO}(I:Inv X pins σ H s)(f:∀b∈ch,jL X pins H b)
  (k:∀b ob,b∉ch->s.heap.get? b=some ob->h'.get? b=some ob) (th:∀b∈ch,∃ob,h'.get? b=some ob) (hT:s.heap.objs.size<=T) (new:aX X.prog X.w (upd H T o) h' T o):Inv X pins σ (upd H T o) { s with heap:=h',toks:=t' }:=by
 have hn:H T=none:=I.hok.fresh hT
 have nT:∀b ob,s.heap.get? b=some ob->b≠T:=λb ob e=>Ey (Er (Ej e) hT)
 refine I.step (g':=s.gens) (d':=s.drawn) (ch:=ch) (λb hb =>?_) (λb ob _ _ hc e _=>k b ob hc e) (λb ob _ _ hc e _=>⟨ob.slots,k b ob hc e⟩) (λb ob _ e n=>by rw[ak (nT b ob e)];exact n)
  (λb ob hc e=>⟨ob,k b ob hc e⟩) (λb xs e=>by rw[ak (aq e hn)];exact e) (λb ob u e=>by rw[ak (aq e hn)];exact e) (λb ps e=>⟨#[],by rw[ak (aq e hn),e];simp⟩) (λm hm =>?_) (λb u e =>?_) I.bare
 ·obtain ⟨g0,g1,g2,g3,g4,g5⟩:=f b hb
  exact ⟨g3,g1,g4,g5⟩
 ·obtain ⟨ob,es,ep,ho,r⟩:=hm
  exact ⟨ob,es,ep,k _ ob (λz=>(f _ z).2.1 rfl) ho,r⟩
 ·by_cases hb:b=T
  ·subst hb
   rw[ae] at e
   cases e
   exact new
  ·rw[ak hb] at e
   refine (I.hok b u e).stay (λc v hc q=>k c v ?_ q) (λc q=>by rw[ak (aq q hn)];exact q) λc xs q=>by rw[ak (aq q hn)];exact q
   intro z
   have n0:=(f c z).1
   rcases hc with hc | hc
   ·rw[hc,e] at n0;cases n0
   ·rw[hc] at n0;cases n0
open PySem.AutoSeq1 (wpAny_loadPart')
section
variable  {prog:Eo}{w:ES}{A:Fi}{E:D1->D5->Prop}{s:D5}
theorem tm {it t:Addr}{i:Nat}{items:Array D1}{x:D1}{Q:D1->D5->Prop}(hi:s.heap.IsTupleIter it t i)(hl:s.heap.IsTuple t items)(hx:items[i]? = some x)
  (q:∀h',h'.IsTupleIter it t (i+1)->Heap.SameBut it s.heap h'->Q x { s with heap:=h' }):Es (EF prog w) A (Builtin.SmallTypes.nextOf (.ref it)) Q E s:=by
 obtain ⟨o,eo,oc,od⟩:=id hi
 obtain ⟨ol,el,_,nl,dl⟩:=hl
 unfold Builtin.SmallTypes.nextOf
 refine DX (FD (name:=Str.ofString "__next__") hi.typeIs Hi (FA Hi hi.typeIs JK ?_ (JA _)))
 show Es _ _ (field (.ref it) 0 >>= _) _ _ s;refine DX (GG eo od (x :=.ref t) rfl ?_)
 show Es _ _ (if (Eu t == GA)=true then _ else _) _ _ s;rw[if_neg (show ¬ ((Eu t == GA)=true) from Ek)]
 show Es _ _ (field (.ref it) 1 >>= _) _ _ s;refine DX (GG eo od (x :=.int i 0) rfl ?_)
 show Es _ _ (seqItems? (.ref t) >>= _) _ _ s;refine DX (FG el dl ?_)
 simp only[Fo,hx];refine DX (wpAny_setField eo od (by simp) (D3 ⟨x,rfl,D3 (q _ ?_ (Iz ..))⟩))
 exact ⟨_,Fj _ eo (Obj.isFreed_of_fields (Mc od _)),(Obj.cls_mapFields ..).trans oc,by rw[Mc od];simp[Kb]⟩
theorem lU {it t:Addr}{i:Nat}{items:Array D1}{Q:D1->D5->Prop}(hh:A.handled=none)(hi:s.heap.IsTupleIter it t i)(hl:s.heap.IsTuple t items)(hx:items[i]? = none)
  (q:∀h' e,Heap.ExtBut it s.heap h'->(∃o,h'.get? e=some o/\o.cls = .type "StopIteration")->E (.ref e) { s with heap:=h' }):Es (EF prog w) A (Builtin.SmallTypes.nextOf (.ref it)) Q E s:=by
 obtain ⟨o,eo,oc,od⟩:=id hi
 obtain ⟨ol,el,_,nl,dl⟩:=hl
 unfold Builtin.SmallTypes.nextOf
 refine DX (FD (name:=Str.ofString "__next__") hi.typeIs Hi (FA Hi hi.typeIs JK ?_ (JA _)))
 show Es _ _ (field (.ref it) 0 >>= _) _ _ s;refine DX (GG eo od (x :=.ref t) rfl ?_)
 show Es _ _ (if (Eu t == GA)=true then _ else _) _ _ s;rw[if_neg (show ¬ ((Eu t == GA)=true) from Ek)]
 show Es _ _ (field (.ref it) 1 >>= _) _ _ s;refine DX (GG eo od (x :=.int i 0) rfl ?_)
 show Es _ _ (seqItems? (.ref t) >>= _) _ _ s;refine DX (FG el dl ?_)
 simp only[Fo,hx];refine DX (GQ (DX (wpAny_setField eo od (by simp) ?_)))
 show Es _ _ (newExc (.type "StopIteration") [] >>= _) _ _ _;refine DX ?_
 simp only[newExc,newTuple];refine DX (Fq ?_ (by size_fits))
 refine DX (m:=firstArgMember _ _) (KA (a:=GA) (by first | rfl | (simp only[firstArgMember];rfl)) ?_);refine Fq ?_ (by size_fits)
 simp only[raiseNew];refine DX (wpAny_handled ?_)
 first | (rw[show A.in1.handled=none from hh]) | (rw[hh])
 refine DX (D3 (wpAny_throw ?_));exact q _ _ (((Iz ..).extBut.push _).push _) ⟨_,Ed _ rfl,rfl⟩
end
section
variable  {X:Cx}
end
def B9 (J:It)(g:TG)(tb:TS)(D:Ends)(σ:St)(H:Hp):Prop:=∃W:Nat->Nat->St->Hp->Prop,(∃m,W 0 m σ H)/\∀i m σ H,W i m σ H →
 (J.stop i H/\D.nx σ H)\/(J.go i H/\∃N:St->Hp->Prop,(∀σ' H',N σ' H'->∃m',m'<m/\W (i+1) m' σ' H')/\∀x H',J.yld i H x H'->g x σ H' λσ2 H2=>tb { D with nx:=N,ct:=N,bk:=D.nx } σ2 H2)
end L2
namespace Srt
open PySem PyProof.Rows
def gal:Bool->EA->Array EA->Nat->Nat->Nat->StateT EU Sem (Option Nat):=sortPriv% PySem.Builtin.gallop
def mLo:Array EA->Array EA->StateT EU Sem (Array EA):=sortPriv% PySem.Builtin.mergeLo
def mHi:Array EA->Array EA->StateT EU Sem (Array EA):=sortPriv% PySem.Builtin.mergeHi
def mAt:Nat->StateT EU Sem Bool:=sortPriv% PySem.Builtin.mergeAt
def Br:StateT EU Sem Unit:=sortPriv% PySem.Builtin.sortRuns
def Ca:Nat->Nat->StateT EU Sem (Option Nat):=sortPriv% PySem.Builtin.countRun
def x8:Nat->Nat->Nat->StateT EU Sem Bool:=sortPriv% PySem.Builtin.binarySort
theorem Cb (lf:Bool)(ky:EA)(ar:Array EA)(bs n ht:Nat):gal lf ky ar bs n ht=(do
    let far (i:Nat):StateT EU Sem (Option Bool):=do
      let z ← elem' ar (bs+i)
      if lf then lt' z ky else return (← lt' ky z).map (!·)
    let mut la:=0;let mut of:=1
    let mut lo:=0;let mut hi:=0
    let some rt ← far ht | return none
    if rt then
      let mx:=n-ht
      for _ in [0:n] do
        if of≥mx then break
        let some mo ← far (ht+of)
          | return none
        if !mo then break
        la:=of;of:=2*of+1
      lo:=ht+la+1;hi:=ht+min of mx
    else
      let mx:=ht+1
      for _ in [0:n] do
        if of≥mx then break
        let some fd ← far (ht-of)
          | return none
        if fd then break
        la:=of;of:=2*of+1
      lo:=ht+1-min of mx;hi:=ht-la
    for _ in [0:n] do
      if lo≥hi then break
      let md:=lo+(hi-lo)/2
      let some mo ← far md | return none
      if mo then lo:=md+1 else hi:=md
    return some hi):=rfl
section
variable  {prog:Eo}{w:ES}{A:Fi}{E:D1->D5->Prop}{s:D5}
theorem x9 {lf:Bool}{ky:EA}{ar:Array EA}{bs n ht:Nat}{st:EU}{Q:Option Nat->EU->Prop}(p:Nat->Bool)
    (hf:∀i,i<n->∀(Q:Option Bool->EU->Prop),Q (some (p i)) st->wpS (EF prog w) A E s (do let z ← elem' ar (bs+i);if lf then lt' z ky else return (← lt' ky z).map (!·)) Q st)
    (hp:∀i j,i<=j->j<n->p j=true->p i=true) (hh:ht<n)
    (h:∀k,k<=n->(∀i,i<k->p i=true)->(∀i,k<=i->i<n->p i=false)->Q (some k) st):wpS (EF prog w) A E s (gal lf ky ar bs n ht) Q st:=by
  rw[Cb]
  dsimp only
  refine Ep (hf ht hh _ ?_)
  dsimp only
  cases hr:p ht with
  | true =>
    rw[if_pos rfl]
    refine Ep (GS (FR (I:=λx c st'=>st=st'/\∃la of,c=(none,la,of)/\la<of/\x+1<=of/\ht+la<n/\p (ht+la)=true)
      (Q:=λc st'=>st=st'/\∃la of,c=(none,la,of)/\la<of/\ht+la<n/\p (ht+la)=true/\(n-ht<=of\/(ht+of<n/\p (ht+of)=false))) ?step ?fin ⟨rfl,0,1,rfl,by lia,by lia,by lia,by simpa using hr⟩) ?post)
    case fin =>
      rintro c st' ⟨rfl,la,of,rfl,b1,b2,b3,b4⟩
      exact ⟨rfl,la,of,rfl,b1,b3,b4,.inl (by lia)⟩
    case step =>
      rintro x c st' _ hx ⟨rfl,la,of,rfl,b1,b2,b3,b4⟩
      dsimp only
      by_cases hge:of≥n-ht
      · rw[if_pos hge]
        exact EC ⟨rfl,la,of,rfl,b1,b3,b4,.inl hge⟩
      · rw[if_neg hge]
        refine Ep (hf _ (by lia) _ ?_)
        dsimp only
        cases hm:p (ht+of) with
        | true =>
          simp only[F3,Ex,if_false]
          exact EC ⟨rfl,of,2*of+1,rfl,by lia,by lia,by lia,hm⟩
        | false =>
          simp only[LC,if_true]
          exact EC ⟨rfl,la,of,rfl,b1,b3,b4,.inr ⟨by lia,hm⟩⟩
    case post =>
      rintro c st' ⟨rfl,la,of,rfl,b1,b3,b4,b5⟩
      have h1:(ht+la+1)<=(ht+min of (n-ht)):=by lia
      have h2:(ht+min of (n-ht))<=n:=by lia
      have h3:∀i,i<(ht+la+1)->p i=true:=λi hi=>hp i (ht+la) (by lia) b3 b4
      have h4:∀i,(ht+min of (n-ht))<=i->i<n->p i=false:=λi hi hn=>by
        rcases b5 with b5 | ⟨b5,b6⟩
        · lia
        · cases hpi:p i with
          | false=>rfl
          | true=>rw[hp (ht+of) i (by lia) hn hpi] at b6;cases b6
      dsimp only
      refine Ep (GS (FR (I:=λx c st'=>st=st'/\∃lo hi,c=(none,lo,hi)/\lo<=hi/\hi<=n/\hi-lo<=n-x/\(∀i,i<lo->p i=true)/\(∀i,hi<=i->i<n->p i=false))
        (Q:=λc st'=>st=st'/\∃k,c=(none,k,k)/\k<=n/\(∀i,i<k->p i=true)/\(∀i,k<=i->i<n->p i=false)) ?step ?fin ⟨rfl,(ht+la+1),(ht+min of (n-ht)),rfl,h1,h2,by lia,h3,h4⟩) ?post)
      case fin =>
        rintro c st' ⟨rfl,lo,hi,rfl,a1,a2,a3,a4,a5⟩
        have e:lo=hi:=by lia
        subst e
        exact ⟨rfl,lo,rfl,a2,a4,a5⟩
      case post =>
        rintro c st' ⟨rfl,k,rfl,a2,a4,a5⟩
        exact EC (h k a2 a4 a5)
      case step =>
        rintro x c st' _ hx ⟨rfl,lo,hi,rfl,a1,a2,a3,a4,a5⟩
        dsimp only
        by_cases hge:lo≥hi
        · rw[if_pos hge]
          have e:lo=hi:=by lia
          subst e
          exact EC ⟨rfl,lo,rfl,a2,a4,a5⟩
        · rw[if_neg hge]
          refine Ep (hf _ (by lia) _ ?_)
          dsimp only
          cases hm:p (lo+(hi-lo)/2) with
          | true =>
            rw[if_pos rfl]
            exact EC ⟨rfl,_,_,rfl,by lia,a2,by lia,λi hi'=>hp i _ (by lia) (by lia) hm,a5⟩
          | false =>
            rw[if_neg (by simp)]
            refine EC ⟨rfl,_,_,rfl,by lia,by lia,by lia,a4,λi hi' hn =>?_⟩
            cases hpi:p i with
            | false=>rfl
            | true=>rw[hp _ i hi' hn hpi] at hm;cases hm
  | false =>
    rw[if_neg (by simp)]
    refine Ep (GS (FR (I:=λx c st'=>st=st'/\∃la of,c=(none,la,of)/\la<of/\x+1<=of/\la<=ht/\p (ht-la)=false)
      (Q:=λc st'=>st=st'/\∃la of,c=(none,la,of)/\la<of/\la<=ht/\p (ht-la)=false/\(ht+1<=of\/(of<=ht/\p (ht-of)=true))) ?step ?fin ⟨rfl,0,1,rfl,by lia,by lia,by lia,by simpa using hr⟩) ?post)
    case fin =>
      rintro c st' ⟨rfl,la,of,rfl,b1,b2,b3,b4⟩
      exact ⟨rfl,la,of,rfl,b1,b3,b4,.inl (by lia)⟩
    case step =>
      rintro x c st' _ hx ⟨rfl,la,of,rfl,b1,b2,b3,b4⟩
      dsimp only
      by_cases hge:of≥ht+1
      · rw[if_pos hge]
        exact EC ⟨rfl,la,of,rfl,b1,b3,b4,.inl hge⟩
      · rw[if_neg hge]
        refine Ep (hf _ (by lia) _ ?_)
        dsimp only
        cases hm:p (ht-of) with
        | true =>
          rw[if_pos rfl]
          exact EC ⟨rfl,la,of,rfl,b1,b3,b4,.inr ⟨by lia,hm⟩⟩
        | false =>
          rw[if_neg (by simp)]
          exact EC ⟨rfl,of,2*of+1,rfl,by lia,by lia,by lia,hm⟩
    case post =>
      rintro c st' ⟨rfl,la,of,rfl,b1,b3,b4,b5⟩
      have h1:(ht+1-min of (ht+1))<=(ht-la):=by lia
      have h2:(ht-la)<=n:=by lia
      have h3:∀i,i<(ht+1-min of (ht+1))->p i=true:=λi hi=>by
        rcases b5 with b5 | ⟨b5,b6⟩
        · lia
        · exact hp i (ht-of) (by lia) (by lia) b6
      have h4:∀i,(ht-la)<=i->i<n->p i=false:=λi hi hn=>by
        cases hpi:p i with
        | false=>rfl
        | true=>rw[hp (ht-la) i hi hn hpi] at b4;cases b4
      dsimp only
      refine Ep (GS (FR (I:=λx c st'=>st=st'/\∃lo hi,c=(none,lo,hi)/\lo<=hi/\hi<=n/\hi-lo<=n-x/\(∀i,i<lo->p i=true)/\(∀i,hi<=i->i<n->p i=false))
        (Q:=λc st'=>st=st'/\∃k,c=(none,k,k)/\k<=n/\(∀i,i<k->p i=true)/\(∀i,k<=i->i<n->p i=false)) ?step ?fin ⟨rfl,(ht+1-min of (ht+1)),(ht-la),rfl,h1,h2,by lia,h3,h4⟩) ?post)
      case fin =>
        rintro c st' ⟨rfl,lo,hi,rfl,a1,a2,a3,a4,a5⟩
        have e:lo=hi:=by lia
        subst e
        exact ⟨rfl,lo,rfl,a2,a4,a5⟩
      case post =>
        rintro c st' ⟨rfl,k,rfl,a2,a4,a5⟩
        exact EC (h k a2 a4 a5)
      case step =>
        rintro x c st' _ hx ⟨rfl,lo,hi,rfl,a1,a2,a3,a4,a5⟩
        dsimp only
        by_cases hge:lo≥hi
        · rw[if_pos hge]
          have e:lo=hi:=by lia
          subst e
          exact EC ⟨rfl,lo,rfl,a2,a4,a5⟩
        · rw[if_neg hge]
          refine Ep (hf _ (by lia) _ ?_)
          dsimp only
          cases hm:p (lo+(hi-lo)/2) with
          | true =>
            rw[if_pos rfl]
            exact EC ⟨rfl,_,_,rfl,by lia,a2,by lia,λi hi'=>hp i _ (by lia) (by lia) hm,a5⟩
          | false =>
            rw[if_neg (by simp)]
            refine EC ⟨rfl,_,_,rfl,by lia,by lia,by lia,a4,λi hi' hn =>?_⟩
            cases hpi:p i with
            | false=>rfl
            | true=>rw[hp _ i hi' hn hpi] at hm;cases hm
end
structure Cmp (prog:Eo)(w:ES)(A:Fi)(s:D5)(O:JT)(key:EA->O.α)(U:EA->Prop)(κ:SortKind):Prop where
 lt:∀(E:D1->D5->Prop) (st:EU) (x y:EA) (Q:Option Bool->EU->Prop),kindOf st=κ -> U x->U y->Q (some (O.blt (key x) (key y))) st->wpS (EF prog w) A E s (lt' x y) Q st
section
variable  {prog:Eo}{w:ES}{A:Fi}{E:D1->D5->Prop}{s:D5}{O:JT}{key:EA->O.α}{U:EA->Prop}{κ:SortKind}
theorem aZ {ar:Array EA}{i:Nat}{z:EA}{st:EU}{Q:EA->EU->Prop}(h:ar[i]? = some z)(hq:Q z st):wpS (EF prog w) A E s (elem' ar i) Q st:=by
 rw[elem'_eq,h]
 exact EC hq
theorem Cc (C:Cmp prog w A s O key U κ){ky:EA}{ar:Array EA}{bs n ht:Nat}{st:EU}{Q:Option Nat->EU->Prop}(g:Nat->EA)(hk:kindOf st=κ)(uk:U ky)
  (hg:∀i,i<n->ar[bs+i]? = some (g i)) (hu:∀i,i<n->U (g i)) (hs:∀i j,i<=j->j<n->O.kle (key (g i)) (key (g j))) (hh:ht<n)
  (h:∀k,k<=n->(∀i,i<k->O.kle (key (g i)) (key ky))->(∀i,k<=i->i<n->O.klt (key ky) (key (g i)))->Q (some k) st):wpS (EF prog w) A E s (gal false ky ar bs n ht) Q st:=by
 refine x9 (λi => !O.blt (key ky) (key (g i))) (λi hi R hr =>?_) (λi j hij hj hp =>?_) hh (λk hk' h1 h2=>h k hk' (λi hi =>?_) λi hi hn =>?_)
 ·refine Ep (aZ (hg i hi) ?_)
  rw[if_neg (by simp)]
  exact Ep (C.lt _ st ky (g i) _ hk uk (hu i hi) (EC hr))
 ·have a1:O.blt (key ky) (key (g j))=false:=by simpa using hp
  have a2:O.kle (key (g i)) (key ky):=E8 (hs i j hij hj) a1
  have a3:O.blt (key ky) (key (g i))=false:=a2
  simp[a3]
 ·have a1:=h1 i hi
  exact (by simpa using a1:O.blt (key ky) (key (g i))=false)
 ·have a1:=h2 i hi hn
  exact (by simpa using a1:O.blt (key ky) (key (g i))=true)
theorem Cd (C:Cmp prog w A s O key U κ){ky:EA}{ar:Array EA}{bs n ht:Nat}{st:EU}{Q:Option Nat->EU->Prop}(g:Nat->EA)(hk:kindOf st=κ)(uk:U ky)
  (hg:∀i,i<n->ar[bs+i]? = some (g i)) (hu:∀i,i<n->U (g i)) (hs:∀i j,i<=j->j<n->O.kle (key (g i)) (key (g j))) (hh:ht<n)
  (h:∀k,k<=n->(∀i,i<k->O.klt (key (g i)) (key ky))->(∀i,k<=i->i<n->O.kle (key ky) (key (g i)))->Q (some k) st):wpS (EF prog w) A E s (gal true ky ar bs n ht) Q st:=by
 refine x9 (λi=>O.blt (key (g i)) (key ky)) (λi hi R hr =>?_) (λi j hij hj hp =>?_) hh (λk hk' h1 h2=>h k hk' (λi hi=>h1 i hi) λi hi hn=>h2 i hi hn)
 ·refine Ep (aZ (hg i hi) ?_)
  rw[if_pos rfl]
  exact C.lt _ st (g i) ky _ hk (hu i hi) uk hr
 ·exact KeyOrd.klt_of_kle_of_klt (hs i j hij hj) hp
end
section
variable  {O:JT}(key:EA->O.α)
def Le (p q:EA):Prop:=O.kle (key p) (key q)
structure MW (a b o:Array EA)(x y:Nat):Prop where
 hx:x<=a.size
 hy:y<=b.size
 perm:(o.toList++(a.toList.drop x++b.toList.drop y)).Perm (a.toList++b.toList)
 sorted:o.toList.Pairwise (Le key)
 below:∀p∈o.toList,∀z∈a.toList.drop x++b.toList.drop y,Le key p z
def eJ (a b r:Array EA):Prop:=r.toList.Perm (a.toList++b.toList)/\r.toList.Pairwise (Le key)
variable  {key}
theorem MW.fin {a b o:Array EA}{x y:Nat}(m:MW key a b o x y){t:List EA}{r:Array EA}(hr:r.toList=o.toList++t)(ht:t.Perm (a.toList.drop x++b.toList.drop y))(hs:t.Pairwise (Le key)):eJ key a b r:=by
 unfold eJ
 rw[hr]
 exact ⟨(Gy _ ht).trans m.perm,FH.mpr ⟨m.sorted,hs,λp hp q hq=>m.below p hp q (ht.mem_iff.mp hq)⟩⟩
theorem MW.take {a b o:Array EA}{x y x' y':Nat}(m:MW key a b o x y){t:List EA}{r:Array EA}(hr:r.toList=o.toList++t)(hx:x'<=a.size)(hy:y'<=b.size)
  (ht:(t++(a.toList.drop x'++b.toList.drop y')).Perm (a.toList.drop x++b.toList.drop y)) (hs:t.Pairwise (Le key)) (hb:∀p∈t,∀z∈a.toList.drop x'++b.toList.drop y',Le key p z):MW key a b r x' y':=by
 have sub:∀z,z∈t\/z∈a.toList.drop x'++b.toList.drop y'->z∈a.toList.drop x++b.toList.drop y:=λz hz=>ht.mem_iff.mp (Eh.mpr hz)
 refine ⟨hx,hy,?_,?_,?_⟩
 ·rw[hr,EV]
  exact (Gy _ ht).trans m.perm
 ·rw[hr]
  exact FH.mpr ⟨m.sorted,hs,λp hp q hq=>m.below p hp q (sub q (.inl hq))⟩
 ·rw[hr]
  intro p hp z hz
  rcases Eh.mp hp with h | h
  ·exact m.below p h z (sub z (.inr hz))
  ·exact hb p h z hz
theorem drop_cons {α:Type}{l:List α}{i:Nat}{z:α}(h:l[i]? = some z):l.drop i=z :: l.drop (i+1):=by
 obtain ⟨hi,e⟩:=Ea.mp h
 rw[List.drop_eq_getElem_cons hi,e]
theorem drop_take {α:Type}(l:List α)(i k:Nat):l.drop i=(l.drop i).take k++l.drop (i+k):=by
 rw[<- M7,Gz]
theorem aH {a:Array EA}{i:Nat}{z:EA}(h:a[i]? = some z):a.toList[i]? = some z:=by rw[Em];exact h
theorem MW.kB {a b o:Array EA}{x y:Nat}{z:EA}(m:MW key a b o x y)(h:a[x]? = some z)(ha:a.toList.Pairwise (Le key))(hb:∀t∈b.toList.drop y,Le key z t):MW key a b (o.push z) (x+1) y:=by
 have e:=drop_cons (aH h)
 have hx:x<a.size:=(GJ.mp h).1
 have pa:(z :: a.toList.drop (x+1)).Pairwise (Le key):=by rw[<- e];exact ha.sublist (Fy _ _)
 refine m.take (t:=[z]) (by rw[Gx]) hx m.hy (by rw[e];exact Ip _) (Ge _ _) λp hp t ht =>?_
 have ep:p=z:=by simpa using hp
 subst ep
 rcases Eh.mp ht with q | q
 ·exact (GB.mp pa).1 t q
 ·exact hb t q
theorem MW.ou {a b o:Array EA}{x y:Nat}{z:EA}(m:MW key a b o x y)(h:b[y]? = some z)(hb:b.toList.Pairwise (Le key))(ha:∀t∈a.toList.drop x,Le key z t):MW key a b (o.push z) x (y+1):=by
 have e:=drop_cons (aH h)
 have hy:y<b.size:=(GJ.mp h).1
 have pb:(z :: b.toList.drop (y+1)).Pairwise (Le key):=by rw[<- e];exact hb.sublist (Fy _ _)
 refine m.take (t:=[z]) (by rw[Gx]) m.hx hy (by rw[e,List.singleton_append];exact KI.symm) (Ge _ _) λp hp t ht =>?_
 have ep:p=z:=by simpa using hp
 subst ep
 rcases Eh.mp ht with q | q
 ·exact ha t q
 ·exact (GB.mp pb).1 t q
theorem ext_toList (a:Array EA)(x k:Nat):(a.extract x (x+k)).toList=(a.toList.drop x).take k:=by
 rw[Gm,FE,HH]
theorem hX (a:Array EA)(x:Nat):(a.extract x a.size).toList=a.toList.drop x:=by
 rw[Gm,FE]
 exact Et (by rw[FJ,D9];exact D6 _)
theorem aK {l:List EA}(h:l.Pairwise (Le key)){i j:Nat}{p q:EA}(hi:l[i]? = some p)(hj:l[j]? = some q)(hij:i<=j):Le key p q:=by
 by_cases e:i=j
 ·subst e
  rw[hi] at hj
  cases hj
  exact GC _
 ·obtain ⟨h1,e1⟩:=Ea.mp hi
  obtain ⟨h2,e2⟩:=Ea.mp hj
  have:=Gs.mp h i j h1 h2 (by lia)
  rw[e1,e2] at this
  exact this
theorem aY {l:List EA}{i:Nat}{t:EA}(h:t∈l.drop i):∃j,i<=j/\l[j]? = some t:=by
 obtain ⟨n,e⟩:=Fw.mp h
 rw[HS] at e
 exact ⟨i+n,by lia,e⟩
theorem kC {l:List EA}{i k:Nat}{t:EA}(h:t∈(l.drop i).take k):∃j,j<k/\l[i+j]? = some t:=by
 obtain ⟨n,e⟩:=Fw.mp h
 rw[GD] at e
 split at e
 ·rw[HS] at e
  exact ⟨n,by omega,e⟩
 ·cases e
theorem MW.ow {a b o:Array EA}{x y k:Nat}(m:MW key a b o x y)(hk:x+k<=a.size)(ha:a.toList.Pairwise (Le key))(hb:∀j p,j<k->a.toList[x+j]? = some p->∀t∈b.toList.drop y,Le key p t):MW key a b (o++a.extract x (x+k)) (x+k) y:=by
 refine m.take (t:=(a.toList.drop x).take k) (by rw[E3,ext_toList]) hk m.hy ?_ ?_ λp hp t ht =>?_
 ·rw[<- EV, <- drop_take]
 ·exact ha.sublist ((FK _ _).trans (Fy _ _))
 ·obtain ⟨j,hj,e⟩:=kC hp
  rcases Eh.mp ht with q | q
  ·obtain ⟨i,hi,e2⟩:=aY q
   exact aK ha e e2 (by lia)
  ·exact hb j p hj e t q
theorem MW.yb {a b o:Array EA}{x y k:Nat}(m:MW key a b o x y)(hk:y+k<=b.size)(hb:b.toList.Pairwise (Le key))(ha:∀j p,j<k->b.toList[y+j]? = some p->∀t∈a.toList.drop x,Le key p t):MW key a b (o++b.extract y (y+k)) x (y+k):=by
 refine m.take (t:=(b.toList.drop y).take k) (by rw[E3,ext_toList]) m.hx hk ?_ ?_ λp hp t ht =>?_
 ·rw[drop_take b.toList y k]
  have e:((b.toList.drop y).take k++b.toList.drop (y+k)).take k=(b.toList.drop y).take k:=by rw[<- drop_take]
  rw[e]
  refine (List.perm_append_comm_assoc _ _ _)
 ·exact hb.sublist ((FK _ _).trans (Fy _ _))
 ·obtain ⟨j,hj,e⟩:=kC hp
  rcases Eh.mp ht with q | q
  ·exact ha j p hj e t q
  ·obtain ⟨i,hi,e2⟩:=aY q
   exact aK hb e e2 (by lia)
theorem MW.wg {a b o:Array EA}{x y:Nat}(m:MW key a b o x y)(ha:a.toList.Pairwise (Le key))(hy:y=b.size):eJ key a b (o++a.extract x a.size++b.extract y b.size):=by
 subst hy
 have e:b.toList.drop b.size=[]:=KU (by rw[D9];exact D6 _)
 refine m.fin (t:=a.toList.drop x) (by rw[E3,E3,hX,hX,e,EN]) (by rw[e,EN]) (ha.sublist (Fy _ _))
theorem MW.wj {a b o:Array EA}{x y:Nat}(m:MW key a b o x y)(hb:b.toList.Pairwise (Le key))(hx:x=a.size):eJ key a b (o++a.extract x a.size++b.extract y b.size):=by
 subst hx
 have e:a.toList.drop a.size=[]:=KU (by rw[D9];exact D6 _)
 refine m.fin (t:=b.toList.drop y) (by rw[E3,E3,hX,hX,e,EN]) (by rw[e,HW]) (hb.sublist (Fy _ _))
theorem MW.last {a b o:Array EA}{x y:Nat}(m:MW key a b o x y)(ha:a.toList.Pairwise (Le key))(hb:b.toList.Pairwise (Le key))(hx:x+1=a.size)(hl:∀p q,p∈b.toList->a[a.size-1]? = some q->Le key p q):eJ key a b (o++b.extract y b.size++a.extract x a.size):=by
 refine m.fin (t:=b.toList.drop y++a.toList.drop x) (by rw[E3,E3,hX,hX,EV]) Hl ?_
 refine FH.mpr ⟨hb.sublist (Fy _ _),ha.sublist (Fy _ _),λp hp q hq=>hl p q (GH hp) ?_⟩
 obtain ⟨i,hi,e⟩:=aY hq
 rw[Em] at e
 have hi2:i<a.size:=(GJ.mp e).1
 rw[show a.size-1=i by lia]
 exact e
theorem MW.size {a b o:Array EA}{x y:Nat}(m:MW key a b o x y):o.size+(a.size-x)+(b.size-y)=a.size+b.size:=by
 have e:=m.perm.length_eq
 simp only[D7,FJ,D9] at e
 lia
end
structure Sm (st st':EU):Prop where
 k:kindOf st'=kindOf st
 a:EE st'=EE st
 p:ER st'=ER st
 f:failedOf st'=failedOf st
theorem Sm.refl (st:EU):Sm st st:=⟨rfl,rfl,rfl,rfl⟩
theorem Sm.mg {st st':EU}(h:Sm st st')(n:Nat):Sm st (SortSt.mk' (kindOf st') (EE st') (ER st') n (failedOf st')):=⟨h.k,h.a,h.p,h.f⟩
section
variable  {prog:Eo}{w:ES}{A:Fi}{E:D1->D5->Prop}{s:D5}{O:JT}{key:EA->O.α}{U:EA->Prop}{κ:SortKind}
theorem ba {a:Array EA}{i:Nat}(h:i<a.size):∃z,a[i]? = some z:=⟨a[i],by simp[h]⟩
theorem bS {a:Array EA}{i:Nat}{z:EA}(h:a[i]? = some z):z∈a.toList:=Fw.mpr ⟨i,by rw[Em];exact h⟩
theorem ltq {x n:Nat}(h:x<=n)(c:¬ (x == n)=true):x<n:=JY h λz=>c (beq_iff_eq.mpr z)
abbrev LoC:=Option (Array EA)×Array EA×Nat×Nat×Nat×Nat×Nat
def Ad (a b o:Array EA)(x y mg ac bc:Nat):StateT EU Sem (ForInStep LoC):=do
  let z ← elem' a x
  if (x+1+1 == a.size)=true then pure (.done (some (o.push z++b.extract y b.size++a.extract (x+1) a.size),o.push z,x+1,y,mg,ac,bc))
  else if (decide (ac<7) && decide (bc<7))=true then pure (.done (none,o.push z,x+1,y,mg,ac,bc))
  else pure (.yield (none,o.push z,x+1,y,mg,ac,bc))
def Ae (a b o:Array EA)(x y mg ac bc:Nat):StateT EU Sem (ForInStep LoC):=do
  let z ← elem' b y
  if (y+1 == b.size)=true then pure (.done (some (o.push z++a.extract x a.size++b.extract (y+1) b.size),o.push z,x,y+1,mg,ac,bc))
  else do
    let z2 ← elem' a x
    let __x ← gal true z2 b (y+1) (b.size-(y+1)) 0
    match __x with
    | some k =>
      if k>0 then
        if (y+1+k == b.size)=true then pure (.done (some (o.push z++b.extract (y+1) (y+1+k)++a.extract x a.size++b.extract (y+1+k) b.size),o.push z++b.extract (y+1) (y+1+k),x,y+1+k,mg,ac,k))
        else Ad a b (o.push z++b.extract (y+1) (y+1+k)) x (y+1+k) mg ac k
      else Ad a b (o.push z) x (y+1) mg ac k
    | _=>pure (.done (some (o.push z++a.extract x a.size++b.extract (y+1) b.size),o.push z,x,y+1,mg,ac,bc))
def wm (a b p:Array EA)(x y ac bc mg:Nat):StateT EU Sem (ForInStep LoC):=do
  modify (λs=>SortSt.mk' (kindOf s) (EE s) (ER s) mg (failedOf s))
  let z ← elem' b y
  let __x ← gal false z a x (a.size-x) 0
  match __x with
  | some k =>
    if k>0 then
      if (x+k+1 == a.size)=true then pure (.done (some (p++a.extract x (x+k)++b.extract y b.size++a.extract (x+k) a.size),p++a.extract x (x+k),x+k,y,mg,k,bc))
      else if (x+k == a.size)=true then pure (.done (some (p++a.extract x (x+k)++a.extract (x+k) a.size++b.extract y b.size),p++a.extract x (x+k),x+k,y,mg,k,bc))
      else Ae a b (p++a.extract x (x+k)) (x+k) y mg k bc
    else Ae a b p x y mg k bc
  | _=>pure (.done (some (p++a.extract x a.size++b.extract y b.size),p,x,y,mg,ac,bc))
def LoQ (key:EA->O.α)(a b:Array EA)(st:EU)(n:Nat)(r:ForInStep LoC)(st':EU):Prop:=match r with
 | .done c=>Sm st st'/\((∃r p x y mg ac bc,c=(some r,p,x,y,mg,ac,bc)/\eJ key a b r)\/∃p x y mg ac bc,c=(none,p,x,y,mg,ac,bc)/\MW key a b p x y/\x+1<a.size/\y<b.size/\n<=p.size)
 | .yield c=>Sm st st'/\∃p x y mg ac bc,c=(none,p,x,y,mg,ac,bc)/\MW key a b p x y/\x+1<a.size/\y<b.size/\n<=p.size
theorem LoQ.out {a b:Array EA}{st st':EU}{n:Nat}{r:Array EA}{c:Array EA×Nat×Nat×Nat×Nat×Nat}(sm:Sm st st')(f:eJ key a b r):LoQ key a b st n (.done (some r,c)) st':=by
 obtain ⟨p,x,y,mg,ac,bc⟩:=c
 exact ⟨sm,.inl ⟨_,_,_,_,_,_,_,rfl,f⟩⟩
theorem uQ {a b:Array EA}{st st':EU}(ha:a.toList.Pairwise (Le key))(hb:b.toList.Pairwise (Le key))(hl:∀p q,p∈b.toList->a[a.size-1]? = some q->Le key p q)
  {o:Array EA} {x y mg ac bc n:Nat} {za:EA} (sm:Sm st st') (ea:a[x]? = some za) (m4:MW key a b (o.push za) (x+1) y) (hx:x+1<a.size) (hy:y<b.size) (hn:n<=o.size):wpS (EF prog w) A E s (Ad a b o x y mg ac bc) (LoQ key a b st n) st':=by
 unfold Ad
 refine Ep (aZ ea ?_)
 by_cases d5:(x+1+1 == a.size)=true
 ·rw[if_pos d5]
  exact EC (LoQ.out sm (m4.last ha hb (beq_iff_eq.mp d5) hl))
 rw[if_neg d5]
 have hx2:x+1+1<a.size:=ltq hx d5
 have hn':n<=(o.push za).size:=by rw[Ha];exact Jg hn
 split
 ·exact EC ⟨sm,.inr ⟨_,_,_,_,_,_,rfl,m4,hx2,hy,hn'⟩⟩
 ·exact EC ⟨sm,_,_,_,_,_,_,rfl,m4,hx2,hy,hn'⟩
theorem uS (C:Cmp prog w A s O key U κ){a b:Array EA}{st st':EU}(hκ:kindOf st=κ)(ua:∀p∈a.toList,U p)(ub:∀p∈b.toList,U p)
  (ha:a.toList.Pairwise (Le key)) (hb:b.toList.Pairwise (Le key)) (hl:∀p q,p∈b.toList->a[a.size-1]? = some q->Le key p q)
  {o:Array EA} {x y mg ac bc n:Nat} {zb:EA} (sm:Sm st st') (eb:b[y]? = some zb) (mk:MW key a b o x y) (bl:∀t∈a.toList.drop x,Le key zb t) (hx1:x+1<a.size) (hy:y<b.size) (hn:n<=o.size):wpS (EF prog w) A E s (Ae a b o x y mg ac bc) (LoQ key a b st n) st':=by
 unfold Ae
 refine Ep (aZ eb ?_)
 have m2:=mk.ou eb hb bl
 by_cases d3:(y+1 == b.size)=true
 ·rw[if_pos d3]
  exact EC (LoQ.out sm (m2.wg ha (beq_iff_eq.mp d3)))
 rw[if_neg d3]
 have hy1:y+1<b.size:=ltq hy d3
 have hxa:x<a.size:=Hv hx1
 obtain ⟨za,ea⟩:=ba hxa
 refine Ep (aZ ea ?_)
 refine Ep (Cd C (λi=>(b[y+1+i]?).getD za) (sm.k.trans hκ) (ua _ (bS ea)) (λi hi =>?_) (λi hi =>?_) (λi j hij hj =>?_) (Mr hy1) λk1 hk1 g1 g2 =>?_)
 ·obtain ⟨z,e⟩:=ba (show y+1+i<b.size by omega)
  rw[e];rfl
 ·obtain ⟨z,e⟩:=ba (show y+1+i<b.size by omega)
  rw[e];exact ub _ (bS e)
 ·obtain ⟨z,e⟩:=ba (show y+1+i<b.size by omega)
  obtain ⟨z',e'⟩:=ba (show y+1+j<b.size by omega)
  rw[e,e'];exact aK hb (aH e) (aH e') (JH hij _)
 dsimp only at g1 g2 ⊢
 have tb:∀j q,j<k1->b.toList[y+1+j]? = some q->∀t∈a.toList.drop x,Le key q t:=λj q hj e t ht=>by
  have z:=g1 j hj
  rw[Em] at e
  rw[e] at z
  obtain ⟨n,hn,e2⟩:=aY ht
  exact E8 (FY z) (aK ha (aH ea) e2 hn)
 have hk1':y+1+k1<=b.size:=by omega
 have m3:=m2.yb (k:=k1) hk1' hb tb
 have bl2:∀t∈b.toList.drop (y+1+k1),Le key za t:=λt ht=>by
  obtain ⟨n,hn,e2⟩:=aY ht
  rw[Em] at e2
  have hn2:n<b.size:=(GJ.mp e2).1
  have z:=g2 (n-(y+1)) (by omega) (by omega)
  rw[show y+1+(n-(y+1))=n by omega,e2] at z
  exact z
 have hn1:n<=(o.push zb).size:=by rw[Ha];exact Jg hn
 by_cases k2:k1>0
 ·rw[if_pos k2]
  by_cases d4:(y+1+k1 == b.size)=true
  ·rw[if_pos d4]
   exact EC (LoQ.out sm (m3.wg ha (beq_iff_eq.mp d4)))
  rw[if_neg d4]
  exact uQ ha hb hl sm ea (m3.kB ea ha bl2) hx1 (ltq hk1' d4) (ET hn1 (by rw[Hw];exact GI _ _))
 ·rw[if_neg k2]
  obtain rfl:k1=0:=HQ k2
  exact uQ ha hb hl sm ea (m2.kB ea ha bl2) hx1 hy1 hn1
theorem uT (C:Cmp prog w A s O key U κ){a b:Array EA}{st st':EU}(hκ:kindOf st=κ)(ua:∀p∈a.toList,U p)(ub:∀p∈b.toList,U p)
  (ha:a.toList.Pairwise (Le key)) (hb:b.toList.Pairwise (Le key)) (hl:∀p q,p∈b.toList->a[a.size-1]? = some q->Le key p q)
  {p:Array EA} {x y ac bc n:Nat} (mg:Nat) (sm:Sm st st') (m:MW key a b p x y) (hx:x+1<a.size) (hy:y<b.size) (hn:n<=p.size):wpS (EF prog w) A E s (wm a b p x y ac bc mg) (LoQ key a b st n) st':=by
 unfold wm
 obtain ⟨zb,eb⟩:=ba hy
 refine Ep (G8 ?_)
 refine Ep (aZ eb ?_)
 refine Ep (Cc C (λi=>(a[x+i]?).getD zb) ((sm.mg _).k.trans hκ) (ub _ (bS eb)) (λi hi =>?_) (λi hi =>?_) (λi j hij hj =>?_) (Mr (Hv hx)) λk hk h1 h2 =>?_)
 ·obtain ⟨z,e⟩:=ba (show x+i<a.size by lia)
  rw[e];rfl
 ·obtain ⟨z,e⟩:=ba (show x+i<a.size by lia)
  rw[e];exact ua _ (bS e)
 ·obtain ⟨z,e⟩:=ba (show x+i<a.size by lia)
  obtain ⟨z',e'⟩:=ba (show x+j<a.size by lia)
  rw[e,e'];exact aK ha (aH e) (aH e') (JH hij _)
 dsimp only at h1 h2 ⊢
 have ta:∀j q,j<k->a.toList[x+j]? = some q->∀t∈b.toList.drop y,Le key q t:=λj q hj e t ht=>by
  have z:=h1 j hj
  rw[Em] at e
  rw[e] at z
  obtain ⟨n,hn,e2⟩:=aY ht
  exact E8 (show O.kle (key q) (key zb) from z) (aK hb (aH eb) e2 hn)
 have hk':x+k<=a.size:=by lia
 have mk:=m.ow (k:=k) hk' ha ta
 have bl:∀t∈a.toList.drop (x+k),Le key zb t:=λt ht=>by
  obtain ⟨n,hn,e2⟩:=aY ht
  rw[Em] at e2
  have hn2:n<a.size:=(GJ.mp e2).1
  have z:=h2 (n-x) (by lia) (by lia)
  rw[show x+(n-x)=n by lia,e2] at z
  exact FY z
 by_cases k0:k>0
 ·rw[if_pos k0]
  by_cases d1:(x+k+1 == a.size)=true
  ·rw[if_pos d1]
   exact EC (LoQ.out (sm.mg _) (mk.last ha hb (beq_iff_eq.mp d1) hl))
  rw[if_neg d1]
  by_cases d2:(x+k == a.size)=true
  ·rw[if_pos d2]
   exact EC (LoQ.out (sm.mg _) (mk.wj hb (beq_iff_eq.mp d2)))
  rw[if_neg d2]
  exact uS C hκ ua ub ha hb hl (sm.mg _) eb mk bl (ltq (ltq hk' d2) d1) hy (ET hn (by rw[Hw];exact GI _ _))
 ·rw[if_neg k0]
  obtain rfl:k=0:=HQ k0
  exact uS C hκ ua ub ha hb hl (sm.mg _) eb m bl hx hy hn
theorem Af (C:Cmp prog w A s O key U κ){a b:Array EA}{st st':EU}(hκ:kindOf st=κ)(ua:∀p∈a.toList,U p)(ub:∀p∈b.toList,U p)
  (ha:a.toList.Pairwise (Le key)) (hb:b.toList.Pairwise (Le key)) (hl:∀p q,p∈b.toList->a[a.size-1]? = some q->Le key p q)
  {p:Array EA} {x y ac bc n mg:Nat} (sm:Sm st st') (m:MW key a b p x y) (hx:x+1<a.size) (hy:y<b.size) (hn:n<=p.size):wpS (EF prog w) A E s (if mg>1 then wm a b p x y ac bc (mg-1) else wm a b p x y ac bc mg) (LoQ key a b st n) st':=by
 split
 ·exact uT C hκ ua ub ha hb hl (mg-1) sm m hx hy hn
 ·exact uT C hκ ua ub ha hb hl mg sm m hx hy hn
abbrev LoD:=Option (Array EA)×Array EA×Nat×Nat×Nat×Nat
abbrev LoE:=Option (Array EA)×Array EA×Nat×Nat×Nat
def yc (a b:Array EA)(mg:Nat)(c:LoD):StateT EU Sem (ForInStep LoD):=do
  let u ← elem' b c.2.2.2.1
  let v ← elem' a c.2.2.1
  let __x ← lt' u v
  match __x with
  | some bw =>
    if bw=true then do
      let z ← elem' b c.2.2.2.1
      if (c.2.2.2.1+1 == b.size)=true then pure (.done (some (c.2.1.push z++a.extract c.2.2.1 a.size++b.extract (c.2.2.2.1+1) b.size),c.2.1.push z,c.2.2.1,c.2.2.2.1+1,0,c.2.2.2.2.2+1))
      else if c.2.2.2.2.2+1≥mg then pure (.done (none,c.2.1.push z,c.2.2.1,c.2.2.2.1+1,0,c.2.2.2.2.2+1))
      else pure (.yield (none,c.2.1.push z,c.2.2.1,c.2.2.2.1+1,0,c.2.2.2.2.2+1))
    else do
      let z ← elem' a c.2.2.1
      if (c.2.2.1+1+1 == a.size)=true then pure (.done (some (c.2.1.push z++b.extract c.2.2.2.1 b.size++a.extract (c.2.2.1+1) a.size),c.2.1.push z,c.2.2.1+1,c.2.2.2.1,c.2.2.2.2.1+1,0))
      else if c.2.2.2.2.1+1≥mg then pure (.done (none,c.2.1.push z,c.2.2.1+1,c.2.2.2.1,c.2.2.2.2.1+1,0))
      else pure (.yield (none,c.2.1.push z,c.2.2.1+1,c.2.2.2.1,c.2.2.2.2.1+1,0))
  | _=>pure (.done (some (c.2.1++a.extract c.2.2.1 a.size++b.extract c.2.2.2.1 b.size),c.2.1,c.2.2.1,c.2.2.2.1,c.2.2.2.2.1,c.2.2.2.2.2))
def Ce (a b:Array EA)(c:LoC):StateT EU Sem (ForInStep LoC) :=
 if c.2.2.2.2.1>1 then wm a b c.2.1 c.2.2.1 c.2.2.2.1 c.2.2.2.2.2.1 c.2.2.2.2.2.2 (c.2.2.2.2.1-1) else wm a b c.2.1 c.2.2.1 c.2.2.2.1 c.2.2.2.2.2.1 c.2.2.2.2.2.2 c.2.2.2.2.1
def tq (a b:Array EA)(c:LoE):StateT EU Sem (ForInStep LoE):=do
  let d ← forIn [0:a.size+b.size] ((none,c.2.1,c.2.2.1,c.2.2.2.1,0,0):LoD) λ_ d=>yc a b c.2.2.2.2 d
  match d.1 with
  | some r=>pure (.done (some r,d.2.1,d.2.2.1,d.2.2.2.1,c.2.2.2.2))
  | none=>do
    rule "list.sort.gallop"
    let e ← forIn [0:a.size+b.size] ((none,d.2.1,d.2.2.1,d.2.2.2.1,c.2.2.2.2+1,d.2.2.2.2.1,d.2.2.2.2.2):LoC) λ_ e=>Ce a b e
    match e.1 with
    | some r=>pure (.done (some r,e.2.1,e.2.2.1,e.2.2.2.1,e.2.2.2.2.1))
    | none=>do
      modify (λs=>SortSt.mk' (kindOf s) (EE s) (ER s) (e.2.2.2.2.1+1) (failedOf s))
      pure (.yield (none,e.2.1,e.2.2.1,e.2.2.2.1,e.2.2.2.2.1+1))
theorem Ag (a b:Array EA):mLo a b=(do
    rule "list.sort.merge-lo"
    let z ← elem' b 0
    if (1 == b.size)=true then pure (#[z]++a.extract 0 a.size++b.extract 1 b.size)
    else if (0+1 == a.size)=true then pure (#[z]++b.extract 1 b.size++a.extract 0 a.size)
    else do
      let g ← get
      let c ← forIn [0:a.size+b.size] ((none, #[z],0,1,gallopOf g):LoE) λ_ c=>tq a b c
      match c.1 with
      | some r=>pure r
      | none=>unsupported "internal:list.sort.merge-bound"):=by
  kernel_rfl
def LdI (key:EA->O.α)(a b:Array EA)(st:EU)(n:Nat)(c:LoD)(st':EU):Prop:=Sm st st'/\∃o' x y ac bc,c=(none,o',x,y,ac,bc)/\MW key a b o' x y/\x+1<a.size/\y<b.size/\n<=o'.size
def LdQ (key:EA->O.α)(a b:Array EA)(st:EU)(n:Nat)(c:LoD)(st':EU):Prop:=Sm st st'/\((∃r o x y ac bc,c=(some r,o,x,y,ac,bc)/\eJ key a b r)\/∃o' x y ac bc,c=(none,o',x,y,ac,bc)/\MW key a b o' x y/\x+1<a.size/\y<b.size/\n<=o'.size)
theorem yd (C:Cmp prog w A s O key U κ){a b:Array EA}{st st':EU}(hκ:kindOf st=κ)(ua:∀p∈a.toList,U p)(ub:∀p∈b.toList,U p)
  (ha:a.toList.Pairwise (Le key)) (hb:b.toList.Pairwise (Le key)) (hl:∀p q,p∈b.toList->a[a.size-1]? = some q->Le key p q)
  {mg n m':Nat} {c:LoD} (I:LdI key a b st n c st') (hm:m'<=n+1) {Q:ForInStep LoD->EU->Prop} (h:∀r st',(match r with | .done c'=>LdQ key a b st (n+1) c' st' | .yield c'=>LdI key a b st m' c' st')->Q r st'):wpS (EF prog w) A E s (yc a b mg c) Q st':=by
 obtain ⟨sm2,o',x,y,ac,bc,rfl,m,hx,hy,hz⟩:=I
 unfold yc
 obtain ⟨za,ea⟩:=ba (Hv hx)
 obtain ⟨zb,eb⟩:=ba hy
 refine Ep (aZ eb (Ep (aZ ea (Ep (C.lt _ st' zb za _ (sm2.k.trans hκ) (ub _ (bS eb)) (ua _ (bS ea)) ?_)))))
 dsimp only
 have sz:∀z,n+1<=(o'.push z).size:=λz=>by rw[Ha];exact KG hz
 cases hlt:O.blt (key zb) (key za) with
 | true =>
  rw[if_pos rfl]
  refine Ep (aZ eb ?_)
  have m1:=m.ou eb hb λt ht=>by
   obtain ⟨n,hn,e⟩:=aY ht
   exact E8 (FY hlt) (aK ha (aH ea) e hn)
  by_cases c3:(y+1 == b.size)=true
  ·rw[if_pos c3]
   exact EC (h _ _ ⟨sm2,.inl ⟨_,_,_,_,_,_,rfl,m1.wg ha (beq_iff_eq.mp c3)⟩⟩)
  ·rw[if_neg c3]
   have c3':=ltq hy c3
   split
   ·exact EC (h _ _ ⟨sm2,.inr ⟨_,_,_,_,_,rfl,m1,hx,c3',sz _⟩⟩)
   ·exact EC (h _ _ ⟨sm2,_,_,_,_,_,rfl,m1,hx,c3',ET hm (sz _)⟩)
 | false =>
  rw[if_neg Ek]
  refine Ep (aZ ea ?_)
  have m1:=m.kB ea ha λt ht=>by
   obtain ⟨n,hn,e⟩:=aY ht
   exact E8 (show O.kle (key za) (key zb) from hlt) (aK hb (aH eb) e hn)
  by_cases c3:(x+1+1 == a.size)=true
  ·rw[if_pos c3]
   exact EC (h _ _ ⟨sm2,.inl ⟨_,_,_,_,_,_,rfl,m1.last ha hb (beq_iff_eq.mp c3) hl⟩⟩)
  ·rw[if_neg c3]
   have c3':=ltq hx c3
   split
   ·exact EC (h _ _ ⟨sm2,.inr ⟨_,_,_,_,_,rfl,m1,c3',hy,sz _⟩⟩)
   ·exact EC (h _ _ ⟨sm2,_,_,_,_,_,rfl,m1,c3',hy,ET hm (sz _)⟩)
def LeI (key:EA->O.α)(a b:Array EA)(st:EU)(n:Nat)(c:LoE)(st':EU):Prop:=Sm st st'/\∃o x y mg,c=(none,o,x,y,mg)/\MW key a b o x y/\x+1<a.size/\y<b.size/\n+1<=o.size
def LeQ (key:EA->O.α)(a b:Array EA)(st:EU)(c:LoE)(st':EU):Prop:=Sm st st'/\((∃r o x y mg,c=(some r,o,x,y,mg)/\eJ key a b r)\/∃o x y mg,c=(none,o,x,y,mg)/\MW key a b o x y/\x+1<a.size/\y<b.size/\a.size+b.size+1<=o.size)
theorem wo (C:Cmp prog w A s O key U κ){a b:Array EA}{st st':EU}(hκ:kindOf st=κ)(ua:∀p∈a.toList,U p)(ub:∀p∈b.toList,U p)
  (ha:a.toList.Pairwise (Le key)) (hb:b.toList.Pairwise (Le key)) (na:0<a.size) (hl:∀p q,p∈b.toList->a[a.size-1]? = some q->Le key p q)
  {n:Nat} {c:LoE} (I:LeI key a b st n c st'):wpS (EF prog w) A E s (tq a b c) (λr st'=>match r with | .done c'=>LeQ key a b st c' st' | .yield c'=>LeI key a b st (n+1) c' st') st':=by
 obtain ⟨sm1,o,x,y,mg,rfl,m,hx,hy,hz⟩:=I
 unfold tq
 have q1:1<=a.size+b.size:=ET na (GI _ _)
 refine Ep (GS (FR (I:=λj c st'=>LdI key a b st (o.size+min j 1) c st') (Q:=LdQ key a b st (o.size+1)) (λj c st2 _ hj J=>yd (n:=o.size+min j 1) (m':=o.size+min (j+1) 1) C hκ ua ub ha hb hl J (by lia) λr st' k =>?_) (λc st' J =>?_) ⟨sm1,o,x,y,0,0,rfl,m,hx,hy,D6 _⟩) ?_)
 ·cases r with
  | done c'=>exact k.imp id λz=>z.imp id λ⟨o',x,y,ac,bc,e,m,hx,hy,hz⟩=>⟨o',x,y,ac,bc,e,m,hx,hy,by lia⟩
  | yield c'=>exact k
 ·obtain ⟨sm,o',x,y,ac,bc,e,m,hx,hy,hz⟩:=J
  exact ⟨sm,.inr ⟨o',x,y,ac,bc,e,m,hx,hy,by lia⟩⟩
 rintro c st2 ⟨sm2,⟨r,o',x,y,ac,bc,rfl,fr⟩ | ⟨o',x,y,ac,bc,rfl,m,hx,hy,hz2⟩⟩
 ·exact EC ⟨sm2,.inl ⟨_,_,_,_,_,rfl,fr⟩⟩
 dsimp only
 refine Ep (J8 (GQ ⟨rfl,?_⟩))
 refine Ep (GS (FR (I:=λ_ c st'=>LoQ key a b st o'.size (.yield c) st') (Q:=λc st'=>LoQ key a b st o'.size (.done c) st') (λj c st3 _ hj J =>?_) (λc st' J=>⟨J.1,.inr J.2⟩) ⟨sm2,o',x,y,_,ac,bc,rfl,m,hx,hy,D6 _⟩) ?_)
 ·obtain ⟨sm3,p,x,y,mg,ac,bc,rfl,m,hx,hy,hz3⟩:=J
  refine GS (Af C hκ ua ub ha hb hl sm3 m hx hy hz3) ?_
  intro r st' h
  cases r <;> exact h
 rintro c st3 ⟨sm3,⟨r,p,x,y,mg,ac,bc,rfl,fr⟩ | ⟨p,x,y,mg,ac,bc,rfl,m,hx,hy,hz3⟩⟩
 ·exact EC ⟨sm3,.inl ⟨_,_,_,_,_,rfl,fr⟩⟩
 ·dsimp only
  exact Ep (G8 (EC ⟨sm3.mg _,p,x,y,_,rfl,m,hx,hy,by lia⟩))
theorem Cf (C:Cmp prog w A s O key U κ){a b:Array EA}{st:EU}{Q:Array EA->EU->Prop}(hκ:kindOf st=κ)(ua:∀p∈a.toList,U p)(ub:∀p∈b.toList,U p)
  (ha:a.toList.Pairwise (Le key)) (hb:b.toList.Pairwise (Le key)) (na:0<a.size) (nb:0<b.size) (h0:∀p q,b[0]? = some p->a[0]? = some q->Le key p q) (hl:∀p q,p∈b.toList->a[a.size-1]? = some q->Le key p q)
  (h:∀r st',Sm st st'->eJ key a b r->Q r st'):wpS (EF prog w) A E s (mLo a b) Q st:=by
 rw[Ag]
 refine Ep (J8 (GQ ⟨rfl,?_⟩))
 obtain ⟨b0,eb0⟩:=ba nb
 obtain ⟨a0,ea0⟩:=ba na
 have a0le:∀t∈a.toList,Le key a0 t:=λt ht=>by
  obtain ⟨i,e⟩:=Fw.mp ht
  exact aK ha (aH ea0) e (EZ _)
 have m0:MW key a b #[] 0 0:=⟨EZ _,EZ _,Ip _,List.Pairwise.nil,λp hp=>by cases hp⟩
 have m1:MW key a b #[b0] 0 1:=m0.ou eb0 hb λt ht=>E8 (h0 _ _ eb0 ea0) (a0le t ht)
 refine Ep (aZ eb0 ?_)
 by_cases c1:(1 == b.size)=true
 ·rw[if_pos c1]
  exact EC (h _ st (Sm.refl st) (m1.wg ha (beq_iff_eq.mp c1)))
 rw[if_neg c1]
 by_cases c2:(0+1 == a.size)=true
 ·rw[if_pos c2]
  exact EC (h _ st (Sm.refl st) (m1.last ha hb (beq_iff_eq.mp c2) hl))
 rw[if_neg c2]
 refine Ep (JR ?_)
 refine Ep (GS (FR (I:=λi c st'=>LeI key a b st i c st') (Q:=LeQ key a b st) (λi c st1 _ _ J=>GS (wo C hκ ua ub ha hb na hl J) λr st' h=>by cases r <;> exact h) (λc st' J =>?_) ⟨Sm.refl st,_,_,_,_,rfl,m1,ltq na c2,ltq nb c1,D6 _⟩) ?_)
 ·obtain ⟨sm,o,x,y,mg,e,m,hx,hy,hz⟩:=J
  exact ⟨sm,.inr ⟨o,x,y,mg,e,m,hx,hy,by lia⟩⟩
 rintro c st' ⟨sm,⟨r,o,x,y,mg,rfl,fr⟩ | ⟨o,x,y,mg,rfl,m,hx,hy,hz⟩⟩
 ·exact EC (h r st' sm fr)
 ·have:=m.size
  lia
end
section
variable  {O:JT}(key:EA->O.α)
structure MV (a b o:Array EA)(x y:Nat):Prop where
 hx:x<=a.size
 hy:y<=b.size
 perm:((a.toList.take x++b.toList.take y)++o.toList.reverse).Perm (a.toList++b.toList)
 sorted:o.toList.reverse.Pairwise (Le key)
 above:∀p∈a.toList.take x++b.toList.take y,∀q∈o.toList.reverse,Le key p q
variable  {key}
theorem MV.fin {a b o:Array EA}{x y:Nat}(m:MV key a b o x y){t:List EA}{r:Array EA}(hr:r.toList=t++o.toList.reverse)(ht:t.Perm (a.toList.take x++b.toList.take y))(hs:t.Pairwise (Le key)):eJ key a b r:=by
 unfold eJ
 rw[hr]
 exact ⟨(Hg _ ht).trans m.perm,FH.mpr ⟨hs,m.sorted,λp hp q hq=>m.above p (ht.mem_iff.mp hp) q hq⟩⟩
theorem MV.take {a b o:Array EA}{x y x' y':Nat}(m:MV key a b o x y){t:List EA}{r:Array EA}(hr:r.toList.reverse=t++o.toList.reverse)(hx:x'<=a.size)(hy:y'<=b.size)
  (ht:((a.toList.take x'++b.toList.take y')++t).Perm (a.toList.take x++b.toList.take y)) (hs:t.Pairwise (Le key)) (hb:∀p∈a.toList.take x'++b.toList.take y',∀q∈t,Le key p q):MV key a b r x' y':=by
 have sub:∀z,z∈a.toList.take x'++b.toList.take y'\/z∈t->z∈a.toList.take x++b.toList.take y:=λz hz=>ht.mem_iff.mp (Eh.mpr hz)
 refine ⟨hx,hy,?_,?_,?_⟩
 ·rw[hr, <- EV]
  exact (Hg _ ht).trans m.perm
 ·rw[hr]
  exact FH.mpr ⟨hs,m.sorted,λp hp q hq=>m.above p (sub p (.inr hp)) q hq⟩
 ·rw[hr]
  intro p hp z hz
  rcases Eh.mp hz with h | h
  ·exact hb p hp z h
  ·exact m.above p (sub p (.inl hp)) z h
theorem bh {l:List EA}{k:Nat}{t:EA}(h:t∈l.take k):∃j,j<k/\l[j]? = some t:=by
 obtain ⟨n,e⟩:=Fw.mp h
 rw[GD] at e
 split at e
 ·exact ⟨n,by omega,e⟩
 ·cases e
theorem ox {l:List EA}{x:Nat}{z:EA}(hx:1<=x)(h:l[x-1]? = some z):l.take x=l.take (x-1)++[z]:=by
 obtain ⟨n,rfl⟩:∃n,x=n+1:=⟨x-1,by lia⟩
 rw[Md] at h ⊢
 rw[E4,h]
 rfl
theorem uU (a:Array EA)(c x:Nat)(hx:x<=a.size):(a.extract c x).toList=(a.toList.take x).drop c:=by
 rw[Gm,FE,List.drop_take]
theorem hZ (a:Array EA)(x:Nat):(a.extract 0 x).toList=a.toList.take x:=by
 rw[Gm,FE,LD,Nat.sub_zero]
theorem MV.kB {a b o:Array EA}{x y:Nat}{z:EA}(m:MV key a b o x y)(h1:1<=x)(h:a[x-1]? = some z)(ha:a.toList.Pairwise (Le key))(hb:∀t∈b.toList.take y,Le key t z):MV key a b (o.push z) (x-1) y:=by
 have e:=ox h1 (aH h)
 refine m.take (t:=[z]) (by rw[Gx,IC];rfl) (by have:=m.hx;lia) m.hy ?_ (Ge _ _) λp hp q hq =>?_
 ·rw[e,EV,EV]
  exact Gy _ Hl
 ·have eq:q=z:=by simpa using hq
  subst eq
  rcases Eh.mp hp with r | r
  ·obtain ⟨j,hj,e2⟩:=bh r
   exact aK ha e2 (aH h) (by lia)
  ·exact hb p r
theorem MV.ou {a b o:Array EA}{x y:Nat}{z:EA}(m:MV key a b o x y)(h1:1<=y)(h:b[y-1]? = some z)(hb:b.toList.Pairwise (Le key))(ha:∀t∈a.toList.take x,Le key t z):MV key a b (o.push z) x (y-1):=by
 have e:=ox h1 (aH h)
 refine m.take (t:=[z]) (by rw[Gx,IC];rfl) m.hx (by have:=m.hy;lia) ?_ (Ge _ _) λp hp q hq =>?_
 ·rw[e,EV]
 ·have eq:q=z:=by simpa using hq
  subst eq
  rcases Eh.mp hp with r | r
  ·exact ha p r
  ·obtain ⟨j,hj,e2⟩:=bh r
   exact aK hb e2 (aH h) (by lia)
theorem uV (l:List EA){c x:Nat}(h:c<=x):l.take x=l.take c++(l.take x).drop c:=by
 have e:(l.take x).take c=l.take c:=by rw[List.take_take,MU h]
 rw[<- e,Gz]
theorem lV {l:List EA}{c x:Nat}{t:EA}(h:t∈(l.take x).drop c):∃j,c<=j/\j<x/\l[j]? = some t:=by
 obtain ⟨j,hj,e⟩:=aY h
 rw[GD] at e
 split at e
 ·exact ⟨j,hj,by omega,e⟩
 ·cases e
theorem MV.ow {a b o:Array EA}{x y c:Nat}(m:MV key a b o x y)(hc:c<=x)(ha:a.toList.Pairwise (Le key))(hb:∀j p,c<=j->j<x->a.toList[j]? = some p->∀t∈b.toList.take y,Le key t p):MV key a b (o++(a.extract c x).reverse) c y:=by
 refine m.take (t:=(a.toList.take x).drop c) (by rw[E3,IC,Hr,Lx,uU _ _ _ m.hx]) (ET hc m.hx) m.hy ?_ ?_ λp hp q hq =>?_
 ·refine List.Perm.trans ?_ (Hg _ (List.Perm.of_eq (uV a.toList hc).symm))
  rw[EV,EV]
  exact Gy _ Hl
 ·exact ha.sublist ((Fy _ _).trans (FK _ _))
 ·obtain ⟨j,h1,h2,e⟩:=lV hq
  rcases Eh.mp hp with r | r
  ·obtain ⟨i,hi,e2⟩:=bh r
   exact aK ha e2 e (by lia)
  ·exact hb j q h1 h2 e p r
theorem MV.yb {a b o:Array EA}{x y c:Nat}(m:MV key a b o x y)(hc:c<=y)(hb:b.toList.Pairwise (Le key))(ha:∀j p,c<=j->j<y->b.toList[j]? = some p->∀t∈a.toList.take x,Le key t p):MV key a b (o++(b.extract c y).reverse) x c:=by
 refine m.take (t:=(b.toList.take y).drop c) (by rw[E3,IC,Hr,Lx,uU _ _ _ m.hy]) m.hx (ET hc m.hy) ?_ ?_ λp hp q hq =>?_
 ·rw[EV, <- uV b.toList hc]
 ·exact hb.sublist ((Fy _ _).trans (FK _ _))
 ·obtain ⟨j,h1,h2,e⟩:=lV hq
  rcases Eh.mp hp with r | r
  ·exact ha j q h1 h2 e p r
  ·obtain ⟨i,hi,e2⟩:=bh r
   exact aK hb e2 e (by lia)
theorem MV.wj {a b o:Array EA}{x y:Nat}(m:MV key a b o x y)(hb:b.toList.Pairwise (Le key))(hx:x=0):eJ key a b (a.extract 0 x++b.extract 0 y++o.reverse):=by
 subst hx
 refine m.fin (t:=b.toList.take y) (by rw[E3,E3,hZ,hZ,Hr,Jj,HW]) (by rw[Jj,HW]) (hb.sublist (FK _ _))
theorem MV.wg {a b o:Array EA}{x y:Nat}(m:MV key a b o x y)(ha:a.toList.Pairwise (Le key))(hy:y=0):eJ key a b (a.extract 0 x++b.extract 0 y++o.reverse):=by
 subst hy
 refine m.fin (t:=a.toList.take x) (by rw[E3,E3,hZ,hZ,Hr,Jj,EN]) (by rw[Jj,EN]) (ha.sublist (FK _ _))
theorem MV.first {a b o:Array EA}{x y:Nat}(m:MV key a b o x y)(ha:a.toList.Pairwise (Le key))(hb:b.toList.Pairwise (Le key))(hy:y=1)(hl:∀p q,b[0]? = some p->q∈a.toList->Le key p q):eJ key a b (b.extract 0 y++a.extract 0 x++o.reverse):=by
 refine m.fin (t:=b.toList.take y++a.toList.take x) (by rw[E3,E3,hZ,hZ,Hr]) Hl ?_
 refine FH.mpr ⟨hb.sublist (FK _ _),ha.sublist (FK _ _),λp hp q hq=>hl p q ?_ (FI hq)⟩
 obtain ⟨i,hi,e⟩:=bh hp
 rw[Em] at e
 rw[show i=0 by lia] at e
 exact e
theorem MV.size {a b o:Array EA}{x y:Nat}(m:MV key a b o x y):o.size+x+y=a.size+b.size:=by
 have e:=m.perm.length_eq
 have h1:=m.hx
 have h2:=m.hy
 simp only[D7,Ff,D9,List.length_reverse] at e
 lia
end
section
variable  {prog:Eo}{w:ES}{A:Fi}{E:D1->D5->Prop}{s:D5}{O:JT}{key:EA->O.α}{U:EA->Prop}{κ:SortKind}
abbrev HiC:=Option (Array EA)×Nat×Nat×Array EA×Nat×Nat×Nat
def Ah (a b:Array EA)(x y:Nat)(o:Array EA)(mg ac bc:Nat):StateT EU Sem (ForInStep HiC):=do
  let z ← elem' a (x-1)
  if (x-1 == 0)=true then pure (.done (some (a.extract 0 (x-1)++b.extract 0 y++(o.push z).reverse),x-1,y,o.push z,mg,ac,bc))
  else if (decide (ac<7) && decide (bc<7))=true then pure (.done (none,x-1,y,o.push z,mg,ac,bc))
  else pure (.yield (none,x-1,y,o.push z,mg,ac,bc))
def Ai (a b:Array EA)(x y:Nat)(o:Array EA)(mg ac bc:Nat):StateT EU Sem (ForInStep HiC):=do
  let z ← elem' b (y-1)
  if (y-1 == 1)=true then pure (.done (some (b.extract 0 (y-1)++a.extract 0 x++(o.push z).reverse),x,y-1,o.push z,mg,ac,bc))
  else do
    let z2 ← elem' a (x-1)
    let __x ← gal true z2 b 0 (y-1) (y-1-1)
    match __x with
    | some c =>
      if y-1-c>0 then
        if (c == 1)=true then pure (.done (some (b.extract 0 c++a.extract 0 x++(o.push z++(b.extract c (y-1)).reverse).reverse),x,c,o.push z++(b.extract c (y-1)).reverse,mg,ac,y-1-c))
        else if (c == 0)=true then pure (.done (some (a.extract 0 x++b.extract 0 c++(o.push z++(b.extract c (y-1)).reverse).reverse),x,c,o.push z++(b.extract c (y-1)).reverse,mg,ac,y-1-c))
        else Ah a b x c (o.push z++(b.extract c (y-1)).reverse) mg ac (y-1-c)
      else Ah a b x (y-1) (o.push z) mg ac (y-1-c)
    | _=>pure (.done (some (a.extract 0 x++b.extract 0 (y-1)++(o.push z).reverse),x,y-1,o.push z,mg,ac,bc))
def wq (a b:Array EA)(x y:Nat)(p:Array EA)(ac bc mg:Nat):StateT EU Sem (ForInStep HiC):=do
  modify (λs=>SortSt.mk' (kindOf s) (EE s) (ER s) mg (failedOf s))
  let z ← elem' b (y-1)
  let __x ← gal false z a 0 x (x-1)
  match __x with
  | some c =>
    if x-c>0 then
      if (c == 0)=true then pure (.done (some (a.extract 0 c++b.extract 0 y++(p++(a.extract c x).reverse).reverse),c,y,p++(a.extract c x).reverse,mg,x-c,bc))
      else Ai a b c y (p++(a.extract c x).reverse) mg (x-c) bc
    else Ai a b x y p mg (x-c) bc
  | _=>pure (.done (some (a.extract 0 x++b.extract 0 y++p.reverse),x,y,p,mg,ac,bc))
def HiQ (key:EA->O.α)(a b:Array EA)(st:EU)(n:Nat)(r:ForInStep HiC)(st':EU):Prop:=match r with
 | .done c=>Sm st st'/\((∃r x y p mg ac bc,c=(some r,x,y,p,mg,ac,bc)/\eJ key a b r)\/∃x y p mg ac bc,c=(none,x,y,p,mg,ac,bc)/\MV key a b p x y/\1<=x/\2<=y/\n<=p.size)
 | .yield c=>Sm st st'/\∃x y p mg ac bc,c=(none,x,y,p,mg,ac,bc)/\MV key a b p x y/\1<=x/\2<=y/\n<=p.size
theorem HiQ.out {a b:Array EA}{st st':EU}{n:Nat}{r:Array EA}{c:Nat×Nat×Array EA×Nat×Nat×Nat}(sm:Sm st st')(f:eJ key a b r):HiQ key a b st n (.done (some r,c)) st':=by
 obtain ⟨p,x,y,mg,ac,bc⟩:=c
 exact ⟨sm,.inl ⟨_,_,_,_,_,_,_,rfl,f⟩⟩
theorem ye {x:Nat}(c:¬ (x == 0)=true):1<=x:=Nat.pos_of_ne_zero λz=>c (beq_iff_eq.mpr z)
theorem Aj {y:Nat}(h:1<=y)(c:¬ (y == 1)=true):2<=y:=JY h λz=>c (beq_iff_eq.mpr z.symm)
theorem uW {a b:Array EA}{st st':EU}(hb:b.toList.Pairwise (Le key))
  {o:Array EA} {x y mg ac bc n:Nat} {za:EA} (sm:Sm st st') (ea:a[x-1]? = some za) (m4:MV key a b (o.push za) (x-1) y) (hy:2<=y) (hn:n<=o.size):wpS (EF prog w) A E s (Ah a b x y o mg ac bc) (HiQ key a b st n) st':=by
 unfold Ah
 refine Ep (aZ ea ?_)
 by_cases d5:(x-1 == 0)=true
 ·rw[if_pos d5]
  exact EC (HiQ.out sm (m4.wj hb (beq_iff_eq.mp d5)))
 rw[if_neg d5]
 have hx2:=ye d5
 have hn':n<=(o.push za).size:=by rw[Ha];exact Jg hn
 split
 ·exact EC ⟨sm,.inr ⟨_,_,_,_,_,_,rfl,m4,hx2,hy,hn'⟩⟩
 ·exact EC ⟨sm,_,_,_,_,_,_,rfl,m4,hx2,hy,hn'⟩
theorem uZ (C:Cmp prog w A s O key U κ){a b:Array EA}{st st':EU}(hκ:kindOf st=κ)(ua:∀p∈a.toList,U p)(ub:∀p∈b.toList,U p)
  (ha:a.toList.Pairwise (Le key)) (hb:b.toList.Pairwise (Le key)) (h0:∀p q,b[0]? = some p->q∈a.toList->Le key p q)
  {o:Array EA} {x y mg ac bc n:Nat} {zb:EA} (sm:Sm st st') (eb:b[y-1]? = some zb) (mk:MV key a b o x y) (bl:∀t∈a.toList.take x,Le key t zb) (hx1:1<=x) (hy:2<=y) (hn:n<=o.size):wpS (EF prog w) A E s (Ai a b x y o mg ac bc) (HiQ key a b st n) st':=by
 unfold Ai
 refine Ep (aZ eb ?_)
 have m2:=mk.ou (Ms hy) eb hb bl
 have y1:1<=y-1:=G3 hy
 have bx1:=mk.hx
 have by1:=mk.hy
 by_cases d3:(y-1 == 1)=true
 ·rw[if_pos d3]
  exact EC (HiQ.out sm (m2.first ha hb (beq_iff_eq.mp d3) h0))
 rw[if_neg d3]
 have hy1:=Aj y1 d3
 obtain ⟨za,ea⟩:=ba (show x-1<a.size by lia)
 refine Ep (aZ ea ?_)
 refine Ep (Cd C (λi=>(b[i]?).getD za) (sm.k.trans hκ) (ua _ (bS ea)) (λi hi =>?_) (λi hi =>?_) (λi j hij hj =>?_) (Jx y1) λc2 hc2 g1 g2 =>?_)
 ·obtain ⟨z,e⟩:=ba (show i<b.size by lia)
  rw[Hm,e];rfl
 ·obtain ⟨z,e⟩:=ba (show i<b.size by lia)
  rw[e];exact ub _ (bS e)
 ·obtain ⟨z,e⟩:=ba (show i<b.size by lia)
  obtain ⟨z',e'⟩:=ba (show j<b.size by lia)
  rw[e,e'];exact aK hb (aH e) (aH e') hij
 dsimp only at g1 g2 ⊢
 have tb:∀j q,c2<=j->j<y-1->b.toList[j]? = some q->∀t∈a.toList.take x,Le key t q:=λj q hj hj2 e t ht=>by
  have z:=g2 j hj hj2
  rw[Em] at e
  rw[e] at z
  obtain ⟨n,hn,e2⟩:=bh ht
  exact E8 (aK ha e2 (aH ea) (G3 hn)) z
 have m3:=m2.yb hc2 hb tb
 have bl2:∀t∈b.toList.take c2,Le key t za:=λt ht=>by
  obtain ⟨n,hn,e2⟩:=bh ht
  rw[Em] at e2
  have z:=g1 n hn
  rw[e2] at z
  exact FY z
 have hn1:n<=(o.push zb).size:=by rw[Ha];exact Jg hn
 by_cases k2:y-1-c2>0
 ·rw[if_pos k2]
  by_cases d4:(c2 == 1)=true
  ·rw[if_pos d4]
   exact EC (HiQ.out sm (m3.first ha hb (beq_iff_eq.mp d4) h0))
  rw[if_neg d4]
  by_cases d6:(c2 == 0)=true
  ·rw[if_pos d6]
   exact EC (HiQ.out sm (m3.wg ha (beq_iff_eq.mp d6)))
  rw[if_neg d6]
  exact uW hb sm ea (m3.kB hx1 ea ha bl2) (Aj (ye d6) d4) (ET hn1 (by rw[Hw];exact GI _ _))
 ·rw[if_neg k2]
  have ec2:c2=y-1:=IT hc2 (K5 (HQ k2))
  rw[ec2] at bl2
  exact uW hb sm ea (m2.kB hx1 ea ha bl2) hy1 hn1
theorem u9 (C:Cmp prog w A s O key U κ){a b:Array EA}{st st':EU}(hκ:kindOf st=κ)(ua:∀p∈a.toList,U p)(ub:∀p∈b.toList,U p)
  (ha:a.toList.Pairwise (Le key)) (hb:b.toList.Pairwise (Le key)) (h0:∀p q,b[0]? = some p->q∈a.toList->Le key p q)
  {p:Array EA} {x y ac bc n:Nat} (mg:Nat) (sm:Sm st st') (m:MV key a b p x y) (hx:1<=x) (hy:2<=y) (hn:n<=p.size):wpS (EF prog w) A E s (wq a b x y p ac bc mg) (HiQ key a b st n) st':=by
 unfold wq
 have bx:=m.hx
 have by':=m.hy
 obtain ⟨zb,eb⟩:=ba (show y-1<b.size by lia)
 refine Ep (G8 ?_)
 refine Ep (aZ eb ?_)
 refine Ep (Cc C (λi=>(a[i]?).getD zb) ((sm.mg _).k.trans hκ) (ub _ (bS eb)) (λi hi =>?_) (λi hi =>?_) (λi j hij hj =>?_) (Jx hx) λc hc h1 h2 =>?_)
 ·obtain ⟨z,e⟩:=ba (Er hi bx)
  rw[Hm,e];rfl
 ·obtain ⟨z,e⟩:=ba (Er hi bx)
  rw[e];exact ua _ (bS e)
 ·obtain ⟨z,e⟩:=ba (show i<a.size by lia)
  obtain ⟨z',e'⟩:=ba (show j<a.size by lia)
  rw[e,e'];exact aK ha (aH e) (aH e') hij
 dsimp only at h1 h2 ⊢
 have ta:∀j q,c<=j->j<x->a.toList[j]? = some q->∀t∈b.toList.take y,Le key t q:=λj q hj hj2 e t ht=>by
  have z:=h2 j hj hj2
  rw[Em] at e
  rw[e] at z
  obtain ⟨n,hn,e2⟩:=bh ht
  exact E8 (aK hb e2 (aH eb) (G3 hn)) (FY z)
 have mk:=m.ow hc ha ta
 have bl:∀t∈a.toList.take c,Le key t zb:=λt ht=>by
  obtain ⟨n,hn,e2⟩:=bh ht
  rw[Em] at e2
  have z:=h1 n hn
  rw[e2] at z
  exact z
 by_cases k0:x-c>0
 ·rw[if_pos k0]
  by_cases d1:(c == 0)=true
  ·rw[if_pos d1]
   exact EC (HiQ.out (sm.mg _) (mk.wj hb (beq_iff_eq.mp d1)))
  rw[if_neg d1]
  exact uZ C hκ ua ub ha hb h0 (sm.mg _) eb mk bl (ye d1) hy (ET hn (by rw[Hw];exact GI _ _))
 ·rw[if_neg k0]
  have ec:c=x:=IT hc (K5 (HQ k0))
  rw[ec] at bl
  exact uZ C hκ ua ub ha hb h0 (sm.mg _) eb m bl hx hy hn
theorem Ak (C:Cmp prog w A s O key U κ){a b:Array EA}{st st':EU}(hκ:kindOf st=κ)(ua:∀p∈a.toList,U p)(ub:∀p∈b.toList,U p)
  (ha:a.toList.Pairwise (Le key)) (hb:b.toList.Pairwise (Le key)) (h0:∀p q,b[0]? = some p->q∈a.toList->Le key p q)
  {p:Array EA} {x y ac bc n mg:Nat} (sm:Sm st st') (m:MV key a b p x y) (hx:1<=x) (hy:2<=y) (hn:n<=p.size):wpS (EF prog w) A E s (if mg>1 then wq a b x y p ac bc (mg-1) else wq a b x y p ac bc mg) (HiQ key a b st n) st':=by
 split
 ·exact u9 C hκ ua ub ha hb h0 (mg-1) sm m hx hy hn
 ·exact u9 C hκ ua ub ha hb h0 mg sm m hx hy hn
abbrev HiD:=Option (Array EA)×Nat×Nat×Array EA×Nat×Nat
abbrev HiE:=Option (Array EA)×Nat×Nat×Array EA×Nat
def yf (a b:Array EA)(mg:Nat)(c:HiD):StateT EU Sem (ForInStep HiD):=do
  let u ← elem' b (c.2.2.1-1)
  let v ← elem' a (c.2.1-1)
  let __x ← lt' u v
  match __x with
  | some aw =>
    if aw=true then do
      let z ← elem' a (c.2.1-1)
      if (c.2.1-1 == 0)=true then pure (.done (some (a.extract 0 (c.2.1-1)++b.extract 0 c.2.2.1++(c.2.2.2.1.push z).reverse),c.2.1-1,c.2.2.1,c.2.2.2.1.push z,c.2.2.2.2.1+1,0))
      else if c.2.2.2.2.1+1≥mg then pure (.done (none,c.2.1-1,c.2.2.1,c.2.2.2.1.push z,c.2.2.2.2.1+1,0))
      else pure (.yield (none,c.2.1-1,c.2.2.1,c.2.2.2.1.push z,c.2.2.2.2.1+1,0))
    else do
      let z ← elem' b (c.2.2.1-1)
      if (c.2.2.1-1 == 1)=true then pure (.done (some (b.extract 0 (c.2.2.1-1)++a.extract 0 c.2.1++(c.2.2.2.1.push z).reverse),c.2.1,c.2.2.1-1,c.2.2.2.1.push z,0,c.2.2.2.2.2+1))
      else if c.2.2.2.2.2+1≥mg then pure (.done (none,c.2.1,c.2.2.1-1,c.2.2.2.1.push z,0,c.2.2.2.2.2+1))
      else pure (.yield (none,c.2.1,c.2.2.1-1,c.2.2.2.1.push z,0,c.2.2.2.2.2+1))
  | _=>pure (.done (some (a.extract 0 c.2.1++b.extract 0 c.2.2.1++c.2.2.2.1.reverse),c.2.1,c.2.2.1,c.2.2.2.1,c.2.2.2.2.1,c.2.2.2.2.2))
def Cg (a b:Array EA)(c:HiC):StateT EU Sem (ForInStep HiC) :=
 if c.2.2.2.2.1>1 then wq a b c.2.1 c.2.2.1 c.2.2.2.1 c.2.2.2.2.2.1 c.2.2.2.2.2.2 (c.2.2.2.2.1-1) else wq a b c.2.1 c.2.2.1 c.2.2.2.1 c.2.2.2.2.2.1 c.2.2.2.2.2.2 c.2.2.2.2.1
def tw (a b:Array EA)(c:HiE):StateT EU Sem (ForInStep HiE):=do
  let d ← forIn [0:a.size+b.size] ((none,c.2.1,c.2.2.1,c.2.2.2.1,0,0):HiD) λ_ d=>yf a b c.2.2.2.2 d
  match d.1 with
  | some r=>pure (.done (some r,d.2.1,d.2.2.1,d.2.2.2.1,c.2.2.2.2))
  | none=>do
    rule "list.sort.gallop"
    let e ← forIn [0:a.size+b.size] ((none,d.2.1,d.2.2.1,d.2.2.2.1,c.2.2.2.2+1,d.2.2.2.2.1,d.2.2.2.2.2):HiC) λ_ e=>Cg a b e
    match e.1 with
    | some r=>pure (.done (some r,e.2.1,e.2.2.1,e.2.2.2.1,e.2.2.2.2.1))
    | none=>do
      modify (λs=>SortSt.mk' (kindOf s) (EE s) (ER s) (e.2.2.2.2.1+1) (failedOf s))
      pure (.yield (none,e.2.1,e.2.2.1,e.2.2.2.1,e.2.2.2.2.1+1))
theorem Al (a b:Array EA):mHi a b=(do
    rule "list.sort.merge-hi"
    let z ← elem' a (a.size-1)
    if (a.size-1 == 0)=true then pure (a.extract 0 (a.size-1)++b.extract 0 b.size++(#[z]:Array EA).reverse)
    else if (b.size == 1)=true then pure (b.extract 0 b.size++a.extract 0 (a.size-1)++(#[z]:Array EA).reverse)
    else do
      let g ← get
      let c ← forIn [0:a.size+b.size] ((none,a.size-1,b.size, #[z],gallopOf g):HiE) λ_ c=>tw a b c
      match c.1 with
      | some r=>pure r
      | none=>unsupported "internal:list.sort.merge-bound"):=by
  kernel_rfl
def HdI (key:EA->O.α)(a b:Array EA)(st:EU)(n:Nat)(c:HiD)(st':EU):Prop:=Sm st st'/\∃x y o' ac bc,c=(none,x,y,o',ac,bc)/\MV key a b o' x y/\1<=x/\2<=y/\n<=o'.size
def HdQ (key:EA->O.α)(a b:Array EA)(st:EU)(n:Nat)(c:HiD)(st':EU):Prop:=Sm st st'/\((∃r x y o ac bc,c=(some r,x,y,o,ac,bc)/\eJ key a b r)\/∃x y o' ac bc,c=(none,x,y,o',ac,bc)/\MV key a b o' x y/\1<=x/\2<=y/\n<=o'.size)
theorem yg (C:Cmp prog w A s O key U κ){a b:Array EA}{st st':EU}(hκ:kindOf st=κ)(ua:∀p∈a.toList,U p)(ub:∀p∈b.toList,U p)
  (ha:a.toList.Pairwise (Le key)) (hb:b.toList.Pairwise (Le key)) (h0:∀p q,b[0]? = some p->q∈a.toList->Le key p q)
  {mg n m':Nat} {c:HiD} (I:HdI key a b st n c st') (hm:m'<=n+1) {Q:ForInStep HiD->EU->Prop} (h:∀r st',(match r with | .done c'=>HdQ key a b st (n+1) c' st' | .yield c'=>HdI key a b st m' c' st')->Q r st'):wpS (EF prog w) A E s (yf a b mg c) Q st':=by
 obtain ⟨sm2,x,y,o',ac,bc,rfl,m,hx,hy,hz⟩:=I
 unfold yf
 have bx:=m.hx
 have by':=m.hy
 obtain ⟨za,ea⟩:=ba (show x-1<a.size by omega)
 obtain ⟨zb,eb⟩:=ba (show y-1<b.size by omega)
 refine Ep (aZ eb (Ep (aZ ea (Ep (C.lt _ st' zb za _ (sm2.k.trans hκ) (ub _ (bS eb)) (ua _ (bS ea)) ?_)))))
 dsimp only
 have sz:∀z,n+1<=(o'.push z).size:=λz=>by rw[Ha];exact KG hz
 cases hlt:O.blt (key zb) (key za) with
 | true =>
  rw[if_pos rfl]
  refine Ep (aZ ea ?_)
  have m1:=m.kB hx ea ha λt ht=>by
   obtain ⟨n,hn,e⟩:=bh ht
   exact E8 (aK hb e (aH eb) (G3 hn)) (FY hlt)
  by_cases c3:(x-1 == 0)=true
  ·rw[if_pos c3]
   exact EC (h _ _ ⟨sm2,.inl ⟨_,_,_,_,_,_,rfl,m1.wj hb (beq_iff_eq.mp c3)⟩⟩)
  ·rw[if_neg c3]
   have c3':=ye c3
   split
   ·exact EC (h _ _ ⟨sm2,.inr ⟨_,_,_,_,_,rfl,m1,c3',hy,sz _⟩⟩)
   ·exact EC (h _ _ ⟨sm2,_,_,_,_,_,rfl,m1,c3',hy,ET hm (sz _)⟩)
 | false =>
  rw[if_neg Ek]
  refine Ep (aZ eb ?_)
  have m1:=m.ou (Ms hy) eb hb λt ht=>by
   obtain ⟨n,hn,e⟩:=bh ht
   exact E8 (aK ha e (aH ea) (G3 hn)) (show O.kle (key za) (key zb) from hlt)
  by_cases c3:(y-1 == 1)=true
  ·rw[if_pos c3]
   exact EC (h _ _ ⟨sm2,.inl ⟨_,_,_,_,_,_,rfl,m1.first ha hb (beq_iff_eq.mp c3) h0⟩⟩)
  ·rw[if_neg c3]
   have c3':=Aj (G3 hy) c3
   split
   ·exact EC (h _ _ ⟨sm2,.inr ⟨_,_,_,_,_,rfl,m1,hx,c3',sz _⟩⟩)
   ·exact EC (h _ _ ⟨sm2,_,_,_,_,_,rfl,m1,hx,c3',ET hm (sz _)⟩)
def HeI (key:EA->O.α)(a b:Array EA)(st:EU)(n:Nat)(c:HiE)(st':EU):Prop:=Sm st st'/\∃x y o mg,c=(none,x,y,o,mg)/\MV key a b o x y/\1<=x/\2<=y/\n+1<=o.size
def HeQ (key:EA->O.α)(a b:Array EA)(st:EU)(c:HiE)(st':EU):Prop:=Sm st st'/\((∃r x y o mg,c=(some r,x,y,o,mg)/\eJ key a b r)\/∃x y o mg,c=(none,x,y,o,mg)/\MV key a b o x y/\1<=x/\2<=y/\a.size+b.size+1<=o.size)
theorem wt (C:Cmp prog w A s O key U κ){a b:Array EA}{st st':EU}(hκ:kindOf st=κ)(ua:∀p∈a.toList,U p)(ub:∀p∈b.toList,U p)
  (ha:a.toList.Pairwise (Le key)) (hb:b.toList.Pairwise (Le key)) (h0:∀p q,b[0]? = some p->q∈a.toList->Le key p q) (na:0<a.size)
  {n:Nat} {c:HiE} (I:HeI key a b st n c st'):wpS (EF prog w) A E s (tw a b c) (λr st'=>match r with | .done c'=>HeQ key a b st c' st' | .yield c'=>HeI key a b st (n+1) c' st') st':=by
 obtain ⟨sm1,x,y,o,mg,rfl,m,hx,hy,hz⟩:=I
 unfold tw
 have q1:1<=a.size+b.size:=ET na (GI _ _)
 refine Ep (GS (FR (I:=λj c st'=>HdI key a b st (o.size+min j 1) c st') (Q:=HdQ key a b st (o.size+1)) (λj c st2 _ hj J=>yg (n:=o.size+min j 1) (m':=o.size+min (j+1) 1) C hκ ua ub ha hb h0 J (by lia) λr st' k =>?_) (λc st' J =>?_) ⟨sm1,x,y,o,0,0,rfl,m,hx,hy,D6 _⟩) ?_)
 ·cases r with
  | done c'=>exact k.imp id λz=>z.imp id λ⟨x,y,o',ac,bc,e,m,hx,hy,hz⟩=>⟨x,y,o',ac,bc,e,m,hx,hy,by lia⟩
  | yield c'=>exact k
 ·obtain ⟨sm,x,y,o',ac,bc,e,m,hx,hy,hz⟩:=J
  exact ⟨sm,.inr ⟨x,y,o',ac,bc,e,m,hx,hy,by lia⟩⟩
 rintro c st2 ⟨sm2,⟨r,x,y,o',ac,bc,rfl,fr⟩ | ⟨x,y,o',ac,bc,rfl,m,hx,hy,hz2⟩⟩
 ·exact EC ⟨sm2,.inl ⟨_,_,_,_,_,rfl,fr⟩⟩
 dsimp only
 refine Ep (J8 (GQ ⟨rfl,?_⟩))
 refine Ep (GS (FR (I:=λ_ c st'=>HiQ key a b st o'.size (.yield c) st') (Q:=λc st'=>HiQ key a b st o'.size (.done c) st') (λj c st3 _ hj J =>?_) (λc st' J=>⟨J.1,.inr J.2⟩) ⟨sm2,x,y,o',_,ac,bc,rfl,m,hx,hy,D6 _⟩) ?_)
 ·obtain ⟨sm3,x,y,p,mg,ac,bc,rfl,m,hx,hy,hz3⟩:=J
  refine GS (Ak C hκ ua ub ha hb h0 sm3 m hx hy hz3) ?_
  intro r st' h
  cases r <;> exact h
 rintro c st3 ⟨sm3,⟨r,x,y,p,mg,ac,bc,rfl,fr⟩ | ⟨x,y,p,mg,ac,bc,rfl,m,hx,hy,hz3⟩⟩
 ·exact EC ⟨sm3,.inl ⟨_,_,_,_,_,rfl,fr⟩⟩
 ·dsimp only
  exact Ep (G8 (EC ⟨sm3.mg _,x,y,p,_,rfl,m,hx,hy,by lia⟩))
theorem Ci (C:Cmp prog w A s O key U κ){a b:Array EA}{st:EU}{Q:Array EA->EU->Prop}(hκ:kindOf st=κ)(ua:∀p∈a.toList,U p)(ub:∀p∈b.toList,U p)
  (ha:a.toList.Pairwise (Le key)) (hb:b.toList.Pairwise (Le key)) (na:0<a.size) (nb:0<b.size) (h0:∀p q,b[0]? = some p->q∈a.toList->Le key p q) (hl:∀p q,p∈b.toList->a[a.size-1]? = some q->Le key p q)
  (h:∀r st',Sm st st'->eJ key a b r->Q r st'):wpS (EF prog w) A E s (mHi a b) Q st:=by
 rw[Al]
 refine Ep (J8 (GQ ⟨rfl,?_⟩))
 obtain ⟨a0,ea0⟩:=ba (Jx na)
 have m0:MV key a b #[] a.size b.size:=by
  refine ⟨D6 _,D6 _,?_,List.Pairwise.nil,λp _ q hq=>by cases hq⟩
  rw[Et (by rw[D9];exact D6 _),Et (by rw[D9];exact D6 _)]
  show (a.toList++b.toList++[]).Perm _
  rw[EN]
 have m1:MV key a b #[a0] (a.size-1) b.size:=m0.kB na ea0 ha λt ht=>hl t a0 (FI ht) ea0
 refine Ep (aZ ea0 ?_)
 by_cases c1:(a.size-1 == 0)=true
 ·rw[if_pos c1]
  exact EC (h _ st (Sm.refl st) (m1.wj hb (beq_iff_eq.mp c1)))
 rw[if_neg c1]
 by_cases c2:(b.size == 1)=true
 ·rw[if_pos c2]
  exact EC (h _ st (Sm.refl st) (m1.first ha hb (beq_iff_eq.mp c2) h0))
 rw[if_neg c2]
 refine Ep (JR ?_)
 refine Ep (GS (FR (I:=λi c st'=>HeI key a b st i c st') (Q:=HeQ key a b st) (λi c st1 _ _ J=>GS (wt C hκ ua ub ha hb h0 na J) λr st' h=>by cases r <;> exact h) (λc st' J =>?_) ⟨Sm.refl st,_,_,_,_,rfl,m1,ye c1,Aj nb c2,D6 _⟩) ?_)
 ·obtain ⟨sm,x,y,o,mg,e,m,hx,hy,hz⟩:=J
  exact ⟨sm,.inr ⟨x,y,o,mg,e,m,hx,hy,by lia⟩⟩
 rintro c st' ⟨sm,⟨r,x,y,o,mg,rfl,fr⟩ | ⟨x,y,o,mg,rfl,m,hx,hy,hz⟩⟩
 ·exact EC (h r st' sm fr)
 ·have:=m.size
  lia
end
theorem Cj (i:Nat):mAt i=(do
    let s ← get
    let (some (sa,na,pw),some (sb,nb,_)):=((ER s)[i]?,(ER s)[i+1]?) | unsupported "internal:list.sort.pending"
    set (SortSt.mk' (kindOf s) (EE s) (((ER s).setIfInBounds i (sa,na+nb,pw)).eraseIdxIfInBounds (i+1)) (gallopOf s) (failedOf s))
    let some k ← gal false (← elem' (EE s) sb) (EE s) sa na 0 | return false
    let (sa,na):=(sa+k,na-k)
    if na == 0 then return true
    let some nb ← gal true (← elem' (EE s) (sa+na-1)) (EE s) sb nb (nb-1) | return false
    if nb == 0 then return true
    let x:=(EE s).extract sa sb
    let y:=(EE s).extract sb (sb+nb)
    let mm ← if na<=nb then mLo x y else mHi x y
    modify λs=>setArr s (mm.toList.zipIdx.foldl (λa (p,j)=>a.setIfInBounds (sa+j) p) (EE s))
    return (failedOf (← get)).isNone):=rfl
theorem jf {α:Type}(p r:List α)(k:Nat):(p++r).drop (p.length+k)=r.drop k:=by
 rw[<- M7,Kf]
theorem tG {α:Type}(p r:List α)(k:Nat):(p++r)[p.length+k]? = r[k]? := by
 rw[Gj (by lia),HH]
theorem Bt {α:Type}(p a r:List α){k:Nat}(h:k<a.length):(p++(a++r))[p.length+k]? = a[k]? := by
 rw[tG,GR h]
theorem written (l:List EA):∀(c n:Nat) (a:Array EA),c+n+l.length<=a.size->((l.zipIdx n).foldl (λ(a:Array EA) (pj:EA×Nat)=>a.setIfInBounds (c+pj.2) pj.1) a).toList=a.toList.take (c+n)++l++a.toList.drop (c+n+l.length):=by
 induction l with
 | nil=>intro c n a _;simp
 | cons z l ih =>
  intro c n a h
  rw[EI] at h
  rw[KJ,K4,ih c (n+1) _ (by rw[Kj];lia)]
  have e:(a.setIfInBounds (c+n) z).toList=a.toList.set (c+n) z:=JV ..
  rw[e]
  have lt:c+n<a.toList.length:=by rw[D9];lia
  have t1:(a.toList.set (c+n) z).take (c+(n+1))=a.toList.take (c+n)++[z]:=by
   rw[show c+(n+1)=c+n+1 by lia,E4,List.take_set_of_le (D6 _),F1 lt]
   rfl
  have t2:(a.toList.set (c+n) z).drop (c+(n+1)+l.length)=a.toList.drop (c+n+(l.length+1)):=by
   rw[List.drop_set_of_lt (by lia),show c+(n+1)+l.length=c+n+(l.length+1) by lia]
  rw[t1,t2,EI]
  simp
section
variable  {prog:Eo}{w:ES}{A:Fi}{E:D1->D5->Prop}{s:D5}{O:JT}{key:EA->O.α}{U:EA->Prop}{κ:SortKind}
theorem Ck (C:Cmp prog w A s O key U κ){i pw pw2:Nat}{st:EU}{Q:Bool->EU->Prop}{P X Y S:List EA}(hκ:kindOf st=κ)(hf:failedOf st=none)
    (ha:(EE st).toList=P++(X++(Y++S))) (hu:∀p∈(EE st).toList,U p) (h1:(ER st)[i]? = some (P.length,X.length,pw)) (h2:(ER st)[i+1]? = some (P.length+X.length,Y.length,pw2))
    (nx:0<X.length) (ny:0<Y.length) (sx:X.Pairwise (Le key)) (sy:Y.Pairwise (Le key))
    (h:∀st' M,M.Perm (X++Y)->M.Pairwise (Le key)->(EE st').toList=P++(M++S)->ER st'=((ER st).setIfInBounds i (P.length,X.length+Y.length,pw)).eraseIdxIfInBounds (i+1)->kindOf st'=κ -> failedOf st'=none->Q true st') :
    wpS (EF prog w) A E s (mAt i) Q st:=by
  rw[Cj]
  refine Ep (JR ?_)
  rw[h1,h2]
  dsimp only
  refine Ep (show wpS (EF prog w) A E s (modify λ_=>SortSt.mk' (kindOf st) (EE st) (((ER st).setIfInBounds i (P.length,X.length+Y.length,pw)).eraseIdxIfInBounds (i+1)) (gallopOf st) (failedOf st)) _ st from G8 ?_)
  generalize hst1:SortSt.mk' (kindOf st) (EE st) (((ER st).setIfInBounds i (P.length,X.length+Y.length,pw)).eraseIdxIfInBounds (i+1)) (gallopOf st) (failedOf st)=st1
  have k1:kindOf st1=κ:=by rw[<- hst1];exact hκ
  have a1:EE st1=EE st:=by rw[<- hst1]
  have p1:ER st1=((ER st).setIfInBounds i (P.length,X.length+Y.length,pw)).eraseIdxIfInBounds (i+1):=by rw[<- hst1]
  have f1:failedOf st1=none:=by rw[<- hst1];exact hf
  have sz:(EE st).size=P.length+X.length+Y.length+S.length:=by
    rw[<- D9,ha];simp only[D7];lia
  have atX:∀j,j<X.length->(EE st)[P.length+j]? = X[j]? := λj hj=>by
    rw[<- Em,ha,Bt _ _ _ hj]
  have atY:∀j,j<Y.length->(EE st)[P.length+X.length+j]? = Y[j]? := λj hj=>by
    rw[<- Em,ha, <- EV,show P.length+X.length+j=(P++X).length+j by rw[D7],Bt _ _ _ hj]
  have uX:∀p∈X,U p:=λp hp=>hu p (by rw[ha];simp[hp])
  have uY:∀p∈Y,U p:=λp hp=>hu p (by rw[ha];simp[hp])
  have xget:∀j,j<X.length->∃z,X[j]? = some z:=λj hj=>⟨X[j],by simp[hj]⟩
  have yget:∀j,j<Y.length->∃z,Y[j]? = some z:=λj hj=>⟨Y[j],by simp[hj]⟩
  obtain ⟨y0,ey0⟩:=yget 0 ny
  have plain:(∀p∈X,∀q∈Y,Le key p q)->Q true st1:=λhle=>h st1 (X++Y) (Ip _) (FH.mpr ⟨sx,sy,hle⟩) (by rw[a1,ha,EV]) p1 k1 f1
  refine Ep (aZ (z:=y0) (by rw[show P.length+X.length=P.length+X.length+0 by lia,atY 0 ny];exact ey0) ?_)
  refine Ep (Cc C (λj=>(X[j]?).getD y0) k1 (uY _ (Eb ey0)) (λj hj =>?_) (λj hj =>?_) (λi j hij hj =>?_) nx λk hk g1 g2 =>?_)
  · obtain ⟨z,e⟩:=xget j hj
    rw[atX j hj,e];rfl
  · obtain ⟨z,e⟩:=xget j hj
    rw[e];exact uX _ (Eb e)
  · obtain ⟨z,e⟩:=xget i (by lia)
    obtain ⟨z',e'⟩:=xget j hj
    rw[e,e'];exact aK sx e e' hij
  dsimp only at g1 g2 ⊢
  have y0le:∀q∈Y,Le key y0 q:=λq hq=>by
    obtain ⟨n,e⟩:=Fw.mp hq
    exact aK sy ey0 e (EZ _)
  by_cases c1:(X.length-k == 0)=true
  · rw[if_pos c1]
    refine EC (plain λp hp q hq =>?_)
    obtain ⟨n,e⟩:=Fw.mp hp
    have hn:n<X.length:=(Ea.mp e).1
    have z:=g1 n (by have:=beq_iff_eq.mp c1;lia)
    rw[e] at z
    exact E8 z (y0le q hq)
  rw[if_neg c1]
  have kx:k<X.length:=by have:X.length-k≠0:=λz=>c1 (beq_iff_eq.mpr z);lia
  obtain ⟨xl,exl⟩:=xget (X.length-1) (by lia)
  have xlle:∀p∈X,Le key p xl:=λp hp=>by
    obtain ⟨n,e⟩:=Fw.mp hp
    have hn:n<X.length:=(Ea.mp e).1
    exact aK sx e exl (by lia)
  refine Ep (aZ (z:=xl) (by rw[show P.length+k+(X.length-k)-1=P.length+(X.length-1) by lia,atX _ (by lia)];exact exl) ?_)
  refine Ep (Cd C (λj=>(Y[j]?).getD xl) k1 (uX _ (Eb exl)) (λj hj =>?_) (λj hj =>?_) (λi j hij hj =>?_) (by lia) λm hm e1 e2 =>?_)
  · obtain ⟨z,e⟩:=yget j hj
    rw[atY j hj,e];rfl
  · obtain ⟨z,e⟩:=yget j hj
    rw[e];exact uY _ (Eb e)
  · obtain ⟨z,e⟩:=yget i (by lia)
    obtain ⟨z',e'⟩:=yget j hj
    rw[e,e'];exact aK sy e e' hij
  dsimp only at e1 e2 ⊢
  by_cases c2:(m == 0)=true
  · rw[if_pos c2]
    refine EC (plain λp hp q hq =>?_)
    obtain ⟨n,e⟩:=Fw.mp hq
    have hn:n<Y.length:=(Ea.mp e).1
    have z:=e2 n (by have:=beq_iff_eq.mp c2;lia) hn
    rw[e] at z
    exact E8 (xlle p hp) z
  rw[if_neg c2]
  have m0:0<m:=by have:m≠0:=λz=>c2 (beq_iff_eq.mpr z);lia
  have ex:((EE st).extract (P.length+k) (P.length+X.length)).toList=X.drop k:=by
    rw[Gm,FE,ha,jf,Jq (by lia)]
    rw[List.take_left' (by rw[FJ];lia)]
  have ey:((EE st).extract (P.length+X.length) (P.length+X.length+m)).toList=Y.take m:=by
    have e:=jf (P++X) (Y++S) 0
    rw[D7,Nat.add_zero,LD,EV] at e
    rw[Gm,FE,ha,e,HH,Jr hm]
  have sX:((EE st).extract (P.length+k) (P.length+X.length)).size=X.length-k:=by rw[<- D9,ex,FJ]
  have sY:((EE st).extract (P.length+X.length) (P.length+X.length+m)).size=m:=by rw[<- D9,ey,Ff];lia
  generalize (EE st).extract (P.length+k) (P.length+X.length)=xa at ex sX ⊢
  generalize (EE st).extract (P.length+X.length) (P.length+X.length+m)=ya at ey sY ⊢
  have xa0:∀q∈xa.toList,Le key y0 q:=λq hq=>by
    rw[ex] at hq
    obtain ⟨n,hn,e⟩:=aY hq
    have hn2:n<X.length:=(Ea.mp e).1
    have z:=g2 n hn hn2
    rw[e] at z
    exact FY z
  have yaL:∀p∈ya.toList,Le key p xl:=λp hp=>by
    rw[ey] at hp
    obtain ⟨n,hn,e⟩:=bh hp
    have z:=e1 n hn
    rw[e] at z
    exact FY z
  have first:∀p q,ya[0]? = some p->q∈xa.toList->Le key p q:=λp q hp hq=>by
    rw[<- Em,ey,GD,if_pos m0,ey0] at hp
    cases hp
    exact xa0 q hq
  have lst:∀p q,p∈ya.toList->xa[xa.size-1]? = some q->Le key p q:=λp q hp hq=>by
    rw[<- Em,ex,HS,sX,show k+(X.length-k-1)=X.length-1 by lia,exl] at hq
    cases hq
    exact yaL p hp
  have sxa:xa.toList.Pairwise (Le key):=by rw[ex];exact sx.sublist (Fy _ _)
  have sya:ya.toList.Pairwise (Le key):=by rw[ey];exact sy.sublist (FK _ _)
  have uxa:∀p∈xa.toList,U p:=λp hp=>by rw[ex] at hp;exact uX p (GH hp)
  have uya:∀p∈ya.toList,U p:=λp hp=>by rw[ey] at hp;exact uY p (FI hp)
  have post:∀r st',Sm st1 st'->eJ key xa ya r->wpS (EF prog w) A E s (do modify λs=>setArr s (r.toList.zipIdx.foldl (λa (p,j)=>a.setIfInBounds (P.length+k+j) p) (EE s));return (failedOf (← get)).isNone) Q st':=by
    rintro r st' sm ⟨fp,fs⟩
    refine Ep (G8 (Ep (JR (EC ?_))))
    have rl:r.toList.length=X.length-k+m:=by rw[fp.length_eq,D7,D9,D9,sX,sY]
    have wr:=written r.toList (P.length+k) 0 (EE st') (by rw[sm.a,a1,sz,rl];lia)
    have e:(failedOf (setArr st' (r.toList.zipIdx.foldl (λa (p,j)=>a.setIfInBounds (P.length+k+j) p) (EE st')))).isNone=true:=by
      show (failedOf st').isNone=true
      rw[sm.f,f1];rfl
    rw[e]
    have t1:(P++(X++(Y++S))).take (P.length+k+0)=P++X.take k:=by
      rw[Nat.add_zero,List.take_append,Et (by lia),HH,Jr (by lia)]
    have t2:(P++(X++(Y++S))).drop (P.length+k+0+r.toList.length)=Y.drop m++S:=by
      rw[rl,show P.length+k+0+(X.length-k+m)=P.length+(X.length+m) by lia,jf,jf,Jq hm]
    have perm:(X.take k++(r.toList++Y.drop m)).Perm (X++Y):=by
      rw[ex,ey] at fp
      have q:(X.take k++(r.toList++Y.drop m)).Perm (X.take k++((X.drop k++Y.take m)++Y.drop m)):=Gy _ (Hg _ fp)
      have e3:X.take k++((X.drop k++Y.take m)++Y.drop m)=X++Y:=by
        rw[EV (X.drop k),Gz, <- EV,Gz]
      rw[e3] at q
      exact q
    have inr:∀z∈r.toList,z∈X.drop k\/z∈Y.take m:=λz hz=>by
      have q:=fp.mem_iff.mp hz
      rw[ex,ey] at q
      exact Eh.mp q
    refine h _ (X.take k++(r.toList++Y.drop m)) perm ?_ ?_ ?_ (sm.k.trans k1) (sm.f.trans f1)
    · refine FH.mpr ⟨sx.sublist (FK _ _),FH.mpr ⟨fs,sy.sublist (Fy _ _),λp hp q hq =>?_⟩,λp hp q hq =>?_⟩
      · obtain ⟨n,hn,en⟩:=aY hq
        have hn2:n<Y.length:=(Ea.mp en).1
        rcases inr p hp with z | z
        · have g:=e2 n hn hn2
          rw[en] at g
          exact E8 (xlle p (GH z)) g
        · obtain ⟨j,hj,ej⟩:=bh z
          exact aK sy ej en (by lia)
      · obtain ⟨n,hn,en⟩:=bh hp
        have g:=g1 n hn
        rw[en] at g
        rcases Eh.mp hq with z | z
        · rcases inr q z with z | z
          · obtain ⟨j,hj,ej⟩:=aY z
            exact aK sx en ej (by lia)
          · exact E8 g (y0le q (FI z))
        · exact E8 g (y0le q (GH z))
    · show (r.toList.zipIdx.foldl (λa (p,j)=>a.setIfInBounds (P.length+k+j) p) (EE st')).toList=_
      rw[wr,sm.a,a1,ha,t1,t2]
      simp only[EV]
    · show ER st'=_
      rw[sm.p,p1]
  by_cases c3:X.length-k<=m
  · rw[if_pos c3]
    exact Ep (Cf C k1 uxa uya sxa sya (by lia) (by lia) (λp q hp hq=>first p q hp (bS hq)) lst λr st' sm fr=>post r st' sm fr)
  · rw[if_neg c3]
    exact Ep (Ci C k1 uxa uya sxa sya (by lia) (by lia) first lst λr st' sm fr=>post r st' sm fr)
end
theorem Am (lo m:Nat):Ca lo m=(do
    let mut n:=1
    for _ in [1:m] do
      let some sm ← ltAt' (lo+n) (lo+n-1)
        | return none
      if sm then break
      n:=n+1
    if n == m then return some n
    if n>1 then
      let some ro ← ltAt' lo (lo+n-1)
        | return none
      if ro then return some n
      reverseSlice' lo (lo+n)
    rule "list.sort.descending-run"
    n:=n+1
    let mut q:=0
    for _ in [n:m] do
      let some sm ← ltAt' (lo+n) (lo+n-1)
        | return none
      if sm then
        if q>0 then reverseSlice' (lo+n-(q+1)) (lo+n)
        q:=0
      else
        let some lg ← ltAt' (lo+n-1) (lo+n)
          | return none
        if lg then break
        q:=q+1
      n:=n+1
    if q>0 then reverseSlice' (lo+n-(q+1)) (lo+n)
    reverseSlice' lo (lo+n)
    for _ in [n:m] do
      let some sm ← ltAt' (lo+n) (lo+n-1)
        | return none
      if sm then break
      n:=n+1
    return some n):=rfl
theorem yh (lo n ok:Nat):x8 lo n ok=(do
    for k in [max ok 1:n] do
      let mut l:=0;let mut r:=k
      for _ in [0:k] do
        if l≥r then break
        let m:=(l+r)/2
        let some le ← ltAt' (lo+k) (lo+m)
          | return false
        if le then r:=m else l:=m+1
      moveDown' (lo+k) (lo+l)
    return true):=rfl
section
variable  {O:JT}(key:EA->O.α)
def kk (xs:Array EA)(i:Nat):O.α:=key ((xs[i]?).getD (GA,GA))
def Up (xs:Array EA)(lo n:Nat):Prop:=∀i j,lo<=i->i<=j->j<lo+n->O.kle (kk key xs i) (kk key xs j)
def Down (xs:Array EA)(lo n:Nat):Prop:=∀i j,lo<=i->i<=j->j<lo+n->O.kle (kk key xs j) (kk key xs i)
variable  {key}
theorem jg {xs ys:Array EA}{i j:Nat}(h:xs[i]? = ys[j]?):kk key xs i=kk key ys j:=by unfold kk;rw[h]
theorem oy {xs:Array EA}{i j:Nat}(hj:j<=xs.size)(k:Nat):kk key (mirror xs i j ((j-i)/2)) k=if i<=k/\k<j then kk key xs (i+j-1-k) else kk key xs k:=by
 have e:=LU (i:=i) hj k
 by_cases h:i<=k/\k<j
 ·rw[if_pos h] at e ⊢;exact jg e
 ·rw[if_neg h] at e ⊢;exact jg e
theorem fH {xs:Array EA}{i j:Nat}(hj:j<=xs.size)(he:∀k,i<=k->k<j->kk key xs k=kk key xs (j-1))(k:Nat):kk key (mirror xs i j ((j-i)/2)) k=kk key xs k:=by
 rw[oy hj]
 split
 ·rw[he _ (by omega) (by omega),he k (by omega) (by omega)]
 ·rfl
end
structure SA (lo:Nat)(st st':EU):Prop where
 perm:(EE st').Perm (EE st)
 pre:∀k,k<lo->(EE st')[k]? = (EE st)[k]?
 k:kindOf st'=kindOf st
 p:ER st'=ER st
 f:failedOf st'=failedOf st
theorem SA.refl (lo:Nat)(st:EU):SA lo st st:=⟨Array.Perm.refl _,λ_ _=>rfl,rfl,rfl,rfl⟩
theorem SA.size {lo:Nat}{st st':EU}(h:SA lo st st'):(EE st').size=(EE st).size:=h.perm.size_eq
theorem SA.mirror {lo:Nat}{st st':EU}(h:SA lo st st'){i j:Nat}(hi:lo<=i)(hj:j<=(EE st').size):SA lo st (setArr st' (mirror (EE st') i j ((j-i)/2))) :=
 ⟨(mirror_perm _ _ _ _).trans h.perm,λk hk=>by
  show (PyProof.Rows.mirror (EE st') i j ((j-i)/2))[k]? = _
  rw[LU hj,if_neg (by lia)]
  exact h.pre k hk,h.k,h.p,h.f⟩
theorem SA.mem {lo:Nat}{st st':EU}(h:SA lo st st'){p:EA}(hp:p∈(EE st').toList):p∈(EE st).toList:=(JW.mp h.perm).mem_iff.mp hp
section
variable  {prog:Eo}{w:ES}{A:Fi}{E:D1->D5->Prop}{s:D5}{O:JT}{key:EA->O.α}{U:EA->Prop}{κ:SortKind}
theorem ia (C:Cmp prog w A s O key U κ){st:EU}{i j:Nat}{Q:Option Bool->EU->Prop}(hκ:kindOf st=κ)(hu:∀p∈(EE st).toList,U p)(hi:i<(EE st).size)(hj:j<(EE st).size)
  (h:Q (some (O.blt (kk key (EE st) i) (kk key (EE st) j))) st):wpS (EF prog w) A E s (ltAt' i j) Q st:=by
 rw[ltAt'_eq]
 refine Ep (JR ?_)
 obtain ⟨x,ex⟩:=ba hi
 obtain ⟨y,ey⟩:=ba hj
 dsimp only
 refine Ep (aZ ex (Ep (aZ ey (C.lt _ st x y _ hκ (hu _ (bS ex)) (hu _ (bS ey)) ?_))))
 unfold kk at h
 rw[ex,ey] at h
 exact h
theorem An (C:Cmp prog w A s O key U κ){st:EU}{lo m:Nat}{Q:Option Nat->EU->Prop}(hκ:kindOf st=κ)(hu:∀p∈(EE st).toList,U p)(hm:1<=m)(hz:lo+m=(EE st).size)
  (h:∀n st',1<=n->n<=m->SA lo st st'->Up key (EE st') lo n->Q (some n) st'):wpS (EF prog w) A E s (Ca lo m) Q st:=by
 rw[Am]
 dsimp only
 refine Ep (GS (FR (I:=λx c st'=>st=st'/\c=(none,x)/\Up key (EE st) lo x)
  (Q:=λc st'=>st=st'/\∃n,c=(none,n)/\1<=n/\n<=m/\Up key (EE st) lo n/\(n<m->O.klt (kk key (EE st) (lo+n)) (kk key (EE st) (lo+n-1)))) ?step ?fin ⟨rfl,rfl,λi j h1 h2 h3=>by rw[show i=j by lia];exact GC _⟩) ?post)
 case fin =>
  rintro c st' ⟨rfl,rfl,up⟩
  exact ⟨rfl,_,rfl,by lia,by lia,by rw[show max 1 m=m by lia] at up ⊢;exact up,by lia⟩
 case step =>
  rintro x c st' h1 h2 ⟨rfl,rfl,up⟩
  dsimp only
  refine Ep (ia C hκ hu (by lia) (by lia) ?_)
  dsimp only
  cases hb:O.blt (kk key (EE st) (lo+x)) (kk key (EE st) (lo+x-1)) with
  | true =>
   rw[if_pos rfl]
   exact EC ⟨rfl,x,rfl,h1,by lia,up,λ_=>hb⟩
  | false =>
   rw[if_neg (by simp)]
   refine EC ⟨rfl,rfl,λi j k1 k2 k3 =>?_⟩
   by_cases hj:j=lo+x
   ·by_cases hi:i=j
    ·rw[hi];exact GC _
    ·rw[hj]
     exact E8 (up i (lo+x-1) k1 (by lia) (by lia)) hb
   ·exact up i j k1 k2 (by lia)
 case post =>
  rintro c st' ⟨rfl,n,rfl,n1,n2,up,br⟩
  dsimp only
  by_cases c1:(n == m)=true
  ·rw[if_pos c1]
   exact EC (h n st n1 n2 (SA.refl _ _) up)
  rw[if_neg c1]
  have nm:n<m:=by have:n≠m:=λz=>c1 (beq_iff_eq.mpr z);lia
  have br:=br nm
  by_cases c2:n>1
  case' pos =>
   rw[if_pos c2]
   refine Ep (ia C hκ hu (by lia) (by lia) ?_)
   dsimp only
   cases hro:O.blt (kk key (EE st) lo) (kk key (EE st) (lo+n-1))
   case' true =>
    rw[if_pos rfl]
    exact EC (h n st n1 n2 (SA.refl _ _) up)
   rw[if_neg (by simp)]
   have eqs:∀k,lo<=k->k<lo+n->kk key (EE st) k=kk key (EE st) (lo+n-1):=λk k1 k2 =>
    LL (up k (lo+n-1) k1 (by lia) (by lia)) (E8 (show O.kle (kk key (EE st) (lo+n-1)) (kk key (EE st) lo) from hro) (up lo k (D6 _) k1 k2))
   rw[Ju]
   refine Ep (G8 ?_)
   have sa:=(SA.refl lo st).mirror (i:=lo) (j:=lo+n) (D6 _) (by lia)
   have ke:=fH (key:=key) (xs:=EE st) (i:=lo) (j:=lo+n) (by lia) eqs
   have ka:∀k,kk key (EE (setArr st (mirror (EE st) lo (lo+n) ((lo+n-lo)/2)))) k=kk key (EE st) k:=ke
   generalize setArr st (mirror (EE st) lo (lo+n) ((lo+n-lo)/2))=st1 at sa ka ⊢
   clear ke
  case' neg =>
   rw[if_neg c2]
   have eqs:∀k,lo<=k->k<lo+n->kk key (EE st) k=kk key (EE st) (lo+n-1):=λk k1 k2=>by rw[show k=lo+n-1 by lia]
   obtain ⟨st1,e1⟩:∃st1,st1=st:=⟨_,rfl⟩
   have sa:SA lo st st1:=by rw[e1];exact SA.refl _ _
   have ka:∀k,kk key (EE st1) k=kk key (EE st) k:=λk=>by rw[e1]
   rw[<- e1]
   clear e1
  all_goals
   refine Ep (J8 (GQ ⟨rfl,?_⟩))
   have dn:Down key (EE st1) lo (n+1):=λi j k1 k2 k3=>by
    rw[ka,ka]
    by_cases hj:j=lo+n
    ·by_cases hi:i=j
     ·rw[hi];exact GC _
     ·rw[hj,eqs i k1 (by lia)]
      exact FY br
    ·rw[eqs i k1 (by lia),eqs j (by lia) (by lia)]
     exact GC _
   clear eqs up br ka
   refine Ep (GS (FR (I:=λx c st'=>∃q,c=(none,x,q)/\x<=m/\SA lo st st'/\Down key (EE st') lo x/\q+1<=x/\∀k,lo+x-(q+1)<=k->k<lo+x->kk key (EE st') k=kk key (EE st') (lo+x-1))
    (Q:=λc st'=>∃x q,c=(none,x,q)/\1<=x/\x<=m/\SA lo st st'/\Down key (EE st') lo x/\q+1<=x/\∀k,lo+x-(q+1)<=k->k<lo+x->kk key (EE st') k=kk key (EE st') (lo+x-1)) ?step ?fin
    ⟨0,rfl,by lia,sa,dn,by lia,λk k1 k2=>by rw[show k=lo+(n+1)-1 by lia]⟩) ?post)
   case fin =>
    rintro c st' ⟨q,rfl,xm,sa,dn,hq,he⟩
    exact ⟨_,q,rfl,by lia,xm,sa,dn,hq,he⟩
   case step =>
    rintro x c st2 h1 h2 ⟨q,rfl,xm,sa2,dn2,hq,he⟩
    dsimp only
    have sz:=sa2.size
    have u2:∀p∈(EE st2).toList,U p:=λp hp=>hu p (sa2.mem hp)
    refine Ep (ia C (sa2.k.trans hκ) u2 (by lia) (by lia) ?_)
    dsimp only
    cases hb:O.blt (kk key (EE st2) (lo+x)) (kk key (EE st2) (lo+x-1)) with
    | true =>
     rw[if_pos rfl]
     have dn3:Down key (EE st2) lo (x+1):=λi j k1 k2 k3=>by
      by_cases hj:j=lo+x
      ·by_cases hi:i=j
       ·rw[hi];exact GC _
       ·rw[hj];exact E8 (FY hb) (dn2 i (lo+x-1) k1 (by lia) (by lia))
      ·exact dn2 i j k1 k2 (by lia)
     by_cases q0:q>0
     ·rw[if_pos q0,Ju]
      refine Ep (G8 (EC ?_))
      have ke:=fH (key:=key) (xs:=EE st2) (i:=lo+x-(q+1)) (j:=lo+x) (by lia) he
      refine ⟨0,rfl,by lia,sa2.mirror (by lia) (by lia),λi j k1 k2 k3 =>?_,by lia,λk k1 k2=>by rw[show k=lo+(x+1)-1 by lia]⟩
      show O.kle (kk key (mirror (EE st2) (lo+x-(q+1)) (lo+x) ((lo+x-(lo+x-(q+1)))/2)) j) (kk key (mirror (EE st2) (lo+x-(q+1)) (lo+x) ((lo+x-(lo+x-(q+1)))/2)) i)
      rw[ke,ke]
      exact dn3 i j k1 k2 k3
     ·rw[if_neg q0]
      exact EC ⟨0,rfl,by lia,sa2,dn3,by lia,λk k1 k2=>by rw[show k=lo+(x+1)-1 by lia]⟩
    | false =>
     rw[if_neg (by simp)]
     refine Ep (ia C (sa2.k.trans hκ) u2 (by lia) (by lia) ?_)
     dsimp only
     cases hb2:O.blt (kk key (EE st2) (lo+x-1)) (kk key (EE st2) (lo+x)) with
     | true =>
      rw[if_pos rfl]
      exact EC ⟨x,q,rfl,by lia,xm,sa2,dn2,hq,he⟩
     | false =>
      rw[if_neg (by simp)]
      have eq:=LL (show O.kle (kk key (EE st2) (lo+x)) (kk key (EE st2) (lo+x-1)) from hb2) hb
      refine EC ⟨q+1,rfl,by lia,sa2,λi j k1 k2 k3 =>?_,by lia,λk k1 k2 =>?_⟩
      ·by_cases hj:j=lo+x
       ·by_cases hi:i=j
        ·rw[hi];exact GC _
        ·rw[hj,eq];exact dn2 i (lo+x-1) k1 (by lia) (by lia)
       ·exact dn2 i j k1 k2 (by lia)
      ·rw[show lo+(x+1)-1=lo+x by lia,eq]
       by_cases hk:k=lo+x
       ·rw[hk,eq]
       ·exact he k (by lia) (by lia)
   case post =>
    rintro c st2 ⟨x,q,rfl,x1,xm,sa2,dn2,hq,he⟩
    dsimp only
    have sz:=sa2.size
    by_cases q0:q>0
    case' pos =>
     rw[if_pos q0,Ju]
     refine Ep (G8 ?_)
     have ke:=fH (key:=key) (xs:=EE st2) (i:=lo+x-(q+1)) (j:=lo+x) (by lia) he
     have sa3:=sa2.mirror (i:=lo+x-(q+1)) (j:=lo+x) (by lia) (by lia)
     have dn3:Down key (EE (setArr st2 (mirror (EE st2) (lo+x-(q+1)) (lo+x) ((lo+x-(lo+x-(q+1)))/2)))) lo x:=λi j k1 k2 k3=>by
      show O.kle (kk key (mirror (EE st2) (lo+x-(q+1)) (lo+x) ((lo+x-(lo+x-(q+1)))/2)) j) (kk key (mirror (EE st2) (lo+x-(q+1)) (lo+x) ((lo+x-(lo+x-(q+1)))/2)) i)
      rw[ke,ke]
      exact dn2 i j k1 k2 k3
     generalize setArr st2 (mirror (EE st2) (lo+x-(q+1)) (lo+x) ((lo+x-(lo+x-(q+1)))/2))=st3 at sa3 dn3 ⊢
     clear ke
    case' neg =>
     rw[if_neg q0]
     obtain ⟨st3,e3⟩:∃st3,st3=st2:=⟨_,rfl⟩
     have sa3:SA lo st st3:=by rw[e3];exact sa2
     have dn3:Down key (EE st3) lo x:=by rw[e3];exact dn2
     rw[<- e3]
     clear e3
    all_goals
     rw[Ju]
     refine Ep (G8 ?_)
     have sz3:=sa3.size
     have sa4:=sa3.mirror (i:=lo) (j:=lo+x) (D6 _) (by lia)
     have km:=oy (key:=key) (xs:=EE st3) (i:=lo) (j:=lo+x) (by lia)
     have up4:Up key (EE (setArr st3 (mirror (EE st3) lo (lo+x) ((lo+x-lo)/2)))) lo x:=λi j k1 k2 k3=>by
      show O.kle (kk key (mirror (EE st3) lo (lo+x) ((lo+x-lo)/2)) i) (kk key (mirror (EE st3) lo (lo+x) ((lo+x-lo)/2)) j)
      rw[km,km,if_pos ⟨by lia,by lia⟩,if_pos ⟨by lia,by lia⟩]
      exact dn3 _ _ (by lia) (by lia) (by lia)
     generalize setArr st3 (mirror (EE st3) lo (lo+x) ((lo+x-lo)/2))=st4 at sa4 up4 ⊢
     clear km
     have u4:∀p∈(EE st4).toList,U p:=λp hp=>hu p (sa4.mem hp)
     have sz4:=sa4.size
     refine Ep (GS (FR (I:=λz c st'=>st4=st'/\c=(none,z)/\z<=m/\Up key (EE st4) lo z)
      (Q:=λc st'=>st4=st'/\∃z,c=(none,z)/\1<=z/\z<=m/\Up key (EE st4) lo z) ?step ?fin ⟨rfl,rfl,xm,up4⟩) ?post)
     case fin =>
      rintro c st' ⟨rfl,rfl,zm,up⟩
      exact ⟨rfl,_,rfl,by lia,zm,up⟩
     case post =>
      rintro c st' ⟨rfl,z,rfl,z1,zm,up⟩
      exact EC (h z st4 z1 zm sa4 up)
     case step =>
      rintro z c st' h1 h2 ⟨rfl,rfl,zm,up⟩
      dsimp only
      refine Ep (ia C (sa4.k.trans hκ) u4 (by lia) (by lia) ?_)
      dsimp only
      cases hb:O.blt (kk key (EE st4) (lo+z)) (kk key (EE st4) (lo+z-1)) with
      | true =>
       rw[if_pos rfl]
       exact EC ⟨rfl,z,rfl,by lia,zm,up⟩
      | false =>
       rw[if_neg (by simp)]
       refine EC ⟨rfl,rfl,by lia,λi j k1 k2 k3 =>?_⟩
       by_cases hj:j=lo+z
       ·by_cases hi:i=j
        ·rw[hi];exact GC _
        ·rw[hj];exact E8 (up i (lo+z-1) k1 (by lia) (by lia)) hb
       ·exact up i j k1 k2 (by lia)
theorem oz {xs:Array EA}{src d:Nat}(hs:src<xs.size)(hd:d<=src)(k:Nat) :
  kk key (bubble xs src d) k=if k=src-d then kk key xs src else if src-d<k/\k<=src then kk key xs (k-1) else kk key xs k:=by
 have e:=getElem?_bubble hs d hd k
 by_cases h1:k=src-d
 ·rw[if_pos h1] at e ⊢;exact jg e
 ·rw[if_neg h1] at e ⊢
  by_cases h2:src-d<k/\k<=src
  ·rw[if_pos h2] at e ⊢;exact jg e
  ·rw[if_neg h2] at e ⊢;exact jg e
theorem SA.bubble {lo:Nat}{st st':EU}(h:SA lo st st'){src d:Nat}(hs:src<(EE st').size)(hd:lo+d<=src):SA lo st (setArr st' (bubble (EE st') src d)) :=
 ⟨(bubble_perm _ _ _).trans h.perm,λk hk=>by
  show (PyProof.Rows.bubble (EE st') src d)[k]? = _
  rw[getElem?_bubble hs d (by lia),if_neg (by lia),if_neg (by lia)]
  exact h.pre k hk,h.k,h.p,h.f⟩
theorem yi (C:Cmp prog w A s O key U κ){st:EU}{lo n ok:Nat}{Q:Bool->EU->Prop}(hκ:kindOf st=κ)(hu:∀p∈(EE st).toList,U p)(hn:lo+n<=(EE st).size)(hok:ok<=n)(up:Up key (EE st) lo ok)
  (h:∀st',SA lo st st'->Up key (EE st') lo n->Q true st'):wpS (EF prog w) A E s (x8 lo n ok) Q st:=by
 rw[yh]
 dsimp only
 refine Ep (GS (FR (I:=λx c st'=>c=(none,())/\SA lo st st'/\Up key (EE st') lo (min x n)) (Q:=λc st'=>c=(none,())/\SA lo st st'/\Up key (EE st') lo n) ?step ?fin ⟨rfl,SA.refl _ _,λi j k1 k2 k3 =>?_⟩) ?post)
 case post =>
  rintro c st' ⟨rfl,sa,up⟩
  exact EC (h st' sa up)
 case fin =>
  rintro c st' ⟨rfl,sa,up⟩
  refine ⟨rfl,sa,?_⟩
  rw[show min (max (max ok 1) n) n=n by lia] at up
  exact up
 case step =>
  rintro k c st1 h1 h2 ⟨rfl,sa1,up1⟩
  rw[show min k n=k by lia] at up1
  have sz:=sa1.size
  have u1:∀p∈(EE st1).toList,U p:=λp hp=>hu p (sa1.mem hp)
  refine Ep (GS (FR (I:=λx c st'=>st1=st'/\∃l r,c=(none,l,r)/\l<=r/\r<=k/\r-l<=k-x/\(∀i,i<l->O.kle (kk key (EE st1) (lo+i)) (kk key (EE st1) (lo+k)))/\(∀i,r<=i->i<k->O.klt (kk key (EE st1) (lo+k)) (kk key (EE st1) (lo+i))))
   (Q:=λc st'=>st1=st'/\∃l r,c=(none,l,r)/\l<=k/\(∀i,i<l->O.kle (kk key (EE st1) (lo+i)) (kk key (EE st1) (lo+k)))/\(∀i,l<=i->i<k->O.klt (kk key (EE st1) (lo+k)) (kk key (EE st1) (lo+i)))) ?istep ?ifin ⟨rfl,0,k,rfl,by lia,by lia,by lia,λi hi=>by lia,λi a1 a2=>by lia⟩) ?ipost)
  case ifin =>
   rintro c st' ⟨rfl,l,r,rfl,b1,b2,b3,b4,b5⟩
   have e:l=r:=by lia
   subst e
   exact ⟨rfl,l,l,rfl,b2,b4,b5⟩
  case istep =>
   rintro x c st' _ hx ⟨rfl,l,r,rfl,b1,b2,b3,b4,b5⟩
   dsimp only
   by_cases hge:l≥r
   ·rw[if_pos hge]
    have e:l=r:=by lia
    subst e
    exact EC ⟨rfl,l,l,rfl,b2,b4,b5⟩
   ·rw[if_neg hge]
    refine Ep (ia C (sa1.k.trans hκ) u1 (by lia) (by lia) ?_)
    dsimp only
    cases hb:O.blt (kk key (EE st1) (lo+k)) (kk key (EE st1) (lo+(l+r)/2)) with
    | true =>
     rw[if_pos rfl]
     exact EC ⟨rfl,l,(l+r)/2,rfl,by lia,by lia,by lia,b4,λi a1 a2=>KeyOrd.klt_of_klt_of_kle hb (up1 _ _ (by lia) (by lia) (by lia))⟩
    | false =>
     rw[if_neg (by simp)]
     exact EC ⟨rfl,(l+r)/2+1,r,rfl,by lia,by lia,by lia,λi a1=>E8 (up1 (lo+i) (lo+(l+r)/2) (by lia) (by lia) (by lia)) hb,b5⟩
  case ipost =>
   rintro c st' ⟨rfl,l,r,rfl,b2,b4,b5⟩
   dsimp only
   rw[moveDown'_eq]
   have e:lo+k-(lo+l)=k-l:=by lia
   refine Ep (G8 (EC ⟨rfl,?_,?_⟩))
   ·rw[e]
    exact sa1.bubble (by lia) (by lia)
   ·rw[show min (k+1) n=k+1 by lia]
    intro i j k1 k2 k3
    show O.kle (kk key (bubble (EE st1) (lo+k) (lo+k-(lo+l))) i) (kk key (bubble (EE st1) (lo+k) (lo+k-(lo+l))) j)
    have lt:lo+k<(EE st1).size:=by lia
    rw[e,oz lt (by lia),oz lt (by lia),show lo+k-(k-l)=lo+l by lia]
    have b4':∀z,lo<=z->z<lo+l->O.kle (kk key (EE st1) z) (kk key (EE st1) (lo+k)):=λz z1 z2=>by
     have:=b4 (z-lo) (by lia)
     rw[show lo+(z-lo)=z by lia] at this
     exact this
    have b5':∀z,lo+l<=z->z<lo+k->O.kle (kk key (EE st1) (lo+k)) (kk key (EE st1) z):=λz z1 z2=>by
     have:=b5 (z-lo) (by lia) (by lia)
     rw[show lo+(z-lo)=z by lia] at this
     exact FY this
    repeat' split
    all_goals first
     | (exfalso;lia)
     | exact GC _
     | exact b4' _ (by lia) (by lia)
     | exact b5' _ (by lia) (by lia)
     | exact up1 _ _ (by lia) (by lia) (by lia)
 ·by_cases h1:ok=0
  ·rw[show i=j by lia];exact GC _
  ·exact up i j k1 k2 (by lia)
end
def pwr:Nat->Nat->Nat->Nat->Nat:=sortPriv% PySem.Builtin.power
def mrn:Nat->Nat->Nat->Nat:=sortPriv% PySem.Builtin.minRun
theorem yj:Br=(do
    let sz:=(EE (← get)).size
    let mr:=mrn sz sz 0
    let mut lo:=0
    for _ in [0:sz] do
      if lo≥sz then break
      let some fd ← Ca lo (sz-lo)
        | return
      let mut n:=fd
      if n<mr then
        rule "list.sort.binary-insertion"
        let fo:=min (sz-lo) mr
        if !(← x8 lo fo n) then return
        n:=fo
      if let some (s1,n1,_):=(ER (← get)).back? then
        let pw:=pwr sz (2*s1+n1) (2*s1+n1+n1+n) sz
        for _ in [0:sz] do
          let p:=ER (← get)
          let some (_,_,old):=(if p.size>1 then p[p.size-2]? else none)
            | break
          if old<=pw then break
          if !(← mAt (p.size-2)) then return
        modify λs=>SortSt.mk' (kindOf s) (EE s) ((ER s).modify ((ER s).size-1) λ(st,len,_)=>(st,len,pw)) (gallopOf s) (failedOf s)
      modify λs=>SortSt.mk' (kindOf s) (EE s) ((ER s).push (lo,n,0)) (gallopOf s) (failedOf s)
      lo:=lo+n
    for _ in [0:sz] do
      let p:=ER (← get)
      if p.size<=1 then break
      let i:=p.size-2
      let bf:=if i>0 then p[i-1]?.map (·.2.1) else none
      let i:=if bf.any (· < (p[i+1]?.elim 0 (·.2.1))) then i-1 else i
      if !(← mAt i) then return):=rfl
def Mt:Nat->List (List EA)->List (Nat×Nat×Nat)->Prop
 | _,[],[]=>True
 | off,r :: rs,p :: ps=>p.1=off/\p.2.1=r.length/\Mt (off+r.length) rs ps
 | _,_,_=>False
theorem Mt.length:∀{off:Nat} {rs:List (List EA)} {ps:List (Nat×Nat×Nat)},Mt off rs ps->ps.length=rs.length
 | _,[],[],_=>rfl
 | _,_ :: _,_ :: _,h=>by rw[EI,EI,Mt.length h.2.2]
theorem Mt.append:∀{off:Nat} {rs ts:List (List EA)} {ps us:List (Nat×Nat×Nat)},Mt off rs ps->Mt (off+rs.flatten.length) ts us->Mt off (rs++ts) (ps++us)
 | _,[],_,[],_,_,h=>by simpa using h
 | off,r :: rs,ts,p :: ps,us,h,h'=>by
  refine ⟨h.1,h.2.1,Mt.append h.2.2 ?_⟩
  rw[GN,D7, <- Nf] at h'
  exact h'
theorem Mt.split:∀{off:Nat} {rs:List (List EA)} {ps:List (Nat×Nat×Nat)} (i:Nat),Mt off rs ps->i+1<ps.length →
  ∃R1 X Y R2 L1 w1 w2 L2,rs=R1++X :: Y :: R2/\ps=L1++(off+R1.flatten.length,X.length,w1) :: (off+R1.flatten.length+X.length,Y.length,w2) :: L2/\L1.length=i/\Mt off R1 L1/\Mt (off+R1.flatten.length+X.length+Y.length) R2 L2
 | off,r :: r2 :: rs,p :: p2 :: ps,0,h,_=>by
  obtain ⟨a,b,w1⟩:=p
  obtain ⟨c,d,w2⟩:=p2
  obtain ⟨h1,h2,h3,h4,h5⟩:=h
  dsimp only at h1 h2 h3 h4
  subst h1 h2 h3 h4
  exact ⟨[],r,r2,rs,[],w1,w2,ps,rfl,rfl,rfl,trivial,h5⟩
 | off,r :: rs,p :: ps,i+1,h,hl=>by
  rw[EI] at hl
  obtain ⟨R1,X,Y,R2,L1,w1,w2,L2,e1,e2,e3,m1,m2⟩:=Mt.split i h.2.2 (by lia)
  have ea:off+(r :: R1).flatten.length=off+r.length+R1.flatten.length:=by rw[GN,D7];lia
  refine ⟨r :: R1,X,Y,R2,p :: L1,w1,w2,L2,by rw[e1];rfl,?_,by rw[EI,e3],⟨h.1,h.2.1,m1⟩,?_⟩
  ·rw[ea,e2];rfl
  ·rw[ea];exact m2
 | off,[],[],i,_,hl=>by simp at hl
 | off,[_],[_],0,_,hl=>by simp at hl
theorem Mt.modify (f:Nat×Nat×Nat->Nat×Nat×Nat)(hf:∀p,(f p).1=p.1/\(f p).2.1=p.2.1):∀{off:Nat} {rs:List (List EA)} {ps:List (Nat×Nat×Nat)} (i:Nat),Mt off rs ps->Mt off rs (ps.modify i f)
 | _,[],[],i,_=>by cases i <;> exact trivial
 | off,r :: rs,p :: ps,0,h=>⟨(hf p).1.trans h.1,(hf p).2.trans h.2.1,h.2.2⟩
 | off,r :: rs,p :: ps,i+1,h=>⟨h.1,h.2.1,Mt.modify f hf i h.2.2⟩
theorem wz {α:Type}(l:List α)(a b c:α)(r:List α):((l++a :: b :: r).set l.length c).eraseIdx (l.length+1)=l++c :: r:=by
 induction l with
 | nil=>rfl
 | cons x l ih=>simp only[KL,EI,List.set_cons_succ,IS,ih]
section
variable  {O:JT}(key:EA->O.α)(U:EA->Prop)(κ:SortKind)
structure Rn (a0:List EA)(lo:Nat)(st:EU):Prop where
 ex:∃runs rest,(EE st).toList=runs.flatten++rest/\runs.flatten.length=lo/\(∀r∈runs,r.Pairwise (Le key)/\0<r.length)/\Mt 0 runs (ER st).toList
 perm:(EE st).toList.Perm a0
 k:kindOf st=κ
 f:failedOf st=none
end
section
variable  {prog:Eo}{w:ES}{A:Fi}{E:D1->D5->Prop}{s:D5}{O:JT}{key:EA->O.α}{U:EA->Prop}{κ:SortKind}
theorem qL (C:Cmp prog w A s O key U κ){a0:List EA}{lo i:Nat}{st:EU}{Q:Bool->EU->Prop}(hu:∀p∈a0,U p)(R:Rn key κ a0 lo st)(hi:i+1<(ER st).size)
  (h:∀st',Rn key κ a0 lo st'->(ER st').size+1=(ER st).size->(EE st').toList.drop lo=(EE st).toList.drop lo->Q true st'):wpS (EF prog w) A E s (mAt i) Q st:=by
 obtain ⟨runs,rest,ea,el,er,em⟩:=R.ex
 obtain ⟨R1,X,Y,R2,L1,w1,w2,L2,e1,e2,e3,m1,m2⟩:=Mt.split i em (by rw[D9];exact hi)
 subst e1
 rw[Hm] at e2 m2
 have hx:=er X (by simp)
 have hy:=er Y (by simp)
 have ga:(ER st)[i]? = some (R1.flatten.length,X.length,w1):=by
  rw[<- Em,e2, <- e3,show L1.length=L1.length+0 by lia,tG];rfl
 have gb:(ER st)[i+1]? = some (R1.flatten.length+X.length,Y.length,w2):=by
  rw[<- Em,e2, <- e3,tG];rfl
 refine Ck C (P:=R1.flatten) (X:=X) (Y:=Y) (S:=R2.flatten++rest) R.k R.f (by rw[ea];simp) (λp hp=>hu p (R.perm.mem_iff.mp hp)) ga gb hx.2 hy.2 hx.1 hy.1 λst' M pm sm ar pd kd fl =>?_
 have lm:M.length=X.length+Y.length:=by rw[pm.length_eq,D7]
 have ep:(ER st').toList=L1++(R1.flatten.length,X.length+Y.length,w1) :: L2:=by
  rw[pd,Array.toList_eraseIdxIfInBounds,JV,e2, <- e3]
  exact wz _ _ _ _ _
 refine h st' ⟨⟨R1++M :: R2,rest,?_,?_,λr hr =>?_,?_⟩,?_,kd,fl⟩ ?_ ?_
 ·rw[ar];simp
 ·rw[<- el];simp[lm];lia
 ·rcases Eh.mp hr with q | q
  ·exact er r (by simp[q])
  ·rcases EB.mp q with q | q
   ·rw[q];exact ⟨sm,by have:=hx.2;lia⟩
   ·exact er r (by simp[q])
 ·rw[ep]
  refine Mt.append m1 ⟨by rw[Hm],lm.symm,?_⟩
  rw[Hm,lm, <- Nf]
  exact m2
 ·rw[ar]
  refine List.Perm.trans ?_ R.perm
  rw[ea,show (R1++X :: Y :: R2).flatten++rest=R1.flatten++((X++Y)++(R2.flatten++rest)) by simp]
  exact Gy _ (Hg _ pm)
 ·rw[<- D9, <- D9,ep,e2]
  simp only[D7,EI]
  lia
 ·have l1:(R1++M :: R2).flatten.length=lo:=by rw[<- el];simp[lm];lia
  have q1:(EE st').toList=(R1++M :: R2).flatten++rest:=by rw[ar];simp
  rw[q1,ea, <- l1,Kf,l1, <- el,Kf]
theorem Rn.sa {a0:List EA}{lo:Nat}{st st':EU}(R:Rn key κ a0 lo st)(sa:SA lo st st'):Rn key κ a0 lo st':=by
 obtain ⟨runs,rest,ea,el,er,em⟩:=R.ex
 have et:(EE st').toList.take lo=runs.flatten:=by
  have e1:(EE st').toList.take lo=(EE st).toList.take lo:=by
   refine Kk λi =>?_
   rw[GD,GD]
   split
   ·rw[Em,Em];exact sa.pre i (by assumption)
   ·rfl
  rw[e1,ea, <- el,List.take_left]
 refine ⟨⟨runs,(EE st').toList.drop lo,by rw[<- et,Gz],el,er,by rw[sa.p];exact em⟩,(JW.mp sa.perm).trans R.perm,sa.k.trans R.k,sa.f.trans R.f⟩
theorem wA {xs:Array EA}{lo n:Nat}(h:Up key xs lo n):((xs.toList.drop lo).take n).Pairwise (Le key):=by
 refine Gs.mpr λi j hi hj hij =>?_
 have get:∀k (hk:k<((xs.toList.drop lo).take n).length),key ((xs.toList.drop lo).take n)[k]=kk key xs (lo+k)/\k<n:=λk hk=>by
  have hk':=hk
  rw[Ff] at hk'
  refine ⟨?_,by lia⟩
  have e:((xs.toList.drop lo).take n)[k]? = xs[lo+k]? := by
   rw[GD,if_pos (by lia),HS,Em]
  rw[Ec hk] at e
  unfold kk
  rw[<- e];rfl
 obtain ⟨e1,l1⟩:=get i hi
 obtain ⟨e2,l2⟩:=get j hj
 show O.kle (key _) (key _)
 rw[e1,e2]
 exact h _ _ (by lia) (by lia) (by lia)
theorem Rn.push {a0:List EA}{lo n:Nat}{st:EU}(R:Rn key κ a0 lo st)(hn:0<n)(hz:lo+n<=(EE st).size)(hs:(((EE st).toList.drop lo).take n).Pairwise (Le key)) :
  Rn key κ a0 (lo+n) (SortSt.mk' (kindOf st) (EE st) ((ER st).push (lo,n,0)) (gallopOf st) (failedOf st)):=by
 obtain ⟨runs,rest,ea,el,er,em⟩:=R.ex
 have ed:(EE st).toList.drop lo=rest:=by rw[ea, <- el,Kf]
 rw[ed] at hs
 have lr:n<=rest.length:=by
  have:=congrArg List.length ea
  rw[D9,D7,el] at this
  lia
 have lt:(rest.take n).length=n:=by rw[Ff];lia
 refine ⟨⟨runs++[rest.take n],rest.drop n,?_,?_,λr hr =>?_,?_⟩,R.perm,R.k,R.f⟩
 ·show (EE st).toList=_
  rw[ea];simp
 ·simp[lt,el]
 ·rcases Eh.mp hr with q | q
  ·exact er r q
  ·have e:r=rest.take n:=by simpa using q
   rw[e];exact ⟨hs,by lia⟩
 ·show Mt 0 _ ((ER st).push (lo,n,0)).toList
  rw[Gx]
  exact Mt.append em ⟨by show lo=_;lia,lt.symm,trivial⟩
theorem Rn.mod {a0:List EA}{lo:Nat}{st:EU}(R:Rn key κ a0 lo st)(i:Nat)(f:Nat×Nat×Nat->Nat×Nat×Nat)(hf:∀p,(f p).1=p.1/\(f p).2.1=p.2.1):Rn key κ a0 lo (SortSt.mk' (kindOf st) (EE st) ((ER st).modify i f) (gallopOf st) (failedOf st)):=by
 obtain ⟨runs,rest,ea,el,er,em⟩:=R.ex
 refine ⟨⟨runs,rest,ea,el,er,?_⟩,R.perm,R.k,R.f⟩
 show Mt 0 runs ((ER st).modify i f).toList
 rw[Array.toList_modify]
 exact Mt.modify f hf i em
theorem Cm {c:Prop}[Decidable c]{n:Nat}(h:1<n):(if c then n-2-1 else n-2)+1<n:=by split <;> omega
theorem oB:∀{runs:List (List EA)},(∀r∈runs,0<r.length)->runs.length<=runs.flatten.length
 | [],_=>D6 _
 | r :: rs,h=>by
  have h1:=h r D8
  have h2:=oB λq hq=>h q (Eg _ hq)
  rw[GN,D7,EI]
  lia
theorem qM (C:Cmp prog w A s O key U κ){a0:List EA}{st:EU}{Q:Unit->EU->Prop}(hu:∀p∈a0,U p)(ha:(EE st).toList=a0)(hp:ER st = #[])(hk:kindOf st=κ)(hf:failedOf st=none)(h1:1<=a0.length)
  (h:∀st',(EE st').toList.Perm a0->(EE st').toList.Pairwise (Le key)->failedOf st'=none->Q () st'):wpS (EF prog w) A E s Br Q st:=by
 rw[yj]
 refine Ep (JR ?_)
 dsimp only
 have sz0:(EE st).size=a0.length:=by rw[<- D9,ha]
 have szR:∀{lo:Nat} {st':EU},Rn key κ a0 lo st'->(EE st').size=(EE st).size:=λR=>by rw[<- D9,R.perm.length_eq,sz0]
 have uR:∀{lo:Nat} {st':EU},Rn key κ a0 lo st'->∀p∈(EE st').toList,U p:=λR p hp=>hu p (R.perm.mem_iff.mp hp)
 have R0:Rn key κ a0 0 st:=⟨⟨[],a0,by rw[ha];rfl,rfl,λr hr=>(by cases hr),by rw[hp];exact trivial⟩,by rw[ha],hk,hf⟩
 refine Ep (GS (FR (I:=λx c st'=>∃lo,c=(none,lo)/\x<=lo/\lo<=(EE st).size/\Rn key κ a0 lo st') (Q:=λc st'=>c=(none,(EE st).size)/\Rn key κ a0 (EE st).size st') ?step ?fin ⟨0,rfl,D6 _,EZ _,R0⟩) ?post)
 case fin =>
  rintro c st' ⟨lo,rfl,l1,l2,R⟩
  obtain rfl:lo=(EE st).size:=by lia
  exact ⟨rfl,R⟩
 case post =>
  rintro c st1 ⟨rfl,R⟩
  dsimp only
  have p0:(ER st1).size<=(EE st).size:=by
   obtain ⟨runs,rest,ea,el,er,em⟩:=R.ex
   have q:=em.length
   rw[D9] at q
   have:=oB λr hr=>(er r hr).2
   lia
  refine Ep (GS (FR (I:=λx c st'=>c=(none,())/\Rn key κ a0 (EE st).size st'/\((ER st').size<=1\/(ER st').size+x<=(EE st).size)) (Q:=λc st'=>c=(none,())/\Rn key κ a0 (EE st).size st'/\(ER st').size<=1) ?stepB ?finB ⟨rfl,R,.inr (by lia)⟩) ?postB)
  case finB =>
   rintro c st' ⟨rfl,R,q⟩
   exact ⟨rfl,R,by lia⟩
  case stepB =>
   rintro x c st' _ hx ⟨rfl,R,q⟩
   refine Ep (JR ?_)
   by_cases c1:(ER st').size<=1
   ·rw[if_pos c1]
    exact EC ⟨rfl,R,c1⟩
   rw[if_neg c1]
   refine Ep (qL C hu R (Cm (by lia)) λst2 R2 s2 _ =>?_)
   simp only[F3,Ex,if_false]
   exact EC ⟨rfl,R2,by lia⟩
  case postB =>
   rintro c st' ⟨rfl,R,q⟩
   obtain ⟨runs,rest,ea,el,er,em⟩:=R.ex
   have lm:=em.length
   rw[D9] at lm
   have lr:=congrArg List.length ea
   rw[D9,szR R,D7,el] at lr
   have er0:rest=[]:=HI.mp (by lia)
   subst er0
   rw[EN] at ea
   match runs,er,lm,el,ea with
   | [],_,_,el,_=>simp at el;lia
   | [r],er,_,_,ea =>
    have e:(EE st').toList=r:=by rw[ea];simp
    exact EC (h st' R.perm (by rw[e];exact (er r (by simp)).1) R.f)
   | _ :: _ :: _,_,lm,_,_=>simp at lm;lia
 case step =>
  rintro x c st1 _ hx ⟨lo,rfl,l1,l2,R⟩
  dsimp only
  by_cases cl:lo≥(EE st).size
  ·rw[if_pos cl]
   obtain rfl:lo=(EE st).size:=by lia
   exact EC ⟨rfl,R⟩
  rw[if_neg cl]
  have s1:=szR R
  refine Ep (An C R.k (uR R) (by lia) (by lia) λn st2 n1 n2 sa2 up2 =>?_)
  dsimp only
  have R2:=R.sa sa2
  have s2:=szR R2
  by_cases cm:n<mrn (EE st).size (EE st).size 0
  case' pos =>
   rw[if_pos cm]
   refine Ep (J8 (GQ ⟨rfl,?_⟩))
   obtain ⟨fo,e⟩:∃fo,fo=min ((EE st).size-lo) (mrn (EE st).size (EE st).size 0):=⟨_,rfl⟩
   rw[<- e]
   refine Ep (yi C R2.k (uR R2) (by lia) (by lia) up2 λst3 sa3 up3 =>?_)
   simp only[F3,Ex,if_false]
   have R3:=R2.sa sa3
   have f0:0<fo:=by lia
   have f1:lo+fo<=(EE st).size:=by lia
  case' neg =>
   rw[if_neg cm]
   obtain ⟨fo,e⟩:∃fo,fo=n:=⟨_,rfl⟩
   subst e
   obtain ⟨st3,e3⟩:∃st3,st3=st2:=⟨_,rfl⟩
   subst e3
   have R3:=R2
   have up3:=up2
   have f0:0<fo:=n1
   have f1:lo+fo<=(EE st).size:=by lia
  all_goals
   have srt:=wA up3
   have s3:=szR R3
   refine Ep (JR ?_)
   cases hbk:(ER st3).back? with
   | none =>
    dsimp only
    exact Ep (G8 (EC ⟨lo+fo,rfl,by lia,f1,R3.push f0 (by lia) srt⟩))
   | some t =>
    obtain ⟨t1,t2,t3⟩:=t
    dsimp only
    refine Ep (GS (FR (I:=λ_ c st'=>c=(none,())/\Rn key κ a0 lo st'/\(EE st').toList.drop lo=(EE st3).toList.drop lo) (Q:=λc st'=>c=(none,())/\Rn key κ a0 lo st'/\(EE st').toList.drop lo=(EE st3).toList.drop lo) ?stepC ?finC ⟨rfl,R3,rfl⟩) ?postC)
    case finC=>exact λc st' q=>q
    case stepC =>
     rintro z c st4 _ _ ⟨rfl,R4,d4⟩
     refine Ep (JR ?_)
     by_cases p1:(ER st4).size>1
     ·rw[if_pos p1]
      have lt:(ER st4).size-2<(ER st4).size:=by lia
      have e:(ER st4)[(ER st4).size-2]? = some (ER st4)[(ER st4).size-2]:=by simp[lt]
      rw[e]
      dsimp only
      split
      ·exact EC ⟨rfl,R4,d4⟩
      ·refine Ep (qL C hu R4 (by lia) λst5 R5 _ d5 =>?_)
       simp only[F3,Ex,if_false]
       exact EC ⟨rfl,R5,d5.trans d4⟩
     ·rw[if_neg p1]
      exact EC ⟨rfl,R4,d4⟩
    case postC =>
     rintro c st4 ⟨rfl,R4,d4⟩
     dsimp only
     have s4:=szR R4
     refine Ep (G8 (Ep (G8 (EC ⟨lo+fo,rfl,by lia,f1,?_⟩))))
     refine Rn.push ?_ f0 ?_ ?_
     ·refine Rn.mod R4 _ _ ?_
      exact λp=>⟨rfl,rfl⟩
     ·show lo+fo<=(EE st4).size
      lia
     ·show (((EE st4).toList.drop lo).take fo).Pairwise (Le key)
      rw[d4]
      exact srt
end
structure jh (prog:Eo)(w:ES)(s:D5)(vs:List D1)(O:JT)(key:D1->O.α):Prop where
 ok:2<=vs.length->∀(A:Fi) (h6:Heap),(∀b o,s.heap.get? b=some o->h6.get? b=some o)->∃κ,(∀(Q:SortKind->D5->Prop) (E:D1->D5->Prop),Q κ { s with heap:=h6 }->Es (EF prog w) A (keyKind' vs.toArray) Q E { s with heap:=h6 }) ∧
  Cmp prog w A { s with heap:=h6 } O (λp=>key p.1) (λp=>p.1=p.2/\p.1∈vs) κ
section
variable  {prog:Eo}{w:ES}{A:Fi}{E:D1->D5->Prop}{s:D5}{O:JT}{key:D1->O.α}
theorem zs:∀vs:List D1,(vs.zip vs).map (·.2)=vs
 | []=>rfl
 | v :: vs=>by rw[JZ,Ez,zs vs]
theorem qN {l:List EA}{vs:List D1}(h:l.Perm (vs.zip vs)):(l.map (·.2)).Perm vs/\∀p∈l,p.1=p.2/\p.1∈vs:=by
 have e:=zs vs
 refine ⟨by have:=h.map (·.2);rw[e] at this;exact this,λp hp =>?_⟩
 have m:=h.mem_iff.mp hp
 obtain ⟨i,hi⟩:=Fw.mp m
 rw[Kc] at hi
 have e1:=hi.1.symm.trans hi.2
 exact ⟨E1 e1,Eb hi.1⟩
theorem eM {a:Addr}{vs:List D1}{n:Nat}{P:Fin->D5->Prop}(ho:s.heap.get? a=some (seqObj "list" vs.toArray n))(hz:vs.length<=Ei)
    (hc:2<=vs.length->∀h6,(∀b o,b≠a->s.heap.get? b=some o->h6.get? b=some o)->∃κ,(∀(Q:SortKind->D5->Prop) (E:D1->D5->Prop),Q κ { s with heap:=h6 }->Es (EF prog w) A (keyKind' vs.toArray) Q E { s with heap:=h6 }) ∧
      Cmp prog w A { s with heap:=h6 } O (λp=>key p.1) (λp=>p.1=p.2/\p.1∈vs) κ)
    (h:∀out:List D1,out.Perm vs->out.Pairwise (λx y=>O.kle (key x) (key y))->P (.done (.ret .none)) { s with heap:=sortedHeap s.heap a vs out.toArray }):Es (EF prog w) A (Builtin.«list.sort» ⟨[.ref a],[]⟩) P E s:=by
  rw[list_sort_plain]
  have ha:a<s.heap.objs.size:=Ej ho
  refine DX (Ka ho rfl ?_)
  refine DX (Ii ho rfl ?_ (by rw[D4];exact hz) (EZ _))
  obtain ⟨e1,ho1⟩:∃e1,(s.heap.update a (Fs λ_ => #[])).get? a=some (seqObj "list" #[] e1):=⟨_,IZ ho (λ_ => #[])⟩
  refine DX (LV ho1 rfl (DX (LH ?_ (by exact hz))))
  refine DX (Ij ?_ (EZ _))
  refine Fe ?_
  generalize hH:((s.heap.update a (Fs λ_ => #[])).push (seqObj "tuple" vs.toArray 0)).push (seqObj "list" #[] 0)=h6
  have kp:∀b o,b≠a->s.heap.get? b=some o->h6.get? b=some o:=λb o nb e=>by
    rw[<- hH]
    refine DZ _ (DZ _ ?_)
    rw[Gw _ _ _ _ nb]
    exact e
  have ho6:h6.get? a=some (seqObj "list" #[] e1):=by
    rw[<- hH]
    exact DZ _ (DZ _ ho1)
  have eH:∀out:List D1,sortedHeap s.heap a vs out.toArray=h6.update a (Fs λ_=>out.toArray):=λout=>by rw[<- hH];rfl
  have go:∀st':EU,(EE st').toList.Perm (vs.zip vs)->(EE st').toList.Pairwise (λp q=>O.kle (key p.1) (key q.1))->failedOf st'=none →
      Es (EF prog w) A (do
        let sorted:=(EE st').map (·.2)
        let touched:=(← seqEpoch a) != e1
        Builtin.List.listUpdate (.ref a) λ_=>sorted
        if let some e:=failedOf st' then rule "list.sort.comparison-raised";throw e
        if touched then rule "list.sort.modified";raiseError "ValueError" "list modified during sort"
        ret .none) P E { s with heap:=h6 }:=by
    intro st' pm ps hf
    obtain ⟨z1,z2⟩:=qN pm
    have em:(EE st').map (·.2)=((EE st').toList.map (·.2)).toArray:=by
      apply Jo.mp
      rw[Js]
    dsimp only
    refine DX (LV ho6 rfl ?_)
    refine DX (Ii ho6 rfl ?_ (EZ _) (by rw[Fm, <- D9,pm.length_eq,K6,J0];lia))
    rw[hf]
    simp only[bne_self_eq_false,Ex,if_false]
    refine D3 ?_
    rw[em, <- eH]
    refine h _ z1 (Fh.mpr (ps.imp_of_mem λ{p q} hp hq le =>?_))
    rw[<- (z2 p hp).1, <- (z2 q hq).1]
    exact le
  by_cases h2:vs.toArray.size<2
  · rw[if_pos h2,if_pos h2]
    refine DX (D3 ?_)
    dsimp only
    rw[MX]
    refine DX (D3 ?_)
    refine go (SortSt.mk' general' (vs.toArray.zip vs.toArray) #[] 7 none) (by show (vs.toArray.zip vs.toArray).toList.Perm _;simp) ?_ rfl
    rw[D4] at h2
    have et:(vs.toArray.zip vs.toArray).toList=vs.zip vs:=by simp
    show (vs.toArray.zip vs.toArray).toList.Pairwise (λ(p q:EA)=>O.kle (key p.1) (key q.1))
    rw[et]
    have short:∀us:List D1,us.length<2->(us.zip us).Pairwise (λ(p q:EA)=>O.kle (key p.1) (key q.1)):=λus hu=>by
      match us,hu with
      | [],_=>exact List.Pairwise.nil
      | [v],_=>exact Ge _ _
      | _ :: _ :: _,hu=>simp only[EI] at hu;lia
    exact short vs h2
  · rw[if_neg h2,if_neg h2]
    rw[D4] at h2
    obtain ⟨κ,k1,C⟩:=hc (by lia) h6 kp
    refine DX (k1 _ _ ?_)
    have et:(vs.toArray.zip vs.toArray).toList=vs.zip vs:=by simp
    refine DX (Gp (qM C (E:=E) (a0:=vs.zip vs) (st:=SortSt.mk' κ (vs.toArray.zip vs.toArray) #[] 7 none)
      (Q:=λ_ st'=>(EE st').toList.Perm (vs.zip vs)/\(EE st').toList.Pairwise (Le λ(p:EA)=>key p.1)/\failedOf st'=none)
      (qN (Ip _)).2 et rfl rfl rfl (by rw[K6,J0];lia) λst' a1 a2 a3=>⟨a1,a2,a3⟩) ?_ λ_ _ e=>e)
    rintro ⟨⟨⟩,st'⟩ s' ⟨rfl,hp,hs,hf⟩
    exact go st' hp hs hf
def lW (prog:Eo)(w:ES)(s:D5)(v:D1)(vs:List D1):Prop :=
 ∀(A:Fi) (E:D1->D5->Prop) (R:List D1->D5->Prop),(∀h1,(∀b o,s.heap.get? b=some o->h1.get? b=some o)->s.heap.objs.size<=h1.objs.size->R vs { s with heap:=h1 })->Es (EF prog w) A (collect v) R E s
theorem lX {v:D1}{vs:List D1}{Q:D1->D5->Prop}(hv:lW prog w s v vs)(hz:vs.length<=Ei)(C:jh prog w s vs O key)
  (h:∀(h':Heap) (p:Addr) (out:List D1) (n:Nat),(∀b o,s.heap.get? b=some o->h'.get? b=some o)->s.heap.objs.size<=p->h'.get? p=some (seqObj "list" out.toArray n)->out.Perm vs->out.Pairwise (λx y=>O.kle (key x) (key y))->Q (.ref p) { s with heap:=h' }) :
  Es (EF prog w) A (call (.builtin "sorted") [v]) Q E s:=by
 refine Iq LW Lj Lk (MG _) ?_
 unfold Builtin.«sorted»
 refine DX (m:=checkCount "sorted" 1 1 _) (D3 ?_)
 refine DX (hv _ _ _ λh1 k1 z1=>DX (Ij ?_ hz))
 have hoL:(h1.push (seqObj "list" vs.toArray 0)).get? h1.objs.size=some (seqObj "list" vs.toArray 0):=Ed _ rfl
 have kL:∀b o,s.heap.get? b=some o->(h1.push (seqObj "list" vs.toArray 0)).get? b=some o:=λb o e=>DZ _ (k1 b o e)
 refine DX (Fe (FA slot_list_sort ⟨_,hoL,rfl⟩ entry_list_sort (eM (key:=key) (O:=O) hoL hz (λh2 h6 k6 =>?_) λout pm ps=>⟨_,rfl,?_⟩) (LI _)))
 ·exact C.ok h2 _ h6 λb o e=>k6 b o (Ey (Er (Ej e) z1)) (kL b o e)
 ·obtain ⟨n,en⟩:=Mn (out:=out.toArray) hoL
  refine D3 ⟨_,rfl,h _ _ out n (λb o e =>?_) z1 en pm ps⟩
  have lt:=Er (Ej e) z1
  rw[LJ (Ey lt) (by rw[Lu];exact Fz lt)]
  exact kL b o e
theorem fI {l:Addr}{o:Obj}{vs:List D1}{n:Nat}(ho:s.heap.get? l=some o)(hc:o.cls = .type "list" \/ o.cls = .type "tuple")(hd:o.data = .seq vs.toArray n)(hz:vs.length<=Ei):lW prog w s (.ref l) vs:=by
  intro A E R h
  unfold collect
  refine DX (Iv (E6 entry_proto_collect' ?_))
  show Es _ _ (do again (.builtin "list.__iadd__" ⟨[<- newList [],.ref l],[]⟩)) _ _ s
  refine DX (Ij (D3 ⟨IU _ (by decide +kernel),E6 entry_list_iadd' ?_⟩))
  show Es _ _ (Fn (.ref s.heap.objs.size) (.ref l) (.ref s.heap.objs.size)) _ _ { s with heap:=s.heap.push (seqObj "list" #[] 0) }
  unfold Fn
  have ho':(s.heap.push (seqObj "list" #[] 0)).get? l=some o:=DZ _ ho
  have cond:∀T,o.cls = .type T->(T = "list" \/ T = "tuple")->Es (EF prog w) A (typeOf (.ref l)) (λt s'=>t = .type T/\s'={ s with heap:=s.heap.push (seqObj "list" #[] 0) }) E { s with heap:=s.heap.push (seqObj "list" #[] 0) }:=λT e _=>GX (T:=T) ⟨o,ho',e⟩ ⟨rfl,rfl⟩
  obtain ⟨T,eT,hT⟩:∃T,o.cls = .type T/\(T = "list" \/ T = "tuple"):=by
    rcases hc with hc | hc
    · exact ⟨_,hc,.inl rfl⟩
    · exact ⟨_,hc,.inr rfl⟩
  refine DX (GX (T:=T) ⟨o,ho',eT⟩ ?_)
  rw[if_pos (by rcases hT with rfl | rfl <;> simp)]
  refine DX (Ka ho' hd ?_)
  refine DX (Ka (xs := #[]) (n:=0) (Ed _ rfl) rfl ?_)
  rw[if_neg (by simp)]
  refine DX (Ii (xs := #[]) (n:=0) (Ed _ rfl) rfl ?_ (EZ _) (by show (#[]++vs.toArray).size<=Ei+1;simp only[Hw,D4,IV];lia))
  refine D3 ?_
  show Es (EF prog w) A (do
      let o ← load s.heap.objs.size
      match o.data with
      | .seq xs _=>pure xs.toList
      | _=>unsupported "internal:collect") R E { s with heap:=(s.heap.push (seqObj "list" #[] 0)).update s.heap.objs.size (Fs (· ++ vs.toArray)) }
  refine DX (Lp (IZ (Ed _ rfl) _) ?_)
  show Es _ _ (pure ((#[]:Array D1)++vs.toArray).toList) R E _
  rw[show ((#[]:Array D1)++vs.toArray).toList=vs by simp]
  refine D3 (h _ (λb ob e =>?_) ?_)
  · rw[Gw _ _ _ _ (Ey (Ej e))]
    exact DZ _ e
  · rw[ML,Lu]
    exact Ks _
end
def iG:JT where
 α:=Int
 blt:=λa b=>decide (a<b)
 irrefl:=λa=>by simp
 trans:=λa b c h1 h2=>by simp at *;lia
 negTrans:=λa b c h=>by simp at *;lia
 total:=λa b h1 h2=>by simp at *;lia
theorem lex_irrefl:∀a,HT.lexLt a a=false
 | []=>rfl
 | x :: xs=>by rw[HT.fD,if_pos rfl];exact lex_irrefl xs
theorem lex_trans:∀a b c,HT.lexLt a b=true->HT.lexLt b c=true->HT.lexLt a c=true
 | [],[],_,h,_=>by cases h
 | [],_ :: _,[],_,h=>by cases h
 | [],_ :: _,_ :: _,_,_=>rfl
 | _ :: _,[],_,h,_=>by cases h
 | _ :: _,_ :: _,[],_,h=>by cases h
 | x :: xs,y :: ys,z :: zs,h1,h2=>by
  rw[HT.fD] at *
  by_cases e1:x=y
  ·subst e1
   rw[if_pos rfl] at h1
   by_cases e2:x=z
   ·rw[if_pos e2] at h2 ⊢
    exact lex_trans xs ys zs h1 h2
   ·rw[if_neg e2] at h2 ⊢
    exact h2
  ·rw[if_neg e1] at h1
   have l1:=of_decide_eq_true h1
   by_cases e2:y=z
   ·subst e2
    rw[if_neg e1]
    exact h1
   ·rw[if_neg e2] at h2
    have l2:=of_decide_eq_true h2
    rw[if_neg (by omega)]
    exact decide_eq_true (by omega)
theorem jR:∀a b,HT.lexLt a b=false->HT.lexLt b a=false->a=b
 | [],[],_,_=>rfl
 | [],_ :: _,h,_=>by cases h
 | _ :: _,[],_,h=>by cases h
 | x :: xs,y :: ys,h1,h2=>by
  rw[HT.fD] at *
  by_cases e:x=y
  ·subst e
   rw[if_pos rfl] at h1 h2
   rw[jR xs ys h1 h2]
  ·rw[if_neg e] at h1
   rw[if_neg (F8 e)] at h2
   have a1:=of_decide_eq_false h1
   have a2:=of_decide_eq_false h2
   omega
theorem Ao (a b c:List Int)(h:HT.lexLt a c=true):HT.lexLt a b=true\/HT.lexLt b c=true:=by
 cases h1:HT.lexLt a b with
 | true=>exact .inl rfl
 | false =>
  right
  cases h2:HT.lexLt b a with
  | true=>exact lex_trans b a c h2 h
  | false=>rw[<- jR a b h1 h2];exact h
def lexOrd:JT where
 α:=List Int
 blt:=HT.lexLt
 irrefl:=lex_irrefl
 trans:=lex_trans
 negTrans:=Ao
 total:=jR
def intOf:D1->Int
 | .int i _=>i
 | _=>0
section
variable  {prog:Eo}{w:ES}{A:Fi}{E:D1->D5->Prop}{s:D5}
theorem gF:∀{vs:List D1} {ns:List Int},He vs ns->∀v∈vs,∃i t,v = .int i t
 | _,_,.nil,v,h=>by cases h
 | _,_,.cons n t r,v,h=>by
  rcases EB.mp h with e | e
  ·exact ⟨n,t,e⟩
  ·exact gF r v e
theorem ji {vs:List D1}{ns:List Int}(hI:He vs ns):jh prog w s vs iG intOf:=by
 refine ⟨λh2 A h6 _=>⟨oneType',λQ E q =>?_,⟨λE st x y Q hk hx hy q =>?_⟩⟩⟩
 ·match vs,h2,hI with
  | v1 :: v2 :: rest,_,hI =>
   rw[keyKind_ints hI]
   exact D3 q
  | [],h2,_=>simp at h2
  | [_],h2,_=>simp at h2
 ·obtain ⟨i,t,e1⟩:=gF hI _ hx.2
  obtain ⟨j,u,e2⟩:=gF hI _ hy.2
  rw[lt'_eq]
  refine Ep (JR ?_)
  rw[hk,keyLt'_oneType,e1,e2]
  refine Ep (J8 (Hq (oneLt_int ⟨rfl,?_⟩)))
  refine EC ?_
  have q':Q (some (decide (intOf x.1<intOf y.1))) st:=q
  rw[e1,e2] at q'
  exact q'
def dh (h:Heap)(v:D1):List Int:=match v with
 | .ref p=>match h.get? p with
  | some o=>match o.data with
   | .seq xs _=>xs.toList.map intOf
   | _=>[]
  | none=>[]
 | _=>[]
def dY (h:Heap)(v:D1)(ns:List Int):Prop:=∃p o xs n,v = .ref p/\h.get? p=some o/\o.cls = .type "tuple" /\ o.data = .seq xs n/\He xs.toList ns
theorem ints_map:∀{vs:List D1} {ns:List Int},He vs ns->vs.map intOf=ns
 | _,_,.nil=>rfl
 | _,_,.cons n t r=>by rw[Ez,ints_map r];rfl
theorem dY.ints {h:Heap}{v:D1}{ns:List Int}(x:dY h v ns):dh h v=ns:=by
 obtain ⟨p,o,xs,n,rfl,e,_,d,r⟩:=x
 unfold dh
 dsimp only
 rw[e]
 dsimp only
 rw[d]
 exact ints_map r
theorem dY.keeps {h h':Heap}{v:D1}{ns:List Int}(x:dY h v ns)(k:∀b o,h.get? b=some o->h'.get? b=some o):dY h' v ns:=by
 obtain ⟨p,o,xs,n,rfl,e,r⟩:=x
 exact ⟨p,o,xs,n,rfl,k _ _ e,r⟩
theorem qO {fin:Bool}{Q:Bool->D5->Prop}:∀{us ws:List D1} {ns ms:List Int} (i:Nat),He us ns->He ws ms->(fin=true↔(decide (ns.length<ms.length)=true))->Q (HT.lexLt ns ms) s →
  PySem.W.KatLex prog w A true fin Q (us.zip ws) i s
 | _,_,_,_,i,.nil,.nil,hf,q=>by
  refine K7 ?_
  have e:fin=false:=by cases fin with
   | false=>rfl
   | true=>have:=hf.mp rfl;simp at this
  rw[e];exact q
 | _,_,_,_,i,.nil,.cons _ _ _,hf,q=>by
  refine K7 ?_
  have e:fin=true:=hf.mpr (by simp)
  rw[e];exact q
 | _,_,_,_,i,.cons _ _ _,.nil,hf,q=>by
  refine K7 ?_
  have e:fin=false:=by cases fin with
   | false=>rfl
   | true=>have:=hf.mp rfl;simp at this
  rw[e];exact q
 | _,_,_,_,i,.cons (ns:=ns) a t r,.cons (ns:=ms) c u r',hf,q=>by
  rw[JZ]
  refine PySem.W.kat_cons (wpAny_eqBool_int ?_)
  rw[HT.fD] at q
  by_cases e:a=c
  ·rw[if_pos e] at q
   rw[beq_iff_eq.mpr e]
   exact PySem.W.kat_yes (qO (i+1) r r' (by rw[hf];simp) q)
  ·rw[if_neg e] at q
   rw[beq_eq_false_iff_ne.mpr e]
   refine PySem.W.kat_no ?_
   by_cases i0:(true && i == 0)=true
   ·rw[i0]
    exact oneLt_int q
   ·rw[GO.mpr i0,oneLt'_eq]
    simp only[Ex,if_false]
    refine DX (HT.xQ _ _ a t c u prog w _ _ ?_)
    exact Gi q
theorem lY {h:Heap}:∀{vs:List D1},(∀v∈vs,∃ns,dY h v ns/\ns≠[])->∃fs,PySem.W.KatTups h vs fs/\fs.length=vs.length/\∀f∈fs,∃i t,f = .int i t
 | [],_=>⟨[],trivial,rfl,λf hf=>by cases hf⟩
 | v :: vs,hv=>by
  obtain ⟨fs,t,l,hf⟩:=lY λu hu=>hv u (Eg _ hu)
  obtain ⟨ns,⟨p,o,xs,n,rfl,e,c,d,r⟩,ne⟩:=hv v D8
  have hx:∃i t,xs[0]? = some (.int i t):=by
   rw[<- Em]
   generalize xs.toList=l at r
   cases r with
   | nil=>exact absurd rfl ne
   | cons i t r=>exact ⟨i,t,rfl⟩
  obtain ⟨i,t',hx⟩:=hx
  exact ⟨.int i t' :: fs,Nk e c d hx t,by rw[EI,EI,l],λf hf'=>by
   rcases EB.mp hf' with q | q
   ·exact ⟨i,t',q⟩
   ·exact hf f q⟩
theorem jj {vs:List D1}(hv:∀v∈vs,∃ns,dY s.heap v ns/\ns≠[]):jh prog w s vs lexOrd (dh s.heap):=by
 refine ⟨λh2 A h6 k6=>⟨tuples' true,λQ E q =>?_,⟨λE st x y Q hk hx hy q =>?_⟩⟩⟩
 ·obtain ⟨fs,t,l,hf⟩:=lY (h:=h6) (vs:=vs) λv hv'=>by
   obtain ⟨ns,i,ne⟩:=hv v hv'
   exact ⟨ns,i.keeps k6,ne⟩
  refine PySem.W.kat_kind (T :=.type "int") t (by lia) (λf hf' =>?_) rfl q
  obtain ⟨i,t',rfl⟩:=hf f hf'
  exact Ni rfl
 ·obtain ⟨ns,i1,_⟩:=hv _ hx.2
  obtain ⟨ms,i2,_⟩:=hv _ hy.2
  have q':Q (some (HT.lexLt (dh s.heap x.1) (dh s.heap y.1))) st:=q
  rw[i1.ints,i2.ints] at q'
  obtain ⟨p1,o1,xs1,n1,e1,g1,c1,d1,r1⟩:=i1.keeps k6
  obtain ⟨p2,o2,xs2,n2,e2,g2,c2,d2,r2⟩:=i2.keeps k6
  rw[lt'_eq]
  refine Ep (JR ?_)
  rw[hk,e1,e2]
  have l1:=r1.length
  have l2:=r2.length
  refine Ep (J8 (Hq (PySem.W.kat_lt g1 d1 g2 d2 (qO 0 r1 r2 ?_ ⟨rfl,?_⟩))))
  ·rw[<- l1, <- l2,D9,D9]
  ·exact EC q'
end
end Srt
namespace L2
open PySem PySem.Spec PyProof.Rows
theorem iH {α β:Type}{f:α -> β}:∀{l:List β} {m:List α},l.Perm (m.map f)->∃m':List α,m'.Perm m/\l=m'.map f:=by
 intro l m h
 generalize hk:m.map f=k at h
 induction h generalizing m with
 | nil =>
  have:m=[]:=JL.mp hk
  exact ⟨[],by rw[this],rfl⟩
 | cons x _ ih =>
  match m,hk with
  | y :: m,hk =>
   rw[Ez] at hk
   injection hk with h1 h2
   obtain ⟨m',p,e⟩:=ih h2
   exact ⟨y :: m',p.cons y,by rw[Ez, <- e,h1]⟩
  | [],hk=>cases hk
 | swap x y l =>
  match m,hk with
  | a :: b :: m,hk =>
   rw[Ez,Ez] at hk
   injection hk with h1 h2
   injection h2 with h2 h3
   exact ⟨b :: a :: m,List.Perm.swap a b m,by rw[Ez,Ez,h1,h2,h3]⟩
  | [],hk=>cases hk
  | [_],hk=>simp at hk
 | trans _ _ ih1 ih2 =>
  obtain ⟨m',p,e⟩:=ih2 hk
  obtain ⟨m'',p',e'⟩:=ih1 e.symm
  exact ⟨m'',p'.trans p,e'⟩
theorem cY:∀{ns:List Int} {us:List D1},Vals (ns.map V.int) us->He us ns:=λr=>intsAre_of r
theorem fJ:∀{us:List D1} {ns:List Int},He us ns->Vals (ns.map V.int) us:=λr=>jQ r
theorem eV:∀{us:List D1},(∀u∈us,∃i t,u=F7 i t)->He us (us.map Srt.intOf)
 | [],_ =>.nil
 | u :: us,h=>by
  obtain ⟨i,t,e⟩:=h u D8
  subst e
  exact .cons i t (eV λv hv=>h v (Eg _ hv))
theorem dR:∀{α:Type} {f:α -> Addr} {ps:List α} {us:List D1},Vals (ps.map λx=>V.ref (f x)) us->us=ps.map λx=>Eu (f x)
 | _,_,[],_,r=>by cases r;rfl
 | _,f,p :: ps,_,r=>by
  cases r with
  | cons h t=>rw[Ez, <- dR t,show _=Eu (f p) from h]
theorem eX {α:Type}{f:α -> Addr}:∀{ps:List α},Vals (ps.map λx=>V.ref (f x)) (ps.map λx=>Eu (f x))
 | [] =>.nil
 | p :: ps =>.cons rfl eX
section
variable  {X:Cx}
theorem Inv.lZ {pins:List (Addr×Obj)}{σ:St}{H:Hp}{s:D5}{p:Addr}{ys:List V}(I:Inv X pins σ H s)(h:SqL X.K H p ys\/SqT X.K H p ys) :
  ∃(its:List D1) (o:Obj) (n:Nat),Vals ys its/\s.heap.get? p=some o/\(o.cls = .type "list" \/ o.cls = .type "tuple")/\o.data = .seq its.toArray n/\ys.length<=Ei:=by
 rcases h with h | h
 ·obtain ⟨its,r,⟨o,n,e,c,_,d⟩,z⟩:=I.list h
  exact ⟨its,o,n,r,e,.inl c,d,z⟩
 ·obtain ⟨its,r,⟨o,e,c,n,d⟩,z⟩:=I.tuple h
  exact ⟨its,o,n,r,e,.inr c,d,z⟩
theorem Inv.newList {pins:List (Addr×Obj)}{σ:St}{H:Hp}{s:D5}{h':Heap}{p:Addr}{ys:List V}{its:List D1}{n:Nat}(I:Inv X pins σ H s)(k:∀b o,s.heap.get? b=some o->h'.get? b=some o)(hp:s.heap.objs.size<=p)
  (e:h'.get? p=some { cls :=.type "list",data :=.seq its.toArray n }) (r:Vals ys its) (hz:ys.length<=Ei):Inv X pins σ (upd H p (.lst ys)) { s with heap:=h' } :=
 I.laid (t':=s.toks) k hp ⟨hz,its,n,r,e⟩
theorem fK:bZ X (.builtin "sorted") (λxs H Q=>∃(p:Addr) (ns:List Int),xs=[.ref p]/\(SqL X.K H p (ns.map V.int)\/SqT X.K H p (ns.map V.int))/\∀(l:Addr) (out:List Int),H l=none->out.Perm ns->out.Pairwise (· <= ·)->Q (.ref l) (upd H l (.lst (out.map V.int)))):=by
 intro pins s σ H xs us Q I r h
 obtain ⟨p,ns,rfl,hs,q⟩:=h
 obtain ⟨u,rfl,ru⟩:=vals1 r
 cases (show u=Eu p from ru)
 obtain ⟨its,o,n,rv,e,c,d,z⟩:=I.lZ hs
 have hI:=cY rv
 have lz:its.length<=Ei:=by rw[<- rv.length];exact z
 refine Srt.lX (Srt.fI e c d lz) lz (Srt.ji hI) λh' l out m k hl el pm ps =>?_
 have hm:∀v∈out,∃i t,v=F7 i t:=λv hv=>Srt.gF hI v (pm.mem_iff.mp hv)
 have hO:=eV hm
 have pm':(out.map Srt.intOf).Perm ns:=by
  have:=pm.map Srt.intOf
  rw[Srt.ints_map hI] at this
  exact this
 refine ⟨.ref l,_,I.newList k hl el (fJ hO) (by rw[DY,pm'.length_eq, <- DY (f:=V.int)];exact z),rfl,q l _ (I.hok.fresh hl) pm' ?_⟩
 refine Fh.mpr (ps.imp λ{x y} le =>?_)
 have le':decide (Srt.intOf y<Srt.intOf x)=false:=le
 have:=of_decide_eq_false le'
 lia
theorem fL:bZ X (.builtin "sorted") (λxs H Q=>∃(p:Addr) (ts:List (Addr×List Int)),xs=[.ref p]/\(SqL X.K H p (ts.map λt =>.ref t.1)\/SqT X.K H p (ts.map λt =>.ref t.1))/\(∀t∈ts,SqT X.K H t.1 (t.2.map V.int)/\t.2≠[]) ∧
  ∀(l:Addr) (out:List (Addr×List Int)),H l=none->out.Perm ts->out.Pairwise (λa b=>HT.lexLt b.2 a.2=false)->Q (.ref l) (upd H l (.lst (out.map λt =>.ref t.1)))):=by
 intro pins s σ H xs us Q I r h
 obtain ⟨p,ts,rfl,hs,ht,q⟩:=h
 obtain ⟨u,rfl,ru⟩:=vals1 r
 cases (show u=Eu p from ru)
 obtain ⟨its,o,n,rv,e,c,d,z⟩:=I.lZ hs
 have ei:=dR rv
 have lz:its.length<=Ei:=by rw[<- rv.length];exact z
 have tup:∀t∈ts,Srt.dY s.heap (Eu t.1) t.2:=λt hm=>by
  obtain ⟨jts,jr,⟨jo,je,jc,jn,jd⟩,_⟩:=I.tuple (ht t hm).1
  exact ⟨t.1,jo,_,jn,rfl,je,jc,jd,by simpa using cY jr⟩
 have hv:∀v∈its,∃ns,Srt.dY s.heap v ns/\ns≠[]:=λv hv=>by
  rw[ei] at hv
  obtain ⟨t,hm,rfl⟩:=EK.mp hv
  exact ⟨t.2,tup t hm,(ht t hm).2⟩
 refine Srt.lX (Srt.fI e c d lz) lz (Srt.jj hv) λh' l out m k hl el pm ps =>?_
 rw[ei] at pm
 obtain ⟨out',pm',rfl⟩:=iH pm
 refine ⟨.ref l,_,I.newList k hl el eX (by rw[DY,pm'.length_eq, <- DY (f:=λt:Addr×List Int=>V.ref t.1)];exact z),rfl,q l _ (I.hok.fresh hl) pm' ?_⟩
 refine (Fh.mp ps).imp_of_mem λ{a b} ha hb le =>?_
 have le':HT.lexLt (Srt.dh s.heap (Eu b.1)) (Srt.dh s.heap (Eu a.1))=false:=le
 rw[(tup a (pm'.mem_iff.mp ha)).ints,(tup b (pm'.mem_iff.mp hb)).ints] at le'
 exact le'
end
def SB (r:Addr)(H H':Hp):Prop:=∀b u,b≠r->H b=some u->H' b=some u
theorem SB.refl (r:Addr)(H:Hp):SB r H H:=λ_ _ _ h=>h
theorem SB.trans {r:Addr}{H H1 H2:Hp}(a:SB r H H1)(b:SB r H1 H2):SB r H H2:=λc u n h=>b c u n (a c u n h)
theorem SB.put {r:Addr}{H:Hp}(o:HO):SB r H (upd H r o):=λc u n h=>by rw[ak n];exact h
def Tp (H H':Hp):Prop:=∀b xs,H b=some (.tup xs)->H' b=some (.tup xs)
theorem ax.tp {H H':Hp}(a:ax H H'):Tp H H':=λc u h=>a c _ h
def mnI (a b:Int):Int:=if b<a then b else a
def mxI (a b:Int):Int:=if b>a then b else a
def nrm (a b:Int):List Int:=[mnI a b,mxI a b]
section
variable  {X:Cx}{tg:Expr}
def iSeq (K:D2)(tl:TE):TI:=λσ H R=>tl σ H λx H1=>∃a,x = .ref a/\(((∃xs,SqL K H1 a xs)/\R (Itl K a) H1)\/((∃xs,SqT K H1 a xs)/\R (Itt K a) H1))
theorem pX {l:Expr}{tl:TE}(hl:PE X l tl):PI X tg l (iSeq X.K tl):=by
 intro pins s σ H R I h;refine thn (hl pins s σ H _ I h) λv s1 ⟨x,H1,I1,r1,q1⟩ =>?_
 obtain ⟨a,e,q1⟩:=q1
 subst e
 cases r1
 have fp:∀b∈[s1.heap.objs.size],jL X pins H1 b:=λb hb=>by
  have e:b=s1.heap.objs.size:=by simpa using hb
  rw[e];exact I1.v5 (D6 _) (I1.hok.fresh (D6 _))
 rcases q1 with ⟨⟨xs,hq⟩,q⟩ | ⟨⟨xs,hq⟩,q⟩
 ·obtain ⟨its,rv,p,hz⟩:=I1.list hq;refine G7 p.isList ?_
  exact ⟨s1.heap.objs.size,_,_,_,H1,rfl,I1.kept (t':=s1.toks) (λb o e=>DZ _ e),nZ a _,⟨_,Ed _ rfl,rfl,rfl⟩,fp,q⟩
 ·obtain ⟨its,rv,p,hz⟩:=I1.tuple hq;refine IY (show s1.heap.IsTuple a its.toArray from p) ?_
  exact ⟨s1.heap.objs.size,_,_,_,H1,rfl,I1.kept (t':=s1.toks) (λb o e=>DZ _ e),lL a _,⟨_,Ed _ rfl,rfl,rfl⟩,fp,q⟩
end
theorem oD {K:D2}{a:Addr}{xs:List V}{k:Nat}{tc:TT}{te:TE}{τ:St}{H:Hp}{Q:VK}(Pv:Nat->List V->Hp->Prop)(hp:H a=some (.lst xs)\/H a=some (.tup xs))(h0:Pv 0 [] H)(hz:xs.length<=Ei)
  (hl:∀i ys H',Pv i ys H'->H' a=H a) (hs:∀i x ys H,xs[i]? = some x->ys.length<=i->Pv i ys H->uP k tc te τ Pv i x ys H)
  (hd:∀ys H,ys.length<=xs.length->Pv xs.length ys H->∀l,H l=none->Q (.ref l) (upd H l (.lst ys))) :
  ((∃xs,SqL K H a xs)/\lS (Itl K a) (gx k) tc te τ Q H)\/((∃xs,SqT K H a xs)/\lS (Itt K a) (gx k) tc te τ Q H):=by
 rcases hp with hp | hp
 ·exact .inl ⟨⟨_,SqL.of hp⟩,dX Pv h0 hz (λi ys H' _ z=>SqL.of ((hl i ys H' z).trans hp)) hs hd⟩
 ·exact .inr ⟨⟨_,SqT.of hp⟩,bF Pv h0 hz (λi ys H' _ z=>SqT.of ((hl i ys H' z).trans hp)) hs hd⟩
theorem yk {X:Cx}{K:D2}{x y:Str}{i j k:Nat}{p p' pos:Pos}(hN:X.N.Nodup)(hi:X.N[i]? = some x)(hj:X.N[j]? = some y)(hx:Loc X.env.scope x)(hy:Loc X.env.scope y)(hc:X.calm=true:=by rfl)(h:X.K=K:=by rfl)
  (hf:X.fn x=true\/X.env.scope.names.lookup x=some .local:=by first | exact .inl rfl | exact .inr rfl) (hg:X.fn y=true\/X.env.scope.names.lookup y=some .local:=by first | exact .inl rfl | exact .inr rfl):PG X (.Tuple [.Name x p,.Name y p'] k pos) (Bq K i j):=by
 subst h
 exact pP hc (dw (ay hN hi hx hf) (dw (ay hN hj hy hg) kT))
end L2
namespace STab
open PySem PySem.SetTable
def pY (xs:Array Nat):Prop:=∀i j a b:Nat,xs[i]? = some a->xs[j]? = some b->i<j->a<b
theorem yl {xs:Array Nat}(R:pY xs)(j:Nat):∀(fuel lo hi:Nat),lo<=hi->hi<=xs.size->hi-lo<=fuel →
  (∀i a,i<lo->xs[i]? = some a->a<j)->(∀i a,hi<=i->xs[i]? = some a->j<=a) →
  below.go xs j fuel lo hi<=xs.size/\(∀i a,xs[i]? = some a->(i<below.go xs j fuel lo hi↔a<j)):=by
 intro fuel
 induction fuel with
 | zero =>
  intro lo hi h1 h2 h3 h4 h5
  unfold below.go
  refine ⟨by lia,λi a e=>⟨λq=>h4 i a q e,λq =>?_⟩⟩
  apply HN
  intro q2
  have:=h5 i a (by lia) e
  lia
 | succ fuel ih =>
  intro lo hi h1 h2 h3 h4 h5
  unfold below.go
  by_cases hl:lo<hi
  ·rw[if_pos hl]
   dsimp only
   have hm:(lo+hi)/2<xs.size:=by lia
   have em:xs[(lo+hi)/2]? = some xs[(lo+hi)/2]:=EL hm
   have eg:xs.getD ((lo+hi)/2) j=xs[(lo+hi)/2]:=by simp[Array.getD,hm]
   rw[eg]
   by_cases hc:xs[(lo+hi)/2]<j
   ·rw[if_pos hc]
    refine ih _ _ (by lia) h2 (by lia) (λi a q e =>?_) h5
    by_cases q2:i=(lo+hi)/2
    ·rw[q2,em] at e;cases e;exact hc
    ·exact Nat.lt_trans (R i _ _ _ e em (by lia)) hc
   ·rw[if_neg hc]
    refine ih _ _ (by lia) (by lia) (by lia) h4 (λi a q e =>?_)
    by_cases q2:i=(lo+hi)/2
    ·rw[q2,em] at e;cases e;lia
    ·have:=R _ i _ _ em e (by lia)
     lia
  ·rw[if_neg hl]
   refine ⟨by lia,λi a e=>⟨λq=>h4 i a q e,λq =>?_⟩⟩
   apply HN
   intro q2
   have:=h5 i a (by lia) e
   lia
theorem dZ {xs:Array Nat}(R:pY xs)(j:Nat):below xs j<=xs.size/\∀i a,xs[i]? = some a->(i<below xs j↔a<j) :=
 yl R j _ _ _ (EZ _) (D6 _) (by lia) (λi a h=>by lia) λi a h e=>by
  rw[Hh (by lia)] at e;cases e
theorem below_at {xs:Array Nat}(R:pY xs){i j:Nat}(h:xs[i]? = some j):below xs j=i:=by
 obtain ⟨h1,h2⟩:=dZ R j
 have hi:i<xs.size:=by
  apply HN;intro q;rw[Hh q] at h;cases h
 have a1:¬ i<below xs j:=λq=>by have:=(h2 i j h).mp q;lia
 apply IT (by lia)
 apply HL
 intro q
 have e:=EL (xs:=xs) (i:=below xs j) (by lia)
 have l1:=R _ _ _ _ e h q
 have:=(h2 _ _ e).mpr l1
 lia
theorem tH {xs:Array Nat}(R:pY xs){i j:Nat}(h:xs[i]? = some j):below xs (j+1)=i+1:=by
 obtain ⟨h1,h2⟩:=dZ R (j+1)
 have a1:i<below xs (j+1):=(h2 i j h).mpr (by lia)
 apply IT _ a1
 apply HL
 intro q
 have hk:i+1<xs.size:=by lia
 have e:=EL (xs:=xs) hk
 have l1:=R _ _ _ _ h e (by lia)
 have:=(h2 _ _ e).mp q
 lia
theorem tI {xs:Array Nat}(R:pY xs):below xs 0=0:=by
 obtain ⟨h1,h2⟩:=dZ R 0
 apply IT _ (EZ _)
 apply HL
 intro q
 have:=(h2 0 _ (EL (by lia))).mp q
 lia
theorem bU {α:Type}(xs:Array α)(p:Nat)(x:α):(insertAt xs p x).toList=xs.toList.take p++x :: xs.toList.drop p:=by
 unfold insertAt
 simp
 rw[Et (by simp)]
theorem cp {α:Type}(xs:Array α){p:Nat}(hp:p<=xs.size)(x:α)(i:Nat) :
  (insertAt xs p x)[i]? = if i<p then xs[i]? else if i=p then some x else xs[i-1]? := by
 rw[<- Em,bU]
 have hl:(xs.toList.take p).length=p:=by rw[Ff,D9];lia
 by_cases h1:i<p
 ·rw[if_pos h1,GR (by lia),GD,if_pos h1,Em]
 ·rw[if_neg h1,Gj (by lia),hl]
  by_cases h2:i=p
  ·rw[if_pos h2,h2,Nat.sub_self];rfl
  ·rw[if_neg h2]
   obtain ⟨d,hd⟩:∃d,i-p=d+1:=⟨i-p-1,by lia⟩
   rw[hd,G5,HS,Em]
   congr 1;lia
theorem cz {α:Type}(xs:Array α)(p:Nat)(x:α):(insertAt xs p x).size=xs.size+1:=by
 rw[<- D9,bU,D7,EI,Ff,FJ,D9]
 lia
theorem insertAt_perm {α:Type}(xs:Array α)(p:Nat)(x:α):(insertAt xs p x).toList.Perm (x :: xs.toList):=by
 rw[bU]
 exact KI.trans (by rw[Gz])
theorem fM {α β:Type}(xs:Array α)(p:Nat)(x:α)(f:α -> β):(insertAt xs p x).map f=insertAt (xs.map f) p (f x):=by
 apply Jo.mp
 rw[Js,bU,bU,Js,Ee,Ez,Me,JB]
theorem nG {xs:Array Nat}(R:pY xs){j:Nat}(hj:∀i:Nat,xs[i]? ≠ some j):pY (insertAt xs (below xs j) j):=by
 obtain ⟨h1,h2⟩:=dZ R j
 intro a b x y ea eb hab
 rw[cp _ h1] at ea eb
 by_cases a1:a<below xs j
 ·rw[if_pos a1] at ea
  have:=(h2 _ _ ea).mp a1
  by_cases b1:b<below xs j
  ·rw[if_pos b1] at eb;exact R _ _ _ _ ea eb hab
  ·rw[if_neg b1] at eb
   by_cases b2:b=below xs j
   ·rw[if_pos b2] at eb;cases eb;exact this
   ·rw[if_neg b2] at eb
    exact R _ _ _ _ ea eb (by lia)
 ·rw[if_neg a1] at ea
  rw[if_neg (by lia),if_neg (by lia)] at eb
  have l1:¬ y<j:=λq=>by have:=(h2 _ _ eb).mpr q;lia
  by_cases a2:a=below xs j
  ·rw[if_pos a2] at ea;cases ea
   have:y≠j:=λq=>hj _ (q ▸ eb)
   lia
  ·rw[if_neg a2] at ea
   exact R _ _ _ _ ea eb (by lia)
def occ (t:SetTable)(j:Nat):Prop:=∃i:Nat,t.place[i]? = some j
theorem jS {t:SetTable}(R:pY t.place){i j:Nat}(h:t.place[i]? = some j):t.slot j = .live i:=by
 unfold SetTable.slot
 dsimp only
 rw[below_at R h,h]
 simp
theorem tJ {t:SetTable}(D:t.dummies = #[]){j:Nat}(h:¬ occ t j):t.slot j = .empty:=by
 unfold SetTable.slot
 dsimp only
 have h1:(t.place[below t.place j]? == some j)=false:=by
  rw[beq_eq_false_iff_ne];exact λq=>h ⟨_,q⟩
 rw[h1,D]
 simp[has]
def adv (mask:Nat)(p:Probe):Probe :=
 if p.more>0 then { p with j:=p.j+1,more:=p.more-1 } else
 let (i,perturb):=leap mask p.i p.perturb
 { p with j:=i,more:=runEnd mask i-i,i,perturb }
def dz (mask i perturb:Nat):Probe:={ j:=i,more:=runEnd mask i-i,i,perturb,dummy:=none }
def start (mask:Nat)(h:Int):Probe:=dz mask (bits h%(mask+1)) (bits h)
inductive Way (oc:Nat->Prop)(mask:Nat):Nat->Probe->Probe->Prop
 | here (p:Probe):Way oc mask 0 p p
 | step {n:Nat} {p q:Probe}:oc p.j->Way oc mask n (adv mask p) q->Way oc mask (n+1) p q
theorem Way.mono {oc oc':Nat->Prop}{mask n:Nat}{p q:Probe}(m:∀j,oc j->oc' j)(h:Way oc mask n p q):Way oc' mask n p q:=by
 induction h with
 | here p=>exact .here p
 | step a _ ih=>exact .step (m _ a) ih
theorem Way.dummy {oc:Nat->Prop}{mask n:Nat}{p q:Probe}(h:Way oc mask n p q):q.dummy=p.dummy:=by
 induction h with
 | here p=>rfl
 | @step n p q _ _ ih =>
  rw[ih];unfold adv;split <;> rfl
theorem Cn {mask:Nat}{p:Probe}(h:p.j+p.more<=mask):(adv mask p).j+(adv mask p).more<=mask:=by
 unfold adv
 split
 ·dsimp only;lia
 ·dsimp only[leap]
  have:(p.i*5+1+p.perturb/32)%(mask+1)<mask+1:=Jh _ (II mask)
  unfold runEnd
  split <;> lia
theorem qP (mask:Nat)(h:Int):(start mask h).j+(start mask h).more<=mask:=by
 unfold start dz
 dsimp only
 have:bits h%(mask+1)<mask+1:=Jh _ (II mask)
 unfold runEnd
 split <;> lia
theorem Way.le {oc:Nat->Prop}{mask n:Nat}{p q:Probe}(h:Way oc mask n p q):p.j+p.more<=mask->q.j<=mask:=by
 induction h with
 | here p=>intro;lia
 | step _ _ ih=>intro h;exact ih (Cn h)
def pZ (mask:Nat):Nat->Probe->Probe
 | 0,p=>p
 | n+1,p=>pZ mask n (adv mask p)
theorem qQ (mask:Nat):∀(a b:Nat) (p:Probe),pZ mask (a+b) p=pZ mask b (pZ mask a p)
 | 0,b,p=>by rw[Hm];rfl
 | a+1,b,p=>by rw[show a+1+b=(a+b)+1 by lia];exact qQ mask a b (adv mask p)
theorem wB (oc:Nat->Prop)(mask:Nat):∀(n:Nat) (p:Probe),¬ oc (pZ mask n p).j->∃k q,k<=n/\Way oc mask k p q/\¬ oc q.j:=by
 intro n
 induction n with
 | zero=>intro p h;exact ⟨0,p,D6 _,.here p,h⟩
 | succ n ih =>
  intro p h
  by_cases hp:oc p.j
  ·obtain ⟨k,q,a,b,c⟩:=ih (adv mask p) h
   exact ⟨k+1,q,by lia,.step hp b,c⟩
  ·exact ⟨0,p,EZ _,.here p,hp⟩
theorem Aq (mask:Nat):∀(m:Nat) (p:Probe),p.more=m->p.dummy=none->pZ mask (m+1) p=dz mask (leap mask p.i p.perturb).1 (leap mask p.i p.perturb).2:=by
 intro m
 induction m with
 | zero =>
  intro p h d
  show adv mask p=_
  unfold adv
  rw[if_neg (by lia)]
  obtain ⟨j,mo,i,pe,dm⟩:=p
  cases d
  rfl
 | succ m ih =>
  intro p h d
  show pZ mask (m+1) (adv mask p)=_
  have e:adv mask p={ p with j:=p.j+1,more:=p.more-1 }:=by unfold adv;rw[if_pos (by lia)]
  rw[e]
  exact ih _ (by dsimp only;lia) d
def cM (mask:Nat):Nat->Nat×Nat->Nat×Nat
 | 0,x=>x
 | k+1,x=>cM mask k (leap mask x.1 x.2)
theorem oE (mask:Nat):∀(a b:Nat) (x:Nat×Nat),cM mask (a+b) x=cM mask b (cM mask a x)
 | 0,b,x=>by rw[Hm];rfl
 | a+1,b,x=>by rw[show a+1+b=(a+b)+1 by lia];exact oE mask a b _
theorem more_le (mask i:Nat):runEnd mask i-i<=9:=by unfold runEnd;split <;> lia
theorem tK (mask:Nat):∀(k i pe:Nat),∃n,n<=10*k/\pZ mask n (dz mask i pe)=dz mask (cM mask k (i,pe)).1 (cM mask k (i,pe)).2:=by
 intro k
 induction k with
 | zero=>intro i pe;exact ⟨0,by lia,rfl⟩
 | succ k ih =>
  intro i pe
  obtain ⟨n,h1,h2⟩:=ih (leap mask i pe).1 (leap mask i pe).2
  refine ⟨(runEnd mask i-i+1)+n,by have:=more_le mask i;lia,?_⟩
  rw[qQ,Aq mask (runEnd mask i-i) (dz mask i pe) rfl rfl]
  exact h2
theorem iy (mask:Nat):∀(k i pe:Nat),(cM mask k (i,pe)).2=pe/32 ^ k
 | 0,i,pe=>by simp[cM]
 | k+1,i,pe=>by
  show (cM mask k (leap mask i pe)).2=_
  rw[show leap mask i pe=((leap mask i pe).1,pe/32) from rfl,iy mask k,Nat.div_div_eq_div_mul,Nat.pow_succ,Nat.mul_comm 32]
theorem qR (mask:Nat):∀(k i pe:Nat),i<=mask->(cM mask k (i,pe)).1<=mask
 | 0,i,pe,h=>h
 | k+1,i,pe,h=>by
  show (cM mask k (leap mask i pe)).1<=mask
  rw[show leap mask i pe=((leap mask i pe).1,pe/32) from rfl]
  exact qR mask k _ _ (Ih (Jh _ (II mask)))
def ste (m i:Nat):Nat:=(i*5+1)%m
def its (m:Nat):Nat->Nat->Nat
 | 0,i=>i
 | n+1,i=>its m n (ste m i)
theorem k7 (m:Nat):∀(a b i:Nat),its m (a+b) i=its m b (its m a i)
 | 0,b,i=>by rw[Hm];rfl
 | a+1,b,i=>by rw[show a+1+b=(a+b)+1 by lia];exact k7 m a b _
def orb (m:Nat):Nat->Nat->List Nat
 | 0,_=>[]
 | n+1,i=>i :: orb m n (ste m i)
theorem p6 (m:Nat):∀(n i j:Nat),j∈orb m n i->∃r,r<n/\its m r i=j
 | 0,i,j,h=>by cases h
 | n+1,i,j,h=>by
  rcases EB.mp h with h | h
  ·exact ⟨0,by lia,h.symm⟩
  ·obtain ⟨r,a,b⟩:=p6 m n _ _ h
   exact ⟨r+1,by lia,b⟩
def whole (m:Nat):Bool:=((E2 m).all λj=>(orb m m 0).contains j) && (its m m 0 == 0)
theorem wC {m:Nat}(h:whole m=true){i j:Nat}(hi:i<m)(hj:j<m):∃r,r<m/\its m r i=j:=by
 unfold whole at h
 rw[EO,Gv,beq_iff_eq] at h
 obtain ⟨h1,h2⟩:=h
 obtain ⟨a,a1,a2⟩:=p6 m m 0 i (K8.mp (h1 i (Fv.mpr hi)))
 obtain ⟨b,b1,b2⟩:=p6 m m 0 j (K8.mp (h1 j (Fv.mpr hj)))
 by_cases hab:a<=b
 ·refine ⟨b-a,by lia,?_⟩
  rw[<- a2, <- k7,show a+(b-a)=b by lia]
  exact b2
 ·refine ⟨m+b-a,by lia,?_⟩
  rw[<- a2, <- k7,show a+(m+b-a)=m+b by lia,k7,h2]
  exact b2
theorem Co:whole 8=true:=by decide +kernel
theorem Ar:whole 32=true:=by decide +kernel
theorem yo:whole 128=true:=by decide +kernel
theorem yp:whole 512=true:=by decide +kernel
def Msk (mask:Nat):Prop:=mask=7\/mask=31\/mask=127\/mask=511
theorem Msk.whole {mask:Nat}(h:Msk mask):whole (mask+1)=true:=by
 rcases h with rfl | rfl | rfl | rfl
 ·exact Co
 ·exact Ar
 ·exact yo
 ·exact yp
theorem oF (mask:Nat):∀(r i:Nat),cM mask r (i,0)=(its (mask+1) r i,0)
 | 0,i=>rfl
 | r+1,i=>by
  show cM mask r (leap mask i 0)=_
  rw[show leap mask i 0=(ste (mask+1) i,0) from rfl,oF mask r];rfl
theorem As (h:Int):bits h<2 ^ 64:=by
 unfold bits
 have h1:=IW h (show (0:Int)<2 ^ 64 by decide)
 have h0:=JM h (show (2 ^ 64:Int)≠0 by decide)
 have:((2 ^ 64:Nat):Int)=2 ^ 64:=by decide
 lia
theorem l7 {mask:Nat}(hm:Msk mask){h:Int}{j:Nat}(hj:j<=mask):∃k,k<turns mask/\(cM mask k (bits h%(mask+1),bits h)).1=j:=by
 have p0:(cM mask 13 (bits h%(mask+1),bits h)).2=0:=by
  rw[iy]
  exact Nat.div_eq_of_lt (Er (As h) (by decide))
 have i0:=qR mask 13 (bits h%(mask+1)) (bits h) (Ih (Jh _ (II mask)))
 obtain ⟨r,r1,r2⟩:=wC hm.whole (i:=(cM mask 13 (bits h%(mask+1),bits h)).1) (j:=j) (by lia) (by lia)
 refine ⟨13+r,by unfold turns;lia,?_⟩
 rw[oE,show cM mask 13 (bits h%(mask+1),bits h)=((cM mask 13 (bits h%(mask+1),bits h)).1,0) from Ma rfl p0,oF]
 exact r2
theorem yq {mask:Nat}(hm:Msk mask)(oc:Nat->Prop)(h:Int){j:Nat}(hj:j<=mask)(he:¬ oc j):∃n q,n<10*turns mask/\Way oc mask n (start mask h) q/\¬ oc q.j/\q.j<=mask/\q.dummy=none:=by
 obtain ⟨k,k1,k2⟩:=l7 hm (h:=h) hj
 obtain ⟨n,n1,n2⟩:=tK mask k (bits h%(mask+1)) (bits h)
 obtain ⟨n',q,a,b,c⟩:=wB oc mask n (start mask h) (by
  show ¬ oc (pZ mask n (dz mask _ _)).j
  rw[n2]
  show ¬ oc (cM mask k (bits h%(mask+1),bits h)).1
  rw[k2]
  exact he)
 exact ⟨n',q,by lia,b,c,b.le (qP mask h),b.dummy⟩
theorem oG {mask n:Nat}(oc:Nat->Prop)(f:Nat->Nat)(hf:∀j,j<=mask->oc j->f j<n)(inj:∀i j,i<=mask->j<=mask->oc i->oc j->f i=f j->i=j)(hn:n<=mask):∃j,j<=mask/\¬ oc j:=by
 by_cases q:∃j,j<=mask/\¬ oc j
 ·exact q
 ·exfalso
  have all:∀j,j<=mask->oc j:=λj hj=>by
   by_cases o:oc j
   ·exact o
   ·exact absurd ⟨j,hj,o⟩ q
  have nd:((E2 (mask+1)).map f).Nodup:=by
   unfold List.Nodup
   rw[Fh]
   refine IJ (λ{a b} ha hb hab e=>hab (inj a b ?_ ?_ (all _ ?_) (all _ ?_) e)) (MM)
   all_goals (rw[Fv] at ha hb;lia)
  have:=Jm nd (l₂:=E2 n) (λx hx=>by
   obtain ⟨j,hj,e⟩:=EK.mp hx
   rw[Fv] at hj ⊢
   rw[<- e]
   exact hf j (by lia) (all j (by lia)))
  rw[DY,FZ,FZ] at this
  lia
structure Tab (t:SetTable)(hs:Array Int):Prop where
 dm:t.dummies = #[]
 rise:pY t.place
 size:t.place.size=hs.size
 le:∀i j:Nat,t.place[i]? = some j->j<=t.mask
 msk:Msk t.mask
 fit:hs.size<=t.mask
 reach:∀(i j:Nat) (h:Int),t.place[i]? = some j->hs[i]? = some h->∃n q,Way (occ t) t.mask n (start t.mask h) q/\q.j=j
theorem eY {α:Type}{xs:Array α}{i:Nat}{a:α}(h:xs[i]? = some a):i<xs.size:=by
 apply HN;intro q;rw[Hh q] at h;cases h
theorem Tab.fill {t:SetTable}{hs:Array Int}(T:Tab t hs):t.fill=hs.size:=by
 unfold SetTable.fill;rw[T.dm,T.size];rfl
theorem Tab.fits {t:SetTable}{hs:Array Int}(T:Tab t hs):t.fits hs.size=true:=by
 unfold SetTable.fits
 rw[T.fill,T.size]
 simp[T.fit]
theorem Tab.ends {t:SetTable}{hs:Array Int}(T:Tab t hs)(h:Int):∃n q,n<10*turns t.mask/\Way (occ t) t.mask n (start t.mask h) q/\¬ occ t q.j/\q.j<=t.mask/\q.dummy=none:=by
 obtain ⟨j,hj,he⟩:=oG (mask:=t.mask) (n:=hs.size) (occ t) (λj=>below t.place j)
  (λj _ ⟨i,e⟩=>by show below t.place j<hs.size;rw[below_at T.rise e, <- T.size];exact eY e)
  (λi j _ _ ⟨a,ea⟩ ⟨b,eb⟩ e=>by
   have e':below t.place i=below t.place j:=e
   rw[below_at T.rise ea,below_at T.rise eb] at e'
   subst e'
   exact E1 (ea.symm.trans eb)) T.fit
 exact yq T.msk (occ t) h hj he
theorem yr {t:SetTable}{hs:Array Int}(T:Tab t hs){H:Nat->Int}{h:Int}:∀(n:Nat) (p q:Probe) (fuel:Nat),Way (occ t) t.mask n p q->¬ occ t q.j->n<fuel->p.dummy=none →
  (SetTable.probe.go t H h fuel p=some (.empty q.j none)/\∀k r i,Way (occ t) t.mask k p r->t.place[i]? = some r.j->H i≠h) ∨
  (∃k r i,k<n/\Way (occ t) t.mask k p r/\t.place[i]? = some r.j/\H i=h/\SetTable.probe.go t H h fuel p=some (.candidate r.j i (adv t.mask r))/\Way (occ t) t.mask (n-k-1) (adv t.mask r) q/\(adv t.mask r).dummy=none
   /\ ∀k' r' i',k'<k->Way (occ t) t.mask k' p r'->t.place[i']? = some r'.j->H i'≠h):=by
 intro n
 induction n with
 | zero =>
  intro p q fuel W he hf hd
  cases W
  obtain ⟨fuel,rfl⟩:∃f,fuel=f+1:=⟨fuel-1,by lia⟩
  refine .inl ⟨?_,λk r i Wr er =>?_⟩
  ·unfold SetTable.probe.go
   rw[tJ T.dm he]
   dsimp only
   rw[hd]
  ·cases Wr with
   | here=>exact absurd ⟨i,er⟩ he
   | step a _=>exact absurd a he
 | succ n ih =>
  intro p q fuel W he hf hd
  obtain ⟨fuel,rfl⟩:∃f,fuel=f+1:=⟨fuel-1,by lia⟩
  cases W with
  | step a W =>
   obtain ⟨i,ei⟩:=a
   have hd':(adv t.mask p).dummy=none:=by rw[<- hd];unfold adv;split <;> rfl
   by_cases hh:H i=h
   ·refine .inr ⟨0,p,i,by lia,.here p,ei,hh,?_,W,hd',λk' r' i' hk=>by lia⟩
    unfold SetTable.probe.go
    rw[jS T.rise ei]
    dsimp only
    rw[if_pos (by rw[hh];exact beq_self_eq_true h)]
    rfl
   ·have e0:SetTable.probe.go t H h (fuel+1) p=SetTable.probe.go t H h fuel (adv t.mask p):=by
     conv=>lhs;unfold SetTable.probe.go
     rw[jS T.rise ei]
     dsimp only
     rw[if_neg (by rw[beq_iff_eq];exact hh)]
     rfl
    rcases ih (adv t.mask p) q fuel W he (by lia) hd' with ⟨r1,r2⟩ | ⟨k,r,i',k1,w1,e1,h1,g1,w2,d2,no⟩
    ·refine .inl ⟨e0.trans r1,λk r j Wr er =>?_⟩
     cases Wr with
     | here =>
      obtain rfl:i=j:=by
       have x:=below_at T.rise ei
       have y:=below_at T.rise er
       exact x.symm.trans y
      exact hh
     | step _ Wr=>exact r2 _ _ _ Wr er
    ·refine .inr ⟨k+1,r,i',by lia,.step ⟨i,ei⟩ w1,e1,h1,e0.trans g1,by rw[show n+1-(k+1)-1=n-k-1 by lia];exact w2,d2,λk' r' j hk Wr er =>?_⟩
     cases Wr with
     | here =>
      obtain rfl:i=j:=by
       have x:=below_at T.rise ei
       have y:=below_at T.rise er
       exact x.symm.trans y
      exact hh
     | step _ Wr=>exact no _ _ _ (by lia) Wr er
theorem qS {t:SetTable}{hs:Array Int}(T:Tab t hs){H:Nat->Int}{h:Int}{n:Nat}{p q:Probe}(W:Way (occ t) t.mask n p q)(he:¬ occ t q.j)(hn:n<10*turns t.mask)(hd:p.dummy=none) :
  (t.probe H h p=some (.empty q.j none)/\∀k r i,Way (occ t) t.mask k p r->t.place[i]? = some r.j->H i≠h) ∨
  (∃k r i,k<n/\Way (occ t) t.mask k p r/\t.place[i]? = some r.j/\H i=h/\t.probe H h p=some (.candidate r.j i (adv t.mask r))/\Way (occ t) t.mask (n-k-1) (adv t.mask r) q/\(adv t.mask r).dummy=none
   /\ ∀k' r' i',k'<k->Way (occ t) t.mask k' p r'->t.place[i']? = some r'.j->H i'≠h) :=
 yr T n p q _ W he hn hd
theorem Tab.yt {t:SetTable}{hs:Array Int}(T:Tab t hs)(j:Nat):t.put j=({ t with place:=insertAt t.place (below t.place j) j },below t.place j):=by
 unfold SetTable.put
 dsimp only
 have:has t.dummies j=false:=by rw[T.dm];simp[has]
 rw[this]
 rfl
theorem Tab.put {t:SetTable}{hs:Array Int}(T:Tab t hs){h:Int}{n:Nat}{q:Probe}(W:Way (occ t) t.mask n (start t.mask h) q)(he:¬ occ t q.j)(hq:q.j<=t.mask)(hf:hs.size+1<=t.mask) :
  Tab { t with place:=insertAt t.place (below t.place q.j) q.j } (insertAt hs (below t.place q.j) h):=by
 have hp:=(dZ T.rise q.j).1
 have hp':below t.place q.j<=hs.size:=by rw[<- T.size];exact hp
 have up:∀j,occ t j->occ { t with place:=insertAt t.place (below t.place q.j) q.j } j:=by
  rintro j ⟨i,e⟩
  by_cases l:i<below t.place q.j
  ·exact ⟨i,by show (insertAt _ _ _)[i]? = _;rw[cp _ hp,if_pos l];exact e⟩
  ·exact ⟨i+1,by show (insertAt _ _ _)[i+1]? = _;rw[cp _ hp,if_neg (by lia),if_neg (by lia)];exact e⟩
 refine ⟨T.dm,nG T.rise λi e=>he ⟨i,e⟩,?_,λi j e =>?_,T.msk,by rw[cz];exact hf,λi j h' e eh =>?_⟩
 ·show (insertAt _ _ _).size=_
  rw[cz,cz,T.size]
 ·have e':(insertAt t.place (below t.place q.j) q.j)[i]? = some j:=e
  rw[cp _ hp] at e'
  split at e'
  ·exact T.le _ _ e'
  ·split at e'
   ·cases e';exact hq
   ·exact T.le _ _ e'
 ·have e':(insertAt t.place (below t.place q.j) q.j)[i]? = some j:=e
  rw[cp _ hp] at e'
  rw[cp _ hp'] at eh
  by_cases l1:i<below t.place q.j
  ·rw[if_pos l1] at e' eh
   obtain ⟨n',q',w,eq⟩:=T.reach _ _ _ e' eh
   exact ⟨n',q',w.mono up,eq⟩
  ·rw[if_neg l1] at e' eh
   by_cases l2:i=below t.place q.j
   ·rw[if_pos l2] at e' eh
    cases e';cases eh
    exact ⟨n,q,W.mono up,rfl⟩
   ·rw[if_neg l2] at e' eh
    obtain ⟨n',q',w,eq⟩:=T.reach _ _ _ e' eh
    exact ⟨n',q',w.mono up,eq⟩
def ocw (owner:Array (Option Nat))(j:Nat):Prop:=∃k,owner[j]? = some (some k)
theorem Way.trans {oc:Nat->Prop}{mask n m:Nat}{p q r:Probe}(h:Way oc mask n p q)(h2:Way oc mask m q r):∃k,Way oc mask k p r:=by
 induction h with
 | here=>exact ⟨m,h2⟩
 | step a _ ih=>obtain ⟨k,w⟩:=ih h2;exact ⟨k+1,.step a w⟩
theorem p7 (oc:Nat->Prop)(mask:Nat):∀(k:Nat) (p:Probe),k<=p.more->(∀k',k'<k->oc (p.j+k'))->Way oc mask k p { p with j:=p.j+k,more:=p.more-k }
 | 0,p,_,_ =>.here p
 | k+1,p,h,ho=>by
  have e:adv mask p={ p with j:=p.j+1,more:=p.more-1 }:=by unfold adv;rw[if_pos (by lia)]
  refine .step (ho 0 (by lia)) ?_
  rw[e]
  have:=p7 oc mask k { p with j:=p.j+1,more:=p.more-1 } (by dsimp only;lia) λk' hk=>by
   have:=ho (k'+1) (by lia)
   rw[show p.j+(k'+1)=p.j+1+k' by lia] at this
   exact this
  dsimp only at this
  rw[show p.j+1+k=p.j+(k+1) by lia,show p.more-1-k=p.more-(k+1) by lia] at this
  exact this
theorem gG {owner:Array (Option Nat)}{mask j:Nat}(hs:owner.size=mask+1)(hj:j<=mask):(owner.getD j (some 0)).isNone=true↔¬ ocw owner j:=by
 have hl:j<owner.size:=by lia
 have e:owner[j]? = some owner[j]:=EL hl
 rw[show owner.getD j (some 0)=owner[j] by simp[Array.getD,hl]]
 unfold ocw
 rw[e]
 cases owner[j] with
 | none=>simp
 | some k=>simp
theorem oH {mask i:Nat}(h:i<=mask):runEnd mask i<=mask/\i<=runEnd mask i:=by
 unfold runEnd;split <;> lia
theorem wD {mask:Nat}{owner:Array (Option Nat)}(hs:owner.size=mask+1):∀(fuel i pe j:Nat),i<=mask->SetTable.layClean.free mask owner fuel i pe=some j →
  ¬ ocw owner j/\∃n q,Way (ocw owner) mask n (dz mask i pe) q/\q.j=j:=by
 intro fuel
 induction fuel with
 | zero=>intro i pe j hi h;unfold SetTable.layClean.free at h;cases h
 | succ fuel ih =>
  intro i pe j hi h
  unfold SetTable.layClean.free at h
  obtain ⟨r1,r2⟩:=oH hi
  have no:∀k,k<runEnd mask i+1-i->((owner.getD (i+k) (some 0)).isNone=false)->ocw owner (i+k):=λk hk e=>by
   by_cases o:ocw owner (i+k)
   ·exact o
   ·rw[(gG hs (by lia)).mpr o] at e;cases e
  cases hf:(E2 (runEnd mask i+1-i)).find? λk=>(owner.getD (i+k) (some 0)).isNone with
  | some k =>
   rw[hf] at h
   dsimp only at h
   cases h
   rw[List.find?_range_eq_some] at hf
   obtain ⟨f1,f2,f3⟩:=hf
   rw[Fv] at f2
   refine ⟨(gG hs (by lia)).mp f1,k,_,p7 (ocw owner) mask k (dz mask i pe) (by show k<=runEnd mask i-i;lia) λk' hk =>?_,rfl⟩
   refine no k' (by lia) ?_
   have:=f3 k' hk
   simpa using this
  | none =>
   rw[hf] at h
   dsimp only at h
   rw[Kl] at hf
   have all:∀k,k<runEnd mask i+1-i->ocw owner (i+k):=λk hk=>no k hk (by simpa using hf k hk)
   obtain ⟨g1,n,q,w,eq⟩:=ih _ _ _ (Ih (Jh _ (II mask))) h
   refine ⟨g1,?_⟩
   have w0:=p7 (ocw owner) mask (runEnd mask i-i) (dz mask i pe) (D6 _) λk' hk=>all k' (by lia)
   have w1:Way (ocw owner) mask (n+1) { (dz mask i pe) with j:=(dz mask i pe).j+(runEnd mask i-i),more:=(dz mask i pe).more-(runEnd mask i-i) } q:=by
    refine .step (all (runEnd mask i-i) (by lia)) ?_
    have e:adv mask { (dz mask i pe) with j:=(dz mask i pe).j+(runEnd mask i-i),more:=(dz mask i pe).more-(runEnd mask i-i) }=dz mask (leap mask i pe).1 (leap mask i pe).2:=by
     unfold adv
     rw[if_neg (by show ¬ (runEnd mask i-i-(runEnd mask i-i))>0;lia)]
     rfl
    rw[e]
    exact w
   obtain ⟨k,w2⟩:=w0.trans w1
   exact ⟨k,q,w2,eq⟩
theorem wF {mask:Nat}{owner:Array (Option Nat)}(hs:owner.size=mask+1):∀(fuel i pe k:Nat),i<=mask->k<fuel->¬ ocw owner (cM mask k (i,pe)).1->∃j,SetTable.layClean.free mask owner fuel i pe=some j:=by
 intro fuel
 induction fuel with
 | zero=>intro i pe k _ h;lia
 | succ fuel ih =>
  intro i pe k hi hk he
  unfold SetTable.layClean.free
  obtain ⟨r1,r2⟩:=oH hi
  cases hf:(E2 (runEnd mask i+1-i)).find? λk=>(owner.getD (i+k) (some 0)).isNone with
  | some k=>exact ⟨_,rfl⟩
  | none =>
   dsimp only
   rw[Kl] at hf
   cases k with
   | zero =>
    have h0:=hf 0 (by lia)
    have:(owner.getD (i+0) (some 0)).isNone=true:=(gG hs (by lia)).mpr he
    rw[this] at h0
    cases h0
   | succ k=>exact ih _ _ k (Ih (Jh _ (II mask))) (by lia) he
structure Own (mask:Nat)(owner:Array (Option Nat))(hs:List Int):Prop where
 size:owner.size=mask+1
 cov:∀(k:Nat) (h:Int),hs[k]? = some h->∃j n q,owner[j]? = some (some k)/\Way (ocw owner) mask n (start mask h) q/\q.j=j
 bnd:∀j k:Nat,owner[j]? = some (some k)->k<hs.length
 inj:∀i j k:Nat,owner[i]? = some (some k)->owner[j]? = some (some k)->i=j
theorem Own.step {mask:Nat}(hm:Msk mask){owner:Array (Option Nat)}{hs:List Int}(O:Own mask owner hs)(h:Int)(hl:hs.length<=mask) :
  ∃j,SetTable.layClean.free mask owner (turns mask) (bits h%(mask+1)) (bits h)=some j/\Own mask (owner.setIfInBounds j (some hs.length)) (hs++[h]):=by
 obtain ⟨e,he,hne⟩:=oG (mask:=mask) (n:=hs.length) (ocw owner) (λj=>(owner.getD j none).getD 0)
  (λj _ ⟨k,ek⟩=>by
   have:=eY ek
   show (owner.getD j none).getD 0<_
   rw[show owner.getD j none=some k by rw[GF,ek];rfl]
   exact O.bnd j k ek)
  (λi j _ _ ⟨a,ea⟩ ⟨b,eb⟩ q=>by
   have q':(owner.getD i none).getD 0=(owner.getD j none).getD 0:=q
   rw[show owner.getD i none=some a by rw[GF,ea];rfl,show owner.getD j none=some b by rw[GF,eb];rfl] at q'
   have q'':a=b:=q'
   subst q''
   exact O.inj i j a ea eb) hl
 have i0:bits h%(mask+1)<=mask:=Ih (Jh _ (II mask))
 obtain ⟨k,k1,k2⟩:=l7 hm (h:=h) he
 obtain ⟨j,hj⟩:=wF O.size (turns mask) _ _ k i0 k1 (by rw[k2];exact hne)
 obtain ⟨hno,n,q,w,eq⟩:=wD O.size _ _ _ _ i0 hj
 have hjm:j<=mask:=by rw[<- eq];exact w.le (qP mask h)
 have hjs:j<owner.size:=by rw[O.size];lia
 have ej:owner[j]? = some none:=by
  rw[EL hjs]
  cases ho:owner[j] with
  | none=>rfl
  | some k=>exact absurd ⟨k,by rw[EL hjs,ho]⟩ hno
 have get:∀i:Nat,(owner.setIfInBounds j (some hs.length))[i]? = if i=j then some (some hs.length) else owner[i]? := λi=>by
  rw[Array.getElem?_setIfInBounds]
  by_cases q:j=i
  ·rw[if_pos q,if_pos q.symm,if_pos hjs]
  ·rw[if_neg q,if_neg (F8 q)]
 have up:∀i,ocw owner i->ocw (owner.setIfInBounds j (some hs.length)) i:=by
  rintro i ⟨k,ek⟩
  refine ⟨k,?_⟩
  rw[get,if_neg (λq=>by rw[q,ej] at ek;cases ek)]
  exact ek
 refine ⟨j,hj,by rw[Kj];exact O.size,λk h' eh =>?_,λi k ek =>?_,λi i' k ei ei' =>?_⟩
 ·by_cases lk:k<hs.length
  ·rw[GR lk] at eh
   obtain ⟨j',n',q',a,b,c⟩:=O.cov k h' eh
   refine ⟨j',n',q',?_,b.mono up,c⟩
   rw[get,if_neg (λq=>by rw[q,ej] at a;cases a)]
   exact a
  ·rw[Gj (by lia)] at eh
   have:k-hs.length=0:=by
    cases hk:k-hs.length with
    | zero=>rfl
    | succ m=>rw[hk] at eh;cases eh
   rw[this] at eh
   cases eh
   obtain rfl:k=hs.length:=by lia
   exact ⟨j,n,q,by rw[get,if_pos rfl],w.mono up,eq⟩
 ·rw[D7,ED]
  rw[get] at ek
  split at ek
  ·cases ek;lia
  ·have:=O.bnd _ _ ek;lia
 ·rw[get] at ei ei'
  by_cases q1:i=j
  ·by_cases q2:i'=j
   ·rw[q1,q2]
   ·rw[if_pos q1] at ei;rw[if_neg q2] at ei'
    cases ei
    have:=O.bnd _ _ ei';lia
  ·rw[if_neg q1] at ei
   by_cases q2:i'=j
   ·rw[if_pos q2] at ei'
    cases ei'
    have:=O.bnd _ _ ei;lia
   ·rw[if_neg q2] at ei'
    exact O.inj _ _ _ ei ei'
theorem qT {mask:Nat}(hm:Msk mask):∀(l:List Int) (owner:Array (Option Nat)) (hs:List Int),Own mask owner hs->hs.length+l.length<=mask+1 →
    ∃owner',l.foldl (λacc h=>do
      let (owner,k) ← acc
      let j ← SetTable.layClean.free mask owner (turns mask) (bits h%(mask+1)) (bits h)
      pure (owner.setIfInBounds j (some k),k+1)) (some (owner,hs.length))=some (owner',hs.length+l.length)/\Own mask owner' (hs++l)
  | [],owner,hs,O,_=>⟨owner,rfl,by rw[EN];exact O⟩
  | h :: l,owner,hs,O,hl=>by
    rw[EI] at hl
    obtain ⟨j,hj,O'⟩:=O.step hm h (by lia)
    obtain ⟨owner',e,O''⟩:=qT hm l _ _ O' (by rw[D7,ED];lia)
    refine ⟨owner',?_,by rw[EV] at O'';exact O''⟩
    rw[K4]
    have:(do
      let (owner,k) ← some (owner,hs.length)
      let j ← SetTable.layClean.free mask owner (turns mask) (bits h%(mask+1)) (bits h)
      pure (owner.setIfInBounds j (some k),k+1):Option (Array (Option Nat)×Nat))=some (owner.setIfInBounds j (some hs.length),(hs++[h]).length):=by
      show (SetTable.layClean.free mask owner (turns mask) (bits h%(mask+1)) (bits h)).bind _=_
      rw[hj,D7]
      rfl
    rw[this,e]
    rw[D7,ED,EI]
    congr 2
    lia
theorem qU {mask:Nat}(hm:Msk mask)(hs:Array Int)(hl:hs.size<=mask+1):∃owner,SetTable.layClean mask hs=some owner/\Own mask owner hs.toList:=by
  have O0:Own mask (Array.replicate (mask+1) none) []:=by
    refine ⟨by simp,λk h e=>by simp at e,λj k e =>?_,λi j k e =>?_⟩
    · rw[Km] at e;split at e <;> cases e
    · rw[Km] at e;split at e <;> cases e
  obtain ⟨owner,e,O⟩:=qT hm hs.toList _ [] O0 (by rw[IV,D9];lia)
  refine ⟨owner,?_,by rw[HW] at O;exact O⟩
  unfold SetTable.layClean
  rw[<- Array.foldl_toList]
  have e':hs.toList.foldl (λacc h=>do
      let (owner,k) ← acc
      let j ← SetTable.layClean.free mask owner (turns mask) (bits h%(mask+1)) (bits h)
      pure (owner.setIfInBounds j (some k),k+1)) (some (Array.replicate (mask+1) none,0))=some (owner,0+hs.toList.length):=e
  rw[e']
  rfl
theorem filterMap_get {α β:Type}{f:α -> Option β}:∀(l:List α),(∀x∈l,(f x).isSome=true)->∀i:Nat,(l.filterMap f)[i]? = l[i]?.bind f
 | [],_,i=>by simp
 | x :: l,h,i=>by
  obtain ⟨y,hy⟩:=IG.mp (h x D8)
  rw[List.filterMap_cons_some hy]
  cases i with
  | zero=>simp[hy]
  | succ i =>
   rw[G5,G5]
   exact filterMap_get l (λz hz=>h z (Eg _ hz)) i
theorem Au {mask:Nat}(hm:Msk mask)(finger moves:Nat)(led plain:Bool)(es:Array (Int×D1))(hl:es.size<=mask) :
  ∃t order,SetTable.laid mask finger moves led plain (es.map (·.1))=some (t,order)/\order.toList.Perm (E2 es.size)/\Tab t ((order.filterMap (es[·]?)).map (·.1))/\(order.filterMap (es[·]?)).toList.Perm es.toList/\t.led=led/\t.plain=plain/\t.mask=mask:=by
 obtain ⟨owner,e,O⟩:=qU hm (es.map (·.1)) (by rw[Fm];lia)
 refine ⟨_,_,by unfold SetTable.laid;rw[e];rfl,?_⟩
 generalize hlive:((E2 (mask+1)).filterMap λj=>(owner.getD j none).map (j, ·))=live
 have mem:∀j k,(j,k)∈live↔owner[j]? = some (some k):=λj k=>by
  rw[<- hlive,IL]
  constructor
  ·rintro ⟨a,ha,ea⟩
   rw[GF] at ea
   cases ho:owner[a]? with
   | none=>rw[ho] at ea;cases ea
   | some x =>
    rw[ho] at ea
    cases x with
    | none=>cases ea
    | some k'=>cases ea;exact ho
  ·intro ho
   refine ⟨j,?_,?_⟩
   ·rw[Fv, <- O.size];exact eY ho
   ·rw[GF,ho];rfl
 have pw:live.Pairwise (λa b=>a.1<b.1):=by
  rw[<- hlive,List.pairwise_filterMap]
  refine Nq (λ{a b} hab x hx y hy =>?_) KW
  have hx':x.1=a:=by cases ho:owner.getD a none with
   | none=>rw[ho] at hx;cases hx
   | some k=>rw[ho] at hx;cases hx;rfl
  have hy':y.1=b:=by cases ho:owner.getD b none with
   | none=>rw[ho] at hy;cases hy
   | some k=>rw[ho] at hy;cases hy;rfl
  rw[hx',hy'];exact hab
 have nd:(live.map (·.2)).Nodup:=by
  unfold List.Nodup
  rw[Fh]
  refine IJ (λ{a b} ha hb hab q =>?_) pw
  have:=O.inj a.1 b.1 a.2 ((mem _ _).mp ha) (by rw[q];exact (mem _ _).mp hb)
  lia
 have hlen:(es.map (·.1)).toList.length=es.size:=by rw[D9,Fm]
 have perm:(live.map (·.2)).Perm (E2 es.size):=by
  rw[Il nd MM]
  intro k
  rw[Fv,EK]
  constructor
  ·rintro ⟨⟨j,k'⟩,hm',rfl⟩
   have:=O.bnd _ _ ((mem _ _).mp hm')
   rw[hlen] at this
   exact this
  ·intro hk
   obtain ⟨j,_,_,ej,_⟩:=O.cov k _ (Ec (by rw[hlen];exact hk))
   exact ⟨(j,k),(mem _ _).mpr ej,rfl⟩
 have all:∀x∈live.map (·.2),(es[x]?).isSome=true:=λx hx=>by
  have:=(perm.mem_iff).mp hx
  rw[Fv] at this
  rw[EL this];rfl
 have tl:(live.map (·.2)).toArray.toList=live.map (·.2):=rfl
 have ll:live.length=es.size:=by have:=perm.length_eq;rw[DY,FZ] at this;exact this
 have fm:((live.map (·.2)).toArray.filterMap (es[·]?)).toList=(live.map (·.2)).filterMap (es[·]?):=by simp
 have fl:((live.map (·.2)).filterMap (es[·]?)).Perm es.toList:=by
  have p1:=perm.filterMap (es[·]?)
  have:(E2 es.size).filterMap (es[·]?)=es.toList:=by
   apply Kk
   intro i
   rw[filterMap_get _ (λx hx=>by rw[Fv] at hx;rw[EL hx];rfl)]
   by_cases hi:i<es.size
   ·rw[JN hi,Em];rfl
   ·rw[HY (by rw[FZ];lia),HY (by rw[D9];lia)];rfl
  rw[this] at p1
  exact p1
 refine ⟨perm,?_,by rw[fm];exact fl,rfl,rfl,rfl⟩
 have sz:(((live.map (·.2)).toArray.filterMap (es[·]?)).map (·.1)).size=es.size:=by
  rw[Fm, <- D9,fm,fl.length_eq,D9]
 have occ_of:∀j,ocw owner j->occ { mask:=mask,place:=(live.map (·.1)).toArray,dummies := #[],finger:=finger,led:=led,moves:=moves,plain:=plain } j:=by
  rintro j ⟨k,ek⟩
  obtain ⟨i,hi,ei⟩:=Hb ((mem j k).mpr ek)
  refine ⟨i,?_⟩
  show (live.map (·.1)).toArray[i]? = some j
  rw[Fd,En,Ec hi,ei]
  rfl
 refine ⟨rfl,λi j a b ea eb hij =>?_,?_,λi j ej =>?_,hm,by rw[sz];exact hl,λi j h ej eh =>?_⟩
 ·have ea':(live.map (·.1)).toArray[i]? = some a:=ea
  have eb':(live.map (·.1)).toArray[j]? = some b:=eb
  rw[Fd] at ea' eb'
  have pw':(live.map (·.1)).Pairwise (· < ·):=by rw[Fh];exact pw
  obtain ⟨hi,xi⟩:=Ea.mp ea'
  obtain ⟨hj,xj⟩:=Ea.mp eb'
  rw[<- xi, <- xj]
  exact Gs.mp pw' i j hi hj hij
 ·show (live.map (·.1)).toArray.size=_
  rw[sz,D4,DY,ll]
 ·have ej':(live.map (·.1)).toArray[i]? = some j:=ej
  rw[Fd,En] at ej'
  cases hx:live[i]? with
  | none=>rw[hx] at ej';cases ej'
  | some x =>
   rw[hx] at ej'
   cases ej'
   have:=eY ((mem x.1 x.2).mp (Eb hx))
   show x.1<=mask
   rw[O.size] at this
   lia
 ·have ej':(live.map (·.1)).toArray[i]? = some j:=ej
  rw[Fd,En] at ej'
  cases hx:live[i]? with
  | none=>rw[hx] at ej';cases ej'
  | some x =>
   rw[hx] at ej'
   cases ej'
   have ho:=(mem x.1 x.2).mp (Eb hx)
   have hk:=O.bnd _ _ ho
   rw[Mf, <- Em,fm,filterMap_get _ all,En,hx] at eh
   have eh':(es[x.2]?).map (·.1)=some h:=eh
   obtain ⟨j',n,q,a,b,c⟩:=O.cov x.2 h (by rw[Js,En,Em];exact eh')
   obtain rfl:=O.inj _ _ _ ho a
   exact ⟨n,q,b.mono occ_of,c⟩
open PySem PySem.SetTable PyProof.Rows
section
variable  {prog:Eo}{w:ES}{A:Fi}{E:D1->D5->Prop}{s:D5}
abbrev TK (prog:Eo)(w:ES):=IsTupleKey (prog:=prog) (w:=w) (intKind prog w)
def cB (prog:Eo)(w:ES)(ks:List Int):Int:=tupleKeyHash (intKind prog w) ks
def aR (es:Array (Int×D1))(ep:Nat)(t:SetTable):Obj:={ cls :=.type "set",dict:=none,data :=.set es ep t }
def ElT (prog:Eo)(w:ES)(h:Heap)(e:Int×D1)(ks:List Int):Prop:=∃b,e=(cB prog w ks,.ref b)/\TK prog w h ks b
theorem p9 (d:Nat){v:D1}(h:carriedByValue v=true):ofAClassStatement d v=pure false:=by
 cases v with
 | ref a=>simp[carriedByValue] at h
 | _=>cases d <;> rfl
theorem jk {ks:List Int}{b:Addr}{Q:Bool->D5->Prop}(hk:TK prog w s.heap ks b)(h:Q false s):Es (EF prog w) A (ofAClassStatement 8 (.ref b)) Q E s:=by
 have hT:=hk.typeIs
 obtain ⟨o,items,n,ho,_,hd,hi⟩:=hk
 unfold ofAClassStatement
 refine DX (GX hT ?_)
 dsimp only
 rw[if_pos (by decide)]
 refine DX (D3 ?_)
 simp only[F3,Ex,if_false]
 refine DX (FG ho hd ?_)
 dsimp only
 refine DX ?_
 rw[<- J6]
 refine KQ _ (λrest r s'=>r.1=none/\s'=s/\∀v∈rest,carriedByValue v=true) _ ?_ ?_ _ _ ⟨rfl,rfl,hi.byValue⟩
 ·rintro v rest r s' ⟨hr,rfl,hall⟩
  rw[p9 _ (hall v D8)]
  refine DX (D3 ?_)
  simp only[Ex,if_false]
  exact D3 ⟨rfl,rfl,λu hu'=>hall u (Eg _ hu')⟩
 ·rintro ⟨r1,r2⟩ s' ⟨hr,rfl,_⟩
  simp only at hr
  subst hr
  exact D3 h
theorem Cp {ks:List Int}{b:Addr}{vs:List D1}{Q:Bool->D5->Prop}(hk:TK prog w s.heap ks b)(hv:∀v∈vs,∃ks' b',v = .ref b'/\TK prog w s.heap ks' b')(h:Q false s) :
  Es (EF prog w) A (searchCouldBeSeen (.ref b) vs) Q E s:=by
 unfold searchCouldBeSeen
 refine DX ?_
 refine KQ _ (λrest r s'=>r.1=none/\s'=s/\∀v∈rest,∃ks' b',v = .ref b'/\TK prog w s.heap ks' b') _ ?_ ?_ _ _ ⟨rfl,rfl,hv⟩
 ·rintro v rest r s' ⟨hr,rfl,hall⟩
  obtain ⟨ks',b',rfl,hk'⟩:=hall v D8
  have go:∀u∈rest,∃ks' b',u = .ref b'/\TK prog w s'.heap ks' b':=λu hu'=>hall u (Eg _ hu')
  dsimp only
  split
  ·exact D3 ⟨rfl,rfl,go⟩
  ·refine DX (Ll hk ?_)
   simp only[F3,Ex,if_false]
   refine DX (Ll hk' ?_)
   simp only[F3,Ex,if_false]
   refine DX (jk hk ?_)
   simp only[Ex,if_false]
   refine DX (jk hk' ?_)
   simp only[Ex,if_false]
   exact D3 ⟨rfl,rfl,go⟩
 ·rintro ⟨r1,r2⟩ s' ⟨hr,rfl,_⟩
  simp only at hr
  subst hr
  exact D3 h
theorem Av {m:Nat}(h:Msk m):(m%2 == 0)=false:=by rcases h with rfl | rfl | rfl | rfl <;> rfl
theorem bM {a:Addr}{es:Array (Int×D1)}{ep:Nat}{t:SetTable}{Q:(Array (Int×D1)×Nat×SetTable)->D5->Prop}(ho:s.heap.get? a=some (aR es ep t))(T:Tab t (es.map (·.1)))(h:Q (es,ep,t) s) :
  Es (EF prog w) A (setState a) Q E s:=wpAny_setState_of ho rfl (by have:=T.fits;rwa [Fm] at this) h
theorem tL (es:Array (Int×D1))(i:Nat)(e:Int×D1)(h:es[i]? = some e):(es.map (·.1))[i]? = some e.1:=by rw[Mf,h];rfl
theorem Way.split {oc:Nat->Prop}{mask k:Nat}{p r:Probe}(h:Way oc mask k p r):∀{k':Nat} {r':Probe},Way oc mask k' p r'->k<=k'->Way oc mask (k'-k) r r':=by
 induction h with
 | here p=>intro k' r' h2 _;exact h2
 | @step n p q a _ ih =>
  intro k' r' h2 l
  cases h2 with
  | here=>lia
  | @step m _ _ _ h2=>rw[show m+1-(n+1)=m-n by lia];exact ih h2 (by lia)
theorem tM {a b:Addr}{es:Array (Int×D1)}{ep:Nat}{t:SetTable}{ks:List Int}{Q:SetFound->D5->Prop}(hu:A.units<cLine)(ho:s.heap.get? a=some (aR es ep t))(T:Tab t (es.map (·.1)))
    (els:∀e∈es,∃ks',ElT prog w s.heap e ks') (hk:TK prog w s.heap ks b) {q:Probe} (he:¬ occ t q.j) :
    ∀(fuel n:Nat) (st:Option Probe) (p:Probe),st.getD (start t.mask (cB prog w ks))=p->Way (occ t) t.mask n p q->n<fuel->n<10*turns t.mask->p.dummy=none →
      ((∃(k:Nat) (r:Probe) (i:Nat) (e:Int×D1),Way (occ t) t.mask k p r/\t.place[i]? = some r.j/\es[i]? = some e/\ElT prog w s.heap e ks)->Q (.there none) s) →
      ((¬ ∃(k:Nat) (r:Probe) (i:Nat) (e:Int×D1),Way (occ t) t.mask k p r/\t.place[i]? = some r.j/\es[i]? = some e/\ElT prog w s.heap e ks)->Q (.free q.j false) s) →
      Es (EF prog w) A (setSearchFrom a (.ref b) (cB prog w ks) true fuel st) Q E s:=by
  intro fuel
  induction fuel with
  | zero=>intro n st p _ _ h;omega
  | succ fuel ih =>
    intro n st p hst W hn hn2 hd hit mis
    unfold setSearchFrom
    refine DX (bM ho T ?_)
    dsimp only
    rw[show t.gaveWay=false from Av T.msk]
    simp only[Ex,if_false]
    rw[show st.getD (t.probeStart (cB prog w ks))=p from hst]
    rcases qS T (H:=λi=>(es[i]?.map (·.1)).getD 0) (h:=cB prog w ks) W he hn2 hd with ⟨g,no⟩ | ⟨k,r,i,k1,w1,e1,h1,g,w2,d2,no⟩
    · erw [g]
      dsimp only
      refine D3 (mis ?_)
      rintro ⟨k,r,i,e,wr,er,ee,eb,rfl,_⟩
      refine no k r i wr er ?_
      show (es[i]?.map (·.1)).getD 0=_
      rw[ee]
      rfl
    · erw [g]
      dsimp only
      have hi:i<es.size:=by have:=eY e1;rw[T.size,Fm] at this;exact this
      have ee:es[i]? = some es[i]:=EL hi
      obtain ⟨ks',b',eq,hk'⟩:=els es[i] (Array.getElem_mem hi)
      rw[eq] at ee
      have hh:cB prog w ks'=cB prog w ks:=by
        have h1':(es[i]?.map (·.1)).getD 0=cB prog w ks:=h1
        rw[ee] at h1'
        exact h1'
      have tail:Es (EF prog w) A (do
          let equal ← Jv [Eu b'] (eqBool (.ref b') (.ref b))
          let (es',_,t') ← setState a
          if (true && equal)=true then return .there none
          let some same:=t'.sameMemory t.moves t.mask | unsupported "set.changed-during-lookup:is-the-new-block-at-the-old-address"
          let still ← match (if same then t'.slot r.j else .empty) with
            | .live i'=>match es'[i']? with
              | some (_,y')=>do pure (if ← isSame y' (.ref b') then some i' else none)
              | none=>pure none
            | _=>pure none
          match still with
          | none=>rule "set.search.anew";setSearchFrom a (.ref b) (cB prog w ks) true fuel none
          | some i'=>if equal then return .there (some i') else setSearchFrom a (.ref b) (cB prog w ks) true fuel (some (adv t.mask r))) Q E s:=by
        refine DX (Fe (wpAny_eqBool_tuple hu hk' hk ?_))
        refine DX (bM ho T ?_)
        dsimp only
        by_cases hks:ks'=ks
        · subst hks
          rw[decide_eq_true rfl]
          simp only[Bool.and_self,if_true]
          exact D3 (hit ⟨k,r,i,_,w1,e1,ee,b',rfl,hk'⟩)
        · rw[decide_eq_false hks]
          simp only[Kg,Ex,if_false]
          rw[show t.sameMemory t.moves t.mask=some true by unfold SetTable.sameMemory;simp]
          dsimp only
          simp only[if_true]
          rw[jS T.rise e1]
          dsimp only
          rw[ee]
          dsimp only
          refine DX (wpAny_isSame_ref_self (DX (D3 ?_)))
          simp only[if_true]
          refine ih (n-k-1) _ _ rfl w2 (by omega) (by omega) d2 (λx=>hit ?_) λx=>mis λy=>x ?_
          · obtain ⟨k',r',i',e',a1,a2,a3,a4⟩:=x
            obtain ⟨k'',w''⟩:=w1.trans (.step ⟨i,e1⟩ a1)
            exact ⟨k'',r',i',e',w'',a2,a3,a4⟩
          · obtain ⟨k',r',i',e',a1,a2,a3,a4⟩:=y
            have hx:(es[i']?.map (·.1)).getD 0=cB prog w ks:=by
              obtain ⟨bb,rfl,_⟩:=a4
              rw[a3];rfl
            by_cases lt:k'<k
            · exact absurd hx (no k' r' i' lt a1 a2)
            · have w3:=w1.split a1 (by omega)
              cases hd3:k'-k with
              | zero =>
                rw[hd3] at w3
                cases w3
                obtain rfl:i=i':=(below_at T.rise e1).symm.trans (below_at T.rise a2)
                obtain ⟨bb,rfl,hbb⟩:=a4
                rw[ee] at a3
                injection a3 with a3
                injection a3 with a31 a32
                injection a32 with a32
                subst a32
                exact absurd (hk'.inj hbb) hks
              | succ m =>
                rw[hd3] at w3
                cases w3 with
                | step _ w3=>exact ⟨m,r',i',e',w3,a2,a3,a4⟩
      cases hl:t.led with
      | true =>
        simp only[F3,Ex,if_false]
        rw[ee]
        exact tail
      | false =>
        simp only[LC,if_true]
        refine DX (Cp hk (λv hv =>?_) ?_)
        · obtain ⟨e',he',rfl⟩:=EK.mp hv
          obtain ⟨ks2,b2,e2,hk2⟩:=els e' (Array.mem_of_mem_filter (EW.mp he'))
          exact ⟨ks2,b2,by rw[e2],hk2⟩
        · simp only[Ex,if_false]
          rw[ee]
          exact tail
end
section
variable  {prog:Eo}{w:ES}{A:Fi}{E:D1->D5->Prop}{s:D5}
def dN (w:ES)(h:Heap)(a:Addr)(es:Array (Int×D1)):Prop :=
 ∃ep t,h.get? a=some (aR es ep t)/\Tab t (es.map (·.1))/\es.size*5<t.mask*3/\t.led = !w.params.followText "set-order" /\ t.plain=true
theorem dN.at {h h':Heap}{a:Addr}{es:Array (Int×D1)}(x:dN w h a es)(e:∀o,h.get? a=some o->h'.get? a=some o):dN w h' a es :=
 let ⟨ep,t,ho,r⟩:=x;⟨ep,t,e _ ho,r⟩
theorem qV {m n:Nat}(hm:Msk m)(h1:n*5<m*3)(h2:(n+1)*5≥m*3)(h3:n<300):Msk (sizeAbove (grown (n+1))-1)/\n+1<=sizeAbove (grown (n+1))-1/\(n+1)*5<(sizeAbove (grown (n+1))-1)*3/\sizeAbove (grown (n+1))<=512:=by
 have c:n=4\/n=18\/n=76:=by
  rcases hm with rfl | rfl | rfl | rfl <;> lia
 unfold Msk
 rcases c with rfl | rfl | rfl <;> decide
theorem oI:512<=Ei:=by rw[Ic];lia
theorem jl {a:Addr}{es es':Array (Int×D1)}{ep:Nat}{t t':SetTable}{Q:Unit->D5->Prop}(ho:s.heap.get? a=some (aR es ep t))(hz:es'.size<=512)
  (h:∀h',Heap.SameBut a s.heap h'->h'.get? a=some (aR es' (ep+1) t')->Q () { s with heap:=h' }):Es (EF prog w) A (storeSet a es' t') Q E s:=by
 refine wpAny_storeSet_of (o:=aR es ep t) ho rfl ?_ (ET hz oI)
 refine h _ (Iz s.heap a _) ?_
 have:=Fj (Obj.putSet es' t') ho (by rw[putSet_of es' t' (o:=aR es ep t) rfl];rfl)
 rw[putSet_of es' t' (o:=aR es ep t) rfl] at this
 exact this
theorem Tab.tooFull {t:SetTable}{hs:Array Int}(T:Tab t hs):t.tooFull=decide (hs.size*5≥t.mask*3):=by
 unfold SetTable.tooFull;rw[T.fill]
theorem oJ {t:SetTable}{es:Array (Int×D1)}(T:Tab t (es.map (·.1))){n:Nat}(hn:es.size=n+1)(h1:n*5<t.mask*3)(h2:(n+1)*5≥t.mask*3)(h3:n<300) :
  ∃t' order,t.relaid (es.map (·.1)) (grown (n+1))=some (t',order)/\order.toList.Perm (E2 es.size)/\Tab t' ((order.filterMap (es[·]?)).map (·.1))/\(order.filterMap (es[·]?)).toList.Perm es.toList/\t'.led=t.led/\t'.plain=t.plain/\(n+1)*5<t'.mask*3:=by
 obtain ⟨k1,k2,k3,k4⟩:=qV T.msk h1 h2 h3
 obtain ⟨t',order,e,pm,T',pe,l,p,m⟩:=Au k1 t.finger (t.movedTo (sizeAbove (grown (n+1))-1)) t.led t.plain es (by lia)
 exact ⟨t',order,e,pm,T',pe,l,p,by rw[m];exact k3⟩
theorem tN {ks:List Int}{b:Addr}{Q:Bool->D5->Prop}(hk:TK prog w s.heap ks b)(h:Q true s):Es (EF prog w) A (hashByValue 8 (.ref b)) Q E s:=by
 have hT:=hk.typeIs
 obtain ⟨o,items,n,ho,_,hd,hi⟩:=hk
 unfold hashByValue
 refine DX (JS hT F.slot_tuple_hash.lookup ?_)
 dsimp only
 refine DX (FG ho hd ?_)
 refine DX ?_
 show Es _ _ (forIn items _ _) _ _ s
 rw[<- J6]
 have hall0:∀v∈items.toList,∃k t,v = .int k t:=by
  clear hd ho
  generalize items.toList=l at hi
  induction hi with
  | nil=>intro v hv;cases hv
  | cons h1 _ ih =>
   intro v hv
   rcases EB.mp hv with rfl | hv
   ·obtain ⟨t,e⟩:=Je h1;exact ⟨_,t,e⟩
   ·exact ih v hv
 refine KQ _ (λrest r s'=>r.1=none/\s'=s/\∀v∈rest,∃k t,v=F7 k t) _ ?_ ?_ _ _ ⟨rfl,rfl,hall0⟩
 ·rintro v rest r s' ⟨hr,rfl,hall⟩
  obtain ⟨k,t,rfl⟩:=hall v D8
  rw[show hashByValue 7 (.int k t)=pure true from rfl]
  refine DX (D3 ?_)
  simp only[F3,Ex,if_false]
  exact D3 ⟨rfl,rfl,λu hu'=>hall u (Eg _ hu')⟩
 ·rintro ⟨r1,r2⟩ s' ⟨hr,rfl,_⟩
  simp only at hr
  subst hr
  exact D3 h
theorem Aw {a b:Addr}{es:Array (Int×D1)}{ks:List Int}{Q:Bool->D5->Prop}(hu:A.units<cLine)(I:dN w s.heap a es)(els:∀e∈es,∃ks',ElT prog w s.heap e ks')(hk:TK prog w s.heap ks b)(hz:es.size<300)
  (hin:(∃e∈es,ElT prog w s.heap e ks)->Q false s)
  (hnew:(¬ ∃e∈es,ElT prog w s.heap e ks)->∀h' es',Heap.SameBut a s.heap h'->dN w h' a es'->es'.toList.Perm ((cB prog w ks,.ref b) :: es.toList)->Q true { s with heap:=h' }) :
  Es (EF prog w) A (setAddHashed a (.ref b) (cB prog w ks)) Q E s:=by
 obtain ⟨ep,t,ho,T,rm,hl,hp⟩:=I
 unfold setAddHashed setAddHashedIn
 refine Fe (DX (bM ho T ?_))
 dsimp only
 rw[show byScan (.ref b) es=false from rfl]
 simp only[Ex,if_false]
 obtain ⟨n,q,hn,W,he,hq,hd⟩:=T.ends (cB prog w ks)
 have hn':n<100000:=by
  have:t.mask<=511:=by rcases T.msk with e | e | e | e <;> lia
  unfold turns at hn
  lia
 unfold setSearch
 refine DX (tM hu ho T els hk he 100000 n none _ rfl W hn' hn rfl (λx =>?_) λx =>?_)
 ·obtain ⟨k,r,i,e,_,_,ee,el⟩:=x
  exact D3 (hin ⟨e,Array.mem_of_getElem? ee,el⟩)
 ·have nx:¬ ∃e∈es,ElT prog w s.heap e ks:=by
   rintro ⟨e,he',el⟩
   obtain ⟨i,hi,ei⟩:=Array.getElem_of_mem he'
   have ee:es[i]? = some e:=by rw[EL hi,ei]
   have hpl:i<t.place.size:=by rw[T.size,Fm];exact hi
   obtain ⟨bb,rfl,hbb⟩:=el
   obtain ⟨k,r,w1,er⟩:=T.reach i _ _ (EL hpl) (tL es i _ ee)
   exact x ⟨k,r,i,_,w1,by rw[er];exact EL hpl,ee,bb,rfl,hbb⟩
  dsimp only
  refine DX (bM ho T ?_)
  dsimp only
  rw[T.yt]
  dsimp only
  rw[hp]
  simp only[if_true]
  have hz':(es.map (·.1)).size+1<=t.mask:=by
   rw[Fm];have:=T.fit;rw[Fm] at this
   rcases T.msk with e | e | e | e <;> rw[e] at rm ⊢ <;> lia
  have T':=T.put W he hq hz'
  rw[<- fM es (below t.place q.j) (cB prog w ks,Eu b) (·.1),hp] at T'
  have sz:(insertAt es (below t.place q.j) (cB prog w ks,Eu b)).size=es.size+1:=cz _ _ _
  refine DX (tN hk ?_)
  simp only[if_true]
  refine DX (jl ho (by rw[sz];lia) λh1 sb1 ho1 =>?_)
  have pm1:=insertAt_perm es (below t.place q.j) (cB prog w ks,Eu b)
  rw[T'.tooFull,Fm,sz]
  by_cases full:(es.size+1)*5≥t.mask*3
  ·rw[if_pos (by simpa using full)]
   unfold setRelay
   obtain ⟨t2,order,e2,pm2,T2,pe2,l2,p2,rm2⟩:=oJ T' sz (n:=es.size) (by simpa using rm) full hz
   obtain ⟨_,_,_,sa⟩:=qV T.msk rm full hz
   refine DX (DX (bM (s:={ s with heap:=h1 }) ho1 T' ?_))
   dsimp only
   rw[if_neg (Nat.not_lt.mpr (ET sa oI))]
   rw[e2]
   have z2:(order.filterMap ((insertAt es (below t.place q.j) (cB prog w ks,Eu b))[·]?)).size=es.size+1:=by
    rw[<- D9,pe2.length_eq,D9,sz]
   refine DX ?_
   show Es _ _ (if ((order.filterMap ((insertAt es (below t.place q.j) (cB prog w ks,Eu b))[·]?)).size != (insertAt es (below t.place q.j) (cB prog w ks,Eu b)).size)=true then _ else _) _ _ _
   rw[if_neg (by rw[z2,sz];simp)]
   refine D3 ?_
   dsimp only
   refine jl (s:={ s with heap:=h1 }) ho1 (by rw[z2];lia) λh2 sb2 ho2 =>?_
   refine D3 (hnew nx h2 _ (sb1.trans sb2) ⟨_,_,ho2,T2,by rw[z2];exact rm2,by rw[l2];exact hl,by rw[p2]⟩ (pe2.trans pm1))
  ·rw[if_neg (by simpa using full)]
   refine D3 (hnew nx h1 _ sb1 ⟨_,_,ho1,T',?_,hl,rfl⟩ pm1)
   rw[sz]
   exact HN full
end
section
variable  {prog:Eo}{w:ES}{A:Fi}{E:D1->D5->Prop}{s:D5}
def ElI (e:Int×D1)(k:Int):Prop:=∃t,e=(hashInt k,F7 k t)
theorem wG {es:Array (Int×D1)}(els:∀e∈es,∃k,ElI e k):ElemsOf (intKind prog w) es.toList:=by
 intro e he
 obtain ⟨k,t,rfl⟩:=els e (EW.mp he)
 exact ⟨⟨k,Lv _ _ _ _,rfl⟩,rfl⟩
theorem wH {t:SetTable}{es:Array (Int×D1)}(T:Tab t (es.map (·.1)))(h:Int)(x:D1){n:Nat}{q:Probe}(hn:n<10*turns t.mask)(W:Way (occ t) t.mask n (start t.mask h) q)(he:¬ occ t q.j)(hq:q.j<=t.mask)(hz:es.size+1<=t.mask) :
  layNew t es h x=(insertAt es (below t.place q.j) (h,x),{ t with place:=insertAt t.place (below t.place q.j) q.j },false,false):=by
 have hf:t.freeSlot h=some (q.j,false):=by
  unfold SetTable.freeSlot
  rcases qS T (H:=λ_=>h+1) (h:=h) W he hn rfl with ⟨g,_⟩ | ⟨_,_,i,_,_,_,h1,_⟩
  ·rw[show t.probe (λ_=>h+1) h (t.probeStart h)=some (.empty q.j none) from g]
   rfl
  ·have:h+1=h:=h1
   lia
 have T':=T.put W he hq (by rw[Fm];exact hz)
 rw[<- fM es (below t.place q.j) (h,x) (·.1)] at T'
 have ft:=T'.fits
 rw[Fm] at ft
 unfold layNew
 rw[hf]
 dsimp only
 rw[T.yt]
 dsimp only
 unfold SetTable.orStandIn
 rw[if_pos ft,ft]
 rfl
theorem qW {t:SetTable}{es:Array (Int×D1)}{n:Nat}{t':SetTable}{order:Array Nat}(e:t.relaid (es.map (·.1)) n=some (t',order))(pm:order.toList.Perm (E2 es.size))(T':Tab t' ((order.filterMap (es[·]?)).map (·.1))) :
  relayAll t es n=(order.filterMap (es[·]?),t',false):=by
 unfold relayAll
 rw[e]
 dsimp only
 have c:coversAll order es.size=true:=by unfold coversAll;rw[List.isPerm_iff];exact pm
 have f:=T'.fits
 rw[Fm] at f
 rw[c,f]
 rfl
theorem add_int {a:Addr}{es:Array (Int×D1)}{k:Int}{tok:Tok}{Q:Bool->D5->Prop}(I:dN w s.heap a es)(els:∀e∈es,∃k',ElI e k')(hz:es.size<300)
  (hin:(∃e∈es,ElI e k)->Q false s)
  (hnew:(¬ ∃e∈es,ElI e k)->∀h' es',Heap.SameBut a s.heap h'->dN w h' a es'->es'.toList.Perm ((hashInt k,.int k tok) :: es.toList)->Q true { s with heap:=h' }) :
  Es (EF prog w) A (setAddHashed a (.int k tok) (hashInt k)) Q E s:=by
 obtain ⟨ep,t,ho,T,rm,hl,hp⟩:=I
 have hel:=wG (prog:=prog) (w:=w) els
 have hb:es.size<scanBound:=by unfold scanBound;lia
 have hf:t.fits es.size=true:=by have:=T.fits;rwa [Fm] at this
 unfold setAddHashed setAddHashedIn
 refine Fe (DX (bM ho T ?_))
 dsimp only
 rw[byScan_of (knd:=intKind prog w) rfl hb hel]
 simp only[↓reduceIte]
 unfold setAddByScan
 refine DX ?_
 refine DX (GQ ?_)
 refine DX (wpAny_setScan_of (knd:=intKind prog w) (k:=k) (Lv _ _ _ _) ho rfl hf hel ?_)
 cases hr:List.findIdx? (λe=>(intKind prog w).is k e.2) es.toList with
 | some j =>
  dsimp only
  obtain ⟨hj,hpj,_⟩:=List.findIdx?_eq_some_iff_getElem.mp hr
  refine D3 (D3 (hin ⟨es.toList[j],EW.mp (HM hj),?_⟩))
  obtain ⟨k',t',e'⟩:=els es.toList[j] (EW.mp (HM hj))
  obtain ⟨u,e2⟩:=Je hpj
  rw[e'] at e2
  cases e2
  exact ⟨_,e'⟩
 | none =>
  dsimp only
  have nx:¬ ∃e∈es,ElI e k:=by
   rintro ⟨e,he,t',rfl⟩
   have:=List.findIdx?_eq_none_iff.mp hr _ (EW.mpr he)
   rw[Lv] at this
   cases this
  have hgw:∀(b:Bool) {s₁:D5} {Q':Unit->D5->Prop},Q' () s₁->Es (EF prog w) A (match b with | true=>rule "set.scan.the-table-gave-way" | false=>pure ()) Q' E s₁ :=
   λb s₁ Q' hq=>by cases b <;> first | exact D3 hq | exact GQ hq
  obtain ⟨n,q,hn,W,he,hq,hd⟩:=T.ends (hashInt k)
  have hz':es.size+1<=t.mask:=by
   rcases T.msk with e | e | e | e <;> rw[e] at rm ⊢ <;> lia
  rw[wH T (hashInt k) (.int k tok) hn W he hq hz']
  dsimp only
  refine DX (D3 (a:=()) ?_)
  have T':=T.put W he hq (by rw[Fm];exact hz')
  rw[<- fM es (below t.place q.j) (hashInt k,F7 k tok) (·.1),hp] at T'
  rw[hp]
  simp only[↓reduceIte]
  refine DX ?_
  rw[show hashByValue 8 (.int k tok)=pure true from rfl]
  refine D3 ?_
  simp only[↓reduceIte]
  have sz:(insertAt es (below t.place q.j) (hashInt k,F7 k tok)).size=es.size+1:=cz _ _ _
  refine DX (jl ho (by rw[sz];lia) λh1 sb1 ho1 =>?_)
  have pm1:=insertAt_perm es (below t.place q.j) (hashInt k,F7 k tok)
  rw[T'.tooFull,Fm,sz]
  by_cases full:(es.size+1)*5≥t.mask*3
  ·rw[if_pos (by simpa using full)]
   obtain ⟨t2,order,e2,pm2,T2,pe2,l2,p2,rm2⟩:=oJ T' sz (n:=es.size) (by simpa using rm) full hz
   rw[qW e2 pm2 T2]
   dsimp only
   have z2:(order.filterMap ((insertAt es (below t.place q.j) (hashInt k,F7 k tok))[·]?)).size=es.size+1:=by
    rw[<- D9,pe2.length_eq,D9,sz]
   refine DX (D3 (a:=()) ?_)
   refine DX (jl (s:={ s with heap:=h1 }) ho1 (by rw[z2];lia) λh2 sb2 ho2 =>?_)
   refine D3 (D3 (hnew nx h2 _ (sb1.trans sb2) ⟨_,_,ho2,T2,by rw[z2];exact rm2,by rw[l2];exact hl,by rw[p2]⟩ (pe2.trans pm1)))
  ·rw[if_neg (by simpa using full)]
   refine D3 (D3 (hnew nx h1 _ sb1 ⟨_,_,ho1,T',?_,hl,rfl⟩ pm1))
   rw[sz]
   exact HN full
end
open PySem PySem.SetTable PyProof.Rows PySem.Spec
def TS (h h':Heap):Prop:=∀b o,o.cls = .type "tuple" -> h.get? b=some o->h'.get? b=some o
structure Kd (prog:Eo)(w:ES)(κ:Type) where
 El:Heap->D1 -> κ -> Prop
 hash:κ -> Int
 room:Fi->Prop
 keeps:∀{h h':Heap} {v:D1} {k:κ},El h v k->TS h h'->El h' v k
 inj:∀{h:Heap} {v:D1} {k k':κ},El h v k->El h v k'->k=k'
 add:∀{A:Fi} {E:D1->D5->Prop} {s:D5} {a:Addr} {es:Array (Int×D1)} {v:D1} {k:κ} {Q:Bool->D5->Prop},room A->dN w s.heap a es->(∀e∈es,∃k',e.1=hash k'/\El s.heap e.2 k')->El s.heap v k->es.size<300 →
  ((∃e∈es,El s.heap e.2 k)->∀tk,s.toks<=tk->Q false { s with toks:=tk }) →
  ((¬ ∃e∈es,El s.heap e.2 k)->∀h' es' tk,s.toks<=tk->Heap.SameBut a s.heap h'->dN w h' a es'->es'.toList.Perm ((hash k,v) :: es.toList)->Q true { s with heap:=h',toks:=tk }) →
  Es (EF prog w) A (setAdd a v) Q E s
theorem TK.keep {prog:Eo}{w:ES}{h h':Heap}{ks:List Int}{b:Addr}(x:TK prog w h ks b)(t:TS h h'):TK prog w h' ks b :=
 let ⟨o,items,n,ho,hc,r⟩:=x;⟨o,items,n,t b o hc ho,hc,r⟩
def kD (prog:Eo)(w:ES):Kd prog w (List Int) where
 El:=λh v ks=>∃b,v = .ref b/\TK prog w h ks b
 hash:=cB prog w
 room:=λA=>A.units<cLine
 keeps:=λ⟨b,e,x⟩ t=>⟨b,e,x.keep t⟩
 inj:=λ⟨b,e,x⟩ ⟨b',e',x'⟩=>by
  rw[e] at e';injection e' with e';subst e';exact x.inj x'
 add:=by
  intro A E s a es v k Q hu I els hv hz hin hnew
  obtain ⟨b,rfl,hk⟩:=hv
  unfold setAdd
  refine Fe (DX (wpAny_pyHash_tuple hu hk ?_))
  have els':∀e∈es,∃ks',ElT prog w s.heap e ks':=λe he=>by
   obtain ⟨k',e1,b',e2,x⟩:=els e he
   exact ⟨k',b',Ma e1 e2,x⟩
  have conv:∀e∈es,(ElT prog w s.heap e k↔∃b,e.2 = .ref b/\TK prog w s.heap k b):=λe he=>by
   constructor
   ·rintro ⟨b',rfl,x⟩;exact ⟨b',rfl,x⟩
   ·rintro ⟨b',e2,x⟩
    obtain ⟨k',e1,b2,e3,x2⟩:=els e he
    rw[e2] at e3;injection e3 with e3;subst e3
    obtain rfl:=x.inj x2
    exact ⟨b',Ma e1 e2,x⟩
  refine Aw (s:={ s with toks:=s.toks+(k.length+1) }) hu I els' hk hz (λx=>hin ?_ _ (GI _ _)) λx h' es' sb I' pm=>hnew ?_ h' es' _ (GI _ _) sb I' pm
  ·obtain ⟨e,he,x⟩:=x;exact ⟨e,he,(conv e he).mp x⟩
  ·rintro ⟨e,he,y⟩;exact x ⟨e,he,(conv e he).mpr y⟩
def vb (prog:Eo)(w:ES):Kd prog w Int where
 El:=λ_ v k=>∃t,v = .int k t
 hash:=hashInt
 room:=λ_=>True
 keeps:=λx _=>x
 inj:=λ⟨t,e⟩ ⟨t',e'⟩=>by rw[e] at e';injection e'
 add:=by
  intro A E s a es v k Q _ I els hv hz hin hnew
  obtain ⟨t,rfl⟩:=hv
  unfold setAdd
  refine Fe (DX ((intKind prog w).pyHash (k:=k) (Lv _ _ _ _) ?_))
  have els':∀e∈es,∃k',ElI e k':=λe he=>by
   obtain ⟨k',e1,t',e2⟩:=els e he
   exact ⟨k',t',Ma e1 e2⟩
  have conv:∀e∈es,(ElI e k↔∃t,e.2=F7 k t):=λe he=>by
   constructor
   ·rintro ⟨t',rfl⟩;exact ⟨t',rfl⟩
   ·rintro ⟨t',e2⟩
    obtain ⟨k',e1,t2,e3⟩:=els e he
    rw[e2] at e3;injection e3 with e3 e4;subst e3
    exact ⟨t',Ma e1 e2⟩
  refine add_int (s:={ s with toks:=s.toks+1 }) I els' hz (λx=>hin ?_ _ (Ks _)) λx h' es' sb I' pm=>hnew ?_ h' es' _ (Ks _) sb I' pm
  ·obtain ⟨e,he,x⟩:=x;exact ⟨e,he,(conv e he).mp x⟩
  ·rintro ⟨e,he,y⟩;exact x ⟨e,he,(conv e he).mpr y⟩
section
variable  {prog:Eo}{w:ES}{κ:Type}(kd:Kd prog w κ)
structure Good (h:Heap)(es:Array (Int×D1))(l:List κ):Prop where
 el:∀e∈es,∃k,k∈l/\e.1=kd.hash k/\kd.El h e.2 k
 all:∀k∈l,∃e∈es,kd.El h e.2 k
 dis:es.toList.Pairwise (λe e'=>∀k,kd.El h e.2 k->¬ kd.El h e'.2 k)
 len:es.size<=l.length
variable  {kd}
theorem Good.keeps {h h':Heap}{es:Array (Int×D1)}{l:List κ}(G:Good kd h es l)(t:TS h h'):Good kd h' es l:=by
 refine ⟨λe he =>?_,λk hk =>?_,?_,G.len⟩
 ·obtain ⟨k,a,b,c⟩:=G.el e he;exact ⟨k,a,b,kd.keeps c t⟩
 ·obtain ⟨e,a,b⟩:=G.all k hk;exact ⟨e,a,kd.keeps b t⟩
 ·refine IJ (λ{e e'} he he' x k y z =>?_) G.dis
  obtain ⟨k1,_,_,c1⟩:=G.el e (EW.mp he)
  obtain ⟨k2,_,_,c2⟩:=G.el e' (EW.mp he')
  obtain rfl:=kd.inj y (kd.keeps c1 t)
  obtain rfl:=kd.inj z (kd.keeps c2 t)
  exact x _ c1 c2
theorem Good.nil (h:Heap):Good kd h #[] []:=⟨λe he=>(by simp at he),λk hk=>(by cases hk),(by simp),D6 _⟩
theorem Good.same {h:Heap}{es:Array (Int×D1)}{l:List κ}(G:Good kd h es l){k:κ}(x:∃e∈es,kd.El h e.2 k):Good kd h es (l++[k]):=by
 refine ⟨λe he =>?_,λk' hk =>?_,G.dis,by rw[D7];have:=G.len;lia⟩
 ·obtain ⟨k,a,b⟩:=G.el e he;exact ⟨k,E9 _ a,b⟩
 ·rcases Eh.mp hk with hk | hk
  ·exact G.all k' hk
  ·rw[Ef] at hk;subst hk;exact x
theorem Good.more {h:Heap}{es es':Array (Int×D1)}{l:List κ}(G:Good kd h es l){k:κ}{v:D1}(hv:kd.El h v k)(x:¬ ∃e∈es,kd.El h e.2 k)(pm:es'.toList.Perm ((kd.hash k,v) :: es.toList)):Good kd h es' (l++[k]):=by
 have mem:∀e,e∈es'↔e=(kd.hash k,v)\/e∈es:=λe=>by
  rw[<- EW,pm.mem_iff,EB,EW]
 refine ⟨λe he =>?_,λk' hk =>?_,?_,?_⟩
 ·rcases (mem e).mp he with rfl | he
  ·exact ⟨k,EH _ (Ef.mpr rfl),rfl,hv⟩
  ·obtain ⟨k,a,b⟩:=G.el e he;exact ⟨k,E9 _ a,b⟩
 ·rcases Eh.mp hk with hk | hk
  ·obtain ⟨e,a,b⟩:=G.all k' hk;exact ⟨e,(mem e).mpr (.inr a),b⟩
  ·rw[Ef] at hk;subst hk;exact ⟨_,(mem _).mpr (.inl rfl),hv⟩
 ·rw[pm.pairwise_iff (λ{a b} z k y1 y2=>z k y2 y1)]
  refine List.Pairwise.cons (λe he k' y1 y2 =>?_) G.dis
  obtain rfl:=kd.inj y1 hv
  exact x ⟨e,EW.mp he,y2⟩
 ·have:=pm.length_eq
  rw[EI,D9,D9] at this
  rw[D7,ED]
  have:=G.len
  lia
end
section
variable  {prog:Eo}{w:ES}{A:Fi}{R:Result->D5->Prop}{I:Addr}{fp:List Addr}{G:Array GenState->Array GenState->Prop}{n:Nat}{P:Nat->D1->Prop}{St:Nat->D5->Prop}{κ:Type}{kd:Kd prog w κ}
theorem qX (W:WalksS prog w A.in1 I fp [I] G n P St)(hrm:kd.room A.in1)(hI:∀i s,St i s->∃o,s.heap.get? I=some o/\o.cls ≠ .type "tuple")(S:Addr)(hSf:S∉fp)(hIf:I∈fp)(ks:List κ)(hn:n=ks.length)(hb:n<300) :
  ∀(k i:Nat) (s:D5) (es:Array (Int×D1)),n-i=k->i<=n->St i s->(∀j v,P j v->∃q,ks[j]? = some q/\kd.El s.heap v q) →
   dN w s.heap S es->Good kd s.heap es (ks.take i) →
   (∀s' es',Moved [S,I] G s s'->dN w s'.heap S es'->Good kd s'.heap es' ks->R (.ok (.ret .none)) s') →
   Jb (EF prog w) A (.builtin "set.update.loop" ⟨[.ref S,.ref I],[]⟩) R s:=by
 have hSI:S≠I:=λe=>hSf (e ▸ hIf)
 have ts:∀i s s',St i s->Moved [I] G s s'->TS s.heap s'.heap:=λi s s' hst hm b o hc e=>by
  refine hm.heap b o (λhb =>?_) e
  rw[Ef] at hb
  obtain ⟨o',e',c'⟩:=hI i s hst
  rw[hb,e'] at e;cases e;exact c' hc
 intro k
 induction k with
 | zero =>
  intro i s es hk hi hst hv hS hG hR
  have hin:i=n:=by omega
  subst hin
  refine E6 Ku ?_
  rw[EY HJ _]
  show Es _ A.in1 (pyNext (.ref I) >>= _) _ _ s
  refine DX (W.done s _ _ hst λs' hm =>?_)
  show Es _ A.in1 (ret GA) _ _ s'
  rw[Et (by omega)] at hG
  exact D3 (hR s' es (hm.mono λb hb=>by rw[Ef] at hb;simp[hb]) (hS.at λo e=>hm.heap S o (by rw[Ef];exact hSI) e) (hG.keeps (ts _ _ _ hst hm)))
 | succ k ih =>
  intro i s es hk hi hst hv hS hG hR
  have hlt:i<n:=by omega
  refine E6 Ku ?_
  rw[EY HJ _]
  show Es _ A.in1 (pyNext (.ref I) >>= _) _ _ s
  refine DX (W.item i s _ _ hlt hst λv s' hP hst' hm =>?_)
  have t0:=ts _ _ _ hst hm
  obtain ⟨q,eq,hq⟩:=hv i v hP
  have hS':dN w s'.heap S es:=hS.at λo e=>hm.heap S o (by rw[Ef];exact hSI) e
  have hG':=hG.keeps t0
  have tk:ks.take (i+1)=ks.take i++[q]:=by rw[M8,eq];rfl
  show Es _ A.in1 (Jv [v] (setAdd S v) >>= _) _ _ s'
  have hm2:Moved [S,I] G s s':=hm.mono λb hb=>by rw[Ef] at hb;simp[hb]
  refine DX (Fe (kd.add hrm hS' (λe he =>?_) (kd.keeps hq t0) ?_ (λx tk' htk =>?_) λx h' es' tk' htk sb I' pm =>?_))
  ·obtain ⟨k',_,a,b⟩:=hG'.el e he;exact ⟨k',a,b⟩
  ·have:=hG'.len;rw[Ff] at this;omega
  ·refine D3 ⟨FV HJ _,ih (i+1) _ es (by omega) hlt (W.frame _ s' _ _ hst' htk λb _ o e=>e) (λj v' p =>?_) hS' (by rw[tk];exact hG'.same x) λs'' es'' hm'' a b =>?_⟩
   ·obtain ⟨q',a,b⟩:=hv j v' p;exact ⟨q',a,kd.keeps b t0⟩
   ·exact hR s'' es'' (Nm W.gtrans (hm2.then_heap htk λb o _ e=>e) hm'') a b
  ·have t1:TS s'.heap h':=λb o hc e=>by
    rw[sb.2 b (λhb=>by
     obtain ⟨ep,t,ho,_⟩:=hS'
     rw[hb,ho] at e;cases e;simp[aR] at hc)]
    exact e
   refine D3 ⟨FV HJ _,ih (i+1) _ es' (by omega) hlt (W.frame _ s' _ _ hst' htk λb hb o e =>?_) (λj v' p =>?_) I' (by rw[tk];exact (hG'.more (kd.keeps hq t0) x pm).keeps t1) λs'' es'' hm'' a b =>?_⟩
   ·rw[sb.2 b (λh:b=S=>hSf (h ▸ hb))];exact e
   ·obtain ⟨q',a,b⟩:=hv j v' p;exact ⟨q',a,kd.keeps (kd.keeps b t0) t1⟩
   ·refine hR s'' es'' (Nm W.gtrans (hm2.then_heap htk λb o hb e =>?_) hm'') a b
    rw[sb.2 b (λh:b=S=>hb (by rw[h];exact D8))];exact e
end
section
variable  {prog:Eo}{w:ES}{A:Fi}{E:D1->D5->Prop}{s:D5}
theorem vc (a:D1){Q₁:D1->D5->Prop}
    (h:Q₁ (.ref s.heap.objs.size) { s with heap:=s.heap.push (aR #[] 0 (.fresh 0 0 (!w.params.followText "set-order"))) }) :
    Jb (EF prog w) A (.call (.builtin "set.__new__") ⟨[.type "set",a],[]⟩) (wants Q₁ E) s:=by
  refine Lm ?_
  show Es _ A.in1 (do checkBuiltinCall "set.__new__" ⟨[.type "set",a],[]⟩;again (.builtin "set.__new__" ⟨[.type "set",a],[]⟩)) _ _ s
  refine DX (KA (PySem.F.newCall_set_1 a) (D3 ⟨FV MY _,E6 F.entry_set_new ?_⟩))
  rw[EY MY _]
  unfold Builtin.«set.__new__» Builtin.Frozenset.newClass
  have hsub:=sub_set_self
  obtain ⟨hp,g,d,tk,os⟩:=s
  dsimp only
  wp_walk
  refine KR (D3 ?_)
  dsimp only
  simp only[newObj]
  refine DX (wpAny_alloc (D3 ?_))
  exact D3 h
theorem wI (led:Bool):Tab (.fresh 0 0 led) #[]:=by
 refine ⟨rfl,λi j a b e =>?_,rfl,λi j e =>?_,.inl rfl,EZ _,λi j h e =>?_⟩ <;> (simp[SetTable.fresh] at e)
theorem ma {h:Heap}{a:Addr}(ho:h.get? a=some (aR #[] 0 (.fresh 0 0 (!w.params.followText "set-order")))):dN w h a #[] :=
 ⟨0,_,ho,(by rw[Array.map_empty];exact wI _),(by show 0*5<7*3;decide),rfl,rfl⟩
theorem sub_tuple_set:isSubtype (.type "tuple") (.type "set")=pure false:=by rw[Kh];kernel_rfl
theorem sub_tuple_frozenset:isSubtype (.type "tuple") (.type "frozenset")=pure false:=by rw[Kh];kernel_rfl
end
section
variable  {prog:Eo}{w:ES}{A:Fi}{E:D1->D5->Prop}{s:D5}
set_option maxHeartbeats 3200000 in
theorem gH {κ:Type}{kd:Kd prog w κ}{l:Addr}{items:Array D1}{ks:List κ}{Q:D1->D5->Prop}
  (hh:A.handled=none) (hrm:kd.room A.in1.in1.in1) (hl:s.heap.IsTuple l items) (hz:items.size=ks.length) (hi:∀(i:Nat) v,items[i]? = some v->∃q,ks[i]? = some q/\kd.El s.heap v q) (hb:items.size<300)
  (h:∀(h':Heap) (es:Array (Int×D1)) (tk:Nat),s.toks<=tk->dN w h' s.heap.objs.size es->Good kd h' es ks →
   (∀b o,s.heap.get? b=some o->h'.get? b=some o)->Q (.ref s.heap.objs.size) { s with heap:=h',toks:=tk }) :
  Es (EF prog w) A (call (.type "set") [.ref l]) Q E s:=by
 obtain ⟨c,tl,hmro⟩:=Ga.mro
 have hmade:=Ga.made
 have hsub:=Ga.sub
 refine Lq (Lm ?_)
 show Es _ _ (callAny (.type "set") _) _ _ _
 refine D3 ⟨IU _ (by decide +kernel),E6 Mu ?_⟩
 rw[Mg (Ln "set" [.ref l] []) rfl]
 have h1:=Ga.notType
 have h2:=Ga.canCreate
 have hct:=KY (.ref l)
 repeat (any_goals (first | assumption | wp_step))
 have gd:(s.heap.push (aR #[] 0 (.fresh 0 0 (!w.params.followText "set-order")))).objs.size=s.heap.objs.size+1:=Gd _ _
 refine Ie (vc (w:=w) (.ref l) (E:=E) (Q₁:=λobj s₁=>obj = .ref s.heap.objs.size/\s₁={ s with heap:=s.heap.push (aR #[] 0 (.fresh 0 0 (!w.params.followText "set-order"))) }) ⟨rfl,rfl⟩) λr s₁ hr =>?_
 cases r with
 | error e=>exact hr
 | ok fl =>
  cases fl with
  | ret obj =>
   obtain ⟨rfl,rfl⟩:=hr
   generalize hled:(!w.params.followText "set-order")=led at gd ⊢
   have hS:(s.heap.push (aR #[] 0 (.fresh 0 0 led))).get? s.heap.objs.size=some (aR #[] 0 (.fresh 0 0 led)):=Ed _ rfl
   have hT:Shared.TypeIs { s with heap:=s.heap.push (aR #[] 0 (.fresh 0 0 led)) } (.ref s.heap.objs.size) "set" :=⟨_,hS,rfl⟩
   have hli:=Ga.init.lookup
   have hbi:=Ga.init.bind (.ref s.heap.objs.size)
   repeat (any_goals (first | assumption | wp_step))
   refine Ie (Hs (R:=wants (λr s₂=>r = .none/\∃h' es tk,s₂={ s with heap:=h',toks:=tk }/\s.toks<=tk ∧
     dN w h' s.heap.objs.size es/\Good kd h' es ks ∧
     (∀b o,s.heap.get? b=some o->h'.get? b=some o)) E) Ga.init.plain MN (check_set_init_1 hT ?_)) λr₂ s₂ hr₂ =>?_
   ·obtain ⟨ol,hol,hcl,nl,hdl⟩:=id hl
    obtain ⟨ocls,odict,odata,oslots⟩:=ol
    simp only at hcl hdl
    subst hcl;subst hdl
    have hol':(s.heap.push (aR #[] 0 (.fresh 0 0 led))).get? l=some { cls :=.type "tuple",dict:=odict,data :=.seq items nl,slots:=oslots }:=DZ _ hol
    have hsls:=sub_tuple_set
    have hslf:=sub_tuple_frozenset
    have hne:(G0 "tuple" == G0 "dict")=false:=by decide
    have hl1:(s.heap.push (aR #[] 0 (.fresh 0 0 led))).IsTuple l items:=⟨_,hol',rfl,nl,rfl⟩
    unfold Builtin.«set.__init__» noKeywords Builtin.Frozenset.updateFrom
    generalize hPI:pyIter=PI
    wp_walk
    subst hPI
    refine IY hl1 ?_
    refine DX (Iv ?_)
    have hlS:l<s.heap.objs.size:=Ej hol
    have hh3:A.in1.in1.in1.handled=none:=by simp[hh]
    have hneI:l≠(s.heap.push (aR #[] 0 (.fresh 0 0 led))).objs.size:=by
     rw[gd];exact Ey (Fz hlS)
    have hSf:s.heap.objs.size∉[(s.heap.push (aR #[] 0 (.fresh 0 0 led))).objs.size,l]:=by
     rw[gd];simp only[EB,Ef,HP,or_false,not_or]
     exact ⟨Ey (G1 _),GV hlS⟩
    refine qX (kd:=kd) ((Walks.tuple hh3 _ l hneI items).toS) hrm (λi s' st =>?hI) s.heap.objs.size hSf D8 ks hz hb (items.size-0) 0 _ #[] (by lia) (EZ _)
     ⟨⟨_,Ed _ rfl,rfl,rfl⟩,(hl1.push _)⟩ ?hv (by subst hled;exact ma (DZ _ hS)) (Good.nil _) ?hR
    case hI =>
     obtain ⟨o,ho,hc,_⟩:=st.1
     exact ⟨o,ho,by rw[hc];decide⟩
    case hv =>
     intro j v hv
     obtain ⟨q,e,x⟩:=hi j v hv
     exact ⟨q,e,kd.keeps x λb o _ e=>DZ _ (DZ _ e)⟩
    case hR =>
     intro s' es' hm hS' hG'
     obtain ⟨h',g',d',tk',os'⟩:=s'
     have eg:g'=s.gens:=hm.gens
     have ed:d'=s.drawn:=hm.drawn
     have eo:os'=s.os:=hm.os
     subst eg;subst ed;subst eo
     show Es _ _ _ _ _ _
     refine D3 ?_
     show Es _ _ (ret GA) _ _ _
     refine D3 ⟨rfl,h',es',tk',rfl,hm.toks,hS',hG',λb o e =>?_⟩
     have hbb:=Ej e
     have hb1:b≠s.heap.objs.size:=Ey hbb
     have hb2:b≠(s.heap.push (aR #[] 0 (.fresh 0 0 led))).objs.size:=by
      rw[gd];exact Ey (Fz hbb)
     exact hm.heap b o (by simp only[EB,Ef,HP,or_false,not_or];exact ⟨hb1,hb2⟩) (DZ _ (DZ _ e))
   ·cases r₂ with
    | error e=>exact hr₂
    | ok fl₂ =>
     cases fl₂ with
     | ret r =>
      obtain ⟨rfl,h',es,tk,rfl,htk,hS',hG',hk'⟩:=hr₂
      repeat (any_goals (first | assumption | wp_step))
      exact h _ _ _ htk hS' hG' hk'
     | _=>exact hr₂.elim
  | _=>exact hr.elim
end
section
variable  {prog:Eo}{w:ES}{A:Fi}{E:D1->D5->Prop}{s:D5}
set_option maxHeartbeats 3200000 in
theorem call_set_list {κ:Type}{kd:Kd prog w κ}{l:Addr}{items:Array D1}{ks:List κ}{Q:D1->D5->Prop}
  (hh:A.handled=none) (hrm:kd.room A.in1.in1.in1) (hl:s.heap.IsList l items) (hz:items.size=ks.length) (hi:∀(i:Nat) v,items[i]? = some v->∃q,ks[i]? = some q/\kd.El s.heap v q) (hb:items.size<300)
  (h:∀(h':Heap) (es:Array (Int×D1)) (tk:Nat),s.toks<=tk->dN w h' s.heap.objs.size es->Good kd h' es ks →
   (∀b o,s.heap.get? b=some o->h'.get? b=some o)->Q (.ref s.heap.objs.size) { s with heap:=h',toks:=tk }) :
  Es (EF prog w) A (call (.type "set") [.ref l]) Q E s:=by
 obtain ⟨c,tl,hmro⟩:=Ga.mro
 have hmade:=Ga.made
 have hsub:=Ga.sub
 refine Lq (Lm ?_)
 show Es _ _ (callAny (.type "set") _) _ _ _
 refine D3 ⟨IU _ (by decide +kernel),E6 Mu ?_⟩
 rw[Mg (Ln "set" [.ref l] []) rfl]
 have h1:=Ga.notType
 have h2:=Ga.canCreate
 have hct:=KY (.ref l)
 repeat (any_goals (first | assumption | wp_step))
 have gd:(s.heap.push (aR #[] 0 (.fresh 0 0 (!w.params.followText "set-order")))).objs.size=s.heap.objs.size+1:=Gd _ _
 refine Ie (vc (w:=w) (.ref l) (E:=E) (Q₁:=λobj s₁=>obj = .ref s.heap.objs.size/\s₁={ s with heap:=s.heap.push (aR #[] 0 (.fresh 0 0 (!w.params.followText "set-order"))) }) ⟨rfl,rfl⟩) λr s₁ hr =>?_
 cases r with
 | error e=>exact hr
 | ok fl =>
  cases fl with
  | ret obj =>
   obtain ⟨rfl,rfl⟩:=hr
   generalize hled:(!w.params.followText "set-order")=led at gd ⊢
   have hS:(s.heap.push (aR #[] 0 (.fresh 0 0 led))).get? s.heap.objs.size=some (aR #[] 0 (.fresh 0 0 led)):=Ed _ rfl
   have hT:Shared.TypeIs { s with heap:=s.heap.push (aR #[] 0 (.fresh 0 0 led)) } (.ref s.heap.objs.size) "set" :=⟨_,hS,rfl⟩
   have hli:=Ga.init.lookup
   have hbi:=Ga.init.bind (.ref s.heap.objs.size)
   repeat (any_goals (first | assumption | wp_step))
   refine Ie (Hs (R:=wants (λr s₂=>r = .none/\∃h' es tk,s₂={ s with heap:=h',toks:=tk }/\s.toks<=tk ∧
     dN w h' s.heap.objs.size es/\Good kd h' es ks ∧
     (∀b o,s.heap.get? b=some o->h'.get? b=some o)) E) Ga.init.plain MN (check_set_init_1 hT ?_)) λr₂ s₂ hr₂ =>?_
   ·obtain ⟨ol,hol,hcl,nl,hdl⟩:=id hl
    obtain ⟨ocls,odict,odata,oslots⟩:=ol
    simp only at hcl hdl
    subst hcl;subst hdl
    have hol':(s.heap.push (aR #[] 0 (.fresh 0 0 led))).get? l=some { cls :=.type "list",dict:=odict,data :=.seq items nl,slots:=oslots }:=DZ _ hol
    have hsls:=PySem.F.sub_list_set
    have hslf:=PySem.F.sub_list_frozenset
    have hne:(G0 "list" == G0 "dict")=false:=by decide
    have hl1:(s.heap.push (aR #[] 0 (.fresh 0 0 led))).IsList l items:=⟨_,hol',rfl,nl,rfl⟩
    unfold Builtin.«set.__init__» noKeywords Builtin.Frozenset.updateFrom
    generalize hPI:pyIter=PI
    wp_walk
    subst hPI
    refine G7 hl1 ?_
    refine DX (Iv ?_)
    have hlS:l<s.heap.objs.size:=Ej hol
    have hh3:A.in1.in1.in1.handled=none:=by simp[hh]
    have hneI:l≠(s.heap.push (aR #[] 0 (.fresh 0 0 led))).objs.size:=by
     rw[gd];exact Ey (Fz hlS)
    have hSf:s.heap.objs.size∉[(s.heap.push (aR #[] 0 (.fresh 0 0 led))).objs.size,l]:=by
     rw[gd];simp only[EB,Ef,HP,or_false,not_or]
     exact ⟨Ey (G1 _),GV hlS⟩
    refine qX (kd:=kd) ((Mp hh3 _ l hneI items).toS) hrm (λi s' st =>?hI) s.heap.objs.size hSf D8 ks hz hb (items.size-0) 0 _ #[] (by lia) (EZ _)
     ⟨⟨_,Ed _ rfl,rfl,rfl⟩,(hl1.push _)⟩ ?hv (by subst hled;exact ma (DZ _ hS)) (Good.nil _) ?hR
    case hI =>
     obtain ⟨o,ho,hc,_⟩:=st.1
     exact ⟨o,ho,by rw[hc];decide⟩
    case hv =>
     intro j v hv
     obtain ⟨q,e,x⟩:=hi j v hv
     exact ⟨q,e,kd.keeps x λb o _ e=>DZ _ (DZ _ e)⟩
    case hR =>
     intro s' es' hm hS' hG'
     obtain ⟨h',g',d',tk',os'⟩:=s'
     have eg:g'=s.gens:=hm.gens
     have ed:d'=s.drawn:=hm.drawn
     have eo:os'=s.os:=hm.os
     subst eg;subst ed;subst eo
     show Es _ _ _ _ _ _
     refine D3 ?_
     show Es _ _ (ret GA) _ _ _
     refine D3 ⟨rfl,h',es',tk',rfl,hm.toks,hS',hG',λb o e =>?_⟩
     have hbb:=Ej e
     have hb1:b≠s.heap.objs.size:=Ey hbb
     have hb2:b≠(s.heap.push (aR #[] 0 (.fresh 0 0 led))).objs.size:=by
      rw[gd];exact Ey (Fz hbb)
     exact hm.heap b o (by simp only[EB,Ef,HP,or_false,not_or];exact ⟨hb1,hb2⟩) (DZ _ (DZ _ e))
   ·cases r₂ with
    | error e=>exact hr₂
    | ok fl₂ =>
     cases fl₂ with
     | ret r =>
      obtain ⟨rfl,h',es,tk,rfl,htk,hS',hG',hk'⟩:=hr₂
      repeat (any_goals (first | assumption | wp_step))
      exact h _ _ _ htk hS' hG' hk'
     | _=>exact hr₂.elim
  | _=>exact hr.elim
end
namespace F9
theorem fN:Slot "set_iterator" "__next__" "set_iterator.__next__" :=
 .of (owner := "set_iterator") (n := "__next__") (by rw[typeLookup_type,builtinLookup_eq_fast];kernel_rfl) (by decide +kernel) (by decide +kernel) (by decide +kernel)
  (by first | exact .inl (by decide +kernel) | exact .inr (by decide +kernel)) (by rw[Kh];kernel_rfl)
theorem nH:entryFor table "set_iterator.__next__" = some Builtin.«set_iterator.__next__» := entryFor_of_tree (by kernel_rfl)
theorem qa (a:D1):argsOk "set_iterator.__next__" ⟨[a],[]⟩:=by
 unfold argsOk;kernel_rfl
theorem me:entryFor table "set.__iter__" = some Builtin.«frozenset.__iter__» :=
 entryFor_alias (id' := "frozenset.__iter__") (by kernel_rfl) rfl (by decide +kernel) (by kernel_rfl)
end F9
theorem mf {α:Type}:∀(l:List α) (i:Nat) (x:α),l[i]? = some x->(x :: l.eraseIdx i).Perm l
 | [],i,x,h=>by simp at h
 | y :: l,0,x,h=>by simp at h;subst h;exact Ip _
 | y :: l,i+1,x,h=>by
  rw[G5] at h
  rw[IS]
  exact (List.Perm.swap y x _).trans (List.Perm.cons y (mf l i x h))
theorem vd {α:Type}(next:Nat->Nat):∀(fuel k:Nat) (left:List α) (out:Array α),left.length=fuel->(pickOrder.go next fuel k left out).toList.Perm (out.toList++left)
 | 0,k,left,out,h=>by
  have:left=[]:=HI.mp h
  subst this
  unfold pickOrder.go
  rw[EN]
 | fuel+1,k,left,out,h=>by
  unfold pickOrder.go
  have hl:next k%left.length<left.length:=Jh _ (by lia)
  have e:=Ec hl
  rw[e]
  dsimp only
  have ih:=vd next fuel (k+1) (left.eraseIdx (next k%left.length)) (out.push left[next k%left.length]) (by rw[List.length_eraseIdx,if_pos hl];lia)
  refine ih.trans ?_
  rw[Gx,EV]
  exact Gy _ (mf _ _ _ e)
theorem wJ {α:Type}(next:Nat->Nat)(xs:Array α):(pickOrder next xs).toList.Perm xs.toList:=by
 unfold pickOrder
 have:=vd next xs.size 0 xs.toList #[] (by simp)
 simpa using this
section
variable  {prog:Eo}{w:ES}{A:Fi}{E:D1->D5->Prop}{s:D5}
def walkVals (w:ES)(a:Addr)(es:Array (Int×D1))(ep:Nat):List D1 :=
 if w.params.followText "set-order" = true then (pickOrder (w.params.setOrder a ep) es).toList.map (·.2) else es.toList.map (·.2)
theorem oK (w:ES)(a:Addr)(es:Array (Int×D1))(ep:Nat):(walkVals w a es ep).Perm (es.toList.map (·.2)):=by
 unfold walkVals
 split
 ·exact (wJ _ _).map _
 ·exact Ip _
theorem jT {Q:Bool->D5->Prop}(h:Q (w.params.followText "set-order") s):Es (EF prog w) A setsByText Q E s:=by
 unfold setsByText
 exact DX (KR (D3 h))
theorem tO {a:Addr}{es:Array (Int×D1)}{ep:Nat}{t:SetTable}{Q:Option (D1×Nat)->D5->Prop}(ho:s.heap.get? a=some (aR es ep t))(T:Tab t (es.map (·.1)))(hl:t.led = !w.params.followText "set-order")(hp:t.plain=true){slot i:Nat}
  (hs:w.params.followText "set-order" = false->below t.place slot=i)
  (hy:∀x slot',(walkVals w a es ep)[i]? = some x->(w.params.followText "set-order" = false->below t.place slot'=i+1)->Q (some (x,slot')) s)
  (hn:(walkVals w a es ep)[i]? = none->Q none s):Es (EF prog w) A (setNext a slot i ep) Q E s:=by
 unfold setNext
 refine DX (bM ho T ?_)
 dsimp only
 refine DX (jT ?_)
 cases hb:w.params.followText "set-order" with
 | true =>
  rw[hb] at hs hy
  simp only[bne_self_eq_false,Ex,if_true,if_false]
  refine DX ?_
  unfold setWalk
  refine DX (bM ho T ?_)
  dsimp only
  refine DX (jT ?_)
  rw[hb]
  simp only[if_true]
  refine DX (KR (D3 ?_))
  refine D3 ?_
  have ew:(walkVals w a es ep)[i]? = ((pickOrder (w.params.setOrder a ep) es)[i]?).map (·.2):=by
   unfold walkVals
   rw[if_pos hb,En,Em]
  show Q (((pickOrder (w.params.setOrder a ep) es)[i]?).map λe=>(e.2,slot)) s
  cases hx:(pickOrder (w.params.setOrder a ep) es)[i]? with
  | none=>rw[hx] at ew;exact hn ew
  | some e=>rw[hx] at ew;exact hy _ _ ew (λq=>by cases q)
 | false =>
  have hs':=hs hb
  simp only[Ex,if_false]
  have ew:(walkVals w a es ep)[i]? = (es[i]?).map (·.2):=by
   unfold walkVals
   rw[if_neg (by rw[hb];exact Ek),En,Em]
  show Es _ _ (if (!t.plain && decide (es.size>1))=true then _ else _) _ _ _
  rw[hp]
  simp only[F3,Io,Ex,if_false]
  refine DX ?_
  show Es _ _ (if (!t.led && !es.isEmpty)=true then _ else _) _ _ _
  rw[hl,hb]
  simp only[LC,F3,Io,Ex,if_false]
  refine D3 ?_
  rw[hs']
  by_cases hi:i<es.size
  ·have ee:es[i]? = some es[i]:=EL hi
   have hpl:i<t.place.size:=by rw[T.size,Fm];exact hi
   have ep':t.place[i]? = some t.place[i]:=EL hpl
   rw[ee,ep']
   rw[ee] at ew
   exact D3 (hy _ _ ew λ_=>tH T.rise ep')
  ·have ee:es[i]? = none:=Hh (by lia)
   rw[ee]
   rw[ee] at ew
   exact D3 (hn ew)
def jU (h:Heap)(it a:Addr)(slot i n ep:Nat):Prop:=h.get? it=some { cls :=.type "set_iterator",data :=.fields #[.int slot 0,.int i 0,.ref a,.int n 0,.int ep 0] }
theorem jU.typeIs {it a:Addr}{slot i n ep:Nat}(x:jU s.heap it a slot i n ep):s.TypeIs (.ref it) "set_iterator" :=⟨_,x,rfl⟩
end
open PySem PySem.SetTable PyProof.Rows
section
variable  {prog:Eo}{w:ES}{A:Fi}{E:D1->D5->Prop}{s:D5}
structure tP (w:ES)(h:Heap)(it a:Addr)(es:Array (Int×D1))(ep i:Nat):Prop where
 st:∃t slot,h.get? a=some (aR es ep t)/\Tab t (es.map (·.1))/\t.led=(!w.params.followText "set-order")/\t.plain=true/\(w.params.followText "set-order" = false->below t.place slot=i)/\jU h it a slot i es.size ep
theorem ve {it a:Addr}{es:Array (Int×D1)}{ep i:Nat}{Q:Option D1->D5->Prop}(hh:A.handled=none)(hne:it≠a)(O:tP w s.heap it a es ep i)
  (hy:∀x h',(walkVals w a es ep)[i]? = some x->tP w h' it a es ep (i+1)->Heap.SameBut it s.heap h'->Q (some x) { s with heap:=h' })
  (hn:(walkVals w a es ep)[i]? = none->∀h',Heap.ExtBut it s.heap h'->Q none { s with heap:=h' }) :
  Es (EF prog w) A (pyNext (.ref it)) Q E s:=by
 obtain ⟨t,slot,ho,T,hl,hp,hs,hit⟩:=O.st
 have hf:t.fits es.size=true:=by have:=T.fits;rwa [Fm] at this
 unfold pyNext
 refine DX (Hq (FD (name:=Str.ofString "__next__") hit.typeIs F9.fN
  (FA F9.fN hit.typeIs F9.nH ?_ (F9.qa _))))
 show Es _ _ (fieldsOf (.ref it) >>= _) _ _ s
 refine DX (wpAny_fieldsOf hit rfl ?_)
 show Es _ _ (setEntries a >>= _) _ _ s
 refine DX (LX ho rfl hf ?_)
 rw[if_neg (by simp)]
 show Es _ _ (setNext a ((slot:Int).toNat) ((i:Int).toNat) ((ep:Int).toNat) >>= _) _ _ s
 rw[Fo,Fo,Fo]
 refine DX (tO ho T hl hp hs (λx slot' ex hs' =>?_) λex =>?_)
 ·dsimp only
  refine DX (Gn hit (by simp) λh1 e1 sb1 =>?_)
  refine DX (Gn e1 (by simp) λh2 e2 sb2 =>?_)
  refine D3 ⟨x,rfl,D3 (hy x h2 ex ⟨t,slot',?_,T,hl,hp,hs',?_⟩ (sb1.trans sb2))⟩
  ·rw[(sb1.trans sb2).2 a (F8 hne)];exact ho
  ·unfold jU
   rw[e2]
   simp[Kb]
 ·dsimp only
  refine DX (Gn hit (by simp) λh1 e1 sb1 =>?_)
  show Es _ _ (newExc (.type "StopIteration") [] >>= _) _ _ _
  refine DX ?_
  simp only[newExc,newTuple]
  refine DX (Fq ?_ (by size_fits))
  refine DX (m:=firstArgMember _ _) (KA (a:=GA) (by first | rfl | (simp only[firstArgMember];rfl)) ?_)
  refine Fq ?_ (by size_fits)
  simp only[raiseNew]
  refine DX (wpAny_handled ?_)
  first | rw[show A.in1.handled=none from hh] | rw[hh]
  refine DX (D3 (wpAny_throw ?_))
  refine DX (Iy (T := "StopIteration") (b:=true) ⟨_,Ed _ rfl,rfl⟩ LK ?_)
  exact D3 (hn ex _ ((sb1.extBut.push _).push _))
theorem qY {it a S:Addr}{es:Array (Int×D1)}{ep:Nat}{res:D1}{R:Result->D5->Prop}(hh:A.in1.handled=none)(hne:it≠a)(hSI:S≠it)(hSa:S≠a)(hz:es.size<300) :
  ∀(k i:Nat) (h:Heap) (acc:Array D1) (c:Nat),es.size-i=k->i<=es.size->tP w h it a es ep i->h.get? S=some { cls :=.type "list",dict:=none,data :=.seq acc c,slots := #[] }->acc.toList=(walkVals w a es ep).take i →
  (∀h' acc' c',(∀b o,b≠S->b≠it->h.get? b=some o->h'.get? b=some o)->h'.get? S=some { cls :=.type "list",dict:=none,data :=.seq acc' c',slots := #[] }->acc'.toList=walkVals w a es ep->R (.ok (.ret res)) { s with heap:=h' }) →
  Jb (EF prog w) A (.builtin "list.extend.loop" ⟨[.ref S,.ref it,res],[]⟩) R { s with heap:=h }:=by
 have lw:(walkVals w a es ep).length=es.size:=by rw[(oK w a es ep).length_eq,DY,D9]
 have zl:300<=Ei:=by rw[Ic];lia
 intro k
 induction k with
 | zero =>
  intro i h acc c hk hi O hS ha hR
  have hin:i=es.size:=by lia
  subst hin
  refine E6 LM ?_
  rw[EY HK _]
  show Es _ A.in1 (pyNext (.ref it) >>= _) _ _ { s with heap:=h }
  refine DX (ve hh hne O (λx h' ex =>?_) λex h' xb =>?_)
  ·rw[HY (by lia)] at ex;cases ex
  ·refine D3 (hR h' acc c (λb o _ hb e=>xb b o hb e) (xb S _ hSI hS) ?_)
   rw[ha,Et (by lia)]
 | succ k ih =>
  intro i h acc c hk hi O hS ha hR
  have hlt:i<es.size:=by lia
  refine E6 LM ?_
  rw[EY HK _]
  show Es _ A.in1 (pyNext (.ref it) >>= _) _ _ { s with heap:=h }
  refine DX (ve hh hne O (λx h' ex O' sb =>?_) λex =>?_)
  ·have hS':h'.get? S=some { cls :=.type "list",dict:=none,data :=.seq acc c,slots := #[] }:=by rw[sb.2 S hSI];exact hS
   have hal:acc.size=i:=by rw[<- D9,ha,Ff];lia
   show Es _ A.in1 (updateSeq S (·.push x) >>= _) _ _ _
   refine DX ?_
   refine Gb (s:={ s with heap:=h' }) hS' rfl (D3 ⟨FV HK _,ih (i+1) _ (acc.push x) _ (by lia) hlt ?_ (Fj _ hS' rfl) ?_ λh'' acc' c' kk hS'' ha' =>?_⟩)
    (by rw[hal];lia) (by show (acc.push x).size<=Ei+1;rw[Ha,hal];lia)
   ·obtain ⟨t,slot,ho,T,hl,hp,hs,hit⟩:=O'.st
    exact ⟨t,slot,(EG _ _ hSa).trans ho,T,hl,hp,hs,(EG _ _ hSI).trans hit⟩
   ·rw[Gx,ha,M8,ex];rfl
   ·refine hR h'' acc' c' (λb o hb hb2 e=>kk b o hb hb2 ?_) hS'' ha'
    refine (EG _ _ (F8 hb)).trans ?_
    rw[sb.2 b hb2];exact e
  ·rw[Ec (by lia)] at ex;cases ex
theorem qZ {a:Addr}{es:Array (Int×D1)}{R:List D1->D5->Prop}(hh:A.handled=none)(I:dN w s.heap a es)(hz:es.size<300)
  (h:∀h1 vs,vs.Perm (es.toList.map (·.2))->(∀b o,s.heap.get? b=some o->h1.get? b=some o)->s.heap.objs.size<=h1.objs.size->R vs { s with heap:=h1 }) :
  Es (EF prog w) A (collect (.ref a)) R E s:=by
 obtain ⟨ep,t,ho,T,rm,hl,hp⟩:=I
 have hf:t.fits es.size=true:=by have:=T.fits;rwa [Fm] at this
 have hlt:=Ej ho
 unfold collect
 refine DX (Iv (E6 K9 ?_))
 rw[EY La _]
 show Es _ A.in1 (newList [] >>= λl=>again (.builtin "list.__iadd__" ⟨[l,.ref a],[]⟩)) _ _ s
 refine DX (Fq ?_)
 refine D3 ⟨FV Ji _,E6 Mv ?_⟩
 rw[EY Ji _]
 show Es _ A.in1 (Fn (.ref s.heap.objs.size) (.ref a) (.ref s.heap.objs.size)) _ _ _
 unfold Fn
 have hSa:s.heap.objs.size≠a:=GV hlt
 have z1:(s.heap.push { cls :=.type "list",data :=.seq ([]:List D1).toArray }).objs.size=s.heap.objs.size+1:=Gd _ _
 have ho1:(s.heap.push { cls :=.type "list",data :=.seq ([]:List D1).toArray }).get? a=some (aR es ep t):=DZ _ ho
 have hT1:Shared.TypeIs { s with heap:=s.heap.push { cls :=.type "list",data :=.seq ([]:List D1).toArray } } (.ref a) "set" :=⟨_,ho1,rfl⟩
 refine DX (GX hT1 ?_)
 have h1:HF (.ref s.heap.objs.size) (.ref a)=false:=by simp[HF,hSa]
 have h2:(G0 "set" == G0 "list")=false:=by decide
 have h3:(G0 "set" == G0 "tuple")=false:=by decide
 simp only[h1,h2,h3,Ng,Ex,if_false]
 refine DX (MC hT1 MZ (FA MZ hT1 F9.me ?_ (F.args_set_iter_1 _)))
 unfold Builtin.«frozenset.__iter__» Builtin.Frozenset.slot0 slotArgs
 simp only[List.isEmpty_nil,F3,Ex, ↓reduceIte,bind_assoc,IV,bne_self_eq_false]
 unfold Builtin.Frozenset.addrOf Builtin.Frozenset.sizeOf
 refine DX (D3 ?_)
 try dsimp only
 refine DX (D3 ?_)
 refine DX (DX (LX ho1 rfl hf (D3 ?_)))
 refine DX ?_
 unfold setDrawn
 refine DX (bM ho1 T ?_)
 dsimp only
 refine DX (jT ?_)
 show Es _ _ (pure (!w.params.followText "set-order" && (!t.plain && decide (es.size>1)))) _ _ _
 rw[hp]
 simp only[F3,Io,Kg]
 refine D3 ?_
 simp only[Ex,if_false]
 refine DX (D3 ?_)
 refine DX (wpAny_setEpoch_of ho1 rfl hf ?_)
 refine DX (Fq (D3 ⟨_,rfl, "set_iterator",_,⟨_,Ed _ rfl,rfl⟩,F9.fN.lookup,?_⟩))
 have zit:(s.heap.push { cls :=.type "list",data :=.seq ([]:List D1).toArray }).objs.size=s.heap.objs.size+1:=z1
 show Es _ A.in1 (Jv [.ref (s.heap.push { cls :=.type "list",data :=.seq ([]:List D1).toArray }).objs.size] (Hf (.ref a)) >>= _) _ _ { s with heap:=(s.heap.push { cls :=.type "list",data :=.seq ([]:List D1).toArray }).push { cls :=.type "set_iterator",data :=.fields #[Kb 0,Kb 0,.ref a,Kb es.size,Kb ep] } }
 rw[zit]
 generalize hH:(s.heap.push { cls :=.type "list",data :=.seq ([]:List D1).toArray }).push { cls :=.type "set_iterator",data :=.fields #[Kb 0,Kb 0,.ref a,Kb es.size,Kb ep] }=H
 have kH:∀b o,(s.heap.push { cls :=.type "list",data :=.seq ([]:List D1).toArray }).get? b=some o->H.get? b=some o:=λb o e=>by rw[<- hH];exact DZ _ e
 have zH:H.objs.size=s.heap.objs.size+2:=by rw[<- hH,Gd,z1]
 have hit:jU H (s.heap.objs.size+1) a 0 0 es.size ep:=by
  unfold jU
  rw[<- hH, <- z1]
  exact Ed _ rfl
 have hT2:Shared.TypeIs { s with heap:=H } (.ref a) "set" :=⟨_,kH _ _ ho1,rfl⟩
 refine DX (Fe ?_)
 unfold Hf
 refine DX (JS hT2 F.slot_set_len.lookup ?_)
 dsimp only
 rw[show splitId "set.__len__" = some ("set", "__len__") by kernel_rfl]
 dsimp only
 refine DX (Iy hT2 sub_set_self ?_)
 simp only[F3,Ex,if_false]
 show Es _ _ (typeOf (.ref a) >>= _) _ _ _
 refine DX (GX hT2 ?_)
 refine D3 ?_
 show Es _ A.in1 (rule "list.extend.makes-room" >>= λ_=>Builtin.List.listTouch (.ref s.heap.objs.size) >>= λ_ =>
  again (.builtin "list.extend.loop" ⟨[.ref s.heap.objs.size,.ref (s.heap.objs.size+1),.ref s.heap.objs.size],[]⟩)) _ _ _
 refine DX (GQ ?_)
 have hS₁:H.get? s.heap.objs.size=some { cls :=.type "list",data :=.seq ([]:List D1).toArray }:=kH _ _ (Ed _ rfl)
 refine DX ?_
 show Es _ A.in1 (updateSeq s.heap.objs.size (·.push .none) >>= λ_=>updateSeq s.heap.objs.size (·.pop)) _ _ _
 refine DX (Gb (s:={ s with heap:=H }) hS₁ rfl ?_)
 have hS₂:=Fj (Fs (·.push GA)) hS₁ rfl
 refine Gb hS₂ rfl ?_
 have hS₃:=Fj (Fs (·.pop)) hS₂ rfl
 have oth:∀b o,b≠s.heap.objs.size->H.get? b=some o->((H.update s.heap.objs.size (Fs (·.push GA))).update s.heap.objs.size (Fs (·.pop))).get? b=some o :=
  λb o hb e=>(EG _ _ (F8 hb)).trans ((EG _ _ (F8 hb)).trans e)
 refine D3 ⟨FV HK _,qY (it:=s.heap.objs.size+1) (a:=a) (es:=es) (ep:=ep) (s:=s) hh (GV (Fz hlt)) (Ey (G1 _)) hSa hz es.size 0 _ _ _ rfl (EZ _)
  ⟨t,0,oth a _ (F8 hSa) (kH _ _ ho1),T,hl,hp,λ_=>tI T.rise,oth _ _ (GV (G1 _)) hit⟩ hS₃ rfl λh' acc' c' kk hS' ha =>?_⟩
 show Es _ A (load s.heap.objs.size >>= _) _ _ { s with heap:=h' }
 refine DX (Lp hS' ?_)
 have kf:∀b o,s.heap.get? b=some o->h'.get? b=some o:=λb o e=>by
  have:=Ej e
  exact kk b o (Ey this) (Ey (Fz this)) (oth b o (Ey this) (kH b o (DZ _ e)))
 refine D3 ?_
 rw[ha]
 exact h h' _ (oK w a es ep) kf (HU (Ej hS'))
end
open PySem PySem.SetTable PyProof.Rows Srt
def Kd.sub {prog:Eo}{w:ES}{κ:Type}(kd:Kd prog w κ)(M:D1->Prop):Kd prog w κ where
 El:=λh v k=>kd.El h v k/\M v
 hash:=kd.hash
 room:=kd.room
 keeps:=λx t=>⟨kd.keeps x.1 t,x.2⟩
 inj:=λx y=>kd.inj x.1 y.1
 add:=by
  intro A E s a es v k Q hr I els hv hz hin hnew
  refine kd.add hr I (λe he =>?_) hv.1 hz (λx tk htk=>hin ?_ tk htk) λx h' es' tk htk sb I' pm=>hnew ?_ h' es' tk htk sb I' pm
  ·obtain ⟨k',a1,a2,a3⟩:=els e he;exact ⟨k',a1,a2⟩
  ·obtain ⟨e,he,y⟩:=x
   obtain ⟨k',a1,a2,a3⟩:=els e he
   exact ⟨e,he,y,a3⟩
  ·rintro ⟨e,he,y,_⟩;exact x ⟨e,he,y⟩
section
variable  {prog:Eo}{w:ES}{A:Fi}{E:D1->D5->Prop}{s:D5}{O:JT}{key:D1->O.α}
theorem tQ {a:Addr}{es:Array (Int×D1)}{Q:D1->D5->Prop}(hh:A.handled=none)(I:dN w s.heap a es)(hz:es.size<300)(C:∀vs:List D1,vs.Perm (es.toList.map (·.2))->jh prog w s vs O key)
  (h:∀(h':Heap) (p:Addr) (out:List D1) (n:Nat),(∀b o,s.heap.get? b=some o->h'.get? b=some o)->s.heap.objs.size<=p->h'.get? p=some (seqObj "list" out.toArray n)->out.Perm (es.toList.map (·.2))->out.Pairwise (λx y=>O.kle (key x) (key y))->Q (.ref p) { s with heap:=h' }) :
  Es (EF prog w) A (call (.builtin "sorted") [.ref a]) Q E s:=by
 refine Iq LW Lj Lk (MG _) ?_
 unfold Builtin.«sorted»
 refine DX (m:=checkCount "sorted" 1 1 _) (D3 ?_)
 refine DX (qZ (by simpa using hh) I hz λh1 vs pv k1 z1 =>?_)
 have hz':vs.length<=Ei:=by
  rw[pv.length_eq,DY,D9]
  have:300<=Ei:=by rw[Ic];lia
  lia
 refine DX (Ij ?_ hz')
 have hoL:(h1.push (seqObj "list" vs.toArray 0)).get? h1.objs.size=some (seqObj "list" vs.toArray 0):=Ed _ rfl
 have kL:∀b o,s.heap.get? b=some o->(h1.push (seqObj "list" vs.toArray 0)).get? b=some o:=λb o e=>DZ _ (k1 b o e)
 refine DX (Fe (FA slot_list_sort ⟨_,hoL,rfl⟩ entry_list_sort (eM (key:=key) (O:=O) hoL hz' (λh2 h6 k6 =>?_) λout pm ps=>⟨_,rfl,?_⟩) (LI _)))
 ·exact (C vs pv).ok h2 _ h6 λb o e=>k6 b o (Ey (Er (Ej e) z1)) (kL b o e)
 ·obtain ⟨n,en⟩:=Mn (out:=out.toArray) hoL
  refine D3 ⟨_,rfl,h _ _ out n (λb o e =>?_) z1 en (pm.trans pv) ps⟩
  have lt:=Er (Ej e) z1
  rw[LJ (Ey lt) (by rw[Lu];exact Fz lt)]
  exact kL b o e
end
end STab
namespace L2
open PySem PySem.Spec PyProof.Rows
section
variable  {X:Cx}
def iI (w:ES)(a:Addr)(ys:List V):HO :=.ext λh=>∃es,STab.dN w h a es/\Vals ys (es.toList.map (·.2))
theorem vf {prog:Eo}{w:ES}{H:Hp}{h:Heap}{a:Addr}{ys:List V}{es:Array (Int×D1)}(I:STab.dN w h a es)(r:Vals ys (es.toList.map (·.2))):aX prog w (upd H a (iI w a ys)) h a (iI w a ys):=by
 refine ⟨⟨es,I,r⟩,?_,λh1 h2 ⟨es',I',r'⟩ k=>⟨es',I'.at k,r'⟩⟩
 obtain ⟨ep,t,ho,_⟩:=I
 exact ⟨_,ho⟩
theorem q8:∀{ns:List Int} {xs:List D1} {prog:Eo} {w:ES},He xs ns->ItemsAre (intKind prog w) ns xs
 | _,_,_,_,.nil =>.nil
 | _,_,_,_,.cons n t r =>.cons (Lv _ _ _ _) (q8 r)
theorem Inv.tk {pins:List (Addr×Obj)}{σ:St}{H:Hp}{s:D5}(I:Inv X pins σ H s){b:Addr}{ns:List Int}(h:SqT X.K H b (ns.map V.int)):STab.TK X.prog X.w s.heap ns b:=by
 obtain ⟨its,r,⟨o,e,c,n,d⟩,_⟩:=I.tuple h
 exact ⟨o,_,n,e,c,d,q8 (by simpa using cY r)⟩
theorem pull {α β:Type}{f:α -> β}{ts:List α}:∀{l:List β},(∀v∈l,∃t∈ts,v=f t)->∃us:List α,l=us.map f/\∀t∈us,t∈ts
 | [],_=>⟨[],rfl,λt h=>by cases h⟩
 | v :: l,h=>by
  obtain ⟨t,ht,e⟩:=h v D8
  obtain ⟨us,e2,m⟩:=pull (l:=l) λv' hv=>h v' (Eg _ hv)
  refine ⟨t :: us,by rw[Ez, <- e, <- e2],λt' ht' =>?_⟩
  rcases EB.mp ht' with rfl | h'
  ·exact ht
  ·exact m _ h'
theorem wK (hh:X.A.handled=none)(hu:X.A.units+64<cLine):bZ X (.type "set") (λxs H Q=>∃(p:Addr) (ts:List (Addr×List Int)),xs=[.ref p]/\(SqL X.K H p (ts.map λt =>.ref t.1)\/SqT X.K H p (ts.map λt =>.ref t.1))/\(∀t∈ts,SqT X.K H t.1 (t.2.map V.int))/\ts.length<300 ∧
  ∀(a:Addr) (us:List (Addr×List Int)),H a=none->(∀t∈us,t∈ts)->(us.map (·.2)).Nodup->(∀t∈ts,t.2∈us.map (·.2))->us.length<=ts.length->Q (.ref a) (upd H a (iI X.w a (us.map λt =>.ref t.1)))):=by
 intro pins s σ H xs vs Q I r h
 obtain ⟨p,ts,rfl,hs,ht,hl,q⟩:=h
 obtain ⟨u,rfl,ru⟩:=vals1 r
 cases (show u=Eu p from ru)
 have goal:∀(items:Array D1),items.toList=(ts.map λt=>Eu t.1)->∀(h':Heap) (es:Array (Int×D1)) (tk:Nat),s.toks<=tk->STab.dN X.w h' s.heap.objs.size es->STab.Good ((STab.kD X.prog X.w).sub (· ∈ items.toList)) h' es (ts.map (·.2)) →
   (∀b o,s.heap.get? b=some o->h'.get? b=some o)->EP X pins σ Q (.ref s.heap.objs.size) { s with heap:=h',toks:=tk }:=by
  intro items ei h' es tk _ S G k
  obtain ⟨us,eu,mu⟩:=pull (f:=λt:Addr×List Int=>Eu t.1) (ts:=ts) (l:=es.toList.map (·.2)) (λv hv=>by
   obtain ⟨e,he,rfl⟩:=EK.mp hv
   obtain ⟨_,_,_,_,m⟩:=G.el e (EW.mp he)
   rw[ei] at m
   obtain ⟨t,ht',e'⟩:=EK.mp m
   exact ⟨t,ht',e'.symm⟩)
  have tk':∀t∈us,STab.TK X.prog X.w h' t.2 t.1:=λt m=>(I.tk (ht t (mu t m))).keep λb o _ e=>k b o e
  have elu:∀t∈us,((STab.kD X.prog X.w).sub (· ∈ items.toList)).El h' (.ref t.1) t.2:=λt m=>⟨⟨t.1,rfl,tk' t m⟩,by
   rw[ei];exact EK.mpr ⟨t,mu t m,rfl⟩⟩
  have nd:(us.map (·.2)).Nodup:=by
   have d:=G.dis
   have d2:(es.toList.map (·.2)).Pairwise (λv v'=>∀k,((STab.kD X.prog X.w).sub (· ∈ items.toList)).El h' v k->¬ ((STab.kD X.prog X.w).sub (· ∈ items.toList)).El h' v' k):=by
    rw[Fh];exact d
   rw[eu,Fh] at d2
   unfold List.Nodup
   rw[Fh]
   refine d2.imp_of_mem λ{t t'} m m' x e=>x t.2 (elu t m) ?_
   have:=elu t' m'
   rw[<- e] at this
   exact this
  have cov:∀t∈ts,t.2∈us.map (·.2):=λt m=>by
   obtain ⟨e,he,x,_⟩:=G.all t.2 (EK.mpr ⟨t,m,rfl⟩)
   have:e.2∈us.map λt=>Eu t.1:=by rw[<- eu];exact EK.mpr ⟨e,EW.mpr he,rfl⟩
   obtain ⟨u,hu',e'⟩:=EK.mp this
   obtain ⟨b,eb,x⟩:=x
   rw[<- e'] at eb
   injection eb with eb
   subst eb
   exact EK.mpr ⟨u,hu',(tk' u hu').inj x⟩
  have hlen:us.length<=ts.length:=by
   have:=G.len
   rw[DY] at this
   have e2:=congrArg List.length eu
   rw[DY,DY,D9] at e2
   lia
  refine ⟨.ref s.heap.objs.size,_,I.laid k (D6 _) (vf (ys:=us.map λt=>V.ref t.1) S (by rw[eu];exact eX)),rfl,q _ us (I.hok.fresh (D6 _)) mu nd cov hlen⟩
 have rm:((STab.kD X.prog X.w).sub (λv=>True)).room X.A.in1.in1.in1:=by show X.A.units+1+1+1<cLine;lia
 have itm:∀(its:List D1),its=(ts.map λt=>Eu t.1)->∀(i:Nat) (v:D1),its.toArray[i]? = some v->∃q,(ts.map (·.2))[i]? = some q/\((STab.kD X.prog X.w).sub (· ∈ its.toArray.toList)).El s.heap v q:=by
  intro its ei i v hv
  rw[Fd,ei,En] at hv
  cases ht':ts[i]? with
  | none=>rw[ht'] at hv;cases hv
  | some t =>
   rw[ht'] at hv
   cases hv
   have m:=Eb ht'
   refine ⟨t.2,by rw[En,ht'];rfl,⟨t.1,rfl,I.tk (ht t m)⟩,?_⟩
   show Eu t.1∈its
   rw[ei]
   exact EK.mpr ⟨t,m,rfl⟩
 rcases hs with hs | hs
 ·obtain ⟨its,rv,⟨o,n,e,c,dn,d⟩,z⟩:=I.list hs
  have ei:=dR rv
  have lz:its.length=ts.length:=by rw[ei,DY]
  refine STab.call_set_list (kd:=(STab.kD X.prog X.w).sub (· ∈ its.toArray.toList)) (items:=its.toArray) (ks:=ts.map (·.2)) hh rm ⟨o,e,c,n,d⟩ (by simp[lz]) (λi v hv =>?_) (by simpa [lz] using hl) (goal its.toArray (by simpa using ei))
  exact itm its ei i v hv
 ·obtain ⟨its,rv,⟨o,e,c,n,d⟩,z⟩:=I.tuple hs
  have ei:=dR rv
  have lz:its.length=ts.length:=by rw[ei,DY]
  refine STab.gH (kd:=(STab.kD X.prog X.w).sub (· ∈ its.toArray.toList)) (items:=its.toArray) (ks:=ts.map (·.2)) hh rm ⟨o,e,c,n,d⟩ (by simp[lz]) (λi v hv =>?_) (by simpa [lz] using hl) (goal its.toArray (by simpa using ei))
  exact itm its ei i v hv
theorem wL (hh:X.A.handled=none):bZ X (.type "set") (λxs H Q=>∃(p:Addr) (ns:List Int),xs=[.ref p]/\(SqL X.K H p (ns.map V.int)\/SqT X.K H p (ns.map V.int))/\ns.length<300 ∧
  ∀(a:Addr) (us:List Int),H a=none->(∀k,k∈us↔k∈ns)->us.Nodup->us.length<=ns.length->Q (.ref a) (upd H a (iI X.w a (us.map V.int)))):=by
 intro pins s σ H xs vs Q I r h
 obtain ⟨p,ns,rfl,hs,hl,q⟩:=h
 obtain ⟨u,rfl,ru⟩:=vals1 r
 cases (show u=Eu p from ru)
 have goal:∀(h':Heap) (es:Array (Int×D1)) (tk:Nat),s.toks<=tk->STab.dN X.w h' s.heap.objs.size es->STab.Good (STab.vb X.prog X.w) h' es ns →
   (∀b o,s.heap.get? b=some o->h'.get? b=some o)->EP X pins σ Q (.ref s.heap.objs.size) { s with heap:=h',toks:=tk }:=by
  intro h' es tk _ S G k
  have sh:∀v∈es.toList.map (·.2),∃k t,v=F7 k t:=λv hv=>by
   obtain ⟨e,he,rfl⟩:=EK.mp hv
   obtain ⟨k',_,_,t,e'⟩:=G.el e (EW.mp he)
   exact ⟨k',t,e'⟩
  have ru:=fJ (eV sh)
  have mem:∀k,k∈(es.toList.map (·.2)).map Srt.intOf↔k∈ns:=λk=>by
   constructor
   ·intro m
    obtain ⟨v,hv,rfl⟩:=EK.mp m
    obtain ⟨e,he,rfl⟩:=EK.mp hv
    obtain ⟨k',mk,_,t,e'⟩:=G.el e (EW.mp he)
    rw[e'];exact mk
   ·intro m
    obtain ⟨e,he,t,e'⟩:=G.all k m
    exact EK.mpr ⟨e.2,EK.mpr ⟨e,EW.mpr he,rfl⟩,by rw[e'];rfl⟩
  have nd:((es.toList.map (·.2)).map Srt.intOf).Nodup:=by
   unfold List.Nodup
   rw[Fh,Fh]
   refine G.dis.imp_of_mem λ{e e'} m m' x y =>?_
   obtain ⟨k1,_,_,t1,e1⟩:=G.el e (EW.mp m)
   obtain ⟨k2,_,_,t2,e2⟩:=G.el e' (EW.mp m')
   rw[e1,e2] at y
   have y':k1=k2:=y
   subst y'
   exact x k1 ⟨t1,e1⟩ ⟨t2,e2⟩
  refine ⟨.ref s.heap.objs.size,_,I.laid k (D6 _) (vf S ru),rfl,q _ _ (I.hok.fresh (D6 _)) mem nd (by rw[DY,DY,D9];exact G.len)⟩
 have itm:∀(its:List D1),Vals (ns.map V.int) its->∀(i:Nat) (v:D1),its.toArray[i]? = some v->∃q,ns[i]? = some q/\(STab.vb X.prog X.w).El s.heap v q:=by
  intro its rv i v hv
  have hI:=cY rv
  obtain ⟨t,e⟩:=IntsAre.int_at hI i v (by rw[Fd] at hv;exact hv)
  have hlt:i<ns.length:=by
   have:=hI.length
   rw[Fd] at hv
   have:=(Ea.mp hv).1
   lia
  refine ⟨ns.getD i 0,?_,t,e⟩
  rw[Ew,Ec hlt]
  rfl
 rcases hs with hs | hs
 ·obtain ⟨its,rv,⟨o,n,e,c,dn,d⟩,z⟩:=I.list hs
  have lz:its.length=ns.length:=by have:=rv.length;rw[DY] at this;exact this.symm
  exact STab.call_set_list (kd:=STab.vb X.prog X.w) (items:=its.toArray) (ks:=ns) hh trivial ⟨o,e,c,n,d⟩ (by simp[lz]) (itm its rv) (by simpa [lz] using hl) goal
 ·obtain ⟨its,rv,⟨o,e,c,n,d⟩,z⟩:=I.tuple hs
  have lz:its.length=ns.length:=by have:=rv.length;rw[DY] at this;exact this.symm
  exact STab.gH (kd:=STab.vb X.prog X.w) (items:=its.toArray) (ks:=ns) hh trivial ⟨o,e,c,n,d⟩ (by simp[lz]) (itm its rv) (by simpa [lz] using hl) goal
theorem Inv.iI {pins:List (Addr×Obj)}{σ:St}{H:Hp}{s:D5}(I:Inv X pins σ H s){a:Addr}{ys:List V}(h:H a=some (iI X.w a ys)):∃es,STab.dN X.w s.heap a es/\Vals ys (es.toList.map (·.2)):=by
 exact (I.hok a _ h).1
theorem nI (hh:X.A.handled=none):bZ X (.builtin "sorted") (λxs H Q=>∃(a:Addr) (ts:List (Addr×List Int)),xs=[.ref a]/\H a=some (iI X.w a (ts.map λt =>.ref t.1))/\(∀t∈ts,SqT X.K H t.1 (t.2.map V.int)/\t.2≠[])/\ts.length<300 ∧
  ∀(l:Addr) (out:List (Addr×List Int)),H l=none->out.Perm ts->out.Pairwise (λa b=>HT.lexLt b.2 a.2=false)->Q (.ref l) (upd H l (.lst (out.map λt =>.ref t.1)))):=by
 intro pins s σ H xs us Q I r h
 obtain ⟨a,ts,rfl,hs,ht,hl,q⟩:=h
 obtain ⟨u,rfl,ru⟩:=vals1 r
 cases (show u=Eu a from ru)
 obtain ⟨es,S,rv⟩:=I.iI hs
 have ei:=dR rv
 have lz:es.size=ts.length:=by have:=rv.length;simp at this;lia
 have tup:∀t∈ts,Srt.dY s.heap (Eu t.1) t.2:=λt hm=>by
  obtain ⟨jts,jr,⟨jo,je,jc,jn,jd⟩,_⟩:=I.tuple (ht t hm).1
  exact ⟨t.1,jo,_,jn,rfl,je,jc,jd,by simpa using cY jr⟩
 have hv:∀v∈es.toList.map (·.2),∃ns,Srt.dY s.heap v ns/\ns≠[]:=λv hv=>by
  rw[ei] at hv
  obtain ⟨t,hm,rfl⟩:=EK.mp hv
  exact ⟨t.2,tup t hm,(ht t hm).2⟩
 refine STab.tQ (O:=Srt.lexOrd) (key:=Srt.dh s.heap) hh S (by lia) (λvs pv=>Srt.jj λv hm=>hv v (pv.mem_iff.mp hm)) λh' l out m k hl' el pm ps =>?_
 rw[ei] at pm
 obtain ⟨out',pm',rfl⟩:=iH pm
 have z:ts.length<=Ei:=by have:300<=Ei:=(by rw[Ic];lia);lia
 refine ⟨.ref l,_,I.newList k hl' el eX (by rw[DY,pm'.length_eq];exact z),rfl,q l _ (I.hok.fresh hl') pm' ?_⟩
 refine (Fh.mp ps).imp_of_mem λ{a b} ha hb le =>?_
 have le':HT.lexLt (Srt.dh s.heap (Eu b.1)) (Srt.dh s.heap (Eu a.1))=false:=le
 rw[(tup a (pm'.mem_iff.mp ha)).ints,(tup b (pm'.mem_iff.mp hb)).ints] at le'
 exact le'
end
section
variable  {X:Cx}{w:ES}
theorem tR (hw:X.w=w)(hh:X.A.handled=none)(hu:X.A.units+64<cLine):bZ X (.type "set") (λxs H Q=>∃(p:Addr) (ts:List (Addr×List Int)),xs=[.ref p]/\(SqL X.K H p (ts.map λt =>.ref t.1)\/SqT X.K H p (ts.map λt =>.ref t.1))/\(∀t∈ts,SqT X.K H t.1 (t.2.map V.int))/\ts.length<300 ∧
  ∀(a:Addr) (us:List (Addr×List Int)),H a=none->(∀t∈us,t∈ts)->(us.map (·.2)).Nodup->(∀t∈ts,t.2∈us.map (·.2))->us.length<=ts.length->Q (.ref a) (upd H a (iI w a (us.map λt =>.ref t.1)))):=by
 subst hw
 exact wK hh hu
theorem mh (hw:X.w=w)(hh:X.A.handled=none):bZ X (.builtin "sorted") (λxs H Q=>∃(a:Addr) (ts:List (Addr×List Int)),xs=[.ref a]/\H a=some (iI w a (ts.map λt =>.ref t.1))/\(∀t∈ts,SqT X.K H t.1 (t.2.map V.int)/\t.2≠[])/\ts.length<300 ∧
  ∀(l:Addr) (out:List (Addr×List Int)),H l=none->out.Perm ts->out.Pairwise (λa b=>HT.lexLt b.2 a.2=false)->Q (.ref l) (upd H l (.lst (out.map λt =>.ref t.1)))):=by
 subst hw
 exact nI hh
end
section
variable  {X:Cx}
def tBMT (r:V->List V->Hp->VK->Prop)(to:TE)(t:TA):TE:=λσ H Q=>to σ H λx H1=>(∃p xs,x = .ref p/\H1 p=some (.tup xs))/\t σ H1 λxs H2=>r x xs H2 Q
theorem Cq {o e:Expr}{es:List Expr}{to:TE}{t:TA}{name:Str}{apos cpos:Pos}{id:String}{r:V->List V->Hp->VK->Prop}(slot:Slot "tuple" name id)(hty:typeOf (.builtin id)=pure (.type "method_descriptor"))(hm:MtR X id r)(ho:PE X o to)(ha:PA X (e :: es) t)
  (hbase:attributeBase o name X.env (eval o X.env)=eval o X.env:=by rfl)
  (hfew:((Ig cpos (E5 (e :: es) X.env)).all (λx => !x.1) && (backToKw cpos (keywordEach [] X.env)).all (λx=>x.1.isSome)
   && decide ((e :: es).length+([]:List Keyword).length+(if ([]:List Keyword).isEmpty then 0 else 1)<30))=true:=by rfl)
  (hline:(apos.endLine == cpos.line)=true:=by rfl) (hs:E5 (e :: es) X.env=(false,eval e X.env) :: E5 es X.env:=by rfl) (hplain:(Ig cpos (E5 es X.env)).any (·.1)=false:=by rfl) :
  PE X (.Call (.Attribute o name apos) (e :: es) [] cpos) (tBMT r to t):=by
 intro pins s σ H Q I h
 refine K2 hbase hfew hline rfl (thn (ho pins s σ H _ I h) λv s1 ⟨x,H1,I1,r1,ty,q1⟩ =>?_)
 obtain ⟨p,xs,rfl,hp⟩:=ty
 cases (show v=Eu p from r1)
 obtain ⟨_,its,_,ob,e1,⟨c1,d1⟩,n,s1'⟩:=(show aX X.prog X.w H1 s1.heap p (.tup xs) from I1.hok p _ hp)
 refine ⟨"tuple",id,PySem.F.plainAttrs_tuple,slot,hty,⟨ob,e1,c1⟩,λa e=>by cases e;exact ⟨ob,e1,d1⟩,?_⟩
 have hA:=ha cpos pins s1 σ H1 _ I1 q1
 rw[hs] at hA ⊢
 refine Jd (by show (false || (Ig cpos (E5 es X.env)).any (·.1))=false;rw[hplain] <;> rfl) (Jw ?_)
 exact thn hA λus s2 ⟨vs,H2,I2,r2,q2⟩=>hm pins s2 σ H2 (.ref p) vs _ us Q I2 rfl r2 q2
theorem wM {A:Fi}{s:D5}{k:Int}{t:Tok}{its:List D1}{ns:List Int}(hi:He its ns):∀y,y∈its.toArray->JE A s y (.int k t) (isInt k y):=λy hy =>
 (eq_isInt k t hi y (by simpa using hy)).at _ _
theorem wN:MtR X "tuple.count" (λx vs H Q=>∃(p:Addr) (ns:List Int) (k:Int),x = .ref p/\vs=[.int k]/\H p=some (.tup (ns.map V.int))/\Q (.int (ns.count k:Nat)) H):=by
 intro pins s σ H x vs v us Q I rx rv h
 obtain ⟨p,ns,k,rfl,rfl,hp,q⟩:=h
 cases rx
 obtain ⟨u,rfl,⟨t,rfl⟩⟩:=vals1 rv
 obtain ⟨z,its,r,ob,e1,⟨c1,d1⟩,n,s1⟩:=(show aX X.prog X.w H s.heap p (.tup _) from I.hok p _ hp)
 have hi:He its ns:=intsAre_of r
 obtain ⟨cls,dd,data,sl⟩:=ob
 simp only at c1 s1
 subst c1 s1
 refine IK Kn ⟨_,e1,rfl⟩ PySem.F.entry_tuple_count (PySem.F.args_tuple_count_2 _ _) (SeqAt.tuple_countAt p its.toArray n dd sl (.int k t) (isInt k)) ⟨e1,λy hy=>wM hi y hy,?_⟩
 rw[show its.toArray.toList=its from rfl,countP_isInt k hi]
 exact ⟨.int _,H,I.tok _,⟨_,rfl⟩,q⟩
theorem wO:MtR X "list.count" (λx vs H Q=>∃(p:Addr) (ns:List Int) (k:Int),x = .ref p/\vs=[.int k]/\H p=some (.lst (ns.map V.int))/\Q (.int (ns.count k:Nat)) H):=by
 intro pins s σ H x vs v us Q I rx rv h
 obtain ⟨p,ns,k,rfl,rfl,hp,q⟩:=h
 cases rx
 obtain ⟨u,rfl,⟨t,rfl⟩⟩:=vals1 rv
 obtain ⟨z,its,n,r,e1⟩:=(show aX X.prog X.w H s.heap p (.lst _) from I.hok p _ hp)
 have hi:He its ns:=intsAre_of r
 exact count_list_ints ⟨_,e1,rfl,n,rfl⟩ hi ⟨.int _,H,I.tok _,⟨_,rfl⟩,q⟩
theorem kE:∀{its:List D1} {ns:List Int},He its ns->∃xs:List (Int×Tok),its=xs.map (λp=>F7 p.1 p.2)/\xs.map (·.1)=ns
 | _,_,.nil=>⟨[],rfl,rfl⟩
 | _,_,.cons n t r=>by
  obtain ⟨xs,e1,e2⟩:=kE r
  exact ⟨(n,t) :: xs,by rw[Ez, <- e1],by rw[Ez,e2]⟩
theorem q9 (hh:X.A.handled=none):bZ X (.builtin "sum") (λxs H Q=>∃(p:Addr) (ns:List Int),xs=[.ref p]/\H p=some (.lst (ns.map V.int))/\Q (.int ns.sum) H):=by
 intro pins s σ H xs us Q I r h
 obtain ⟨p,ns,rfl,hp,q⟩:=h
 obtain ⟨u,rfl,ru⟩:=vals1 r
 cases (show u=Eu p from ru)
 obtain ⟨z,its,n,r,e1⟩:=(show aX X.prog X.w H s.heap p (.lst _) from I.hok p _ hp)
 obtain ⟨zs,e2,e3⟩:=kE (intsAre_of r)
 have ei:its.toArray=intItems zs.toArray:=by rw[e2];simp[intItems]
 refine sum_intListG hh (xs:=zs.toArray) ⟨_,e1,rfl,n,by rw[ei]⟩ λh' tk t' k =>?_
 rw[preSum_eq,Et (by simp),e3]
 exact ⟨.int _,H,I.kept k,⟨_,rfl⟩,q⟩
end
end L2
namespace HT
open PySem PySem.Spec PyProof.Rows
section
variable  {prog:Eo}{w:ES}{A:Fi}{E:D1->D5->Prop}{s:D5}
theorem ir {t sl:Addr}{items:Array D1}{vl vu:D1}{lo hi:Option Int}{Q:D1->D5->Prop}(ht:IsTup s.heap t items)(hs:s.heap.IsSliceOf sl vl vu .none)(pl:IsPart vl lo)(pu:IsPart vu hi)
  (hw:sIx items.size 0 lo=0/\sIx items.size items.size hi=items.size) (h:Q (.ref t) s):Es (EF prog w) A (getItem (.ref t) (.ref sl)) Q E s:=by
 obtain ⟨os,hos,hcs,hds⟩:=id hs
 have hTs:s.TypeIs (.ref sl) "slice" :=⟨os,hos,hcs⟩
 unfold getItem
 try with_reducible refine Fe ?_
 first | refine DX (D3 ?_) | skip
 refine DX (MB ht.typeIs (by decide) ?_)
 refine DX (FD (name:=Str.ofString "__getitem__") ht.typeIs FL
  (FA FL ht.typeIs entry_tuple_getitem ?_ (Mm _ _)))
 show Es _ _ (Builtin.Tuple.tupleItemsOf (.ref t) >>= _) _ _ s
 refine DX (tupleItemsOf_ ht ?_)
 refine DX (GX hTs ?_)
 rw[if_pos (by decide)]
 refine DX (eU hs pl pu ?_)
 show Es _ _ (if (((sIx items.size 0 lo:Nat):Int) == 0 && (1:Int) == 1 && (sIx items.size items.size hi-sIx items.size 0 lo) == items.size)=true then _ else _) _ _ s
 rw[hw.1,hw.2,if_pos (by simp)]
 unfold Builtin.Tuple.tupleIsExact
 refine DX (DX (GX ht.typeIs (D3 ?_)))
 rw[if_pos (by decide)]
 exact DX (GQ (D3 ⟨_,rfl,D3 h⟩))
end
end HT
namespace L2
open PySem PySem.Spec PyProof.Rows
section
variable  {X:Cx}
theorem vg:SlR X (λx lo hi H Q=>∃a xs,x = .ref a/\SqT X.K H a xs/\((HT.sIx xs.length 0 lo=0/\HT.sIx xs.length xs.length hi=xs.length)->Q (.ref a) H) ∧
  (¬ (HT.sIx xs.length 0 lo=0/\HT.sIx xs.length xs.length hi=xs.length)->∀p,H p=none->Q (.ref p) (upd H p (.tup (iF xs lo hi))))):=by
 intro pins s σ H x v vl vu lo hi sl Q I rx hs pl pu h
 obtain ⟨a,xs,rfl,hx,q1,q2⟩:=h
 by_cases hw:HT.sIx xs.length 0 lo=0/\HT.sIx xs.length xs.length hi=xs.length
 ·cases rx
  obtain ⟨its,r,ht,hz⟩:=I.tuple hx
  have hlen:its.toArray.size=xs.length:=by rw[D4];exact r.length.symm
  refine ⟨"tuple",_,FL.lookup,ht.typeIs,?_⟩
  exact HT.ir ht hs pl pu (by rw[hlen];exact hw) ⟨.ref a,H,I,rfl,q1 hw⟩
 ·exact BY pins s σ H _ v vl vu lo hi sl Q I rx hs pl pu ⟨a,xs,rfl,hx,hw,q2 hw⟩
theorem dA:bZ X (.type "range") (λxs H Q=>∃n:Int,xs=[.int n]/\∀a,H a=none->Q (.ref a) (upd H a (.rng 0 n))):=by
 intro pins s σ H xs us Q I r h
 obtain ⟨n,rfl,q⟩:=h
 obtain ⟨u,rfl,⟨t,rfl⟩⟩:=vals1 r
 refine call_range_1 ?_
 exact ⟨.ref s.heap.objs.size,_,I.laid (o :=.rng 0 n) (λb ob q=>DZ _ q) (D6 _) ⟨_,_,_,Ed _ rfl⟩,rfl,q _ (I.hok.fresh (D6 _))⟩
end
section
variable  {prog:Eo}{w:ES}{A:Fi}{E:D1->D5->Prop}{s:D5}
theorem nJ {R:List D1->D5->Prop}{r:Addr}{n:Nat}{t u v:Tok}(hh:A.handled=none)(hr:IsRange s.heap r 0 n 1 t u v)(hn:n<=2 ^ 24)
    (h:∀(h1:Heap) (tk:Nat) (vs:List D1),vs.length=n->(∀(i:Nat) (x:D1),vs[i]? = some x->∃t,x = .int i t)->(∀b o,s.heap.get? b=some o->h1.get? b=some o)->R vs { s with heap:=h1,toks:=tk }) :
    Es (EF prog w) A (collect (.ref r)) R E s:=by
  have hlt:r<s.heap.objs.size:=Ej (show s.heap.get? r=some _ from hr)
  unfold collect
  refine DX (Iv (E6 PySem.F.entry_proto_collect ?_))
  rw[EY PySem.F.plain_proto_collect _]
  show Es _ A.in1 (newList [] >>= λl=>again (.builtin "list.__iadd__" ⟨[l,.ref r],[]⟩)) _ _ s
  refine DX (Fq ?_)
  refine D3 ⟨FV Kv _,E6 PySem.F.entry_list_iadd ?_⟩
  rw[EY Kv _]
  show Es _ A.in1 (Fn (.ref s.heap.objs.size) (.ref r) (.ref s.heap.objs.size)) _ _ { s with heap:=s.heap.push { cls :=.type "list",data :=.seq ([]:List D1).toArray } }
  have hr1:IsRange (s.heap.push { cls :=.type "list",data :=.seq ([]:List D1).toArray }) r 0 n 1 t u v:=DZ _ hr
  have rs:Builtin.Range.rangeSize 0 (n:Int) 1=(n:Int):=by
    rw[Mk]
    split <;> lia
  have hlen24:n<=16777216:=hn
  have hS0:(s.heap.push { cls :=.type "list",data :=.seq ([]:List D1).toArray }).get? s.heap.objs.size=some { cls :=.type "list",data :=.seq #[] 0 }:=Ed _ rfl
  refine wpAny_extend_range (A:=A) (R:=λres s'=>match res with
      | .ok (.ret v)=>Es (EF prog w) A (match v with | .ref a=>(do match (← load a).data with | .seq xs _=>pure xs.toList | _=>unsupported "internal:collect") | _=>unsupported "internal:collect") R E s'
      | .ok _=>False
      | .error e=>E e s') (s:={ s with heap:=s.heap.push { cls :=.type "list",data :=.seq ([]:List D1).toArray } }) hh hr1 (small_one (by lia) (by lia) (by lia) (by lia)) rs hn s.heap.objs.size (.ref s.heap.objs.size) 0 hS0 λh' tk acc' c' kk hS' hacc =>?_
  show Es _ A (load s.heap.objs.size >>= _) _ _ { s with heap:=h',toks:=tk }
  refine DX (Lp hS' ?_)
  refine D3 (h h' tk acc'.toList (by rw[D9];exact hacc.1) (λi x hx =>?_) λb o e=>kk b o (Ey (Ej e)) (DZ _ e))
  rw[Em] at hx
  obtain ⟨t',e⟩:=hacc.2 i x hx
  exact ⟨t',by rw[e];simp⟩
theorem gs (r:Addr)(n:Nat)(t u v:Tok)(hn:n<=1000) :
  Meets (Builtin.«tuple.__new__» ⟨[.type "tuple",.ref r],[]⟩)
   (λA R s=>A.handled=none/\IsRange s.heap r 0 n 1 t u v/\∀(h':Heap) (tk:Nat) (vs:List D1),vs.length=n->(∀(i:Nat) (x:D1),vs[i]? = some x->∃t,x = .int i t)->(∀b o',s.heap.get? b=some o'->h'.get? b=some o')->R (.ok (.ret (.ref h'.objs.size))) { s with heap:=h'.push { cls :=.type "tuple",data :=.seq vs.toArray },toks:=tk }) :=
 .of_wp λprog w A R s h=>by
  obtain ⟨hp,g,d,tk,os⟩:=s;obtain ⟨hh,ht,h⟩:=h
  have hsub:=sub_tuple_self
  have hinit:=init_tuple_lookup
  have hmh:=madeHere_tuple
  have hT:Shared.TypeIs ⟨hp,g,d,tk,os⟩ (.ref r) "range" :=⟨_,ht,rfl⟩
  wp_walk using GX hT,nJ (by simpa using hh) ht (by lia)
  intro h' tk' vs lv hv hk
  show Es _ _ (Builtin.Tuple.tupleExact vs.toArray >>= λv=>ret v) _ _ _
  unfold Builtin.Tuple.tupleExact
  refine DX (Fq ?_ (by show vs.toArray.size<=Ei;rw[D4,lv];exact small hn))
  exact D3 ⟨_,rfl,h h' tk' vs lv hv hk⟩
end
section
variable  {X:Cx}
theorem mi:∀{vs:List D1},(∀(i:Nat) (x:D1),vs[i]? = some x->∃t,x=F7 i t)->Vals ((E2 vs.length).map λi=>V.int (i:Nat)) vs:=by
 suffices h:∀(vs:List D1) (k:Nat),(∀(i:Nat) (x:D1),vs[i]? = some x->∃t,x=F7 ((i+k:Nat):Int) t)->Vals ((List.range' k vs.length).map λi=>V.int (i:Nat)) vs by
  intro vs hv
  have:=h vs 0 hv
  rw[List.range_eq_range']
  exact this
 intro vs
 induction vs with
 | nil=>intro k _;exact .nil
 | cons x vs ih =>
  intro k hv
  rw[EI,List.range'_succ,Ez]
  refine .cons ?_ (ih (k+1) λi y hy =>?_)
  ·obtain ⟨t,e⟩:=hv 0 x rfl
   exact ⟨t,by rw[e,Hm]⟩
  ·obtain ⟨t,e⟩:=hv (i+1) y (by rw[G5];exact hy)
   exact ⟨t,by rw[e,show i+1+k=i+(k+1) by lia]⟩
theorem gI (hh:X.A.handled=none):bZ X (.type "tuple") (λxs H Q=>∃(a:Addr) (n:Nat),xs=[.ref a]/\H a=some (.rng 0 n)/\n<=1000/\∀l,H l=none->Q (.ref l) (upd H l (.tup ((E2 n).map λi=>V.int (i:Nat))))):=by
 intro pins s σ H xs us Q I r h
 obtain ⟨a,n,rfl,ha,hn,q⟩:=h
 obtain ⟨u,rfl,ru⟩:=vals1 r
 cases (show u=Eu a from ru)
 obtain ⟨t,u,v,e⟩:=(show aX X.prog X.w H s.heap a (.rng 0 n) from I.hok a _ ha)
 refine callType_new PySem.F.called_tuple (by decide) (PySem.F.typeCall_tuple_1 _) (PySem.F.newCall_tuple_1 _) (λobj=>PySem.F.args_object_init_2 obj _) PySem.F.entry_tuple_new
  (gs a n t u v hn) ⟨by simpa using hh,e,λh' tk vs lv hv k=>⟨⟨_,Ed _ rfl,rfl⟩,?_⟩⟩
 have I1:Inv X pins σ H { s with heap:=h',toks:=tk }:=I.kept k
 have rv:=mi hv
 rw[lv] at rv
 exact ⟨.ref h'.objs.size,_,I1.laid (o :=.tup ((E2 n).map λi=>V.int (i:Nat))) (λb ob q=>DZ _ q) (D6 _) ⟨by rw[DY,FZ];exact small hn,vs,rv,eG.new _ _⟩,rfl,q _ (I1.hok.fresh (D6 _))⟩
end
section
variable  {κ:Type}[DecidableEq κ]
def bT (kvs:List (κ×V))(k:κ):Option V:=(kvs.find? λkv=>decide (kv.1=k)).map (·.2)
def putK (kvs:List (κ×V))(k:κ)(v:V):List (κ×V) :=
 if (kvs.any λkv=>decide (kv.1=k))=true then kvs.map (λkv=>if kv.1=k then (kv.1,v) else kv) else kvs++[(k,v)]
theorem bV {p:κ×V}{r:List (κ×V)}{k:κ}(e:p.1=k):bT (p :: r) k=some p.2:=by simp[bT,Hy,e]
theorem bW {p:κ×V}{r:List (κ×V)}{k:κ}(e:¬ p.1=k):bT (p :: r) k=bT r k:=by simp[bT,Hy,e]
theorem d7 (k:κ):∀kvs:List (κ×V),(kvs.any λkv=>decide (kv.1=k))=(bT kvs k).isSome
 | []=>rfl
 | p :: r=>by
  rw[IQ]
  by_cases e:p.1=k
  ·simp only[bV e,decide_eq_true e,Bool.true_or,Option.isSome_some]
  ·rw[bW e,decide_eq_false e,Nh];exact d7 k r
theorem rd (k j:κ)(y:V):∀kvs:List (κ×V),bT (kvs.map λkv=>if kv.1=k then (kv.1,y) else kv) j=(bT kvs j).map λx=>if j=k then y else x
 | []=>rfl
 | p :: r=>by
  have ih:=rd k j y r
  rw[Ez]
  by_cases h:p.1=k
  ·rw[if_pos h]
   by_cases e:p.1=j
   ·rw[bV (p:=(p.1,y)) e,bV e,Hu,if_pos (e.symm.trans h)]
   ·rw[bW (p:=(p.1,y)) e,bW e,ih]
  ·rw[if_neg h]
   by_cases e:p.1=j
   ·rw[bV (p:=p) e,bV e,Hu,if_neg (λz=>h (e.trans z))]
   ·rw[bW (p:=p) e,bW e,ih]
theorem oM (k j:κ)(y:V):∀kvs:List (κ×V),bT kvs k=none->bT (kvs++[(k,y)]) j=if j=k then some y else bT kvs j
 | [],_=>by
  by_cases e:k=j
  ·rw[if_pos e.symm];exact bV (p:=(k,y)) e
  ·rw[if_neg (λz=>e z.symm)];exact bW (p:=(k,y)) e
 | p :: r,hn=>by
  rw[KL]
  have hk:¬ p.1=k:=λz=>by rw[bV z] at hn;cases hn
  rw[bW hk] at hn
  have ih:=oM k j y r hn
  by_cases e:p.1=j
  ·rw[bV e,bV e,if_neg (λz=>hk (e.trans z))]
  ·rw[bW e,bW e,ih]
theorem jm (kvs:List (κ×V))(k j:κ)(y:V):bT (putK kvs k y) j=if j=k then some y else bT kvs j:=by
 unfold putK
 by_cases a:(kvs.any λkv=>decide (kv.1=k))=true
 ·rw[if_pos a,rd]
  rw[d7] at a
  by_cases e:j=k
  ·obtain ⟨x,hx⟩:=IG.mp a
   rw[if_pos e,e,hx,Hu,if_pos rfl]
  ·rw[if_neg e]
   cases bT kvs j with
   | none=>rfl
   | some x=>rw[Hu,if_neg e]
 ·rw[if_neg a]
  refine oM k j y kvs ?_
  rw[d7] at a
  cases q:bT kvs k with
  | none=>rfl
  | some x=>rw[q] at a;exact (a rfl).elim
theorem dB (kvs:List (κ×V))(k:κ)(v:V):(putK kvs k v).length<=kvs.length+1:=by
 unfold putK
 split
 ·rw[DY];lia
 ·rw[D7,EI,IV];lia
theorem yu {kvs:List (κ×V)}{k:κ}(v:V)(h:bT kvs k=none):putK kvs k v=kvs++[(k,v)]:=by
 unfold putK
 rw[d7,h]
 exact if_neg (by decide)
theorem nE.eZ {o:Option V}{u:Option D1}(r:nE o u):o.isSome=u.isSome:=by
 cases o with
 | none=>cases u with
  | none=>rfl
  | some _=>exact (show False from r).elim
 | some _=>cases u with
  | none=>exact (show False from r).elim
  | some _=>rfl
theorem KV.val {kvs:List (κ×V)}{vs:List (κ×D1)}(r:KV kvs vs)(k:κ):nE (bT kvs k) (valueAt vs k):=by
 unfold KV at r
 induction r with
 | nil=>exact True.intro
 | @cons p q ps qs h t ih =>
  obtain ⟨h1,h2⟩:=h
  by_cases e:p.1=k
  ·have e':q.1=k:=h1.symm.trans e
   have b:valueAt (q :: qs) k=some q.2:=by simp[valueAt,Hy,e']
   rw[bV e,b];exact h2
  ·have e':¬ q.1=k:=λz=>e (h1.trans z)
   have b:valueAt (q :: qs) k=valueAt qs k:=by simp[valueAt,Hy,e']
   rw[bW e,b];exact ih
theorem KV.any {kvs:List (κ×V)}{vs:List (κ×D1)}(r:KV kvs vs)(k:κ):(kvs.any λkv=>decide (kv.1=k))=vs.any λkv=>decide (kv.1=k):=by
 unfold KV at r
 induction r with
 | nil=>rfl
 | cons h t ih=>rw[IQ,IQ,ih,h.1]
theorem KV.Cr {kvs:List (κ×V)}{vs:List (κ×D1)}(r:KV kvs vs)(k:κ){y:V}{u:D1}(ry:RelV y u) :
  KV (kvs.map λkv=>if kv.1=k then (kv.1,y) else kv) (vs.map λkv=>if kv.1=k then (kv.1,u) else kv):=by
 unfold KV at r ⊢
 induction r with
 | nil=>exact .nil
 | @cons p q ps qs h t ih =>
  rw[Ez,Ez]
  refine .cons ?_ ih
  obtain ⟨h1,h2⟩:=h
  by_cases e:p.1=k
  ·rw[if_pos e,if_pos (h1.symm.trans e)];exact ⟨h1,ry⟩
  ·rw[if_neg e,if_neg (λz=>e (h1.trans z))];exact ⟨h1,h2⟩
theorem KV.put {kvs:List (κ×V)}{vs:List (κ×D1)}(r:KV kvs vs)(k:κ){y:V}{u:D1}(ry:RelV y u):KV (putK kvs k y) (stored vs k u):=by
 unfold putK stored
 rw[r.any k]
 by_cases e:(vs.any λkv=>decide (kv.1=k))=true
 ·rw[if_pos e,if_pos e];exact r.Cr k ry
 ·rw[if_neg e,if_neg e];exact Nn r ⟨rfl,ry⟩
theorem KV.length {kvs:List (κ×V)}{vs:List (κ×D1)}(r:KV kvs vs):kvs.length=vs.length:=G4 r
end
theorem oN {P:Eo}{w:ES}{k:Key}{u:D1}(r:RelV (kV k) u):(bH P w).is k u=true:=by
 cases k with
 | inl i=>obtain ⟨t,e⟩:=(show ∃t,u=F7 i t from r);subst e;exact qA P w i t
 | inr x=>obtain ⟨t,e⟩:=(show ∃t,u=Value.str x t from r);subst e;exact qB P w x t
theorem oO {P:Eo}{w:ES}:∀{ks:List Key} {us:List D1},Vals (ks.map kV) us->ItemsAre (bH P w) ks us
 | [],_,r=>by rw[K3] at r;cases r;exact .nil
 | k :: ks,_,r=>by
  rw[Ez] at r
  cases r with
  | cons h t=>exact .cons (oN h) (oO t)
abbrev KT (H:Hp):List (List Key×V)->List (List Key×Addr×D1)->Prop:=Paired λp q=>p.1=q.1/\H q.2.1=some (.tup (p.1.map kV))/\RelV p.2 q.2.2
theorem KT.val {H:Hp}{kvs:List (List Key×V)}{xs:List (List Key×Addr×D1)}(r:KT H kvs xs)(k:List Key):nE (bT kvs k) ((atKey xs k).map (·.2)):=by
 induction r with
 | nil=>exact True.intro
 | @cons p q ps qs h t ih =>
  obtain ⟨h1,_,h2⟩:=h
  by_cases e:p.1=k
  ·have e':q.1=k:=h1.symm.trans e
   have b:atKey (q :: qs) k=some q.2:=by simp[atKey,Hy,e']
   rw[bV e,b];exact h2
  ·have e':¬ q.1=k:=λz=>e (h1.trans z)
   have b:atKey (q :: qs) k=atKey qs k:=by simp[atKey,Hy,e']
   rw[bW e,b];exact ih
theorem KT.Cr {H:Hp}{kvs:List (List Key×V)}{xs:List (List Key×Addr×D1)}(r:KT H kvs xs)(k:List Key){y:V}{u:D1}(ry:RelV y u) :
  KT H (kvs.map λkv=>if kv.1=k then (kv.1,y) else kv) (xs.map (putAt k u)):=by
 induction r with
 | nil=>exact .nil
 | @cons p q ps qs h t ih =>
  rw[Ez,Ez]
  refine .cons ?_ ih
  obtain ⟨h1,h2,h3⟩:=h
  unfold putAt
  by_cases e:p.1=k
  ·rw[if_pos e,if_pos (h1.symm.trans e)];exact ⟨h1,h2,ry⟩
  ·rw[if_neg e,if_neg (λz=>e (h1.trans z))];exact ⟨h1,h2,h3⟩
theorem KT.put {H:Hp}{kvs:List (List Key×V)}{xs:List (List Key×Addr×D1)}(r:KT H kvs xs)(k:List Key){b:Addr}{y:V}{u:D1}(hb:H b=some (.tup (k.map kV)))(ry:RelV y u) :
  KT H (putK kvs k y) (storedH xs k b u):=by
 have e:(kvs.any λkv=>decide (kv.1=k))=(atKey xs k).isSome:=by
  rw[d7,(r.val k).eZ,Ko]
 unfold putK storedH
 rw[e]
 by_cases q:(atKey xs k).isSome=true
 ·rw[if_pos q,if_pos q];exact r.Cr k ry
 ·rw[if_neg q,if_neg q];exact Nn r ⟨rfl,hb,ry⟩
theorem KT.keeps {H H':Hp}{kvs:List (List Key×V)}{xs:List (List Key×Addr×D1)}(r:KT H kvs xs)(ht:∀b ys,H b=some (.tup ys)->H' b=some (.tup ys)):KT H' kvs xs :=
 Paired.BH r λ_ _ z=>⟨z.1,ht _ _ z.2.1,z.2.2⟩
section
variable  {P:Eo}{w:ES}{H:Hp}{h:Heap}{a:Addr}
theorem Bu {u:HO}(ok:HOk P w H h)(e:Rd H a u):aX P w H h a u:=e.ok ok
theorem rf {kvs:List (Key×V)}(ok:HOk P w H h)(e:Rd H a (.dK kvs)):kvs.length<=Ei/\(a == sysModules)=false/\∃vs,KV kvs vs/\h.DictOf (bH P w) a vs :=
 show aX P w H h a (.dK kvs) from Bu ok e
theorem yv {kvs:List (Key×V)}(ok:HOk P w H h)(e:H a=some (.dK kvs)):kvs.length<=Ei/\(a == sysModules)=false/\∃vs,KV kvs vs/\h.DictOf (bH P w) a vs:=rf ok (.inl e)
theorem jV {ks:List Key}(ok:HOk P w H h)(e:H a=some (.tup (ks.map kV))):(tupleKind (bH P w)).is h ks a:=by
 obtain ⟨_,its,r,o,h1,h2,n,h3⟩:=(show aX P w H h a (.tup (ks.map kV)) from ok a _ e)
 exact ⟨o,its.toArray,n,h1,h2.1,h3,by simpa using oO r⟩
theorem oP {kvs:List (List Key×V)}(ok:HOk P w H h)(e:Rd H a (.dT kvs)):kvs.length<=Ei/\(a == sysModules)=false ∧
  ∃xs,KT H kvs xs/\h.DictOfH (tupleKind (bH P w)) a xs:=by
 obtain ⟨z,y,xs,r,o,es,ep,h1,h2,h3,h4,h5⟩:=(show aX P w H h a (.dT kvs) from Bu ok e)
 refine ⟨z,y,xs,r,o,es,ep,h1,h2,h3,h4,λx hx =>?_,h5⟩
 have all:∀{l:List (List Key×V)} {m:List (List Key×Addr×D1)},KT H l m->∀x∈m,(tupleKind (bH P w)).is h x.1 x.2.1:=by
  intro l m q
  induction q with
  | nil=>intro x hx;exact nomatch hx
  | @cons p q ps qs hq t ih =>
   intro x hx
   rcases EB.mp hx with e | hx
   ·subst e
    exact jV ok (by rw[<- hq.1];exact hq.2.1)
   ·exact ih x hx
 exact all r x hx
theorem yw {kvs:List (List Key×V)}(ok:HOk P w H h)(e:H a=some (.dT kvs)):kvs.length<=Ei/\(a == sysModules)=false ∧
  ∃xs,KT H kvs xs/\h.DictOfH (tupleKind (bH P w)) a xs:=oP ok (.inl e)
end
def d8 (H:Hp)(a:Addr)(y:V)(r:Option V):Prop :=
 (∃kvs k,Rd H a (.dK kvs)/\y=kV k/\r=bT kvs k)\/∃kvs k b,Rd H a (.dT kvs)/\y = .ref b/\H b=some (.tup (k.map kV))/\r=bT kvs k
def jW (H:Hp)(a:Addr)(y v:V)(H':Hp):Prop :=
 (∃kvs k,H a=some (.dK kvs)/\y=kV k/\kvs.length<Ei/\H'=upd H a (.dK (putK kvs k v))) ∨
 ∃kvs k b,H a=some (.dT kvs)/\y = .ref b/\H b=some (.tup (k.map kV))/\kvs.length<Ei/\H'=upd H a (.dT (putK kvs k v))
theorem d8.k {H:Hp}{a:Addr}{kvs:List (Key×V)}{k:Key}(e:H a=some (.dK kvs)):d8 H a (kV k) (bT kvs k) :=.inl ⟨kvs,k,.inl e,rfl,rfl⟩
theorem d8.t {H:Hp}{a b:Addr}{kvs:List (List Key×V)}{k:List Key}(e:H a=some (.dT kvs))(eb:H b=some (.tup (k.map kV))):d8 H a (.ref b) (bT kvs k) :=.inr ⟨kvs,k,b,.inl e,rfl,eb,rfl⟩
theorem jW.k {H:Hp}{a:Addr}{kvs:List (Key×V)}{k:Key}{v:V}(e:H a=some (.dK kvs))(hl:kvs.length<Ei):jW H a (kV k) v (upd H a (.dK (putK kvs k v))) :=.inl ⟨kvs,k,e,rfl,hl,rfl⟩
theorem jW.t {H:Hp}{a b:Addr}{kvs:List (List Key×V)}{k:List Key}{v:V}(e:H a=some (.dT kvs))(eb:H b=some (.tup (k.map kV)))(hl:kvs.length<Ei) :
  jW H a (.ref b) v (upd H a (.dT (putK kvs k v))) :=.inr ⟨kvs,k,b,e,rfl,eb,hl,rfl⟩
section
variable  {X:Cx}{pins:List (Addr×Obj)}{σ:St}{H:Hp}{s:D5}{a:Addr}{y v:V}{u r:D1}{o:Option V}{A:Fi}{E:D1->D5->Prop}
theorem Inv.big (I:Inv X pins σ H s):sysModules<s.heap.objs.size:=by
 have h:EJ<s.heap.objs.size:=(I.mod.glob.keeps I.bk).lt
 exact Nat.lt_trans (by decide) h
theorem wQ {Q:D1->D5->Prop}(hu:A.units+1<cLine)(I:Inv X pins σ H s)(g:d8 H a y (some v))(ry:RelV y u)(h:∀w' s',Inv X pins σ H s'->RelV v w'->Q w' s') :
  Es (EF X.prog X.w) A (getItem (.ref a) u) Q E s:=by
 rcases g with ⟨kvs,k,e,ey,l⟩ | ⟨kvs,k,b,e,ey,eb,l⟩
 ·subst ey
  obtain ⟨z,hd,vs,rel,dd⟩:=rf I.hok e
  obtain ⟨w',hw,rw'⟩:=nE.some_of (v:=v) (o:=valueAt vs k) (by rw[l];exact rel.val k)
  exact wpAny_getItem_of (oN ry) dd.mapOf hw (h w' _ (I.tok _) rw')
 ·subst ey
  cases (show u=Eu b from ry)
  obtain ⟨z,hd,xs,rel,dd⟩:=oP I.hok e
  obtain ⟨w',hw,rw'⟩:=nE.some_of (v:=v) (o:=(atKey xs k).map (·.2)) (by rw[l];exact rel.val k)
  obtain ⟨p,hp,hp2⟩:=HR.mp hw
  refine wpAny_getItem_heap (Ja hu) (jV I.hok eb) dd hp ?_
  rw[hp2]
  exact h w' _ (I.tok _) rw'
theorem d_in {Q:D1->D5->Prop}(hu:A.units+1<cLine)(I:Inv X pins σ H s)(g:d8 H a y o)(ry:RelV y u)(h:∀s',Inv X pins σ H s'->Q (.bool o.isSome) s') :
  Es (EF X.prog X.w) A (FP .In u (.ref a)) Q E s:=by
 rcases g with ⟨kvs,k,e,ey,l⟩ | ⟨kvs,k,b,e,ey,eb,l⟩
 ·subst ey
  obtain ⟨z,hd,vs,rel,dd⟩:=rf I.hok e
  refine wpAny_in_of (oN ry) hd dd.mapOf ?_
  rw[<- (rel.val k).eZ, <- l]
  exact h _ (I.tok _)
 ·subst ey
  cases (show u=Eu b from ry)
  obtain ⟨z,hd,xs,rel,dd⟩:=oP I.hok e
  refine wpAny_in_heap (Ja hu) (jV I.hok eb) hd dd ?_
  have q:=(rel.val k).eZ
  rw[Ko] at q
  rw[<- q, <- l]
  exact h _ (I.tok _)
theorem Ax {Q:D1->D5->Prop}(hu:A.units+1<cLine)(I:Inv X pins σ H s)(g:d8 H a y o)(ry:RelV y u)(h:∀s',Inv X pins σ H s'->Q (.bool (!o.isSome)) s') :
  Es (EF X.prog X.w) A (FP .NotIn u (.ref a)) Q E s:=by
 rcases g with ⟨kvs,k,e,ey,l⟩ | ⟨kvs,k,b,e,ey,eb,l⟩
 ·subst ey
  obtain ⟨z,hd,vs,rel,dd⟩:=rf I.hok e
  refine wpAny_notIn_of (oN ry) hd dd.mapOf ?_
  rw[<- (rel.val k).eZ, <- l]
  exact h _ (I.tok _)
 ·subst ey
  cases (show u=Eu b from ry)
  obtain ⟨z,hd,xs,rel,dd⟩:=oP I.hok e
  refine wpAny_notIn_heap (Ja hu) (jV I.hok eb) hd dd ?_
  have q:=(rel.val k).eZ
  rw[Ko] at q
  rw[<- q, <- l]
  exact h _ (I.tok _)
theorem k8 {h':Heap}{t':Nat}{ob:HO}(I:Inv X pins σ H s)(mu:Mut (H a))(hs:Heap.SameBut a s.heap h')(he:∃q,h'.get? a=some q)(new:aX X.prog X.w (upd H a ob) h' a ob) :
  Inv X pins σ (upd H a ob) { s with heap:=h',toks:=t' } :=
 I.write (x:=a) (e:=a) mu (.inl rfl) (λb q hb z=>(hs.2 b hb).trans z) he new
theorem yx {P:Eo}{w:ES}{H':Hp}{h':Heap}{kvs:List (Key×V)}{vs:List (Key×D1)}(z:kvs.length<=Ei)(hd:(a == sysModules)=false)(rel:KV kvs vs)(dd:h'.DictOf (bH P w) a vs) :
  aX P w H' h' a (.dK kvs):=⟨z,hd,vs,rel,dd⟩
theorem wR {H':Hp}{Q:Unit->D5->Prop}(hu:A.units+1<cLine)(I:Inv X pins σ H s)(g:jW H a y v H')(ry:RelV y u)(rv:RelV v r)(h:∀s',Inv X pins σ H' s'->Q () s') :
  Es (EF X.prog X.w) A (setItem (.ref a) u r) Q E s:=by
 rcases g with ⟨kvs,k,e,ey,l,eH⟩ | ⟨kvs,k,b,e,ey,eb,l,eH⟩
 ·subst ey eH
  obtain ⟨z,hd,vs,rel,dd⟩:=yv I.hok e
  have hz:vs.length<=Ei:=by rw[<- rel.length];exact z
  have hl:(putK kvs k v).length<=Ei:=by have:=dB kvs k v;lia
  refine wpAny_setItem_pairs (hsz:=hz) (oN ry) dd λh' dd' hs=>h _ ?_
  have he:∃q,h'.get? a=some q:=let ⟨q,_,_,hq,_⟩:=dd';⟨q,hq⟩
  exact k8 I (by rw[e];exact True.intro) hs he (yx hl hd (rel.put k rv) dd')
 ·subst ey eH
  cases (show u=Eu b from ry)
  obtain ⟨z,hd,xs,rel,dd⟩:=yw I.hok e
  have hz:xs.length<=Ei:=by rw[<- G4 rel];exact z
  have hl:(putK kvs k v).length<=Ei:=by have:=dB kvs k v;lia
  refine wpAny_setItem_heap (hsz:=hz) (Ja hu) (jV I.hok eb) dd λh' dd' hs=>h _ ?_
  obtain ⟨q,es,ep,hq,h2,h3,h4,_,h5⟩:=dd'
  refine k8 I (by rw[e];exact True.intro) hs ⟨q,hq⟩ ⟨hl,hd,_,(rel.put k eb rv).keeps λc ys ec =>?_,q,es,ep,hq,h2,h3,h4,h5⟩
  rw[ak (cZ ec e (λz=>nomatch z))]
  exact ec
end
section
variable  {X:Cx}{pins:List (Addr×Obj)}{σ:St}{H:Hp}{s:D5}{a:Addr}{kvs:List (Key×V)}{k:Key}{u:D1}{A:Fi}{E:D1->D5->Prop}
end
def Dx (i:Expr):Prop:=∀ov iv,subscripted i false ov iv=operate [ov,iv] (getItem ov iv)
theorem Ay {prog:Eo}{w:ES}{A:Fi}{E:D1->D5->Prop}{s:D5}{env:Env}{value slice:Expr}{pos:Pos}{T id:String}{Q:D1->D5->Prop}
  (hl:typeLookup (.type T) "__getitem__" = pure (some (.builtin id))) (hs:Dx slice)
  (h:Es (EF prog w) A (eval value env) (λo s₁=>Es (EF prog w) A (eval slice env) (λi s₂=>s₂.TypeIs o T/\Es (EF prog w) A (getItem o i) Q E s₂) E s₁) E s) :
  Es (EF prog w) A (eval (.Subscript value slice pos) env) Q E s:=by
 refine Subscript_ (Gp h (λo s₁ h₁=>Gp h₁ (λi s₂ h₂ =>?_) λ_ _ x=>x) λ_ _ x=>x)
 obtain ⟨hT,h₂⟩:=h₂
 unfold subscriptTail
 refine DX ?_
 rw[getitemInPython_of_ne hT.not_modules]
 refine DX (JS hT hl ?_)
 have fin:Es (EF prog w) A (subscripted slice false o i) (λr s₃=>Es (EF prog w) A (letTemporaryGo value o r >>= λ_=>pure r) Q E s₃) E s₂:=by
  rw[hs o i]
  exact wpAny_operating (Gp h₂ (λr s₃ h₃=>DX (wpAny_letTemporaryGo (D3 h₃))) λ_ _ x=>x)
 first
  | exact D3 (DX fin)
  | exact DX (D3 (DX fin))
  | exact DX fin
theorem rh {X:Cx}{pins:List (Addr×Obj)}{σ:St}{H:Hp}{s:D5}{a:Addr}{y:V}{o:Option V}(I:Inv X pins σ H s)(g:d8 H a y o):s.TypeIs (.ref a) "dict" := by
 rcases g with ⟨kvs,k,e,_,_⟩ | ⟨kvs,k,b,e,_,_,_⟩
 ·obtain ⟨_,_,vs,_,dd⟩:=rf I.hok e
  exact dd.typeIs
 ·obtain ⟨_,_,xs,_,dd⟩:=oP I.hok e
  exact dd.typeIs
def Dy (td ty:TE):TE:=λσ H Q=>td σ H λx H1=>ty σ H1 λy H2=>∃a v,x = .ref a/\d8 H2 a y (some v)/\Q v H2
def tDIn (ty td:TE):TE:=λσ H Q=>ty σ H λy H1=>td σ H1 λx H2=>∃a o,x = .ref a/\d8 H2 a y o/\Q (.bl o.isSome) H2
def Az (ty td:TE):TE:=λσ H Q=>ty σ H λy H1=>td σ H1 λx H2=>∃a o,x = .ref a/\d8 H2 a y o/\Q (.bl (!o.isSome)) H2
def Dz (td ty tv:TE):TS:=λD σ H=>tv σ H λv H1=>td σ H1 λx H2=>ty σ H2 λy H3=>∃a H4,x = .ref a/\jW H3 a y v H4/\D.nx σ H4
section
variable  {X:Cx}{o i e value:Expr}{pos pos' tpos:Pos}{td ty tv:TE}
theorem ib (hu:X.A.units+1<cLine)(ho:PE X o td)(hi:PE X i ty)(hs:Dx i):PE X (.Subscript o i pos) (Dy td ty):=by
 intro pins s σ H Q I h
 refine Ay PySem.F.slot_dict_getitem.lookup hs (thn (ho pins s σ H _ I h) λu s1 ⟨x,H1,I1,rx,q1⟩=>thn (hi pins s1 σ H1 _ I1 q1) λiv s2 ⟨y,H2,I2,ry,a,v,ex,g,q2⟩ =>?_)
 subst ex
 obtain rfl:u=Eu a:=rx
 exact ⟨rh I2 g,wQ hu I2 g ry λw' s3 I3 rw'=>⟨v,H2,I3,rw',q2⟩⟩
theorem yy (hu:X.A.units+1<cLine)(hi:PE X i ty)(ho:PE X o td):PC X .In i o (tDIn ty td):=by
 intro pins s σ H Q I h
 refine thn (hi pins s σ H _ I h) λiv s1 ⟨y,H1,I1,ry,q1⟩=>thn (ho pins s1 σ H1 _ I1 q1) λu s2 ⟨x,H2,I2,rx,a,ov,ex,g,q2⟩ =>?_
 subst ex
 obtain rfl:u=Eu a:=rx
 exact d_in hu I2 g ry λs3 I3=>⟨.bl ov.isSome,H2,I3,rfl,q2⟩
theorem oQ (hu:X.A.units+1<cLine)(hi:PE X i ty)(ho:PE X o td):PC X .NotIn i o (Az ty td):=by
 intro pins s σ H Q I h
 refine thn (hi pins s σ H _ I h) λiv s1 ⟨y,H1,I1,ry,q1⟩=>thn (ho pins s1 σ H1 _ I1 q1) λu s2 ⟨x,H2,I2,rx,a,ov,ex,g,q2⟩ =>?_
 subst ex
 obtain rfl:u=Eu a:=rx
 exact Ax hu I2 g ry λs3 I3=>⟨.bl (!ov.isSome),H2,I3,rfl,q2⟩
theorem fO (hu:X.A.units+1<cLine)(ho:PE X o td)(hi:PE X i ty)(hv:PE X value tv)(hs:swapsWith value (some (.Subscript o i pos')) pos.line X.env=pure false) :
  PS X (.Assign [.Subscript o i pos'] value pos) (Dz td ty tv):=by
 intro pins s σ H D I h
 refine wpAny_Assign_Subscript (thn (hv pins s σ H _ I h) λr s1 ⟨v,H1,I1,rv,q1⟩=>thn (ho pins s1 σ H1 _ I1 q1) λu s2 ⟨x,H2,I2,rx,q2⟩=>thn (hi pins s2 σ H2 _ I2 q2) λiv s3 ⟨y,H3,I3,ry,a,H4,ex,g,q3⟩ =>?_) hs
 subst ex
 obtain rfl:u=Eu a:=rx
 exact wR hu I3 g ry rv λs4 I4=>⟨σ,H4,I4,q3⟩
end
theorem rj {P:Eo}{w:ES}{H:Hp}(h:Heap)(hb:sysModules<h.objs.size):aX P w H (h.push { cls :=.type "dict",data :=.dict #[] }) h.objs.size (.dK []) :=
 ⟨EZ _,beq_eq_false_iff_ne.mpr (F8 (Ey hb)),[],.nil,Heap.DictOf.new h⟩
theorem rn {P:Eo}{w:ES}{H:Hp}(h:Heap)(hb:sysModules<h.objs.size):aX P w H (h.push { cls :=.type "dict",data :=.dict #[] }) h.objs.size (.dT []) :=
 ⟨EZ _,beq_eq_false_iff_ne.mpr (F8 (Ey hb)),[],.nil,_, #[],0,Ed _ rfl,⟨rfl,rfl,rfl⟩,rfl,rfl,Gu⟩
def Cs:TE:=λ_ H Q=>∀p,H p=none->Q (.ref p) (upd H p (.dK []))
def Ct:TE:=λ_ H Q=>∀p,H p=none->Q (.ref p) (upd H p (.dT []))
section
variable  {X:Cx}{pos:Pos}
theorem rp:PE X (.Dict [] [] pos) Cs:=λpins s σ H Q I h =>
 wpAny_Dict_empty ⟨.ref s.heap.objs.size,_,I.laid (a:=s.heap.objs.size) (o :=.dK []) (t':=s.toks) (λ_ _ q=>DZ _ q) (D6 _) (rj s.heap I.big),rfl,h _ (I.hok.fresh (D6 _))⟩
theorem yz:PE X (.Dict [] [] pos) Ct:=λpins s σ H Q I h =>
 wpAny_Dict_empty ⟨.ref s.heap.objs.size,_,I.laid (a:=s.heap.objs.size) (o :=.dT []) (t':=s.toks) (λ_ _ q=>DZ _ q) (D6 _) (rn s.heap I.big),rfl,h _ (I.hok.fresh (D6 _))⟩
end
def tS:List (TE×TE)->St->Hp->(List (V×V)->Hp->Prop)->Prop
 | [],_,H,Q=>Q [] H
 | (tk,tv) :: r,σ,H,Q=>tk σ H λx H1=>tv σ H1 λy H2=>tS r σ H2 λps H3=>Q ((x,y) :: ps) H3
abbrev VV:List (V×V)->List (D1×D1)->Prop:=Paired λp q=>RelV p.1 q.1/\RelV p.2 q.2
def PPs (X:Cx)(pos:Pos)(keys:List (Option Expr))(values:List Expr)(trs:List (TE×TE)):Prop :=
 ∀(pins:List (Addr×Obj)) (s:D5) (σ:St) (H:Hp) (Q:List (V×V)->Hp->Prop),Inv X pins σ H s->tS trs σ H Q →
  Es (EF X.prog X.w) X.A (evalPairs (pairTrees keys values X.env pos)) (λvs s'=>∃ps H',Inv X pins σ H' s'/\VV ps vs/\Q ps H') X.xe s
theorem vh {X:Cx}{pos:Pos}:PPs X pos [] [] []:=λpins s σ H Q I h=>pairTrees_nil_walk ⟨[],H,I,.nil,h⟩
theorem rq {X:Cx}{pos:Pos}{k v:Expr}{ks:List (Option Expr)}{vs:List Expr}{tk tv:TE}{trs:List (TE×TE)}(hk:PE X k tk)(hv:PE X v tv)(hr:PPs X pos ks vs trs) :
  PPs X pos (some k :: ks) (v :: vs) ((tk,tv) :: trs):=λpins s σ H Q I h =>
 pairTrees_cons_walk (thn (hk pins s σ H _ I h) λu s1 ⟨x,H1,I1,rx,q1⟩=>thn (hv pins s1 σ H1 _ I1 q1) λw2 s2 ⟨y,H2,I2,ry,q2⟩ =>
  thn (hr pins s2 σ H2 _ I2 q2) λws s3 ⟨ps,H3,I3,rel,q3⟩=>⟨(x,y) :: ps,H3,I3,.cons ⟨rx,ry⟩ rel,q3⟩)
def fP (kvs more:List (Key×V)):List (Key×V):=more.foldl (λacc kv=>putK acc kv.1 kv.2) kvs
theorem KV.merge:∀{more:List (Key×V)} {rs:List (Key×D1)} {kvs:List (Key×V)} {vs:List (Key×D1)},KV more rs->KV kvs vs->KV (fP kvs more) (merged vs rs):=by
 intro more rs kvs vs r
 unfold KV at r
 induction r generalizing kvs vs with
 | nil=>intro q;exact q
 | @cons p q ps qs h t ih =>
  intro r0
  have e:KV (putK kvs p.1 p.2) (stored vs q.1 q.2):=by
   have:=r0.put p.1 h.2
   rw[<- h.1];exact this
  exact ih e
theorem iz:∀(more kvs:List (Key×V)),(fP kvs more).length<=kvs.length+more.length
 | [],kvs=>by show kvs.length<=kvs.length+0;lia
 | p :: r,kvs=>by
  have h1:=iz r (putK kvs p.1 p.2)
  have h2:=dB kvs p.1 p.2
  show (fP (putK kvs p.1 p.2) r).length<=_
  rw[EI];lia
theorem mj {P:Eo}{w:ES}:∀{kvs:List (Key×V)} {ws:List (D1×D1)},VV (kvs.map λkv=>(kV kv.1,kv.2)) ws->∃rs,Carries (bH P w) ws rs/\KV kvs rs
 | [],_,r=>by rw[K3] at r;cases r;exact ⟨[],True.intro,.nil⟩
 | p :: kvs,_,r=>by
  rw[Ez] at r
  cases r with
  | @cons a b as bs h t =>
   obtain ⟨rs,c,q⟩:=mj (P:=P) (w:=w) t
   obtain ⟨b1,b2⟩:=b
   exact ⟨(p.1,b2) :: rs,⟨oN h.1,rfl,c⟩,.cons ⟨rfl,h.2⟩ q⟩
def DA (trs:List (TE×TE)):TE:=λσ H Q=>∀p,H p=none->tS trs σ (upd H p (.dK [])) λps H2=>H2 p=some (.dK [])/\∃kvs:List (Key×V),ps=kvs.map (λkv=>(kV kv.1,kv.2))/\kvs.length<=15/\Q (.ref p) (upd H2 p (.dK (fP [] kvs)))
theorem AA {X:Cx}{pos:Pos}{keys:List (Option Expr)}{values:List Expr}{trs:List (TE×TE)}(h:PPs X pos keys values trs)(hall:keys.all (·.isSome)=true)(hl:keys.length=values.length)(h0:keys≠[])
  (h15:keys.length<=15):PE X (.Dict keys values pos) (DA trs):=by
 intro pins s σ H Q I q
 have hn:=I.hok.fresh (D6 s.heap.objs.size)
 have I1:=I.laid (a:=s.heap.objs.size) (o :=.dK []) (h':=s.heap.push { cls :=.type "dict",data :=.dict #[] }) (t':=s.toks) (λ_ _ q=>DZ _ q) (D6 _) (rj s.heap I.big)
 refine wpAny_Dict_walk (knd:=bH X.prog X.w) hall hl h0 h15 (thn (h pins _ σ _ _ I1 (q _ hn)) λws s2 ⟨ps,H2,I2,rel,e,kvs,ep,lk,q2⟩ =>?_)
 subst ep
 obtain ⟨rs,c,rk⟩:=mj (P:=X.prog) (w:=X.w) rel
 obtain ⟨z,hd,vs0,r0,dd⟩:=yv I2.hok e
 cases r0
 refine ⟨rs,c,dd,λh' dd' hs=>⟨.ref s.heap.objs.size,_,?_,rfl,q2⟩⟩
 have hz:(fP [] kvs).length<=Ei:=by
  have h1:=iz kvs []
  rw[IV] at h1
  rw[Ic];lia
 have he:∃q,h'.get? s.heap.objs.size=some q:=let ⟨q,_,_,hq,_⟩:=dd';⟨q,hq⟩
 exact k8 I2 (by rw[e];exact True.intro) hs he (yx hz hd (rk.merge .nil) dd')
section
variable  {X:Cx}{pins:List (Addr×Obj)}{σ:St}{H:Hp}{s:D5}{a:Addr}{y d:V}{u r:D1}{o:Option V}{A:Fi}{E:D1->D5->Prop}
end
section
variable  {X:Cx}{o e f:Expr}{apos cpos:Pos}{td ty tx:TE}
end
section
variable  {X:Cx}{pins:List (Addr×Obj)}{σ:St}{H:Hp}{s:D5}{a:Addr}{kvs:List (Key×V)}{A:Fi}{E:D1->D5->Prop}
end
section
variable  {X:Cx}{pins:List (Addr×Obj)}{σ:St}{H:Hp}{s:D5}{a:Addr}{y:V}{u:D1}{A:Fi}{E:D1->D5->Prop}
end
section
variable  {X:Cx}
end
section
variable  {κ:Type}[DecidableEq κ]
theorem yA {kvs:List (κ×V)}{k:κ}(h:bT kvs k=none):¬ k∈kvs.map (·.1):=by
 intro m
 obtain ⟨p,hp,e⟩:=EK.mp m
 have q:(kvs.any λkv=>decide (kv.1=k))=true:=Hj.mpr ⟨p,hp,decide_eq_true e⟩
 rw[d7,h] at q
 exact absurd q (by simp)
theorem AB {kvs:List (κ×V)}{k:κ}{v:V}(h:bT kvs k=some v):k∈kvs.map (·.1):=by
 have q:(kvs.any λkv=>decide (kv.1=k))=true:=by
  rw[d7,h]
  all_goals rfl
 obtain ⟨p,hp,e⟩:=Hj.mp q
 exact EK.mpr ⟨p,hp,of_decide_eq_true e⟩
end
end L2
namespace SDct
open PySem PyProof.Rows Srt
section
variable  {prog:Eo}{w:ES}{K:Type}[DecidableEq K]{knd:KeyKind prog w K}{A:Fi}{E:D1->D5->Prop}{s:D5}
theorem qb {d:Addr}{kvs:List (K×D1)}{ep:Nat}{R:List D1->D5->Prop}(hh:A.handled=none)(hd:(d == sysModules)=false)(hm:s.heap.DictAt knd d kvs ep)(hz:kvs.length<=Ei)
  (h:∀h1 tk vs,vs.length=kvs.length->(∀(i:Nat) v,vs[i]? = some v->∃k x,kvs[i]? = some (k,x)/\knd.is k v=true)->(∀b o,s.heap.get? b=some o->h1.get? b=some o)->s.heap.objs.size<=h1.objs.size->R vs { s with heap:=h1,toks:=tk }) :
  Es (EF prog w) A (collect (.ref d)) R E s:=by
 have hlt:=hm.lt_size
 unfold collect
 refine DX (Iv (E6 K9 ?_))
 rw[EY La _]
 show Es _ A.in1 (newList [] >>= λl=>again (.builtin "list.__iadd__" ⟨[l,.ref d],[]⟩)) _ _ s
 refine DX (Fq ?_)
 refine D3 ⟨FV Ji _,E6 Mv ?_⟩
 rw[EY Ji _]
 show Es _ A.in1 (Fn (.ref s.heap.objs.size) (.ref d) (.ref s.heap.objs.size)) _ _ _
 unfold Fn
 have hSa:s.heap.objs.size≠d:=GV hlt
 have z1:(s.heap.push { cls :=.type "list",data :=.seq ([]:List D1).toArray }).objs.size=s.heap.objs.size+1:=Gd _ _
 have hm1:=hm.push { cls :=.type "list",data :=.seq ([]:List D1).toArray }
 have hT1:Shared.TypeIs { s with heap:=s.heap.push { cls :=.type "list",data :=.seq ([]:List D1).toArray } } (.ref d) "dict" := hm1.dictOf.typeIs
 refine DX (GX hT1 ?_)
 have h1:HF (.ref s.heap.objs.size) (.ref d)=false:=by simp[HF,hSa]
 have h2:(G0 "dict" == G0 "list")=false:=by decide
 have h3:(G0 "dict" == G0 "tuple")=false:=by decide
 simp only[h1,h2,h3,Ng,Ex,if_false]
 refine DX (wpAny_pyIter_dict hd hm1 ?_)
 show Es _ A.in1 (Jv [.ref (s.heap.push { cls :=.type "list",data :=.seq ([]:List D1).toArray }).objs.size] (Hf (.ref d)) >>= _) _ _ { s with heap:=(s.heap.push { cls :=.type "list",data :=.seq ([]:List D1).toArray }).push { cls :=.type "dict_keyiterator",data :=.fields #[.ref d,.int 0 0,.int kvs.length 0,.int ep 0] } }
 rw[z1]
 generalize hH:(s.heap.push { cls :=.type "list",data :=.seq ([]:List D1).toArray }).push { cls :=.type "dict_keyiterator",data :=.fields #[.ref d,.int 0 0,.int kvs.length 0,.int ep 0] }=H
 have kH:∀b o,(s.heap.push { cls :=.type "list",data :=.seq ([]:List D1).toArray }).get? b=some o->H.get? b=some o:=λb o e=>by rw[<- hH];exact DZ _ e
 have hit:H.IsKeyIter (s.heap.objs.size+1) d 0 kvs.length ep:=by
  refine ⟨{ cls :=.type "dict_keyiterator",data :=.fields #[.ref d,.int 0 0,.int kvs.length 0,.int ep 0] },?_,rfl,rfl⟩
  rw[<- hH, <- z1]
  exact Ed _ rfl
 have hm2:H.DictAt knd d kvs ep:=hm1.keep kH
 have hT2:Shared.TypeIs { s with heap:=H } (.ref d) "dict" := hm2.dictOf.typeIs
 refine DX (Fe ?_)
 unfold Hf
 refine DX (JS hT2 F.slot_dict_len.lookup ?_)
 dsimp only
 rw[show splitId "dict.__len__" = some ("dict", "__len__") by kernel_rfl]
 dsimp only
 refine DX (Iy hT2 (show isSubtype (.type "dict") (.type "dict")=pure true by rw[Kh];kernel_rfl) ?_)
 simp only[F3,Ex,if_false]
 show Es _ _ (typeOf (.ref d) >>= _) _ _ _
 refine DX (GX hT2 ?_)
 refine D3 ?_
 show Es _ A.in1 (rule "list.extend.makes-room" >>= λ_=>Builtin.List.listTouch (.ref s.heap.objs.size) >>= λ_ =>
  again (.builtin "list.extend.loop" ⟨[.ref s.heap.objs.size,.ref (s.heap.objs.size+1),.ref s.heap.objs.size],[]⟩)) _ _ _
 refine DX (GQ ?_)
 have hS₁:H.get? s.heap.objs.size=some { cls :=.type "list",data :=.seq ([]:List D1).toArray }:=kH _ _ (Ed _ rfl)
 refine DX ?_
 show Es _ A.in1 (updateSeq s.heap.objs.size (·.push .none) >>= λ_=>updateSeq s.heap.objs.size (·.pop)) _ _ _
 refine DX (Gb (s:={ s with heap:=H }) hS₁ rfl ?_)
 have hS₂:=Fj (Fs (·.push GA)) hS₁ rfl
 refine Gb hS₂ rfl ?_
 have hS₃:=Fj (Fs (·.pop)) hS₂ rfl
 have oth:∀b o,b≠s.heap.objs.size->H.get? b=some o->((H.update s.heap.objs.size (Fs (·.push GA))).update s.heap.objs.size (Fs (·.pop))).get? b=some o :=
  λb o hb e=>(EG _ _ (F8 hb)).trans ((EG _ _ (F8 hb)).trans e)
 have W:=(Walks.dictKeys (prog:=prog) (w:=w) (knd:=knd) (A:=A.in1) hh (s.heap.objs.size+1) d (Ey (Fz hlt)) kvs ep).toS
 have hSf:s.heap.objs.size∉[s.heap.objs.size+1,d]:=by
  simp only[EB,HP,or_false,not_or]
  exact ⟨Ey (G1 _),hSa⟩
 refine D3 ⟨FV HK _,codeAny_extend_loopS W hz _ hSf _ kvs.length 0 _ _ _ rfl (EZ _) ⟨hit.at λo e=>oth _ o (GV (G1 _)) e,hm2.at' λo e=>oth _ o (F8 hSa) e⟩ hS₃ (ItemsOf.nil _) λs' acc' c' hmv hS' ha =>?_⟩
 obtain ⟨h',g',d',tk',os'⟩:=s'
 have eg:g'=s.gens:=hmv.gens
 have ed:d'=s.drawn:=hmv.drawn
 have eo:os'=s.os:=hmv.os
 subst eg;subst ed;subst eo
 show Es _ A (load s.heap.objs.size >>= _) _ _ _
 refine DX (Lp hS' ?_)
 refine D3 (h h' tk' acc'.toList (by rw[D9];exact ha.1) (λi v hv=>ha.2 i v (by rw[Em] at hv;exact hv)) (λb o e =>?_) (HU (Ej hS')))
 have lt:=Ej e
 refine hmv.heap b o ?_ (oth b o (Ey lt) (kH b o (DZ _ e)))
 simp only[EB,HP,or_false,not_or]
 exact ⟨Ey lt,Ey (Fz lt)⟩
end
end SDct
namespace L2
open PySem PySem.Spec PyProof.Rows Srt
section
variable  {X:Cx}
theorem vi:∀{kvs:List (Key×V)} {vs:List (Key×D1)},KV kvs vs->vs.map (·.1)=kvs.map (·.1)
 | _,_,.nil=>rfl
 | _,_,.cons h t=>by rw[Ez,Ez,vi t,h.1]
theorem qc (hh:X.A.handled=none):bZ X (.builtin "sorted") (λxs H Q=>∃(a:Addr) (kvs:List (Key×V)) (ks:List Int),xs=[.ref a]/\H a=some (.dK kvs)/\kvs.map (·.1)=ks.map Sum.inl/\∀(l:Addr) (out:List Int),H l=none->out.Perm ks->out.Pairwise (· <= ·)->Q (.ref l) (upd H l (.lst (out.map V.int)))):=by
 intro pins s σ H xs us Q I r h
 obtain ⟨a,kvs,ks,rfl,ha,ek,q⟩:=h
 obtain ⟨u,rfl,ru⟩:=vals1 r
 cases (show u=Eu a from ru)
 obtain ⟨z,hd,vs,rel,dd⟩:=yv I.hok ha
 obtain ⟨ep,dd⟩:=dd.dictAt
 have lv:kvs.length=vs.length:=G4 rel
 have keys:vs.map (·.1)=kvs.map (·.1):=vi rel
 have lk:ks.length=vs.length:=by
  have:=congrArg List.length ek
  rw[DY,DY] at this
  lia
 refine Iq LW Lj Lk (MG _) ?_
 unfold Builtin.«sorted»
 refine DX (m:=checkCount "sorted" 1 1 _) (D3 ?_)
 refine DX (SDct.qb (by simpa using hh) hd dd (by lia) λh1 tk ws lw hw k1 z1 =>?_)
 have sh:∀(i:Nat) v,ws[i]? = some v->∃t,ks[i]? = some (intOf v)/\v = .int (intOf v) t:=λi v hv=>by
  obtain ⟨k,x,e1,e2⟩:=hw i v hv
  have e3:(vs.map (·.1))[i]? = some k:=by rw[En,e1];rfl
  rw[keys,ek,En] at e3
  cases hk:ks[i]? with
  | none=>rw[hk] at e3;cases e3
  | some n =>
   rw[hk] at e3
   cases e3
   obtain ⟨t,rfl⟩:=Je (show Value.isInt n v=true from e2)
   exact ⟨t,rfl,rfl⟩
 have si:∀v∈ws,∃i t,v=F7 i t:=λv hv=>by
  obtain ⟨i,hi,e⟩:=Hb hv
  obtain ⟨t,_,e2⟩:=sh i v (by rw[Ec hi,e])
  exact ⟨_,t,e2⟩
 have ew:ws.map intOf=ks:=by
  apply Kk
  intro i
  rw[En]
  cases hv:ws[i]? with
  | some v=>obtain ⟨t,e,_⟩:=sh i v hv;rw[e];rfl
  | none =>
   rw[Ir] at hv
   rw[HY (by lia)]
   rfl
 have hI:=eV si
 rw[ew] at hI
 have hz':ws.length<=Ei:=by lia
 refine DX (Ij ?_ hz')
 have hoL:(h1.push (seqObj "list" ws.toArray 0)).get? h1.objs.size=some (seqObj "list" ws.toArray 0):=Ed _ rfl
 have kL:∀b o,s.heap.get? b=some o->(h1.push (seqObj "list" ws.toArray 0)).get? b=some o:=λb o e=>DZ _ (k1 b o e)
 have C:jh X.prog X.w { s with heap:=h1,toks:=tk } ws iG intOf:=ji hI
 refine DX (Fe (FA slot_list_sort ⟨_,hoL,rfl⟩ entry_list_sort (eM (key:=intOf) (O:=iG) hoL hz' (λh2 h6 k6 =>?_) λout pm ps=>⟨_,rfl,?_⟩) (LI _)))
 ·exact C.ok h2 _ h6 λb o e=>k6 b o (Ey (Ej e)) (DZ _ e)
 ·obtain ⟨n,en⟩:=Mn (out:=out.toArray) hoL
  have hm:∀v∈out,∃i t,v=F7 i t:=λv hv=>si v (pm.mem_iff.mp hv)
  have hO:=eV hm
  have pm':(out.map intOf).Perm ks:=by
   have:=pm.map intOf
   rw[ew] at this
   exact this
  have kf:∀b o,s.heap.get? b=some o->(sortedHeap (h1.push (seqObj "list" ws.toArray 0)) h1.objs.size ws out.toArray).get? b=some o:=λb o e=>by
   have lt:=Er (Ej e) z1
   rw[LJ (Ey lt) (by rw[Lu];exact Fz lt)]
   exact kL b o e
  have fr:H h1.objs.size=none:=I.hok.fresh z1
  refine D3 ⟨_,rfl,.ref h1.objs.size,_,I.laid (t':=tk) (o :=.lst ((out.map intOf).map V.int)) kf z1 ⟨?_,out,n,fJ hO,en⟩,rfl,q _ _ fr pm' ?_⟩
  ·rw[DY,pm'.length_eq];lia
  ·refine Fh.mpr (ps.imp λ{x y} le =>?_)
   have le':decide (intOf y<intOf x)=false:=le
   have:=of_decide_eq_false le'
   lia
end
open PySem PyProof.Rows
section
variable  {X:Cx}
def AD (ns ms:List Int)(j:Nat):Bool:=ns.getD j 0 == ms.getD j 0
theorem rA {ns ms:List Int}(h:ns.length=ms.length):((E2 ns.length).all λj=>AD ns ms j)=decide (ns=ms):=by
 rw[Gr,decide_eq_true_iff,Gv]
 constructor
 ·intro hh
  refine MO h λj h1 h2 =>?_
  have:=hh j (Fv.mpr h1)
  unfold AD at this
  rw[Ew,Ew,Ec h1,Ec h2] at this
  exact of_decide_eq_true (by simpa using this)
 ·rintro rfl j _
  exact beq_self_eq_true _
theorem intAt {ns:List Int}{us:List D1}(r:Vals (ns.map V.int) us){j:Nat}(h:j<us.toArray.size):∃t,us.toArray[j] = .int (ns.getD j 0) t:=by
 have l:=r.length
 rw[DY] at l
 rw[D4] at h
 have e1:(ns.map V.int)[j]? = some (.int (ns.getD j 0)):=by
  rw[En,Ew,Ec (by lia)]
  rfl
 obtain ⟨u,g1,q1⟩:=r.get e1
 have f1:us.toArray[j]=u:=by simp[Ea] at g1;obtain ⟨_,g⟩:=g1;simpa using g
 rw[f1]
 exact q1
theorem AE {k:Nat}(hr:cy k X.A):OpR X (FP .NotEq) (λx y H Q=>∃(a b:Addr) (ns ms:List Int),x = .ref a/\y = .ref b/\SqL X.K H a (ns.map V.int)/\SqL X.K H b (ms.map V.int)/\Q (.bl (!decide (ns=ms))) H):=by
 intro pins s σ H x y v u Q I rx ry h
 obtain ⟨a,b,ns,ms,rfl,rfl,h1,h2,q⟩:=h
 cases (show v=Eu a from rx)
 cases (show u=Eu b from ry)
 obtain ⟨its,r1,⟨⟨c1,d1,da1,sl1⟩,n1,e1,k1,_,k3⟩,_⟩:=I.list h1
 obtain ⟨its2,r2,⟨⟨c2,d2,da2,sl2⟩,n2,e2,g1,_,g3⟩,_⟩:=I.list h2
 simp only at k1 k3 g1 g3
 subst k1 k3 g1 g3
 have l1:=r1.length
 have l2:=r2.length
 rw[DY] at l1 l2
 have hu:=hr.un
 have hu1:X.A.units<cLine:=by lia
 by_cases hl:ns.length=ms.length
 ·refine Gq (op :=.NotEq) ⟨_,e1,rfl⟩ ⟨_,e2,rfl⟩ Ke JJ (Jp _ _) (MT a b its.toArray its2.toArray n1 n2 d1 d2 sl1 sl2 (by rw[D4,D4];lia) (AD ns ms)) ⟨e1,e2,?_,?_⟩ hu1
  ·intro j h1 h2
   obtain ⟨t1,g1⟩:=intAt r1 h1
   obtain ⟨t2,g2⟩:=intAt r2 h2
   rw[g1,g2]
   exact GY _ t1 _ t2
  ·have ez:its.toArray.size=ns.length:=by rw[D4];lia
   rw[ez,rA hl]
   exact ⟨(λz=>nomatch z),⟨.bl _,H,I,rfl,q⟩⟩
 ·have ne:ns≠ms:=λz=>hl (by rw[z])
  rw[decide_eq_false ne] at q
  refine Gq (op :=.NotEq) ⟨_,e1,rfl⟩ ⟨_,e2,rfl⟩ Ke JJ (Jp _ _) (Kt a b its.toArray its2.toArray n1 n2 d1 d2 sl1 sl2 (by simp;lia)) ⟨e1,e2,?_⟩ hu1
  exact ⟨(λz=>nomatch z),⟨.bl true,H,I,rfl,q⟩⟩
end
section
variable  {X:Cx}
def rB (ns ms:List Int)(j:Nat):Bool:=ns.getD j 0 == ms.getD j 0
theorem wU {ns ms:List Int}(h:ns.length=ms.length):((E2 ns.length).all λj=>rB ns ms j)=decide (ns=ms):=by
 rw[Gr,decide_eq_true_iff,Gv]
 constructor
 ·intro hh
  refine MO h λj h1 h2 =>?_
  have:=hh j (Fv.mpr h1)
  unfold rB at this
  rw[Ew,Ew,Ec h1,Ec h2] at this
  exact of_decide_eq_true (by simpa using this)
 ·rintro rfl j _
  exact beq_self_eq_true _
theorem oR {ns ms:List Int}:((E2 (min ns.length ms.length)).all (rB ns ms) && ns.length == ms.length)=decide (ns=ms):=by
 by_cases h:ns.length=ms.length
 ·rw[<- h,J0,show (ns.length == ns.length)=true from beq_self_eq_true _,JC]
  exact wU h
 ·have ne:ns≠ms:=λz=>h (by rw[z])
  rw[decide_eq_false ne,show (ns.length == ms.length)=false from by simpa using h,Kg]
theorem qd {ns:List Int}{us:List D1}(r:Vals (ns.map V.int) us){j:Nat}(h:j<us.toArray.size):∃t,us.toArray[j] = .int (ns.getD j 0) t:=by
 have l:=r.length
 rw[DY] at l
 rw[D4] at h
 have e1:(ns.map V.int)[j]? = some (.int (ns.getD j 0)):=by
  rw[En,Ew,Ec (by lia)]
  rfl
 obtain ⟨u,g1,q1⟩:=r.get e1
 have f1:us.toArray[j]=u:=by simp[Ea] at g1;obtain ⟨_,g⟩:=g1;simpa using g
 rw[f1]
 exact q1
theorem op_eqTI {k:Nat}(hr:cy k X.A):OpR X (FP .Eq) (λx y H Q=>∃(a b:Addr) (ns ms:List Int),x = .ref a/\y = .ref b/\SqT X.K H a (ns.map V.int)/\SqT X.K H b (ms.map V.int)/\Q (.bl (decide (ns=ms))) H):=by
 intro pins s σ H x y v u Q I rx ry h
 obtain ⟨a,b,ns,ms,rfl,rfl,h1,h2,q⟩:=h
 cases (show v=Eu a from rx)
 cases (show u=Eu b from ry)
 obtain ⟨its,r1,p1,_⟩:=I.tuple h1
 obtain ⟨its2,r2,p2,_⟩:=I.tuple h2
 have l1:=r1.length
 have l2:=r2.length
 rw[DY] at l1 l2
 have hu:=hr.un
 have hu1:X.A.units<cLine:=by lia
 have R:=Mq (A:=X.A) (e:=rB ns ms) (show s.heap.IsTuple a its.toArray from p1) (show s.heap.IsTuple b its2.toArray from p2) hu1 (by
  intro j h1 h2
  obtain ⟨t1,g1⟩:=qd r1 h1
  obtain ⟨t2,g2⟩:=qd r2 h2
  rw[g1,g2]
  exact GY _ t1 _ t2)
 rw[D4,D4, <- l1, <- l2,oR] at R
 exact R _ _ _ _ ⟨.bl _,H,I,rfl,q⟩
theorem AF {k:Nat}(hr:cy k X.A):OpR X (FP .NotEq) (λx y H Q=>∃(a b:Addr) (ns ms:List Int),x = .ref a/\y = .ref b/\SqT X.K H a (ns.map V.int)/\SqT X.K H b (ms.map V.int)/\Q (.bl (!decide (ns=ms))) H):=by
 intro pins s σ H x y v u Q I rx ry h
 obtain ⟨a,b,ns,ms,rfl,rfl,h1,h2,q⟩:=h
 cases (show v=Eu a from rx)
 cases (show u=Eu b from ry)
 obtain ⟨its,r1,p1,_⟩:=I.tuple h1
 obtain ⟨its2,r2,p2,_⟩:=I.tuple h2
 have l1:=r1.length
 have l2:=r2.length
 rw[DY] at l1 l2
 have hu:=hr.un
 have hu1:X.A.units<cLine:=by lia
 have R:=LN (A:=X.A) (e:=rB ns ms) (show s.heap.IsTuple a its.toArray from p1) (show s.heap.IsTuple b its2.toArray from p2) hu1 (by
  intro j h1 h2
  obtain ⟨t1,g1⟩:=qd r1 h1
  obtain ⟨t2,g2⟩:=qd r2 h2
  rw[g1,g2]
  exact GY _ t1 _ t2)
 rw[D4,D4, <- l1, <- l2,oR] at R
 exact R _ _ _ _ ⟨.bl _,H,I,rfl,q⟩
def Wd (i:Int):Prop:=i.natAbs<2 ^ 4000
theorem Wd.bits {i:Int}(h:Wd i):Builtin.Int.intBits i<=2 ^ 20:=by
 unfold Builtin.Int.intBits
 split
 ·exact EZ _
 ·have:i.natAbs.log2<4000:=by
   rcases Nat.eq_zero_or_pos i.natAbs with h0 | hp
   ·rw[h0];decide
   ·exact (Nat.log2_lt (by lia)).mpr h
  lia
def DB (i j:Int):Prop:=Wd i/\Wd j
theorem qe:OpR X (binaryOp .Mult) (rI DB λi j =>.int (i*j)):=opI λ_ _ _ _ _ _ _ hc q=>mul_int q (IntMulOk.of_bits hc.1.bits hc.2.bits)
end
section
variable  {P:Eo}{w:ES}{K:D2}{mg:Str->Option D1}{base:Heap}
end
end L2
namespace L2.Rem
open PySem PySem.SeqAt PySem.MeetsSeq
open AutoSeq1 (wpAny_loadPart')
end L2.Rem
namespace L2
open PySem PySem.Spec PyProof.Rows
section
variable  {X:Cx}
theorem any_range {bs:List Bool}:((E2 bs.length).any λi=>bs.getD i false)=bs.any id:=by
 rw[Gr,Hj,Hj]
 constructor
 ·rintro ⟨i,hi,h⟩
  have lt:=Fv.mp hi
  rw[Ew,Ec lt] at h
  exact ⟨bs[i],HM lt,h⟩
 ·rintro ⟨b,hb,h⟩
  obtain ⟨i,lt,e⟩:=Hb hb
  refine ⟨i,Fv.mpr lt,?_⟩
  rw[Ew,Ec lt,e]
  exact h
theorem yB (hc:X.calm=true):bZ X (.builtin "any") (λxs H Q=>∃(p:Addr) (bs:List Bool),xs=[.ref p]/\SqL X.K H p (bs.map V.bl)/\Q (.bl (bs.any id)) H):=by
 intro pins s σ H xs us Q I r h
 obtain ⟨p,bs,rfl,hs,q⟩:=h
 obtain ⟨u,rfl,ru⟩:=vals1 r
 cases (show u=Eu p from ru)
 obtain ⟨its,rv,pl,hz⟩:=I.list hs
 have l:=rv.length
 rw[DY] at l
 have hpl:p<s.heap.objs.size:=by obtain ⟨o,_,e,_⟩:=pl;exact Ej e
 refine call_any_walk (G7 pl.isList ?_)
 have hd:X.A.in1.handled=none:=I.ok.hd hc
 refine ⟨s.heap.objs.size,_,_,_,_,_,_,rfl,Mp hd s.heap.objs.size p (Ey hpl) its.toArray,⟨⟨_,Ed _ rfl,rfl,rfl⟩,?_⟩,ku rv,λh' tk k =>?_⟩
 ·exact pl.isList.at λo e=>DZ _ e
 ·have e:((E2 its.toArray.size).any λi=>bs.getD i false)=bs.any id:=by rw[D4, <- l,any_range]
  rw[e]
  refine ⟨.bl (bs.any id),H,I.kept (t':=tk) (λb o eb=>k b o ?_ (DZ _ eb)),rfl,q⟩
  intro hb
  have:b=s.heap.objs.size:=by simpa using hb
  exact absurd (Ej eb) (by rw[this];exact Fu _)
theorem op_neTE {k:Nat}(hr:cy k X.A):OpR X (FP .NotEq) (λx y H Q=>∃a b xs ys,x = .ref a/\y = .ref b/\SqT X.K H a xs/\SqT X.K H b ys/\Paired (fG X.K H 20) xs ys/\Q (.bl false) H):=by
 intro pins s σ H x y v u Q I rx ry h
 obtain ⟨a,b,xs,ys,rfl,rfl,h1,h2,p,q⟩:=h
 cases (show v=Eu a from rx)
 cases (show u=Eu b from ry)
 obtain ⟨its,r1,p1,_⟩:=I.tuple h1
 obtain ⟨its2,r2,p2,_⟩:=I.tuple h2
 have l1:=r1.length
 have l2:=r2.length
 have pl:=G4 p
 have hu:=hr.un
 have hu1:X.A.units<cLine:=by lia
 have R:=LN (A:=X.A) (e:=λ_=>true) (show s.heap.IsTuple a its.toArray from p1) (show s.heap.IsTuple b its2.toArray from p2) hu1 (cX p r1 r2 λx y u v h1 h2 h3=>hW I 20 _ x y u v (by show X.A.units+1+_<cLine;lia) h1 h2 h3)
 rw[D4,D4, <- l1, <- l2,pl,J0,beq_self_eq_true,all_true] at R
 exact R _ _ _ _ ⟨.bl false,H,I,rfl,q⟩
theorem AG {k:Nat}(hr:cy k X.A):OpR X (FP .Eq) (λx y H Q=>∃a b xs ys,x = .ref a/\y = .ref b/\SqL X.K H a xs/\SqL X.K H b ys/\Paired (fG X.K H 20) xs ys/\Q (.bl true) H):=by
 intro pins s σ H x y v u Q I rx ry h
 obtain ⟨a,b,xs,ys,rfl,rfl,h1,h2,p,q⟩:=h
 cases (show v=Eu a from rx)
 cases (show u=Eu b from ry)
 obtain ⟨its,r1,p1,_⟩:=I.list h1
 obtain ⟨its2,r2,p2,_⟩:=I.list h2
 have l1:=r1.length
 have l2:=r2.length
 have pl:=G4 p
 have hu:=hr.un
 have hu1:X.A.units<cLine:=by lia
 have R:=MK (A:=X.A) (e:=λ_=>true) p1.isList p2.isList (by rw[D4,D4, <- l1, <- l2,pl]) hu1 (cX p r1 r2 λx y u v h1 h2 h3=>hW I 20 _ x y u v (by show X.A.units+1+_<cLine;lia) h1 h2 h3)
 rw[all_true] at R
 exact R _ _ _ _ ⟨.bl true,H,I,rfl,q⟩
end
section
variable  {X:Cx}
theorem rD:bZ X (.builtin "len") (λxs H Q=>∃(a:Addr) (ys:List V),xs=[.ref a]/\H a=some (iI X.w a ys)/\ys.length<1000/\Q (.int ys.length) H):=by
 intro pins s σ H xs us Q I r h
 obtain ⟨a,ys,rfl,ha,hl,q⟩:=h
 obtain ⟨u,rfl,ru⟩:=vals1 r
 cases (show u=Eu a from ru)
 obtain ⟨⟨es,⟨ep,t,ho,T,_⟩,rv⟩,_⟩:=(show aX X.prog X.w H s.heap a (iI X.w a ys) from I.hok a _ ha)
 have l:=rv.length
 have l2:es.size=ys.length:=by simpa using l.symm
 refine call_len_set ho ⟨rfl,rfl,rfl⟩ rfl (by have:=T.fits;rwa [Fm] at this) (by lia) ?_
 rw[l2]
 exact ⟨.int ys.length,H,I.tok _,⟨_,rfl⟩,q⟩
end
theorem Inv.wV {X:Cx}{pins:List (Addr×Obj)}{σ:St}{H:Hp}{s:D5}{h':Heap}{t':Nat}{ch:List Addr}(I:Inv X pins σ H s)(f:∀b∈ch,jL X pins H b)
  (k:∀b ob,b∉ch->s.heap.get? b=some ob->h'.get? b=some ob):Inv X pins σ H { s with heap:=h',toks:=t' }:=by
 have nit:∀b u,H b=some u->b∉ch:=λb u e z=>by have:=(f b z).1;rw[this] at e;cases e
 refine I.step (g':=s.gens) (d':=s.drawn) (ch:=ch) (λb hb =>?_) (λb o _ _ hc e _=>k b o hc e) (λb o _ _ hc e _=>⟨o.slots,k b o hc e⟩) (λ_ _ _ _ n=>n)
  (λb o hc e=>⟨o,k b o hc e⟩) (λ_ _ e=>e) (λ_ _ _ e=>e) (λb ps e=>⟨#[],by rw[e];simp⟩) (λm hm =>?_) (λb u e =>?_) I.bare
 ·obtain ⟨g0,g1,g2,g3,g4,g5⟩:=f b hb
  exact ⟨g3,g1,g4,g5⟩
 ·obtain ⟨o,es,ep,ho,r⟩:=hm
  exact ⟨o,es,ep,k _ o (λz=>(f _ z).2.1 rfl) ho,r⟩
 ·refine (I.hok b u e).stay (λc v hc q=>k c v ?_ q) (λ_ q=>q) λ_ _ q=>q
  rcases hc with z | z
  ·rw[z];exact nit b u e
  ·exact nit c _ z
theorem Cu (n a b:Nat)(h1:a<n)(h2:b<n):ZipApart (n+4) (n+2) (n+3) n (n+1) a b :=
  ⟨λz=>absurd (show n+2=n+4 from z) (by lia),λz=>absurd (show n+3=n+4 from z) (by lia),λz=>absurd (show n=n+4 from z) (by lia),λz=>absurd (show n+1=n+4 from z) (by lia),λz=>absurd (show n+2=n+3 from z) (by lia),λz=>absurd (show n+2=n from z) (by lia),λz=>absurd (show n+2=n+1 from z) (by lia),λz=>absurd (show n+3=n from z) (by lia),λz=>absurd (show n+3=n+1 from z) (by lia),λz=>absurd (show n=n+1 from z) (by lia),
   λz=>absurd (show a=n+4 from z) (by lia),λz=>absurd (show a=n+3 from z) (by lia),λz=>absurd (show a=n from z) (by lia),λz=>absurd (show a=n+1 from z) (by lia),λz=>absurd (show b=n+4 from z) (by lia),λz=>absurd (show b=n+3 from z) (by lia),λz=>absurd (show b=n from z) (by lia),λz=>absurd (show b=n+1 from z) (by lia)⟩
theorem boot_zip:Fx "zip" = some (.type "zip"):=by decide +kernel
section
variable  {X:Cx}
end
def vj:Stmt->List Stmt
 | .For _ _ body _ _=>body
 | _=>[]
theorem DC {α:Type}{g:α -> Addr}{ts:List α}{i:Nat}{x:V}(e:(ts.map λt=>V.ref (g t))[i]? = some x):∃u,ts[i]? = some u/\x = .ref (g u):=by
 rw[En] at e
 cases z:ts[i]? with
 | none=>rw[z] at e;cases e
 | some tt=>rw[z] at e;exact ⟨tt,rfl,(E1 e).symm⟩
theorem DD {ns:List Int}{i:Nat}{x:V}(e:(ns.map V.int)[i]? = some x):∃u,ns[i]? = some u/\x = .int u:=by
 rw[En] at e
 cases z:ns[i]? with
 | none=>rw[z] at e;cases e
 | some tt=>rw[z] at e;exact ⟨tt,rfl,(E1 e).symm⟩
theorem DE {α β:Type}{f:α -> β}{l:List α}{i:Nat}{x:α}(e:l[i]? = some x):(l.take (i+1)).map f=(l.take i).map f++[f x]:=by
 rw[E4,e,Ee];rfl
theorem ow {α:Type}(l:List α):l.take l.length=l:=Et (D6 _)
theorem atI_in {xs:List Int}{d:Int}(h0:0<=d)(h1:d<xs.length):∃v,v∈xs/\atI (xs.map V.int) d=some (.int v):=by
 obtain ⟨n,rfl⟩:∃n:Nat,d=n:=⟨d.toNat,by lia⟩
 have hn:n<xs.length:=by lia
 refine ⟨xs[n],HM hn,fE ?_⟩
 rw[En,Ec hn]
 rfl
theorem AH {α:Type}{g:α -> Addr}{ts:List α}{d:Int}(h0:0<=d)(h1:d<ts.length):∃u,u∈ts/\atI (ts.map λt=>V.ref (g t)) d=some (.ref (g u)):=by
 obtain ⟨n,rfl⟩:∃n:Nat,d=n:=⟨d.toNat,by lia⟩
 have hn:n<ts.length:=by lia
 refine ⟨ts[n],HM hn,fE ?_⟩
 rw[En,Ec hn]
 rfl
def Tus (H:Hp)(ts:List (Addr×List Int)):Prop:=∀u∈ts,H u.1=some (.tup (u.2.map V.int))
theorem Tus.same {H H':Hp}{ts:List (Addr×List Int)}(h:Tus H ts)(s:ax H H'):Tus H' ts:=λu hu=>s _ _ (h u hu)
variable  {X:Cx}
section
variable  {X:Cx}
def rE (K:D2):R2:=λx y H Q=>∃a b xs ys,x = .ref a/\y = .ref b/\SqT K H a xs/\SqT K H b ys/\xs.length+ys.length<=Ei/\(xs=[]->Q (.ref b) H)/\(ys=[]->Q (.ref a) H)/\(xs≠[]->ys≠[]->∀p,H p=none->Q (.ref p) (upd H p (.tup (xs++ys))))
theorem yC:OpR X (binaryOp .Add) (rE X.K):=by
 intro pins s σ H x y v u Q I rx ry h
 obtain ⟨a,b,xs,ys,rfl,rfl,ha,hb,hz,q1,q2,q3⟩:=h
 by_cases hx:xs=[]
 ·cases rx
  cases ry
  obtain ⟨its,r1,p1,_⟩:=I.tuple ha
  obtain ⟨its2,r2,p2,_⟩:=I.tuple hb
  obtain ⟨⟨c1,d1,da1,s1⟩,o1,k1,n1,g1⟩:=id p1
  obtain ⟨⟨c2,d2,da2,s2⟩,o2,k2,n2,g2⟩:=id p2
  simp only at k1 g1 k2 g2
  subst k1 g1 k2 g2
  have e0:its=[]:=r1.kY.mpr hx
  exact Li ⟨_,o1,rfl⟩ ⟨_,o2,rfl⟩ KP Ml Jc IP (IH _ _)
   (tuple_addW0 a b its.toArray its2.toArray n1 n2 d1 d2 s1 s2 (by simp[e0])) ⟨o1,o2,⟨.ref b,H,I,rfl,q1 hx⟩⟩
 ·exact zY pins s σ H _ _ v u Q I rx ry ⟨a,b,xs,ys,rfl,rfl,ha,hb,hx,hz,q2,λhy=>q3 hx hy⟩
theorem rE.one {K:D2}{H:Hp}{Q:VK}{a b:Addr}{xs ys:List V}(ha:H a=some (.tup xs))(hb:H b=some (.tup ys))(hz:xs.length+ys.length<=Ei)(q:∀p H',ax H H'->H' p=some (.tup (xs++ys))->Q (.ref p) H'):rE K (.ref a) (.ref b) H Q:=by
 refine ⟨a,b,xs,ys,rfl,rfl,SqT.of ha,SqT.of hb,hz,λz =>?_,λz =>?_,λ_ _ p hp=>q p _ (ag hp _) ae⟩
 ·subst z;exact q b H (ax.refl _) hb
 ·subst z;exact q a H (ax.refl _) (by rw[EN];exact ha)
end
def ItB:Bool->Heap->Addr->Addr->Nat->Prop
 | true,h,it,l,i=>h.IsListIter it l i
 | false,h,it,l,i=>h.IsTupleIter it l i
def SB':Bool->Heap->Addr->Array D1->Prop
 | true,h,l,xs=>h.IsList l xs
 | false,h,l,xs=>h.IsTuple l xs
theorem ItB.to {b:Bool}{h h':Heap}{it l:Addr}{i:Nat}(x:ItB b h it l i)(k:∀o,h.get? it=some o->h'.get? it=some o):ItB b h' it l i:=by
 cases b
 ·exact Heap.IsTupleIter.at (show h.IsTupleIter it l i from x) k
 ·exact Heap.IsListIter.at (show h.IsListIter it l i from x) k
theorem SB'.to {b:Bool}{h h':Heap}{l:Addr}{xs:Array D1}(x:SB' b h l xs)(k:∀o,h.get? l=some o->h'.get? l=some o):SB' b h' l xs:=by
 cases b
 ·obtain ⟨o,e,r⟩:=(show h.IsTuple l xs from x);exact ⟨o,k o e,r⟩
 ·obtain ⟨o,e,r⟩:=(show h.IsList l xs from x);exact ⟨o,k o e,r⟩
theorem ItB.lt {b:Bool}{h:Heap}{it l:Addr}{i:Nat}(x:ItB b h it l i):it<h.objs.size:=by
 cases b
 ·obtain ⟨o,e,_⟩:=(show h.IsTupleIter it l i from x);exact Ej e
 ·obtain ⟨o,e,_⟩:=(show h.IsListIter it l i from x);exact Ej e
theorem ItB.obj {b:Bool}{h:Heap}{it l:Addr}{i:Nat}(x:ItB b h it l i):∃o,h.get? it=some o/\∀v,o.data ≠ .cell v:=by
 cases b
 ·obtain ⟨o,e,_,d⟩:=(show h.IsTupleIter it l i from x);exact ⟨o,e,λv z=>by rw[d] at z;cases z⟩
 ·obtain ⟨o,e,_,d⟩:=(show h.IsListIter it l i from x);exact ⟨o,e,λv z=>by rw[d] at z;cases z⟩
section
variable  {prog:Eo}{w:ES}{A:Fi}{E:D1->D5->Prop}{s:D5}
theorem yD {b:Bool}{it l:Addr}{i:Nat}{xs:Array D1}{x:D1}{Q:D1->D5->Prop}(hi:ItB b s.heap it l i)(hl:SB' b s.heap l xs)(hx:xs[i]? = some x)
  (q:∀h',ItB b h' it l (i+1)->Heap.SameBut it s.heap h'->Q x { s with heap:=h' }):Es (EF prog w) A (Builtin.SmallTypes.nextOf (.ref it)) Q E s:=by
 cases b
 ·exact tm hi hl hx q
 ·exact wpAny_nextOf_list_item hi hl hx q
theorem oS {b:Bool}{it l:Addr}{i:Nat}{xs:Array D1}{Q:D1->D5->Prop}(hh:A.handled=none)(hi:ItB b s.heap it l i)(hl:SB' b s.heap l xs)(hx:xs[i]? = none)
  (q:∀h' e,Heap.ExtBut it s.heap h'->(∃o,h'.get? e=some o/\o.cls = .type "StopIteration")->E (.ref e) { s with heap:=h' }):Es (EF prog w) A (Builtin.SmallTypes.nextOf (.ref it)) Q E s:=by
 cases b
 ·exact lU hh hi hl hx q
 ·exact wpAny_nextOf_list_end hh hi hl hx q
theorem wW {c d:Bool}{z TI TO i1 i2 l1 l2:Addr}{k1 k2:Nat}{xs ys:Array D1}{x y a b:D1}{Q:D1->D5->Prop}(D:ZipApart z TI TO i1 i2 l1 l2)
  (hz:IsZip s.heap z TI TO .none) (hTI:IsPair s.heap TI (.ref i1) (.ref i2)) (hTO:IsPair s.heap TO a b)
  (j1:ItB c s.heap i1 l1 k1) (j2:ItB d s.heap i2 l2 k2) (m1:SB' c s.heap l1 xs) (m2:SB' d s.heap l2 ys) (hx:xs[k1]? = some x) (hy:ys[k2]? = some y)
  (hQ:∀h',IsZip h' z TI TO (Kb s.heap.objs.size)->IsPair h' TO x y->ItB c h' i1 l1 (k1+1)->ItB d h' i2 l2 (k2+1)->IsPair h' s.heap.objs.size x y->h'.objs.size=s.heap.objs.size+1 →
   (∀c o,c≠z->c≠TO->c≠i1->c≠i2->s.heap.get? c=some o->h'.get? c=some o)->Q (.ref s.heap.objs.size) { s with heap:=h' }) :
  Es (EF prog w) A (Builtin.«zip.__next__» ⟨[.ref z],[]⟩) (λfin s'=>∃v,fin = .done (.ret v)/\Q v s') E s:=by
 show Es _ _ (field (.ref z) 2 >>= _) _ _ _;refine DX (GG hz rfl (x :=.bool false) rfl ?_)
 show Es _ _ (field (.ref z) 3 >>= _) _ _ _;refine DX (GG hz rfl (x :=.ref TI) rfl ?_)
 refine DX (FG hTI rfl ?_);show Es _ _ (Builtin.SmallTypes.ownedTupleIsFree (.ref z) >>= _) _ _ _
 refine DX ?_;unfold Builtin.SmallTypes.ownedTupleIsFree
 refine DX (GG hz rfl (x :=.none) rfl (D3 ?_));simp only[if_true]
 refine DX (GQ ?_);refine DX (GG hz rfl (x :=.ref TO) rfl ?_)
 refine DX (Gn hz (by simp) λg1 hz1 s1 =>?_);replace hz1:IsZip g1 z TI TO .ellipsis:=hz1
 refine DX ?_;simp only[KJ,M0,JI,LF]
 refine DX (DX (KC ?_));show Es _ _ (Builtin.SmallTypes.nextOf (.ref i1) >>= _) _ _ _
 refine DX (yD (j1.to λo e=>s1.extBut _ _ D.i1z e) (m1.to λo e=>s1.extBut _ _ D.l1z e) hx λg2 j1' s2=>D3 ?_)
 have t2:IsPair g2 TO a b:=s2.extBut _ _ D.TOi1 (s1.extBut _ _ D.TOz hTO)
 refine DX (FG t2 rfl ?_);refine DX (Jz t2 λg3 t3 s3 =>?_)
 replace t3:IsPair g3 TO x b:=t3;refine DX (Hd (D3 ?_))
 refine DX (DX (KC ?_));show Es _ _ (Builtin.SmallTypes.nextOf (.ref i2) >>= _) _ _ _
 refine DX (yD (((j2.to λo e=>s1.extBut _ _ D.i2z e).to λo e=>s2.extBut _ _ D.i12.symm e).to λo e=>s3.extBut _ _ D.TOi2.symm e) (((m2.to λo e=>s1.extBut _ _ D.l2z e).to λo e=>s2.extBut _ _ D.l2i1 e).to λo e=>s3.extBut _ _ D.l2TO e) hy λg4 j2' s4=>D3 ?_)
 have t4:IsPair g4 TO x b:=s4.extBut _ _ D.TOi2 t3
 refine DX (FG t4 rfl ?_);refine DX (Jz t4 λg5 t5 s5 =>?_)
 replace t5:IsPair g5 TO x y:=t5;refine DX (Hd (D3 (D3 ?_)))
 refine DX (FG t5 rfl ?_);refine DX (LH ?_)
 have sz:g5.objs.size=s.heap.objs.size:=by rw[s5.1,s4.1,s3.1,s2.1,s1.1]
 have z5:IsZip g5 z TI TO .ellipsis:=s5.extBut _ _ D.TOz.symm (s4.extBut _ _ D.i2z.symm (s3.extBut _ _ D.TOz.symm (s2.extBut _ _ D.i1z.symm hz1)))
 have k5:∀c o,c≠z->c≠TO->c≠i1->c≠i2->s.heap.get? c=some o->g5.get? c=some o:=λc o c1 c2 c3 c4 e=>s5.extBut _ _ c2 (s4.extBut _ _ c4 (s3.extBut _ _ c2 (s2.extBut _ _ c3 (s1.extBut _ _ c1 e))))
 have n1:ItB c g5 i1 l1 (k1+1):=((j1'.to λo e=>s3.extBut _ _ D.TOi1.symm e).to λo e=>s4.extBut _ _ D.i12 e).to λo e=>s5.extBut _ _ D.TOi1.symm e
 have n2:ItB d g5 i2 l2 (k2+1):=j2'.to λo e=>s5.extBut _ _ D.TOi2.symm e
 have zl:z<g5.objs.size:=Ej z5
 show Es _ _ (Builtin.SmallTypes.ownedTupleHandOut (.ref z) (.ref g5.objs.size) >>= _) _ _ _;refine DX ?_
 unfold Builtin.SmallTypes.ownedTupleHandOut
 have z6:IsZip (g5.push { cls :=.type "tuple",data :=.seq #[x,y] }) z TI TO .ellipsis:=DZ _ z5
 refine DX (Gn z6 (by simp) λg7 z7 s7 =>?_);replace z7:IsZip g7 z TI TO (Kb g5.objs.size):=z7
 refine Gn z7 (by simp) λg8 z8 s8 =>?_;replace z8:IsZip g8 z TI TO (Kb g5.objs.size):=z8
 have up:∀c o,c≠z->g5.get? c=some o->g8.get? c=some o:=λc o c1 e=>s8.extBut _ _ c1 (s7.extBut _ _ c1 (DZ _ e))
 have p8:IsPair g8 g5.objs.size x y:=s8.extBut _ _ (GV zl) (s7.extBut _ _ (GV zl) (Ed _ rfl))
 have e8:g8.objs.size=g5.objs.size+1:=by rw[s8.1,s7.1,Gd]
 rw[sz] at z8 p8 e8
 refine D3 ⟨_,rfl,?_⟩;show Q (.ref g5.objs.size) _;rw[sz]
 exact hQ g8 z8 (up _ _ D.TOz t5) (n1.to λo e=>up _ o D.i1z e) (n2.to λo e=>up _ o D.i2z e) p8 e8 λc o c1 c2 c3 c4 e=>up c o c1 (k5 c o c1 c2 c3 c4 e)
theorem yE {c d:Bool}{z TI TO i1 i2 l1 l2:Addr}{k1 k2:Nat}{xs ys:Array D1}{a b:D1}{Q:Fin->D5->Prop}(hh:A.handled=none)(D:ZipApart z TI TO i1 i2 l1 l2)
  (hz:IsZip s.heap z TI TO .none) (hTI:IsPair s.heap TI (.ref i1) (.ref i2)) (hTO:IsPair s.heap TO a b)
  (j1:ItB c s.heap i1 l1 k1) (j2:ItB d s.heap i2 l2 k2) (m1:SB' c s.heap l1 xs) (m2:SB' d s.heap l2 ys) (hend:xs[k1]? = none\/ys[k2]? = none)
  (hE:∀h' e,(∀c o,c≠z->c≠TO->c≠i1->c≠i2->s.heap.get? c=some o->h'.get? c=some o)->(∃o,h'.get? e=some o/\o.cls = .type "StopIteration")->E (.ref e) { s with heap:=h' }) :
  Es (EF prog w) A (Builtin.«zip.__next__» ⟨[.ref z],[]⟩) Q E s:=by
 show Es _ _ (field (.ref z) 2 >>= _) _ _ _;refine DX (GG hz rfl (x :=.bool false) rfl ?_)
 show Es _ _ (field (.ref z) 3 >>= _) _ _ _;refine DX (GG hz rfl (x :=.ref TI) rfl ?_)
 refine DX (FG hTI rfl ?_);show Es _ _ (Builtin.SmallTypes.ownedTupleIsFree (.ref z) >>= _) _ _ _
 refine DX ?_;unfold Builtin.SmallTypes.ownedTupleIsFree
 refine DX (GG hz rfl (x :=.none) rfl (D3 ?_));simp only[if_true]
 refine DX (GQ ?_);refine DX (GG hz rfl (x :=.ref TO) rfl ?_)
 refine DX (Gn hz (by simp) λg1 hz1 s1 =>?_);replace hz1:IsZip g1 z TI TO .ellipsis:=hz1
 refine DX ?_;simp only[KJ,M0,JI,LF]
 refine DX (DX (KC ?_));show Es _ _ (Builtin.SmallTypes.nextOf (.ref i1) >>= _) _ _ _
 cases hx:xs[k1]? with
 | none =>
  refine DX (oS hh (j1.to λo e=>s1.extBut _ _ D.i1z e) (m1.to λo e=>s1.extBut _ _ D.l1z e) hx λg2 e s2 he =>?_)
  obtain ⟨oe,hoe,hce⟩:=he
  have z2:IsZip g2 z TI TO .ellipsis:=s2 _ _ D.i1z.symm hz1
  have hez:e≠z:=λx=>by subst x;rw[z2] at hoe;cases hoe;simp at hce
  refine Gn z2 (by simp) λg3 _ s3=>hE g3 e (λc o c1 _ c3 _ x=>s3.extBut _ _ c1 (s2 _ _ c3 (s1.extBut _ _ c1 x))) ⟨oe,s3.extBut _ _ hez hoe,hce⟩
 | some x =>
  have hy:ys[k2]? = none:=by rcases hend with h | h;rw[hx] at h;cases h;exact h
  refine DX (yD (j1.to λo e=>s1.extBut _ _ D.i1z e) (m1.to λo e=>s1.extBut _ _ D.l1z e) hx λg2 j1' s2=>D3 ?_)
  have t2:IsPair g2 TO a b:=s2.extBut _ _ D.TOi1 (s1.extBut _ _ D.TOz hTO)
  refine DX (FG t2 rfl ?_);refine DX (Jz t2 λg3 t3 s3 =>?_)
  refine DX (Hd (D3 ?_));refine DX (DX (KC ?_))
  show Es _ _ (Builtin.SmallTypes.nextOf (.ref i2) >>= _) _ _ _;refine DX (oS hh (((j2.to λo e=>s1.extBut _ _ D.i2z e).to λo e=>s2.extBut _ _ D.i12.symm e).to λo e=>s3.extBut _ _ D.TOi2.symm e) (((m2.to λo e=>s1.extBut _ _ D.l2z e).to λo e=>s2.extBut _ _ D.l2i1 e).to λo e=>s3.extBut _ _ D.l2TO e) hy λg4 e s4 he =>?_)
  obtain ⟨oe,hoe,hce⟩:=he
  have z4:IsZip g4 z TI TO .ellipsis:=s4 _ _ D.i2z.symm (s3.extBut _ _ D.TOz.symm (s2.extBut _ _ D.i1z.symm hz1))
  have hez:e≠z:=λx=>by subst x;rw[z4] at hoe;cases hoe;simp at hce
  refine Gn z4 (by simp) λg5 _ s5=>hE g5 e (λc o c1 c2 c3 c4 x=>s5.extBut _ _ c1 (s4 _ _ c4 (s3.extBut _ _ c2 (s2.extBut _ _ c3 (s1.extBut _ _ c1 x))))) ⟨oe,s5.extBut _ _ hez hoe,hce⟩
theorem rF {c d:Bool}{z TI TO i1 i2 l1 l2:Addr}{k1 k2:Nat}{xs ys:Array D1}{x y a b:D1}{Q:Option D1->D5->Prop}(D:ZipApart z TI TO i1 i2 l1 l2)
  (hz:IsZip s.heap z TI TO .none) (hTI:IsPair s.heap TI (.ref i1) (.ref i2)) (hTO:IsPair s.heap TO a b)
  (j1:ItB c s.heap i1 l1 k1) (j2:ItB d s.heap i2 l2 k2) (m1:SB' c s.heap l1 xs) (m2:SB' d s.heap l2 ys) (hx:xs[k1]? = some x) (hy:ys[k2]? = some y)
  (hQ:∀h',IsZip h' z TI TO (Kb s.heap.objs.size)->IsPair h' TO x y->ItB c h' i1 l1 (k1+1)->ItB d h' i2 l2 (k2+1)->IsPair h' s.heap.objs.size x y->h'.objs.size=s.heap.objs.size+1 →
   (∀c o,c≠z->c≠TO->c≠i1->c≠i2->s.heap.get? c=some o->h'.get? c=some o)->Q (some (.ref s.heap.objs.size)) { s with heap:=h' }):Es (EF prog w) A (pyNext (.ref z)) Q E s:=by
 have hT:s.TypeIs (.ref z) "zip" :=⟨_,hz,rfl⟩
 unfold pyNext;exact DX (Hq (FD (name:=Str.ofString "__next__") hT JO (FA JO hT MP (wW D hz hTI hTO j1 j2 m1 m2 hx hy λh' a1 a2 a3 a4 a5 a6 a7=>D3 (hQ h' a1 a2 a3 a4 a5 a6 a7)) (Mw _))))
theorem kR {c d:Bool}{z TI TO i1 i2 l1 l2:Addr}{k1 k2:Nat}{xs ys:Array D1}{a b:D1}{Q:Option D1->D5->Prop}(hh:A.handled=none)(D:ZipApart z TI TO i1 i2 l1 l2)
  (hz:IsZip s.heap z TI TO .none) (hTI:IsPair s.heap TI (.ref i1) (.ref i2)) (hTO:IsPair s.heap TO a b)
  (j1:ItB c s.heap i1 l1 k1) (j2:ItB d s.heap i2 l2 k2) (m1:SB' c s.heap l1 xs) (m2:SB' d s.heap l2 ys) (hend:xs[k1]? = none\/ys[k2]? = none)
  (hQ:∀h',(∀c o,c≠z->c≠TO->c≠i1->c≠i2->s.heap.get? c=some o->h'.get? c=some o)->Q none { s with heap:=h' }):Es (EF prog w) A (pyNext (.ref z)) Q E s:=by
 have hT:s.TypeIs (.ref z) "zip" :=⟨_,hz,rfl⟩
 unfold pyNext;refine DX (Hq (FD (name:=Str.ofString "__next__") hT JO (FA JO hT MP (yE hh D hz hTI hTO j1 j2 m1 m2 hend λh' e hk he =>?_) (Mw _))))
 obtain ⟨o,ho,hc⟩:=he
 refine DX (Iy (T := "StopIteration") (b:=true) ⟨o,ho,hc⟩ LK ?_);exact D3 (hQ _ hk)
def vk:Bool->String
 | true => "list_iterator"
 | false => "tuple_iterator"
def zB1 (c:Bool)(h:Heap)(l1:Addr):Heap:=h.push { cls :=.type (vk c),data :=.fields #[.ref l1,.int 0 0] }
def zB2 (c d:Bool)(h:Heap)(l1 l2:Addr):Heap:=(zB1 c h l1).push { cls :=.type (vk d),data :=.fields #[.ref l2,.int 0 0] }
def zB3 (c d:Bool)(h:Heap)(l1 l2:Addr):Heap:=(zB2 c d h l1 l2).push { cls :=.type "tuple",data :=.seq #[.ref h.objs.size,.ref (zB1 c h l1).objs.size] }
def zB4 (c d:Bool)(h:Heap)(l1 l2:Addr):Heap:=(zB3 c d h l1 l2).push { cls :=.type "tuple",data :=.seq #[.none,.none] }
def zB5 (c d:Bool)(h:Heap)(l1 l2:Addr):Heap:=(zB4 c d h l1 l2).push { cls :=.type "zip",data :=.fields #[.none,.bool false,.bool false,.ref (zB2 c d h l1 l2).objs.size,.ref (zB3 c d h l1 l2).objs.size] }
theorem Bv {c:Bool}{l:Addr}{xs:Array D1}{Q:D1->D5->Prop}(hl:SB' c s.heap l xs)(q:Q (.ref s.heap.objs.size) { s with heap:=zB1 c s.heap l }):Es (EF prog w) A (pyIter (.ref l)) Q E s:=by
 cases c
 ·exact IY hl q
 ·exact G7 hl q
theorem yF (c d:Bool)(l1 l2:Addr)(xs ys:Array D1):Meets (Builtin.«zip.__new__» ⟨[.type "zip",.ref l1,.ref l2],[]⟩) (λ_ R s=>SB' c s.heap l1 xs/\SB' d s.heap l2 ys ∧
   R (.ok (.ret (.ref (zB4 c d s.heap l1 l2).objs.size))) { s with heap:=zB5 c d s.heap l1 l2 }) :=
 .of_wp λprog w A R s h=>by
  obtain ⟨hp,g,dr,tk,os⟩:=s;obtain ⟨hl1,hl2,h⟩:=h
  have hsub:=sub_zip
  have m1:SB' c (Shared.heap ⟨hp,g,dr,tk,os⟩) l1 xs:=hl1
  have m2:SB' d (Shared.heap ⟨zB1 c hp l1,g,dr,tk,os⟩) l2 ys:=hl2.to λo e=>DZ _ e
  wp_walk using Bv m1,Bv m2
  exact ⟨_,rfl,h⟩
theorem wX {c d:Bool}{l1 l2:Addr}{xs ys:Array D1}{Q:D1->D5->Prop}(m1:SB' c s.heap l1 xs)(m2:SB' d s.heap l2 ys)
  (h:∀h',IsZip h' (s.heap.objs.size+4) (s.heap.objs.size+2) (s.heap.objs.size+3) .none->IsPair h' (s.heap.objs.size+2) (.ref s.heap.objs.size) (.ref (s.heap.objs.size+1)) →
   IsPair h' (s.heap.objs.size+3) .none .none->ItB c h' s.heap.objs.size l1 0->ItB d h' (s.heap.objs.size+1) l2 0 →
   (∀c o,s.heap.get? c=some o->h'.get? c=some o)->Q (.ref (s.heap.objs.size+4)) { s with heap:=h' }):Es (EF prog w) A (call (.type "zip") [.ref l1,.ref l2]) Q E s:=by
 refine callType_new F.called_zip (by decide) (F.typeCall_zip_2 _ _) (F.newCall_zip_2 _ _) (λobj=>F.args_object_init_3 obj _ _) F.entry_zip_new (yF c d l1 l2 xs ys) ⟨m1,m2,?_⟩
 have z1:(zB1 c s.heap l1).objs.size=s.heap.objs.size+1:=Gd ..
 have z2:(zB2 c d s.heap l1 l2).objs.size=s.heap.objs.size+2:=(Gd ..).trans (by rw[z1])
 have z3:(zB3 c d s.heap l1 l2).objs.size=s.heap.objs.size+3:=(Gd ..).trans (by rw[z2])
 have z4:(zB4 c d s.heap l1 l2).objs.size=s.heap.objs.size+4:=(Gd ..).trans (by rw[z3])
 have g5:(zB5 c d s.heap l1 l2).get? (zB4 c d s.heap l1 l2).objs.size=some { cls :=.type "zip",data :=.fields #[.none,.bool false,.bool false,.ref (zB2 c d s.heap l1 l2).objs.size,.ref (zB3 c d s.heap l1 l2).objs.size] }:=Ed _ rfl
 have g4:(zB5 c d s.heap l1 l2).get? (zB3 c d s.heap l1 l2).objs.size=some { cls :=.type "tuple",data :=.seq #[.none,.none] }:=DZ _ (Ed _ rfl)
 have g3:(zB5 c d s.heap l1 l2).get? (zB2 c d s.heap l1 l2).objs.size=some { cls :=.type "tuple",data :=.seq #[.ref s.heap.objs.size,.ref (zB1 c s.heap l1).objs.size] }:=DZ _ (DZ _ (Ed _ rfl))
 have g2:(zB5 c d s.heap l1 l2).get? (zB1 c s.heap l1).objs.size=some { cls :=.type (vk d),data :=.fields #[.ref l2,.int 0 0] }:=DZ _ (DZ _ (DZ _ (Ed _ rfl)))
 have g1:(zB5 c d s.heap l1 l2).get? s.heap.objs.size=some { cls :=.type (vk c),data :=.fields #[.ref l1,.int 0 0] }:=DZ _ (DZ _ (DZ _ (DZ _ (Ed _ rfl))))
 show _/\_
 rw[z2,z3,z4] at g5
 rw[z1,z2] at g3
 rw[z3] at g4
 rw[z1] at g2
 rw[z4]
 refine ⟨⟨_,g5,rfl⟩,h _ g5 g3 g4 ?_ ?_ λc' o x=>DZ _ (DZ _ (DZ _ (DZ _ (DZ _ x))))⟩
 ·cases c
  ·exact ⟨_,g1,rfl,rfl⟩
  ·exact ⟨_,g1,rfl,rfl⟩
 ·cases d
  ·exact ⟨_,g2,rfl,rfl⟩
  ·exact ⟨_,g2,rfl,rfl⟩
end
def SqB (K:D2):Bool->Hp->Addr->List V->Prop
 | true,H,a,xs=>SqL K H a xs
 | false,H,a,xs=>SqT K H a xs
theorem SqB.row {X:Cx}{c:Bool}{pins:List (Addr×Obj)}{σ:St}{H:Hp}{s:D5}(I:Inv X pins σ H s){a:Addr}{xs:List V}(h:SqB X.K c H a xs):∃its:List D1,Vals xs its/\SB' c s.heap a its.toArray:=by
 cases c
 ·obtain ⟨its,r,p,_⟩:=I.tuple (show SqT X.K H a xs from h);exact ⟨its,r,p⟩
 ·obtain ⟨its,r,p,_⟩:=I.list (show SqL X.K H a xs from h);exact ⟨its,r,p.isList⟩
theorem SB'.lt {c:Bool}{h:Heap}{l:Addr}{xs:Array D1}(x:SB' c h l xs):l<h.objs.size:=by
 cases c
 ·obtain ⟨o,e,_⟩:=(show h.IsTuple l xs from x);exact Ej e
 ·obtain ⟨o,e,_⟩:=(show h.IsList l xs from x);exact Ej e
theorem SqB.inj {X:Cx}{c:Bool}{pins:List (Addr×Obj)}{σ:St}{H:Hp}{s:D5}(I:Inv X pins σ H s){a:Addr}{xs ys:List V}(h:SqB X.K c H a xs)(g:SqB X.K c H a ys):xs=ys:=by
 cases c
 ·exact I.nX h g
 ·exact I.qC h g
def ItZ (K:D2)(c d:Bool)(a b:Addr):It :=
 ⟨λi H=>∃xs ys u v,SqB K c H a xs/\SqB K d H b ys/\xs[i]? = some u/\ys[i]? = some v,λi H x H'=>∃T u v,H T=none/\x = .ref T/\H'=upd H T (.tup [u,v])/\(∀xs,SqB K c H a xs->xs[i]? = some u)/\∀ys,SqB K d H b ys->ys[i]? = some v,λi H=>∃xs ys,SqB K c H a xs/\SqB K d H b ys/\(xs.length<=i\/ys.length<=i)⟩
theorem wY {P:Eo}{w:ES}{K:D2}{elts:List Expr}{k:Nat}{pos:Pos}(c d:Bool)(a b z TI TO i1 i2:Addr)(D:ZipApart z TI TO i1 i2 a b):Turn P w K (.Tuple elts k pos) (ItZ K c d a b) [z,TI,TO,i1,i2] z (λi h=>IsZip h z TI TO .none/\IsPair h TI (.ref i1) (.ref i2)/\(∃x y,IsPair h TO x y)/\ItB c h i1 a i/\ItB d h i2 b i) where
 mem:=by simp
 obj:=λi h ⟨hz,hI,⟨x,y,hO⟩,h1,h2⟩ e he=>by
  have he':e=z\/e=TI\/e=TO\/e=i1\/e=i2:=by simpa using he
  rcases he' with q | q | q | q | q
  ·subst q;exact ⟨_,hz,λv z=>nomatch z⟩
  ·subst q;exact ⟨_,hI,λv z=>nomatch z⟩
  ·subst q;exact ⟨_,hO,λv z=>nomatch z⟩
  ·subst q;exact h1.obj
  ·subst q;exact h2.obj
 keep:=λi h h' ⟨hz,hI,⟨x,y,hO⟩,h1,h2⟩ kp=>⟨kp z (by simp) _ hz,kp TI (by simp) _ hI,⟨x,y,kp TO (by simp) _ hO⟩,h1.to λo e=>kp i1 (by simp) o e,h2.to λo e=>kp i2 (by simp) o e⟩
 item:=λX eP eW eK hcalm i pins s σ H E I f ⟨hz,hI,⟨x,y,hO⟩,h1,h2⟩ go=>by
  subst eP eW eK
  obtain ⟨xs,ys,u,v,ha,hb,hu,hv⟩:=go
  obtain ⟨its,r,pl⟩:=SqB.row I ha
  obtain ⟨jts,r',pl'⟩:=SqB.row I hb
  obtain ⟨u',eu,ru⟩:=r.get hu
  obtain ⟨v',ev,rv⟩:=r'.get hv
  refine rF D hz hI hO h1 h2 pl pl' (x:=u') (y:=v') (by rw[Fd];exact eu) (by rw[Fd];exact ev) λh' o1 o2 o3 o4 o5 o6 kp =>?_
  refine ⟨_,rfl,?_⟩
  refine wpAny_letOwnedTupleGo_zip o1 λh2' e2 sb =>?_
  have ez:z≠s.heap.objs.size:=Ey (Ej hz)
  have lt:∀e∈[z,TI,TO,i1,i2],e≠s.heap.objs.size:=λe he=>by
   have he':e=z\/e=TI\/e=TO\/e=i1\/e=i2:=by simpa using he
   rcases he' with q | q | q | q | q
   ·rw[q];exact ez
   ·rw[q];exact Ey (Ej hI)
   ·rw[q];exact Ey (Ej hO)
   ·rw[q];exact Ey h1.lt
   ·rw[q];exact Ey h2.lt
  have kp2:∀e ob,e∉[z,TI,TO,i1,i2]->s.heap.get? e=some ob->h2'.get? e=some ob:=λe ob he eb=>by
   have n1:e≠z:=λq=>he (by simp[q])
   have n2:e≠TO:=λq=>he (by simp[q])
   have n3:e≠i1:=λq=>he (by simp[q])
   have n4:e≠i2:=λq=>he (by simp[q])
   rw[sb.2 e n1];exact kp e ob n1 n2 n3 n4 eb
  have j1:ItB c h2' i1 a (i+1):=o3.to λob eb=>by rw[sb.2 i1 D.i1z];exact eb
  have j2:ItB d h2' i2 b (i+1):=o4.to λob eb=>by rw[sb.2 i2 D.i2z];exact eb
  have jI:IsPair h2' TI (.ref i1) (.ref i2):=by
   show h2'.get? TI=_
   rw[sb.2 TI D.TIz]
   exact kp TI _ D.TIz D.TITO D.TIi1 D.TIi2 hI
  have jO:IsPair h2' TO u' v':=by
   show h2'.get? TO=_
   rw[sb.2 TO D.TOz]
   exact o2
  have tp:h2'.get? s.heap.objs.size=some { cls :=.type "tuple",data :=.seq #[u',v'] }:=by rw[sb.2 _ (F8 ez)];exact o5
  refine ⟨.ref s.heap.objs.size,upd H s.heap.objs.size (.tup [u,v]),I.tj (ch:=[z,TI,TO,i1,i2]) f kp2 (λe he =>?_) (D6 _) ?_,rfl,⟨s.heap.objs.size,u,v,I.hok.fresh (D6 _),rfl,rfl,λzs hy =>?_,λzs hy =>?_⟩,⟨e2,jI,⟨_,_,jO⟩,j1,j2⟩,λe he =>?_⟩
  ·have he':e=z\/e=TI\/e=TO\/e=i1\/e=i2:=by simpa using he
   rcases he' with q | q | q | q | q
   ·rw[q];exact ⟨_,e2⟩
   ·rw[q];exact ⟨_,jI⟩
   ·rw[q];exact ⟨_,jO⟩
   ·rw[q];obtain ⟨o,ho,_⟩:=j1.obj;exact ⟨o,ho⟩
   ·rw[q];obtain ⟨o,ho,_⟩:=j2.obj;exact ⟨o,ho⟩
  ·refine ⟨(by show 2<=Ei;decide),[u',v'],.cons ru (.cons rv .nil),_,tp,⟨rfl,rfl⟩,_,rfl⟩
  ·rw[SqB.inj I hy ha];exact hu
  ·rw[SqB.inj I hy hb];exact hv
  ·rw[ak (lt e he)];exact (f e he).1
 done:=λX eP eW eK hcalm i pins s σ H E I f ⟨hz,hI,⟨x,y,hO⟩,h1,h2⟩ stop=>by
  subst eP eW eK
  obtain ⟨xs,ys,ha,hb,hl⟩:=stop
  obtain ⟨its,r,pl⟩:=SqB.row I ha
  obtain ⟨jts,r',pl'⟩:=SqB.row I hb
  have l:=r.length
  have l':=r'.length
  refine kR (I.ok.hd hcalm) D hz hI hO h1 h2 pl pl' (hl.imp (λ_=>by rw[Fd];exact Ir.mpr (by lia)) (λ_=>by rw[Fd];exact Ir.mpr (by lia))) λh' ex=>⟨rfl,?_⟩
  exact I.wV (ch:=[z,TI,TO,i1,i2]) (h':=h') (t':=s.toks) f λe o he eb=>ex e o (λq=>he (by simp[q])) (λq=>he (by simp[q])) (λq=>he (by simp[q])) (λq=>he (by simp[q])) eb
 self:=λA i s Q E ⟨hz,_⟩ q=>wpAny_pyIter_zip hz q
def DF (K:D2)(c d:Bool)(ta:TA):TI:=λσ H R=>ta σ H λvs H1=>∃a b,vs=[.ref a,.ref b]/\(∃xs,SqB K c H1 a xs)/\(∃ys,SqB K d H1 b ys)/\R (ItZ K c d a b) H1
theorem AI {X:Cx}(c d:Bool){a b:Expr}{ta:TA}{p pos pos':Pos}{elts:List Expr}{k:Nat}(hg:Gl X "zip")(hm:X.mg "zip" = none)(ha:PA X [a,b] ta)(hs:E5 [a,b] X.env=[(false,eval a X.env),(false,eval b X.env)]:=by rfl)(hs2:E5 [b] X.env=[(false,eval b X.env)]:=by rfl) :
  PI X (.Tuple elts k pos') (.Call (.Name "zip" p) [a,b] [] pos) (DF X.K c d ta):=by
 intro pins s σ H R I h
 refine Call_ (fB I hg hm boot_zip (HV (thn (ha pos pins s σ H _ I h) λus s1 ⟨vs,H1,I1,r1,q1⟩ =>?_) (by rw[hs,hs2]) (by rw[hs2];rfl)))
 obtain ⟨l1,l2,e,⟨xs,hx⟩,⟨ys,hy⟩,q⟩:=q1
 subst e
 cases r1 with
 | cons r rr =>
  cases rr with
  | cons r' rr =>
   cases rr
   cases r
   cases r'
   have fp:∀b∈[s1.heap.objs.size+4,s1.heap.objs.size+2,s1.heap.objs.size+3,s1.heap.objs.size,s1.heap.objs.size+1],jL X pins H1 b:=λb hb=>by
    have ge:s1.heap.objs.size<=b:=by
     simp at hb
     lia
    exact I1.v5 ge (I1.hok.fresh ge)
   obtain ⟨its,rv,pl⟩:=SqB.row I1 hx
   obtain ⟨jts,rv',pl'⟩:=SqB.row I1 hy
   have D:=Cu _ _ _ pl.lt pl'.lt
   refine wX pl pl' λh' hz hI hO h1 h2 kp =>?_
   have T:=wY (P:=X.prog) (w:=X.w) (K:=X.K) (elts:=elts) (k:=k) (pos:=pos') c d l1 l2 _ _ _ _ _ D
   refine T.self _ 0 _ _ _ ⟨hz,hI,⟨_,_,hO⟩,h1,h2⟩ ?_
   exact ⟨_,_,_,_,H1,rfl,I1.kept (t':=s1.toks) kp,T,⟨hz,hI,⟨_,_,hO⟩,h1,h2⟩,fp,q⟩
theorem DG {K:D2}{c d:Bool}{a b:Addr}{xs ys:List V}{g:TG}{tb:TS}{D:Ends}{σ:St}{H:Hp}(n:Nat)(n1:n<=xs.length)(n2:n<=ys.length)(n3:n=xs.length\/n=ys.length)(Pv:Nat->St->Hp->Prop)(h0:Pv 0 σ H)(hl:∀i σ H,i<=n->Pv i σ H->SqB K c H a xs/\SqB K d H b ys)
  (hs:∀i x y σ H T,xs[i]? = some x->ys[i]? = some y->H T=none->Pv i σ H->g (.ref T) σ (upd H T (.tup [x,y])) λσ2 H2=>tb { D with nx:=Pv (i+1),ct:=Pv (i+1),bk:=D.nx } σ2 H2) (hd:∀σ H,Pv n σ H->D.nx σ H):B9 (ItZ K c d a b) g tb D σ H:=by
 refine ⟨λi m σ H=>m=n-i/\i<=n/\Pv i σ H,⟨n,by simp,EZ _,h0⟩,?_⟩
 rintro i m σ H ⟨rfl,hi,p⟩
 obtain ⟨q1,q2⟩:=hl i σ H hi p
 by_cases hlt:i<n
 ·refine .inr ⟨⟨xs,ys,xs[i]'(by lia),ys[i]'(by lia),q1,q2,by simp[show i<xs.length by lia],by simp[show i<ys.length by lia]⟩,Pv (i+1),λσ' H' p'=>⟨n-(i+1),by lia,rfl,hlt,p'⟩,λx H' y =>?_⟩
  obtain ⟨T,u,v,hT,ex,eH,hu,hv⟩:=y
  subst ex eH
  exact hs i u v σ H T (hu xs q1) (hv ys q2) hT p
 ·have e:i=n:=by lia
  subst e
  exact .inl ⟨⟨xs,ys,q1,q2,n3.elim (λz =>.inl (by lia)) (λz =>.inr (by lia))⟩,hd σ H p⟩
theorem DH {K:D2}{c d:Bool}{a b:Addr}{xs ys:List V}{k l:Nat}{tc:TT}{te:TE}{τ:St}{H:Hp}{Q:VK}(n:Nat)(n1:n<=xs.length)(n2:n<=ys.length)(n3:n=xs.length\/n=ys.length)(Pv:Nat->List V->Hp->Prop)(hkl:k≠l)(h0:Pv 0 [] H)(hz:n<=Ei)
  (hl:∀i zs H,i<=n->Pv i zs H->SqB K c H a xs/\SqB K d H b ys)
  (hs:∀i x y zs H T,xs[i]? = some x->ys[i]? = some y->zs.length<=i->H T=none->Pv i zs H->Dw k l tc te τ Pv i x y zs (upd H T (.tup [x,y])))
  (hd:∀zs H,zs.length<=n->Pv n zs H->∀r,H r=none->Q (.ref r) (upd H r (.lst zs))):lS (ItZ K c d a b) (Bq K k l) tc te τ Q H:=by
 refine ⟨λi m σ zs H=>m=n-i/\i<=n/\(∀a b,(σ.set k (some a)).set l (some b)=(τ.set k (some a)).set l (some b))/\zs.length<=i/\Pv i zs H,⟨n,by simp,EZ _,λ_ _=>rfl,D6 _,h0⟩,?_⟩
 rintro i m σ zs H ⟨rfl,hi,hτ,hy,pv⟩
 obtain ⟨q1,q2⟩:=hl i zs H hi pv
 by_cases hlt:i<n
 ·refine .inr ⟨⟨xs,ys,xs[i]'(by lia),ys[i]'(by lia),q1,q2,by simp[show i<xs.length by lia],by simp[show i<ys.length by lia]⟩,λx H' y =>?_⟩
  obtain ⟨T,u,v,hT,ex,eH,hu,hv⟩:=y
  subst ex eH
  refine ⟨T,_,rfl,SqT.of ae,rfl,_,_,rfl,_,_,rfl,rfl,?_⟩
  rw[hτ]
  have hσ:∀a b,((((τ.set k (some u)).set l (some v)).set k (some a)).set l (some b))=(τ.set k (some a)).set l (some b):=λa b=>by
   rw[List.set_comm _ _ (F8 hkl),JX,JX]
  refine hs i u v zs _ T (hu xs q1) (hv ys q2) hy hT pv _ _ (λy4 H4 p4=>⟨by lia,n-(i+1),by lia,rfl,hlt,hσ,by rw[D7,ED];lia,p4⟩) λH3 p3=>⟨n-(i+1),by lia,rfl,hlt,hσ,by lia,p3⟩
 ·have e:i=n:=by lia
  subst e
  exact .inl ⟨⟨xs,ys,q1,q2,n3.elim (λz =>.inl (by lia)) (λz =>.inr (by lia))⟩,by lia,hd zs H hy pv⟩
end L2
namespace Srt
open PySem PyProof.Rows
def Cv (rv:Bool)(kz:List Int)(vs out:List D1):Prop:=∃ps:List (Int×D1),ps.Perm (kz.zip vs)/\out=ps.map Prod.snd/\ps.Pairwise (λp q=>if rv=true then q.1<=p.1 else p.1<=q.1)
def jq {α:Type}(rv:Bool)(l:List α):List α:=if rv=true then l.reverse else l
section
variable  {prog:Eo}{w:ES}{A:Fi}{E:D1->D5->Prop}{s:D5}
theorem yG {h6:D5}:Cmp prog w A h6 iG (λp:EA=>intOf p.1) (λp=>∃i t,p.1 = .int i t) oneType':=by
 refine ⟨λE st x y Q hk hx hy q =>?_⟩
 obtain ⟨i,t,e1⟩:=hx
 obtain ⟨j,u,e2⟩:=hy
 rw[lt'_eq]
 refine Ep (JR ?_)
 rw[hk,keyLt'_oneType,e1,e2]
 refine Ep (J8 (Hq (oneLt_int ⟨rfl,?_⟩)))
 refine EC ?_
 have q':Q (some (decide (intOf x.1<intOf y.1))) st:=q
 rw[e1,e2] at q'
 exact q'
theorem AJ {rv:Bool}{keys vs:List D1}{kz:List Int}(hk:He keys kz){xs:List EA}(hp:xs.Perm (keys.zip vs))(hs:xs.Pairwise λp q=>iG.kle (intOf p.1) (intOf q.1)):Cv rv kz vs (jq rv (xs.map (·.2))):=by
 have e:(keys.zip vs).map (λp:EA=>(intOf p.1,p.2))=kz.zip vs:=by
  rw[<- ints_map hk,List.zip_map_left]
  exact LO λ⟨x,y⟩ _=>rfl
 have pm:(xs.map λp:EA=>(intOf p.1,p.2)).Perm (kz.zip vs):=e ▸ hp.map _
 have em:xs.map (·.2)=(xs.map λp:EA=>(intOf p.1,p.2)).map Prod.snd:=by rw[G6];rfl
 have pw:(xs.map λp:EA=>(intOf p.1,p.2)).Pairwise λp q=>p.1<=q.1:=by
  rw[Fh]
  refine hs.imp λ{p q} le =>?_
  have:=of_decide_eq_false (show decide (intOf q.1<intOf p.1)=false from le)
  show intOf p.1<=intOf q.1
  lia
 rw[em]
 generalize (xs.map λp:EA=>(intOf p.1,p.2))=ps at pm pw
 cases rv with
 | false=>exact ⟨ps,pm,rfl,pw.imp λh=>by rw[if_neg Ek];exact h⟩
 | true=>exact ⟨ps.reverse,(Mx ps).trans pm,by rw[List.map_reverse];rfl,List.pairwise_reverse.mpr (pw.imp λh=>by rw[if_pos rfl];exact h)⟩
theorem yH {rv:Bool}{a:Addr}{f:D1}{vs:List D1}{kz:List Int}{n:Nat}{P:PySem.Fin->D5->Prop}(ho:s.heap.get? a=some (seqObj "list" vs.toArray n))(hz:vs.length<=Ei)(hlen:kz.length=vs.length)
  (turn:∀(i:Nat) (v:D1) (k:Int),vs[i]? = some v->kz[i]? = some k->∀(h:Heap) (tk:Nat),(∀b o,b≠a->s.heap.get? b=some o->h.get? b=some o)->∀(Q:D1->D5->Prop) (E:D1->D5->Prop),(∀t tk',Q (.int k t) { s with heap:=h,toks:=tk' })->Es (EF prog w) A (call f [v]) Q E { s with heap:=h,toks:=tk })
  (h:∀(h':Heap) (tk:Nat) (out:List D1) (c:Nat),(∀b o,b≠a->s.heap.get? b=some o->h'.get? b=some o)->h'.get? a=some (seqObj "list" out.toArray c)->Cv rv kz vs out->P (.done (.ret .none)) { s with heap:=h',toks:=tk }) :
  Es (EF prog w) A (ksk_tree a f rv) P E s:=by
 have ha:a<s.heap.objs.size:=Ej ho
 unfold ksk_tree
 refine DX (Ka ho rfl (DX (Ii ho rfl ?_ (by rw[D4];exact hz) (EZ _))))
 obtain ⟨e1,ho1⟩:∃e1,(s.heap.update a (Fs λ_=>(#[]:Array D1))).get? a=some (seqObj "list" #[] e1):=⟨_,IZ ho λ_ => #[]⟩
 refine DX (LV ho1 rfl (DX (LH ?_ (by exact hz))))
 refine DX (Ij ?_ (EZ _))
 refine Fe ?_
 obtain ⟨kS,ekS⟩:∃kS,kS=((s.heap.update a (Fs λ_=>(#[]:Array D1))).push (seqObj "tuple" vs.toArray 0)).objs.size:=⟨_,rfl⟩
 have hkS:kS=s.heap.objs.size+1:=by rw[ekS,Lu,ML]
 have hka:kS≠a:=by rw[hkS];exact GV (Fz ha)
 show Es _ _ (ksk_rest a f rv vs.toArray e1 (.ref ((s.heap.update a (Fs λ_=>(#[]:Array D1))).push (seqObj "tuple" vs.toArray 0)).objs.size)) _ _ { s with heap:=((s.heap.update a (Fs λ_=>(#[]:Array D1))).push (seqObj "tuple" vs.toArray 0)).push (seqObj "list" #[] 0) }
 rw[<- ekS]
 have g0:(((s.heap.update a (Fs λ_=>(#[]:Array D1))).push (seqObj "tuple" vs.toArray 0)).push (seqObj "list" #[] 0)).get? kS=some (seqObj "list" #[] 0):=by rw[ekS];exact Ed _ rfl
 have a0:(((s.heap.update a (Fs λ_=>(#[]:Array D1))).push (seqObj "tuple" vs.toArray 0)).push (seqObj "list" #[] 0)).get? a=some (seqObj "list" #[] e1):=DZ _ (DZ _ ho1)
 have k0:∀b o,b≠a->s.heap.get? b=some o->(((s.heap.update a (Fs λ_=>(#[]:Array D1))).push (seqObj "tuple" vs.toArray 0)).push (seqObj "list" #[] 0)).get? b=some o:=λb o nb e=>by
  refine DZ _ (DZ _ ?_)
  rw[Gw _ _ _ _ nb]
  exact e
 have old:∀b o,s.heap.get? b=some o->b≠kS:=λb o e=>by rw[hkS];exact Ey (Fz (Ej e))
 generalize ((s.heap.update a (Fs λ_=>(#[]:Array D1))).push (seqObj "tuple" vs.toArray 0)).push (seqObj "list" #[] 0)=h6 at g0 a0 k0
 unfold ksk_rest
 refine DX (GQ ?_)
 rw[<- J6];simp only[List.toList_toArray]
 refine DX (ksk_fold (λi s'=>∃(h':Heap) (tk:Nat) (kA:Array D1) (e:Nat),s'={ s with heap:=h',toks:=tk }/\(∀b o,b≠a->s.heap.get? b=some o->h'.get? b=some o)/\h'.get? kS=some (seqObj "list" kA e)/\h'.get? a=some (seqObj "list" #[] e1)/\He kA.toList (kz.take i)) vs 0 _
  ⟨h6,s.toks, #[],0,rfl,k0,g0,a0,by simpa using IntsAre.nil⟩ ?step ?done)
 case step =>
  rintro j x s' hx ⟨h',tk,kA,e,rfl,kp,gk,ga,hk⟩
  simp only[Hm] at hk ⊢
  have hj:j<vs.length:=(Ea.mp hx).1
  obtain ⟨k,hkj⟩:∃k,kz[j]? = some k:=⟨_,Ec (by lia)⟩
  have hzk:kA.size=j:=by
   have h1:=hk.length
   rw[D9,Ff] at h1
   lia
  refine DX (Hq (turn j x k hx hkj h' tk kp _ _ λt tk' =>?_))
  try dsimp only
  obtain ⟨c2,hc2⟩:∃c2,(h'.update kS (Fs (·.push (.int k t)))).get? kS=some (seqObj "list" (kA.push (.int k t)) c2):=⟨_,IZ gk (·.push (.int k t))⟩
  have ek:kz.take (j+1)=kz.take j++[k]:=by rw[E4,hkj];simp
  have ea:(kA.push (F7 k t)).toList=kA.toList++[F7 k t]:=by simp
  refine DX (Ii gk rfl ?_ (by lia) (ET (Nat.le_of_eq (Ha ..)) (by lia)))
  refine D3 ⟨rfl,_,_,kA.push (.int k t),c2,rfl,λb o nb eb =>?_,hc2,?_,by rw[ea,ek];exact ksk_snoc hk⟩
  ·rw[Gw _ _ _ _ (old b o eb)]
   exact kp b o nb eb
  ·rw[Gw _ _ _ _ (F8 hka)]
   exact ga
 case done =>
  rintro s' ⟨h',tk,kA,e,rfl,kp,gk,ga,hk⟩
  have hk':He kA.toList kz:=by
   have e3:kz.take (0+vs.length)=kz:=Et (by lia)
   rw[e3] at hk
   exact hk
  have hsz:kA.size=vs.length:=by
   have h1:=hk'.length
   rw[D9] at h1
   lia
  try dsimp only
  refine DX (Ka gk rfl ?_)
  have zl:(kA.zip vs.toArray).toList=kA.toList.zip vs:=ksk_zip _ _
  have up:∀p∈(kA.toList.zip vs:List EA),∃i t,p.1 = .int i t:=λp hp=>gF hk' _ (JF hp).1
  have lz:(kA.toList.zip vs:List EA).length=vs.length:=by rw[K6,D9,hsz,J0]
  have tl:∀st':EU,(EE st').toList.Perm (kA.toList.zip vs)->(EE st').toList.Pairwise (λp q=>iG.kle (intOf p.1) (intOf q.1))->failedOf st'=none->Es (EF prog w) A (ksk_tail a rv e1 (.ref kS) st') P E { s with heap:=h',toks:=tk }:=by
   intro st' pm ps hf
   have em:(if rv=true then ((EE st').map (·.2)).reverse else (EE st').map (·.2))=(jq rv ((EE st').toList.map (·.2))).toArray:=by
    unfold jq
    apply Jo.mp
    cases rv <;> simp
   have sa:(EE st').size=vs.length:=by rw[<- D9,pm.length_eq,lz]
   have ga1:(h'.update kS (Fs λ_=>(#[]:Array D1))).get? a=some (seqObj "list" #[] e1):=by rw[Gw _ _ _ _ (F8 hka)];exact ga
   unfold ksk_tail
   try dsimp only
   refine DX (Ii gk rfl ?_ (by rw[hsz];exact hz) (EZ _));refine DX (Hd ?_)
   refine DX (LV ga1 rfl ?_);refine DX (Ii ga1 rfl ?_ (EZ _) (by rw[em,D4];unfold jq;cases rv <;> simp[sa] <;> lia))
   rw[hf];simp only[bne_self_eq_false,Ex,if_false]
   rw[em]
   obtain ⟨c2,hc2⟩:∃c2,((h'.update kS (Fs λ_=>(#[]:Array D1))).update a (Fs λ_=>(jq rv ((EE st').toList.map (·.2))).toArray)).get? a=some (seqObj "list" (jq rv ((EE st').toList.map (·.2))).toArray c2):=⟨_,IZ ga1 λ_=>(jq rv ((EE st').toList.map (·.2))).toArray⟩
   refine D3 (h _ _ _ c2 (λb o nb eb =>?_) hc2 (AJ hk' pm ps))
   rw[Gw _ _ _ _ nb,Gw _ _ _ _ (old b o eb)]
   exact kp b o nb eb
  have rz:∀l:List EA,(jq rv l).Perm l:=λl=>by
   unfold jq
   by_cases c:rv=true
   ·rw[if_pos c];exact Mx l
   ·rw[if_neg c]
  have zr:(if rv=true then (kA.zip vs.toArray).reverse else kA.zip vs.toArray).toList=jq rv (kA.toList.zip vs):=by unfold jq;cases rv <;> simp[zl]
  have go:∀m:Sem PySem.Fin,Es (EF prog w) A m P E { s with heap:=h',toks:=tk }->Es (EF prog w) A (if rv=true then rule "list.sort.reverse" >>= λ_=>m else m) P E { s with heap:=h',toks:=tk }:=λm hm=>by
   cases rv with
   | false=>rw[if_neg Ek];exact hm
   | true=>rw[if_pos rfl];exact DX (GQ hm)
  unfold ksk_end
  try dsimp only
  refine go _ ?_
  by_cases h2:vs.toArray.size<2
  ·rw[if_pos h2,if_pos h2]
   refine DX (D3 ?_)
   rw[MX]
   refine DX (D3 ?_)
   refine tl (SortSt.mk' general' (if rv=true then (kA.zip vs.toArray).reverse else kA.zip vs.toArray) #[] 7 none) ?_ ?_ rfl
   ·show (if rv=true then (kA.zip vs.toArray).reverse else kA.zip vs.toArray).toList.Perm _
    rw[zr];exact rz _
   ·show (if rv=true then (kA.zip vs.toArray).reverse else kA.zip vs.toArray).toList.Pairwise _
    rw[zr]
    rw[D4] at h2
    have l2:(jq rv (kA.toList.zip vs):List EA).length<2:=by rw[(rz _).length_eq];lia
    generalize (jq rv (kA.toList.zip vs):List EA)=l at l2
    match l,l2 with
    | [],_=>exact List.Pairwise.nil
    | [v],_=>exact Ge _ _
    | _ :: _ :: _,hu=>simp only[EI] at hu;lia
  ·rw[if_neg h2,if_neg h2]
   rw[D4] at h2
   rw[ksk_kind hk' (by rw[hsz];lia)]
   refine DX (D3 ?_)
   refine DX (Gp (qM (yG (h6:={ s with heap:=h',toks:=tk })) (E:=E) (a0:=jq rv (kA.toList.zip vs)) (st:=SortSt.mk' oneType' (if rv=true then (kA.zip vs.toArray).reverse else kA.zip vs.toArray) #[] 7 none)
    (Q:=λ_ st'=>(EE st').toList.Perm (kA.toList.zip vs)/\(EE st').toList.Pairwise (Le (O:=iG) λ(p:EA)=>intOf p.1)/\failedOf st'=none)
    (λp hp=>up p ((rz _).mem_iff.mp hp)) zr rfl rfl rfl (by rw[(rz _).length_eq,lz];lia) λst' a1 a2 a3=>⟨a1.trans (rz _),a2,a3⟩) ?_ λ_ _ e=>e)
   rintro ⟨⟨⟩,st'⟩ s' ⟨rfl,hp,hs,hf⟩
   exact tl st' hp hs hf
theorem nK {rv:Bool}{v f:D1}{vs:List D1}{kz:List Int}{kw:List (Str×D1)}{Q:D1->D5->Prop}(hv:lW prog w s v vs)(hz:vs.length<=Ei)(hlen:kz.length=vs.length)
  (ha1:argsOk "sorted" ⟨[v],kw⟩) (ha2:∀x,argsOk "list.sort" ⟨[.ref x],kw⟩) (ht:∀x,Builtin.«list.sort» ⟨[.ref x],kw⟩=ksk_tree x f rv)
  (turn:∀(i:Nat) (u:D1) (k:Int),vs[i]? = some u->kz[i]? = some k->∀(A:Fi) (h:Heap) (tk:Nat),(∀b o,s.heap.get? b=some o->h.get? b=some o)->∀(Q:D1->D5->Prop) (E:D1->D5->Prop),(∀t tk',Q (.int k t) { s with heap:=h,toks:=tk' })->Es (EF prog w) A (call f [u]) Q E { s with heap:=h,toks:=tk })
  (h:∀(h':Heap) (tk:Nat) (p:Addr) (out:List D1) (n:Nat),(∀b o,s.heap.get? b=some o->h'.get? b=some o)->s.heap.objs.size<=p->h'.get? p=some (seqObj "list" out.toArray n)->Cv rv kz vs out->Q (.ref p) { s with heap:=h',toks:=tk }) :
  Es (EF prog w) A (call (.builtin "sorted") [v] kw) Q E s:=by
 refine call_function_entry_kw LW Lj Lk ha1 ?_
 unfold Builtin.«sorted»
 refine DX (m:=checkCount "sorted" 1 1 _) (D3 ?_)
 refine DX (hv _ _ _ λh1 k1 z1=>DX (Ij ?_ hz))
 have hoL:(h1.push (seqObj "list" vs.toArray 0)).get? h1.objs.size=some (seqObj "list" vs.toArray 0):=Ed _ rfl
 have kL:∀b o,s.heap.get? b=some o->(h1.push (seqObj "list" vs.toArray 0)).get? b=some o:=λb o e=>DZ _ (k1 b o e)
 have ne:∀b o,s.heap.get? b=some o->b≠h1.objs.size:=λb o e=>Ey (Er (Ej e) z1)
 refine DX (Fe (wpAny_call_entry_kw slot_list_sort ⟨_,hoL,rfl⟩ entry_list_sort ?body (ha2 _)))
 case body =>
  show Es (EF prog w) _ (Builtin.«list.sort» ⟨[.ref h1.objs.size],kw⟩) _ _ _
  rw[ht]
  refine yH (s:={ s with heap:=h1.push (seqObj "list" vs.toArray 0) }) hoL hz hlen (λi u k hu hk hp tk kp Q E q =>?_) λh' tk out c kp ga ko=>⟨_,rfl,?_⟩
  ·exact turn i u k hu hk _ hp tk (λb o e=>kp b o (ne b o e) (kL b o e)) Q E q
  ·exact D3 ⟨_,rfl,h h' tk _ out c (λb o e=>kp b o (ne b o e) (kL b o e)) z1 ga ko⟩
end
end Srt
namespace L2
open PySem PySem.Spec PyProof.Rows
section
variable  {X:Cx}
def yI (K:D2)(te:TE):TE:=λσ H Q=>te σ H λx H1=>∃(p:Addr) (ts:List (Addr×List Int)),[x]=[.ref p]/\(SqL K H1 p (ts.map λt =>.ref t.1)\/SqT K H1 p (ts.map λt =>.ref t.1))/\(∀t∈ts,SqT K H1 t.1 (t.2.map V.int)) ∧
  ∀(l:Addr) (out:List (Addr×List Int)),H1 l=none->out.Perm ts->out.Pairwise (λa b=>a.2.length<=b.2.length)->Q (.ref l) (upd H1 l (.lst (out.map λt =>.ref t.1)))
theorem rG {α β γ:Type}(f:α -> β)(g:α -> γ):∀l:List α,(l.map f).zip (l.map g)=l.map λx=>(f x,g x)
 | []=>rfl
 | x :: l=>by rw[Ez,Ez,JZ,rG f g l];rfl
theorem qf {e:Expr}{te:TE}{p p2 pos kpos:Pos}(hg:Gl X "sorted")(hm:X.mg "sorted" = none)(hg2:Gl X "len")(hm2:X.mg "len" = none)(hv:Fx "sorted" = some (.builtin "sorted"))(he:PE X e te)
    (hs:E5 (e :: []) X.env=(false,eval e X.env) :: E5 [] X.env:=by rfl)
    (ha:Ig pos (E5 (e :: []) X.env)=(false,eval e X.env) :: Ig pos (E5 [] X.env):=by rfl)
    (hplain:(Ig pos (E5 (e :: []) X.env)).any (·.1)=false:=by rfl) :
    PE X (.Call (.Name "sorted" p) [e] [⟨some "key",.Name "len" p2,kpos⟩] pos) (yI X.K te):=by
  intro pins s σ H Q I h
  refine Ho (fB I hg hm hv ?_)
  refine Kp (thn ((aa he af hs) pos pins s σ H (λvs H1=>∃(p:Addr) (ts:List (Addr×List Int)),vs=[.ref p]/\(SqL X.K H1 p (ts.map λt:Addr×List Int=>V.ref t.1)\/SqT X.K H1 p (ts.map λt:Addr×List Int=>V.ref t.1))/\(∀t∈ts,SqT X.K H1 t.1 (t.2.map V.int)) ∧
    ∀(l:Addr) (out:List (Addr×List Int)),H1 l=none->out.Perm ts->out.Pairwise (λa b:Addr×List Int=>a.2.length<=b.2.length)->Q (.ref l) (upd H1 l (.lst (out.map λt:Addr×List Int=>V.ref t.1)))) I h) λus s1 ⟨vs,H1,I1,r1,q1⟩ =>?_) ha hplain rfl rfl
  show Es _ _ (evalAll ((do let v ← eval (.Name "len" p2) X.env;standAt pos;pure v) :: [])) _ _ s1
  refine Mo (DX (fB I1 hg2 hm2 FQ (DX (JD (D3 (MD ?_))))))
  show Es _ _ (call (.builtin "sorted") us [("key",.builtin "len")]) _ _ s1
  obtain ⟨a,ts,rfl,hq,ht,q⟩:=q1
  obtain ⟨u,rfl,ru⟩:=vals1 r1
  cases (show u=Eu a from ru)
  obtain ⟨its,o,n,rv,e1,c1,d1,z1⟩:=I1.lZ hq
  have ei:=dR rv
  have lz:its.length<=Ei:=by rw[<- rv.length];exact z1
  have li:its.length=ts.length:=by rw[ei,DY]
  refine Srt.nK (rv:=false) (f :=.builtin "len") (kz:=ts.map λt=>(t.2.length:Int)) (Srt.fI e1 c1 d1 lz) lz (by rw[DY,li]) (ksk_s1 _ _) (λx=>ksk_l1 _ _) (λx=>ksk_t4 _ _) ?turn λh' tk l out m k hl el ko =>?fin
  case turn =>
    intro i u k hu hk A h tk kp Q E q
    rw[ei,En] at hu
    rw[En] at hk
    cases et:ts[i]? with
    | none=>rw[et] at hu;cases hu
    | some t =>
      rw[et] at hu hk
      cases hu
      cases hk
      obtain ⟨jts,jr,⟨jo,je,jc,jn,jd⟩,jz⟩:=I1.tuple (ht t (Eb et))
      have hl:=jr.length
      rw[DY] at hl jz
      have hz:=iE
      refine len_tuple (s:={ s1 with heap:=h,toks:=tk }) ⟨jo,kp _ _ je,jc,jn,jd⟩ (by simp only[D4];lia) ?_
      have e:((jts.toArray.size:Nat):Int)=(t.2.length:Int):=by rw[D4,hl]
      rw[e]
      exact q _ _
  case fin =>
    obtain ⟨ps,pm,eo,pw⟩:=ko
    rw[ei,rG] at pm
    obtain ⟨out',pm',rfl⟩:=iH pm
    have eo':out=out'.map λt=>Eu t.1:=by rw[eo,G6];rfl
    subst eo'
    refine ⟨.ref l,_,I1.laid (t':=tk) (o :=.lst (out'.map λt:Addr×List Int=>V.ref t.1)) k hl ⟨(by rw[DY,pm'.length_eq, <- DY (f:=λt:Addr×List Int=>V.ref t.1)];exact z1),_,m,eX,el⟩,rfl,q l _ (I1.hok.fresh hl) pm' ?_⟩
    refine (Fh.mp pw).imp λ{x y} le =>?_
    rw[if_neg Ek] at le
    have:(x.2.length:Int)<=(y.2.length:Int):=le
    lia
end
section
variable  {X:Cx}
theorem wZ {K:D2}(h:X.K=K:=by rfl):OpR X (binaryOp .Add) (rE K):=by subst h;exact yC
end
end L2
namespace L2.RvT
open PySem PyProof.Rows
open Sem (wp)
section
variable  {prog:Eo}{w:ES}{A:Fi}{E:D1->D5->Prop}{s:D5}
end
section
variable  {prog:Eo}{w:ES}{A:Fi}{E:D1->D5->Prop}{s:D5}
end
end L2.RvT
namespace L2
open PySem PySem.Spec PyProof.Rows
section
variable  {X:Cx}
theorem nM (l b:Addr)(its its2:Array D1)(n:Nat)(hz:its.size+its2.size<=Ei) :
  Meets (Builtin.«list.extend» ⟨[.ref l,.ref b],[]⟩) (λ_ R s=>s.heap.get? l=some { cls :=.type "list",dict:=none,data :=.seq its n,slots := #[] }/\IsTup s.heap b its2/\R (.ok (.ret GA)) { s with heap:=s.heap.update l (Fs λx=>x++its2),toks:=s.toks }) :=
 .of_wp λprog w A R s h=>by
  obtain ⟨hl,hb,h⟩:=h
  obtain ⟨o,ho,hc,k,hd⟩:=id hb
  unfold Builtin.«list.extend»
  refine DX (KA (a:=(Eu l,Eu b)) rfl ?_)
  show Es _ _ (Fn (.ref l) (.ref b) .none) _ _ s
  unfold Fn
  refine DX (GX hb.typeIs ?_)
  rw[if_pos (by rw[show (G0 "tuple" == G0 "tuple")=true from by decide];exact Bool.or_true _)]
  refine DX (wpAny_listItems ho hd ?_)
  refine DX (wpAny_listItems hl rfl ?_)
  refine wpAny_ite_split (λhab=>absurd hab ?_) (λ_ =>?_)
  ·rw[qH hz,Kg];exact Ek
  refine DX ?_
  show Es _ _ (updateSeq l (· ++ its2)) _ _ _
  exact Gb hl rfl (hz:=by lia) (_hz':=by rw[Hw];lia) (D3 ⟨_,rfl,h⟩)
def yJ:V->List V->Hp->VK->Prop:=λx vs H Q=>∃l b xs zs,x = .ref l/\vs=[.ref b]/\H l=some (.lst xs)/\H b=some (.tup zs)/\xs.length+zs.length<=Ei/\Q .non (upd H l (.lst (xs++zs)))
theorem tU:MtM X "list.extend" yJ:=by
 intro pins s σ H x vs v us Q I rx rv h
 obtain ⟨l,b,xs,zs,rfl,rfl,hH,hB,hz,q⟩:=h
 cases rx
 obtain ⟨u,rfl,ru⟩:=rv.one
 cases ru
 obtain ⟨z,its,n,r,hl,e⟩:=I.v9 hH
 obtain ⟨z2,its2,r2,t2⟩:=I.hok b _ hB
 have hl2:=r2.length
 refine IK F.slot_list_extend ⟨_,e,rfl⟩ F.entry_list_extend (F.args_list_extend_2 _ _)
  (nM l b its.toArray its2.toArray n (by rw[D4,D4];omega)) ⟨e,t2.tup,?_⟩
 refine ⟨.non,_,I.xW (its':=its++its2) hH e (by simp) (r.append r2) ?_,rfl,q⟩
 rw[D7]
 omega
theorem AK {k:Nat}(hr:cy k X.A):OpR X (FP .Eq) (λx y H Q=>∃(a b:Addr) (ns ms:List Int),x = .ref a/\y = .ref b/\SqL X.K H a (ns.map V.int)/\SqL X.K H b (ms.map V.int)/\Q (.bl (decide (ns=ms))) H):=by
 intro pins s σ H x y v u Q I rx ry h
 obtain ⟨a,b,ns,ms,rfl,rfl,h1,h2,q⟩:=h
 cases (show v=Eu a from rx)
 cases (show u=Eu b from ry)
 obtain ⟨its,r1,⟨⟨c1,d1,da1,sl1⟩,n1,e1,k1,_,k3⟩,_⟩:=I.list h1
 obtain ⟨its2,r2,⟨⟨c2,d2,da2,sl2⟩,n2,e2,g1,_,g3⟩,_⟩:=I.list h2
 simp only at k1 k3 g1 g3
 subst k1 k3 g1 g3
 have l1:=r1.length
 have l2:=r2.length
 rw[DY] at l1 l2
 have hu:=hr.un
 have hu1:X.A.units<cLine:=by lia
 by_cases hl:ns.length=ms.length
 ·refine Gq (op :=.Eq) ⟨_,e1,rfl⟩ ⟨_,e2,rfl⟩ LG Lb (KN _ _) (SeqAt.list_eqAt a b its.toArray its2.toArray n1 n2 d1 d2 sl1 sl2 (by rw[D4,D4];lia) (AD ns ms)) ⟨e1,e2,?_,?_⟩ hu1
  ·intro j h1 h2
   obtain ⟨t1,g1⟩:=intAt r1 h1
   obtain ⟨t2,g2⟩:=intAt r2 h2
   rw[g1,g2]
   exact GY _ t1 _ t2
  ·have ez:its.toArray.size=ns.length:=by rw[D4];lia
   rw[ez,rA hl]
   exact ⟨(λz=>nomatch z),⟨.bl _,H,I,rfl,q⟩⟩
 ·have ne:ns≠ms:=λz=>hl (by rw[z])
  rw[decide_eq_false ne] at q
  refine Gq (op :=.Eq) ⟨_,e1,rfl⟩ ⟨_,e2,rfl⟩ LG Lb (KN _ _) (Kw a b its.toArray its2.toArray n1 n2 d1 d2 sl1 sl2 (by simp;lia)) ⟨e1,e2,?_⟩ hu1
  exact ⟨(λz=>nomatch z),⟨.bl false,H,I,rfl,q⟩⟩
theorem Cw {k:Nat}(hr:cy k X.A):OpR X (FP .Eq) (λx y H Q=>∃a b xs ys,x = .ref a/\y = .ref b/\SqL X.K H a xs/\SqL X.K H b ys/\((xs.length≠ys.length/\Q (.bl false) H)\/(Paired (fG X.K H 20) xs ys/\Q (.bl true) H))):=by
 intro pins s σ H x y v u Q I rx ry h
 obtain ⟨a,b,xs,ys,rfl,rfl,h1,h2,h3⟩:=h
 rcases h3 with ⟨ne,q⟩ | ⟨p,q⟩
 ·cases (show v=Eu a from rx)
  cases (show u=Eu b from ry)
  obtain ⟨its,r1,⟨⟨c1,d1,da1,sl1⟩,n1,e1,k1,_,k3⟩,_⟩:=I.list h1
  obtain ⟨its2,r2,⟨⟨c2,d2,da2,sl2⟩,n2,e2,g1,_,g3⟩,_⟩:=I.list h2
  simp only at k1 k3 g1 g3
  subst k1 k3 g1 g3
  have l1:=r1.length
  have l2:=r2.length
  have hu:=hr.un
  have hu1:X.A.units<cLine:=by lia
  refine Gq (op :=.Eq) ⟨_,e1,rfl⟩ ⟨_,e2,rfl⟩ LG Lb (KN _ _) (Kw a b its.toArray its2.toArray n1 n2 d1 d2 sl1 sl2 (by simp;lia)) ⟨e1,e2,?_⟩ hu1
  exact ⟨(λz=>nomatch z),⟨.bl false,H,I,rfl,q⟩⟩
 ·exact AG hr pins s σ H _ _ v u Q I rx ry ⟨a,b,xs,ys,rfl,rfl,h1,h2,p,q⟩
theorem AL:SlR X (λx lo hi H Q=>∃a xs,x = .ref a/\H a=some (.tup xs)/\∀p2 H2,ax H H2->H2 p2=some (.tup (iF xs lo hi))->Q (.ref p2) H2):=by
 intro pins s σ H x v vl vu lo hi sl Q I rx hs pl pu h
 obtain ⟨a,xs,rfl,ep,key⟩:=h
 refine vg pins s σ H _ v vl vu lo hi sl Q I rx hs pl pu ⟨a,xs,rfl,SqT.of ep,λz=>key a H (ax.refl _) ?_,λ_ p2 hp2=>key p2 _ (ag hp2 _) ae⟩
 unfold iF
 rw[z.1,z.2,LD,Nat.sub_zero,G2]
 exact ep
end
section
variable  {X:Cx}
theorem mq (hh:X.A.handled=none):bZ X (.type "list") (λxs H Q=>∃(a:Addr) (n:Nat),xs=[.ref a]/\H a=some (.rng 0 n)/\n<=1000/\∀l,H l=none->Q (.ref l) (upd H l (.lst ((E2 n).map λi=>V.int (i:Nat))))):=by
 intro pins s σ H xs us Q I r h
 obtain ⟨a,n,rfl,ha,hn,q⟩:=h
 obtain ⟨u,rfl,ru⟩:=vals1 r
 cases (show u=Eu a from ru)
 obtain ⟨t,u,v,e⟩:=(show aX X.prog X.w H s.heap a (.rng 0 n) from I.hok a _ ha)
 have rs:Builtin.Range.rangeSize 0 (n:Int) 1=(n:Int):=by
  rw[Mk]
  split <;> lia
 have n24:n<=2 ^ 24:=by lia
 refine call_list_range hh e (small_one (by lia) (by lia) (by lia) (by lia)) rs n24 λh' tk acc' c' k e' it =>?_
 have hv:∀(i:Nat) (x:D1),acc'.toList[i]? = some x->∃t,x=F7 i t:=λi x hx=>by
  rw[Em] at hx
  obtain ⟨t',e⟩:=it.2 i x hx
  exact ⟨t',by rw[e];simp⟩
 have rv:=mi hv
 rw[D9,it.1] at rv
 exact ⟨.ref s.heap.objs.size,_,I.laid (o :=.lst ((E2 n).map λi=>V.int (i:Nat))) k (D6 _) ⟨by rw[DY,FZ];exact small hn,acc'.toList,c',rv,by simpa using e'⟩,rfl,q _ (I.hok.fresh (D6 _))⟩
end
section
variable  {X:Cx}
theorem boolsOf:∀{bs:List Bool} {its:List D1},Vals (bs.map V.bl) its->its=bs.map Value.bool
 | [],_,.nil=>rfl
 | b :: bs,_,.cons r t=>by rw[boolsOf t];cases (show _=Value.bool b from r);rfl
theorem w4:MtR X "list.count" (λx vs H Q=>∃(p:Addr) (bs:List Bool) (k:Bool),x = .ref p/\vs=[.bl k]/\H p=some (.lst (bs.map V.bl))/\Q (.int (bs.count k:Nat)) H):=by
 intro pins s σ H x vs v us Q I rx rv h
 obtain ⟨p,bs,k,rfl,rfl,hp,q⟩:=h
 cases rx
 obtain ⟨u,rfl,ru⟩:=vals1 rv
 cases (show u=Value.bool k from ru)
 obtain ⟨z,its,n,r,e1⟩:=(show aX X.prog X.w H s.heap p (.lst _) from I.hok p _ hp)
 have ei:=boolsOf r
 subst ei
 refine IK IX ⟨_,e1,rfl⟩ PySem.F.entry_list_count (PySem.F.args_list_count_2 _ _) (SeqAt.list_countAt p _ n _ _ (.bool k) (isBoolOf k)) ⟨e1,λy hy =>?_,?_⟩
 ·have hy':y∈bs.map Value.bool:=by simpa using hy
  obtain ⟨b,_,rfl⟩:=EK.mp hy'
  exact Lw b k
 ·have:(bs.map Value.bool).toArray.toList.countP (isBoolOf k)=bs.count k:=by
   rw[show (bs.map Value.bool).toArray.toList=bs.map Value.bool from rfl,List.countP_map]
   rfl
  rw[this]
  exact ⟨.int _,H,I.tok _,⟨_,rfl⟩,q⟩
end
open PySem PySem.Spec PySem.W PyProof.Rows
theorem aX.ex {P:Eo}{w:ES}{H:Hp}{h:Heap}{a:Addr}{o:HO}(x:aX P w H h a o):∃u,h.get? a=some u:=by
 cases o with
 | lst xs=>obtain ⟨_,_,_,_,e⟩:=x;exact ⟨_,e⟩
 | tup xs=>obtain ⟨_,_,_,_,e,_⟩:=x;exact ⟨_,e⟩
 | dK kvs=>obtain ⟨_,_,_,_,o,_,_,e,_⟩:=x;exact ⟨_,e⟩
 | dT kvs=>obtain ⟨_,_,_,_,o,_,_,e,_⟩:=x;exact ⟨_,e⟩
 | set S n=>obtain ⟨o,_,_,_,e,_⟩:=x;exact ⟨_,e⟩
 | ins C dx fs=>obtain ⟨_,_,_,e,_⟩:=x;exact ⟨_,e⟩
 | own y=>obtain ⟨_,e⟩:=x;exact ⟨_,e⟩
 | xd fs=>obtain ⟨_,⟨_,_,_,e,_⟩,_⟩:=x;exact ⟨_,e⟩
 | rng lo hi=>obtain ⟨_,_,_,e⟩:=x;exact ⟨_,e⟩
 | frz ob u=>obtain ⟨e,_⟩:=x;exact ⟨_,e⟩
 | tbl ps=>exact ⟨_,show h.get? a=some _ from x⟩
 | met f y=>exact ⟨_,show h.get? a=some _ from x⟩
 | ext φ=>obtain ⟨_,⟨_,e⟩,_⟩:=x;exact ⟨_,e⟩
theorem HOk.noth {P:Eo}{w:ES}{H:Hp}{h:Heap}{a:Addr}(x:HOk P w H h)(e:h.get? a=none):H a=none:=by
 cases q:H a with
 | none=>rfl
 | some o =>
  obtain ⟨u,z⟩:=(x a o q).ex
  rw[e] at z;cases z
theorem HOk.hide {P:Eo}{w:ES}{H:Hp}{h:Heap}{l:List Addr}(x:HOk P w H h)(n:∀b∈l,H b=none):HOk P w H (hideAll h l):=λa o e =>
 (x a o e).stay (λb u hb q=>KD _ q λm=>by
  have z:=n b m
  rcases hb with rfl | hb
  ·rw[e] at z;cases z
  ·rw[hb] at z;cases z) (λ_ q=>q) λ_ _ q=>q
structure Fly (P:Eo)(w:ES)(outer:List Env)(H H':Hp)(h:Heap)(B:Heap)(ea:Addr)(cls a0:D1)(h':Heap):Prop where
 fl:Heap.FlyingW B outer ea cls a0 h'
 un:Un (frs outer) [] H H' h h'
 ok:HOk P w H' B
 cov:∀b o,h.get? b=some o->H b=none->b∉frs outer->B.get? b=some o
 all:∀b o,h.get? b=some o->b∉frs outer->∃u,B.get? b=some u
section
variable  {P:Eo}{w:ES}{outer:List Env}{H H':Hp}{h B h' h2:Heap}{ea:Addr}{cls a0:D1}
theorem Fly.no (F:Fly P w outer H H' h B ea cls a0 h'):H' ea=none:=F.ok.noth F.fl.2.1
theorem Fly.hok (F:Fly P w outer H H' h B ea cls a0 h'):HOk P w H' h':=F.ok.kept F.fl.1
theorem Fly.new (F:Fly P w outer H H' h B ea cls a0 h'):h.get? ea=none:=by
 cases q:h.get? ea with
 | none=>rfl
 | some o =>
  by_cases m:ea∈frs outer
  ·obtain ⟨_,o',ho',hd⟩:=F.fl.2.2.1.mem m
   obtain ⟨oe,vs,he,_,hde,_⟩:=F.fl.first
   rw[he] at ho';cases ho'
   exact absurd hde (hd vs)
  ·obtain ⟨u,z⟩:=F.all ea o q m
   rw[F.fl.2.1] at z;cases z
theorem Fly.step {l:List Env}(F:Fly P w outer H H' h B ea cls a0 h')(f2:Heap.FlyingW B l ea cls a0 h2)(hs:∀b∈frs outer,∀o,h'.get? b=some o->∃sl,h2.get? b=some { o with slots:=sl }):Un (frs outer) [] H H' h h2 where
 keep:=λb o q n m _=>f2.1 _ _ (F.cov b o q n m)
 slot:=λb o q n m x=>by
  obtain ⟨sl,e⟩:=F.un.slot b o q n m x
  obtain ⟨sl',e'⟩:=hs b m _ e
  exact ⟨sl',e'⟩
 free:=F.un.free
 there:=λb o q x=>by
  by_cases m:b∈frs outer
  ·obtain ⟨o',e⟩:=F.un.there b o q x
   obtain ⟨sl',e'⟩:=hs b m _ e
   exact ⟨_,e'⟩
  ·obtain ⟨u,e⟩:=F.all b o q m
   exact ⟨u,f2.1 _ _ e⟩
 tups:=F.un.tups
 frzs:=F.un.frzs
 tbls:=F.un.tbls
theorem Fly.slots (F:Fly P w outer H H' h B ea cls a0 h')(k:h'.UpToSlots h2):∀b∈frs outer,∀o,h'.get? b=some o->∃sl,h2.get? b=some { o with slots:=sl }:=λb m o e=>by
 obtain ⟨_,o',ho',hd⟩:=F.fl.2.2.1.mem m
 rw[e] at ho';cases ho'
 exact k b o e hd
theorem Fly.on (F:Fly P w outer H H' h B ea cls a0 h')(f2:Heap.FlyingW B outer ea cls a0 h2)(k:h'.UpToSlots h2):Fly P w outer H H' h B ea cls a0 h2 :=
 ⟨f2,F.step f2 (F.slots k),F.ok,F.cov,F.all⟩
end
def CX1 (P:Eo)(w:ES):CXT:=λouter H s E e s'=>∃ea cls a0 B H',e = .ref ea/\s'.os=s.os/\AllBare s'.gens/\Fly P w outer H H' s.heap B ea cls a0 s'.heap/\E cls none H'
section
variable  {X:Cx}{pins:List (Addr×Obj)}{σ:St}{H H':Hp}{s:D5}{B h':Heap}{ea:Addr}{cls a0:D1}
theorem Inv.land {s':D5}(I:Inv X pins σ H s)(os:s'.os=s.os)(g:AllBare s'.gens)(F:Fly X.prog X.w X.stack H H' s.heap B ea cls a0 s'.heap):Inv X pins σ H' s' :=
 I.Bm os F.un F.hok g (λb z=>absurd z (by simp))
theorem Fly.out (I:Inv X pins σ H s)(hst:X.stack=X.env :: X.outer)(hfr:X.env.frame=some X.env.locals)(hex:X.ex=[])(F:Fly X.prog X.w X.stack H H' s.heap B ea cls a0 h')(f2:Heap.FlyingW B X.outer ea cls a0 h2)(k:h'.UpToSlots h2) :
  Fly X.prog X.w X.outer X.H₀ H' X.s₀.heap B ea cls a0 h2:=by
 have nL:∀b o,X.s₀.heap.get? b=some o->b≠X.env.locals:=λb o q z=>absurd (Er (Ej q) (z ▸ I.ok.above)) (Fu _)
 have nst:∀b,b∉X.fs->b≠X.env.locals->b∉frs X.stack:=λb n1 n2 m=>by
  rw[hst] at m
  unfold frs at m
  rw[GL,hfr] at m
  rcases EB.mp m with z | z
  ·exact n2 z
  ·exact n1 z
 have ust:=F.step f2 (F.slots k)
 have sub:∀b∈X.fs,b∈frs X.stack:=λb m=>by
  rw[hst];unfold frs;rw[GL,hfr];exact Eg _ m
 have nx:∀b,b∉X.ex:=λb m=>by rw[hex] at m;cases m
 refine ⟨f2,⟨λb o q n m _ =>?_,λb o q n m _ =>?_,λb o q n _ =>?_,λb o q _ =>?_,λb xs q=>F.un.tups b xs (I.base.tups b xs q),λb o u q=>F.un.frzs b o u (I.base.frzs b o u q),λb ps q =>?_⟩,F.ok,λb o q n m =>?_,λb o q m =>?_⟩
 ·exact ust.keep b o (I.base.keep b o q n m (nx b)) (I.base.free b o q n (nx b)) (nst b m (nL b o q)) (by simp)
 ·obtain ⟨sl,e⟩:=I.base.slot b o q n m (nx b)
  obtain ⟨sl',e'⟩:=ust.slot b _ e (I.base.free b o q n (nx b)) (sub b m) (by simp)
  exact ⟨sl',e'⟩
 ·obtain ⟨o',e⟩:=I.base.there b o q (nx b)
  exact F.un.free b o' e (I.base.free b o q n (nx b)) (by simp)
 ·obtain ⟨o',e⟩:=I.base.there b o q (nx b)
  exact ust.there b o' e (by simp)
 ·obtain ⟨m1,e1⟩:=I.base.tbls b ps q
  obtain ⟨m2,e2⟩:=F.un.tbls b _ e1
  exact ⟨m1++m2,by rw[e2,L0]⟩
 ·exact F.cov b o (I.base.keep b o q n m (nx b)) (I.base.free b o q n (nx b)) (nst b m (nL b o q))
 ·obtain ⟨o',e⟩:=I.base.there b o q (nx b)
  exact F.all b o' e (nst b m (nL b o q))
theorem Fly.pass {M:Model}{E:D1->D5->Prop}{Q:Unit->D5->Prop}{s':D5}(I:Inv X pins σ H s)(hst:X.stack=X.env :: X.outer)(hfr:X.env.frame=some X.env.locals)(hex:X.ex=[])
  (F:Fly X.prog X.w X.stack H H' s.heap B ea cls a0 s'.heap) (hQ:∀h2,Fly X.prog X.w X.outer X.H₀ H' X.s₀.heap B ea cls a0 h2->Q () { s' with heap:=h2 }):Es M X.A (leaving X.env (.ref ea)) Q E s':=by
 have fl:=F.fl
 rw[hst] at fl
 exact wpAny_leaves_onW (by rw[I.ok.frames,hst]) hfr fl λh2 f2 k=>hQ h2 (Fly.out I hst hfr hex F f2 k)
theorem Fly.made {M:Model}{E:D1->D5->Prop}{Q:Unit->D5->Prop}{s':D5}{vs:List D1}(I:Inv X pins σ H s)(hst:X.stack=X.env :: X.outer)(hfr:X.env.frame=some X.env.locals)(hex:X.ex=[])
  (hx:Heap.MadeExcOf s.heap s'.heap ea cls vs) (hQ:∀h2 B a0,Fly X.prog X.w X.outer X.H₀ H X.s₀.heap B ea cls a0 h2->Q () { s' with heap:=h2 }):Es M X.A (leaving X.env (.ref ea)) Q E s':=by
 have ff:=I.stack
 have hin:∀env∈X.stack,∀b,env.frame=some b->b∈frs X.stack:=λenv he b hb=>IL.mpr ⟨env,he,hb⟩
 have ff':=funFrames_hide ff hin
 have fh:∀b∈frs X.stack,H b=none:=I.pM
 have F0:∀h2 t,Heap.FlyingW (hideAll s.heap (frs X.stack)) X.outer ea cls (.ref t) h2->s'.heap.UpToSlots h2->Fly X.prog X.w X.outer X.H₀ H X.s₀.heap (hideAll s.heap (frs X.stack)) ea cls (.ref t) h2:=λh2 t f2 k=>by
  have nL:∀b o,X.s₀.heap.get? b=some o->b≠X.env.locals:=λb o q z=>absurd (Er (Ej q) (z ▸ I.ok.above)) (Fu _)
  have nst:∀b,b∉X.fs->b≠X.env.locals->b∉frs X.stack:=λb n1 n2 m=>by
   rw[hst] at m
   unfold frs at m
   rw[GL,hfr] at m
   rcases EB.mp m with z | z
   ·exact n2 z
   ·exact n1 z
  have sub:∀b∈X.fs,b∈frs X.stack:=λb m=>by
   rw[hst];unfold frs;rw[GL,hfr];exact Eg _ m
  have nx:∀b,b∉X.ex:=λb m=>by rw[hex] at m;cases m
  have sl:∀b∈frs X.stack,∀o,s.heap.get? b=some o->∃sl,h2.get? b=some { o with slots:=sl }:=λb m o e=>by
   obtain ⟨_,o',ho',hd⟩:=ff.mem m
   rw[e] at ho';cases ho'
   exact k b o (hx.keeps _ _ e) hd
  refine ⟨f2,⟨λb o q n m _ =>?_,λb o q n m _ =>?_,λb o q n _=>I.base.free b o q n (nx b),λb o q _ =>?_,I.base.tups,I.base.frzs,I.base.tbls⟩,I.hok.hide fh,λb o q n m =>?_,λb o q m =>?_⟩
  ·exact f2.1 _ _ (KD _ (I.base.keep b o q n m (nx b)) (nst b m (nL b o q)))
  ·obtain ⟨s1,e⟩:=I.base.slot b o q n m (nx b)
   obtain ⟨s2,e'⟩:=sl b (sub b m) _ e
   exact ⟨s2,e'⟩
  ·obtain ⟨o',e⟩:=I.base.there b o q (nx b)
   by_cases m:b∈frs X.stack
   ·obtain ⟨s2,e'⟩:=sl b m _ e
    exact ⟨_,e'⟩
   ·exact ⟨o',f2.1 _ _ (KD _ e m)⟩
  ·exact KD _ (I.base.keep b o q n m (nx b)) (nst b m (nL b o q))
  ·obtain ⟨o',e⟩:=I.base.there b o q (nx b)
   exact ⟨o',KD _ e (nst b m (nL b o q))⟩
 rw[hst] at ff'
 refine wpAny_leaves_madeW (base:=hideAll s.heap (frs (X.env :: X.outer))) (by rw[I.ok.frames,hst]) hfr (λb o q=>of_hideAll _ q) ff' hx λh2 t f2 _ _ k =>?_
 rw[<- hst] at f2
 exact hQ h2 _ _ (F0 h2 t f2 k)
end
theorem Fun.okX {P:Eo}{w:ES}{K:D2}{mg:Str->Option D1}{base:Heap}{x qual:Str}{st:Stmt}{f:Addr}{fd:Fb}{N ps:List Str}{k:Nat}{sp:Sp}(F:Fun K x qual st f fd)(S:aB N ps (ao st))(len:∀vs H Q E,sp vs H Q E->vs.length=ps.length)
  (hb:∀(cdv:D1) (A:Fi) (outer:List Env) (s:D5) (H:Hp) (vs:List V) (Q:VK) (E:XK),cy k (A.deeper (envOfC qual (ao st) s.heap.objs.size f cdv))->sp vs H Q E →
   ∃t,PSs (gA (CX1 P w) P w K mg base N qual (ao st) f cdv A outer s H E) (bK st) t/\t { nx:=λ_ H'=>Q .non H',rt:=Q } (start N vs) H):bB P w K mg base (CX1 P w) (k+1) f fd ps sp:=by
 obtain ⟨oc,od,kV,doc,pm,an,cdv,ct,osl,rfl,lk,hcd⟩:=F.ex
 exact Bo lk hcd S len λA outer s H vs Q E hr hsp=>hb cdv A outer s H vs Q E hr hsp
structure iJ (P:Eo)(w:ES)(K:D2)(mg:Str->Option D1)(base:Heap)(k:Nat)(x:Str)(ps:List Str)(sp:Sp):Prop where
 ex:∃f fd,bB P w K mg base (CX1 P w) k f fd ps sp/\mg x=some (.ref f)/\PySem.W.keepIn K (.ref f)=true/\Binds K fd ps []
section
variable  {P:Eo}{w:ES}{K:D2}{mg:Str->Option D1}{base:Heap}{N:List Str}{qual:Str}{sc:Scope}{f:Addr}{cdv:D1}{A:Fi}{outer:List Env}{s₀:D5}{H₀:Hp}{E:XK}
theorem iA:Passes (CX1 P w) (gA (CX1 P w) P w K mg base N qual sc f cdv A outer s₀ H₀ E) E:=λpins σ H s e s' I h=>by
 obtain ⟨ea,cls,a0,B,H2,rfl,os,g,F,q⟩:=h
 exact Fly.pass I rfl rfl rfl F λh2 F2=>⟨ea,cls,a0,B,H2,rfl,os.trans I.os,g,F2,q⟩
def DI (X:Cx)(E:XK):Prop:=∀(pins:List (Addr×Obj)) (σ:St) (H:Hp) (s:D5) (h':Heap) (ea:Addr) (cls:D1) (vs:List D1),Inv X pins σ H s->Heap.MadeExcOf s.heap h' ea cls vs->E cls none H->X.xe (.ref ea) { s with heap:=h' }
theorem yK:DI (gA (CX1 P w) P w K mg base N qual sc f cdv A outer s₀ H₀ E) E:=λpins σ H s h' ea cls vs I hx q=>by
 exact Fly.made (s':={ s with heap:=h' }) I rfl rfl rfl hx λh2 B a0 F2=>⟨ea,cls,a0,B,H,rfl,I.os,I.bare,F2,q⟩
end
abbrev mv:List D1:=[.type "ValueError",.type "Exception",.type "BaseException",.type "object"]
structure ExC (K:D2)(mg:Str->Option D1)(x:Str)(C:Addr):Prop where
 ex:excIn K C mv "ValueError.__new__" = true
 mg:mg x=some (.ref C)
theorem Cy {K:D2}{h:Heap}{C:Addr}{bs:List D1}{nid:String}(X:K.In h)(q:excIn K C bs nid=true) :
  ∃bm N nm q bs' hd sn sub ab col dd k0 k1 k2 k3 k5 mN,h.get? C=some (excClassObj nm q C N bs' bm hd sn sub ab col dd k0 k1 k2 k3 k5 nid)/\h.Ns N mN/\mN "__init__" = none/\OwnTail h bs bm:=by
 unfold excIn at q
 split at q
 ·rename_i d1 c1 sl1 l1
  split at q
  ·rename_i C1 b1 j0 j1 j2 j3 n1 j5 m1 s1
   simp only[EO,beq_iff_eq,Bool.not_eq_true'] at q
   obtain ⟨⟨⟨⟨⟨rfl,rfl⟩,q1⟩,q2⟩,q3⟩,q4⟩:=q
   obtain ⟨a1,a2,a3,a4,a5,a6,a7,a8,a9,a10,a11⟩:=c1
   dsimp only at m1 q1 q3 q4
   subst m1 q1
   obtain ⟨ll⟩:=sl1
   simp only at s1
   subst s1
   exact ⟨b1,a4,a1,a5,a2,a6,a7,a8,a9,a10,d1,j0,j1,j2,j3,j5,_,X _ _ l1,.of_isNs (isNs_of_in X q3),nsMap_none_of_in X q3 q4,tail_of_in X q2⟩
  ·cases q
 ·cases q
def Cz (E:XK)(cls:D1)(t:TA):TS:=λ_ σ H=>t σ H λvs H1=>vs.length<=Ei/\E cls none H1
theorem mw {X:Cx}{E:XK}{C:Addr}{x:Str}{e:Expr}{es:List Expr}{t:TA}{np cpos pos:Pos}(O:DI X E)(hc:ExC X.K X.mg x C)(hh:X.A.handled=none)(hg:Gl X x)(ha:PA X (e :: es) t)
  (hdb:(x == ("__debug__" : Str))=false:=by decide) (he:E5 (e :: es) X.env=(false,eval e X.env) :: E5 es X.env:=by rfl) (hpl:(Ig cpos (E5 es X.env)).any (·.1)=false:=by rfl) :
  PS X (.Raise (some (.Call (.Name x np) (e :: es) [] cpos)) none pos) (Cz E (.ref C) t):=by
 intro pins s σ H D I h
 obtain ⟨bm,N,nm,q,bs',hd,sn,sub,ab,col,dd,k0,k1,k2,k3,k5,mN,hC,hN,hni,T⟩:=Cy I.mod.kin hc.ex
 have hpl':(Ig cpos (E5 (e :: es) X.env)).any (·.1)=false:=by
  rw[he]
  show (false || (Ig cpos (E5 es X.env)).any (·.1))=false
  rw[hpl];rfl
 refine wpAny_Raise_call_subT (nm:=nm) (q:=q) (N:=N) (bs:=bs') (bm:=bm) (hdct:=hd) (sn:=sn) (sub:=sub) (ab:=ab) (col:=col) (dd:=dd) (k0:=k0) (k1:=k1) (k2:=k2) (k3:=k3) (k5:=k5) (mN:=mN)
  Ly (T.hasType Ly.hasBase) hh hpl' hni (i7 I hg hc.mg ⟨rfl,?_⟩ hdb)
 have hs:=ha cpos pins s σ H _ I h
 rw[he] at hs ⊢
 refine Jw (Gp hs (λus s2 ⟨vs,H1,I1,r,z,qE⟩=>⟨rfl,by rw[<- r.length];exact z,I1.bk _ _ hC,hN.keeps I1.bk,T.keeps I1.bk,λh' ea hx=>O pins σ H1 s2 h' ea _ _ I1 hx qE⟩) λ_ _ y=>y)
abbrev Cx.mark (X:Cx)(ea:Addr):Cx:={ X with A:=X.A.mark (some (.ref ea)),calm:=false,xe:=λ_ _=>False }
section
variable  {X:Cx}{pins:List (Addr×Obj)}{σ:St}{H H':Hp}{s s':D5}{B h':Heap}{ea:Addr}{cls a0:D1}
theorem Inv.mark (I:Inv X pins σ H s)(ea:Addr):Inv (X.mark ea) pins σ H s :=
 ⟨⟨I.ok.mod,I.ok.kind,I.ok.glob,I.ok.blt,I.ok.above,I.ok.inj,I.ok.has,I.ok.cab,(λz=>Bool.noConfusion z),I.ok.frames,I.ok.stk,I.ok.exf,I.ok.bs,I.ok.bsz,I.ok.noex,I.ok.exfs,I.ok.funs,I.ok.frf⟩,I.os,I.bare,I.base,I.loc,I.cell,I.free,I.freeC,I.pin,I.hok,I.len⟩
theorem Inv.unmark (ok:X.Ok)(I:Inv (X.mark ea) pins σ H s):Inv X pins σ H s:=⟨ok,I.os,I.bare,I.base,I.loc,I.cell,I.free,I.freeC,I.pin,I.hok,I.len⟩
def rH (ea:Addr)(cls:D1):HO :=.ext λh=>∃o,h.get? ea=some o/\o.cls=cls
theorem HOk.exc {P:Eo}{w:ES}{h:Heap}(x:HOk P w H h)(hn:H ea=none)(hc:∃o,h.get? ea=some o/\o.cls=cls):HOk P w (upd H ea (rH ea cls)) h:=λb u e=>by
 by_cases z:b=ea
 ·subst z
  rw[ae] at e
  cases e
  refine ⟨hc,?_,λh1 h2 p k =>?_⟩
  ·obtain ⟨o,q,_⟩:=hc;exact ⟨o,q⟩
  ·obtain ⟨o,q,c⟩:=p;exact ⟨o,k o q,c⟩
 ·rw[ak z] at e
  exact (x b u e).stay (λ_ _ _ q=>q) (λc q=>by rw[ak (aq q hn)];exact q) λc xs q=>by rw[ak (aq q hn)];exact q
theorem Inv.exc (I0:Inv X pins σ H s)(I:Inv X pins σ H' s')(F:Fly X.prog X.w X.stack H H' s.heap B ea cls a0 s'.heap):Inv X pins σ (upd H' ea (rH ea cls)) s':=by
 have nn:=F.new
 have hn:=F.no
 have ne:∀b o,s.heap.get? b=some o->b≠ea:=λb o q z=>by rw[z,nn] at q;cases q
 have nh:∀b u,H' b=some u->b≠ea:=λb u q=>aq q hn
 refine ⟨I.ok,I.os,I.bare,⟨I.base.keep,I.base.slot,λb o q n m =>?_,I.base.there,λb xs q =>?_,λb o u q =>?_,λb ps q =>?_⟩,I.loc,I.cell,?_,λx c e =>?_,λp hp =>?_,I.hok.exc hn F.fl.there,I.len⟩
 ·obtain ⟨o',e⟩:=I0.base.there b o q m
  rw[ak (ne b o' e)];exact I.base.free b o q n m
 ·have:=I.base.tups b xs q
  rw[ak (nh b _ this)];exact this
 ·have:=I.base.frzs b o u q
  rw[ak (nh b _ this)];exact this
 ·obtain ⟨mo,this⟩:=I.base.tbls b ps q
  exact ⟨mo,by rw[ak (nh b _ this)];exact this⟩
 ·obtain ⟨m,⟨o,_,_,ho,_⟩,_⟩:=I0.loc
  rw[ak (ne _ o ho)];exact I.free
 ·obtain ⟨v,o,ho,_⟩:=I0.cell x c e
  rw[ak (ne _ o ho)];exact I.freeC x c e
 ·obtain ⟨e,n,n1,n2,d⟩:=I.pin p hp
  obtain ⟨e0,_⟩:=I0.pin p hp
  exact ⟨e,by rw[ak (ne _ _ e0)];exact n,n1,n2,d⟩
theorem Inv.gone {i:Nat}{x:Str}{m:Str->Option D1}{v:Option D1}{tk:Nat}(I:Inv X pins σ H s)(hN:X.N.Nodup)(hi:X.N[i]? = some x)(hn:s.heap.Ns X.env.locals m)(hl:∀(j:Nat) (y:Str) (v:V),X.N[j]? = some y->σ[j]? = some (some v)->Vis X.env.scope y->∃u,RelV v u/\Look X.env s.heap m y u)
  (hn':h'.Ns X.env.locals (λy=>if y=x then v else m y)) (hs:Heap.SameBut X.env.locals s.heap h'):Inv X pins (σ.set i none) H { s with heap:=h',toks:=tk }:=by
 obtain ⟨oL,_,_,hoL,_⟩:=id hn
 have cne:=I.cne
 have lt:∀b o,X.s₀.heap.get? b=some o->b≠X.env.locals:=λb o e=>Ey (Er (Ej e) I.ok.above)
 refine ⟨I.ok,I.os,I.bare,⟨λb o e n hb hx =>?_,λb o e n hb hx =>?_,I.base.free,λb o e hx =>?_,I.base.tups,I.base.frzs,I.base.tbls⟩,⟨_,hn',λj y v' e1 e2 e3 =>?_⟩,λy c e =>?_,I.free,I.freeC,λp hp =>?_,λb ob e =>?_,by simpa using I.len⟩
 ·exact (hs.2 b (lt b o e)).trans (I.base.keep b o e n hb hx)
 ·obtain ⟨sl,e1⟩:=I.base.slot b o e n hb hx
  exact ⟨sl,(hs.2 b (lt b o e)).trans e1⟩
 ·obtain ⟨o',e1⟩:=I.base.there b o e hx
  exact ⟨o',(hs.2 b (lt b o e)).trans e1⟩
 ·by_cases hj:j=i
  ·subst hj
   have:j<σ.length:=by rw[I.len];exact (Ea.mp hi).1
   rw[F1 this] at e2
   cases e2
  ·rw[Gk (F8 hj)] at e2
   obtain ⟨u',r',q⟩:=hl j y v' e1 e2 e3
   refine ⟨u',r',?_⟩
   rcases q with ⟨k,e⟩ | ⟨k,c,e,z⟩
   ·have:y≠x:=λe=>hj (lI hN e1 (e ▸ hi))
    exact .inl ⟨k,by simp[this,e]⟩
   ·exact .inr ⟨k,c,e,z.sameBut hs (cne y c e)⟩
 ·obtain ⟨w',z⟩:=I.cell y c e
  exact ⟨w',z.sameBut hs (cne y c e)⟩
 ·obtain ⟨e,n,ne,nf,d⟩:=I.pin p hp
  exact ⟨(hs.2 p.1 ne).trans e,n,ne,nf,d⟩
 ·have fr:=I.free
  refine (I.hok b ob e).stay (λc w' hc q=>(hs.2 c ?_).trans q) (λ_ q=>q) λ_ _ q=>q
  rintro rfl
  rcases hc with rfl | hc
  ·rw[fr] at e;cases e
  ·rw[fr] at hc;cases hc
end
abbrev EXt:=D1->St->Hp->Prop
def XP (X:Cx)(pins:List (Addr×Obj))(EX:EXt)(e:D1)(s':D5):Prop :=
 ∃σ H s ea cls a0 B H',Inv X pins σ H s/\e = .ref ea/\s'.os=s.os/\AllBare s'.gens/\Fly X.prog X.w X.stack H H' s.heap B ea cls a0 s'.heap/\EX cls σ H'
def PSx (X:Cx)(sts:List Stmt)(t:EXt->TS):Prop :=
 ∀(pins:List (Addr×Obj)) (s:D5) (σ:St) (H:Hp) (D:Ends) (EX:EXt),Inv X pins σ H s->t EX D σ H->Es (EF X.prog X.w) X.A (execs sts X.env) (SP X pins D) (XP X pins EX) s
def DJ (X:Cx)(st:Stmt)(t:EXt->TS):Prop :=
 ∀(pins:List (Addr×Obj)) (s:D5) (σ:St) (H:Hp) (D:Ends) (EX:EXt),Inv X pins σ H s->t EX D σ H->Es (EF X.prog X.w) X.A (exec st X.env) (SP X pins D) (XP X pins EX) s
section
variable  {X:Cx}{pos:Pos}
theorem AM {st:Stmt}{t:EXt->TS}(h1:DJ X st t):PSx X [st] t:=by
 intro pins s σ H D EX I h
 refine KO (thn (h1 pins s σ H D EX I h) λf s1 q =>?_)
 cases f with
 | next=>exact Ib q
 | ret v=>exact q
 | brk=>exact q
 | cont=>exact q
theorem DK {k:Nat}{f:Addr}{fd:Fb}{ps:List Str}{sp:Sp}{pins:List (Addr×Obj)}{σ:St}{H:Hp}{s:D5}{Q:VK}{EX:EXt}{us:List D1}{vs:List V}(F:bB X.prog X.w X.K X.mg X.base (CX1 X.prog X.w) k f fd ps sp)(hr:cy k X.A)(hb:Binds X.K fd ps [])
  (I:Inv X pins σ H s) (r:Vals vs us) (h:sp vs H Q λcls _ H'=>EX cls σ H'):Es (EF X.prog X.w) X.A (call (.ref f) us) (EP X pins σ Q) (XP X pins EX) s:=by
 have hl:us.length=ps.length:=by rw[<- r.length];exact F.len _ _ _ _ h
 have hb':=hb s us I.kIn (by rw[EN];exact hl)
 rw[EN] at hb'
 refine Lq (Ie (F.run X.A X.stack s H ⟨us,[]⟩ us vs Q _ hr I.Dn hb' r h) λr s' hq =>?_)
 cases r with
 | error e =>
  obtain ⟨ea,cls,a0,B,H2,rfl,os,g,F2,q⟩:=hq
  exact ⟨σ,H,s,ea,cls,a0,B,H2,I,rfl,os,g,F2,q⟩
 | ok fl =>
  cases fl with
  | ret u=>exact I.after hq
  | next=>exact False.elim hq
  | brk=>exact False.elim hq
  | cont=>exact False.elim hq
theorem ev_x {j k:Nat}{x:Str}{ps:List Str}{sp:Sp}{e:Expr}{es:List Expr}{t:TA}{p:Pos}{pins:List (Addr×Obj)}{σ:St}{H:Hp}{s:D5}{Q:VK}{EX:EXt}(C:iJ X.prog X.w X.K X.mg X.base k x ps sp)(hr:cy j X.A)(hj:k<=j)(hg:Gl X x)(ha:PA X.nox (e :: es) t)
  (hdb:(x == ("__debug__" : Str))=false) (he:E5 (e :: es) X.env=(false,eval e X.env) :: E5 es X.env) (hpl:(Ig pos (E5 es X.env)).any (·.1)=false)
  (I:Inv X pins σ H s) (h:t σ H λvs H1=>sp vs H1 Q λcls _ H2=>EX cls σ H2):Es (EF X.prog X.w) X.A (eval (.Call (.Name x p) (e :: es) [] pos) X.env) (EP X pins σ Q) (XP X pins EX) s:=by
 obtain ⟨f,fd,F,m,kp,b⟩:=C.ex
 refine Ho (i7 I hg m ?_ hdb)
 refine L9 (h₀:=X.base) I.ok.mod.kin kp (Gp (ha pos pins s σ H _ (I.lK _) h) (λus s1 ⟨vs,H1,I1,r,q⟩=>⟨I1.eI.kIn,?_⟩) λ_ _ z=>False.elim z) he hpl
 exact DK F (hr.mono hj) b I1.eI r q
theorem yL {j k:Nat}{x:Str}{ps:List Str}{sp:Sp}{e:Expr}{es:List Expr}{t:TA}{p pos':Pos}(C:iJ X.prog X.w X.K X.mg X.base k x ps sp)(hr:cy j X.A)(hj:k<=j)(hg:Gl X x)(ha:PA X.nox (e :: es) t)
  (hdb:(x == ("__debug__" : Str))=false:=by decide) (he:E5 (e :: es) X.env=(false,eval e X.env) :: E5 es X.env:=by rfl) (hpl:(Ig pos (E5 es X.env)).any (·.1)=false:=by rfl) (hs:swapsWith (.Call (.Name x p) (e :: es) [] pos) none pos'.line X.env=pure false:=by rfl) :
  DJ X (.Expr (.Call (.Name x p) (e :: es) [] pos) pos') (λEX D σ H=>t σ H λvs H1=>sp vs H1 (λ_ H2=>D.nx σ H2) λcls _ H2=>EX cls σ H2):=by
 intro pins s σ H D EX I h
 exact wpAny_Expr_any (thn (ev_x C hr hj hg ha hdb he hpl I h) λv s1 ⟨x,H1,I1,r1,q1⟩=>⟨σ,H1,I1,q1⟩) I.quiet hs
def tTry (K:D2)(i:Nat)(C:D1)(tb:EXt->TS)(th:TS):TS:=λD σ H =>
 tb (λcls σ1 H1=>exmOne K cls C=some true/\∀ea,H1 ea=none->th { nx:=λσ2 H2=>D.nx (σ2.set i none) H2,rt:=D.rt,bk:=λσ2 H2=>D.bk (σ2.set i none) H2,ct:=λσ2 H2=>D.ct (σ2.set i none) H2 } (σ1.set i (some (.ref ea))) (upd H1 ea (rH ea cls))) D σ H
theorem CA {i:Nat}{n x:Str}{C:D1}{body:List Stmt}{b₀:Stmt}{suite:List Stmt}{tb:EXt->TS}{th:TS}{np hp:Pos}(hst:X.stack=X.env :: X.outer)(hfr:X.env.frame=some X.env.locals)
    (hN:X.N.Nodup) (hi:X.N[i]? = some n) (hx:X.env.scope.names.lookup n=some .local) (hg:Gl X x) (hm:X.mg x=some C) (hb:PSx X body tb) (hs:∀ea,PSs (X.mark ea) (b₀ :: suite) th) (hdb:(x == ("__debug__" : Str))=false:=by decide) :
    PS X (.Try body [.ExceptHandler (some (.Name x np)) (some n) (b₀ :: suite) hp] [] [] pos) (tTry X.K i C tb th):=by
  intro pins s σ H D I h
  refine wpAny_Try_except (Gp (hb pins s σ H D _ I h) (λf s1 q =>?_) λe s1 hx1 =>?_)
  · cases f with
    | next=>exact Ib q
    | ret v=>exact q
    | brk=>exact q
    | cont=>exact q
  obtain ⟨σ1,H1,s0,ea,cls,a0,B,H2,I1,rfl,os,g,F,hm2,q⟩:=hx1
  have fl:=F.fl
  have hfr':X.A.frames=some (X.env :: X.outer):=by rw[I1.ok.frames,hst]
  rw[hst] at fl
  refine wpAny_looks_onW hfr' hfr fl λh4 held4 k4 =>?_
  refine wpAny_landsW held4 λh5 f5 k5 =>?_
  rw[<- hst] at f5
  have F5:=F.on f5 (k4.trans k5)
  have I5:Inv X pins σ1 H2 { s1 with heap:=h5 }:=I1.land os g F5
  refine wpAny_handleBy_cons (codeAny_handlers_test ?_) (by intro z;cases z)
  refine i7 (X:=X.mark ea) (I5.mark ea) hg hm ?_ hdb
  have LT:Looks (EF X.prog X.w) h5 (typeOf (.ref ea)) cls:=by
    obtain ⟨ob,hob,hc⟩:=f5.there
    subst hc
    exact (Looks.ld hob).andThen .now
  refine (exm_one (M:=EF X.prog X.w) I5.kIn LT hm2).here ?_
  refine codeAny_handlers_suite_as ?_
  refine lands_againW f5 λh6 f6 k6 =>?_
  have F6:=F5.on f6 k6
  have I6:Inv X pins σ1 H2 { s1 with heap:=h6 }:=I1.land os g F6
  have I7:=I1.exc I6 F6
  refine i6 (v :=.ref ea) I7 hN hi (.inl hx) rfl (λs7 I8 =>?_) (.inr hx)
  have cls0:(X.env.scope.kind == .class || (X.env.scope.kind == .module && X.env.locals != X.env.globals))=false:=by rw[I.ok.kind];rfl
  have go:∀{σ2:St} {H3:Hp} {s8:D5} {Q:Unit->D5->Prop} {E:D1->D5->Prop},Inv (X.mark ea) pins σ2 H3 s8->(∀s9,Inv X pins (σ2.set i none) H3 s9->Q () s9)->Es (EF X.prog X.w) X.A (do bindName X.env n .none;unbindBehindTheSuite X.env n hp) Q E s8:=λ{σ2 H3 s8 Q E} J hQ=>by
    have J':Inv X pins σ2 H3 s8:=J.unmark I.ok
    obtain ⟨m,hn,hl⟩:=J'.loc
    exact wpAny_nameGoes_keeps hx hn cls0 λh9 v hn9 hs9=>hQ _ (J'.gone hN hi hn hl hn9 hs9)
  refine Gp (hs ea pins s7 _ _ _ (I8.mark ea) (q ea F.no)) (λf s8 r =>?_) λ_ _ z=>False.elim z
  cases f with
  | next =>
    obtain ⟨σ2,H3,J,r⟩:=r
    exact go J λs9 J9=>⟨_,H3,J9,r⟩
  | brk =>
    obtain ⟨σ2,H3,J,r⟩:=r
    exact go J λs9 J9=>⟨_,H3,J9,r⟩
  | cont =>
    obtain ⟨σ2,H3,J,r⟩:=r
    exact go J λs9 J9=>⟨_,H3,J9,r⟩
  | ret u =>
    obtain ⟨v,σ2,H3,J,rv,r⟩:=r
    exact go J λs9 J9=>⟨v,_,H3,J9,rv,r⟩
end
structure ExI (K:D2)(C:Addr):Prop where
 ga:findIn K (.ref C) "__getattribute__" = some (some (.builtin "BaseException.__getattribute__"))
 gt:findIn K (.ref C) "__getattr__" = some none
 cl:findIn K (.ref C) "__class__" = some (some (.builtin "object.__class__"))
 mo:subIn K (.ref C) (.type "object")=some true
 sb:subIn K (.ref C) (.type "BaseException")=some true
 it:(clsIn K C).isSome=true
section
variable  {K:D2}{prog:Eo}{w:ES}{A:Fi}{E:D1->D5->Prop}{h:Heap}{g:Array GenState}{d:Drawn}{t:Nat}{os:OsState}{a C:Addr}{o:Obj}
theorem CB {R:Result->D5->Prop}(X:K.In h)(Z:ExI K C)(hx:h.get? a=some o)(hc:o.cls = .ref C)(hq:R (.ok (.ret (.ref C))) ⟨h,g,d,t,os⟩) :
  Jb (EF prog w) A (.call (.builtin "getset_descriptor.__get__") ⟨[.builtin "object.__class__",.ref a,.ref C],[]⟩) R ⟨h,g,d,t,os⟩:=by
 have hT5:(⟨h,g,d,t,os⟩:D5).TypeIs (.builtin "object.__class__") "getset_descriptor" := Jn
 have L1:Looks (EF prog w) h (isSubtype (.ref C) (.type (".".intercalate ("object.__class__".cutAt '.').dropLast))) true:=by rw[F.owner_object_class];exact looks_subIn X Z.mo
 refine Hs Mh.plain F.entry_gs_get (Mh.check _ _ _ _ _ _ _ _ hT5 (F.args_gs_get _ _ _) ?_)
 repeat (any_goals (first | assumption | (with_reducible refine Ik hx ?_;rw[hc]) | with_reducible refine L1.at ?_ | wp_step))
 refine ⟨IU _ (by decide +kernel),E6 F.entry_object_class ?_⟩
 unfold Builtin.«object.__class__»
 repeat (any_goals (first | assumption | (with_reducible refine Ik hx ?_;rw[hc]) | wp_step))
theorem yM {tk:Tok}{Q:Fin->D5->Prop}(X:K.In h)(Z:ExI K C)(hx:h.get? a=some o)(hc:o.cls = .ref C)(hq:Q (.done (.ret (.ref C))) ⟨h,g,d,t,os⟩) :
  Es (EF prog w) A (Builtin.«object.__getattribute__» ⟨[.ref a,.str "__class__" tk],[]⟩) Q E ⟨h,g,d,t,os⟩:=by
 have hT5:(⟨h,g,d,t,os⟩:D5).TypeIs (.builtin "object.__class__") "getset_descriptor" := Jn
 have f5:=Jn
 have f6:=Mh.lookup
 have f7:=F.slot_gs_set.lookup
 have L1:=MH (M:=EF prog w) X Z.cl
 repeat (any_goals (first | assumption | (with_reducible refine Ik hx ?_;rw[hc]) | with_reducible refine L1.at ?_ | wp_step))
 refine CB X Z hx hc ?_
 repeat (any_goals (first | assumption | wp_step))
theorem yN {M:Model}{nv:D1}{Q:Unit->D5->Prop}(X:K.In h)(Z:ExI K C)(hx:h.get? a=some o)(hc:o.cls = .ref C)(hq:Q () ⟨h,g,d,t,os⟩):Es M A (checkBuiltinCall "BaseException.__getattribute__" ⟨[.ref a,nv],[]⟩) Q E ⟨h,g,d,t,os⟩:=by
 have k1:builtinKind "BaseException.__getattribute__" = some .slot:=by decide +kernel
 have k2:splitId "BaseException.__getattribute__" = some ("BaseException", "__getattribute__"):=by decide +kernel
 have L1:=looks_subIn (M:=M) X Z.sb
 have k3:=F.args_bexc_ga (.ref a) nv
 simp only[checkBuiltinCall,k1,k2]
 refine DX ?_
 unfold isInstance
 repeat (first | (with_reducible refine Ik hx ?_;rw[hc]) | with_reducible refine L1.at ?_ | wp_step)
 exact hq
theorem AN {Q:Option D1->D5->Prop}(X:K.In h)(Z:ExI K C)(hx:h.get? a=some o)(hc:o.cls = .ref C)(hq:Q (some (.ref C)) ⟨h,g,d,t+1,os⟩) :
  Es (EF prog w) A (getAttr? (.ref a) "__class__") Q E ⟨h,g,d,t,os⟩:=by
 have f3:=(Lc).ga.bind (.ref a)
 have y2:(Value.builtin "BaseException.__getattribute__" == Value.builtin "object.__getattribute__")=false:=by decide +kernel
 have y1:(onTheHeap (Eu C) && Value.builtin "BaseException.__getattribute__" == Value.builtin "object.__getattribute__")=false:=by rw[y2];rfl
 have L1:=MH (M:=EF prog w) X Z.ga
 have L2:=MH (M:=EF prog w) X Z.gt
 unfold getAttr? getAttrBy?
 repeat (any_goals (first | assumption | (with_reducible refine Ik hx ?_;rw[hc]) | with_reducible refine L1.at ?_ | with_reducible refine L2.at ?_ | wp_step))
 refine Hs (Lc).ga.plain F.entry_bexc_ga (yN X Z hx hc (yM X Z hx hc ?_))
 repeat (any_goals (first | assumption | wp_step))
end
theorem yO {K:D2}{a C:Addr}(Z:ExI K C):KitX K (.ref a) (.ref C) (λh=>∃o,h.get? a=some o/\o.cls = .ref C) where
 ty:=λM h _ p=>by
  obtain ⟨o,h1,h2⟩:=p
  exact h2 ▸ (Looks.ld h1).andThen .now
 it:=λ_ _ X _=>by
  have z:=Z.it
  unfold clsIn at z
  split at z
  ·rename_i c' d' cd' sl' ho
   intro A' Q' E' s' k q
   unfold isType loadHead
   exact DX (wpAny_loadPart (k _ _ (X _ _ ho)) (D3 q))
  ·cases z
 ne:=λh tp dd its n sl X htp=>by
  have z:=Z.it
  refine GO.mpr λq =>?_
  have e:C=tp:=Value.ref.inj (beq_iff_eq.mp q)
  subst e
  unfold clsIn at z
  split at z
  ·rename_i c' d' cd' sl' ho
   have y:=(X _ _ ho).symm.trans htp
   cases y
  ·cases z
 ca:=λ{_ _ _ _ _ s} X p k=>by
  obtain ⟨h,g,d,t,os⟩:=s
  obtain ⟨o,h1,h2⟩:=p
  exact AN X Z h1 h2 k
def DL:V->D1
 | .ref a =>.ref a
 | .ty n =>.type n
 | _ =>.none
def Bw:V->Bool
 | .ref _=>true
 | .ty _=>true
 | _=>false
theorem AO {x:V}{u:D1}(h:Bw x=true)(r:RelV x u):u=DL x:=by
 cases x <;> first | exact r | cases h
section
variable  {X:Cx}
theorem bQ {K:D2}(hK:X.K=K:=by rfl):bZ X (.builtin "isinstance") (λxs H Q=>∃(ea C:Addr) (c:V) (b:Bool),xs=[.ref ea,c]/\H ea=some (rH ea (.ref C))/\ExI K C/\Bw c=true/\kitOne K (.ref C) (DL c)=some b/\Q (.bl b) H):=by
 subst hK
 intro pins s σ H xs us Q I r h
 obtain ⟨ea,C,c,b,rfl,he,Z,hc,hk,q⟩:=h
 cases r with | cons r1 r2 =>
 cases r2 with | cons r2 r3 =>
 cases r3
 obtain rfl:=AO hc r2
 have r1:_=Eu ea:=r1
 subst r1
 obtain ⟨p,_⟩:=I.hok ea _ he
 exact kia_one (yO Z) I.kIn p hk (by intro z;cases z) λtk=>⟨.bl b,H,I.tok tk,rfl,q⟩
end
end L2
namespace L2.MnT
open PySem PyProof.Rows
section
variable  {prog:Eo}{w:ES}{A:Fi}{E:D1->D5->Prop}{I:Addr}{fp wr:List Addr}{n:Nat}{P:Nat->D1->Prop}{St:Nat->Heap->Prop}
def Cmp (prog:Eo)(w:ES)(A:Fi)(P:Nat->D1->Prop)(St:Nat->Heap->Prop)(bt:Nat->Nat->Bool):Prop :=
 ∀k i j x y (s:D5) (Q E:D1->D5->Prop),St k s.heap->P i x->P j y->Q (.bool (bt i j)) s->Es (EF prog w) A (richCompare .Lt x y) Q E s
abbrev Bag (S:Addr)(xs:Array D1)(c:Nat)(h:Heap):Prop:=h.get? S=some { cls :=.type "list",dict:=none,data :=.seq xs c,slots := #[] }
abbrev Kept (wr:List Addr)(S:Addr)(h h':Heap):Prop:=∀b o,b∉wr->b≠S->h.get? b=some o->h'.get? b=some o
theorem loop {R:Result->D5->Prop}(W:Walks prog w A.in1 I fp wr n P St){bt:Nat->Nat->Bool}(C:Cmp prog w A.in1 P St bt){S:Addr}(nS:S∉fp):∀(d j:Nat) (s:D5) (best:D1) (c:Nat),n=j+1+d->St (j+1) s.heap->P (argBest bt j) best->Bag S #[best,best] c s.heap →
  (∀v h' tk,P (argBest bt (n-1)) v->Kept wr S s.heap h'->R (.ok (.ret v)) { s with heap:=h',toks:=tk })->Jb (EF prog w) A (.builtin "min.loop" ⟨[.ref I,.none,.ref S],[]⟩) R s:=by
 have nw:S∉wr:=λh=>nS (W.sub _ h)
 have nm:(toString "min" ++ toString ".loop" : String) = "min.loop" := by decide
 intro d
 induction d with
 | zero =>
  intro j s best c hn st pb bg hR
  have e:j+1=n:=by lia
  rw[e] at st
  refine E6 GK ?_
  rw[EY Fg _]
  show Es _ _ (seqItems? (.ref S) >>= _) _ _ s
  refine DX (FG bg rfl ?_)
  show Es _ _ (tryCatch (pyNext (.ref I)) _ >>= _) _ _ s
  refine DX (GU (W.done s _ _ st λh1 tk kp =>?_))
  show Es _ _ (updateSeq S (λ_ => #[]) >>= _) _ _ _
  refine DX ?_
  refine Gb (kp S _ nw bg) rfl (DX (Hd (D3 (hR best _ tk (by rw[<- e];exact pb) ?_))))
  exact λb o nb ns eb=>(EG _ _ (F8 ns)).trans (kp b o nb eb)
 | succ d ih =>
  intro j s best c hn st pb bg hR
  refine E6 GK ?_
  rw[EY Fg _]
  show Es _ _ (seqItems? (.ref S) >>= _) _ _ s
  refine DX (FG bg rfl ?_)
  show Es _ _ (tryCatch (pyNext (.ref I)) _ >>= _) _ _ s
  refine DX (GU (W.item (j+1) s _ _ (by lia) st λv h1 tk pv st1 kp =>?_))
  have bg1:=kp S _ nw bg
  show Es _ _ (tryCatch (Jv [v,v] (richCompare .Lt v best >>= _)) _ >>= _) _ _ _
  refine DX (GU (Fe (DX (C (j+1+1) (j+1) (argBest bt j) v best _ _ _ st1 pv pb ?_))))
  refine DX (Fe (Gi ?_))
  refine DX (Hd (D3 ?_))
  by_cases hb:bt (j+1) (argBest bt j)=true
  ·have ea:argBest bt (j+1)=j+1:=by simp only[argBest,hb,if_true]
   rw[hb]
   simp only[if_true]
   refine DX ?_
   refine Gb bg1 rfl (DX (Hd ?_))
   rw[nm]
   refine D3 ⟨FV Fg _,ih (j+1) _ v _ (by lia) (W.frame _ _ _ st1 λb fb o eb =>?_) (by rw[ea];exact pv) (Fj _ bg1 rfl) λv2 h2 tk2 p2 k2=>hR v2 h2 tk2 p2 λb o nb ns eb=>k2 b o nb ns ?_⟩
   ·exact (EG _ _ (λz:S=b=>nS (z ▸ fb))).trans eb
   ·exact (EG _ _ (F8 ns)).trans (kp b o nb eb)
  ·have ea:argBest bt (j+1)=argBest bt j:=by simp only[argBest,hb];rfl
   rw[GO.mpr hb]
   simp only[Ex,if_false]
   refine DX (Hd ?_)
   rw[nm]
   exact D3 ⟨FV Fg _,ih (j+1) _ best c (by lia) st1 (by rw[ea];exact pb) bg1 λv2 h2 tk2 p2 k2=>hR v2 h2 tk2 p2 λb o nb ns eb=>k2 b o nb ns (kp b o nb eb)⟩
theorem first {R:Result->D5->Prop}(W:Walks prog w A.in1 I fp wr n P St){bt:Nat->Nat->Bool}(C:Cmp prog w A.in1 P St bt){S:Addr}(nS:S∉fp)(hn:0<n){s:D5}{c:Nat}(st:St 0 s.heap)(bg:Bag S #[] c s.heap)
  (hR:∀v h' tk,P (argBest bt (n-1)) v->Kept wr S s.heap h'->R (.ok (.ret v)) { s with heap:=h',toks:=tk }):Jb (EF prog w) A (.builtin "min.loop" ⟨[.ref I,.none,.ref S],[]⟩) R s:=by
 have nw:S∉wr:=λh=>nS (W.sub _ h)
 have nm:(toString "min" ++ toString ".loop" : String) = "min.loop" := by decide
 refine E6 GK ?_
 rw[EY Fg _]
 show Es _ _ (seqItems? (.ref S) >>= _) _ _ s
 refine DX (FG bg rfl ?_)
 show Es _ _ (tryCatch (pyNext (.ref I)) _ >>= _) _ _ s
 refine DX (GU (W.item 0 s _ _ hn st λv h1 tk pv st1 kp =>?_))
 have bg1:=kp S _ nw bg
 show Es _ _ (updateSeq S (λ_ => #[v,v]) >>= _) _ _ _
 refine DX ?_
 refine Gb bg1 rfl ?_
 rw[nm]
 refine D3 ⟨FV Fg _,loop W C nS (n-1) 0 _ v _ (by lia) (W.frame _ _ _ st1 λb fb o eb =>?_) pv (Fj _ bg1 rfl) λv2 h2 tk2 p2 k2=>hR v2 h2 tk2 p2 λb o nb ns eb=>k2 b o nb ns ?_⟩
 ·exact (EG _ _ (λz:S=b=>nS (z ▸ fb))).trans eb
 ·exact (EG _ _ (F8 ns)).trans (kp b o nb eb)
def TI (h:Heap)(t:Addr×List Int):Prop:=∃its:Array D1,IsTup h t.1 its/\He its.toList t.2
theorem TI.at {h h':Heap}{t:Addr×List Int}(x:TI h t)(e:∀o,h.get? t.1=some o->h'.get? t.1=some o):TI h' t:=let ⟨its,⟨o,ho,r⟩,y⟩:=x;⟨its,⟨o,e o ho,r⟩,y⟩
theorem more (W:Walks prog w A I fp wr n P St)(ts:List (Addr×List Int))(nw:∀t∈ts,t.1∉wr):Walks prog w A I (fp++ts.map (·.1)) wr n P (λi h=>St i h/\∀t∈ts,TI h t) where
 sub:=λb hb=>Eh.mpr (.inl (W.sub b hb))
 frame:=λi h h' x hk=>⟨W.frame i h h' x.1 λb hb o e=>hk b (Eh.mpr (.inl hb)) o e,λt ht=>(x.2 t ht).at (hk t.1 (Eh.mpr (.inr (GP (f:=(·.1)) ht))))⟩
 item:=λi s Q E hi x hQ=>W.item i s Q E hi x.1 λv h' tk pv st' kp=>hQ v h' tk pv ⟨st',λt ht=>(x.2 t ht).at λo=>kp t.1 o (nw t ht)⟩ kp
 done:=λs Q E x hQ=>W.done s Q E x.1 hQ
 self:=λi s Q E x hQ=>W.self i s Q E x.1 hQ
theorem best (g:Nat->List Int):∀k,(argBest (λi j=>HT.lexLt (g i) (g j)) k<=k)/\∀j,j<=k->HT.lexLt (g j) (g (argBest (λi j=>HT.lexLt (g i) (g j)) k))=false
 | 0=>⟨D6 _,λj hj=>by rw[Nat.le_zero.mp hj];exact Srt.lex_irrefl _⟩
 | k+1=>by
  obtain ⟨l,ih⟩:=best g k
  by_cases hb:HT.lexLt (g (k+1)) (g (argBest (λi j=>HT.lexLt (g i) (g j)) k))=true
  ·have ea:argBest (λi j=>HT.lexLt (g i) (g j)) (k+1)=k+1:=by simp only[argBest,hb,if_true]
   rw[ea]
   refine ⟨D6 _,λj hj =>?_⟩
   by_cases e:j=k+1
   ·rw[e];exact Srt.lex_irrefl _
   ·refine GO.mpr λz =>?_
    have:=ih j (by lia)
    rw[Srt.lex_trans _ _ _ z hb] at this
    cases this
  ·have ea:argBest (λi j=>HT.lexLt (g i) (g j)) (k+1)=argBest (λi j=>HT.lexLt (g i) (g j)) k:=by simp only[argBest,hb];rfl
   rw[ea]
   refine ⟨by lia,λj hj =>?_⟩
   by_cases e:j=k+1
   ·rw[e];exact GO.mpr hb
   ·exact ih j (by lia)
end
end L2.MnT
namespace L2
open PySem PySem.Spec PyProof.Rows
section
variable  {X:Cx}
end
end L2
namespace L2.MnT
open PySem PyProof.Rows
section
variable  {prog:Eo}{w:ES}{A:Fi}{E:D1->D5->Prop}{I:Addr}{fp wr:List Addr}{n:Nat}{P:Nat->D1->Prop}{St:Nat->Heap->Prop}
abbrev fe (ts:List (Addr×List Int)):Nat->Nat->Bool:=λi j=>decide ((ts.getD i (0,[])).2.length<(ts.getD j (0,[])).2.length)
theorem yP {s:D5}{t:Addr×List Int}{Q:D1->D5->Prop}(x:TI s.heap t)(hz:t.2.length<2 ^ 63)(h:∀u tk,Q (.int t.2.length u) { s with toks:=tk }):Es (EF prog w) A (call (.builtin "len") [.ref t.1]) Q E s:=by
 obtain ⟨its,ht,hi⟩:=x
 have e:its.size=t.2.length:=by rw[<- hi.length,D9]
 refine len_tuple ht (by rw[e];lia) ?_
 rw[e]
 exact h _ _
theorem DM {R:Result->D5->Prop}{ts:List (Addr×List Int)}{kw:List (Str×D1)}(W:Walks prog w A.in1 I fp wr n P St)(hI:∀k h,St k h->∀t∈ts,TI h t)(hP:∀i v,P i v->∃t,ts[i]? = some t/\v = .ref t.1)(hz:∀t∈ts,t.2.length<2 ^ 63){S:Addr}(nS:S∉fp):∀(d j:Nat) (s:D5) (t:Addr×List Int) (tk c:Nat),n=j+1+d->St (j+1) s.heap->ts[argBest (fe ts) j]? = some t->Bag S #[.ref t.1,.int t.2.length tk] c s.heap →
  (∀t h' tk,ts[argBest (fe ts) (n-1)]? = some t->Kept wr S s.heap h'->R (.ok (.ret (.ref t.1))) { s with heap:=h',toks:=tk })->Jb (EF prog w) A (.builtin "min.loop" ⟨[.ref I,.builtin "len",.ref S],kw⟩) R s:=by
 have nw:S∉wr:=λh=>nS (W.sub _ h)
 have nm:(toString "min" ++ toString ".loop" : String) = "min.loop" := by decide
 intro d
 induction d with
 | zero =>
  intro j s t tk c hn st et bg hR
  have e:j+1=n:=by lia
  rw[e] at st
  refine E6 GK ?_
  rw[EY Fg _]
  show Es _ _ (seqItems? (.ref S) >>= _) _ _ s
  refine DX (FG bg rfl ?_)
  show Es _ _ (tryCatch (pyNext (.ref I)) _ >>= _) _ _ s
  refine DX (GU (W.done s _ _ st λh1 tk kp =>?_))
  show Es _ _ (updateSeq S (λ_ => #[]) >>= _) _ _ _
  refine DX ?_
  refine Gb (kp S _ nw bg) rfl (DX (Hd (D3 (hR t _ tk (by rw[<- e];exact et) ?_))))
  exact λb o nb ns eb=>(EG _ _ (F8 ns)).trans (kp b o nb eb)
 | succ d ih =>
  intro j s t tk c hn st et bg hR
  refine E6 GK ?_
  rw[EY Fg _]
  show Es _ _ (seqItems? (.ref S) >>= _) _ _ s
  refine DX (FG bg rfl ?_)
  show Es _ _ (tryCatch (pyNext (.ref I)) _ >>= _) _ _ s
  refine DX (GU (W.item (j+1) s _ _ (by lia) st λv h1 tk1 pv st1 kp =>?_))
  obtain ⟨u,eu,rfl⟩:=hP _ _ pv
  have bg1:=kp S _ nw bg
  show Es _ _ (tryCatch (Jv [Eu u.1] (call (.builtin "len") [.ref u.1])) _ >>= _) _ _ _
  refine DX (GU (Fe (yP (hI _ _ st1 u (Eb eu)) (hz u (Eb eu)) λtu tk2 =>?_)))
  show Es _ _ (tryCatch (Jv [Eu u.1,.int u.2.length tu] (richCompare .Lt (.int u.2.length tu) (.int t.2.length tk) >>= _)) _ >>= _) _ _ _
  refine DX (GU (Fe (DX (richCompare_gives (op :=.Lt) (Lr _ _ tu) (Lr _ _ tk) PySem.F.slot_int_lt PySem.F.entry_int_lt (PySem.F.args_int_lt_2 _ _) (gives_int_lt _ _ tu tk) (λx=>nomatch x) ?_))))
  refine DX (Fe (Gi ?_))
  refine DX (Hd (D3 ?_))
  have eb':fe ts (j+1) (argBest (fe ts) j)=decide (u.2.length<t.2.length):=by
   show decide _=_
   rw[Ew,Ew,eu,et];rfl
  by_cases hb:u.2.length<t.2.length
  ·have ea:argBest (fe ts) (j+1)=j+1:=by
    show (if fe ts (j+1) (argBest (fe ts) j)=true then _ else _)=_
    rw[eb',if_pos (decide_eq_true hb)]
   rw[show decide ((u.2.length:Int)<(t.2.length:Int))=true from decide_eq_true (by lia)]
   simp only[if_true]
   refine DX ?_
   refine Gb bg1 rfl (DX (Hd ?_))
   rw[nm]
   refine D3 ⟨FV Fg _,ih (j+1) _ u tu _ (by lia) (W.frame _ _ _ st1 λb fb o eb =>?_) (by rw[ea];exact eu) (Fj _ bg1 rfl) λv2 h2 tk2 p2 k2=>hR v2 h2 tk2 p2 λb o nb ns eb=>k2 b o nb ns ?_⟩
   ·exact (EG _ _ (λz:S=b=>nS (z ▸ fb))).trans eb
   ·exact (EG _ _ (F8 ns)).trans (kp b o nb eb)
  ·have ea:argBest (fe ts) (j+1)=argBest (fe ts) j:=by
    show (if fe ts (j+1) (argBest (fe ts) j)=true then _ else _)=_
    rw[eb',if_neg (by simpa using hb)]
   rw[show decide ((u.2.length:Int)<(t.2.length:Int))=false from decide_eq_false (by lia)]
   simp only[Ex,if_false]
   refine DX (Hd ?_)
   rw[nm]
   exact D3 ⟨FV Fg _,ih (j+1) _ t tk c (by lia) st1 (by rw[ea];exact et) bg1 λv2 h2 tk2 p2 k2=>hR v2 h2 tk2 p2 λb o nb ns eb=>k2 b o nb ns (kp b o nb eb)⟩
end
end L2.MnT
namespace L2
open PySem PySem.Spec PyProof.Rows
theorem MnT.Bx (g:Nat->Nat):∀k,∀j,j<=k->g (argBest (λi j=>decide (g i<g j)) k)<=g j
 | 0,j,hj=>by rw[Nat.le_zero.mp hj];exact D6 _
 | k+1,j,hj=>by
  have ih:=MnT.Bx g k
  by_cases hb:g (k+1)<g (argBest (λi j=>decide (g i<g j)) k)
  ·have ea:argBest (λi j=>decide (g i<g j)) (k+1)=k+1:=by simp only[argBest,decide_eq_true hb,if_true]
   rw[ea]
   by_cases e:j=k+1
   ·rw[e];exact D6 _
   ·have:=ih j (by lia);lia
  ·have ea:argBest (λi j=>decide (g i<g j)) (k+1)=argBest (λi j=>decide (g i<g j)) k:=by simp only[argBest,decide_eq_false hb];rfl
   rw[ea]
   by_cases e:j=k+1
   ·rw[e];lia
   ·exact ih j (by lia)
section
variable  {X:Cx}
end
end L2
namespace Kys
open PySem PyProof.Rows
section
variable  {prog:Eo}{w:ES}{A:Fi}{E:D1->D5->Prop}{s:D5}
def PD (h:Heap)(d:Addr)(es:Array DictEntry)(ep:Nat):Prop:=∃o,h.get? d=some o/\o.ExactDict/\o.data = .dict es ep
def kObj (d:Addr)(i n ep:Nat):Obj:={ cls :=.type "dict_keyiterator",data :=.fields #[.ref d,.int i 0,.int n 0,.int ep 0] }
theorem PD.ty {d:Addr}{es:Array DictEntry}{ep:Nat}(x:PD s.heap d es ep):s.TypeIs (.ref d) "dict" := let ⟨o,e,c,_⟩:=x;⟨o,e,c.1⟩
theorem CC {d:Addr}{es:Array DictEntry}{ep:Nat}{Q:D1->D5->Prop}(hs:(d == sysModules)=false)(hd:PD s.heap d es ep)
  (hQ:Q (.ref s.heap.objs.size) { s with heap:=s.heap.push (kObj d 0 es.size ep) }):Es (EF prog w) A (Builtin.«dict.__iter__» ⟨[.ref d],[]⟩) (λfin s'=>∃v,fin = .done (.ret v)/\Q v s') E s:=by
 obtain ⟨⟨oc,odd,odt,os'⟩,hod,⟨hc,_⟩,hdd⟩:=hd
 dsimp only at hdd hc
 subst hdd hc
 unfold Builtin.«dict.__iter__»
 wp_walk
 exact ⟨_,rfl,hQ⟩
theorem nextOne {it d:Addr}{es:Array DictEntry}{ep i:Nat}{e:DictEntry}{Q:D1->D5->Prop}(hi:s.heap.get? it=some (kObj d i es.size ep))(hd:PD s.heap d es ep)(he:es[i]? = some e)
  (hQ:∀h',h'.get? it=some (kObj d (i+1) es.size ep)->Heap.SameBut it s.heap h'->Q e.key { s with heap:=h' }):Es (EF prog w) A (Builtin.«dict_keyiterator.__next__» ⟨[.ref it],[]⟩) (λfin s'=>∃v,fin = .done (.ret v)/\Q v s') E s:=by
 obtain ⟨⟨oc,odd,odt,os'⟩,hod,⟨hc,_⟩,hdd⟩:=hd
 dsimp only at hdd hc
 subst hdd hc
 unfold kObj at hi
 unfold Builtin.«dict_keyiterator.__next__»
 wp_walk
 rw[show (if (i:Int)<0 then none else es[(i:Int).toNat]?)=some e by rw[if_neg (by lia),Fo];exact he]
 wp_walk
 exact ⟨_,rfl,hQ _ ((Fj _ hi (by first | rfl | kernel_rfl)).trans (by unfold kObj;kernel_rfl)) (Iz ..)⟩
theorem AQ {it d:Addr}{es:Array DictEntry}{ep i:Nat}{Q:Fin->D5->Prop}(hh:A.handled=none)(hi:s.heap.get? it=some (kObj d i es.size ep))(hd:PD s.heap d es ep)(hl:es.size<=i)
  (hE:∀(h':Heap) (x:Addr),(∀c o,c≠it->s.heap.get? c=some o->h'.get? c=some o)->(∃o,h'.get? x=some o/\o.cls = .type "StopIteration")->E (.ref x) { s with heap:=h' }):Es (EF prog w) A (Builtin.«dict_keyiterator.__next__» ⟨[.ref it],[]⟩) Q E s:=by
 obtain ⟨⟨oc,odd,odt,os'⟩,hod,⟨hc,_⟩,hdd⟩:=hd
 dsimp only at hdd hc
 subst hdd hc
 unfold kObj at hi
 unfold Builtin.«dict_keyiterator.__next__»
 wp_walk
 rw[show (if (i:Int)<0 then none else es[(i:Int).toNat]?)=none by rw[if_neg (by lia),Fo];exact Hh hl]
 wp_walk
 refine wpAny_raiseNew_none hh (hE _ _ (λc o n e =>?_) ⟨_,Ed _ rfl,rfl⟩)
 exact DZ _ (DZ _ ((EG _ _ (F8 n)).trans e))
def KAt (h:Heap)(it d:Addr)(i n ep:Nat):Prop:=h.get? it=some (kObj d i n ep)
theorem KAt.ty {it d:Addr}{i n ep:Nat}(x:KAt s.heap it d i n ep):s.TypeIs (.ref it) "dict_keyiterator" :=⟨_,x,rfl⟩
theorem KAt.iter {it d:Addr}{i n ep:Nat}(x:KAt s.heap it d i n ep):s.heap.IsKeyIter it d i n ep:=⟨_,x,rfl,rfl⟩
theorem AR {d:Addr}{es:Array DictEntry}{ep:Nat}{Q:D1->D5->Prop}(hs:(d == sysModules)=false)(hd:PD s.heap d es ep)
  (hQ:Q (.ref s.heap.objs.size) { s with heap:=s.heap.push (kObj d 0 es.size ep) }):Es (EF prog w) A (pyIter (.ref d)) Q E s :=
 MC hd.ty KZ (FA KZ hd.ty PySem.F.entry_dict_iter (CC hs hd ⟨"dict_keyiterator",_,⟨_,Ed _ rfl,rfl⟩,FX.lookup,hQ⟩) (PySem.F.args_dict_iter_1 _))
theorem AS {it d:Addr}{es:Array DictEntry}{ep i:Nat}{e:DictEntry}{Q:Option D1->D5->Prop}(hi:KAt s.heap it d i es.size ep)(hd:PD s.heap d es ep)(he:es[i]? = some e)
  (hQ:∀h',KAt h' it d (i+1) es.size ep->Heap.SameBut it s.heap h'->Q (some e.key) { s with heap:=h' }):Es (EF prog w) A (pyNext (.ref it)) Q E s:=by
 unfold pyNext
 exact DX (Hq (FD (name:=Str.ofString "__next__") hi.ty FX (FA FX hi.ty ID (nextOne hi hd he λh' k b=>D3 (hQ h' k b)) (Iu _))))
theorem CD {it d:Addr}{es:Array DictEntry}{ep i:Nat}{Q:Option D1->D5->Prop}(hh:A.handled=none)(hi:KAt s.heap it d i es.size ep)(hd:PD s.heap d es ep)(hl:es.size<=i)
  (hQ:∀h':Heap,(∀c o,c≠it->s.heap.get? c=some o->h'.get? c=some o)->Q none { s with heap:=h' }):Es (EF prog w) A (pyNext (.ref it)) Q E s:=by
 unfold pyNext
 refine DX (Hq (FD (name:=Str.ofString "__next__") hi.ty FX (FA FX hi.ty ID (AQ (by first | exact hh | (rw[<- hh];rfl)) hi hd hl λh' x k ⟨o,ex,ec⟩ =>?_) (Iu _))))
 exact DX (Iy (T := "StopIteration") (b:=true) ⟨o,ex,ec⟩ LK (D3 (hQ h' k)))
end
end Kys
namespace L2
open PySem PySem.Spec PyProof.Rows
theorem d8.tF {H:Hp}{a b:Addr}{ob:Obj}{kvs:List (List Key×V)}{k:List Key}(e:H a=some (.frz ob (.dT kvs)))(eb:H b=some (.tup (k.map kV))):d8 H a (.ref b) (bT kvs k) :=.inr ⟨kvs,k,b,.inr ⟨ob,e⟩,rfl,eb,rfl⟩
def Itk (d:Addr)(ob:Obj)(kvs:List (List Key×V)):It :=
 ⟨λi H=>H d=some (.frz ob (.dT kvs))/\i<kvs.length,λi H x H'=>H'=H/\∃b kv,kvs[i]? = some kv/\x = .ref b/\H b=some (.tup (kv.1.map kV)),λi H=>H d=some (.frz ob (.dT kvs))/\kvs.length<=i⟩
theorem kt_at {H:Hp}:∀{kvs:List (List Key×V)} {xs:List (List Key×Addr×D1)},KT H kvs xs->∀(i:Nat) kv,kvs[i]? = some kv->∃q,xs[i]? = some q/\H q.2.1=some (.tup (kv.1.map kV))
 | _,_,.nil,i,kv,e=>by cases e
 | _,_,.cons h t,0,kv,e=>by
  cases e
  exact ⟨_,rfl,h.2.1⟩
 | _,_,.cons h t,i+1,kv,e=>kt_at t i kv e
theorem tV {P:Eo}{w:ES}{K:D2}{tg:Expr}{kvs:List (List Key×V)}{es:Array DictEntry}{ep:Nat}{ob:Obj}(d it:Addr)(hc:ob.ExactDict)(hd:ob.data = .dict es ep)(hl:es.size=kvs.length) :
  Turn P w K tg (Itk d ob kvs) [it] it (λi h=>Kys.KAt h it d i es.size ep) where
 mem:=by simp
 obj:=λi h st b hb=>by
  obtain rfl:b=it:=by simpa using hb
  exact ⟨_,st,λv z=>by cases z⟩
 keep:=λi h h' st k=>k it (by simp) _ st
 item:=by
  intro X hP hw hK hcl i pins s σ H E I hf st hg
  subst hP hw hK
  obtain ⟨hdd,hi⟩:=hg
  have e1:s.heap.get? d=some ob:=(show aX X.prog X.w H s.heap d (.frz ob (.dT kvs)) from I.hok d _ hdd).1
  obtain ⟨_,_,xs,rel,o,es',ep',ho,_,hda,he,_,_⟩:=oP I.hok (.inr ⟨ob,hdd⟩)
  rw[e1] at ho
  cases ho
  rw[hd] at hda
  cases hda
  obtain ⟨f0,f1,f2,f3,f4,f5⟩:=hf it (by simp)
  obtain ⟨q,eq,hq⟩:=kt_at rel i _ (Ec hi)
  have ee:es[i]? = some (entryOfKey (tupleKind (bH X.prog X.w)) q):=by rw[entry_at he i,eq];rfl
  refine Kys.AS st ⟨ob,e1,hc,hd⟩ ee λh' st' sb=>⟨_,rfl,?_⟩
  have I1:Inv X pins σ H { s with heap:=h' }:=I.turned (t':=s.toks) (λb o hb e=>(sb.2 b hb).trans e) f0 f1 f3 f4 f5
  exact uF (s:={ s with heap:=h' }) st' rfl rfl (by decide) ⟨.ref q.2.1,H,I1,rfl,⟨rfl,q.2.1,_,Ec hi,rfl,hq⟩,st',λb hb=>(hf b hb).1⟩
 done:=by
  intro X hP hw hK hcl i pins s σ H E I hf st hg
  subst hP hw hK
  obtain ⟨hdd,hi⟩:=hg
  have e1:s.heap.get? d=some ob:=(show aX X.prog X.w H s.heap d (.frz ob (.dT kvs)) from I.hok d _ hdd).1
  obtain ⟨f0,f1,f2,f3,f4,f5⟩:=hf it (by simp)
  exact Kys.CD (I.ok.hd hcl) st ⟨ob,e1,hc,hd⟩ (by lia) λh' eb=>⟨rfl,I.turned (t':=s.toks) (λb o hb e=>eb b o hb e) f0 f1 f3 f4 f5⟩
 self:=λ_ _ _ _ _ st h=>wpAny_pyIter_keyiter (Kys.KAt.iter st) h
theorem Inv.AU {X:Cx}{pins:List (Addr×Obj)}{σ:St}{H:Hp}{s:D5}{d:Addr}{ob:Obj}{kvs:List (List Key×V)}(I:Inv X pins σ H s)(hd:H d=some (.dT kvs))(ho:s.heap.get? d=some ob):Inv X pins σ (upd H d (.frz ob (.dT kvs))) s:=by
 have go:∀b o,H b=some o->o ≠ .dT kvs->upd H d (.frz ob (.dT kvs)) b=some o:=λb o e n=>by rw[ak (cZ e hd n)];exact e
 have st:∀b u,aX X.prog X.w H s.heap b u->aX X.prog X.w (upd H d (.frz ob (.dT kvs))) s.heap b u:=λb u x=>x.stay (λ_ _ _ q=>q) (λc q=>go c _ q nofun) λc xs q=>go c _ q nofun
 refine I.step (g':=s.gens) (d':=s.drawn) (t':=s.toks) (h':=s.heap) (ch:=[]) (λ_ z=>nomatch z) (λb o _ _ _ e _=>e) (λb o _ _ _ e _=>⟨o.slots,e⟩) (λb o _ _ n =>?_) (λb o _ e=>⟨o,e⟩) (λb xs e=>go b _ e nofun) (λb o u e=>go b _ e nofun) (λb ps e=>⟨#[],by rw[go b _ e nofun];simp⟩) (λ_ m=>m) (λb u e =>?_) I.bare
 ·rw[ak λz=>by rw[z,hd] at n;cases n];exact n
 by_cases hb:b=d
 ·subst hb
  rw[ae] at e
  cases e
  exact ⟨ho,st _ _ (I.hok b _ hd)⟩
 ·rw[ak hb] at e
  exact st _ _ (I.hok b u e)
theorem Inv.DN {X:Cx}{pins:List (Addr×Obj)}{σ:St}{H:Hp}{s:D5}{d:Addr}{ob:Obj}{kvs:List (List Key×V)}(I:Inv X pins σ H s)(hd:H d=some (.frz ob (.dT kvs)))(h0:∀o u,X.H₀ d≠some (.frz o u)):Inv X pins σ (upd H d (.dT kvs)) s:=by
 have go:∀b o,H b=some o->o ≠ .frz ob (.dT kvs)->upd H d (.dT kvs) b=some o:=λb o e n=>by rw[ak (cZ e hd n)];exact e
 have no:∀b,H b=none->upd H d (.dT kvs) b=none:=λb n=>by rw[ak λz=>by rw[z,hd] at n;cases n];exact n
 have st:∀b u,aX X.prog X.w H s.heap b u->aX X.prog X.w (upd H d (.dT kvs)) s.heap b u:=λb u x=>x.stay (λ_ _ _ q=>q) (λc q=>go c _ q nofun) λc xs q=>go c _ q nofun
 refine ⟨I.ok,I.os,I.bare,⟨I.base.keep,I.base.slot,λb o q n m=>no b (I.base.free b o q n m),I.base.there,λb xs q=>go b _ (I.base.tups b xs q) nofun,λb o u q =>?_,λb ps q =>?_⟩,I.loc,I.cell,no _ I.free,λx c e=>no c (I.freeC x c e),λp hp =>?_,λb u e =>?_,I.len⟩
 ·refine (ak λz=>h0 o u ?_).trans (I.base.frzs b o u q)
  rw[<- z];exact q
 ·obtain ⟨mo,e⟩:=I.base.tbls b ps q
  exact ⟨mo,go b _ e nofun⟩
 ·obtain ⟨e,n,r⟩:=I.pin p hp
  exact ⟨e,no _ n,r⟩
 by_cases hb:b=d
 ·subst hb
  rw[ae] at e
  cases e
  exact st _ _ (show aX X.prog X.w H s.heap b (.frz ob (.dT kvs)) from I.hok b _ hd).2
 ·rw[ak hb] at e
  exact st _ _ (I.hok b u e)
def DO (tl:TE):TI:=λσ H R=>tl σ H λx H1=>∃d kvs,x = .ref d/\H1 d=some (.dT kvs)/\∀ob,R (Itk d ob kvs) (upd H1 d (.frz ob (.dT kvs)))
theorem yQ {X:Cx}{tg l:Expr}{tl:TE}(hl:PE X l tl):PI X tg l (DO tl):=by
 intro pins s σ H R I h
 refine thn (hl pins s σ H _ I h) λv s1 p1 =>?_
 obtain ⟨_,H1,I1,r1,d,kvs,rfl,hd,q⟩:=p1
 cases r1
 obtain ⟨_,hsys,xs,rel,ob,es,ep,ho,hc,hda,he,_⟩:=yw I1.hok hd
 have I2:=I1.AU hd ho
 refine Kys.AR hsys ⟨ob,ho,hc,hda⟩ ⟨s1.heap.objs.size,[s1.heap.objs.size],_,_,_,rfl,I2.kept (t':=s1.toks) λb o e=>DZ _ e,tV d _ hc hda ?_,Ed _ rfl,λb hb =>?_,q ob⟩
 ·rw[size_of_entries he,G4 rel]
 obtain rfl:b=s1.heap.objs.size:=by simpa using hb
 exact I2.v5 (D6 _) (I2.hok.fresh (D6 _))
theorem w5 {d:Addr}{ob:Obj}{kvs:List (List Key×V)}{g:TG}{tb:TS}{D:Ends}{σ:St}{H:Hp}(Pv:Nat->St->Hp->Prop)(h0:Pv 0 σ H)(hl:∀i σ H,i<=kvs.length->Pv i σ H->H d=some (.frz ob (.dT kvs)))
  (hs:∀i b kv σ H,kvs[i]? = some kv->H b=some (.tup (kv.1.map kV))->Pv i σ H->g (.ref b) σ H λσ2 H2=>tb { D with nx:=Pv (i+1),ct:=Pv (i+1),bk:=D.nx } σ2 H2) (hd:∀σ H,Pv kvs.length σ H->D.nx σ H) :
  ∃W:Nat->Nat->St->Hp->Prop,(∃m,W 0 m σ H)/\∀i m σ H,W i m σ H →
   ((Itk d ob kvs).stop i H/\D.nx σ H)\/((Itk d ob kvs).go i H/\∃N:St->Hp->Prop,(∀σ' H',N σ' H'->∃m',m'<m/\W (i+1) m' σ' H')/\∀x H',(Itk d ob kvs).yld i H x H'->g x σ H' λσ2 H2=>tb { D with nx:=N,ct:=N,bk:=D.nx } σ2 H2):=by
 refine ⟨λi m σ H=>m+i=kvs.length/\Pv i σ H,⟨kvs.length,rfl,h0⟩,λi m σ H p =>?_⟩
 have q:=hl i σ H (by lia) p.2
 rcases m with _ | m
 ·obtain rfl:i=kvs.length:=by lia
  exact .inl ⟨⟨q,D6 _⟩,hd σ H p.2⟩
 ·refine .inr ⟨⟨q,by lia⟩,Pv (i+1),λσ' H' p'=>⟨m,G1 m,by lia,p'⟩,λx H' y =>?_⟩
  obtain ⟨rfl,b,kv,hk,rfl,hb⟩:=y
  exact hs i b kv σ _ hk hb p.2
def DP (X:Cx)(t:TS):TS:=λD σ H=>t { D with nx:=λσ1 H1=>∃d ob kvs,H1 d=some (.frz ob (.dT kvs))/\X.H₀ d=some (.dT kvs)/\D.nx σ1 (upd H1 d (.dT kvs)) } σ H
theorem AV {X:Cx}{st:Stmt}{t:TS}(h:PS X st t):PS X st (DP X t):=λpins s σ H D I q=>thn (h pins s σ H _ I q) λf s1 z=>by
 cases f with
 | next =>
  obtain ⟨σ1,H1,I1,d,ob,kvs,e,e0,z⟩:=z
  exact ⟨σ1,_,I1.DN e (λo u y=>by rw[e0] at y;cases y),z⟩
 | brk=>exact z
 | cont=>exact z
 | ret u=>exact z
def CF (tk tv:TE):TE:=λσ H Q=>∀p,H p=none->tk σ (upd H p (.dT [])) λx H1=>tv σ H1 λy H2=>H2 p=some (.dT [])/\∃b k,x = .ref b/\H2 b=some (.tup (k.map kV))/\Q (.ref p) (upd H2 p (.dT [(k,y)]))
theorem yR {X:Cx}{pos:Pos}{k v:Expr}{tk tv:TE}(hu:X.A.units+1<cLine)(hk:PE X k tk)(hv:PE X v tv):PE X (.Dict [some k] [v] pos) (CF tk tv):=by
 intro pins s σ H Q I q
 have I1:=I.laid (a:=s.heap.objs.size) (o :=.dT []) (h':=s.heap.push { cls :=.type "dict",data :=.dict #[] }) (t':=s.toks) (λ_ _ q=>DZ _ q) (D6 _) (rn s.heap I.big)
 refine wpAny_Dict_any rfl rfl (by simp) (by simp) (thn ((rq hk hv vh) pins _ σ _ (λps H2=>match ps with
  | [(x,y)]=>H2 s.heap.objs.size=some (.dT [])/\∃b k,x = .ref b/\H2 b=some (.tup (k.map kV))/\Q (.ref s.heap.objs.size) (upd H2 s.heap.objs.size (.dT [(k,y)]))
  | _=>False) I1 (q _ (I.hok.fresh (D6 s.heap.objs.size)))) λws s2 z =>?_)
 obtain ⟨ps,H2,I2,rel,z⟩:=z
 rcases ps with _ | ⟨⟨x,y⟩,_ | ⟨_,_⟩⟩
 ·exact z.elim
 ·obtain ⟨ed,b,kk,rfl,eb,z⟩:=z
  cases rel with
  | @cons _ c _ _ h t =>
   cases t
   obtain ⟨c1,c2⟩:=c
   obtain ⟨h1,h2⟩:=h
   cases (show c1=Eu b from h1)
   obtain ⟨_,hd,xs,r0,dd⟩:=yw I2.hok ed
   cases r0
   unfold storeAll
   rw[JI]
   refine DX (DX (wpAny_dictSet_heap (hsz:=EZ _) (knd:=tupleKind (bH X.prog X.w)) (show X.A.units<cLine by lia) (jV I2.hok eb) dd λh' dd' hs=>D3 ?_))
   dsimp only
   rw[LF]
   obtain ⟨q,es,ep,hq,h3,h4,h5,_,h6⟩:=dd'
   have new:aX X.prog X.w (upd H2 s.heap.objs.size (.dT [(kk,y)])) h' s.heap.objs.size (.dT [(kk,y)]):=by
    refine ⟨by show 1<=Ei;decide,hd,_,(KT.put (H:=H2) (kvs:=[]) Paired.nil kk eb h2).keeps λc ys ec =>?_,q,es,ep,hq,h3,h4,h5,h6⟩
    rw[ak (cZ ec ed (λz=>nomatch z))]
    exact ec
   exact D3 ⟨.ref s.heap.objs.size,_,k8 I2 (by rw[ed];exact True.intro) hs ⟨q,hq⟩ new,rfl,z⟩
 ·exact z.elim
end L2
namespace L2.MnT
open PySem PyProof.Rows
section
variable  {prog:Eo}{w:ES}{A:Fi}{E:D1->D5->Prop}{I:Addr}{fp wr:List Addr}{n:Nat}{P:Nat->D1->Prop}{St:Nat->Heap->Prop}
theorem AW {R:Result->D5->Prop}{ts:List (Addr×List Int)}{kw:List (Str×D1)}(hn:n≠0)(W:Walks prog w A.in1 I fp wr n P St)(hI:∀k h,St k h->∀t∈ts,TI h t)(hP:∀i v,P i v->∃t,ts[i]? = some t/\v = .ref t.1)(hz:∀t∈ts,t.2.length<2 ^ 63){S:Addr}(nS:S∉fp){s:D5}{c:Nat}(st:St 0 s.heap)(bg:Bag S #[] c s.heap)
  (hR:∀t h' tk,ts[argBest (fe ts) (n-1)]? = some t->Kept wr S s.heap h'->R (.ok (.ret (.ref t.1))) { s with heap:=h',toks:=tk }):Jb (EF prog w) A (.builtin "min.loop" ⟨[.ref I,.builtin "len",.ref S],kw⟩) R s:=by
 have nw:S∉wr:=λh=>nS (W.sub _ h)
 have nm:(toString "min" ++ toString ".loop" : String) = "min.loop" := by decide
 refine E6 GK ?_
 rw[EY Fg _]
 show Es _ _ (seqItems? (.ref S) >>= _) _ _ s
 refine DX (FG bg rfl ?_)
 show Es _ _ (tryCatch (pyNext (.ref I)) _ >>= _) _ _ s
 refine DX (GU (W.item 0 s _ _ (by lia) st λv h1 tk pv st1 kp =>?_))
 obtain ⟨u,eu,rfl⟩:=hP _ _ pv
 have bg1:=kp S _ nw bg
 show Es _ _ (tryCatch (Jv [Eu u.1] (call (.builtin "len") [.ref u.1])) _ >>= _) _ _ _
 refine DX (GU (Fe (yP (hI _ _ st1 u (Eb eu)) (hz u (Eb eu)) λtu tk2 =>?_)))
 show Es _ _ (updateSeq S (λ_ => #[.ref u.1,.int u.2.length tu]) >>= _) _ _ _
 refine DX ?_
 refine Gb bg1 rfl ?_
 rw[nm]
 refine D3 ⟨FV Fg _,DM W hI hP hz nS (n-1) 0 _ u tu _ (by lia) (W.frame _ _ _ st1 λb fb o eb =>?_) eu (Fj _ bg1 rfl) λt2 h2 tk2 p2 k2=>hR t2 h2 tk2 p2 λb o nb ns eb=>k2 b o nb ns ?_⟩
 ·exact (EG _ _ (λz:S=b=>nS (z ▸ fb))).trans eb
 ·exact (EG _ _ (F8 ns)).trans (kp b o nb eb)
theorem tW (a f:D1):argsOk "min" ⟨[a],[("key",f)]⟩:=by unfold argsOk;kernel_rfl
theorem CG {s:D5}{l:Addr}{its:Array D1}{ts:List (Addr×List Int)}{Q:D1->D5->Prop}(hn:its.size≠0)(hh:A.handled=none)(hl:s.heap.IsList l its)(hT:∀t∈ts,TI s.heap t)(hP:∀(i:Nat) (v:D1),its[i]? = some v->∃t,ts[i]? = some t/\v = .ref t.1)(hz:∀t∈ts,t.2.length<2 ^ 63)
  (h:∀v h' tk,(∃t,ts[argBest (fe ts) (its.size-1)]? = some t/\v = .ref t.1)->(∀b o,s.heap.get? b=some o->h'.get? b=some o)->Q v { s with heap:=h',toks:=tk }) :
  Es (EF prog w) A (call (.builtin "min") [.ref l] [("key",.builtin "len")]) Q E s:=by
 have nm:(toString "min" ++ toString ".loop" : String) = "min.loop" := by decide
 have hlt:∀t∈ts,t.1<s.heap.objs.size:=λt ht=>by
  obtain ⟨_,⟨o,ho,_⟩,_⟩:=hT t ht
  exact Ej ho
 have hpl:l<s.heap.objs.size:=by obtain ⟨_,e,_⟩:=hl;exact Ej e
 refine Lq (Hs PySem.F.plain_min PySem.F.entry_min ?_)
 have hg:Es (EF prog w) A.in1 (Builtin.«min» ⟨[.ref l],[("key",.builtin "len")]⟩) (λfin s'=>match fin with
   | .done f=>(match (Except.ok f:Result) with | .ok (.ret v)=>Q v s' | .ok _=>False | .error e=>E e s')
   | .again c'=>c'.quiet=true/\Jb (EF prog w) A c' (λr s'=>match r with | .ok (.ret v)=>Q v s' | .ok _=>False | .error e=>E e s') s') E s:=by
  show Es _ A.in1 (Builtin.Builtins.bindParams "min" ["key", "default"] 0 ⟨[],[("key",.builtin "len")]⟩ >>= _) _ _ s
  refine DX (KA (a:=[some (.builtin "len"),none]) rfl ?_)
  refine DX (D3 ?_)
  refine DX (G7 hl ?_)
  refine DX (Fq ?_)
  have W:=more (Mp (prog:=prog) (w:=w) (A:=A.in1) hh s.heap.objs.size l (Ey hpl) its) ts (λt ht hm=>by
   have:=hlt t ht
   rw[Ef.mp hm] at this
   exact Fu _ this)
  rw[nm]
  refine D3 ⟨FV Fg _,AW hn W (λk h x=>x.2) hP hz ?_ ⟨⟨⟨_,DZ _ (Ed _ rfl),rfl,rfl⟩,(hl.push _).push _⟩,λt ht=>(hT t ht).at λo e=>DZ _ (DZ _ e)⟩ (Ed _ rfl) λt h' tk ht kp =>?_⟩
  ·intro hm
   rw[Gd] at hm
   rcases Eh.mp hm with hm | hm
   ·rcases EB.mp hm with e | hm
    ·exact Nat.succ_ne_self _ e
    ·have:=Ef.mp hm
     rw[<- this] at hpl
     exact Fu _ (Hv hpl)
   ·obtain ⟨t,ht,e⟩:=EK.mp hm
    have:=hlt t ht
    rw[e] at this
    exact Fu _ (Hv this)
  ·refine h _ h' tk ⟨t,ht,rfl⟩ λb o e=>kp b o (λhm =>?_) (λz =>?_) (DZ _ (DZ _ e))
   ·have:=Ej e
    rw[Ef.mp hm] at this
    exact Fu _ this
   ·have:=Ej e
    rw[z,Gd] at this
    exact Fu _ (Hv this)
 simp only[checkBuiltinCall,PySem.F.kind_min]
 cases hsig:Manifest.signature? "min" with
 | none=>exact D3 hg
 | some sig =>
  have ha':Bind.checkArgs "min" sig ⟨[.ref l],[("key",.builtin "len")]⟩=pure ():=by simpa only[argsOk,hsig] using tW (.ref l) (.builtin "len")
  simp only[ha']
  exact D3 hg
end
end L2.MnT
namespace L2
open PySem PySem.Spec PyProof.Rows
section
variable  {X:Cx}
def yS (K:D2)(te:TE):TE:=λσ H Q=>te σ H λx H1=>∃(p:Addr) (ts:List (Addr×List Int)),[x]=[.ref p]/\SqL K H1 p (ts.map λt =>.ref t.1)/\(∀t∈ts,SqT K H1 t.1 (t.2.map V.int))/\ts≠[]/\∀t∈ts,(∀u∈ts,t.2.length<=u.2.length)->Q (.ref t.1) H1
theorem tX {e:Expr}{te:TE}{p p2 pos kpos:Pos}(hc:X.calm=true)(hg:Gl X "min")(hm:X.mg "min" = none)(hg2:Gl X "len")(hm2:X.mg "len" = none)(hv:Fx "min" = some (.builtin "min"))(he:PE X e te)
    (hs:E5 (e :: []) X.env=(false,eval e X.env) :: E5 [] X.env:=by rfl)
    (ha:Ig pos (E5 (e :: []) X.env)=(false,eval e X.env) :: Ig pos (E5 [] X.env):=by rfl)
    (hplain:(Ig pos (E5 (e :: []) X.env)).any (·.1)=false:=by rfl) :
    PE X (.Call (.Name "min" p) [e] [⟨some "key",.Name "len" p2,kpos⟩] pos) (yS X.K te):=by
  intro pins s σ H Q I h
  refine Ho (fB I hg hm hv ?_)
  refine Kp (thn ((aa he af hs) pos pins s σ H (λvs H1=>∃(p:Addr) (ts:List (Addr×List Int)),vs=[.ref p]/\SqL X.K H1 p (ts.map λt:Addr×List Int=>V.ref t.1)/\(∀t∈ts,SqT X.K H1 t.1 (t.2.map V.int))/\ts≠[]/\∀t∈ts,(∀u∈ts,t.2.length<=u.2.length)->Q (.ref t.1) H1) I h) λus s1 ⟨vs,H1,I1,r1,q1⟩ =>?_) ha hplain rfl rfl
  show Es _ _ (evalAll ((do let v ← eval (.Name "len" p2) X.env;standAt pos;pure v) :: [])) _ _ s1
  refine Mo (DX (fB I1 hg2 hm2 FQ (DX (JD (D3 (MD ?_))))))
  show Es _ _ (call (.builtin "min") us [("key",.builtin "len")]) _ _ s1
  obtain ⟨a,ts,rfl,hq,ht,ne,q⟩:=q1
  obtain ⟨u,rfl,ru⟩:=vals1 r1
  cases (show u=Eu a from ru)
  obtain ⟨its,rv,p1,_⟩:=I1.list hq
  have ll:=rv.length
  rw[DY] at ll
  refine MnT.CG (ts:=ts) (by rw[D4, <- ll];exact λz=>ne (HI.mp z)) (I1.ok.hd hc) p1.isList (λt h' =>?_) (λi v hv =>?_) (λt h' =>?_) λv h' tk hv k =>?_
  · obtain ⟨i2,r2,p2,_⟩:=I1.tuple (ht t h')
    exact ⟨_,p2,intsAre_of r2⟩
  · rw[Fd] at hv
    have hi:i<ts.length:=by rw[ll];exact (Ea.mp hv).1
    have e1:(ts.map λt=>V.ref t.1)[i]? = some (.ref ts[i].1):=by rw[En,Ec hi];rfl
    obtain ⟨w',ew,rw'⟩:=rv.get e1
    rw[ew] at hv
    exact ⟨ts[i],Ec hi,(E1 hv).symm.trans rw'⟩
  · obtain ⟨i2,r2,p2,z2⟩:=I1.tuple (ht t h')
    rw[DY,Ic] at z2
    lia
  · rw[D4, <- ll] at hv
    obtain ⟨t,et,rfl⟩:=hv
    · refine ⟨.ref t.1,H1,I1.kept k,rfl,q t (Eb et) λu hu =>?_⟩
      obtain ⟨i,hi,eu⟩:=Hb hu
      have:=MnT.Bx (λi=>(ts.getD i (0,[])).2.length) (ts.length-1) i (by lia)
      rw[Ew,Ew,et,Ec hi,eu] at this
      exact this
end
def bG (K:D2)(x:Str)(st:Stmt):Prop:=∃(f:Addr) (od an:Option Addr) (sl:Array (Option D1)) (oc kV dc pm cd ct:D1),E7 K EJ x=some (some (.ref f))/\K.lookup f=some ⟨oc,od,.func (PySem.W.fnOf x x (dI st) (bK st) (ao st) .none kV dc pm an cd ct),sl⟩/\PySem.W.codeIn K cd x=true/\PySem.W.keepIn K (.ref f)=true
theorem bG.mk {K:D2}{x:Str}{st:Stmt}{f:Addr}{od an:Option Addr}{sl:Array (Option D1)}{oc kV dc pm cd ct:D1}(a:E7 K EJ x=some (some (.ref f)))(l:K.lookup f=some ⟨oc,od,.func (PySem.W.fnOf x x (dI st) (bK st) (ao st) .none kV dc pm an cd ct),sl⟩)(c:PySem.W.codeIn K cd x=true)(k:PySem.W.keepIn K (.ref f)=true):bG K x st:=⟨_,_,_,_,_,_,_,_,_,_,a,l,c,k⟩
theorem bG.cal {K:D2}{x:Str}{st:Stmt}(hf:bG K x st)(P:Eo)(w:ES)(base:Heap){h:Heap}{mg:Str->Option D1}(X:K.In h)(G:h.Ns EJ mg){lv:Nat}{ps:List Str}{sp:Sp}(ok:∀{f:Addr} {fd:Fb},Fun K x x st f fd->bB P w K mg base CX0 lv f fd ps sp)
  (hb:∀(kV doc pm:D1) (an:Option Addr) (cdv ct:D1) (us:List D1),us.length=ps.length->bindArgs (PySem.W.fnOf x x (dI st) (bK st) (ao st) .none kV doc pm an cdv ct) ⟨us,[]⟩=pure (ps.zip us)):Cal P w K mg base lv x ps sp:=by
 obtain ⟨f,od,an,sl,oc,kV,dc,pm,cd,ct,a,l,c,k⟩:=hf
 have F:=sV l c k
 exact ⟨_,_,ok F,FT X G a,k,F.binds hb⟩
theorem bG.tY {K:D2}{x:Str}{st:Stmt}(hf:bG K x st)(P:Eo)(w:ES)(base:Heap){h:Heap}{mg:Str->Option D1}(X:K.In h)(G:h.Ns EJ mg){lv:Nat}{ps:List Str}{sp:Sp}(ok:∀{f:Addr} {fd:Fb},Fun K x x st f fd->bB P w K mg base (CX1 P w) lv f fd ps sp)
  (hb:∀(kV doc pm:D1) (an:Option Addr) (cdv ct:D1) (us:List D1),us.length=ps.length->bindArgs (PySem.W.fnOf x x (dI st) (bK st) (ao st) .none kV doc pm an cdv ct) ⟨us,[]⟩=pure (ps.zip us)):iJ P w K mg base lv x ps sp:=by
 obtain ⟨f,od,an,sl,oc,kV,dc,pm,cd,ct,a,l,c,k⟩:=hf
 have F:=sV l c k
 exact ⟨_,_,ok F,FT X G a,k,F.binds hb⟩
end L2
namespace K43
open PySem L2
abbrev LAz:=List (Addr×List Int)
variable  {P:Eo}{w:ES}{K:D2}{mg:Str->Option D1}{base:Heap}{f T:Addr}{fd:Fb}
def top (i:Nat):Stmt:=PySem.Challenge.pw_ringfell_k43_three_ties_looked_for.main.body.getD i (.Pass ⟨0,0,0,0⟩)
abbrev vn:Stmt:=top 14
abbrev my:Stmt:=top 15
abbrev kF:Stmt:=top 16
abbrev jX:Stmt:=top 17
abbrev mz:Stmt:=top 18
abbrev vo:Stmt:=top 19
abbrev js:Stmt:=top 20
abbrev iB:Stmt:=top 21
abbrev mB:Stmt:=top 22
abbrev iK:Stmt:=top 24
abbrev mC:Stmt:=top 25
abbrev iL:Stmt:=top 28
abbrev iM:Stmt:=top 29
abbrev kG:Stmt:=top 30
abbrev iN:Stmt:=top 31
abbrev mD:Stmt:=top 32
abbrev eN:Stmt:=top 33
abbrev fQ:Stmt:=top 34
abbrev mE:Stmt:=top 35
abbrev mF:Stmt:=top 36
abbrev fR:Stmt:=top 37
abbrev eO:Stmt:=top 38
abbrev fS:Stmt:=top 39
abbrev cq:Stmt:=top 40
abbrev jY:Stmt:=top 41
abbrev yT:Stmt:=top 43
abbrev yU:Stmt:=top 44
abbrev rJ:Stmt:=top 45
abbrev rK:Stmt:=top 46
abbrev vp:Stmt:=top 47
abbrev mG:Stmt:=top 48
abbrev mH:Stmt:=top 49
abbrev mI:Stmt:=top 50
abbrev qg:Stmt:=top 51
abbrev mJ:Stmt:=top 52
abbrev iO:Stmt:=top 53
abbrev yV:Stmt:=top 54
abbrev yW:Stmt:=top 55
abbrev tZ:Stmt:=top 56
abbrev rL:Stmt:=top 57
structure Blt (mg:Str->Option D1):Prop where
 b_all:mg "all" = none
 b_any:mg "any" = none
 b_isinstance:mg "isinstance" = none
 b_len:mg "len" = none
 b_list:mg "list" = none
 b_max:mg "max" = none
 b_min:mg "min" = none
 b_range:mg "range" = none
 b_set:mg "set" = none
 b_sorted:mg "sorted" = none
 b_sum:mg "sum" = none
 b_tuple:mg "tuple" = none
 b_zip:mg "zip" = none
 b_ValueError:mg "ValueError" = none
theorem t8:Fx "all" = some (.builtin "all"):=by decide +kernel
theorem CH:Fx "any" = some (.builtin "any"):=by decide +kernel
theorem aO:Fx "isinstance" = some (.builtin "isinstance"):=by decide +kernel
theorem mK:Fx "len" = some (.builtin "len"):=by decide +kernel
theorem vq:Fx "list" = some (.type "list"):=by decide +kernel
theorem t9:Fx "max" = some (.builtin "max"):=by decide +kernel
theorem mL:Fx "min" = some (.builtin "min"):=by decide +kernel
theorem gJ:Fx "range" = some (.type "range"):=by decide +kernel
theorem cw:Fx "sorted" = some (.builtin "sorted"):=by decide +kernel
theorem yX:Fx "sum" = some (.builtin "sum"):=by decide +kernel
theorem gK:Fx "tuple" = some (.type "tuple"):=by decide +kernel
theorem nN:Fx "ValueError" = some (.type "ValueError"):=by decide +kernel
structure Cst (mg:Str->Option D1):Prop where
 ča:∃t,mg "MOST_THREES" = some (.int 8 t)
abbrev sAt:Stmt:=vn
abbrev yY:Stmt:=my
abbrev DQ:Stmt:=vo
abbrev yZ:Stmt:=js
abbrev By:Stmt:=iB
abbrev y3:Stmt:=mB
abbrev vt:Stmt:=kF
abbrev y6:Stmt:=kG
abbrev vv:Stmt:=yT
abbrev Bz:Stmt:=yU
abbrev vw:Stmt:=rJ
abbrev qh:Stmt:=rK
abbrev uc:Stmt:=vp
abbrev ic:Stmt:=mI
section
variable  {P:Eo}{w:ES}{K:D2}{mg:Str->Option D1}{base:Heap}{f:Addr}{fd:Fb}
end
structure Wb (H:Hp)(r:Addr)(m:Int)(ts:LAz):Prop where
 at':∃t,H r=some (.tup [.int m,.ref t])/\H t=some (.tup (ts.map λu =>.ref u.1))
 tup:∀u∈ts,H u.1=some (.tup (u.2.map V.int))
 pr:∀u∈ts,∃a b:Int,u.2=[a,b]/\0<=a/\a<=b/\b<m
 len:ts.length<=200
theorem Wb.tp {H H':Hp}{r:Addr}{m:Int}{ts:LAz}(h:Wb H r m ts)(t:Tp H H'):Wb H' r m ts :=
 let ⟨p,e1,e2⟩:=h.at'
 ⟨⟨p,t _ _ e1,t _ _ e2⟩,λu hu=>t _ _ (h.tup u hu),h.pr,h.len⟩
theorem Wb.same {H H':Hp}{r:Addr}{m:Int}{ts:LAz}(h:Wb H r m ts)(s:ax H H'):Wb H' r m ts:=h.tp s.tp
theorem item {ts:LAz}{i:Nat}{x:V}(e:(ts.map λt:Addr×List Int=>V.ref t.1)[i]? = some x):∃u,ts[i]? = some u/\x = .ref u.1:=by
 rw[En] at e
 cases z:ts[i]? with
 | none=>rw[z] at e;cases e
 | some tt=>rw[z] at e;exact ⟨tt,rfl,(E1 e).symm⟩
theorem take_snoc {α β:Type}{f:α -> β}{l:List α}{i:Nat}{x:α}(e:l[i]? = some x):(l.take (i+1)).map f=(l.take i).map f++[f x]:=by
 rw[E4,e,Ee];rfl
def b8 (ns:List (List Int))(k:Int):Int:=(ns.map λp=>(p.count k:Int)).sum
abbrev BA:Sp:=λvs H Q _=>∃(r:Addr) (m k:Int) (ts:LAz),vs=[.ref r,.int k]/\Wb H r m ts/\∀H',ax H H'->Q (.int (b8 (ts.map (·.2)) k)) H'
@[irreducible] def AX:Sp:=BA
theorem mM {vs:List V}{H:Hp}{Q:VK}{E:XK}:AX vs H Q E↔BA vs H Q E:=by
 delta AX
 exact FU
def both (ps:List Int)(p:List Int):Bool:=decide (p.getD 0 0∈ps) && decide (p.getD 1 0∈ps)
abbrev oT:Sp:=λvs H Q _=>∃(r p:Addr) (m:Int) (ts:LAz) (ps:List Int),vs=[.ref r,.ref p]/\Wb H r m ts/\(H p=some (.lst (ps.map V.int))\/H p=some (.tup (ps.map V.int)))/\∀H',ax H H'->Q (.int (((ts.map (·.2)).filter (both ps)).length:Nat)) H'
@[irreducible] def dC:Sp:=oT
theorem bN {vs:List V}{H:Hp}{Q:VK}{E:XK}:dC vs H Q E↔oT vs H Q E:=by
 delta dC
 exact FU
theorem aU (ps:List Int):(ps.map V.int).all ja=true:=by
 rw[Nj,Gv]
 intro x _
 rfl
theorem bj (k:Int):∀ps:List Int,inV (.int k) (ps.map V.int)=decide (k∈ps)
 | []=>by simp[inV]
 | p :: ps=>by
  have ih:=bj k ps
  unfold inV at ih ⊢
  rw[Ez,IQ,ih]
  have e:eqV (.int p) (.int k)=(p == k):=rfl
  rw[e]
  by_cases h:p=k
  ·subst h;simp
  ·rw[beq_eq_false_iff_ne.mpr h,Nh]
   apply decide_eq_decide.mpr
   rw[EB]
   exact ⟨.inr,λx=>x.elim (λy=>absurd y.symm h) id⟩
section
variable  {P:Eo}{w:ES}{K:D2}{mg:Str->Option D1}{base:Heap}{f:Addr}{fd:Fb}
theorem ndTP:(["tie", "place"]:List Str).Nodup:=by decide +kernel
theorem y7:(["tie", "places"]:List Str).Nodup:=by decide +kernel
theorem scAt:aB ["web", "place"] ["web", "place"] (ao sAt):=⟨rfl,rfl,rfl,by decide +kernel,rfl,by decide +kernel,by decide +kernel⟩
theorem okAt (F:Fun K "ties_at" "ties_at" sAt f fd)(ms:mg "sum" = none):bB P w K mg base CX0 1 f fd ["web", "place"] AX:=by
 refine F.ok scAt (λvs H Q E h =>?_) (λcdv A outer s H vs Q E hr h =>?_)
 ·obtain ⟨a,b,c,d,rfl,_⟩:=mM.mp h
  rfl
 obtain ⟨r,m,k,ts,rfl,W,q⟩:=mM.mp h
 obtain ⟨t,e1,e2⟩:=W.at'
 refine ⟨_,aj (aJ (av (q9 hr.hd) rfl ms yX (aa (bI ["tie", "place"] [none,some 1] rfl (cV (aD aG (pv 0) ai (λ_ _=>rfl))) rfl (λ_ _ _ _ _=>ay (i:=0) ndTP rfl (Or.inl rfl)) (λ_ _ _ _ _=>cF)
  (λ_ _ _ _ _=>Cq Kn PySem.F.type_tuple_count wN (pv 0) (aa (pv 1) af))) af))),?_⟩
 refine ⟨_,rfl,r,_,1,_,rfl,rfl,SqT.of e1,rfl,t,rfl,⟨_,SqT.of e2⟩,bF (xs:=ts.map λu =>.ref u.1) (λi ys H'=>H'=H/\ys=((ts.take i).map λu=>(u.2.count k:Int)).map V.int) ⟨rfl,rfl⟩ (by rw[DY];exact small (by have:=W.len;lia)) (λi ys H' _ z=>by rw[z.1];exact SqT.of e2) ?_ ?_⟩
 ·rintro i x ys H3 hx hy ⟨rfl,rfl⟩ R1 R0 r1 r0
  obtain ⟨u,eu,rfl⟩:=item hx
  have hu:=W.tup u (Eb eu)
  refine aS ⟨_,rfl,⟨_,_,rfl,hu⟩,_,rfl,u.1,u.2,k,rfl,rfl,hu,r1 _ _ ⟨rfl,?_⟩⟩
  rw[take_snoc (f:=λu:Addr×List Int=>(u.2.count k:Int)) eu,Ee]
  rfl
 ·rintro ys H3 hy ⟨rfl,rfl⟩ l hl
  rw[DY,Et (D6 _)]
  refine ⟨l,_,rfl,ae,?_⟩
  have:=q _ (ag hl (.lst ((ts.map λu=>(u.2.count k:Int)).map V.int)))
  unfold b8 at this
  rw[G6] at this
  exact this
theorem y8:aB ["web", "places"] ["web", "places"] (ao vt):=⟨rfl,rfl,rfl,by decide +kernel,rfl,by decide +kernel,by decide +kernel⟩
theorem y9 (F:Fun K "ties_within" "ties_within" vt f fd)(B:Blt mg):bB P w K mg base CX0 1 f fd ["web", "places"] dC:=by
 refine F.ok y8 (λvs H Q E h =>?_) (λcdv A outer s H vs Q E hr h =>?_)
 ·obtain ⟨a,b,c,d,e,rfl,_⟩:=bN.mp h
  rfl
 obtain ⟨r,p,m,ts,ps,rfl,W,hp,q⟩:=bN.mp h
 obtain ⟨t,e1,e2⟩:=W.at'
 refine ⟨_,aj (aJ (av aL rfl B.b_len FQ (aa (bI ["tie", "places"] [none,some 1] rfl (cV (aD aG (pv 0) ai (λ_ _=>rfl))) rfl (λ_ _ _ _ _=>ay (i:=0) y7 rfl (Or.inl rfl))
  (λ_ _ _ _ _=>da (PW.pt (c9 (az (gC (K:=K)) (aD (dM (K:=K)) (pv 0) ai (λ_ _=>rfl)) (pv 1) rfl) (cj (az (gC (K:=K)) (aD (dM (K:=K)) (pv 0) ai (λ_ _=>rfl)) (pv 1) rfl)))))
  (λ_ _ _ _ _=>pv 0)) af))),?_⟩
 have sq:∀{H':Hp},H'=H->SqL K H' p (ps.map V.int)\/SqT K H' p (ps.map V.int):=λe=>by
  rw[e]
  rcases hp with z | z
  ·exact .inl (SqL.of z)
  ·exact .inr (SqT.of z)
 refine ⟨_,rfl,r,_,1,_,rfl,rfl,SqT.of e1,rfl,t,rfl,⟨_,SqT.of e2⟩,bF (xs:=ts.map λu =>.ref u.1) (λi ys H'=>H'=H/\ys.length=(((ts.take i).map (·.2)).filter (both ps)).length) ⟨rfl,rfl⟩ (by rw[DY];exact small (by have:=W.len;lia)) (λi ys H' _ z=>by rw[z.1];exact SqT.of e2) ?_ ?_⟩
 ·rintro i x ys H3 hx hy ⟨rfl,ey⟩ R1 R0 r1 r0
  obtain ⟨u,eu,rfl⟩:=item hx
  have hu:=W.tup u (Eb eu)
  obtain ⟨a,b,e3,_⟩:=W.pr u (Eb eu)
  rw[e3] at hu
  have bb:both ps u.2=(decide (a∈ps) && decide (b∈ps)):=by rw[e3];rfl
  have g1:both ps u.2=true->R1 (.ref u.1) H3:=λec=>by
   refine r1 _ _ ⟨rfl,?_⟩
   rw[take_snoc (f:=λu:Addr×List Int=>u.2) eu,F4,D7,D7,ey,Gf ec]
   rfl
  have g0:both ps u.2=false->R0 H3:=λec=>by
   refine r0 _ ⟨rfl,?_⟩
   rw[take_snoc (f:=λu:Addr×List Int=>u.2) eu,F4,D7,ey,Gg (by rw[ec];exact Ek)]
   rfl
  refine ⟨_,rfl,u.1,_,0,_,rfl,rfl,SqT.of hu,rfl,_,rfl,p,_,rfl,sq rfl,rfl,aU ps,_,rfl,?_⟩
  show if (if false=true then _ else inV (.int a) (ps.map V.int))=true then _ else _
  rw[if_neg Ek,bj]
  by_cases ha:a∈ps
  ·rw[decide_eq_true ha] at bb ⊢
   refine aS ⟨_,rfl,u.1,_,1,_,rfl,rfl,SqT.of hu,rfl,_,rfl,p,_,rfl,sq rfl,rfl,aU ps,_,rfl,?_⟩
   show if (if false=true then _ else inV (.int b) (ps.map V.int))=true then _ else _
   rw[if_neg Ek,bj]
   by_cases hb:b∈ps
   ·rw[decide_eq_true hb] at bb ⊢
    exact aS ⟨_,rfl,g1 bb⟩
   ·rw[decide_eq_false hb] at bb ⊢
    exact aF (g0 bb)
  ·rw[decide_eq_false ha] at bb ⊢
   exact aF (aF (g0 bb))
 ·rintro ys H3 hy ⟨rfl,ey⟩ l hl
  rw[DY,Et (D6 _)] at ey
  refine ⟨l,_,rfl,.inl (SqL.of ae),?_⟩
  rw[ey]
  exact q _ (ag hl _)
theorem w6:aB ["web", "places"] ["web", "places"] (ao mG):=⟨rfl,rfl,rfl,by decide +kernel,rfl,by decide +kernel,by decide +kernel⟩
theorem w9 (F:Fun K "_law_within" "_law_within" mG f fd)(B:Blt mg):bB P w K mg base CX0 1 f fd ["web", "places"] dC:=by
 refine F.ok w6 (λvs H Q E h =>?_) (λcdv A outer s H vs Q E hr h =>?_)
 ·obtain ⟨a,b,c,d,e,rfl,_⟩:=bN.mp h
  rfl
 obtain ⟨r,p,m,ts,ps,rfl,W,hp,q⟩:=bN.mp h
 obtain ⟨t,e1,e2⟩:=W.at'
 refine ⟨_,aj (aJ (av aL rfl B.b_len FQ (aa (bI ["tie", "places"] [none,some 1] rfl (cV (aD aG (pv 0) ai (λ_ _=>rfl))) rfl (λ_ _ _ _ _=>ay (i:=0) y7 rfl (Or.inl rfl))
  (λ_ _ _ _ _=>da (PW.pt (c9 (az (gC (K:=K)) (aD (dM (K:=K)) (pv 0) ai (λ_ _=>rfl)) (pv 1) rfl) (cj (az (gC (K:=K)) (aD (dM (K:=K)) (pv 0) ai (λ_ _=>rfl)) (pv 1) rfl)))))
  (λ_ _ _ _ _=>pv 0)) af))),?_⟩
 have sq:∀{H':Hp},H'=H->SqL K H' p (ps.map V.int)\/SqT K H' p (ps.map V.int):=λe=>by
  rw[e]
  rcases hp with z | z
  ·exact .inl (SqL.of z)
  ·exact .inr (SqT.of z)
 refine ⟨_,rfl,r,_,1,_,rfl,rfl,SqT.of e1,rfl,t,rfl,⟨_,SqT.of e2⟩,bF (xs:=ts.map λu =>.ref u.1) (λi ys H'=>H'=H/\ys.length=(((ts.take i).map (·.2)).filter (both ps)).length) ⟨rfl,rfl⟩ (by rw[DY];exact small (by have:=W.len;lia)) (λi ys H' _ z=>by rw[z.1];exact SqT.of e2) ?_ ?_⟩
 ·rintro i x ys H3 hx hy ⟨rfl,ey⟩ R1 R0 r1 r0
  obtain ⟨u,eu,rfl⟩:=item hx
  have hu:=W.tup u (Eb eu)
  obtain ⟨a,b,e3,_⟩:=W.pr u (Eb eu)
  rw[e3] at hu
  have bb:both ps u.2=(decide (a∈ps) && decide (b∈ps)):=by rw[e3];rfl
  have g1:both ps u.2=true->R1 (.ref u.1) H3:=λec=>by
   refine r1 _ _ ⟨rfl,?_⟩
   rw[take_snoc (f:=λu:Addr×List Int=>u.2) eu,F4,D7,D7,ey,Gf ec]
   rfl
  have g0:both ps u.2=false->R0 H3:=λec=>by
   refine r0 _ ⟨rfl,?_⟩
   rw[take_snoc (f:=λu:Addr×List Int=>u.2) eu,F4,D7,ey,Gg (by rw[ec];exact Ek)]
   rfl
  refine ⟨_,rfl,u.1,_,0,_,rfl,rfl,SqT.of hu,rfl,_,rfl,p,_,rfl,sq rfl,rfl,aU ps,_,rfl,?_⟩
  show if (if false=true then _ else inV (.int a) (ps.map V.int))=true then _ else _
  rw[if_neg Ek,bj]
  by_cases ha:a∈ps
  ·rw[decide_eq_true ha] at bb ⊢
   refine aS ⟨_,rfl,u.1,_,1,_,rfl,rfl,SqT.of hu,rfl,_,rfl,p,_,rfl,sq rfl,rfl,aU ps,_,rfl,?_⟩
   show if (if false=true then _ else inV (.int b) (ps.map V.int))=true then _ else _
   rw[if_neg Ek,bj]
   by_cases hb:b∈ps
   ·rw[decide_eq_true hb] at bb ⊢
    exact aS ⟨_,rfl,g1 bb⟩
   ·rw[decide_eq_false hb] at bb ⊢
    exact aF (g0 bb)
  ·rw[decide_eq_false ha] at bb ⊢
   exact aF (aF (g0 bb))
 ·rintro ys H3 hy ⟨rfl,ey⟩ l hl
  rw[DY,Et (D6 _)] at ey
  refine ⟨l,_,rfl,.inl (SqL.of ae),?_⟩
  rw[ey]
  exact q _ (ag hl _)
end
def nb1 (p:List Int)(k:Int):List Int:=if p.getD 0 0=p.getD 1 0 then [] else if p.getD 0 0=k then [p.getD 1 0] else if p.getD 1 0=k then [p.getD 0 0] else []
theorem k9 {a b k x:Int}:x∈nb1 [a,b] k↔a≠b/\((a=k/\x=b)\/(b=k/\x=a)):=by
 show x∈(if a=b then [] else if a=k then [b] else if b=k then [a] else [])↔_
 by_cases h1:a=b
 ·rw[if_pos h1];simp[h1]
 ·rw[if_neg h1]
  by_cases h2:a=k
  ·rw[if_pos h2,Ef]
   exact ⟨λe=>⟨h1,.inl ⟨h2,e⟩⟩,λ⟨_,h⟩=>h.elim (λz=>z.2) λz=>absurd (h2.trans z.1.symm) h1⟩
  ·rw[if_neg h2]
   by_cases h3:b=k
   ·rw[if_pos h3,Ef]
    exact ⟨λe=>⟨h1,.inr ⟨h3,e⟩⟩,λ⟨_,h⟩=>h.elim (λz=>absurd z.1 h2) λz=>z.2⟩
   ·rw[if_neg h3]
    exact ⟨λh=>(by cases h),λ⟨_,h⟩=>h.elim (λz=>absurd z.1 h2) λz=>absurd z.1 h3⟩
def nbs (ns:List (List Int))(k:Int):List Int:=ns.flatMap λp=>nb1 p k
theorem dO {ns:List (List Int)}{k x:Int}:x∈nbs ns k↔∃p∈ns,x∈nb1 p k:=List.mem_flatMap
theorem oU {k:Int}:∀{ns:List (List Int)},ns.Nodup->(∀p∈ns,∃a b:Int,p=[a,b]/\a<=b)->(nbs ns k).Nodup
 | [],_,_=>by simp[nbs]
 | p :: ns,nd,h=>by
  obtain ⟨np,nd'⟩:=FC.mp nd
  have ih:=oU (k:=k) nd' λq hq=>h q (Eg _ hq)
  show (nb1 p k++nbs ns k).Nodup
  rw[Hz]
  refine ⟨?_,ih,λx hx y hy e =>?_⟩
  ·unfold nb1;(repeat' split) <;> simp
  ·subst e
   obtain ⟨a,b,rfl,ab⟩:=h p D8
   obtain ⟨q,hq,hy⟩:=dO.mp hy
   obtain ⟨c,d,rfl,cd⟩:=h q (Eg _ hq)
   rw[k9] at hx hy
   apply np
   obtain ⟨n1,hx⟩:=hx
   obtain ⟨n2,hy⟩:=hy
   have:a=c/\b=d:=by
    rcases hx with ⟨h1,h2⟩ | ⟨h1,h2⟩ <;> rcases hy with ⟨h3,h4⟩ | ⟨h3,h4⟩ <;> lia
   rw[this.1,this.2]
   exact hq
theorem gL {o:List Int}(h:o.Pairwise (· <= ·))(nd:o.Nodup):o.Pairwise (· < ·):=by
 have:o.Pairwise (λa b=>a<=b/\a≠b):=Nr h nd
 exact this.imp λ{a b} z=>by lia
theorem oV:∀{l m:List Int},l.Pairwise (· < ·)->m.Pairwise (· < ·)->(∀x,x∈l↔x∈m)->l=m
 | [],[],_,_,_=>rfl
 | [],b :: m,_,_,h=>by have:=(h b).mpr D8;cases this
 | a :: l,[],_,_,h=>by have:=(h a).mp D8;cases this
 | a :: l,b :: m,h1,h2,h=>by
  obtain ⟨a1,l1⟩:=GB.mp h1
  obtain ⟨b1,m1⟩:=GB.mp h2
  have e:a=b:=by
   rcases EB.mp ((h a).mp D8) with z | z
   ·exact z
   rcases EB.mp ((h b).mpr D8) with y | y
   ·exact y.symm
   have:=a1 b y
   have:=b1 a z
   lia
  subst e
  rw[oV l1 m1 λx=>⟨λhx =>?_,λhx =>?_⟩]
  ·rcases EB.mp ((h x).mp (Eg _ hx)) with z | z
   ·have:=a1 x hx;lia
   ·exact z
  ·rcases EB.mp ((h x).mpr (Eg _ hx)) with z | z
   ·have:=b1 x hx;lia
   ·exact z
structure Rows (H2 H':Hp)(as:List Addr)(vs:List (List Int)):Prop where
 len:vs.length=as.length
 row:∀(j:Nat) a v,as[j]? = some a->vs[j]? = some v->H' a=some (.lst (v.map V.int))
 stay:∀b u,b∉as->H2 b=some u->H' b=some u
theorem Rows.push {H2 H':Hp}{as:List Addr}{vs:List (List Int)}(R:Rows H2 H' as vs)(nd:as.Nodup){j:Nat}{a:Addr}{v:List Int}(ea:as[j]? = some a)(ev:vs[j]? = some v)(x:Int) :
  Rows H2 (upd H' a (.lst ((v.map V.int)++[V.int x]))) as (vs.set j (v++[x])):=by
 have hj:j<vs.length:=(Ea.mp ev).1
 refine ⟨by rw[Ht];exact R.len,λi b u eb eu =>?_,λb u hb e =>?_⟩
 ·by_cases h:i=j
  ·subst h
   rw[ea] at eb;cases eb
   rw[F1 hj] at eu;cases eu
   rw[ae,Ee];rfl
  ·rw[Gk (F8 h)] at eu
   have ne:b≠a:=λz=>by
    subst z
    have hi:i<as.length:=(Ea.mp eb).1
    exact h ((List.getElem?_inj hi nd).mp (eb.trans ea.symm))
   rw[ak ne]
   exact R.row i b u eb eu
 ·have ne:b≠a:=λz=>hb (z ▸ Eb ea)
  rw[ak ne]
  exact R.stay b u hb e
def CI (vs:List (List Int))(m:Nat)(ns:List (List Int)):Prop:=vs.length=m/\∀(j:Nat) v,vs[j]? = some v->v=nbs ns (j:Int)
theorem vx (k:Int):∀ns:List (List Int),(nbs ns k).length<=ns.length
 | []=>by simp[nbs]
 | p :: ns=>by
  show (nb1 p k++nbs ns k).length<=_
  have:=vx k ns
  have h1:(nb1 p k).length<=1:=by unfold nb1;(repeat' split) <;> simp
  rw[D7,EI]
  lia
theorem rM (ns:List (List Int))(p:List Int)(k:Int):nbs (ns++[p]) k=nbs ns k++nb1 p k:=by unfold nbs;simp
abbrev rN:Sp:=λvs H Q _=>∃(r:Addr) (m:Int) (ts:LAz),vs=[.ref r]/\Wb H r m ts/\0<=m/\m<=1000/\∀(l:Addr) (H':Hp) (os:LAz),ax H H'->H' l=some (.lst (os.map λu =>.ref u.1))->os.length=m.toNat->(∀u∈os,H' u.1=some (.lst (u.2.map V.int))) →
 (∀(j:Nat) u,os[j]? = some u->u.2.Pairwise (· < ·)/\∀x,x∈u.2↔x∈nbs (ts.map (·.2)) (j:Int))->Q (.ref l) H'
@[irreducible] def lb:Sp:=rN
theorem gM {vs:List V}{H:Hp}{Q:VK}{E:XK}:lb vs H Q E↔rN vs H Q E:=by
 delta lb
 exact FU
theorem nO {X:Cx}{K:D2}(h:X.K=K:=by rfl):bZ X (.builtin "sorted") (λxs H Q=>∃(p:Addr) (ns:List Int),xs=[.ref p]/\(SqL K H p (ns.map V.int)\/SqT K H p (ns.map V.int))/\∀(l:Addr) (out:List Int),H l=none->out.Perm ns->out.Pairwise (· <= ·)->Q (.ref l) (upd H l (.lst (out.map V.int)))):=by
 subst h;exact fK
section
variable  {P:Eo}{w:ES}{K:D2}{mg:Str->Option D1}{base:Heap}{f:Addr}{fd:Fb}
theorem ndPl:(["place"]:List Str).Nodup:=by decide +kernel
theorem ndRo:(["row"]:List Str).Nodup:=by decide +kernel
theorem qi:aB ["web", "near", "tie"] ["web"] (ao yY):=⟨rfl,rfl,rfl,by decide +kernel,rfl,by decide +kernel,by decide +kernel⟩
theorem AY (F:Fun K "near_lists" "near_lists" yY f fd)(mr:mg "range" = none)(mst:mg "set" = none)(mso:mg "sorted" = none):bB P w K mg base CX0 1 f fd ["web"] lb:=by
 refine F.ok qi (λvs H Q E h =>?_) (λcdv A outer s H vs Q E hr h =>?_)
 ·obtain ⟨a,b,c,rfl,_⟩:=gM.mp h
  rfl
 obtain ⟨r,m,ts,rfl,W,m0,m1,q⟩:=gM.mp h
 obtain ⟨t,e1,e2⟩:=W.at'
 refine ⟨_,ah (bO (i:=1) ["place"] [none] rfl qi.nd rfl rfl (bu rfl mr (aa (aD aG (pv 0) ai (λ_ _=>rfl)) af)) rfl (λ_ _ _ _ _=>ay (i:=0) ndPl rfl (Or.inl rfl)) (λ_ _ _ _ _=>cF) (λ_ _ _ _ _=>bR af))
  (ah (cf Fl rfl (dg (av (mh (w:=w) rfl hr.hd) rfl mso cw (aa (aQ (tR (w:=w) rfl hr.hd hr.units) rfl mst My (aa (aD aG (pv 0) ai (λ_ _=>rfl)) af)) af))) (ay (i:=2) qi.nd rfl (Or.inl rfl))
   (aj (bq (az uJ (aD aG (pv 2) ai (λ_ _=>rfl)) (aD aG (pv 2) ai (λ_ _=>rfl)) (aM _))
    (ah (bA (eC EM FN FO cK (aD ck (pv 1) (aD aG (pv 2) ai (λ_ _=>rfl)) (λ_ _=>rfl)) (aa (aD aG (pv 2) ai (λ_ _=>rfl)) af)))
    (aj (bA (eC EM FN FO cK (aD ck (pv 1) (aD aG (pv 2) ai (λ_ _=>rfl)) (λ_ _=>rfl)) (aa (aD aG (pv 2) ai (λ_ _=>rfl)) af))))) aI)))
  (aj (aJ (bI ["row"] [none] rfl (dg (pv 1)) rfl (λ_ _ _ _ _=>ay (i:=0) ndRo rfl (Or.inl rfl)) (λ_ _ _ _ _=>cF) (λ_ _ _ _ _=>av (nO (K:=K)) rfl mso cw (aa (pv 0) af)))))),?_⟩
 let W0:Nat->List V->Hp->Prop:=λi ys H'=>ax H H'/\∃as:List Addr,ys=as.map V.ref/\as.length=i/\as.Nodup/\∀a∈as,H a=none/\H' a=some (.lst [])
 refine ⟨_,rfl,r,_,0,_,rfl,rfl,SqT.of e1,rfl,m,rfl,by lia,by lia,bL (lo:=0) (n:=m.toNat) W0 ⟨ax.refl _,[],rfl,rfl,Gu,λa ha=>by cases ha⟩ (small (by lia)) ?_ ?_⟩
 ·rintro i ys H3 hi hy ⟨s3,as,rfl,la,nd,ha⟩ R1 R0 r1 r0
  refine aS ⟨(by show 0<=Ei;decide),λp hp=>r1 _ _ ⟨s3.trans (ag hp _),as++[p],by rw[Ee];rfl,by rw[D7,la];rfl,?_,λa m' =>?_⟩⟩
  ·rw[Hz]
   refine ⟨nd,FC.mpr ⟨by simp,Gu⟩,λx hx y hy e =>?_⟩
   rw[Ef] at hy
   subst hy;subst e
   rw[(ha x hx).2] at hp;cases hp
  ·rcases Eh.mp m' with z | z
   ·exact ⟨(ha a z).1,(ag hp _) _ _ (ha a z).2⟩
   ·rw[Ef] at z
    subst z
    refine ⟨?_,ae⟩
    cases e:H a with
    | none=>rfl
    | some o=>rw[s3 _ _ e] at hp;cases hp
 rintro ys H3 hy ⟨s3,as,rfl,la,nd,ha⟩ l hl
 have s1:=s3.trans (ag hl (.lst (as.map V.ref)))
 have nl:l∉as:=λz=>by rw[(ha l z).2] at hl;cases hl
 have ha1:∀a∈as,upd H3 l (.lst (as.map V.ref)) a=some (.lst []):=λa z=>(ag hl _) _ _ (ha a z).2
 have hl1:upd H3 l (.lst (as.map V.ref)) l=some (.lst (as.map V.ref)):=ae
 generalize upd H3 l (.lst (as.map V.ref))=H1 at s1 ha1 hl1
 have tsl:=W.len
 refine ⟨_,rfl,r,_,1,_,rfl,rfl,SqT.of (s1 _ _ e1),rfl,t,ts,rfl,.inr (SqT.of (s1 _ _ e2)),λu hu=>SqT.of (s1 _ _ (W.tup u hu)),by lia,λa us hna mu ndu cov hlu =>?_⟩
 have sa:=ag hna (iI w a (us.map λt =>.ref t.1))
 refine ⟨a,us,rfl,ae,λu hu=>⟨SqT.of (sa _ _ (s1 _ _ (W.tup u (mu u hu)))),λz =>?_⟩,by lia,λl2 out hl2 pm ps =>?_⟩
 ·obtain ⟨x,y,e,_⟩:=W.pr u (mu u hu)
  rw[z] at e;cases e
 have s2':=sa.trans (ag hl2 (.lst (out.map λt =>.ref t.1)))
 have s2:=s1.trans s2'
 have nl2:l2∉as:=λz=>by rw[sa _ _ (ha1 l2 z)] at hl2;cases hl2
 have h2l2:upd (upd H1 a (iI w a (us.map λt =>.ref t.1))) l2 (.lst (out.map λt =>.ref t.1)) l2=some (.lst (out.map λt =>.ref t.1)):=ae
 generalize upd (upd H1 a (iI w a (us.map λt =>.ref t.1))) l2 (.lst (out.map λt =>.ref t.1))=H2 at s2 s2' h2l2
 have old:∀{b:Addr} {o:HO},H b=some o->b∉as:=λ{b o} e z=>by rw[(ha b z).1] at e;cases e
 let W1:Nat->St->Hp->Prop:=λi σ H'=>(∃c,σ=[some (.ref r),some (.ref l),c])/\∃vs,Rows H2 H' as vs/\CI vs m.toNat ((out.take i).map (·.2))
 refine ⟨l2,rfl,⟨_,SqL.of h2l2⟩,dW (xs:=out.map λu =>.ref u.1) W1 ⟨⟨_,rfl⟩,Fc m.toNat [],⟨by rw[Jl,la],λj b v eb ev =>?_,λb u _ e=>e⟩,Jl ..,λj v ev =>?_⟩ (λi σ H' _ z =>?_) ?_ ?_⟩
 ·rw[IM] at ev
  split at ev
  ·cases ev
   exact s2' _ _ (ha1 b (Eb eb))
  ·cases ev
 ·rw[IM] at ev
  split at ev
  ·cases ev;rfl
  ·cases ev
 ·obtain ⟨_,vs,R,_⟩:=z
  exact SqL.of (R.stay l2 _ nl2 h2l2)
 ·rintro i x σ H' hx ⟨⟨c,rfl⟩,vs,R,lv,RO⟩
  obtain ⟨u,eu,rfl⟩:=item hx
  have mts:=mu u (pm.mem_iff.mp (Eb eu))
  obtain ⟨x,y,e3,x0,xy,ym⟩:=W.pr u mts
  have hu0:=W.tup u mts
  have hu':H' u.1=some (.tup [.int x,.int y]):=by
   rw[e3] at hu0
   exact R.stay _ _ (old hu0) (s2 _ _ hu0)
  have tk:(out.take (i+1)).map (·.2)=(out.take i).map (·.2)++[[x,y]]:=by rw[take_snoc (f:=λu:Addr×List Int=>u.2) eu,e3]
  obtain ⟨xn,rfl⟩:∃n:Nat,x=n:=⟨x.toNat,by lia⟩
  obtain ⟨yn,rfl⟩:∃n:Nat,y=n:=⟨y.toNat,by lia⟩
  have hlst:=R.stay l _ nl (s2' _ _ hl1)
  have axn:as[xn]? = some as[xn]:=Ec (by lia)
  have ayn:as[yn]? = some as[yn]:=Ec (by lia)
  have vxn:vs[xn]? = some vs[xn]:=Ec (by lia)
  have vyn:vs[yn]? = some vs[yn]:=Ec (by lia)
  have at1:atI (as.map V.ref) (xn:Int)=some (.ref as[xn]):=fE (by rw[En,axn];rfl)
  have at2:atI (as.map V.ref) (yn:Int)=some (.ref as[yn]):=fE (by rw[En,ayn];rfl)
  have ll:∀(j:Nat) v,vs[j]? = some v->v.length<=200:=λj v ev=>by
   rw[RO j v ev]
   refine ET (vx _ _) ?_
   rw[DY,Ff]
   have:=pm.length_eq
   lia
  refine ⟨_,rfl,u.1,_,0,_,rfl,rfl,SqT.of hu',rfl,_,rfl,u.1,_,1,_,rfl,rfl,SqT.of hu',rfl,rfl,_,rfl,?_⟩
  by_cases hxy:xn=yn
  ·subst hxy
   refine Dv rfl ⟨⟨_,rfl⟩,vs,R,lv,λj v ev =>?_⟩
   have nil:nb1 [(xn:Int),(xn:Int)] j=[]:=by unfold nb1;simp
   rw[tk,rM,nil,EN]
   exact RO j v ev
  ·have hd:decide (V.int (xn:Int)=V.int (yn:Int))=false:=decide_eq_false λz=>hxy (by injection z with z;lia)
   rw[hd]
   have rowx:=R.row xn _ _ axn vxn
   have R1:=R.push nd axn vxn (yn:Int)
   have vyn':(vs.set xn (vs[xn]++[(yn:Int)]))[yn]? = some vs[yn]:=by rw[Gk hxy];exact vyn
   have rowy:=R1.row yn _ _ ayn vyn'
   have R2:=R1.push nd ayn vyn' (xn:Int)
   have hu2:=R1.stay _ _ (old hu0) (s2 _ _ hu0)
   rw[e3] at hu2
   have hlst2:=R1.stay l _ nl (s2' _ _ hl1)
   refine aS ⟨_,rfl,_,rfl,u.1,_,0,_,rfl,rfl,SqT.of hu',rfl,l,_,(xn:Int),_,rfl,rfl,SqL.of hlst,at1,.inl ⟨rfl,_,SqL.of rowx⟩,_,rfl,u.1,_,1,_,rfl,rfl,SqT.of hu',rfl,as[xn],_,_,rfl,rfl,rowx,(by rw[DY];exact bE (by have:=ll _ _ vxn;lia)),?_⟩
   refine ⟨_,rfl,_,rfl,u.1,_,1,_,rfl,rfl,SqT.of hu2,rfl,l,_,(yn:Int),_,rfl,rfl,SqL.of hlst2,at2,.inl ⟨rfl,_,SqL.of rowy⟩,_,rfl,u.1,_,0,_,rfl,rfl,SqT.of hu2,rfl,as[yn],_,_,rfl,rfl,rowy,(by rw[DY];exact bE (by have:=ll _ _ vyn;lia)),?_⟩
   refine ⟨⟨_,rfl⟩,_,R2,by rw[Ht,Ht];exact lv,λj v ev =>?_⟩
   rw[tk,rM]
   by_cases jy:yn=j
   ·subst jy
    rw[F1 (by rw[Ht];lia)] at ev
    cases ev
    have e4:nb1 [(xn:Int),(yn:Int)] yn=[(xn:Int)]:=by
     show (if (xn:Int)=yn then [] else if (xn:Int)=yn then [(yn:Int)] else if (yn:Int)=yn then [(xn:Int)] else [])=_
     rw[if_neg (by lia),if_neg (by lia),if_pos rfl]
    rw[e4, <- RO yn _ vyn]
   ·rw[Gk jy] at ev
    by_cases jx:xn=j
    ·subst jx
     rw[F1 (by lia)] at ev
     cases ev
     have e4:nb1 [(xn:Int),(yn:Int)] xn=[(yn:Int)]:=by
      show (if (xn:Int)=yn then [] else if (xn:Int)=xn then [(yn:Int)] else if (yn:Int)=xn then [(xn:Int)] else [])=_
      rw[if_neg (by lia),if_pos rfl]
     rw[e4, <- RO xn _ vxn]
    ·rw[Gk jx] at ev
     have e4:nb1 [(xn:Int),(yn:Int)] j=[]:=by
      show (if (xn:Int)=yn then [] else if (xn:Int)=j then [(yn:Int)] else if (yn:Int)=j then [(xn:Int)] else [])=_
      rw[if_neg (by lia),if_neg (by lia),if_neg (by lia)]
     rw[e4,EN]
     exact RO j v ev
 ·rintro σ H' ⟨⟨c,rfl⟩,vs,R,lv,RO⟩
  have hlst:=R.stay l _ nl (s2' _ _ hl1)
  rw[DY,Et (D6 _)] at RO
  have sH':ax H H':=λb o e=>R.stay b o (old e) (s2 _ _ e)
  have kns:(out.map (·.2)).Nodup:=((pm.map (·.2)).nodup_iff).mpr ndu
  have mns:∀x,x∈out.map (·.2)↔x∈ts.map (·.2):=λx=>by
   rw[(pm.map (·.2)).mem_iff]
   constructor
   ·intro hx
    obtain ⟨u,hu,rfl⟩:=EK.mp hx
    exact EK.mpr ⟨u,mu u hu,rfl⟩
   ·intro hx
    obtain ⟨u,hu,rfl⟩:=EK.mp hx
    exact cov u hu
  have pns:∀p∈out.map (·.2),∃a b:Int,p=[a,b]/\a<=b:=λp hp=>by
   obtain ⟨u,hu,rfl⟩:=EK.mp ((mns p).mp hp)
   obtain ⟨a,b,e,_,ab,_⟩:=W.pr u hu
   exact ⟨a,b,e,ab⟩
  have nbm:∀k x,x∈nbs (out.map (·.2)) k↔x∈nbs (ts.map (·.2)) k:=λk x=>by
   rw[dO,dO]
   exact ⟨λ⟨p,hp,z⟩=>⟨p,(mns p).mp hp,z⟩,λ⟨p,hp,z⟩=>⟨p,(mns p).mpr hp,z⟩⟩
  let W2:Nat->List V->Hp->Prop:=λi ys H5=>ax H' H5/\∃os:LAz,ys=(os.map λu=>V.ref u.1)/\os.length=i/\(∀u∈os,H5 u.1=some (.lst (u.2.map V.int)))/\∀(j:Nat) u v,os[j]? = some u->vs[j]? = some v->u.2.Perm v/\u.2.Pairwise (· <= ·)
  refine ⟨_,rfl,l,rfl,⟨_,SqL.of hlst⟩,dX (xs:=as.map V.ref) W2 ⟨ax.refl _,[],rfl,rfl,λu hu=>(by cases hu),λj u v eu=>by simp at eu⟩ (by rw[DY];exact small (by lia)) (λi ys H5 _ z=>SqL.of (z.1 _ _ hlst)) ?_ ?_⟩
  ·rintro i x ys H5 hx hy ⟨s5,os,rfl,lo,ho,po⟩ R1 R0 r1 r0
   rw[En] at hx
   cases ea:as[i]? with
   | none=>rw[ea] at hx;cases hx
   | some a5 =>
    rw[ea] at hx
    cases hx
    have hi:i<as.length:=(Ea.mp ea).1
    have ev:vs[i]? = some vs[i]:=Ec (by lia)
    have rowa:=s5 _ _ (R.row i _ _ ea ev)
    refine aS ⟨_,rfl,a5,vs[i],rfl,.inl (SqL.of rowa),λl5 o5 hl5 pm5 ps5=>r1 _ _ ⟨s5.trans (ag hl5 _),os++[(l5,o5)],by rw[Ee];rfl,by rw[D7,lo];rfl,λu hu =>?_,λj u v eu ev' =>?_⟩⟩
    ·rcases Eh.mp hu with z | z
     ·exact (ag hl5 _) _ _ (ho u z)
     ·rw[Ef] at z;subst z;exact ae
    ·by_cases hj:j<os.length
     ·rw[GR hj] at eu
      exact po j u v eu ev'
     ·have hj2:j=i:=by
       have:=(Ea.mp eu).1
       rw[D7,ED] at this
       lia
      subst hj2
      rw[Gj (by lia),show j-os.length=0 by lia] at eu
      cases eu
      rw[ev] at ev';cases ev'
      exact ⟨pm5,ps5⟩
  ·rintro ys H5 hy ⟨s5,os,rfl,lo,ho,po⟩ l5 hl5
   rw[DY] at lo
   have s6:=ag hl5 (.lst (os.map λu=>V.ref u.1))
   refine q l5 _ os (sH'.trans (s5.trans s6)) ae (by lia) (λu hu=>s6 _ _ (ho u hu)) λj u eu =>?_
   have hj:j<os.length:=(Ea.mp eu).1
   have ev:vs[j]? = some vs[j]:=Ec (by lia)
   obtain ⟨p1,p2⟩:=po j u _ eu ev
   have e5:=RO j _ ev
   rw[e5] at p1
   refine ⟨gL p2 (p1.nodup_iff.mpr (oU kns pns)),λx =>?_⟩
   rw[p1.mem_iff]
   exact nbm _ _
end
def Adj (ns:List (List Int))(u v:Int):Prop:=v∈nbs ns u
inductive Con (ns:List (List Int)):Int->Int->Prop
 | refl (u:Int):Con ns u u
 | step {u v w:Int}:Con ns u v->Adj ns v w->Con ns u w
def Ok (m:Nat)(ns:List (List Int)):Prop:=∀p∈ns,∃a b:Int,p=[a,b]/\0<=a/\a<=b/\b<m
theorem jt {m:Nat}{ns:List (List Int)}(O:Ok m ns){u v:Int}:Adj ns u v↔∃a b:Int,[a,b]∈ns/\a≠b/\((a=u/\v=b)\/(b=u/\v=a)):=by
 unfold Adj
 rw[dO]
 constructor
 ·rintro ⟨p,hp,h⟩
  obtain ⟨a,b,rfl,_⟩:=O p hp
  exact ⟨a,b,hp,k9.mp h⟩
 ·rintro ⟨a,b,hp,h⟩
  exact ⟨[a,b],hp,k9.mpr h⟩
theorem zc {m:Nat}{ns:List (List Int)}(O:Ok m ns){u v:Int}(h:Adj ns u v):Adj ns v u:=by
 rw[jt O] at *
 obtain ⟨a,b,hp,ne,h⟩:=h
 refine ⟨a,b,hp,ne,?_⟩
 rcases h with ⟨h1,h2⟩ | ⟨h1,h2⟩
 ·exact .inr ⟨h2.symm,h1.symm⟩
 ·exact .inl ⟨h2.symm,h1.symm⟩
theorem vy {m:Nat}{ns:List (List Int)}(O:Ok m ns){u v:Int}(h:Adj ns u v):(0<=u/\u<m)/\0<=v/\v<m:=by
 rw[jt O] at h
 obtain ⟨a,b,hp,ne,h⟩:=h
 obtain ⟨a',b',e,h1,h2,h3⟩:=O _ hp
 injection e with e1 e2
 injection e2 with e2 _
 subst e1;subst e2
 rcases h with ⟨h4,h5⟩ | ⟨h4,h5⟩ <;> subst h4 <;> subst h5 <;> omega
theorem Con.trans {ns:List (List Int)}{u v w:Int}(h:Con ns u v)(h2:Con ns v w):Con ns u w:=by
 induction h2 with
 | refl=>exact h
 | step _ a ih=>exact .step ih a
theorem Con.one {ns:List (List Int)}{u v:Int}(h:Adj ns u v):Con ns u v :=.step (.refl u) h
theorem Con.symm {m:Nat}{ns:List (List Int)}(O:Ok m ns){u v:Int}(h:Con ns u v):Con ns v u:=by
 induction h with
 | refl=>exact .refl _
 | step _ a ih=>exact (Con.one (zc O a)).trans ih
theorem Con.rng {m:Nat}{ns:List (List Int)}(O:Ok m ns){u v:Int}(h:Con ns u v)(hu:0<=u/\u<m):0<=v/\v<m:=by
 induction h with
 | refl=>exact hu
 | step _ a _=>exact (vy O a).2
theorem Con.closed {ns:List (List Int)}{u v:Int}(h:Con ns u v){R:Int->Prop}(hu:R u)(hc:∀x y,R x->Adj ns x y->R y):R v:=by
 induction h with
 | refl=>exact hu
 | step _ a ih=>exact hc _ _ ih a
theorem Con.CJ {ns:List (List Int)}{u v:Int}(h:Con ns u v){R:Int->Prop}(hu:R u)(hv:¬ R v):∃x y,Con ns u x/\R x/\Adj ns x y/\¬ R y:=by
 induction h with
 | refl=>exact absurd hu hv
 | @step v w h a ih =>
  by_cases hr:R v
  ·exact ⟨v,w,h,hr,a,hv⟩
  ·exact ih hr
def rgI (m:Nat):List Int:=(E2 m).map λi:Nat=>(i:Int)
theorem aT {m:Nat}{v:Int}:v∈rgI m↔0<=v/\v<m:=by
 unfold rgI
 rw[EK]
 constructor
 ·rintro ⟨i,hi,rfl⟩
  rw[Fv] at hi
  lia
 ·intro h
  exact ⟨v.toNat,Fv.mpr (by lia),by lia⟩
open Classical in
noncomputable def gm (ns:List (List Int))(m:Nat)(u:Int):List Int:=(rgI m).filter λv=>decide (Con ns u v)
open Classical in
theorem oW {m:Nat}{ns:List (List Int)}(O:Ok m ns){u v:Int}(hu:0<=u/\u<m):v∈gm ns m u↔Con ns u v:=by
 unfold gm
 rw[Ft]
 constructor
 ·intro h;exact of_decide_eq_true h.2
 ·intro h
  have:=h.rng O hu
  exact ⟨aT.mpr this,decide_eq_true h⟩
theorem fT (m:Nat):(rgI m).Pairwise (· < ·):=by
 unfold rgI
 rw[Fh]
 exact KW.imp λh=>by lia
theorem mO (ns:List (List Int))(m:Nat)(u:Int):(gm ns m u).Pairwise (· < ·):=(fT m).filter _
def Fst (ns:List (List Int))(u:Int):Prop:=∀w:Int,0<=w->w<u->¬ Con ns w u
open Classical in
noncomputable def bp (ns:List (List Int))(m i:Nat):List (List Int):=((rgI i).filter λu=>decide (Fst ns u)).map (gm ns m)
theorem ju (ns:List (List Int))(m i:Nat)[Decidable (Fst ns (i:Int))]:bp ns m (i+1)=bp ns m i++if Fst ns (i:Int) then [gm ns m i] else []:=by
 unfold bp
 have e:rgI (i+1)=rgI i++[(i:Int)]:=by unfold rgI;rw[JP,Ee];rfl
 rw[e,F4,Ee]
 congr 1
 by_cases h:Fst ns (i:Int)
 ·rw[if_pos h];simp[h]
 ·rw[if_neg h];simp[h]
def gt (L:List Int)(a:Int):Int:=L.getD a.toNat 0
def lower (L:List Int)(p:List Int):List Int :=
 let x:=mnI (gt L (p.getD 0 0)) (gt L (p.getD 1 0))
 (L.set (p.getD 0 0).toNat x).set (p.getD 1 0).toNat x
theorem ud {L:List Int}{a b x:Int}(ha:0<=a/\a<L.length)(hb:0<=b):gt (L.set a.toNat x) b=if b=a then x else gt L b:=by
 unfold gt
 by_cases h:b=a
 ·subst h
  rw[if_pos rfl,Ew,F1 (by lia)];rfl
 ·rw[if_neg h,Ew,Gk (by lia), <- Ew]
theorem jv {m:Nat}{L:List Int}(hl:L.length=m){a b v:Int}(ha:0<=a)(ab:a<=b)(bm:b<m)(hv:0<=v):gt (lower L [a,b]) v=if v=a\/v=b then mnI (gt L a) (gt L b) else gt L v:=by
 show gt ((L.set a.toNat (mnI (gt L a) (gt L b))).set b.toNat (mnI (gt L a) (gt L b))) v=_
 rw[ud (by rw[Ht];lia) hv,ud (by lia) hv]
 by_cases h1:v=b
 ·rw[if_pos h1,if_pos (.inr h1)]
 ·rw[if_neg h1]
  by_cases h2:v=a
  ·rw[if_pos h2,if_pos (.inl h2)]
  ·rw[if_neg h2,if_neg (λh=>h.elim h2 h1)]
theorem xc (L:List Int)(p:List Int):(lower L p).length=L.length:=by unfold lower;simp
structure Lab (ns:List (List Int))(m:Nat)(L:List Int):Prop where
 len:L.length=m
 con:∀v:Int,0<=v->v<m->0<=gt L v/\Con ns (gt L v) v/\gt L v<=v
theorem ue (a b:Int):mnI a b=a\/mnI a b=b:=by unfold mnI;split <;> simp
theorem zd (a b:Int):mnI a b<=a/\mnI a b<=b:=by unfold mnI;split <;> lia
theorem qj {m:Nat}{ns:List (List Int)}(O:Ok m ns){a b:Int}(hp:[a,b]∈ns):Con ns a b:=by
 by_cases h:a=b
 ·subst h;exact .refl a
 ·exact .one ((jt O).mpr ⟨a,b,hp,h,.inl ⟨rfl,rfl⟩⟩)
theorem Lab.lower {m:Nat}{ns:List (List Int)}(O:Ok m ns){L:List Int}(h:Lab ns m L){p:List Int}(hp:p∈ns):Lab ns m (lower L p):=by
 obtain ⟨a,b,rfl,a0,ab,bm⟩:=O p hp
 have cab:=qj O hp
 refine ⟨by rw[xc];exact h.len,λv v0 vm =>?_⟩
 rw[jv h.len a0 ab bm v0]
 obtain ⟨p1,p2,p3⟩:=h.con a a0 (by lia)
 obtain ⟨q1,q2,q3⟩:=h.con b (by lia) bm
 have le:=zd (gt L a) (gt L b)
 split
 ·rename_i hv
  have c1:0<=mnI (gt L a) (gt L b)/\Con ns (mnI (gt L a) (gt L b)) a/\Con ns (mnI (gt L a) (gt L b)) b:=by
   rcases ue (gt L a) (gt L b) with e | e <;> rw[e]
   ·exact ⟨p1,p2,p2.trans cab⟩
   ·exact ⟨q1,q2.trans (cab.symm O),q2⟩
  rcases hv with e | e <;> subst e
  ·exact ⟨c1.1,c1.2.1,by lia⟩
  ·exact ⟨c1.1,c1.2.2,by lia⟩
 ·exact h.con v v0 vm
theorem dD {m:Nat}{ns:List (List Int)}(O:Ok m ns){L:List Int}(h:Lab ns m L){c:Int}(hc:Fst ns c)(c0:0<=c){p:List Int}(hp:p∈ns){v:Int}(v0:0<=v)(vm:v<m)(e:gt L v=c):gt (lower L p) v=c:=by
 obtain ⟨a,b,rfl,a0,ab,bm⟩:=O p hp
 have cab:=qj O hp
 rw[jv h.len a0 ab bm v0]
 split
 ·rename_i hv
  obtain ⟨p1,p2,p3⟩:=h.con a a0 (by lia)
  obtain ⟨q1,q2,q3⟩:=h.con b (by lia) bm
  have le:=zd (gt L a) (gt L b)
  have ge:∀x,0<=x->Con ns x c->c<=x:=λx x0 hx=>by
   apply Int.not_lt.mp
   intro lt
   exact hc x x0 lt hx
  rcases hv with z | z
  ·subst z
   have:Con ns (gt L b) c:=by
    have h1:Con ns c v:=by rw[<- e];exact p2
    exact q2.trans ((cab.symm O).trans (h1.symm O))
   have:=ge _ q1 this
   rcases ue (gt L v) (gt L b) with y | y <;> lia
  ·subst z
   have:Con ns (gt L a) c:=by
    have h1:Con ns c v:=by rw[<- e];exact q2
    exact p2.trans (cab.trans (h1.symm O))
   have:=ge _ p1 this
   rcases ue (gt L a) (gt L v) with y | y <;> lia
 ·exact e
theorem ug {m:Nat}{ns:List (List Int)}(O:Ok m ns){L:List Int}(h:Lab ns m L){c:Int}(hc:Fst ns c)(c0:0<=c){a b:Int}(hp:[a,b]∈ns)(e:gt L a=c\/gt L b=c):gt (lower L [a,b]) a=c/\gt (lower L [a,b]) b=c:=by
 obtain ⟨a',b',e',a0,ab,bm⟩:=O _ hp
 injection e' with e1 e2
 injection e2 with e2 _
 subst e1;subst e2
 have eq:gt (lower L [a,b]) a=gt (lower L [a,b]) b:=by
  rw[jv h.len a0 ab bm a0,jv h.len a0 ab bm (by lia),if_pos (.inl rfl),if_pos (.inr rfl)]
 rcases e with e | e
 ·have:=dD O h hc c0 hp a0 (by lia) e
  exact ⟨this,by rw[<- eq];exact this⟩
 ·have:=dD O h hc c0 hp (by lia) bm e
  exact ⟨by rw[eq];exact this,this⟩
theorem jZ {m:Nat}{ns:List (List Int)}(O:Ok m ns):∀(l:List (List Int)) (L:List Int),(∀p∈l,p∈ns)->Lab ns m L->Lab ns m (l.foldl lower L)
 | [],L,_,h=>h
 | p :: l,L,hl,h=>jZ O l _ (λq hq=>hl q (Eg _ hq)) (h.lower O (hl p D8))
theorem eD {m:Nat}{ns:List (List Int)}(O:Ok m ns){c:Int}(hc:Fst ns c)(c0:0<=c){v:Int}(v0:0<=v)(vm:v<m):∀(l:List (List Int)) (L:List Int),(∀p∈l,p∈ns)->Lab ns m L->gt L v=c->gt (l.foldl lower L) v=c
 | [],L,_,_,e=>e
 | p :: l,L,hl,h,e=>eD O hc c0 v0 vm l _ (λq hq=>hl q (Eg _ hq)) (h.lower O (hl p D8)) (dD O h hc c0 (hl p D8) v0 vm e)
theorem iP {m:Nat}{ns:List (List Int)}(O:Ok m ns){c:Int}(hc:Fst ns c)(c0:0<=c){a b:Int}:∀(l:List (List Int)) (L:List Int),(∀p∈l,p∈ns)->Lab ns m L->[a,b]∈l->(gt L a=c\/gt L b=c)->gt (l.foldl lower L) a=c/\gt (l.foldl lower L) b=c
 | [],L,_,_,hp,_=>by cases hp
 | p :: l,L,hl,h,hp,e=>by
  obtain ⟨a',b',e',a0,ab,bm⟩:=O _ (hl _ hp)
  injection e' with e1 e2
  injection e2 with e2 _
  subst e1;subst e2
  have hl':∀q∈l,q∈ns:=λq hq=>hl q (Eg _ hq)
  rcases EB.mp hp with z | z
  ·subst z
   have:=ug O h hc c0 (hl _ D8) e
   exact ⟨eD O hc c0 a0 (by lia) l _ hl' (h.lower O (hl _ D8)) this.1,eD O hc c0 (by lia) bm l _ hl' (h.lower O (hl _ D8)) this.2⟩
  ·refine iP O hc c0 l _ hl' (h.lower O (hl p D8)) z ?_
   rcases e with e | e
   ·exact .inl (dD O h hc c0 (hl p D8) a0 (by lia) e)
   ·exact .inr (dD O h hc c0 (hl p D8) (by lia) bm e)
theorem oX {α:Type}{p q:α -> Bool}:∀{l:List α},(∀x∈l,p x=true->q x=true)->(∃x∈l,q x=true/\p x=false)->l.countP p<l.countP q
 | [],_,h=>by obtain ⟨x,hx,_⟩:=h;cases hx
 | a :: l,hm,h=>by
  have mono:l.countP p<=l.countP q:=List.countP_mono_left λx hx=>hm x (Eg _ hx)
  rw[MQ,MQ]
  obtain ⟨x,hx,h1,h2⟩:=h
  rcases EB.mp hx with z | z
  ·subst z
   rw[h1,h2]
   simp
   omega
  ·have ih:=oX (l:=l) (λy hy=>hm y (Eg _ hy)) ⟨x,z,h1,h2⟩
   by_cases ha:p a=true
   ·rw[ha,hm a D8 ha];simp;omega
   ·rw[show p a=false by simpa using ha]
    cases q a <;> simp <;> omega
def rounds (ns:List (List Int)):Nat->List Int->List Int
 | 0,L=>L
 | r+1,L=>ns.foldl lower (rounds ns r L)
theorem fU {m:Nat}{ns:List (List Int)}(O:Ok m ns){L:List Int}(h:Lab ns m L):∀r,Lab ns m (rounds ns r L)
 | 0=>h
 | r+1=>jZ O ns _ (λp hp=>hp) (fU O h r)
def has (m:Nat)(L:List Int)(c:Int):Nat:=(rgI m).countP λv=>decide (gt L v=c)
theorem kI {m:Nat}{ns:List (List Int)}(O:Ok m ns){L:List Int}(h:Lab ns m L){c:Int}(hc:Fst ns c)(c0:0<=c)(cm:c<m)(e0:gt L c=c):∀r,(∀v,Con ns c v->gt (rounds ns r L) v=c)\/(r+1<=has m (rounds ns r L) c/\gt (rounds ns r L) c=c)
 | 0=>by
  refine .inr ⟨?_,e0⟩
  show 0+1<=(rgI m).countP λv=>decide (gt L v=c)
  have:0<(rgI m).countP λv=>decide (gt L v=c):=by
   rw[List.countP_pos_iff]
   exact ⟨c,aT.mpr ⟨c0,cm⟩,decide_eq_true e0⟩
  lia
 | r+1=>by
  have lab:=fU O h r
  have keep:∀v:Int,0<=v->v<m->gt (rounds ns r L) v=c->gt (rounds ns (r+1) L) v=c:=λv v0 vm e=>eD O hc c0 v0 vm ns _ (λp hp=>hp) lab e
  rcases kI O h hc c0 cm e0 r with a | ⟨a1,a2⟩
  ·refine .inl λv hv =>?_
   have:=hv.rng O ⟨c0,cm⟩
   exact keep v this.1 this.2 (a v hv)
  ·by_cases all:∀v,Con ns c v->gt (rounds ns r L) v=c
   ·refine .inl λv hv =>?_
    have:=hv.rng O ⟨c0,cm⟩
    exact keep v this.1 this.2 (all v hv)
   ·have ex:∃v,Con ns c v/\¬ gt (rounds ns r L) v=c:=FF λz=>all λv hv=>FF λy=>z ⟨v,hv,y⟩
    obtain ⟨v,hv,ne⟩:=ex
    obtain ⟨x,y,cx,ex,axy,ny⟩:=hv.CJ (R:=λz=>gt (rounds ns r L) z=c) a2 ne
    have ry:=(vy O axy).2
    have newy:gt (rounds ns (r+1) L) y=c:=by
     obtain ⟨a,b,hp,_,h4⟩:=(jt O).mp axy
     rcases h4 with ⟨h5,h6⟩ | ⟨h5,h6⟩
     ·subst h5;subst h6
      exact (iP O hc c0 ns _ (λp hp=>hp) lab hp (.inl ex)).2
     ·subst h5;subst h6
      exact (iP O hc c0 ns _ (λp hp=>hp) lab hp (.inr ex)).1
    refine .inr ⟨?_,keep c c0 cm a2⟩
    have lt:has m (rounds ns r L) c<has m (rounds ns (r+1) L) c:=by
     refine oX (λz hz e =>?_) ⟨y,aT.mpr ry,decide_eq_true newy,decide_eq_false ny⟩
     have:=aT.mp hz
     exact decide_eq_true (keep _ this.1 this.2 (of_decide_eq_true e))
    lia
theorem uh {m:Nat}{ns:List (List Int)}(O:Ok m ns):∀(n:Nat) (v:Int),0<=v->v<m->v.toNat<=n->∃c,Fst ns c/\0<=c/\c<m/\Con ns c v:=by
 intro n
 induction n with
 | zero =>
  intro v v0 vm hn
  exact ⟨v,λw w0 lt=>by lia,v0,vm,.refl v⟩
 | succ n ih =>
  intro v v0 vm hn
  by_cases hf:Fst ns v
  ·exact ⟨v,hf,v0,vm,.refl v⟩
  ·have:∃w,0<=w/\w<v/\Con ns w v:=FF λz=>hf λw w0 lt hw=>z ⟨w,w0,lt,hw⟩
   obtain ⟨w,w0,lt,hw⟩:=this
   obtain ⟨c,c1,c2,c3,c4⟩:=ih w w0 (by lia) (by lia)
   exact ⟨c,c1,c2,c3,c4.trans hw⟩
theorem mP {m:Nat}{ns:List (List Int)}(O:Ok m ns){c d:Int}(hc:Fst ns c)(hd:Fst ns d)(c0:0<=c)(d0:0<=d)(h:Con ns c d):c=d:=by
 have h1:¬ c<d:=λlt=>hd c c0 lt h
 have h2:¬ d<c:=λlt=>hc d d0 lt (h.symm O)
 lia
def drawn (m:Nat)(L:List Int):List (List Int):=((rgI m).filter λf=>decide (gt L f=f)).map λf=>(rgI m).filter λv=>decide (gt L v=f)
def fg (R:List Int):List (Key×V):=R.map λk=>(Sum.inl k,V.bl true)
theorem mQ (v:Int):∀R:List Int,bT (fg R) (Sum.inl v)=if v∈R then some (.bl true) else none
 | []=>by simp[fg,bT]
 | k :: R=>by
  have ih:=mQ v R
  unfold fg at *
  rw[Ez]
  by_cases h:k=v
  ·subst h
   rw[bV rfl,if_pos D8]
  ·rw[bW (λe=>h (by injection e)),ih]
   by_cases hv:v∈R
   ·rw[if_pos hv,if_pos (Eg _ hv)]
   ·rw[if_neg hv,if_neg (λz=>(EB.mp z).elim (λy=>h y.symm) hv)]
theorem oY (v:Int)(R:List Int):(bT (fg R) (Sum.inl v)).isSome=decide (v∈R):=by
 rw[mQ]
 by_cases h:v∈R
 ·rw[if_pos h,decide_eq_true h];rfl
 ·rw[if_neg h,decide_eq_false h];rfl
theorem rO {v:Int}{R:List Int}(h:v∉R):putK (fg R) (Sum.inl v) (.bl true)=fg (R++[v]):=by
 rw[yu _ (by rw[mQ,if_neg h])]
 unfold fg
 rw[Ee]
 rfl
theorem jw (R:List Int):(fg R).length=R.length:=by unfold fg;rw[DY]
theorem xg (R:List Int):(fg R).map (·.1)=R.map Sum.inl:=by unfold fg;rw[G6];rfl
theorem jA {R:List Int}{m:Nat}(nd:R.Nodup)(h:∀v∈R,0<=v/\v<m):R.length<=m:=by
 have:=Jm nd (l₂:=rgI m) λv hv=>aT.mpr (h v hv)
 unfold rgI at this
 rw[DY,FZ] at this
 exact this
theorem uj {R:List Int}{v:Int}(nd:R.Nodup)(h:v∉R):(R++[v]).Nodup:=by
 rw[Hz]
 exact ⟨nd,FC.mpr ⟨by simp,Gu⟩,λx hx y hy e=>h (by rw[Ef] at hy;subst hy;subst e;exact hx)⟩
structure mR (H:Hp)(n:Addr)(m:Nat)(ns:List (List Int))(os:LAz):Prop where
 at':H n=some (.lst (os.map λu =>.ref u.1))
 len:os.length=m
 row:∀u∈os,H u.1=some (.lst (u.2.map V.int))
 is:∀(j:Nat) u,os[j]? = some u->∀x,x∈u.2↔x∈nbs ns (j:Int)
theorem mR.same {H H':Hp}{n:Addr}{m:Nat}{ns:List (List Int)}{os:LAz}(h:mR H n m ns os)(s:ax H H'):mR H' n m ns os:=⟨s _ _ h.at',h.len,λu hu=>s _ _ (h.row u hu),h.is⟩
abbrev rP:Sp:=λvs H Q _=>∃(n:Addr) (m:Nat) (ns:List (List Int)) (os:LAz) (s:Int),vs=[.ref n,.int s]/\mR H n m ns os/\Ok m ns/\m<=400/\0<=s/\s<m/\∀(l:Addr) (H':Hp),ax H H'->H' l=some (.lst ((gm ns m s).map V.int))->Q (.ref l) H'
@[irreducible] def lq:Sp:=rP
theorem gN {vs:List V}{H:Hp}{Q:VK}{E:XK}:lq vs H Q E↔rP vs H Q E:=by
 delta lq
 exact FU
def xh (H:Hp)(d:Addr):Nat:=match H d with | some (.dK kvs)=>kvs.length | _=>0
def xk (H:Hp)(y:Addr):Nat:=match H y with | some (.lst xs)=>xs.length | _=>0
structure RY (ns:List (List Int))(m:Nat)(s:Int)(R Y:List Int):Prop where
 nd:R.Nodup
 st:s∈R
 con:∀v∈R,Con ns s v
 sub:∀v∈Y,v∈R
section
variable  {P:Eo}{w:ES}{K:D2}{mg:Str->Option D1}{base:Heap}{f:Addr}{fd:Fb}
theorem jB:aB ["near", "start", "reached", "ready", "place", "other"] ["near", "start"] (ao yZ):=⟨rfl,rfl,rfl,by decide +kernel,rfl,by decide +kernel,by decide +kernel⟩
theorem AZ (F:Fun K "reached_from" "reached_from" yZ f fd)(mso:mg "sorted" = none):bB P w K mg base CX0 1 f fd ["near", "start"] lq:=by
 refine F.ok jB (λvs H Q E h =>?_) (λcdv A outer s0 H vs Q E hr h =>?_)
 ·obtain ⟨a,b,c,d,e,rfl,_⟩:=gN.mp h
  rfl
 obtain ⟨n,m,ns,os,s,rfl,N,O,m9,s0',sm,q⟩:=gN.mp h
 have hu:=oo hr
 refine ⟨_,ah (aE (i:=2) jB.nd rfl (Or.inl rfl) (AA (rq (pv 1) kh vh) rfl rfl (by simp) (by decide)))
  (ah (aE (i:=3) jB.nd rfl (Or.inl rfl) (bR (aa (pv 1) af)))
  (ah (qD Fl (xO (pv 3) (λ_=>rfl))
   (ah (aE (i:=4) jB.nd rfl (Or.inl rfl) (xV EM HZ Ia xX (pv 3)))
   (aj (cf Fl rfl (dg (aD ck (pv 0) (pv 4) (λ_ _=>rfl))) (ay (i:=5) jB.nd rfl (Or.inl rfl))
    (aj (bq (pN (oQ hu (pv 5) (pv 2)))
     (ah (fO hu (pv 2) (pv 5) kh rfl) (aj (bA (eC EM FN FO cK (pv 3) (aa (pv 5) af))))) aI))))))
  (aj (aJ (av (qc hr.hd) rfl mso cw (aa (pv 2) af)))))),?_⟩
 refine λd hd=>⟨_,rfl,ae,[(Sum.inl s,.bl true)],rfl,(by show 1<=15;decide),_,rfl,(by show 1<=Ei;decide),λy hy =>?_⟩
 have e1d:upd (upd H d (.dK [])) d (.dK (fP [] [(Sum.inl s,V.bl true)])) d=some (.dK (fg [s])):=ae
 have s1:ax H (upd (upd H d (.dK [])) d (.dK (fP [] [(Sum.inl s,V.bl true)]))):=λb o e=>by
  rw[ak (aq e hd),ak (aq e hd)];exact e
 have hy0:H y=none:=by
  cases e:H y with
  | none=>rfl
  | some o=>rw[s1 _ _ e] at hy;cases hy
 have ndy:d≠y:=aq e1d hy
 have e2d:=(ag hy (.lst [.int s])) _ _ e1d
 have e2y:upd (upd (upd H d (.dK [])) d (.dK (fP [] [(Sum.inl s,V.bl true)]))) y (.lst [.int s]) y=some (.lst (([s]:List Int).map V.int)):=ae
 have s2:=s1.trans (ag hy (.lst [.int s]))
 generalize upd (upd (upd H d (.dK [])) d (.dK (fP [] [(Sum.inl s,V.bl true)]))) y (.lst [.int s])=H2 at e2d e2y s2
 have rngR:∀{R Y:List Int},RY ns m s R Y->∀v∈R,0<=v/\v<m:=λI v hv=>(I.con v hv).rng O ⟨s0',sm⟩
 dsimp only[gx,C7]
 refine qF (λσ H'=>∃(c4 c5:Option V) (R Y:List Int),σ=[some (.ref n),some (.int s),some (.ref d),some (.ref y),c4,c5]/\ax H H'/\H' d=some (.dK (fg R))/\H' y=some (.lst (Y.map V.int))/\RY ns m s R Y/\2*(m-R.length)+Y.length<=2*m/\(∀u∈R,u∉Y->∀v,Adj ns u v->v∈R))
  (λ_ H'=>2*(m-xh H' d)+xk H' y) ⟨none,none,[s],[s],rfl,s2,e2d,e2y,⟨FC.mpr ⟨by simp,Gu⟩,D8,λv hv =>?_,λv hv=>hv⟩,by show 2*(m-1)+1<=2*m;lia,λu hu nu=>absurd hu nu⟩ ?_ (by rintro σ H Q Q' h ⟨v,e,k,t,q⟩;exact ⟨v,e,k,t,h _ _ q⟩)
 ·rw[Ef] at hv;subst hv;exact .refl _
 rintro σ H' ⟨c4,c5,R,Y,rfl,s',ed,ey,I,ly,cl⟩
 refine ⟨_,rfl, !(Y.map V.int).isEmpty,.inl ⟨_,SqL.of ey,rfl⟩,?_⟩
 have mu0:2*(m-xh H' d)+xk H' y=2*(m-R.length)+Y.length:=by
  unfold xh xk
  rw[ed,ey]
  dsimp only
  rw[jw,DY]
 rcases Ld Y with hY | ⟨Y',p,hY⟩
 ·subst hY
  refine aF ⟨_,rfl,d,fg R,R,rfl,ed,xg R,λl out hl pm ps =>?_⟩
  have eo:out=gm ns m s:=oV (gL ps (pm.nodup_iff.mpr I.nd)) (mO ns m s) λx=>by
   rw[pm.mem_iff,oW O ⟨s0',sm⟩]
   exact ⟨I.con x,λh=>h.closed I.st λx y hx a=>cl x hx (by simp) y a⟩
  subst eo
  exact q l _ (s'.trans (ag hl _)) ae
 ·rw[Lf] at hY
  subst hY
  have hne:(!(List.map V.int (Y'++[p])).isEmpty)=true:=by simp
  rw[hne]
  have pR:p∈R:=I.sub p (by simp)
  have pr:=rngR I p pR
  obtain ⟨pn,rfl⟩:∃k:Nat,p=k:=⟨p.toNat,by lia⟩
  refine aS ⟨_,rfl,.inl ⟨rfl,_,SqL.of ey⟩,y,_,.int pn,rfl,rfl,ey,?_,?_⟩
  ·rw[Ee,D7];simp
  have dl:(List.map V.int (Y'++[(pn:Int)])).dropLast=Y'.map V.int:=by rw[Ee];exact Lz
  rw[dl]
  have s3:ax H (upd H' y (.lst (Y'.map V.int))):=λb o e=>by rw[ak (aq e hy0)];exact s' _ _ e
  have ed3:upd H' y (.lst (Y'.map V.int)) d=some (.dK (fg R)):=by rw[ak ndy];exact ed
  have ey3:upd H' y (.lst (Y'.map V.int)) y=some (.lst (Y'.map V.int)):=ae
  generalize upd H' y (.lst (Y'.map V.int))=H3 at s3 ed3 ey3
  have N3:=N.same s3
  have pl:pn<os.length:=by rw[N.len];lia
  obtain ⟨uu,eu⟩:∃u,os[pn]? = some u:=⟨_,Ec pl⟩
  have rowu:=N3.row _ (Eb eu)
  have isu:=N.is pn _ eu
  rw[D7,ED] at ly mu0
  refine ⟨_,rfl,_,rfl,n,_,(pn:Int),_,rfl,rfl,SqL.of N3.at',fE (by rw[En,eu];rfl),uu.1,rfl,⟨_,SqL.of rowu⟩,dW (xs:=uu.2.map V.int)
   (λi σ H4=>∃(c5:Option V) (R4 Y4:List Int),σ=[some (.ref n),some (.int s),some (.ref d),some (.ref y),some (.int pn),c5]/\ax H H4/\H4 d=some (.dK (fg R4))/\H4 y=some (.lst (Y4.map V.int))/\RY ns m s R4 Y4/\(pn:Int)∈R4/\(∀u∈R4,u∉Y4->u≠pn->∀v,Adj ns u v->v∈R4)/\(∀v∈uu.2.take i,v∈R4)/\R4.length<=m/\2*(m-R4.length)+Y4.length+1<=2*(m-R.length)+(Y'.length+1))
   ⟨_,R,Y',rfl,s3,ed3,ey3,⟨I.nd,I.st,I.con,λv hv=>I.sub v (E9 _ hv)⟩,pR,λu hu nu ne=>cl u hu (λz=>(Eh.mp z).elim nu λz=>ne (by simpa using z)),λv hv=>by simp at hv,jA I.nd (rngR I),by lia⟩ (λi σ H4 _ z =>?_) ?_ ?_⟩
  ·obtain ⟨_,_,_,_,s4,_⟩:=z
   exact SqL.of ((N.same s4).row _ (Eb eu))
  ·rintro i x σ H4 hx ⟨c5,R4,Y4,rfl,s4,ed4,ey4,I4,p4,cl4,tk4,l4,mu4⟩
   rw[En] at hx
   cases ho:uu.2[i]? with
   | none=>rw[ho] at hx;cases hx
   | some o =>
   rw[ho] at hx
   cases hx
   have tks:uu.2.take (i+1)=uu.2.take i++[o]:=by rw[E4,ho];rfl
   have oA:Adj ns pn o:=(isu o).mp (Eb ho)
   refine ⟨_,rfl,_,rfl,d,_,rfl,d8.k (k:=Sum.inl o) ed4,_,rfl,?_⟩
   rw[oY]
   by_cases hR:o∈R4
   ·rw[decide_eq_true hR]
    refine aF ⟨_,R4,Y4,rfl,s4,ed4,ey4,I4,p4,cl4,λv hv =>?_,l4,mu4⟩
    rw[tks] at hv
    rcases Eh.mp hv with z | z
    ·exact tk4 v z
    ·rw[Ef] at z;subst z;exact hR
   ·rw[decide_eq_false hR]
    have I5:RY ns m s (R4++[o]) (Y4++[o]):=by
     refine ⟨uj I4.nd hR,E9 _ I4.st,λv hv =>?_,λv hv =>?_⟩
     ·rcases Eh.mp hv with z | z
      ·exact I4.con v z
      ·rw[Ef] at z;subst z;exact .step (I4.con _ p4) oA
     ·rcases Eh.mp hv with z | z
      ·exact E9 _ (I4.sub v z)
      ·exact EH _ z
    have l5:=jA I5.nd (rngR I5)
    rw[D7,ED] at l5
    refine aS ⟨_,rfl,_,rfl,d,_,rfl,jW.k (k:=Sum.inl o) ed4 (by rw[jw];exact bE (by lia)),?_⟩
    rw[rO hR]
    have ey5:upd H4 d (.dK (fg (R4++[o]))) y=some (.lst (Y4.map V.int)):=by rw[ak (F8 ndy)];exact ey4
    refine ⟨_,rfl,.inl ⟨rfl,_,SqL.of ey5⟩,_,rfl,y,_,_,rfl,rfl,ey5,(by rw[DY];exact bE (by lia)),_,R4++[o],Y4++[o],rfl,λb ob e =>?_,?_,?_,I5,E9 _ p4,λu hu nu ne v a =>?_,λv hv =>?_,by rw[D7,ED];exact l5,?_⟩
    ·rw[ak (aq e hy0),ak (aq e hd)];exact s4 _ _ e
    ·rw[ak ndy];exact ae
    ·rw[ae,Ee];rfl
    ·rcases Eh.mp hu with z | z
     ·exact E9 _ (cl4 u z (λy=>nu (E9 _ y)) ne v a)
     ·exact absurd (EH _ z) nu
    ·rw[tks] at hv
     rcases Eh.mp hv with z | z
     ·exact E9 _ (tk4 v z)
     ·exact EH _ z
    ·rw[D7,D7,ED];lia
  ·rintro σ H4 ⟨c5,R4,Y4,rfl,s4,ed4,ey4,I4,p4,cl4,tk4,l4,mu4⟩
   rw[DY,Et (D6 _)] at tk4
   have lr:=jA I.nd (rngR I)
   refine ⟨⟨_,_,R4,Y4,rfl,s4,ed4,ey4,I4,?_,λu hu nu v a =>?_⟩,?_⟩
   ·lia
   ·by_cases e:u=pn
    ·subst e
     exact tk4 v ((isu v).mpr a)
    ·exact cl4 u hu nu e v a
   ·show 2*(m-xh H4 d)+xk H4 y<2*(m-xh H' d)+xk H' y
    rw[mu0]
    unfold xh xk
    rw[ed4,ey4]
    dsimp only
    rw[jw,DY]
    lia
end
end K43
namespace L2
open PySem PySem.Spec PyProof.Rows
section
variable  {X:Cx}
end
end L2
namespace K43
open PySem L2
theorem Wb.ok {H:Hp}{r:Addr}{m:Nat}{ts:LAz}(W:Wb H r (m:Int) ts):Ok m (ts.map (·.2)):=λp hp=>by
 obtain ⟨u,hu,rfl⟩:=EK.mp hp
 exact W.pr u hu
abbrev vz:Sp:=λvs H Q _=>∃(r:Addr) (m:Nat) (ts:LAz),vs=[.ref r]/\Wb H r m ts/\m<=400/\∀(l:Addr) (H':Hp) (os:LAz),ax H H'->H l=none->H' l=some (.lst (os.map λu =>.ref u.1))->(∀u∈os,H' u.1=some (.tup (u.2.map V.int)))->os.map (·.2)=bp (ts.map (·.2)) m m->Q (.ref l) H'
@[irreducible] def mU:Sp:=vz
theorem fV {vs:List V}{H:Hp}{Q:VK}{E:XK}:mU vs H Q E↔vz vs H Q E:=by
 delta mU
 exact FU
abbrev rQ:Sp:=λvs H Q _=>∃(r:Addr) (m:Nat) (ts:LAz),vs=[.ref r]/\Wb H r m ts/\m<=400/\∀H',ax H H'->Q (.int ((ts.length:Int)-m+((bp (ts.map (·.2)) m m).length:Nat))) H'
@[irreducible] def lB:Sp:=rQ
theorem gO {vs:List V}{H:Hp}{Q:VK}{E:XK}:lB vs H Q E↔rQ vs H Q E:=by
 delta lB
 exact FU
theorem rR (ns:List (List Int))(m i:Nat):(bp ns m i).length<=i:=by
 unfold bp
 rw[DY]
 refine ET (GW _ _) ?_
 unfold rgI
 rw[DY,FZ]
 exact D6 _
section
variable  {P:Eo}{w:ES}{K:D2}{mg:Str->Option D1}{base:Heap}{f:Addr}{fd:Fb}
theorem iQ:aB ["web", "near", "seen", "parts", "place", "part", "other"] ["web"] (ao By):=⟨rfl,rfl,rfl,by decide +kernel,rfl,by decide +kernel,by decide +kernel⟩
theorem CK (F:Fun K "hanging_parts" "hanging_parts" By f fd)(B:Blt mg)(cL:Cal P w K mg base 1 "near_lists" ["web"] lb)(cR:Cal P w K mg base 1 "reached_from" ["near", "start"] lq):bB P w K mg base CX0 2 f fd ["web"] mU:=by
 refine F.ok iQ (λvs H Q E h =>?_) (λcdv A outer s0 H vs Q E hr h =>?_)
 ·obtain ⟨a,b,c,rfl,_⟩:=fV.mp h
  rfl
 obtain ⟨r,m,ts,rfl,W,m4,q⟩:=fV.mp h
 have O:=W.ok
 have hu:=oo hr
 obtain ⟨t,e1,e2⟩:=W.at'
 refine ⟨_,ah (aE (i:=1) iQ.nd rfl (Or.inl rfl) (aA cL hr (by decide) rfl (aa (pv 0) af)))
  (ah (aE (i:=2) iQ.nd rfl (Or.inl rfl) rp)
  (ah (aE (i:=3) iQ.nd rfl (Or.inl rfl) (bR af))
  (ah (cf Fl rfl (bu rfl B.b_range (aa (aD aG (pv 0) ai (λ_ _=>rfl)) af)) (ay (i:=4) iQ.nd rfl (Or.inl rfl))
   (aj (bq (pN (oQ hu (pv 4) (pv 2)))
    (ah (aE (i:=5) iQ.nd rfl (Or.inl rfl) (aA cR hr (by decide) rfl (aa (pv 1) (aa (pv 4) af))))
    (ah (cf Fl rfl (dg (pv 5)) (ay (i:=6) iQ.nd rfl (Or.inl rfl)) (aj (fO hu (pv 2) (pv 6) kh rfl)))
    (aj (bA (eC EM FN FO cK (pv 3) (aa (aQ bX rfl B.b_tuple IE (aa (pv 5) af)) af)))))) aI)))
  (aj (aJ (pv 3)))))),?_⟩
 refine ⟨_,rfl,gM.mpr ⟨r,m,ts,rfl,W,by lia,by lia,λn H1 os s1 en lo ho po =>?_⟩⟩
 have N:mR H1 n m (ts.map (·.2)) os:=⟨en,by rw[lo];simp,ho,λj u eu=>(po j u eu).2⟩
 refine λd hd=>⟨(by show 0<=Ei;decide),λpl hpl =>?_⟩
 have hd0:upd H1 d (.dK []) d=some (.dK (fg [])):=ae
 have ndp:d≠pl:=aq hd0 hpl
 have hpl1:H1 pl=none:=by
  cases e:H1 pl with
  | none=>rfl
  | some o=>rw[(ag hd (.dK [])) _ _ e] at hpl;cases hpl
 have hpl0:H pl=none:=by
  cases e:H pl with
  | none=>rfl
  | some o=>rw[s1 _ _ e] at hpl1;cases hpl1
 have e3d:=(ag hpl (.lst [])) _ _ hd0
 have e3p:upd (upd H1 d (.dK [])) pl (.lst []) pl=some (.lst []):=ae
 have s3:=(ag hd (.dK [])).trans (ag hpl (.lst []))
 generalize upd (upd H1 d (.dK [])) pl (.lst [])=H3 at e3d e3p s3
 let W0:Nat->St->Hp->Prop:=λi σ H'=>∃(c4 c5 c6:Option V) (S:List Int) (ps:LAz),σ=[some (.ref r),some (.ref n),some (.ref d),some (.ref pl),c4,c5,c6]/\ax H1 H'/\H' d=some (.dK (fg S))/\H' pl=some (.lst (ps.map λu =>.ref u.1))/\(∀u∈ps,H' u.1=some (.tup (u.2.map V.int)))/\ps.map (·.2)=bp (ts.map (·.2)) m i/\S.Nodup/\(∀v,v∈S↔∃u:Nat,u<i/\Con (ts.map (·.2)) (u:Int) v)
 refine ⟨_,rfl,r,_,0,_,rfl,rfl,SqT.of (s3 _ _ (s1 _ _ e1)),rfl,m,rfl,by lia,by lia,dQ W0
  ⟨_,_,_,[],[],rfl,s3,e3d,e3p,λu hu=>(by cases hu),rfl,Gu,λv=>⟨λz=>(by cases z),λ⟨u,z,_⟩=>by lia⟩⟩ ?_ ?_⟩
 ·rintro i σ H' hi ⟨c4,c5,c6,S,ps,rfl,s',ed,ep,hp,epp,nS,mS⟩
  have hi':i<m:=by simpa using hi
  refine ⟨_,rfl,_,rfl,d,_,rfl,d8.k (k:=Sum.inl (0+(i:Int))) ed,_,rfl,?_⟩
  rw[oY,ME]
  by_cases hS:(i:Int)∈S
  ·rw[decide_eq_true hS]
   obtain ⟨u,ui,hu⟩:=(mS _).mp hS
   refine aF ⟨_,_,_,S,ps,rfl,s',ed,ep,hp,?_,nS,λv =>?_⟩
   ·have:=Classical.propDecidable (Fst (ts.map (·.2)) (i:Int))
    rw[ju,if_neg (λz=>z (u:Int) (by lia) (by lia) hu),EN]
    exact epp
   ·rw[mS v]
    constructor
    ·rintro ⟨x,xi,hx⟩;exact ⟨x,by lia,hx⟩
    ·rintro ⟨x,xi,hx⟩
     by_cases e:x=i
     ·subst e;exact ⟨u,ui,hu.trans hx⟩
     ·exact ⟨x,by lia,hx⟩
  ·rw[decide_eq_false hS]
   have fi:Fst (ts.map (·.2)) (i:Int):=λx x0 xi hx=>by
    obtain ⟨xn,rfl⟩:∃k:Nat,x=k:=⟨x.toNat,by lia⟩
    exact hS ((mS _).mpr ⟨xn,by lia,hx⟩)
   refine aS ⟨_,rfl,_,rfl,gN.mpr ⟨n,m,ts.map (·.2),os,(i:Int),rfl,N.same s',O,m4,by lia,by lia,λpt H4 s4 ept =>?_⟩⟩
   have ed4:=s4 _ _ ed
   have ep4:=s4 _ _ ep
   have mc:∀v,v∈gm (ts.map (·.2)) m (i:Int)↔Con (ts.map (·.2)) (i:Int) v:=λv=>oW O (by lia)
   have rc:=mO (ts.map (·.2)) m (i:Int)
   generalize hcc:gm (ts.map (·.2)) m (i:Int)=cc at ept mc rc
   have ndpt:d≠pt:=cZ ed4 ept (by intro z;cases z)
   have ndcc:cc.Nodup:=rc.imp λ{a b} h=>by lia
   have dj:∀v∈cc,v∉S:=λv hv hs=>by
    obtain ⟨u,ui,hu⟩:=(mS v).mp hs
    exact fi (u:Int) (by lia) (by lia) (hu.trans (((mc v).mp hv).symm O))
   have rS:∀v∈S,0<=v/\v<m:=λv hv=>by
    obtain ⟨u,ui,hu⟩:=(mS v).mp hv
    exact hu.rng O (by lia)
   have rC:∀v∈cc,0<=v/\v<m:=λv hv=>((mc v).mp hv).rng O (by lia)
   have ndj:∀j,(S++cc.take j).Nodup:=λj=>by
    rw[Hz]
    exact ⟨nS,ndcc.sublist (FK _ _),λx hx y hy e=>dj y (FI hy) (e ▸ hx)⟩
   have lj:∀j,(S++cc.take j).length<=m:=λj=>jA (ndj j) λv hv=>(Eh.mp hv).elim (rS v) λz=>rC v (FI z)
   let W1:Nat->St->Hp->Prop:=λj σ H5=>(∃c6,σ=[some (.ref r),some (.ref n),some (.ref d),some (.ref pl),some (.int (i:Int)),some (.ref pt),c6])/\SB d H4 H5/\H5 d=some (.dK (fg (S++cc.take j)))
   refine ⟨_,rfl,pt,rfl,⟨_,SqL.of ept⟩,dW (xs:=cc.map V.int) W1 ⟨⟨_,rfl⟩,SB.refl _ _,by rw[Jj,EN];exact ed4⟩ (λj σ H5 _ z=>SqL.of (z.2.1 _ _ (F8 ndpt) ept)) ?_ ?_⟩
   ·rintro j x σ H5 hx ⟨⟨c6,rfl⟩,sb5,ed5⟩
    rw[En] at hx
    cases ho:cc[j]? with
    | none=>rw[ho] at hx;cases hx
    | some o =>
    rw[ho] at hx
    cases hx
    have tks:cc.take (j+1)=cc.take j++[o]:=by rw[E4,ho];rfl
    have no:o∉S++cc.take j:=λz=>by
     have nd1:=ndj (j+1)
     rw[tks, <- EV,Hz] at nd1
     exact nd1.2.2 o z o (by simp) rfl
    refine ⟨_,rfl,_,rfl,d,_,rfl,jW.k (k:=Sum.inl o) ed5 (by rw[jw];exact bE (by have:=lj j;lia)),⟨_,rfl⟩,sb5.trans (SB.put _),?_⟩
    rw[rO no,ae,tks,EV]
   ·rintro σ H5 ⟨⟨c6,rfl⟩,sb5,ed5⟩
    rw[DY,Et (D6 _)] at ed5
    have ep5:=sb5 _ _ (F8 ndp) ep4
    have ept5:=sb5 _ _ (F8 ndpt) ept
    have s5:ax H1 H5:=λb o e=>sb5 _ _ (aq e hd) (s4 _ _ (s' _ _ e))
    have hp5:∀u∈ps,H5 u.1=some (.tup (u.2.map V.int)):=λu hu=>sb5 _ _ (cZ (s4 _ _ (hp u hu)) ed4 (by intro z;cases z)) (s4 _ _ (hp u hu))
    refine ⟨_,rfl,.inl ⟨rfl,_,SqL.of ep5⟩,_,rfl,pt,_,rfl,.inl ⟨SqL.of ept5,λtt htt =>?_⟩⟩
    have s6:=ag htt (.tup (cc.map V.int))
    have lps:ps.length<=i:=by
     have:=congrArg List.length epp
     rw[DY] at this
     rw[this]
     exact rR _ _ _
    have ett:upd H5 tt (.tup (cc.map V.int)) tt=some (.tup (cc.map V.int)):=ae
    have ntp:∀{b:Addr} {xs:List V},upd H5 tt (.tup (cc.map V.int)) b=some (.tup xs)->b≠pl:=λe=>cZ e (s6 _ _ ep5) (by intro z;cases z)
    refine ⟨pl,_,_,rfl,rfl,s6 _ _ ep5,(by rw[DY];exact bE (by lia)),_,_,_,S++cc,ps++[(tt,cc)],rfl,λb o e =>?_,?_,?_,λu hu =>?_,?_,by have:=ndj cc.length;rwa [Et (D6 _)] at this,λv =>?_⟩
    ·rw[ak (aq e hpl1)];exact s6 _ _ (s5 _ _ e)
    ·rw[ak ndp];exact s6 _ _ ed5
    ·rw[ae,Ee];rfl
    ·rcases Eh.mp hu with z | z
     ·have:=s6 _ _ (hp5 u z)
      rw[ak (ntp this)];exact this
     ·rw[Ef] at z;subst z
      rw[ak (ntp ett)];exact ett
    ·have:=Classical.propDecidable (Fst (ts.map (·.2)) (i:Int))
     rw[ju,if_pos fi,Ee,epp,hcc]
     rfl
    ·rw[Eh,mS v,mc v]
     constructor
     ·rintro (⟨x,xi,hx⟩ | hx)
      ·exact ⟨x,by lia,hx⟩
      ·exact ⟨i,by lia,hx⟩
     ·rintro ⟨x,xi,hx⟩
      by_cases e:x=i
      ·subst e;exact .inr hx
      ·exact .inl ⟨x,by lia,hx⟩
 ·rintro σ H' ⟨c4,c5,c6,S,ps,rfl,s',ed,ep,hp,epp,nS,mS⟩
  exact ⟨_,rfl,q pl H' ps (s1.trans s') hpl0 ep hp (by simpa using epp)⟩
theorem A0:aB ["web"] ["web"] (ao y3):=⟨rfl,rfl,rfl,by decide +kernel,rfl,by decide +kernel,by decide +kernel⟩
theorem A6 (F:Fun K "spare_ties" "spare_ties" y3 f fd)(B:Blt mg)(cH:Cal P w K mg base 2 "hanging_parts" ["web"] mU):bB P w K mg base CX0 3 f fd ["web"] lB:=by
 refine F.ok A0 (λvs H Q E h =>?_) (λcdv A outer s0 H vs Q E hr h =>?_)
 ·obtain ⟨a,b,c,rfl,_⟩:=gO.mp h
  rfl
 obtain ⟨r,m,ts,rfl,W,m4,q⟩:=gO.mp h
 obtain ⟨t,e1,e2⟩:=W.at'
 refine ⟨_,aj (aJ (aN dH (aN jM (av aL rfl B.b_len FQ (aa (aD aG (pv 0) ai (λ_ _=>rfl)) af)) (aD aG (pv 0) ai (λ_ _=>rfl))) (av aL rfl B.b_len FQ (aa (aA cH hr (by decide) rfl (aa (pv 0) af)) af)))),?_⟩
 refine ⟨_,rfl,r,_,1,_,rfl,rfl,SqT.of e1,rfl,t,_,rfl,.inr (SqT.of e2),_,rfl,r,_,0,_,rfl,rfl,SqT.of e1,rfl,_,_,rfl,rfl,_,rfl,fV.mpr ⟨r,m,ts,rfl,W,m4,λl H' os s' _ el _ ep=>⟨l,_,rfl,.inl (SqL.of el),_,_,rfl,rfl,?_⟩⟩⟩
 have:=q H' s'
 rw[<- ep,DY] at this
 rw[DY,DY]
 exact this
end
theorem vA {ns ms:List (List Int)}(h:∀p∈ns,p∈ms){u v:Int}(c:Con ns u v):Con ms u v:=by
 induction c with
 | refl=>exact .refl _
 | step _ a ih =>
  obtain ⟨p,hp,hx⟩:=dO.mp a
  exact .step ih (dO.mpr ⟨p,h p hp,hx⟩)
open Classical in
theorem kJ {ns ms:List (List Int)}{m:Nat}(h:∀u v:Int,Con ns u v↔Con ms u v):bp ns m m=bp ms m m:=by
 have e1:∀u,Fst ns u↔Fst ms u:=λu=>by
  unfold Fst
  exact ⟨λg w h0 h1 c=>g w h0 h1 ((h w u).mpr c),λg w h0 h1 c=>g w h0 h1 ((h w u).mp c)⟩
 have e2:gm ns m=gm ms m:=by
  funext u
  unfold gm
  refine Gh λv _ =>?_
  rw[decide_eq_decide]
  exact h u v
 unfold bp
 rw[e2]
 congr 1
 refine Gh λu _ =>?_
 rw[decide_eq_decide]
 exact e1 u
structure More (m:Nat)(ns ms:List (List Int))(a b:Int):Prop where
 ok:Ok m ns
 mem:∀p,p∈ms↔p∈ns\/p=[a,b]
 a0:0<=a
 ab:a<=b
 bm:b<m
theorem More.ok' {m:Nat}{ns ms:List (List Int)}{a b:Int}(M:More m ns ms a b):Ok m ms:=λp hp=>by
 rcases (M.mem p).mp hp with h | h
 ·exact M.ok p h
 ·exact ⟨a,b,h,M.a0,M.ab,M.bm⟩
theorem More.sub {m:Nat}{ns ms:List (List Int)}{a b:Int}(M:More m ns ms a b){u v:Int}(c:Con ns u v):Con ms u v:=vA (λp hp=>(M.mem p).mpr (.inl hp)) c
theorem More.adj {m:Nat}{ns ms:List (List Int)}{a b:Int}(M:More m ns ms a b){u v:Int}(h:Adj ms u v):Adj ns u v\/(u=a/\v=b)\/(u=b/\v=a):=by
 obtain ⟨p,hp,hx⟩:=dO.mp h
 rcases (M.mem p).mp hp with z | z
 ·exact .inl (dO.mpr ⟨p,z,hx⟩)
 ·subst z
  rcases (k9.mp hx).2 with ⟨h1,h2⟩ | ⟨h1,h2⟩
  ·exact .inr (.inl ⟨h1.symm,h2⟩)
  ·exact .inr (.inr ⟨h1.symm,h2⟩)
theorem More.tie {m:Nat}{ns ms:List (List Int)}{a b:Int}(M:More m ns ms a b):Con ms a b:=qj M.ok' ((M.mem _).mpr (.inr rfl))
theorem More.same {m:Nat}{ns ms:List (List Int)}{a b:Int}(M:More m ns ms a b)(h:Con ns a b)(u v:Int):Con ns u v↔Con ms u v:=by
 refine ⟨M.sub,λc =>?_⟩
 induction c with
 | refl=>exact .refl _
 | step _ x ih =>
  rcases M.adj x with z | ⟨rfl,rfl⟩ | ⟨rfl,rfl⟩
  ·exact .step ih z
  ·exact ih.trans h
  ·exact ih.trans (h.symm M.ok)
theorem More.con {m:Nat}{ns ms:List (List Int)}{a b:Int}(M:More m ns ms a b){u v:Int}(c:Con ms u v):Con ns u v\/(Con ns u a/\Con ns b v)\/(Con ns u b/\Con ns a v):=by
 induction c with
 | refl=>exact .inl (.refl _)
 | step _ x ih =>
  rcases M.adj x with z | ⟨rfl,rfl⟩ | ⟨rfl,rfl⟩
  ·rcases ih with i | ⟨i,j⟩ | ⟨i,j⟩
   ·exact .inl (.step i z)
   ·exact .inr (.inl ⟨i,.step j z⟩)
   ·exact .inr (.inr ⟨i,.step j z⟩)
  ·rcases ih with i | ⟨i,j⟩ | ⟨i,j⟩
   ·exact .inr (.inl ⟨i,.refl _⟩)
   ·exact .inr (.inl ⟨i,.refl _⟩)
   ·exact .inl i
  ·rcases ih with i | ⟨i,j⟩ | ⟨i,j⟩
   ·exact .inr (.inr ⟨i,.refl _⟩)
   ·exact .inl i
   ·exact .inr (.inr ⟨i,.refl _⟩)
theorem oZ {m:Nat}{ns:List (List Int)}(O:Ok m ns){c w:Int}(hc:Fst ns c)(w0:0<=w)(h:Con ns c w):c<=w:=by
 rcases Int.lt_or_le w c with z | z
 ·exact absurd (h.symm O) (hc w w0 z)
 ·exact z
theorem More.fst {m:Nat}{ns ms:List (List Int)}{a b:Int}(M:More m ns ms a b)(h:¬ Con ns a b):∃hi:Int,0<=hi/\hi<m/\Fst ns hi/\∀u:Int,0<=u->u<m->(Fst ms u↔Fst ns u/\u≠hi):=by
 have a0:=M.a0
 have ab:=M.ab
 have bm:=M.bm
 obtain ⟨ra,fa,ra0,ram,ca⟩:=uh M.ok a.toNat a a0 (by lia) (D6 _)
 obtain ⟨rb,fb,rb0,rbm,cb⟩:=uh M.ok b.toNat b (by lia) bm (D6 _)
 have ne:ra≠rb:=λz=>by
  subst z
  exact h ((ca.symm M.ok).trans cb)
 have cab:Con ms ra rb:=((M.sub ca).trans M.tie).trans ((M.sub cb).symm M.ok')
 have key:∀(lo hi:Int),((lo=ra/\hi=rb)\/(lo=rb/\hi=ra))->lo<hi->0<=lo->0<=hi->hi<m->Fst ns hi->Con ms lo hi->∃hi:Int,0<=hi/\hi<m/\Fst ns hi/\∀u:Int,0<=u->u<m->(Fst ms u↔Fst ns u/\u≠hi):=by
  intro lo hi lh lt lo0 hi0 him fh ch
  refine ⟨hi,hi0,him,fh,λu u0 um=>⟨λf=>⟨λw w0 wu c=>f w w0 wu (M.sub c),λz =>?_⟩,λ⟨f,nz⟩ w w0 wu c =>?_⟩⟩
  ·subst z
   exact f lo lo0 lt ch
  ·rcases M.con c with z | ⟨i,j⟩ | ⟨i,j⟩
   ·exact f w w0 wu z
   ·have e:u=rb:=(mP M.ok fb f rb0 u0 (cb.trans j)).symm
    have g:=oZ M.ok fa w0 (ca.trans (i.symm M.ok))
    rcases lh with ⟨x,y⟩ | ⟨x,y⟩ <;> lia
   ·have e:u=ra:=(mP M.ok fa f ra0 u0 (ca.trans j)).symm
    have g:=oZ M.ok fb w0 (cb.trans (i.symm M.ok))
    rcases lh with ⟨x,y⟩ | ⟨x,y⟩ <;> lia
 rcases Int.lt_or_gt_of_ne ne with z | z
 ·exact key ra rb (.inl ⟨rfl,rfl⟩) z ra0 rb0 rbm fb cab
 ·exact key rb ra (.inr ⟨rfl,rfl⟩) z rb0 ra0 ram fa (cab.symm M.ok')
theorem cN (m:Nat):(rgI m).Nodup:=(fT m).imp λ{a b} h=>by lia
theorem kK {p q:Int->Bool}{x:Int}:∀{l:List Int},l.Nodup->x∈l->p x=true->(∀u∈l,q u=(p u && decide (u≠x)))->(l.filter q).length+1=(l.filter p).length
 | [],_,h,_,_=>by cases h
 | y :: l,nd,h,hp,hq=>by
  obtain ⟨n1,n2⟩:=FC.mp nd
  have hy:=hq y D8
  by_cases e:y=x
  ·subst e
   have e2:l.filter q=l.filter p:=Gh λu hu=>by
    rw[hq u (Eg _ hu),decide_eq_true (show u≠y from λz=>n1 (z ▸ hu)),JC]
   rw[Hk,if_neg (by rw[hy];simp),Hk,if_pos hp,e2]
   rfl
  ·have hx:x∈l:=by rcases EB.mp h with z | z;exact absurd z.symm e;exact z
   have ih:=kK n2 hx hp (λu hu=>hq u (Eg _ hu))
   rw[decide_eq_true (show y≠x from e),JC] at hy
   rw[Hk,Hk,hy]
   by_cases hpy:p y=true
   ·rw[if_pos hpy,if_pos hpy,EI,EI, <- ih]
   ·rw[if_neg hpy,if_neg hpy,ih]
theorem ie {ns:List (List Int)}{m:Nat}[DecidablePred (Fst ns)]:(bp ns m m).length=((rgI m).filter λu=>decide (Fst ns u)).length:=by
 unfold bp
 rw[DY]
 congr 1
 refine Gh λu _ =>?_
 rw[decide_eq_decide]
open Classical in
theorem More.less {m:Nat}{ns ms:List (List Int)}{a b:Int}(M:More m ns ms a b)(h:¬ Con ns a b):(bp ms m m).length+1=(bp ns m m).length:=by
 obtain ⟨hi,h0,h1,fh,he⟩:=M.fst h
 rw[ie,ie]
 refine kK (cN m) (aT.mpr ⟨h0,h1⟩) (decide_eq_true fh) λu hu =>?_
 obtain ⟨u0,um⟩:=aT.mp hu
 rw[Gr,decide_eq_true_iff,EO,decide_eq_true_iff,decide_eq_true_iff]
 exact he u u0 um
open Classical in
theorem rT {m:Nat}:∀{ns:List (List Int)},Ok m ns->m<=ns.length+(bp ns m m).length
 | [],_=>by
  rw[ie]
  have e:(rgI m).filter (λu=>decide (Fst [] u))=rgI m:=JQ.mpr λu _=>by
   refine decide_eq_true λw w0 wu c =>?_
   have:∀{x y:Int},Con [] x y->x=y:=by
    intro x y c
    induction c with
    | refl=>rfl
    | step _ a _=>obtain ⟨p,hp,_⟩:=dO.mp a;cases hp
   have:=this c
   lia
  rw[e]
  unfold rgI
  rw[DY,FZ]
  exact Nat.le_add_left _ _
 | p :: ns,O=>by
  obtain ⟨a,b,rfl,a0,ab,bm⟩:=O p D8
  have O':Ok m ns:=λq hq=>O q (Eg _ hq)
  have ih:=rT O'
  have M:More m ns ([a,b] :: ns) a b:=⟨O',λq=>by rw[EB,Or.comm],a0,ab,bm⟩
  rw[EI]
  by_cases c:Con ns a b
  ·rw[<- kJ (M.same c)]
   lia
  ·have:=M.less c
   lia
def off (ps:List Int)(p:List Int):Bool := !decide (p.getD 0 0∈ps) && !decide (p.getD 1 0∈ps)
abbrev ze:Sp:=λvs H Q _=>∃(r p:Addr) (m:Int) (ts:LAz) (ps:List Int),vs=[.ref r,.ref p]/\Wb H r m ts/\(H p=some (.lst (ps.map V.int))\/H p=some (.tup (ps.map V.int))) ∧
 ∀(z:Addr) (us:LAz) (H':Hp),ax H H'->Wb H' z m us->us.map (·.2)=(ts.map (·.2)).filter (off ps)->Q (.ref z) H'
@[irreducible] def rV:Sp:=ze
theorem ig {vs:List V}{H:Hp}{Q:VK}{E:XK}:rV vs H Q E↔ze vs H Q E:=by
 delta rV
 exact FU
section
variable  {P:Eo}{w:ES}{K:D2}{mg:Str->Option D1}{base:Heap}{f:Addr}{fd:Fb}
theorem DR:aB ["web", "places"] ["web", "places"] (ao DQ):=⟨rfl,rfl,rfl,by decide +kernel,rfl,by decide +kernel,by decide +kernel⟩
theorem pf {α β:Type}{g:α -> Bool}{h:α -> β}{l:List α}{i:Nat}{x:α}(e:l[i]? = some x):((l.take (i+1)).filter g).map h=((l.take i).filter g).map h++if g x=true then [h x] else []:=by
 rw[E4,e,F4,Ee]
 congr 1
 show (List.filter g [x]).map h=_
 by_cases c:g x=true
 ·rw[if_pos c,Gf c];rfl
 ·rw[if_neg c,Gg c];rfl
theorem DS (F:Fun K "cut_web" "cut_web" DQ f fd)(B:Blt mg):bB P w K mg base CX0 1 f fd ["web", "places"] rV:=by
 refine F.ok DR (λvs H Q E h =>?_) (λcdv A outer s H vs Q E hr h =>?_)
 ·obtain ⟨a,b,c,d,e,rfl,_⟩:=ig.mp h
  rfl
 obtain ⟨r,p,m,ts,ps,rfl,W,hp,q⟩:=ig.mp h
 obtain ⟨t,e1,e2⟩:=W.at'
 refine ⟨_,aj (aJ (bP (aa (aD aG (pv 0) ai (λ_ _=>rfl)) (aa (aQ bX rfl B.b_tuple IE (aa (bI ["tie", "places"] [none,some 1] rfl (cV (aD aG (pv 0) ai (λ_ _=>rfl))) rfl (λ_ _ _ _ _=>ay (i:=0) y7 rfl (Or.inl rfl))
  (λ_ _ _ _ _=>da (PW.pt (c9 (az (cn (K:=K)) (aD (dM (K:=K)) (pv 0) ai (λ_ _=>rfl)) (pv 1) rfl) (cj (az (cn (K:=K)) (aD (dM (K:=K)) (pv 0) ai (λ_ _=>rfl)) (pv 1) rfl)))))
  (λ_ _ _ _ _=>pv 0)) af)) af)))),?_⟩
 refine ⟨_,rfl,r,_,0,_,rfl,rfl,SqT.of e1,rfl,_,rfl,r,_,1,_,rfl,rfl,SqT.of e1,rfl,t,rfl,⟨_,SqT.of e2⟩,bF (xs:=ts.map λu =>.ref u.1) (λi ys H'=>H'=H/\ys=((ts.take i).filter λu=>off ps u.2).map λu =>.ref u.1) ⟨rfl,rfl⟩ (by rw[DY];exact small (by have:=W.len;lia)) (λi ys H' _ z=>by rw[z.1];exact SqT.of e2) ?_ ?_⟩
 ·rintro i x ys H3 hx hy ⟨rfl,ey⟩ R1 R0 r1 r0
  obtain ⟨u,eu,rfl⟩:=item hx
  have hu:=W.tup u (Eb eu)
  obtain ⟨a,b,e3,_⟩:=W.pr u (Eb eu)
  rw[e3] at hu
  have bb:off ps u.2=(!decide (a∈ps) && !decide (b∈ps)):=by rw[e3];rfl
  have g1:off ps u.2=true->R1 (.ref u.1) H3:=λec=>r1 _ _ ⟨rfl,by rw[pf eu,if_pos ec,ey]⟩
  have g0:off ps u.2=false->R0 H3:=λec=>r0 _ ⟨rfl,by rw[pf eu,if_neg (by rw[ec];exact Ek),ey,EN]⟩
  refine ⟨_,rfl,u.1,_,0,_,rfl,rfl,SqT.of hu,rfl,_,rfl,p,_,rfl,(hp.elim (λz =>.inl (SqL.of z)) (λz =>.inr (SqT.of z))),rfl,aU ps,_,rfl,?_⟩
  show if (if true=true then !inV (.int a) (ps.map V.int) else _)=true then _ else _
  rw[if_pos rfl,bj]
  by_cases ha:a∈ps
  ·rw[decide_eq_true ha] at bb ⊢
   exact aF (aF (g0 bb))
  ·rw[decide_eq_false ha] at bb ⊢
   refine aS ⟨_,rfl,u.1,_,1,_,rfl,rfl,SqT.of hu,rfl,_,rfl,p,_,rfl,(hp.elim (λz =>.inl (SqL.of z)) (λz =>.inr (SqT.of z))),rfl,aU ps,_,rfl,?_⟩
   show if (if true=true then !inV (.int b) (ps.map V.int) else _)=true then _ else _
   rw[if_pos rfl,bj]
   by_cases hb:b∈ps
   ·rw[decide_eq_true hb] at bb ⊢
    exact aF (g0 bb)
   ·rw[decide_eq_false hb] at bb ⊢
    exact aS ⟨_,rfl,g1 bb⟩
 ·rintro ys H3 hy ⟨rfl,ey⟩ l hl
  rw[DY,Et (D6 _)] at ey
  refine ⟨l,_,rfl,.inl ⟨SqL.of ae,λl2 hl2=>⟨(by show 2<=Ei;decide),λz hz =>?_⟩⟩⟩
  subst ey
  have g1:=ag hl (.lst ((ts.filter λu=>off ps u.2).map λu=>V.ref u.1))
  have g2:=ag hl2 (.tup ((ts.filter λu=>off ps u.2).map λu=>V.ref u.1))
  have g3:=ag hz (.tup [.int m,.ref l2])
  have g:=(g1.trans g2).trans g3
  refine q z (ts.filter λu=>off ps u.2) _ g ⟨⟨l2,ae,g3 _ _ ae⟩,λu hu=>g _ _ (W.tup u (Ft.mp hu).1),λu hu=>W.pr u (Ft.mp hu).1,?_⟩ ?_
  ·exact ET (GW _ _) W.len
  ·rw[List.filter_map];rfl
end
def Sub (ns:List (List Int))(P:List Int):List (List Int):=ns.filter (both P)
theorem gP {m:Nat}{ns:List (List Int)}(O:Ok m ns)(P:List Int):Ok m (Sub ns P):=λp hp=>O p (Ft.mp hp).1
theorem A7 {m:Nat}{ns:List (List Int)}(O:Ok m ns){P:List Int}{a b:Int}:[a,b]∈Sub ns P↔[a,b]∈ns/\a∈P/\b∈P:=by
 unfold Sub
 rw[Ft]
 unfold both
 rw[EO,decide_eq_true_iff,decide_eq_true_iff]
 exact FU
theorem vB {m:Nat}{ns:List (List Int)}(O:Ok m ns){P:List Int}{u v:Int}(h:Adj (Sub ns P) u v):u∈P/\v∈P:=by
 obtain ⟨a,b,hp,_,h⟩:=(jt (gP O P)).mp h
 obtain ⟨_,ha,hb⟩:=(A7 O).mp hp
 rcases h with ⟨h1,h2⟩ | ⟨h1,h2⟩ <;> subst h1 h2
 ·exact ⟨ha,hb⟩
 ·exact ⟨hb,ha⟩
theorem zf {m:Nat}{ns:List (List Int)}(O:Ok m ns){P:List Int}{u v:Int}(h:Con (Sub ns P) u v)(hu:u∈P):v∈P:=h.closed hu λ_ _ _ a=>(vB O a).2
theorem A8 {m:Nat}{ns:List (List Int)}(O:Ok m ns){P:List Int}{u v:Int}(h:Con (Sub ns P) u v)(hu:u∉P):v=u:=h.closed (R:=λz=>z=u) rfl λx y e a=>by
 subst e
 exact absurd (vB O a).1 hu
theorem A9 {m:Nat}{ns:List (List Int)}(O:Ok m ns){P:List Int}{u:Int}(hu:u∉P):Fst (Sub ns P) u:=λw w0 wu c=>by
 have:=A8 O (c.symm (gP O P)) hu
 lia
structure bD (m:Nat)(P:List Int):Prop where
 nd:P.Nodup
 rng:∀v∈P,0<=v/\v<(m:Int)
theorem dE {m:Nat}{P:List Int}(S:bD m P):((rgI m).filter λv=>decide (v∈P)).length=P.length:=by
 refine LP ((Il ((cN m).filter _) S.nd).mpr λv =>?_)
 rw[Ft,decide_eq_true_iff,aT]
 exact ⟨λh=>h.2,λh=>⟨S.rng v h,h⟩⟩
theorem fW (q p:Int->Bool):∀l:List Int,(l.filter p).length=(l.filter λv=>q v && p v).length+(l.filter λv => !q v && p v).length
 | []=>rfl
 | x :: l=>by
  rw[Hk,Hk,Hk]
  have ih:=fW q p l
  cases hq:q x <;> cases hp:p x <;> simp[ih] <;> lia
theorem ij {m:Nat}{P:List Int}(S:bD m P):P.length<=m:=by
 rw[<- dE S]
 refine ET (GW _ _) ?_
 unfold rgI
 rw[DY,FZ]
 exact D6 _
theorem cD (m:Nat):(rgI m).length=m:=by unfold rgI;rw[DY,FZ]
open Classical in
noncomputable def trees (ns:List (List Int))(m:Nat)(P:List Int):Nat:=((rgI m).filter λu=>decide (u∈P) && decide (Fst (Sub ns P) u)).length
open Classical in
theorem kM {m:Nat}{ns:List (List Int)}(O:Ok m ns){P:List Int}(S:bD m P):(bp (Sub ns P) m m).length+P.length=trees ns m P+m:=by
 rw[ie,fW (λv=>decide (v∈P)) (λu=>decide (Fst (Sub ns P) u)) (rgI m)]
 have e:((rgI m).filter λv => !decide (v∈P) && decide (Fst (Sub ns P) v))=(rgI m).filter λv => !decide (v∈P):=Gh λv _=>by
  by_cases h:v∈P
  ·rw[decide_eq_true h];rfl
  ·rw[decide_eq_false h,decide_eq_true (A9 O h)];rfl
 rw[e]
 have h1:=fW (λv=>decide (v∈P)) (λ_=>true) (rgI m)
 have e1:(rgI m).filter (λ_=>true)=rgI m:=JQ.mpr λ_ _=>rfl
 rw[e1,cD] at h1
 simp only[JC] at h1
 have h2:=dE S
 unfold trees
 lia
theorem CL (ns:List (List Int))(m:Nat):Lab ns m (rgI m):=by
 have g:∀v:Int,0<=v->v<m->gt (rgI m) v=v:=λv h0 h1=>by
  unfold gt rgI
  rw[Ew,En,JN (by lia)]
  show ((v.toNat:Nat):Int)=v
  lia
 refine ⟨cD m,λv v0 vm =>?_⟩
 rw[g v v0 vm]
 exact ⟨v0,.refl v,Int.le_refl v⟩
theorem zg {m:Nat}{v:Int}(h0:0<=v)(h1:v<m):gt (rgI m) v=v:=by
 unfold gt rgI
 rw[Ew,En,JN (by lia)]
 show ((v.toNat:Nat):Int)=v
 lia
theorem mV {m:Nat}{ns:List (List Int)}(O:Ok m ns){P:List Int}(S:bD m P){v:Int}(hv:v∈P):∃c:Int,c∈P/\Fst (Sub ns P) c/\Con (Sub ns P) c v/\gt (rounds (Sub ns P) P.length (rgI m)) v=c:=by
 have O':=gP O P
 obtain ⟨v0,vm⟩:=S.rng v hv
 obtain ⟨c,fc,c0,cm,cv⟩:=uh O' v.toNat v v0 vm (D6 _)
 have cP:c∈P:=zf O (cv.symm O') hv
 refine ⟨c,cP,fc,cv,?_⟩
 rcases kI O' (CL (Sub ns P) m) fc c0 cm (zg c0 cm) P.length with a | ⟨a1,_⟩
 ·exact a v cv
 ·have lab:=fU O' (CL (Sub ns P) m) P.length
  have:has m (rounds (Sub ns P) P.length (rgI m)) c<=P.length:=by
   unfold has
   rw[List.countP_eq_length_filter]
   have e:((rgI m).filter λv=>decide (gt (rounds (Sub ns P) P.length (rgI m)) v=c))=(((rgI m).filter λv=>decide (v∈P)).filter λv=>decide (gt (rounds (Sub ns P) P.length (rgI m)) v=c)):=by
    rw[Mi]
    refine Gh λu hu =>?_
    obtain ⟨u0,um⟩:=aT.mp hu
    by_cases h:gt (rounds (Sub ns P) P.length (rgI m)) u=c
    ·have:=(lab.con u u0 um).2.1
     rw[h] at this
     rw[decide_eq_true h,decide_eq_true (zf O this cP)]
     rfl
    ·rw[decide_eq_false h];rfl
   rw[e]
   refine ET (GW _ _) ?_
   rw[dE S]
   exact D6 _
  lia
open Classical in
theorem qk {m:Nat}{ns:List (List Int)}(O:Ok m ns){P:List Int}(S:bD m P){us:List Int}(nd:us.Nodup)(hm:∀k,k∈us↔k∈P.map λv=>gt (rounds (Sub ns P) P.length (rgI m)) v):us.length=trees ns m P:=by
 unfold trees
 refine LP ((Il nd ((cN m).filter _)).mpr λx =>?_)
 rw[hm,EK,Ft,EO,decide_eq_true_iff,decide_eq_true_iff]
 constructor
 ·rintro ⟨v,hv,rfl⟩
  obtain ⟨c,cP,fc,_,e⟩:=mV O S hv
  rw[e]
  exact ⟨aT.mpr (S.rng c cP),cP,fc⟩
 ·rintro ⟨hr,hP,hF⟩
  obtain ⟨c,cP,fc,cv,e⟩:=mV O S hP
  exact ⟨x,hP,by rw[e];exact mP (gP O P) fc hF (S.rng c cP).1 (S.rng x hP).1 cv⟩
open Classical in
theorem ql {m:Nat}{ns:List (List Int)}{a b:Int}(O:Ok m ([a,b] :: ns)):([a,b] :: ns).length+(bp ([a,b] :: ns) m m).length=ns.length+(bp ns m m).length+if Con ns a b then 1 else 0:=by
 obtain ⟨a',b',e,a0,ab,bm⟩:=O _ D8
 injection e with e1 e2
 injection e2 with e2 _
 subst e1 e2
 have O':Ok m ns:=λq hq=>O q (Eg _ hq)
 have M:More m ns ([a,b] :: ns) a b:=⟨O',λq=>by rw[EB,Or.comm],a0,ab,bm⟩
 rw[EI]
 by_cases c:Con ns a b
 ·rw[if_pos c, <- kJ (M.same c)]
  lia
 ·rw[if_neg c]
  have:=M.less c
  lia
open Classical in
theorem Ba {m:Nat}{l1 l2:List (List Int)}(h:l1.Sublist l2):Ok m l2->l1.length+(bp l1 m m).length<=l2.length+(bp l2 m m).length:=by
 induction h with
 | slnil=>intro _;exact D6 _
 | cons a h ih =>
  intro O
  have O':Ok m _:=λq hq=>O q (Eg _ hq)
  obtain ⟨x,y,rfl,_⟩:=O a D8
  rw[ql O]
  exact ET (ih O') (GI _ _)
 | cons_cons a h ih =>
  intro O
  have O':Ok m _:=λq hq=>O q (Eg _ hq)
  obtain ⟨x,y,rfl,_⟩:=O a D8
  have O1:Ok m _:=λq (hq:q∈[x,y] :: _)=>O q ((List.Sublist.cons_cons _ h).subset hq)
  rw[ql O,ql O1]
  have i:=ih O'
  rename_i k1 k2 kr
  by_cases c:Con k1 x y
  ·rw[if_pos c,if_pos (vA (λp hp=>h.subset hp) c)]
   lia
  ·rw[if_neg c]
   lia
def cG (ns:List (List Int))(m:Nat)(P:List Int):Prop:=(Sub ns P).length+(bp (Sub ns P) m m).length=m
theorem mW {m:Nat}{ns:List (List Int)}(O:Ok m ns){P:List Int}(S:bD m P):cG ns m P↔(Sub ns P).length+trees ns m P=P.length:=by
 have:=kM O S
 unfold cG
 lia
theorem zh {m:Nat}{ns:List (List Int)}(O:Ok m ns){P R:List Int}(h:∀v∈P,v∈R)(w:cG ns m R):cG ns m P:=by
 have sl:(Sub ns P).Sublist (Sub ns R):=by
  have e:Sub ns P=(Sub ns R).filter (both P):=by
   unfold Sub
   rw[Mi]
   refine Gh λp hp =>?_
   obtain ⟨a,b,rfl,_⟩:=O p hp
   unfold both
   show (decide (a∈P) && decide (b∈P))=((decide (a∈P) && decide (b∈P)) && (decide (a∈R) && decide (b∈R)))
   by_cases h1:a∈P <;> by_cases h2:b∈P
   ·rw[decide_eq_true h1,decide_eq_true h2,decide_eq_true (h a h1),decide_eq_true (h b h2)];rfl
   ·rw[decide_eq_false h2];simp
   ·rw[decide_eq_false h1];simp
   ·rw[decide_eq_false h1];simp
  rw[e]
  exact List.filter_sublist
 have h1:=Ba sl (gP O R)
 have h2:=rT (gP O P)
 unfold cG at w ⊢
 lia
theorem mX {m:Nat}{ns:List (List Int)}(O:Ok m ns):cG ns m []:=by
 have e:Sub ns []=[]:=K0.mpr λp hp=>by
  unfold both
  simp
 have S:bD m []:=⟨Gu,λv hv=>by cases hv⟩
 rw[mW O S,e]
 unfold trees
 have:(rgI m).filter (λu=>decide (u∈([]:List Int)) && @decide (Fst (Sub ns []) u) (Classical.propDecidable _))=[]:=K0.mpr λu _=>by simp
 rw[this]
 rfl
theorem zi {m:Nat}{ns:List (List Int)}(O:Ok m ns){P R:List Int}(h:∀v:Int,0<=v->v<m->(v∈P↔v∉R)):ns.filter (off R)=Sub ns P:=by
 unfold Sub
 refine Gh λp hp =>?_
 obtain ⟨a,b,rfl,a0,ab,bm⟩:=O p hp
 unfold off both
 show (!decide (a∈R) && !decide (b∈R))=(decide (a∈P) && decide (b∈P))
 have h1:=h a a0 (by lia)
 have h2:=h b (by lia) bm
 by_cases x:a∈R <;> by_cases y:b∈R <;> simp[x,y,h1,h2]
def bz (ns:List (List Int))(m:Nat):Prop:=∀k:Int,0<=k->k<m->b8 ns k=3
theorem zj {P:List Int}(nd:P.Nodup):∀{ns:List (List Int)} {m:Nat},Ok m ns->(P.map (b8 ns)).sum=((ns.map λp=>(if p.getD 0 0∈P then (1:Int) else 0)+(if p.getD 1 0∈P then 1 else 0)).sum)
 | [],_,_=>by
  have e:∀l:List Int,(l.map (b8 [])).sum=0:=by
   intro l
   induction l with
   | nil=>rfl
   | cons k l ih=>rw[Ez,Hn,ih];rfl
  rw[e];rfl
 | p :: ns,m,O=>by
  obtain ⟨a,b,rfl,_⟩:=O p D8
  have ih:=zj nd (ns:=ns) (m:=m) λq hq=>O q (Eg _ hq)
  have one:∀(x:Int) (l:List Int),l.Nodup->(l.map λk=>if x=k then (1:Int) else 0).sum=if x∈l then 1 else 0:=by
   intro x l
   induction l with
   | nil=>intro _;simp
   | cons y l ih =>
    intro nd
    obtain ⟨n1,n2⟩:=FC.mp nd
    rw[Ez,Hn,ih n2]
    by_cases e:x=y
    ·subst e
     rw[if_pos rfl,if_neg n1,if_pos D8]
     rfl
    ·rw[if_neg e]
     by_cases h:x∈l
     ·rw[if_pos h,if_pos (Eg _ h)];rfl
     ·rw[if_neg h,if_neg (by rw[EB];intro z;rcases z with z | z;exact e z;exact h z)];rfl
  have two:∀l:List Int,(l.map (b8 ([a,b] :: ns))).sum=(l.map λk=>if a=k then (1:Int) else 0).sum+(l.map λk=>if b=k then (1:Int) else 0).sum+(l.map (b8 ns)).sum:=by
   intro l
   induction l with
   | nil=>rfl
   | cons k l ih =>
    simp only[Ez,Hn]
    rw[ih]
    have:b8 ([a,b] :: ns) k=((if a=k then (1:Int) else 0)+(if b=k then (1:Int) else 0))+b8 ns k:=by
     unfold b8
     rw[Ez,Hn]
     congr 1
     rw[FW,FW,Jk]
     by_cases h1:a=k <;> by_cases h2:b=k <;> simp[h1,h2]
    rw[this]
    lia
  rw[two,one a _ nd,one b _ nd,ih,Ez,Hn]
  rfl
theorem xo {ns:List (List Int)}{m:Nat}(C:bz ns m){P:List Int}(h:∀v∈P,0<=v/\v<(m:Int)):(P.map (b8 ns)).sum=3*(P.length:Int):=by
 induction P with
 | nil=>rfl
 | cons x P ih =>
  rw[Ez,Hn,ih λv hv=>h v (Eg _ hv),C x (h x D8).1 (h x D8).2,EI]
  lia
theorem zk {m:Nat}{P R:List Int}(hP:bD m P)(hR:bD m R)(h:∀v:Int,0<=v->v<m->(v∈P↔v∉R)):P.length+R.length=m:=by
 have h1:=fW (λv=>decide (v∈R)) (λ_=>true) (rgI m)
 have e1:(rgI m).filter (λ_=>true)=rgI m:=JQ.mpr λ_ _=>rfl
 rw[e1,cD] at h1
 simp only[JC] at h1
 rw[dE hR] at h1
 have e2:((rgI m).filter λv => !decide (v∈R))=(rgI m).filter λv=>decide (v∈P):=Gh λv hv=>by
  obtain ⟨v0,vm⟩:=aT.mp hv
  have:=h v v0 vm
  by_cases x:v∈R <;> simp[x,this]
 rw[e2,dE hP] at h1
 lia
def Pot (H:Hp)(p:Addr):Prop:=∃x y:Int,H p=some (.lst [.int x,.int y])
structure But (p:Addr)(H H':Hp):Prop where
 pot:Pot H' p
 st:∀q o,q≠p->H q=some o->H' q=some o
theorem But.refl {p:Addr}{H:Hp}(h:Pot H p):But p H H:=⟨h,λ_ _ _ z=>z⟩
theorem But.trans {p:Addr}{H H1 H2:Hp}(a:But p H H1)(b:But p H1 H2):But p H H2:=⟨b.pot,λq o n z=>b.st q o n (a.st q o n z)⟩
theorem But.same {p:Addr}{H H1 H2:Hp}(a:But p H H1)(b:ax H1 H2):But p H H2:=⟨by obtain ⟨x,y,e⟩:=a.pot;exact ⟨x,y,b _ _ e⟩,λq o n z=>b _ _ (a.st q o n z)⟩
theorem But.put {p:Addr}{H H1:Hp}(a:But p H H1)(x y:Int):But p H (upd H1 p (.lst [.int x,.int y])):=⟨⟨x,y,ae⟩,λq o n z=>by rw[ak n];exact a.st q o n z⟩
theorem But.j4 {p l:Addr}{H H1:Hp}(a:But p H H1)(hl:H l=none)(np:l≠p)(o:HO):But p H (upd H1 l o):=⟨by obtain ⟨x,y,e⟩:=a.pot;exact ⟨x,y,by rw[ak np.symm];exact e⟩,λq u n z=>by rw[ak (aq z hl)];exact a.st q u n z⟩
theorem But.tup {p q:Addr}{H H1:Hp}(a:But p H H1)(h:Pot H p){xs:List V}(t:H q=some (.tup xs)):H1 q=some (.tup xs):=a.st q _ (λz=>by
 subst z
 obtain ⟨_,_,e⟩:=h
 rw[t] at e
 cases e) t
theorem But.wb {p r:Addr}{H H1:Hp}{m:Int}{ts:LAz}(a:But p H H1)(h:Pot H p)(W:Wb H r m ts):Wb H1 r m ts:=W.tp λ_ _ e=>a.tup h e
theorem But.fresh {p:Addr}{H H':Hp}{o:HO}(h:H p=none)(b:But p (upd H p o) H'):ax H H':=λq u e=>by
 have n:q≠p:=aq e h
 refine b.st q u n ?_
 rw[ak n]
 exact e
@[irreducible] def qm (K:D2):Sp:=λvs H Q _=>∃(a:Addr) (ns:List Int) (k:Int),vs=[.ref a,.int k]/\SqL K H a (ns.map V.int)/\0<=k/\k<100/\∀(x y:Int) (p:Addr),H p=none->Q (.ref p) (upd H p (.lst [.int x,.int y]))
theorem iR {K:D2}{vs:List V}{H:Hp}{Q:VK}{E:XK}:qm K vs H Q E↔∃(a:Addr) (ns:List Int) (k:Int),vs=[.ref a,.int k]/\SqL K H a (ns.map V.int)/\0<=k/\k<100/\∀(x y:Int) (p:Addr),H p=none->Q (.ref p) (upd H p (.lst [.int x,.int y])):=by
 delta qm
 exact FU
abbrev vC:Sp:=λvs H Q _=>∃(p:Addr) (m:Int),vs=[.ref p,.int m]/\Pot H p/\0<m/\m<1073741824/\∀(r:Int) (H':Hp),0<=r->r<m->But p H H'->Q (.int r) H'
@[irreducible] def iS:Sp:=vC
theorem aP {vs:List V}{H:Hp}{Q:VK}{E:XK}:iS vs H Q E↔vC vs H Q E:=by
 delta iS
 exact FU
abbrev pg:Sp:=λvs H Q _=>∃(p:Addr) (most:Int),vs=[.ref p,.int most]/\Pot H p/\0<=most/\most<=40/\∀(b:Addr) (h:Nat) (ts:LAz) (H':Hp),But p H H'->Wb H' b ((2*h:Nat):Int) ts->2*h<=40->bz (ts.map (·.2)) (2*h)->Q (.ref b) H'
@[irreducible] def jC:Sp:=pg
theorem fX {vs:List V}{H:Hp}{Q:VK}{E:XK}:jC vs H Q E↔pg vs H Q E:=by
 delta jC
 exact FU
theorem w64:Wd ((10:Int) ^ (64:Int).toNat):=by unfold Wd;decide +kernel
theorem w128:Wd ((10:Int) ^ (64:Int).toNat*(10:Int) ^ (64:Int).toNat):=by unfold Wd;decide +kernel
theorem w192:Wd ((10:Int) ^ (64:Int).toNat*(10:Int) ^ (64:Int).toNat*(10:Int) ^ (64:Int).toNat):=by unfold Wd;decide +kernel
theorem p256:(0:Int)<(10:Int) ^ (64:Int).toNat*(10:Int) ^ (64:Int).toNat*(10:Int) ^ (64:Int).toNat*(10:Int) ^ (64:Int).toNat:=by decide +kernel
section
theorem mY:aB ["script", "k", "cell", "digits"] ["script", "k"] (ao vv):=⟨rfl,rfl,rfl,by decide +kernel,rfl,by decide +kernel,by decide +kernel⟩
theorem CM (F:Fun K "_law_deal" "_law_deal" vv f fd)(ml:mg "len" = none):bB P w K mg base CX0 1 f fd ["script", "k"] (qm K):=by
 refine F.ok mY (λvs H Q E h =>?_) (λcdv A outer s H vs Q E hr h =>?_)
 ·obtain ⟨a,ns,k,rfl,_⟩:=iR.mp h
  rfl
 obtain ⟨a,ns,k,rfl,hS,h0,h1,q⟩:=iR.mp h
 have TD:∃t,PSs (gA CX0 P w K mg base ["script", "k", "cell", "digits"] "_law_deal" (ao vv) f cdv A outer s H E).nox ((bK vv).drop 2) t/\∀(c:Int) (c3:Option V),t { nx:=λ_ H'=>Q .non H',rt:=Q } [some (.ref a),some (.int k),some (.int c),c3] H:=by
  refine ⟨_,ah (aE (i:=3) mY.nd rfl (Or.inl rfl) ai)
   (ah (bq (az Bn (pv 2) (aN jN ai ai) (aM _)) (aj (aE (i:=3) mY.nd rfl (Or.inl rfl) (aN jM (pv 2) (aN jN ai ai)))) aI)
   (aj (aJ (bR (aa (pv 3) (aa (aN gy (aN lM (aN dH (aN dH (aN gy (pv 2) ai) (aN lM ai (pv 1))) ai) ai) ai) af)))))),λc c3 =>?_⟩
  refine ⟨_,rfl,_,_,rfl,rfl,⟨by decide,by decide,by decide⟩,_,_,rfl,rfl,_,rfl,dy (λz =>?_) (λz =>?_)⟩
  ·refine ⟨_,rfl,_,_,rfl,rfl,⟨by decide,by decide,by decide⟩,_,_,rfl,rfl,?_⟩
   refine ⟨_,rfl,_,rfl,_,_,rfl,rfl,(by show (0:Int)<_;decide),_,rfl,_,_,rfl,rfl,.inl ⟨by decide,by decide⟩,_,_,rfl,rfl,_,_,rfl,rfl,_,_,rfl,rfl,.inr ⟨by decide,by decide⟩,_,_,rfl,rfl,(by show (0:Int)<_;decide),(by show 2<=Ei;decide),λp hp=>q _ _ p hp⟩
  ·refine ⟨_,rfl,_,rfl,_,_,rfl,rfl,(by show (0:Int)<_;decide),_,rfl,_,_,rfl,rfl,.inl ⟨by decide,by decide⟩,_,_,rfl,rfl,_,_,rfl,rfl,_,_,rfl,rfl,.inr ⟨by decide,by decide⟩,_,_,rfl,rfl,(by show (0:Int)<_;decide),(by show 2<=Ei;decide),λp hp=>q _ _ p hp⟩
 obtain ⟨tD,pD,gD⟩:=TD
 refine ⟨_,ah (aE (i:=2) mY.nd rfl (Or.inl rfl) ai)
  (ah (bq (az uK (pv 1) (av aL rfl ml FQ (aa (pv 0) af)) (aM _))
   (aj (aE (i:=2) mY.nd rfl (Or.inl rfl) (aN gy (aD ck (pv 0) (pv 1) (λ_ _=>rfl)) (aN qe (aN qe (aN qe (aN jN ai ai) (aN jN ai ai)) (aN jN ai ai)) (aN jN ai ai))))) aI) pD),?_⟩
 refine ⟨_,rfl,_,rfl,a,_,rfl,.inl hS,_,_,rfl,rfl,_,rfl,dy (λc =>?_) (λc=>gD _ _)⟩
 have c':k<((ns.map V.int).length:Int):=of_decide_eq_true c
 rw[DY] at c'
 obtain ⟨n,rfl⟩:∃n:Nat,k=n:=⟨k.toNat,by lia⟩
 obtain ⟨v,hat⟩:∃v,atI (ns.map V.int) (n:Int)=some (.int v):=⟨ns[n]'(by lia),by
  refine fE ?_
  rw[En,Ec (show n<ns.length by lia)]
  rfl⟩
 exact ⟨_,rfl,_,rfl,a,_,n,_,rfl,rfl,hS,hat,_,_,rfl,rfl,⟨by decide,by decide,by decide⟩,_,_,rfl,rfl,⟨by decide,by decide,by decide⟩,_,_,rfl,rfl,⟨w64,w64⟩,_,_,rfl,rfl,⟨by decide,by decide,by decide⟩,_,_,rfl,rfl,⟨w128,w64⟩,
  _,_,rfl,rfl,⟨by decide,by decide,by decide⟩,_,_,rfl,rfl,⟨w192,w64⟩,_,_,rfl,rfl,p256,gD _ _⟩
theorem zo:aB ["pot", "many", "found"] ["pot", "many"] (ao Bz):=⟨rfl,rfl,rfl,by decide +kernel,rfl,by decide +kernel,by decide +kernel⟩
theorem CN (F:Fun K "_law_pick" "_law_pick" Bz f fd):bB P w K mg base CX0 1 f fd ["pot", "many"] iS:=by
 refine F.ok zo (λvs H Q E h =>?_) (λcdv A outer s H vs Q E hr h =>?_)
 ·obtain ⟨p,m,rfl,_⟩:=aP.mp h
  rfl
 obtain ⟨p,m,rfl,⟨x,y,hp⟩,h0,h1,q⟩:=aP.mp h
 refine ⟨_,ah (bq (az n6 (aD ck (pv 0) ai (λ_ _=>rfl)) ai (aM _))
   (ah (aE (i:=2) zo.nd rfl (Or.inl rfl) (aN gy (aD ck (pv 0) ai (λ_ _=>rfl)) (pv 1)))
   (ah (pQ (aN kU (aD ck (pv 0) ai (λ_ _=>rfl)) (pv 1)) (xI (pv 0) ai set_list))
   (aj (aJ (pv 2))))) aI)
  (ah (pQ (aN gy (aN dH (aN lM (aD ck (pv 0) ai (λ_ _=>rfl)) ai) ai) ai) (xI (pv 0) ai set_list))
  (aj (aJ (aN gy (aN kU (aN gy (aN lM (aD ck (pv 0) ai (λ_ _=>rfl)) (aD ck (pv 0) ai (λ_ _=>rfl))) ai) ai) (pv 1))))),?_⟩
 have bt:=But.refl (p:=p) ⟨x,y,hp⟩
 refine ⟨_,rfl,p,_,0,_,rfl,rfl,SqL.of hp,rfl,_,_,rfl,rfl,_,rfl,dy (λc =>?_) (λc =>?_)⟩
 ·refine ⟨_,rfl,p,_,0,_,rfl,rfl,SqL.of hp,rfl,_,rfl,_,_,rfl,rfl,h0,?_⟩
  refine ⟨_,rfl,p,_,0,_,rfl,rfl,SqL.of hp,rfl,_,rfl,_,_,rfl,rfl,⟨h0,h1⟩,_,rfl,p,_,0,0,rfl,rfl,hp,rfl,?_⟩
  refine ⟨_,rfl,?_⟩
  exact q _ _ (JM _ (by lia)) (IW _ h0) (bt.put _ _)
 ·refine ⟨_,rfl,p,_,1,_,rfl,rfl,SqL.of hp,rfl,_,_,rfl,rfl,.inr ⟨by decide,by decide⟩,_,_,rfl,rfl,_,_,rfl,rfl,(by show (0:Int)<_;decide),_,rfl,p,_,1,1,rfl,rfl,hp,rfl,?_⟩
  dsimp only
  have b1:=JM (y*69621+12345) (b:=2147483647) (by decide)
  have b2:=IW (y*69621+12345) (b:=2147483647) (by decide)
  generalize (y*69621+12345)%2147483647=z at b1 b2 ⊢
  have e:([V.int x,V.int y].set 1 (V.int z))=[V.int x,V.int z]:=rfl
  rw[e]
  refine ⟨_,rfl,p,_,1,_,rfl,rfl,SqL.of ae,rfl,_,rfl,p,_,1,_,rfl,rfl,SqL.of ae,rfl,_,_,rfl,rfl,.inl ⟨by lia,by lia⟩,_,_,rfl,rfl,(by show (0:Int)<_;decide),_,_,rfl,rfl,⟨by decide,by decide⟩,_,rfl,_,_,rfl,rfl,h0,?_⟩
  exact q _ _ (JM _ (by lia)) (IW _ h0) (bt.put _ _)
end
theorem cnt_cons (p:List Int)(ns:List (List Int))(k:Int):b8 (p :: ns) k=(p.count k:Int)+b8 ns k:=by unfold b8;rw[Ez,Hn]
theorem zp (ns:List (List Int))(p:List Int)(k:Int):b8 (ns++[p]) k=b8 ns k+(p.count k:Int):=by
 induction ns with
 | nil=>rw[HW,cnt_cons];show _+0=0+_;lia
 | cons q ns ih=>rw[KL,cnt_cons,cnt_cons,ih];lia
theorem zq {ns ms:List (List Int)}(h:ns.Perm ms)(k:Int):b8 ns k=b8 ms k:=by
 induction h with
 | nil=>rfl
 | cons p _ ih=>rw[cnt_cons,cnt_cons,ih]
 | swap p q l=>rw[cnt_cons,cnt_cons,cnt_cons,cnt_cons];lia
 | trans _ _ i1 i2=>rw[i1,i2]
theorem count_erase {k x:Int}:∀{l:List Int} {i:Nat},l[i]? = some x->(l.count k:Int)=((l.eraseIdx i).count k:Int)+if x=k then 1 else 0
 | [],_,h=>by cases h
 | y :: l,0,h=>by
  have:y=x:=by simpa using h
  subst this
  rw[FW]
  show _=((l.count k:Nat):Int)+_
  by_cases e:y=k <;> simp[e]
 | y :: l,i+1,h=>by
  have ih:=count_erase (k:=k) (l:=l) (i:=i) (by simpa using h)
  rw[FW]
  show _=(((y :: l.eraseIdx i).count k:Nat):Int)+_
  rw[FW]
  by_cases e:y=k <;> simp[e] at * <;> omega
theorem xp (a b k:Int):((nrm a b).count k:Int)=(if a=k then 1 else 0)+if b=k then 1 else 0:=by
 have h:∀x y:Int,(([x,y]:List Int).count k:Int)=(if x=k then 1 else 0)+if y=k then 1 else 0:=λx y=>by
  rw[FW,FW,Jk]
  by_cases h1:x=k <;> by_cases h2:y=k <;> simp[h1,h2]
 unfold nrm mnI mxI
 rw[h]
 by_cases c:b<a
 ·have e1:(if b<a then b else a)=b:=if_pos c
  have e2:(if b>a then b else a)=a:=if_neg (by lia)
  rw[e1,e2]
  exact Int.add_comm _ _
 ·have e1:(if b<a then b else a)=a:=if_neg c
  have e2:(if b>a then b else a)=b:=by split <;> lia
  rw[e1,e2]
theorem vD {a b m:Int}(a0:0<=a)(am:a<m)(b0:0<=b)(bm:b<m):∃x y:Int,nrm a b=[x,y]/\0<=x/\x<=y/\y<m:=by
 refine ⟨mnI a b,mxI a b,rfl,?_,?_,?_⟩ <;> (try unfold mnI) <;> (try unfold mxI) <;> (repeat' split) <;> lia
structure TI (m:Nat)(es:List Int)(us:LAz):Prop where
 rng:∀e∈es,0<=e/\e<(m:Int)
 ev:es.length%2=0
 le:es.length+2*us.length=3*m
 cnt:∀k:Int,0<=k->k<m->(es.count k:Int)+b8 (us.map (·.2)) k=3
 pr:∀u∈us,∃x y:Int,u.2=[x,y]/\0<=x/\x<=y/\y<(m:Int)
theorem pk {k:Int}:∀{l:List Int},l.Nodup->k∈l->l.count k=1
 | [],_,h=>by cases h
 | x :: l,nd,h=>by
  obtain ⟨n1,n2⟩:=FC.mp nd
  rw[FW]
  by_cases e:x=k
  ·subst e
   rw[List.count_eq_zero.mpr n1]
   simp
  ·rcases EB.mp h with z | z
   ·exact absurd z.symm e
   ·rw[pk n2 z]
    simp[e]
theorem nP {m:Nat}{out:List Int}(p:out.Perm (Fc 3 (rgI m)).flatten):(∀e∈out,0<=e/\e<(m:Int))/\out.length=3*m/\∀k:Int,0<=k->k<m->(out.count k:Int)=3:=by
 have e:(Fc 3 (rgI m)).flatten=rgI m++(rgI m++(rgI m++[])):=rfl
 rw[e] at p
 refine ⟨λx hx =>?_,?_,λk k0 km =>?_⟩
 ·have:=p.mem_iff.mp hx
  simp at this
  exact aT.mp this
 ·rw[p.length_eq]
  simp[cD]
  lia
 ·have c1:(rgI m).count k=1:=pk (cN m) (aT.mpr ⟨k0,km⟩)
  rw[p.count_eq,HD,HD,HD,c1,Jk]
  rfl
theorem zt (m:Nat):(Fc 3 ((rgI m).map V.int)).flatten=((Fc 3 (rgI m)).flatten).map V.int:=by
 show (rgI m).map V.int++((rgI m).map V.int++((rgI m).map V.int++[]))=(rgI m++(rgI m++(rgI m++[]))).map V.int
 simp
def Bb (H:Hp)(y:Addr):Nat:=match H y with | some (.lst xs)=>xs.length | _=>0
section
theorem pq (m:Nat):((E2 m).map λi=>V.int (i:Nat))=(rgI m).map V.int:=by unfold rgI;rw[G6];rfl
theorem fj:aB ["pot", "most", "many", "ends", "ties", "a", "b"] ["pot", "most"] (ao vw):=⟨rfl,rfl,rfl,by decide +kernel,rfl,by decide +kernel,by decide +kernel⟩
theorem zu (F:Fun K "_law_threes" "_law_threes" vw f fd)(B:Blt mg)(mso:mg "sorted" = none)(mx:mg "max" = none)(mn:mg "min" = none)(C:Cal P w K mg base 1 "_law_pick" ["pot", "many"] iS):bB P w K mg base CX0 2 f fd ["pot", "most"] jC:=by
 refine F.ok fj (λvs H Q E h =>?_) (λcdv A outer s H vs Q E hr h =>?_)
 ·obtain ⟨_,_,rfl,_⟩:=fX.mp h
  rfl
 obtain ⟨p,most,rfl,hp,h0,h4,q⟩:=fX.mp h
 refine ⟨_,ah (aE (i:=2) fj.nd rfl (Or.inl rfl) (aN lM ai (aA C hr (by decide) rfl (aa (pv 0) (aa (aN dH (aN kU (pv 1) ai) ai) af)))))
  (ah (aE (i:=3) fj.nd rfl (Or.inl rfl) (av fK rfl mso cw (aa (aN B2 (aQ (mq hr.hd) rfl B.b_list PySem.Pv.boot_list (aa (aQ dA rfl B.b_range gJ (aa (pv 2) af)) af)) ai) af)))
  (ah (aE (i:=4) fj.nd rfl (Or.inl rfl) (bR af))
  (ah (qD Fl (az (AE hr) (pv 3) (bR af) (aM _))
   (ah (aE (i:=5) fj.nd rfl (Or.inl rfl) (xV EM HZ Ia xX (pv 3)))
   (ah (aE (i:=6) fj.nd rfl (Or.inl rfl) (eC EM HZ Ia qI (pv 3) (aa (aA C hr (by decide) rfl (aa (pv 0) (aa (av aL rfl B.b_len FQ (aa (pv 3) af)) af))) af)))
   (aj (bA (eC EM FN FO cK (pv 4) (aa (bP (aa (av (hU rfl) rfl mn mL (aa (pv 5) (aa (pv 6) af))) (aa (av (jP rfl) rfl mx t9 (aa (pv 5) (aa (pv 6) af))) af))) af)))))))
  (aj (aJ (bP (aa (pv 2) (aa (aQ bX rfl B.b_tuple IE (aa (av fL rfl mso cw (aa (pv 4) af)) af)) af))))))))  ,?_⟩
 refine ⟨_,rfl,_,rfl,_,_,rfl,rfl,⟨by decide,by decide⟩,_,_,rfl,rfl,aP.mpr ⟨p,most/2+1,rfl,hp,by lia,by lia,λd H1 d0 d1 b1 =>?_⟩⟩
 obtain ⟨hh,rfl⟩:∃n:Nat,d=n:=⟨d.toNat,by lia⟩
 refine ⟨_,_,rfl,rfl,.inl ⟨by decide,by decide⟩,?_⟩
 have em:(2:Int)*(hh:Int)=((2*hh:Nat):Int):=by lia
 dsimp only
 rw[em]
 have hm:2*hh<=40:=by lia
 have hev:(2*hh)%2=0:=by lia
 have q':∀(b:Addr) (ts:LAz) (H':Hp),But p H H'->Wb H' b ((2*hh:Nat):Int) ts->bz (ts.map (·.2)) (2*hh)->Q (.ref b) H':=λb ts H' h1 h2 h3=>q b hh ts H' h1 h2 hm h3
 clear q
 generalize 2*hh=m at hm hev q' ⊢
 refine ⟨_,rfl,(m:Int),rfl,λa ha=>⟨a,m,rfl,ae,by lia,λl hl =>?_⟩⟩
 rw[pq]
 have g1:=(ag ha (.rng 0 (m:Int))).trans (ag hl (.lst ((rgI m).map V.int)))
 refine ⟨l,3,_,rfl,rfl,ae,by decide,by decide,?_,λl2 hl2 =>?_⟩
 ·rw[DY,cD]
  exact small (by show m*3<=1000;lia)
 have er:(Fc (3:Int).toNat ((rgI m).map V.int)).flatten=((Fc 3 (rgI m)).flatten).map V.int:=zt m
 rw[er]
 have g2:=g1.trans (ag hl2 (.lst (((Fc 3 (rgI m)).flatten).map V.int)))
 refine ⟨l2,_,rfl,.inl (SqL.of ae),λle out hle po ps =>?_⟩
 obtain ⟨o1,o2,o3⟩:=nP po
 have g3:=g2.trans (ag hle (.lst (out.map V.int)))
 have hle1:H1 le=none:=g2.free hle
 refine ⟨(by show 0<=Ei;decide),λlt hlt =>?_⟩
 have g4:=g3.trans (ag hlt (.lst []))
 have hlt1:H1 lt=none:=g3.free hlt
 have nle:le≠lt:=aq ae hlt
 have ele:=(ag hlt (.lst [])) _ _ (show upd _ le (.lst (out.map V.int)) le=some (.lst (out.map V.int)) from ae)
 have elt:upd _ lt (.lst []) lt=some (.lst []):=ae (H:=upd (upd (upd (upd H1 a (.rng 0 (m:Int))) l (.lst ((rgI m).map V.int))) l2 (.lst (((Fc 3 (rgI m)).flatten).map V.int))) le (.lst (out.map V.int)))
 generalize upd (upd (upd (upd (upd H1 a (.rng 0 (m:Int))) l (.lst ((rgI m).map V.int))) l2 (.lst (((Fc 3 (rgI m)).flatten).map V.int))) le (.lst (out.map V.int))) lt (.lst [])=H2 at g4 ele elt ⊢
 have nlep:le≠p:=λz=>by
  subst z
  obtain ⟨_,_,e⟩:=b1.pot
  rw[hle1] at e
  cases e
 have nltp:lt≠p:=λz=>by
  subst z
  obtain ⟨_,_,e⟩:=b1.pot
  rw[hlt1] at e
  cases e
 have hle0:H le=none:=by
  cases e:H le with
  | none=>rfl
  | some o=>rw[b1.st _ _ nlep e] at hle1;cases hle1
 have hlt0:H lt=none:=by
  cases e:H lt with
  | none=>rfl
  | some o=>rw[b1.st _ _ nltp e] at hlt1;cases hlt1
 refine qF (λσ H'=>∃(es:List Int) (us:LAz) (c5 c6:Option V),σ=[some (.ref p),some (.int most),some (.int m),some (.ref le),some (.ref lt),c5,c6]/\But p H H'/\H' le=some (.lst (es.map V.int))/\H' lt=some (.lst (us.map λu =>.ref u.1))/\(∀u∈us,H' u.1=some (.tup (u.2.map V.int)))/\TI m es us) (λ_ H'=>Bb H' le)
  ⟨out,[],none,none,rfl,b1.same g4,ele,elt,(λu hu=>by cases hu),⟨o1,by lia,by rw[o2];rfl,λk k0 km=>by rw[o3 k k0 km];rfl,(λu hu=>by cases hu)⟩⟩ ?_ ?_
 ·rintro σ H3 ⟨es,us,c5,c6,rfl,b3,e3,t3,u3,I⟩
  refine ⟨_,rfl,(by show 0<=Ei;decide),λz hz =>?_⟩
  have gz:=ag hz (.lst [])
  have e4:=gz _ _ e3
  have t4:=gz _ _ t3
  have u4:∀u∈us,upd H3 z (.lst []) u.1=some (.tup (u.2.map V.int)):=λu hu=>gz _ _ (u3 u hu)
  have b4:=b3.same gz
  have z4:upd H3 z (.lst []) z=some (.lst (([]:List Int).map V.int)):=ae
  have mu:Bb H3 le=es.length:=by unfold Bb;rw[e3];simp
  generalize upd H3 z (.lst [])=H4 at e4 t4 u4 b4 z4
  refine ⟨le,z,es,[],rfl,rfl,SqL.of e4,SqL.of z4,_,rfl,dy (λc =>?_) (λc =>?_)⟩
  ·have ne:es≠[]:=by simpa using c
   rcases Ld es with hY | ⟨es',x,hY⟩
   ·exact absurd hY ne
   rw[Lf] at hY
   subst hY
   have l1:(es'++[x]).length=es'.length+1:=by rw[D7];rfl
   have iv:=I.ev
   have il:=I.le
   rw[l1] at iv il
   refine ⟨_,rfl,.inl ⟨rfl,_,SqL.of e4⟩,le,_,.int x,rfl,rfl,e4,?_,?_⟩
   ·rw[DY,l1,Ee]
    show (es'.map V.int++[V.int x])[es'.length+1-1]? = _
    rw[Md,Gj (by rw[DY];exact D6 _),DY,Nat.sub_self]
    rfl
   have ed:((es'++[x]).map V.int).dropLast=es'.map V.int:=by rw[Ee];exact Lz
   rw[ed]
   have b5:=b4.j4 hle0 nlep (.lst (es'.map V.int))
   have e5:upd H4 le (.lst (es'.map V.int)) le=some (.lst (es'.map V.int)):=ae
   have t5:upd H4 le (.lst (es'.map V.int)) lt=some (.lst (us.map λu =>.ref u.1)):=by rw[ak nle.symm];exact t4
   have u5:∀u∈us,upd H4 le (.lst (es'.map V.int)) u.1=some (.tup (u.2.map V.int)):=λu hu=>by
    rw[ak (cZ (u4 u hu) e4 (by intro z;cases z))]
    exact u4 u hu
   generalize upd H4 le (.lst (es'.map V.int))=H5 at b5 e5 t5 u5
   refine ⟨_,rfl,.inl ⟨rfl,_,SqL.of e5⟩,_,rfl,_,rfl,le,_,rfl,.inl (SqL.of e5),aP.mpr ⟨p,_,rfl,b5.pot,by rw[DY];lia,by rw[DY];lia,λd H6 d0 d1 b6 =>?_⟩⟩
   rw[DY] at d1
   have e6:=b6.st _ _ nlep e5
   have t6:=b6.st _ _ nltp t5
   have u6:∀u∈us,H6 u.1=some (.tup (u.2.map V.int)):=λu hu=>b6.tup b5.pot (u5 u hu)
   obtain ⟨i,rfl⟩:∃n:Nat,d=n:=⟨d.toNat,by lia⟩
   obtain ⟨y,ey⟩:∃y,es'[i]? = some y:=⟨_,Ec (show i<es'.length by lia)⟩
   refine ⟨le,_,(i:Int),i,.int y,rfl,rfl,e6,by lia,by lia,?_,by rw[En,ey];rfl,?_⟩
   ·refine (kZ (n:=(es'.map V.int).length) (i:=(i:Int)) (j:=i) ?_).1
    unfold ixN
    rw[if_pos (by lia),if_pos (by rw[DY];lia)]
    rfl
   have ee:(es'.map V.int).eraseIdx i=(es'.eraseIdx i).map V.int:=by
    have g:∀(l:List Int) (n:Nat),(l.map V.int).eraseIdx n=(l.eraseIdx n).map V.int:=by
     intro l
     induction l with
     | nil=>intro n;rfl
     | cons a l ih =>
      intro n
      cases n with
      | zero=>rfl
      | succ n=>show V.int a :: _=V.int a :: _;rw[ih n]
    exact g es' i
   rw[ee]
   have b7:=(b5.trans b6).j4 hle0 nlep (.lst ((es'.eraseIdx i).map V.int))
   have e7:upd H6 le (.lst ((es'.eraseIdx i).map V.int)) le=some (.lst ((es'.eraseIdx i).map V.int)):=ae
   have t7:upd H6 le (.lst ((es'.eraseIdx i).map V.int)) lt=some (.lst (us.map λu =>.ref u.1)):=by rw[ak nle.symm];exact t6
   have u7:∀u∈us,upd H6 le (.lst ((es'.eraseIdx i).map V.int)) u.1=some (.tup (u.2.map V.int)):=λu hu=>by
    rw[ak (cZ (u6 u hu) e6 (by intro z;cases z))]
    exact u6 u hu
   generalize upd H6 le (.lst ((es'.eraseIdx i).map V.int))=H7 at b7 e7 t7 u7
   refine ⟨_,rfl,.inl ⟨rfl,_,SqL.of t7⟩,_,rfl,_,rfl,_,_,rfl,_,rfl,_,rfl,_,_,rfl,(by show 2<=Ei;decide),λtn htn =>?_⟩
   have en:([V.int (if y<x then y else x),V.int (if y>x then y else x)]:List V)=(nrm x y).map V.int:=rfl
   rw[en]
   have gn:=ag htn (.tup ((nrm x y).map V.int))
   refine ⟨lt,_,.ref tn,rfl,rfl,gn _ _ t7,?_,?_⟩
   ·rw[DY]
    have:us.length<=100:=by lia
    exact GZ this (bE (by lia))
   have rx:=I.rng x (by simp)
   have ry:=I.rng y (by simp;exact .inl (Eb ey))
   have nlt:tn≠lt:=λz=>by rw[z,t7] at htn;cases htn
   have nlE:tn≠le:=λz=>by rw[z,e7] at htn;cases htn
   refine ⟨⟨es'.eraseIdx i,us++[(tn,nrm x y)],_,_,rfl,(b7.same gn).j4 hlt0 nltp _,?_,?_,λu hu =>?_,⟨λe he =>?_,?_,?_,λk k0 km =>?_,λu hu =>?_⟩⟩,?_⟩
   ·rw[ak nle];exact gn _ _ e7
   ·rw[ae,Ee];rfl
   ·rcases Eh.mp hu with z | z
    ·rw[ak (cZ (gn _ _ (u7 u z)) (gn _ _ t7) (by intro z;cases z))]
     exact gn _ _ (u7 u z)
    ·have:u=(tn,nrm x y):=by simpa using z
     subst this
     rw[ak nlt]
     exact ae
   ·exact I.rng e (by simp;exact .inl (Kq he))
   ·rw[Im (by lia)];lia
   ·rw[Im (by lia),D7]
    show es'.length-1+2*(us.length+1)=3*m
    lia
   ·have hc:=I.cnt k k0 km
    have h1:=count_erase (k:=k) ey
    rw[HD] at hc
    have h2:(([x]:List Int).count k:Int)=if x=k then 1 else 0:=by
     rw[FW,Jk]
     by_cases e:x=k <;> simp[e]
    rw[Ee]
    show _+b8 (us.map (·.2)++[nrm x y]) k=3
    rw[zp,xp]
    push_cast at hc
    lia
   ·rcases Eh.mp hu with z | z
    ·exact I.pr u z
    ·have:u=(tn,nrm x y):=by simpa using z
     subst this
     exact vD rx.1 rx.2 ry.1 ry.2
   ·rw[mu,l1]
    unfold Bb
    rw[ak nle,gn _ _ e7]
    show ((es'.eraseIdx i).map V.int).length<_
    rw[DY,Im (by lia)]
    lia
  ·have e0:es=[]:=by simpa using c
   subst e0
   have il:=I.le
   have nn:∀u∈us,u.2≠[]:=λu hu z=>by
    obtain ⟨a,b,e,_⟩:=I.pr u hu
    rw[z] at e
    cases e
   refine ⟨_,rfl,_,rfl,lt,us,rfl,.inl (SqL.of t4),λu hu=>⟨SqT.of (u4 u hu),nn u hu⟩,λl5 out5 hl5 po5 ps5 =>?_⟩
   have h1:=ag hl5 (.lst (out5.map λt =>.ref t.1))
   refine ⟨l5,_,rfl,.inl ⟨SqL.of ae,λl6 hl6=>⟨(by show 2<=Ei;decide),λb hb =>?_⟩⟩⟩
   have h2:=ag hl6 (.tup (out5.map λt =>.ref t.1))
   have h3:=ag hb (.tup [.int (m:Int),.ref l6])
   have hh:=(h1.trans h2).trans h3
   refine q' b out5 _ (b4.same hh) ⟨⟨l6,ae,h3 _ _ ae⟩,λu hu=>hh _ _ (u4 u (po5.mem_iff.mp hu)),λu hu=>I.pr u (po5.mem_iff.mp hu),?_⟩ λk k0 km =>?_
   ·rw[po5.length_eq]
    have:us.length<=200:=by
     have:0+2*us.length=3*m:=il
     lia
    exact this
   ·rw[zq (po5.map (·.2))]
    have:=I.cnt k k0 km
    have z:(([]:List Int).count k:Int)=0:=rfl
    lia
 ·rintro σ H' Q1 Q2 hQ ⟨v,e1,l0,r⟩
  refine ⟨v,e1,l0,λz hz =>?_⟩
  obtain ⟨a,b,ns,ms,x1,x2,x3,x4,b2,x5,x6⟩:=r z hz
  exact ⟨a,b,ns,ms,x1,x2,x3,x4,b2,x5,hQ _ _ x6⟩
end
theorem vE {K:D2}{a:Addr}{xs:List V}{g:TG}{tb:TS}{D:Ends}{σ:St}{H:Hp}(Pv:Nat->St->Hp->Prop)(hp:H a=some (.lst xs)\/H a=some (.tup xs))(h0:Pv 0 σ H)(hl:∀i σ H',Pv i σ H'->H' a=H a)
  (hs:∀i x σ H,xs[i]? = some x->Pv i σ H->g x σ H λσ2 H2=>tb { D with nx:=Pv (i+1),ct:=Pv (i+1),bk:=D.nx } σ2 H2) (hd:∀σ H,Pv xs.length σ H->D.nx σ H) :
  ((∃xs,SqL K H a xs)/\B9 (Itl K a) g tb D σ H)\/((∃xs,SqT K H a xs)/\B9 (Itt K a) g tb D σ H):=by
 rcases hp with hp | hp
 ·exact .inl ⟨⟨_,SqL.of hp⟩,dW Pv h0 (λi σ H' _ z=>SqL.of ((hl i σ H' z).trans hp)) hs hd⟩
 ·exact .inr ⟨⟨_,SqT.of hp⟩,pS Pv h0 (λi σ H' _ z=>SqT.of ((hl i σ H' z).trans hp)) hs hd⟩
def fk (P:List Int)(L:List Int):List (Key×V):=P.map λv=>(Sum.inl v,V.int (gt L v))
theorem mZ (P L:List Int):(fk P L).length=P.length:=by unfold fk;rw[DY]
theorem m6 (L:List Int)(a:Int):∀P:List Int,bT (fk P L) (Sum.inl a)=if a∈P then some (.int (gt L a)) else none
 | []=>rfl
 | v :: P=>by
  have ih:=m6 L a P
  unfold fk bT at ih ⊢
  rw[Ez,Hy]
  by_cases e:v=a
  ·subst e
   simp
  ·have e':(Sum.inl v:Key)≠Sum.inl a:=λz=>e (Kr z)
   simp only[decide_eq_false e']
   rw[ih]
   by_cases h:a∈P
   ·rw[if_pos h,if_pos (Eg _ h)]
   ·rw[if_neg h,if_neg (by rw[EB];intro z;rcases z with z | z;exact e z.symm;exact h z)]
theorem rW {P L:List Int}{a x:Int}(h:a∈P)(hr:∀v∈P,0<=v/\v<(L.length:Int)):putK (fk P L) (Sum.inl a) (.int x)=fk P (L.set a.toNat x):=by
 unfold putK
 have hk:((fk P L).any λkv=>decide (kv.1=(Sum.inl a:Key)))=true:=by
  rw[Hj]
  exact ⟨(Sum.inl a,.int (gt L a)),EK.mpr ⟨a,h,rfl⟩,decide_eq_true rfl⟩
 rw[if_pos hk]
 unfold fk
 rw[G6]
 refine LO λv hv =>?_
 have ra:=hr a h
 have rv:=hr v hv
 show (if (Sum.inl v:Key)=Sum.inl a then (Sum.inl v,V.int x) else (Sum.inl v,V.int (gt L v)))=(Sum.inl v,V.int (gt (L.set a.toNat x) v))
 rw[ud ra rv.1]
 by_cases e:v=a
 ·subst e
  rw[if_pos rfl,if_pos rfl]
 ·rw[if_neg (λz=>e (Kr z)),if_neg e]
theorem zw {P L:List Int}{v:Int}(h:v∉P)(x:Int)(e:gt L v=x):putK (fk P L) (Sum.inl v) (.int x)=fk (P++[v]) L:=by
 unfold putK
 have hk:¬ ((fk P L).any λkv=>decide (kv.1=(Sum.inl v:Key)))=true:=by
  rw[Hj]
  rintro ⟨kv,hkv,z⟩
  obtain ⟨u,hu,rfl⟩:=EK.mp hkv
  have:=of_decide_eq_true z
  exact h (Kr this ▸ hu)
 rw[if_neg hk]
 unfold fk
 rw[Ee, <- e]
 rfl
abbrev px:Sp:=λvs H Q _=>∃(x:Int) (t p:Addr) (m:Nat) (ts:LAz) (R:List Int),vs=[.int x,.ref t,.ref p]/\(H t=some (.lst (ts.map λu =>.ref u.1))\/H t=some (.tup (ts.map λu =>.ref u.1)))/\(∀u∈ts,H u.1=some (.tup (u.2.map V.int)))/\Ok m (ts.map (·.2))/\m<=400/\H p=some (.lst (R.map V.int))/\bD m R ∧
 ∀(d:Addr) (H':Hp),ax H H'->H d=none->H' d=some (.dK (fk R (rounds (Sub (ts.map (·.2)) R) R.length (rgI m))))->Q (.ref d) H'
@[irreducible] def jD:Sp:=px
theorem fY {vs:List V}{H:Hp}{Q:VK}{E:XK}:jD vs H Q E↔px vs H Q E:=by
 delta jD
 exact FU
abbrev rX:Sp:=λvs H Q _=>∃(r p:Addr) (m:Nat) (ts:LAz) (R:List Int),vs=[.ref r,.ref p]/\Wb H r m ts/\m<=250/\H p=some (.lst (R.map V.int))/\bD m R/\∀H',ax H H'->Q (.int (trees (ts.map (·.2)) m R:Nat)) H'
@[irreducible] def lC:Sp:=rX
theorem gQ {vs:List V}{H:Hp}{Q:VK}{E:XK}:lC vs H Q E↔rX vs H Q E:=by
 delta lC
 exact FU
theorem rY {α:Type}{g:α -> Bool}{l:List α}{i:Nat}{x:α}(e:l[i]? = some x):(l.take (i+1)).filter g=(l.take i).filter g++if g x=true then [x] else []:=by
 rw[E4,e,F4]
 congr 1
 show List.filter g [x]=_
 by_cases c:g x=true
 ·rw[if_pos c,Gf c];rfl
 ·rw[if_neg c,Gg c];rfl
section
theorem d9:aB ["many", "ties", "places", "first", "place", "turn", "a", "b", "least"] ["many", "ties", "places"] (ao qh):=⟨rfl,rfl,rfl,by decide +kernel,rfl,by decide +kernel,by decide +kernel⟩
theorem zx (F:Fun K "_law_joined" "_law_joined" qh f fd)(B:Blt mg)(mn:mg "min" = none):bB P w K mg base CX0 1 f fd ["many", "ties", "places"] jD:=by
 refine F.ok d9 (λvs H Q E h =>?_) (λcdv A outer s H vs Q E hr h =>?_)
 ·obtain ⟨_,_,_,_,_,_,rfl,_⟩:=fY.mp h
  rfl
 obtain ⟨x,t,p,m,ts,R,rfl,ht,htu,O,m4,hp,S,q⟩:=fY.mp h
 have hu:(gA CX0 P w K mg base ["many", "ties", "places", "first", "place", "turn", "a", "b", "least"] "_law_joined" (ao qh) f cdv A outer s H E).nox.A.units+1<cLine:=oo hr
 have lR:=ij S
 refine ⟨_,ah (aE (i:=3) d9.nd rfl (Or.inl rfl) rp)
  (ah (cf Fl rfl (dg (pv 2)) (ay (i:=4) d9.nd rfl (Or.inl rfl)) (aj (fO hu (pv 3) (pv 4) (pv 4) rfl)))
  (ah (cf Fl rfl (bu rfl B.b_range (aa (av aL rfl B.b_len FQ (aa (pv 2) af)) af)) (ay (i:=5) d9.nd rfl (Or.inl rfl))
   (aj (cf Fl rfl (pX (pv 1)) (pP rfl (dw (ay (i:=6) d9.nd rfl (Or.inl rfl)) (dw (ay (i:=7) d9.nd rfl (Or.inl rfl)) kT)))
    (aj (bq (PW.pt (c9 (pN (yy hu (pv 6) (pv 3))) (cj (pN (yy hu (pv 7) (pv 3))))))
     (ah (aE (i:=8) d9.nd rfl (Or.inl rfl) (av (hU rfl) rfl mn mL (aa (ib hu (pv 3) (pv 6) (λ_ _=>rfl)) (aa (ib hu (pv 3) (pv 7) (λ_ _=>rfl)) af))))
     (ah (fO hu (pv 3) (pv 6) (pv 8) rfl) (aj (fO hu (pv 3) (pv 7) (pv 8) rfl)))) aI)))))
  (aj (aJ (pv 3))))),?_⟩
 intro d hd
 have g0:=ag hd (.dK [])
 have ed0:upd H d (.dK []) d=some (.dK (fk (R.take 0) (rgI m))):=ae
 generalize upd H d (.dK [])=H1 at g0 ed0
 let W0:Nat->St->Hp->Prop:=λi σ H'=>(∃c4 c5 c6 c7 c8,σ=[some (.int x),some (.ref t),some (.ref p),some (.ref d),c4,c5,c6,c7,c8])/\ax H H'/\H' d=some (.dK (fk (R.take i) (rgI m)))
 refine ⟨_,rfl,p,rfl,⟨_,SqL.of (g0 _ _ hp)⟩,dW (xs:=R.map V.int) W0 ⟨⟨_,_,_,_,_,rfl⟩,g0,ed0⟩ (λi σ H' _ k=>SqL.of (k.2.1 _ _ hp)) ?_ ?_⟩
 ·rintro i v σ H2 hv ⟨⟨c4,c5,c6,c7,c8,rfl⟩,s2,e2⟩
  rw[En] at hv
  cases ev:R[i]? with
  | none=>rw[ev] at hv;cases hv
  | some u =>
   rw[ev] at hv
   have:V.int u=v:=E1 hv
   subst this
   have li:i<R.length:=(Ea.mp ev).1
   have nu:u∉R.take i:=λz=>by
    obtain ⟨j,hj,ej⟩:=Hb z
    rw[Ff] at hj
    rw[Mz] at ej
    have h1:R[i]=u:=by
     have:=Ea.mp ev
     exact this.2
    have:=Gs.mp S.nd j i (by lia) li (by lia)
    exact this (ej.trans h1.symm)
   have ru:=S.rng u (Eb ev)
   refine ⟨_,rfl,_,rfl,_,rfl,d,_,rfl,jW.k (k:=Sum.inl u) e2 (by rw[mZ];exact GZ (LQ _ _) (bE (by lia))),⟨_,_,_,_,_,rfl⟩,λb o e =>?_,?_⟩
   ·rw[ak (aq e hd)];exact s2 _ _ e
   ·rw[ae,zw nu u (zg ru.1 ru.2),E4,ev]
    rfl
 rintro σ H2 ⟨⟨c4,c5,c6,c7,c8,rfl⟩,s2,e2⟩
 rw[DY,Et (D6 _)] at e2
 refine ⟨_,rfl,p,_,rfl,.inl (SqL.of (s2 _ _ hp)),((R.map V.int).length:Int),rfl,by lia,by rw[DY];lia,dQ (λk σ H'=>(∃c4 c5 c6 c7 c8,σ=[some (.int x),some (.ref t),some (.ref p),some (.ref d),c4,c5,c6,c7,c8])/\ax H H'/\H' d=some (.dK (fk R (rounds (Sub (ts.map (·.2)) R) k (rgI m))))) ⟨⟨_,_,_,_,_,rfl⟩,s2,e2⟩ ?_ ?_⟩
 ·rintro k σ H3 hk ⟨⟨c4,c5,c6,c7,c8,rfl⟩,s3,e3⟩
  have labk:=fU (gP O R) (CL (Sub (ts.map (·.2)) R) m) k
  have e3':H3 d=some (.dK (fk R ((((ts.take 0).map (·.2)).filter (both R)).foldl lower (rounds (Sub (ts.map (·.2)) R) k (rgI m))))):=e3
  refine ⟨_,rfl,t,rfl,vE (xs:=ts.map λu =>.ref u.1) (λj σ H4=>(∃c4 c5 c6 c7 c8,σ=[some (.int x),some (.ref t),some (.ref p),some (.ref d),c4,c5,c6,c7,c8])/\ax H H4/\H4 d=some (.dK (fk R ((((ts.take j).map (·.2)).filter (both R)).foldl lower (rounds (Sub (ts.map (·.2)) R) k (rgI m)))))) (ht.imp (s3 _ _) (s3 _ _)) ⟨⟨_,_,_,_,_,rfl⟩,s3,e3'⟩ (λj σ H4 z=>by rcases ht with y | y <;> rw[z.2.1 _ _ y,s3 _ _ y]) ?_ ?_⟩
  ·rintro j v σ H4 hv ⟨⟨c4,c5,c6,c7,c8,rfl⟩,s4,e4⟩
   obtain ⟨u,eu,rfl⟩:=item hv
   have mu:=Eb eu
   have hu4:=s4 _ _ (htu u mu)
   obtain ⟨a,b,e5,a0,ab,bm⟩:=O u.2 (GP mu)
   rw[e5] at hu4
   have tk:(ts.take (j+1)).map (·.2)=(ts.take j).map (·.2)++[[a,b]]:=by rw[take_snoc (f:=λu:Addr×List Int=>u.2) eu,e5]
   have labj:Lab (Sub (ts.map (·.2)) R) m ((((ts.take j).map (·.2)).filter (both R)).foldl lower (rounds (Sub (ts.map (·.2)) R) k (rgI m))):=jZ (gP O R) _ _ (λc hc=>by
    obtain ⟨h1,h2⟩:=Ft.mp hc
    obtain ⟨y,hy,rfl⟩:=EK.mp h1
    exact Ft.mpr ⟨GP (FI hy),h2⟩) labk
   have fin:((((ts.take (j+1)).map (·.2)).filter (both R)).foldl lower (rounds (Sub (ts.map (·.2)) R) k (rgI m)))=if a∈R/\b∈R then lower ((((ts.take j).map (·.2)).filter (both R)).foldl lower (rounds (Sub (ts.map (·.2)) R) k (rgI m))) [a,b] else ((((ts.take j).map (·.2)).filter (both R)).foldl lower (rounds (Sub (ts.map (·.2)) R) k (rgI m))):=by
    rw[tk,F4,MA]
    have bb:both R [a,b]=(decide (a∈R) && decide (b∈R)):=rfl
    by_cases c:a∈R/\b∈R
    ·rw[if_pos c,Gf (by rw[bb,decide_eq_true c.1,decide_eq_true c.2];rfl)]
     rfl
    ·rw[if_neg c,Gg (by rw[bb,EO,decide_eq_true_iff,decide_eq_true_iff];exact c)]
     rfl
   generalize ((((ts.take j).map (·.2)).filter (both R)).foldl lower (rounds (Sub (ts.map (·.2)) R) k (rgI m)))=L at labj e4 fin
   refine ⟨u.1,_,rfl,SqT.of hu4,rfl,_,_,rfl,_,_,rfl,rfl,?_⟩
   have va:∀y:Int,d8 H4 d (.int y) (if y∈R then some (.int (gt L y)) else none):=λy=>by
    have:=d8.k (k:=Sum.inl y) e4
    rw[m6] at this
    exact this
   refine ⟨_,rfl,_,rfl,d,_,rfl,va a,_,rfl,?_⟩
   by_cases ca:a∈R
   ·rw[if_pos ca]
    refine aS ⟨_,rfl,_,rfl,d,_,rfl,va b,_,rfl,?_⟩
    by_cases cb:b∈R
    ·rw[if_pos cb]
     have va':d8 H4 d (.int a) (some (.int (gt L a))):=by have:=va a;rwa [if_pos ca] at this
     have vb':d8 H4 d (.int b) (some (.int (gt L b))):=by have:=va b;rwa [if_pos cb] at this
     refine aS ⟨_,rfl,_,rfl,d,_,rfl,va',_,rfl,_,rfl,d,_,rfl,vb',_,_,rfl,?_⟩
     have em:(if gt L b<gt L a then gt L b else gt L a)=mnI (gt L a) (gt L b):=rfl
     rw[em]
     have rr:∀v∈R,0<=v/\v<(L.length:Int):=λv hv=>by rw[labj.len];exact S.rng v hv
     have lz:(fk R L).length<Ei:=by rw[mZ];exact bE (by lia)
     have p1:=jW.k (v :=.int (mnI (gt L a) (gt L b))) (k:=Sum.inl a) e4 lz
     rw[rW ca rr] at p1
     refine ⟨_,rfl,_,rfl,_,rfl,d,_,rfl,p1,?_⟩
     have p2:=jW.k (v :=.int (mnI (gt L a) (gt L b))) (k:=Sum.inl b) (H:=upd H4 d (.dK (fk R (L.set a.toNat (mnI (gt L a) (gt L b)))))) ae (by rw[mZ];exact bE (by lia))
     rw[rW cb (λv hv=>by rw[Ht];exact rr v hv)] at p2
     refine ⟨_,rfl,_,rfl,_,rfl,d,_,rfl,p2,⟨_,_,_,_,_,rfl⟩,λy o e =>?_,?_⟩
     ·rw[ak (aq e hd),ak (aq e hd)];exact s4 _ _ e
     ·rw[ae,fin,if_pos ⟨ca,cb⟩]
      rfl
    ·rw[if_neg cb]
     refine aF ⟨⟨_,_,_,_,_,rfl⟩,s4,?_⟩
     rw[e4,fin,if_neg (λz=>cb z.2)]
   ·rw[if_neg ca]
    refine aF (aF ⟨⟨_,_,_,_,_,rfl⟩,s4,?_⟩)
    rw[e4,fin,if_neg (λz=>ca z.1)]
  ·rintro σ H4 ⟨⟨c4,c5,c6,c7,c8,rfl⟩,s4,e4⟩
   rw[DY,Et (D6 _)] at e4
   exact ⟨⟨_,_,_,_,_,rfl⟩,s4,e4⟩
 ·rintro σ H3 ⟨⟨c4,c5,c6,c7,c8,rfl⟩,s3,e3⟩
  rw[Fo,DY] at e3
  exact ⟨_,rfl,q d H3 s3 hd e3⟩
theorem ndPF:(["place", "first"]:List Str).Nodup:=by decide +kernel
theorem vF:aB ["web", "places", "first"] ["web", "places"] (ao uc):=⟨rfl,rfl,rfl,by decide +kernel,rfl,by decide +kernel,by decide +kernel⟩
theorem Bc (F:Fun K "_law_trees" "_law_trees" uc f fd)(B:Blt mg)(mst:mg "set" = none)(cJ:Cal P w K mg base 1 "_law_joined" ["many", "ties", "places"] jD):bB P w K mg base CX0 2 f fd ["web", "places"] lC:=by
 refine F.ok vF (λvs H Q E h =>?_) (λcdv A outer s H vs Q E hr h =>?_)
 ·obtain ⟨_,_,_,_,_,rfl,_⟩:=gQ.mp h
  rfl
 obtain ⟨r,p,m,ts,R,rfl,W,m4,hp,S,q⟩:=gQ.mp h
 have hu:(gA CX0 P w K mg base ["web", "places", "first"] "_law_trees" (ao uc) f cdv A outer s H E).nox.A.units+1<cLine:=oo hr
 obtain ⟨t,e1,e2⟩:=W.at'
 have O:=W.ok
 have lR:=ij S
 refine ⟨_,ah (aE (i:=2) vF.nd rfl (Or.inr rfl) (aA cJ hr (by decide) rfl (aa (aD aG (pv 0) ai (λ_ _=>rfl)) (aa (aD aG (pv 0) ai (λ_ _=>rfl)) (aa (pv 1) af)))))
  (aj (aJ (av rD rfl B.b_len FQ (aa (aQ (wL hr.hd) rfl mst My (aa (bI ["place", "first"] [none,some 2] rfl (dg (pv 1)) rfl (λ_ _ _ _ _=>ay (i:=0) ndPF rfl (Or.inl rfl)) (λ_ _ _ _ _=>cF) (λ_ _ _ _ _=>ib hu (pv 1) (pv 0) (λ_ _=>rfl))) af)) af)))),?_⟩
 refine ⟨_,rfl,r,_,0,_,rfl,rfl,SqT.of e1,rfl,_,rfl,r,_,1,_,rfl,rfl,SqT.of e1,rfl,_,rfl,fY.mpr ⟨m,t,p,m,ts,R,rfl,.inr e2,W.tup,O,by lia,hp,S,λd H1 s1 _ ed =>?_⟩⟩
 let W1:Nat->List V->Hp->Prop:=λi ys H'=>H'=H1/\ys=((R.take i).map λv=>gt (rounds (Sub (ts.map (·.2)) R) R.length (rgI m)) v).map V.int
 refine ⟨_,rfl,p,rfl,⟨_,SqL.of (s1 _ _ hp)⟩,dX (xs:=R.map V.int) W1 ⟨rfl,rfl⟩ (by rw[DY];exact small (by lia)) (λi ys H' _ k=>by rw[k.1];exact SqL.of (s1 _ _ hp)) ?_ ?_⟩
 ·rintro i v ys H' hv hy ⟨rfl,rfl⟩ R1 R0 r1 r0
  rw[En] at hv
  cases ev:R[i]? with
  | none=>rw[ev] at hv;cases hv
  | some u =>
   rw[ev] at hv
   have:V.int u=v:=E1 hv
   subst this
   have va:=d8.k (k:=Sum.inl u) ed
   rw[m6,if_pos (Eb ev)] at va
   refine aS ⟨_,rfl,_,rfl,d,_,rfl,va,r1 _ _ ⟨rfl,?_⟩⟩
   rw[E4,ev,Ee,Ee]
   rfl
 rintro ys H' hy ⟨rfl,rfl⟩ l hl
 rw[DY,Et (D6 _)]
 refine ⟨l,_,rfl,.inl (SqL.of ae),by rw[DY];lia,λa us ha hm nd lu =>?_⟩
 rw[DY] at lu
 refine ⟨a,_,rfl,ae,by rw[DY];lia,?_⟩
 rw[DY,qk O S nd hm]
 exact q _ ((s1.trans (ag hl _)).trans (ag ha _))
end
def bC (m:Nat)(R:List Int):List Int:=(rgI m).filter λv => !decide (v∈R)
theorem fq {m:Nat}{R:List Int}{v:Int}:v∈bC m R↔(0<=v/\v<m)/\v∉R:=by
 unfold bC
 rw[Ft,aT]
 simp
theorem fu (m:Nat)(R:List Int):bD m (bC m R):=⟨(cN m).filter _,λv hv=>(fq.mp hv).1⟩
theorem zy {m:Nat}{R:List Int}(S:bD m R):(bC m R).length+R.length=m:=zk (fu m R) S λv v0 vm=>by
 rw[fq]
 exact ⟨λh=>h.2,λh=>⟨⟨v0,vm⟩,h⟩⟩
theorem sub_congr {m:Nat}{ns:List (List Int)}(O:Ok m ns){A B:List Int}(h:∀v:Int,0<=v->v<m->(v∈A↔v∈B)):Sub ns A=Sub ns B:=by
 unfold Sub
 refine Gh λp hp =>?_
 obtain ⟨a,b,rfl,a0,ab,bm⟩:=O p hp
 have h1:=h a a0 (by lia)
 have h2:=h b (by lia) bm
 unfold both
 show (decide (a∈A) && decide (b∈A))=(decide (a∈B) && decide (b∈B))
 by_cases x:a∈B <;> by_cases y:b∈B <;> simp[x,y,h1,h2]
theorem m7 {m:Nat}{ns:List (List Int)}(O:Ok m ns){A B:List Int}(h:∀v:Int,0<=v->v<m->(v∈A↔v∈B)):cG ns m A↔cG ns m B:=by
 unfold cG
 rw[sub_congr O h]
theorem j6 {m:Nat}{R:List Int}{v:Int}(v0:0<=v)(vm:v<m):v∈bC m (bC m R)↔v∈R:=by
 rw[fq,fq]
 constructor
 ·rintro ⟨_,h⟩
  exact FF λz=>h ⟨⟨v0,vm⟩,z⟩
 ·intro h
  exact ⟨⟨v0,vm⟩,λz=>z.2 h⟩
theorem rZ {m:Nat}{ns:List (List Int)}(O:Ok m ns)(R:List Int):ns.filter (off R)=Sub ns (bC m R):=zi O λv v0 vm=>by
 rw[fq]
 exact ⟨λh=>h.2,λh=>⟨⟨v0,vm⟩,h⟩⟩
theorem r6 {m:Nat}{ns:List (List Int)}(O:Ok m ns)(R:List Int):ns.filter (off (bC m R))=Sub ns R:=by
 rw[rZ O]
 exact sub_congr O λv v0 vm=>j6 v0 vm
theorem xq {m:Nat}{ns:List (List Int)}(O:Ok m ns):trees ns m []=0:=by
 have h:=(mW O (P:=[]) ⟨Gu,λv hv=>by cases hv⟩).mp (mX O)
 have:(Sub ns []).length+trees ns m []=0:=h
 lia
theorem bY (R:List Int)(i:Nat):((rgI (i+1)).filter λv => !decide (v∈R))=((rgI i).filter λv => !decide (v∈R))++if (i:Int)∈R then [] else [(i:Int)]:=by
 have e:rgI (i+1)=rgI i++[(i:Int)]:=by unfold rgI;rw[JP,Ee];rfl
 rw[e,F4]
 congr 1
 by_cases h:(i:Int)∈R
 ·rw[if_pos h,Gg (by simp[h])];rfl
 ·rw[if_neg h,Gf (by simp[h])];rfl
abbrev r9:Sp:=λvs H Q _=>∃(r p:Addr) (m:Nat) (ts:LAz) (R:List Int),vs=[.ref r,.ref p]/\Wb H r m ts/\m<=250/\(H p=some (.lst (R.map V.int))\/H p=some (.tup (R.map V.int)))/\bD m R/\∀H',ax H H'->Q (.int (trees (ts.map (·.2)) m R:Nat)) H'
@[irreducible] def fZ:Sp:=r9
theorem cO {vs:List V}{H:Hp}{Q:VK}{E:XK}:fZ vs H Q E↔r9 vs H Q E:=by
 delta fZ
 exact FU
abbrev nc:Sp:=λvs H Q _=>∃(r p:Addr) (m:Nat) (ts:LAz) (R:List Int),vs=[.ref r,.ref p]/\Wb H r m ts/\m<=250/\(H p=some (.lst (R.map V.int))\/H p=some (.tup (R.map V.int)))/\∀(b:Bool) (H':Hp),(b=true↔cG (ts.map (·.2)) m (bC m R))->ax H H'->Q (.bl b) H'
@[irreducible] def fw:Sp:=nc
theorem di {vs:List V}{H:Hp}{Q:VK}{E:XK}:fw vs H Q E↔nc vs H Q E:=by
 delta fw
 exact FU
section
theorem vG:(["place", "places"]:List Str).Nodup:=by decide +kernel
theorem vH:aB ["web", "places", "others"] ["web", "places"] (ao y6):=⟨rfl,rfl,rfl,by decide +kernel,rfl,by decide +kernel,by decide +kernel⟩
theorem Bd (F:Fun K "parts_among" "parts_among" y6 f fd)(B:Blt mg)(cCut:Cal P w K mg base 1 "cut_web" ["web", "places"] rV)(cHang:Cal P w K mg base 2 "hanging_parts" ["web"] mU):bB P w K mg base CX0 3 f fd ["web", "places"] fZ:=by
 refine F.ok vH (λvs H Q E h =>?_) (λcdv A outer s H vs Q E hr h =>?_)
 ·obtain ⟨_,_,_,_,_,rfl,_⟩:=cO.mp h
  rfl
 obtain ⟨r,p,m,ts,R,rfl,W,m4,hp,S,q⟩:=cO.mp h
 obtain ⟨t,e1,e2⟩:=W.at'
 have O:=W.ok
 refine ⟨_,ah (bO (i:=2) ["place", "places"] [none,some 1] rfl vH.nd rfl rfl (bu rfl B.b_range (aa (aD aG (pv 0) ai (λ_ _=>rfl)) af)) rfl (λ_ _ _ _ _=>ay (i:=0) vG rfl (Or.inl rfl))
   (λ_ _ _ _ _=>da (az (cn (K:=K)) (pv 0) (pv 1) rfl)) (λ_ _ _ _ _=>pv 0))
  (aj (aJ (aN jM (av aL rfl B.b_len FQ (aa (aA cHang hr (by decide) rfl (aa (aA cCut hr (by decide) rfl (aa (pv 0) (aa (pv 2) af))) af)) af)) (av aL rfl B.b_len FQ (aa (pv 2) af))))),?_⟩
 refine ⟨_,rfl,r,_,0,_,rfl,rfl,SqT.of e1,rfl,(m:Int),rfl,by lia,by lia,bL (λi ys H'=>H'=H/\ys=((rgI i).filter λv => !decide (v∈R)).map V.int) ⟨rfl,rfl⟩ (small (by lia)) ?_ ?_⟩
 ·rintro i ys H3 hi hy ⟨rfl,rfl⟩ R1 R0 r1 r0
  have e0:(0+(i:Int))=i:=by lia
  refine ⟨_,rfl,_,rfl,p,_,rfl,(hp.elim (λz =>.inl (SqL.of z)) (λz =>.inr (SqT.of z))),rfl,aU R,_,rfl,?_⟩
  show if (if true=true then !inV (.int (0+(i:Int))) (R.map V.int) else _)=true then _ else _
  rw[if_pos rfl,bj,e0]
  by_cases h:(i:Int)∈R
  ·rw[decide_eq_true h]
   refine aF (r0 _ ⟨rfl,?_⟩)
   rw[bY,if_pos h,EN]
  ·rw[decide_eq_false h]
   refine aS ⟨_,rfl,r1 _ _ ⟨rfl,?_⟩⟩
   rw[bY,if_neg h,Ee]
   rfl
 rintro ys H3 hy ⟨rfl,rfl⟩ l hl
 have g1:=ag hl (.lst ((bC m R).map V.int))
 have el:upd H3 l (.lst ((bC m R).map V.int)) l=some (.lst ((bC m R).map V.int)):=ae
 show (_:Prop)
 have eqH:upd H3 l (.lst (((rgI (m:Int).toNat).filter λv => !decide (v∈R)).map V.int))=upd H3 l (.lst ((bC m R).map V.int)):=by rw[Fo];rfl
 rw[eqH]
 generalize upd H3 l (.lst ((bC m R).map V.int))=H4 at g1 el
 refine ⟨_,rfl,_,rfl,ig.mpr ⟨r,l,m,ts,bC m R,rfl,W.same g1,.inl el,λz us H5 s5 W5 e5 =>?_⟩⟩
 rw[r6 O] at e5
 refine fV.mpr ⟨z,m,us,rfl,W5,by lia,λlh H6 oh s6 _ eh _ ph =>?_⟩
 rw[e5] at ph
 refine ⟨lh,_,rfl,.inl (SqL.of eh),_,rfl,l,_,rfl,.inl (SqL.of (s6 _ _ (s5 _ _ el))),_,_,rfl,rfl,?_⟩
 have l1:oh.length=(bp (Sub (ts.map (·.2)) R) m m).length:=by rw[<- ph,DY]
 have l2:=kM O S
 have l3:=zy S
 have ev:(((oh.map λu=>V.ref u.1).length:Int)-(((bC m R).map V.int).length:Int))=((trees (ts.map (·.2)) m R:Nat):Int):=by
  rw[DY,DY]
  lia
 dsimp only
 rw[ev]
 exact q _ ((g1.trans s5).trans s6)
end
abbrev kN:Sp:=λvs H Q _=>∃(p r:Addr) (m:Nat) (ts:LAz),vs=[.ref p,.ref r]/\Pot H p/\Wb H r m ts/\m<=100/\∀(z:Addr) (R:List Int) (H':Hp),But p H H'->H' z=some (.tup (R.map V.int))->bD m R->cG (ts.map (·.2)) m (bC m R)->Q (.ref z) H'
@[irreducible] def f9:Sp:=kN
theorem ef {vs:List V}{H:Hp}{Q:VK}{E:XK}:f9 vs H Q E↔kN vs H Q E:=by
 delta f9
 exact FU
theorem xt (ns:List Int)(j:Nat)(h:j<=ns.length):iF (ns.map V.int) (some (j:Int)) none=(ns.drop j).map V.int:=by
 unfold iF
 rw[HT.zW,HT.xR,DY,MU h,JB]
 exact Et (by rw[FJ,DY];exact D6 _)
section
theorem pz:aB ["web", "places", "others"] ["web", "places"] (ao mH):=⟨rfl,rfl,rfl,by decide +kernel,rfl,by decide +kernel,by decide +kernel⟩
theorem xu (F:Fun K "_law_clears" "_law_clears" mH f fd)(B:Blt mg)(cT:Cal P w K mg base 2 "_law_trees" ["web", "places"] lC)(cW:Cal P w K mg base 1 "_law_within" ["web", "places"] dC):bB P w K mg base CX0 3 f fd ["web", "places"] fw:=by
 refine F.ok pz (λvs H Q E h =>?_) (λcdv A outer s H vs Q E hr h =>?_)
 ·obtain ⟨_,_,_,_,_,rfl,_⟩:=di.mp h
  rfl
 obtain ⟨r,p,m,ts,R,rfl,W,m4,hp,q⟩:=di.mp h
 obtain ⟨t,e1,e2⟩:=W.at'
 have O:=W.ok
 refine ⟨_,ah (bO (i:=2) ["place", "places"] [none,some 1] rfl pz.nd rfl rfl (bu rfl B.b_range (aa (aD aG (pv 0) ai (λ_ _=>rfl)) af)) rfl (λ_ _ _ _ _=>ay (i:=0) vG rfl (Or.inl rfl))
   (λ_ _ _ _ _=>da (az (cn (K:=K)) (pv 0) (pv 1) rfl)) (λ_ _ _ _ _=>pv 0))
  (aj (aJ (fC cI (aA cW hr (by decide) rfl (aa (pv 0) (aa (pv 2) af))) (aN jM (av aL rfl B.b_len FQ (aa (pv 2) af)) (aA cT hr (by decide) rfl (aa (pv 0) (aa (pv 2) af)))) (aM _)))),?_⟩
 refine ⟨_,rfl,r,_,0,_,rfl,rfl,SqT.of e1,rfl,(m:Int),rfl,by lia,by lia,bL (λi ys H'=>H'=H/\ys=((rgI i).filter λv => !decide (v∈R)).map V.int) ⟨rfl,rfl⟩ (small (by lia)) ?_ ?_⟩
 ·rintro i ys H3 hi hy ⟨rfl,rfl⟩ R1 R0 r1 r0
  have e0:(0+(i:Int))=i:=by lia
  refine ⟨_,rfl,_,rfl,p,_,rfl,(hp.elim (λz =>.inl (SqL.of z)) λz =>.inr (SqT.of z)),rfl,aU R,_,rfl,?_⟩
  show if (if true=true then !inV (.int (0+(i:Int))) (R.map V.int) else _)=true then _ else _
  rw[if_pos rfl,bj,e0]
  by_cases h:(i:Int)∈R
  ·rw[decide_eq_true h]
   refine aF (r0 _ ⟨rfl,?_⟩)
   rw[bY,if_pos h,EN]
  ·rw[decide_eq_false h]
   refine aS ⟨_,rfl,r1 _ _ ⟨rfl,?_⟩⟩
   rw[bY,if_neg h,Ee]
   rfl
 rintro ys H3 hy ⟨rfl,rfl⟩ l hl
 have g1:=ag hl (.lst ((bC m R).map V.int))
 have el:upd H3 l (.lst ((bC m R).map V.int)) l=some (.lst ((bC m R).map V.int)):=ae
 have eqH:upd H3 l (.lst (((rgI (m:Int).toNat).filter λv => !decide (v∈R)).map V.int))=upd H3 l (.lst ((bC m R).map V.int)):=by rw[Fo];rfl
 rw[eqH]
 generalize upd H3 l (.lst ((bC m R).map V.int))=H4 at g1 el
 refine ⟨_,rfl,_,rfl,bN.mpr ⟨r,l,m,ts,bC m R,rfl,W.same g1,.inl el,λH5 s5 =>?_⟩⟩
 refine ⟨_,rfl,l,_,rfl,.inl (SqL.of (s5 _ _ el)),_,rfl,_,rfl,gQ.mpr ⟨r,l,m,ts,bC m R,rfl,(W.same g1).same s5,m4,s5 _ _ el,fu m R,λH6 s6 =>?_⟩⟩
 refine ⟨_,_,rfl,rfl,rfl,q _ _ ?_ ((g1.trans s5).trans s6)⟩
 rw[decide_eq_true_iff,mW O (fu m R),DY]
 show V.int (((Sub (ts.map (·.2)) (bC m R)).length:Nat):Int)=V.int (((bC m R).length:Int)-((trees (ts.map (·.2)) m (bC m R):Nat):Int))↔_
 constructor
 ·intro z
  have:=V.int.inj z
  lia
 ·intro z
  congr 1
  lia
theorem zz {X:Cx}{K:D2}(h:X.K=K:=by rfl):OpR X (binaryOp .Add) (Bp K):=by
 subst h;exact hV
theorem DT:(["other", "kept", "place"]:List Str).Nodup:=by decide +kernel
theorem ndPK:(["place", "kept"]:List Str).Nodup:=by decide +kernel
theorem de:aB ["pot", "web", "order", "place", "kept"] ["pot", "web"] (ao ic):=⟨rfl,rfl,rfl,by decide +kernel,rfl,by decide +kernel,by decide +kernel⟩
theorem uo (F:Fun K "_law_clearing" "_law_clearing" ic f fd)(B:Blt mg)(cP:Cal P w K mg base 1 "_law_pick" ["pot", "many"] iS)(cC:Cal P w K mg base 3 "_law_clears" ["web", "places"] fw):bB P w K mg base CX0 4 f fd ["pot", "web"] f9:=by
 refine F.ok de (λvs H Q E h =>?_) (λcdv A outer s H vs Q E hr h =>?_)
 ·obtain ⟨_,_,_,_,rfl,_⟩:=ef.mp h
  rfl
 obtain ⟨p,r,m,ts,rfl,pt,W,m4,q⟩:=ef.mp h
 have O:=W.ok
 have TE:∃t,PSs (gA CX0 P w K mg base ["pot", "web", "order", "place", "kept"] "_law_clearing" (ao ic) f cdv A outer s H E).nox ((bK ic).drop 5) t/\∀σ H',(∃(c2 c3:Option V) (lk:Addr) (ks:List Int),σ=[some (.ref p),some (.ref r),c2,c3,some (.ref lk)]/\But p H H'/\Wb H' r m ts/\H' lk=some (.lst (ks.map V.int))/\bD m ks/\cG (ts.map (·.2)) m ks)->t { nx:=λ_ H'=>Q .non H',rt:=Q } σ H':=by
  refine ⟨_,aj (aJ (aQ bX rfl B.b_tuple IE (aa (bI ["place", "kept"] [none,some 4] rfl (bu rfl B.b_range (aa (aD aG (pv 1) ai (λ_ _=>rfl)) af)) rfl (λ_ _ _ _ _=>ay (i:=0) ndPK rfl (Or.inl rfl))
   (λ_ _ _ _ _=>da (az (cn (K:=K)) (pv 0) (pv 1) rfl)) (λ_ _ _ _ _=>pv 0)) af))),?_⟩
  rintro σ H2 ⟨c2,c3,lk,ks,rfl,b2,W2,ek,Sk,wk⟩
  obtain ⟨t,e1,e2⟩:=W2.at'
  refine ⟨_,rfl,r,_,0,_,rfl,rfl,SqT.of e1,rfl,(m:Int),rfl,by lia,by lia,bL (λi ys H'=>H'=H2/\ys=((rgI i).filter λv => !decide (v∈ks)).map V.int) ⟨rfl,rfl⟩ (small (by lia)) ?_ ?_⟩
  ·rintro i ys H3 hi hy ⟨rfl,rfl⟩ R1 R0 r1 r0
   have e0:(0+(i:Int))=i:=by lia
   refine ⟨_,rfl,_,rfl,lk,_,rfl,.inl (SqL.of ek),rfl,aU ks,_,rfl,?_⟩
   show if (if true=true then !inV (.int (0+(i:Int))) (ks.map V.int) else _)=true then _ else _
   rw[if_pos rfl,bj,e0]
   by_cases h:(i:Int)∈ks
   ·rw[decide_eq_true h]
    refine aF (r0 _ ⟨rfl,?_⟩)
    rw[bY,if_pos h,EN]
   ·rw[decide_eq_false h]
    refine aS ⟨_,rfl,r1 _ _ ⟨rfl,?_⟩⟩
    rw[bY,if_neg h,Ee]
    rfl
  rintro ys H3 hy ⟨rfl,rfl⟩ l hl
  have eqH:(((rgI (m:Int).toNat).filter λv => !decide (v∈ks)).map V.int)=(bC m ks).map V.int:=by rw[Fo];rfl
  rw[eqH]
  refine ⟨l,_,rfl,.inl ⟨SqL.of ae,λz hz =>?_⟩⟩
  refine q z (bC m ks) _ ((b2.same (ag hl _)).same (ag hz _)) ae (fu m ks) ?_
  exact (m7 O λv v0 vm=>j6 v0 vm).mpr wk
 obtain ⟨tE,pE,gE⟩:=TE
 refine ⟨_,ah (aE (i:=2) de.nd rfl (Or.inl rfl) (bR af))
  (ah (cf Fl rfl (bu rfl B.b_range (aa (aD aG (pv 1) ai (λ_ _=>rfl)) af)) (ay (i:=3) de.nd rfl (Or.inr rfl))
   (aj (bA (eC EM PySem.F.slot_list_insert PySem.F.type_list_insert we (pv 2) (aa (aA cP hr (by decide) rfl (aa (pv 0) (aa (aN dH (pv 3) ai) af))) (aa (pv 3) af))))))
  (ah (aE (i:=4) de.nd rfl (Or.inr rfl) (bR af))
  (ah (cf Fl rfl (dg (pv 2)) (ay (i:=3) de.nd rfl (Or.inr rfl))
   (aj (bq (dG (aA cC hr (by decide) rfl (aa (pv 1) (aa (bI ["other", "kept", "place"] [none,some 4,some 3] rfl (bu rfl B.b_range (aa (aD aG (pv 1) ai (λ_ _=>rfl)) af)) rfl (λ_ _ _ _ _=>ay (i:=0) DT rfl (Or.inl rfl))
     (λ_ _ _ _ _=>da (az (cn (K:=K)) (pv 0) (aN (zz (K:=K)) (pv 1) (bR (aa (pv 2) af))) rfl)) (λ_ _ _ _ _=>pv 0)) af))))
    (aj (bA (eC EM FN FO cK (pv 4) (aa (pv 3) af)))) aI)))
  (ah (bq (az cI (aA cP hr (by decide) rfl (aa (pv 0) (aa ai af))) ai (aM _))
   (aj (aE (i:=4) de.nd rfl (Or.inr rfl) (i9 uO (pv 4) (kX (aA cP hr (by decide) rfl (aa (pv 0) (aa (aN dH (av aL rfl B.b_len FQ (aa (pv 4) af)) ai) af)))) kW))) aI) pE)))),?_⟩
 refine ⟨(by show 0<=Ei;decide),λlo hlo =>?_⟩
 have nlo:lo≠p:=λz=>by
  subst z
  obtain ⟨_,_,e⟩:=pt
  rw[hlo] at e
  cases e
 have b1:=(But.refl pt).same (ag hlo (.lst []))
 have W1:=W.same (ag hlo (.lst []))
 have eo1:upd H lo (.lst []) lo=some (.lst (([]:List Int).map V.int)):=ae
 generalize upd H lo (.lst [])=H1 at b1 W1 eo1
 obtain ⟨t,e1,e2⟩:=W1.at'
 let W0:Nat->St->Hp->Prop:=λi σ H'=>(∃c3 c4,σ=[some (.ref p),some (.ref r),some (.ref lo),c3,c4])/\But p H H'/\∃os:List Int,H' lo=some (.lst (os.map V.int))/\os.Perm (rgI i)
 refine ⟨_,rfl,r,_,0,_,rfl,rfl,SqT.of e1,rfl,(m:Int),rfl,by lia,by lia,dQ W0 ⟨⟨_,_,rfl⟩,b1,[],eo1,.nil⟩ ?_ ?_⟩
 ·rintro i σ H2 hi ⟨⟨c3,c4,rfl⟩,b2,os,eo,po⟩
  have lo':os.length=i:=by rw[po.length_eq,cD]
  have hi':(i:Int)<m:=by lia
  refine ⟨_,rfl,.inl ⟨rfl,_,SqL.of eo⟩,_,rfl,_,rfl,_,_,rfl,rfl,aP.mpr ⟨p,_,rfl,b2.pot,by lia,by lia,λd H3 d0 d1 b3 =>?_⟩⟩
  have eo3:=b3.st _ _ nlo eo
  refine ⟨_,rfl,lo,_,d,_,rfl,rfl,eo3,d0,by rw[DY];lia,by rw[DY];exact GZ (by lia:os.length<=1000) (bE (D6 _)),⟨_,_,rfl⟩,(b2.trans b3).j4 hlo nlo _,os.take d.toNat++(0+(i:Int)) :: os.drop d.toNat,?_,?_⟩
  ·rw[ae,Ee,Ez,Me,JB]
  ·have e0:(0+(i:Int))=i:=by lia
   have er:rgI (i+1)=rgI i++[(i:Int)]:=by unfold rgI;rw[JP,Ee];rfl
   rw[e0,er]
   refine (KI).trans ?_
   rw[Gz]
   refine (List.Perm.cons _ po).trans ?_
   exact (Hl (l₁:=[(i:Int)]) (l₂:=rgI i))
 rintro σ H2 ⟨⟨c3,c4,rfl⟩,b2,os,eo,po⟩
 rw[Fo] at po
 have lo':os.length=m:=by rw[po.length_eq,cD]
 have So:bD m os:=⟨po.nodup_iff.mpr (cN m),λv hv=>aT.mp (po.mem_iff.mp hv)⟩
 refine ⟨(by show 0<=Ei;decide),λlk hlk =>?_⟩
 have nlk:lk≠p:=λz=>by
  subst z
  obtain ⟨_,_,e⟩:=b2.pot
  rw[hlk] at e
  cases e
 have hlk0:H lk=none:=by
  cases e:H lk with
  | none=>rfl
  | some o=>rw[b2.st _ _ nlk e] at hlk;cases hlk
 have nol:lo≠lk:=aq eo hlk
 have g3:=ag hlk (.lst [])
 have b3:=b2.same g3
 have eo3:=g3 _ _ eo
 have ek3:upd H2 lk (.lst []) lk=some (.lst (([]:List Int).map V.int)):=ae
 generalize upd H2 lk (.lst [])=H3 at b3 eo3 ek3
 let W1:Nat->St->Hp->Prop:=λi σ H'=>(∃c3,σ=[some (.ref p),some (.ref r),some (.ref lo),c3,some (.ref lk)])/\But p H H'/\H' lo=some (.lst (os.map V.int))/\∃ks:List Int,H' lk=some (.lst (ks.map V.int))/\ks.Nodup/\(∀v∈ks,v∈os.take i)/\cG (ts.map (·.2)) m ks
 refine ⟨_,rfl,lo,rfl,⟨_,SqL.of eo3⟩,dW (xs:=os.map V.int) W1 ⟨⟨_,rfl⟩,b3,eo3,[],ek3,Gu,(λv hv=>by cases hv),mX O⟩ (λi σ H' _ k=>SqL.of k.2.2.1) ?_ ?_⟩
 ·rintro i v σ H4 hv ⟨⟨c3,rfl⟩,b4,eo4,ks,ek4,nk,sk,wk⟩
  rw[En] at hv
  cases ev:os[i]? with
  | none=>rw[ev] at hv;cases hv
  | some x =>
   rw[ev] at hv
   have:V.int x=v:=E1 hv
   subst this
   have li:i<os.length:=(Ea.mp ev).1
   have nx:x∉ks:=λz=>by
    obtain ⟨j,hj,ej⟩:=Hb (sk x z)
    rw[Ff] at hj
    rw[Mz] at ej
    have h1:os[i]=x:=(Ea.mp ev).2
    have:=Gs.mp So.nd j i (by lia) li (by lia)
    exact this (ej.trans h1.symm)
   have Sx:bD m (ks++[x]):=by
    refine ⟨?_,λu hu =>?_⟩
    ·rw[Hz]
     refine ⟨nk,FC.mpr ⟨by simp,Gu⟩,λa ha b hb z =>?_⟩
     have:b=x:=Ef.mp hb
     subst this
     subst z
     exact nx ha
    ·rcases Eh.mp hu with z | z
     ·exact So.rng u (FI (sk u z))
     ·have:u=x:=Ef.mp z
      subst this
      exact So.rng u (Eb ev)
   have lk':(ks++[x]).length<=m:=ij Sx
   have W4:=b4.wb pt W
   obtain ⟨t4,f1,f2⟩:=W4.at'
   refine ⟨_,rfl,_,rfl,r,_,0,_,rfl,rfl,SqT.of f1,rfl,(m:Int),rfl,by lia,by lia,bL (λi ys H'=>ax H4 H'/\ys=((rgI i).filter λv => !decide (v∈ks++[x])).map V.int) ⟨ax.refl _,rfl⟩ (small (by lia)) ?_ ?_⟩
   ·rintro j ys H5 hj hy ⟨s5,rfl⟩ R1 R0 r1 r0
    have e0:(0+(j:Int))=j:=by lia
    refine ⟨_,rfl,_,rfl,_,rfl,(by show 1<=Ei;decide),λq1 hq1 =>?_⟩
    have g6:=ag hq1 (.lst [.int x])
    refine ⟨lk,q1,ks.map V.int,[.int x],rfl,rfl,SqL.of (g6 _ _ (s5 _ _ ek4)),SqL.of ae,?_,λq2 hq2 =>?_⟩
    ·rw[DY]
     rw[D7] at lk'
     exact small (by show ks.length+1<=1000;have:ks.length+1<=m:=lk';lia)
    have g7:=ag hq2 (.lst (ks.map V.int++[.int x]))
    have ei:ks.map V.int++[V.int x]=(ks++[x]).map V.int:=by rw[Ee];rfl
    have s7:=(s5.trans g6).trans g7
    refine ⟨q2,(ks++[x]).map V.int,rfl,.inl (SqL.of (by rw[ae,ei])),rfl,aU (ks++[x]),_,rfl,?_⟩
    show if (if true=true then !inV (.int (0+(j:Int))) ((ks++[x]).map V.int) else _)=true then _ else _
    rw[if_pos rfl,bj,e0]
    by_cases h:(j:Int)∈ks++[x]
    ·rw[decide_eq_true h]
     refine aF (r0 _ ⟨s7,?_⟩)
     rw[bY,if_pos h,EN]
    ·rw[decide_eq_false h]
     refine aS ⟨_,rfl,r1 _ _ ⟨s7,?_⟩⟩
     rw[bY,if_neg h,Ee]
     rfl
   rintro ys H5 hy ⟨s5,rfl⟩ l hl
   have eqH:(((rgI (m:Int).toNat).filter λv => !decide (v∈ks++[x])).map V.int)=(bC m (ks++[x])).map V.int:=by rw[Fo];rfl
   rw[eqH]
   have g6:=ag hl (.lst ((bC m (ks++[x])).map V.int))
   have s46:=s5.trans g6
   refine di.mpr ⟨r,l,m,ts,bC m (ks++[x]),rfl,W4.same s46,by lia,.inl ae,λbo H7 hb s7 =>?_⟩
   have s47:=s46.trans s7
   have b7:=b4.same s47
   have eo7:=s47 _ _ eo4
   have ek7:=s47 _ _ ek4
   have hb':bo=true↔cG (ts.map (·.2)) m (ks++[x]):=hb.trans (m7 O λv v0 vm=>j6 v0 vm)
   have tk:∀u∈ks,u∈os.take (i+1):=λu hu=>by
    rw[E4]
    exact E9 _ (sk u hu)
   refine ⟨_,rfl,dy (λc =>?_) (λc=>⟨⟨_,rfl⟩,b7,eo7,ks,ek7,nk,tk,wk⟩)⟩
   refine ⟨_,rfl,.inl ⟨rfl,_,SqL.of ek7⟩,_,rfl,lk,_,_,rfl,rfl,ek7,by rw[DY];rw[D7] at lk';exact GZ (by lia:ks.length<=1000) (bE (D6 _)),⟨_,rfl⟩,b7.j4 hlk0 nlk _,?_,ks++[x],?_,Sx.nd,λu hu =>?_,hb'.mp c⟩
   ·rw[ak nol];exact eo7
   ·rw[ae,Ee];rfl
   ·rcases Eh.mp hu with z | z
    ·exact tk u z
    ·have:u=x:=Ef.mp z
     subst this
     rw[E4,ev]
     exact EH _ (by simp)
 rintro σ H4 ⟨⟨c3,rfl⟩,b4,eo4,ks,ek4,nk,sk,wk⟩
 have Sk:bD m ks:=⟨nk,λv hv=>So.rng v (FI (sk v hv))⟩
 have lk4:=ij Sk
 refine ⟨_,rfl,aP.mpr ⟨p,3,rfl,b4.pot,by decide,by decide,λd H5 d0 d1 b5=>⟨rfl,_,rfl,dy (λc =>?_) (λc =>?_)⟩⟩⟩
 ·have ek5:=b5.st _ _ nlk ek4
  refine ⟨_,rfl,_,rfl,_,rfl,lk,_,rfl,.inl (SqL.of ek5),_,_,rfl,rfl,aP.mpr ⟨p,_,rfl,b5.pot,by rw[DY];lia,by rw[DY];lia,λj H6 j0 j1 b6 =>?_⟩⟩
  rw[DY] at j1
  obtain ⟨jn,rfl⟩:∃n:Nat,j=n:=⟨j.toNat,by lia⟩
  have ek6:=b6.st _ _ nlk ek5
  refine ⟨(jn:Int),rfl,lk,_,rfl,SqL.of ek6,λl hl =>?_⟩
  rw[xt ks jn (by lia)]
  have bb:=((b4.trans b5).trans b6).same (ag hl (.lst ((ks.drop jn).map V.int)))
  refine gE _ _ ⟨_,_,l,ks.drop jn,rfl,bb,bb.wb pt W,ae,⟨nk.sublist (Fy _ _),λv hv=>Sk.rng v (GH hv)⟩,zh O (λv hv=>GH hv) wk⟩
 ·have bb:=b4.trans b5
  exact gE _ _ ⟨_,_,lk,ks,rfl,bb,bb.wb pt W,b5.st _ _ nlk ek4,Sk,wk⟩
end
def iT (A R:List Int)(p:List Int):Bool:=(decide (p.getD 0 0∈A) && !decide (p.getD 1 0∈A) && decide (p.getD 0 0∈R)) || (decide (p.getD 1 0∈A) && !decide (p.getD 0 0∈A) && decide (p.getD 1 0∈R))
def uq (A R:List Int):List Int:=A.filter λv=>decide (v∈R)
def oth (A R:List Int):List Int:=A.filter λv => !decide (v∈R)
theorem Be {A R:List Int}{v:Int}:v∈oth A R↔v∈A/\v∉R:=by unfold oth;rw[Ft];simp
theorem zA {m:Nat}{A:List Int}(S:bD m A)(R:List Int):bD m (oth A R):=⟨S.nd.filter _,λv hv=>S.rng v (Be.mp hv).1⟩
abbrev vI:Sp:=λvs H Q _=>∃(r p a:Addr) (m:Nat) (ts:LAz) (R Ap:List Int),vs=[.ref r,.ref p,.ref a]/\Wb H r m ts/\m<=250/\H p=some (.tup (R.map V.int))/\H a=some (.tup (Ap.map V.int))/\∀H',ax H H'->Q (.int (((ts.map (·.2)).filter (iT Ap R)).length:Nat)) H'
@[irreducible] def qo:Sp:=vI
theorem iU {vs:List V}{H:Hp}{Q:VK}{E:XK}:qo vs H Q E↔vI vs H Q E:=by
 delta qo
 exact FU
noncomputable def rowOf (ns:List (List Int))(m:Nat)(R Ap:List Int):List Int:=[((trees ns m (oth Ap R):Nat):Int),((Sub ns (uq Ap R)).length:Nat),((ns.filter (iT Ap R)).length:Nat)]
abbrev vJ:Sp:=λvs H Q _=>∃(r p a:Addr) (m:Nat) (ts:LAz) (R Ap:List Int),vs=[.ref r,.ref p,.ref a]/\Wb H r m ts/\m<=250/\H p=some (.tup (R.map V.int))/\H a=some (.tup (Ap.map V.int))/\bD m Ap/\∀(z:Addr) (H':Hp),ax H H'->H z=none->H' z=some (.tup ((rowOf (ts.map (·.2)) m R Ap).map V.int))->Q (.ref z) H'
@[irreducible] def qp:Sp:=vJ
theorem iV {vs:List V}{H:Hp}{Q:VK}{E:XK}:qp vs H Q E↔vJ vs H Q E:=by
 delta qp
 exact FU
theorem ik (g:Int->Bool){l:List Int}{i:Nat}{x:Int}(e:l[i]? = some x):((l.take (i+1)).filter g).map V.int=((l.take i).filter g).map V.int++if g x=true then [V.int x] else []:=by
 rw[rY e,Ee]
 congr 1
 by_cases c:g x=true
 ·rw[if_pos c,if_pos c];rfl
 ·rw[if_neg c,if_neg c];rfl
theorem ip {xs:List Int}{i:Nat}{v:V}(h:(xs.map V.int)[i]? = some v):∃n,xs[i]? = some n/\v = .int n:=by
 rw[En] at h
 cases e:xs[i]? with
 | none=>rw[e] at h;cases h
 | some n=>rw[e] at h;exact ⟨n,rfl,(E1 h).symm⟩
section
theorem DU:(["place", "part"]:List Str).Nodup:=by decide +kernel
theorem ng:aB ["web", "places", "part", "ends", "tie", "inside"] ["web", "places", "part"] (ao mE):=⟨rfl,rfl,rfl,by decide +kernel,rfl,by decide +kernel,by decide +kernel⟩
theorem CO (F:Fun K "ends_out" "ends_out" mE f fd)(B:Blt mg):bB P w K mg base CX0 1 f fd ["web", "places", "part"] qo:=by
 refine F.ok ng (λvs H Q E h =>?_) (λcdv A outer s H vs Q E hr h =>?_)
 ·obtain ⟨_,_,_,_,_,_,_,rfl,_⟩:=iU.mp h
  rfl
 obtain ⟨r,p,a,m,ts,R,Ap,rfl,W,m4,hp,ha,q⟩:=iU.mp h
 obtain ⟨t,e1,e2⟩:=W.at'
 have O:=W.ok
 refine ⟨_,ah (aE (i:=3) ng.nd rfl (Or.inl rfl) ai)
  (ah (cf Fl rfl (cV (aD aG (pv 0) ai (λ_ _=>rfl))) (ay (i:=4) ng.nd rfl (Or.inl rfl))
   (ah (bO (i:=5) ["place", "part"] [none,some 2] rfl ng.nd rfl rfl (cV (pv 4)) rfl (λ_ _ _ _ _=>ay (i:=0) DU rfl (Or.inl rfl))
    (λ_ _ _ _ _=>da (az (gC (K:=K)) (pv 0) (pv 1) rfl)) (λ_ _ _ _ _=>pv 0))
   (aj (bq (PW.pt (c9 (az cI (av aL rfl B.b_len FQ (aa (pv 5) af)) ai (aM _)) (cj (az (gC (K:=K)) (aD ck (pv 5) ai (λ_ _=>rfl)) (pv 1) rfl))))
    (aj (BN (i:=3) ng.nd rfl (Or.inl rfl) ai BO)) aI))))
  (aj (aJ (pv 3)))),?_⟩
 refine ⟨_,rfl,r,_,1,_,rfl,rfl,SqT.of e1,rfl,t,rfl,⟨_,SqT.of e2⟩,pS (xs:=ts.map λu =>.ref u.1) (λi σ H'=>(∃c4 c5,σ=[some (.ref r),some (.ref p),some (.ref a),some (.int ((((ts.take i).map (·.2)).filter (iT Ap R)).length:Nat)),c4,c5])/\ax H H') ⟨⟨_,_,rfl⟩,ax.refl _⟩ (λi σ H' _ k=>SqT.of (k.2 _ _ e2)) ?_ ?_⟩
 ·rintro i v σ H2 hv ⟨⟨c4,c5,rfl⟩,s2⟩
  obtain ⟨u,eu,rfl⟩:=item hv
  have mu:=Eb eu
  have hu2:=s2 _ _ (W.tup u mu)
  obtain ⟨x,y,e5,x0,xy,ym⟩:=O u.2 (GP mu)
  rw[e5] at hu2
  have fin:(((ts.take (i+1)).map (·.2)).filter (iT Ap R)).length=(((ts.take i).map (·.2)).filter (iT Ap R)).length+if iT Ap R [x,y]=true then 1 else 0:=by
   rw[take_snoc (f:=λu:Addr×List Int=>u.2) eu,e5,F4,D7]
   congr 1
   by_cases c:iT Ap R [x,y]=true
   ·rw[if_pos c,Gf c];rfl
   ·rw[if_neg c,Gg c];rfl
  have ho:iT Ap R [x,y]=((decide (x∈Ap) && !decide (y∈Ap) && decide (x∈R)) || (decide (y∈Ap) && !decide (x∈Ap) && decide (y∈R))):=rfl
  generalize (((ts.take i).map (·.2)).filter (iT Ap R)).length=cnt at fin ⊢
  rw[fin]
  refine ⟨_,rfl,u.1,rfl,⟨_,SqT.of hu2⟩,bF (xs:=[x,y].map V.int) (λj ys H'=>H'=H2/\ys=(([x,y].take j).filter λv=>decide (v∈Ap)).map V.int) ⟨rfl,rfl⟩ (small (by show 2<=1000;decide)) (λj ys H' _ k=>by rw[k.1];exact SqT.of hu2) ?_ ?_⟩
  ·rintro j v ys H3 hv hy ⟨rfl,rfl⟩ R1 R0 r1 r0
   obtain ⟨n,en,rfl⟩:=ip hv
   refine ⟨_,rfl,_,rfl,a,_,rfl,.inr (SqT.of (s2 _ _ ha)),rfl,aU Ap,_,rfl,?_⟩
   show if (if false=true then _ else inV (.int n) (Ap.map V.int))=true then _ else _
   rw[if_neg Ek,bj]
   by_cases h:n∈Ap
   ·rw[decide_eq_true h]
    refine aS ⟨_,rfl,r1 _ _ ⟨rfl,?_⟩⟩
    rw[ik _ en,if_pos (decide_eq_true h)]
   ·rw[decide_eq_false h]
    refine aF (r0 _ ⟨rfl,?_⟩)
    rw[ik _ en,if_neg (by rw[decide_eq_false h];decide),EN]
  rintro ys H3 hy ⟨rfl,rfl⟩ l hl
  have g1:=ag hl (.lst ((([x,y].take 2).filter λv=>decide (v∈Ap)).map V.int))
  have el:upd H3 l (.lst ((([x,y].take 2).filter λv=>decide (v∈Ap)).map V.int)) l=some (.lst ((([x,y].take 2).filter λv=>decide (v∈Ap)).map V.int)):=ae
  have s4:=s2.trans g1
  show (_:Prop)
  have hp4:=s4 _ _ hp
  have eqH:upd H3 l (.lst ((([x,y].take ([x,y].map V.int).length).filter λv=>decide (v∈Ap)).map V.int))=upd H3 l (.lst ((([x,y].take 2).filter λv=>decide (v∈Ap)).map V.int)):=rfl
  rw[eqH]
  generalize upd H3 l (.lst ((([x,y].take 2).filter λv=>decide (v∈Ap)).map V.int))=H4 at g1 el s4 hp4 ⊢
  rw[show [x,y].take 2=[x,y] from rfl] at el
  by_cases hx:x∈Ap <;> by_cases hy:y∈Ap
  ·rw[show ([x,y].filter λv=>decide (v∈Ap))=[x,y] by simp[hx,hy]] at el
   rw[if_neg (show ¬ iT Ap R [x,y]=true by rw[ho];simp[hx,hy])]
   exact ⟨_,rfl,l,_,rfl,.inl (SqL.of el),rfl,_,rfl,aF (aF ⟨⟨_,_,rfl⟩,s4⟩)⟩
  ·rw[show ([x,y].filter λv=>decide (v∈Ap))=[x] by simp[hx,hy]] at el
   refine ⟨_,rfl,l,_,rfl,.inl (SqL.of el),rfl,_,rfl,aS ?_⟩
   refine ⟨_,rfl,l,_,0,_,rfl,rfl,SqL.of el,rfl,_,rfl,p,_,rfl,.inr (SqT.of hp4),rfl,aU R,_,rfl,?_⟩
   show if (if false=true then _ else inV (.int x) (R.map V.int))=true then _ else _
   rw[if_neg Ek,bj]
   by_cases hR:x∈R
   ·rw[decide_eq_true hR,if_pos (show iT Ap R [x,y]=true by rw[ho];simp[hx,hy,hR])]
    exact aS ⟨_,rfl,_,_,rfl,rfl,⟨_,_,rfl⟩,s4⟩
   ·rw[decide_eq_false hR,if_neg (show ¬ iT Ap R [x,y]=true by rw[ho];simp[hx,hy,hR])]
    exact aF ⟨⟨_,_,rfl⟩,s4⟩
  ·rw[show ([x,y].filter λv=>decide (v∈Ap))=[y] by simp[hx,hy]] at el
   refine ⟨_,rfl,l,_,rfl,.inl (SqL.of el),rfl,_,rfl,aS ?_⟩
   refine ⟨_,rfl,l,_,0,_,rfl,rfl,SqL.of el,rfl,_,rfl,p,_,rfl,.inr (SqT.of hp4),rfl,aU R,_,rfl,?_⟩
   show if (if false=true then _ else inV (.int y) (R.map V.int))=true then _ else _
   rw[if_neg Ek,bj]
   by_cases hR:y∈R
   ·rw[decide_eq_true hR,if_pos (show iT Ap R [x,y]=true by rw[ho];simp[hx,hy,hR])]
    exact aS ⟨_,rfl,_,_,rfl,rfl,⟨_,_,rfl⟩,s4⟩
   ·rw[decide_eq_false hR,if_neg (show ¬ iT Ap R [x,y]=true by rw[ho];simp[hx,hy,hR])]
    exact aF ⟨⟨_,_,rfl⟩,s4⟩
  ·rw[show ([x,y].filter λv=>decide (v∈Ap))=[] by simp[hx,hy]] at el
   rw[if_neg (show ¬ iT Ap R [x,y]=true by rw[ho];simp[hx,hy])]
   exact ⟨_,rfl,l,_,rfl,.inl (SqL.of el),rfl,_,rfl,aF (aF ⟨⟨_,_,rfl⟩,s4⟩)⟩
 ·rintro σ H2 ⟨⟨c4,c5,rfl⟩,s2⟩
  rw[DY,Et (D6 _)]
  exact ⟨_,rfl,q _ s2⟩
end
section
theorem takeIn {g:Int->Bool}{Ap:List Int}{i:Nat}{n:Int}(en:Ap[i]? = some n)(h:g n=true):((Ap.take i).filter g).map V.int++[V.int n]=((Ap.take (i+1)).filter g).map V.int:=by rw[ik _ en,if_pos h]
theorem takeOut {g:Int->Bool}{Ap:List Int}{i:Nat}{n:Int}(en:Ap[i]? = some n)(h:¬ g n=true):((Ap.take i).filter g).map V.int=((Ap.take (i+1)).filter g).map V.int:=by rw[ik _ en,if_neg h,EN]
theorem qq (g:Int->Bool)(Ap:List Int):((Ap.take (Ap.map V.int).length).filter g).map V.int=(Ap.filter g).map V.int:=by rw[DY,Et (D6 _)]
theorem uv:aB ["web", "places", "part", "left", "chosen"] ["web", "places", "part"] (ao mF):=⟨rfl,rfl,rfl,by decide +kernel,rfl,by decide +kernel,by decide +kernel⟩
theorem CP (F:Fun K "part_row" "part_row" mF f fd)(B:Blt mg)(cA:Cal P w K mg base 3 "parts_among" ["web", "places"] fZ)(cW:Cal P w K mg base 1 "ties_within" ["web", "places"] dC)(cE:Cal P w K mg base 1 "ends_out" ["web", "places", "part"] qo):bB P w K mg base CX0 4 f fd ["web", "places", "part"] qp:=by
 refine F.ok uv (λvs H Q E h =>?_) (λcdv A outer s H vs Q E hr h =>?_)
 ·obtain ⟨_,_,_,_,_,_,_,rfl,_⟩:=iV.mp h
  rfl
 obtain ⟨r,p,a,m,ts,R,Ap,rfl,W,m4,hp,ha,S,q⟩:=iV.mp h
 have lA:=ij S
 refine ⟨_,ah (bO (i:=3) ["place", "places"] [none,some 1] rfl uv.nd rfl rfl (cV (pv 2)) rfl (λ_ _ _ _ _=>ay (i:=0) vG rfl (Or.inl rfl)) (λ_ _ _ _ _=>da (az (cn (K:=K)) (pv 0) (pv 1) rfl)) (λ_ _ _ _ _=>pv 0))
  (ah (bO (i:=4) ["place", "places"] [none,some 1] rfl uv.nd rfl rfl (cV (pv 2)) rfl (λ_ _ _ _ _=>ay (i:=0) vG rfl (Or.inl rfl)) (λ_ _ _ _ _=>da (az (gC (K:=K)) (pv 0) (pv 1) rfl)) (λ_ _ _ _ _=>pv 0))
  (aj (aJ (bP (aa (aA cA hr (by decide) rfl (aa (pv 0) (aa (pv 3) af))) (aa (aA cW hr (by decide) rfl (aa (pv 0) (aa (pv 4) af))) (aa (aA cE hr (by decide) rfl (aa (pv 0) (aa (pv 1) (aa (pv 2) af)))) af))))))),?_⟩
 refine ⟨_,rfl,a,rfl,⟨_,SqT.of ha⟩,bF (xs:=Ap.map V.int) (λj ys H'=>H'=H/\ys=((Ap.take j).filter λv => !decide (v∈R)).map V.int) ⟨rfl,rfl⟩ (by rw[DY];exact small (by lia)) (λj ys H' _ k=>by rw[k.1];exact SqT.of ha) ?_ ?_⟩
 ·rintro j v ys H3 hv hy ⟨rfl,rfl⟩ R1 R0 r1 r0
  obtain ⟨n,en,rfl⟩:=ip hv
  refine ⟨_,rfl,_,rfl,p,_,rfl,.inr (SqT.of hp),rfl,aU R,_,rfl,?_⟩
  show if (if true=true then !inV (.int n) (R.map V.int) else _)=true then _ else _
  rw[if_pos rfl,bj]
  by_cases h:n∈R
  ·rw[decide_eq_true h]
   exact aF (r0 _ ⟨rfl,takeOut en (by simp[h])⟩)
  ·rw[decide_eq_false h]
   exact aS ⟨_,rfl,r1 _ _ ⟨rfl,takeIn en (by simp[h])⟩⟩
 rintro ys H3 hy ⟨rfl,rfl⟩ l hl
 rw[qq]
 have g1:=ag hl (.lst ((oth Ap R).map V.int))
 have el:upd H3 l (.lst ((oth Ap R).map V.int)) l=some (.lst ((oth Ap R).map V.int)):=ae
 change (_:Prop)
 show _
 have eqH:upd H3 l (.lst ((Ap.filter λv => !decide (v∈R)).map V.int))=upd H3 l (.lst ((oth Ap R).map V.int)):=rfl
 rw[eqH]
 generalize upd H3 l (.lst ((oth Ap R).map V.int))=H4 at g1 el
 refine ⟨_,rfl,a,rfl,⟨_,SqT.of (g1 _ _ ha)⟩,bF (xs:=Ap.map V.int) (λj ys H'=>H'=H4/\ys=((Ap.take j).filter λv=>decide (v∈R)).map V.int) ⟨rfl,rfl⟩ (by rw[DY];exact small (by lia)) (λj ys H' _ k=>by rw[k.1];exact SqT.of (g1 _ _ ha)) ?_ ?_⟩
 ·rintro j v ys H5 hv hy ⟨rfl,rfl⟩ R1 R0 r1 r0
  obtain ⟨n,en,rfl⟩:=ip hv
  refine ⟨_,rfl,_,rfl,p,_,rfl,.inr (SqT.of (g1 _ _ hp)),rfl,aU R,_,rfl,?_⟩
  show if (if false=true then _ else inV (.int n) (R.map V.int))=true then _ else _
  rw[if_neg Ek,bj]
  by_cases h:n∈R
  ·rw[decide_eq_true h]
   exact aS ⟨_,rfl,r1 _ _ ⟨rfl,takeIn en (by simp[h])⟩⟩
  ·rw[decide_eq_false h]
   exact aF (r0 _ ⟨rfl,takeOut en (by simp[h])⟩)
 rintro ys H5 hy ⟨rfl,rfl⟩ l2 hl2
 rw[qq]
 have g2:=ag hl2 (.lst ((uq Ap R).map V.int))
 have el2:upd H5 l2 (.lst ((uq Ap R).map V.int)) l2=some (.lst ((uq Ap R).map V.int)):=ae
 have eqH2:upd H5 l2 (.lst ((Ap.filter λv=>decide (v∈R)).map V.int))=upd H5 l2 (.lst ((uq Ap R).map V.int)):=rfl
 rw[eqH2]
 generalize upd H5 l2 (.lst ((uq Ap R).map V.int))=H6 at g2 el2
 have s6:=g1.trans g2
 refine ⟨_,rfl,_,rfl,cO.mpr ⟨r,l,m,ts,oth Ap R,rfl,W.same s6,m4,.inl (g2 _ _ el),zA S R,λH7 s7 =>?_⟩⟩
 have s67:=s6.trans s7
 refine ⟨_,rfl,_,rfl,bN.mpr ⟨r,l2,m,ts,uq Ap R,rfl,W.same s67,.inl (s7 _ _ el2),λH8 s8 =>?_⟩⟩
 have s68:=s67.trans s8
 refine ⟨_,rfl,_,rfl,_,rfl,iU.mpr ⟨r,p,a,m,ts,R,Ap,rfl,W.same s68,m4,s68 _ _ hp,s68 _ _ ha,λH9 s9=>⟨(by show 3<=Ei;decide),λz hz =>?_⟩⟩⟩
 have s10:=(s68.trans s9).trans (ag hz (.tup ((rowOf (ts.map (·.2)) m R Ap).map V.int)))
 exact q z _ s10 ((s68.trans s9).free hz) ae
end
def rise (ns:List Int):Bool:=decide (ns.Pairwise (· < ·))
def adj (ns:List Int):List Bool:=List.zipWith (λa b=>decide (a<b)) ns (ns.drop 1)
theorem Bf (ns:List Int):(adj ns).length=ns.length-1:=by
 unfold adj
 rw[List.length_zipWith,FJ];lia
theorem vK:∀ns:List Int,(adj ns).all id=rise ns
 | []=>by unfold rise;simp[adj]
 | [a]=>by unfold rise;simp[adj]
 | a :: b :: t=>by
  have ih:=vK (b :: t)
  have e:adj (a :: b :: t)=decide (a<b) :: adj (b :: t):=rfl
  rw[e,Mb,ih]
  unfold rise
  rw[Gr,EO,decide_eq_true_iff,decide_eq_true_iff,GB (l:=b :: t)]
  show decide (a<b)=true/\_↔_
  rw[decide_eq_true_iff]
  constructor
  ·rintro ⟨h,p⟩
   refine ⟨λx hx =>?_,p⟩
   rcases EB.mp hx with rfl | hx
   ·exact h
   ·exact Int.lt_trans h ((GB.mp p).1 x hx)
  ·rintro ⟨h,p⟩
   exact ⟨h b (D8 ..),p⟩
theorem uw (xs:List V):iF xs (some 1) none=xs.drop 1:=by
 unfold iF HT.sIx
 cases xs with
 | nil=>rfl
 | cons a l=>simp
theorem CQ {ns:List Int}{i:Nat}{x y:V}(hx:(ns.map V.int)[i]? = some x)(hy:((ns.map V.int).drop 1)[i]? = some y):∃u v:Int,x = .int u/\y = .int v/\(adj ns)[i]? = some (decide (u<v)):=by
 rw[<- JB,En] at hy
 rw[En] at hx
 obtain ⟨u,eu,rfl⟩:=HR.mp hx
 obtain ⟨v,ev,rfl⟩:=HR.mp hy
 refine ⟨u,v,rfl,rfl,?_⟩
 unfold adj
 rw[List.getElem?_zipWith,eu,ev]
def inR (m:Nat)(x:Int):Bool:=decide (0<=x) && decide (x<m)
def isSet (m:Nat)(ns:List Int):Bool:=rise ns && ns.all (inR m)
abbrev vL:Sp:=λvs H Q _=>∃(p:Addr) (ns:List Int),vs=[.ref p]/\H p=some (.tup (ns.map V.int))/\ns.length<=500/\∀H',ax H H'->Q (.bl (rise ns)) H'
@[irreducible] def qr:Sp:=vL
theorem iW {vs:List V}{H:Hp}{Q:VK}{E:XK}:qr vs H Q E↔vL vs H Q E:=by
 delta qr
 exact FU
section
theorem ux:aB ["row"] ["row"] (ao jX):=⟨rfl,rfl,rfl,by decide +kernel,rfl,by decide +kernel,by decide +kernel⟩
theorem gR:(["one", "other"]:List Str).Nodup:=by decide +kernel
theorem uz (F:Fun K "is_rising" "is_rising" jX f fd)(B:Blt mg)(C:Cst mg):bB P w K mg base CX0 1 f fd ["row"] qr:=by
 refine F.ok ux (λvs H Q E h =>?_) (λcdv A outer s H vs Q E hr h =>?_)
 ·obtain ⟨_,_,rfl,_⟩:=iW.mp h
  rfl
 obtain ⟨p,ns,rfl,ep,l5,q⟩:=iW.mp h
 refine ⟨_,(aj (aJ (av (lT rfl) rfl B.b_all t8 (aa (bI ["one", "other"] [none,none] rfl (AI false false rfl B.b_zip (aa (pv 0) (aa (i9 AL (pv 0) (kX ai) kW) af rfl) rfl)) rfl (λ_ _ _ _ _=>(yk (K:=K) (i:=0) (j:=1) gR rfl rfl (Or.inl rfl) (Or.inl rfl))) (λ_ _ _ _ _=>cF) (λ_ _ _ _ _=>(fC uK (pv 0) (pv 1) (aM _)))) af rfl)))),?_⟩
 have lm:(ns.map V.int).length=ns.length:=DY _
 refine ⟨_,rfl,_,rfl,1,rfl,p,_,rfl,ep,λp2 H2 s2 e2 =>?_⟩
 rw[uw] at e2
 have ep2:=s2 _ _ ep
 have ld:((ns.map V.int).drop 1).length=ns.length-1:=by rw[FJ,lm]
 refine ⟨p,p2,rfl,⟨_,SqT.of ep2⟩,⟨_,SqT.of e2⟩,DH (ns.length-1) (by rw[lm];lia) (by rw[ld];lia) (.inr ld.symm) (λi zs H'=>ax H2 H'/\zs=((adj ns).take i).map V.bl) (by decide) ⟨ax.refl _,rfl⟩ (small (by lia)) (λi zs H' _ k=>⟨SqT.of (k.1 _ _ ep2),SqT.of (k.1 _ _ e2)⟩) ?_ ?_⟩
 ·rintro i x y zs H' T' hx hy lz hT' ⟨s',rfl⟩ R1 R0 r1 r0
  obtain ⟨u,v,rfl,rfl,euv⟩:=CQ hx hy
  refine aS ⟨_,rfl,_,rfl,_,_,rfl,rfl,r1 _ _ ⟨s'.trans (ag hT' _),?_⟩⟩
  rw[E4,euv,Ee];rfl
 ·rintro zs H' lz ⟨s',rfl⟩ c5 hc5
  rw[show (adj ns).take (ns.length-1)=adj ns from Et (by rw[Bf];exact D6 _)]
  refine ⟨c5,_,rfl,SqL.of ae,?_⟩
  rw[vK]
  exact q _ (s2.trans (s'.trans (ag hc5 _)))
end
theorem ni {m:Nat}{ns:List Int}(h:isSet m ns=true):bD m ns:=by
 unfold isSet rise at h
 rw[EO,decide_eq_true_iff,Gv] at h
 refine ⟨h.1.imp λ{a b} z=>Int.ne_of_lt z,λv hv =>?_⟩
 have:=h.2 v hv
 unfold inR at this
 rw[EO,decide_eq_true_iff,decide_eq_true_iff] at this
 exact this
abbrev zB:Sp:=λvs H Q _=>∃(r p:Addr) (m:Nat) (ts:LAz) (ns:List Int),vs=[.ref r,.ref p]/\Wb H r m ts/\H p=some (.tup (ns.map V.int))/\ns.length<=500/\∀H',ax H H'->Q (.bl (isSet m ns)) H'
@[irreducible] def vM:Sp:=zB
theorem j7 {vs:List V}{H:Hp}{Q:VK}{E:XK}:vM vs H Q E↔zB vs H Q E:=by
 delta vM
 exact FU
section
theorem xv:aB ["web", "places"] ["web", "places"] (ao mz):=⟨rfl,rfl,rfl,by decide +kernel,rfl,by decide +kernel,by decide +kernel⟩
theorem iu:(["place", "web"]:List Str).Nodup:=by decide +kernel
theorem xw (F:Fun K "is_set_of" "is_set_of" mz f fd)(B:Blt mg)(cIsRising:Cal P w K mg base 1 "is_rising" ["row"] qr)(C:Cst mg):bB P w K mg base CX0 2 f fd ["web", "places"] vM:=by
 refine F.ok xv (λvs H Q E h =>?_) (λcdv A outer s H vs Q E hr h =>?_)
 ·obtain ⟨_,_,_,_,_,rfl,_⟩:=j7.mp h
  rfl
 obtain ⟨r,p,m,ts,ns,rfl,W,ep,l5,q⟩:=j7.mp h
 refine ⟨_,(aj (aJ (xG (aA cIsRising hr (by decide) rfl (aa (pv 1) af rfl)) (xF (av (lT rfl) rfl B.b_all t8 (aa (bI ["place", "web"] [none,some 0] rfl (cV (pv 1)) rfl (λ_ _ _ _ _=>(ay (i:=0) iu rfl (Or.inl rfl))) (λ_ _ _ _ _=>cF) (λ_ _ _ _ _=>(xN Dj uK ai (pv 0) (aD (dM (K:=K)) (pv 1) ai (λ_ _=>rfl))))) af rfl)))))),?_⟩
 obtain ⟨t,e1,e2⟩:=W.at'
 refine ⟨_,rfl,iW.mpr ⟨p,ns,rfl,ep,l5,λH1 s1=>⟨_,rfl,dy (λz =>?_) (λz =>?_)⟩⟩⟩
 ·refine ⟨_,rfl,p,rfl,⟨_,SqT.of (s1 _ _ ep)⟩,bF (xs:=ns.map V.int) (λi ys H'=>H'=H1/\ys=((ns.take i).map (inR m)).map V.bl) ⟨rfl,rfl⟩ (by rw[DY];exact small (by lia)) (λi ys H' _ h=>by rw[h.1];exact SqT.of (s1 _ _ ep)) ?_ ?_⟩
  ·rintro i v ys H' hv hy ⟨rfl,rfl⟩ R1 R0 r1 r0
   obtain ⟨x,ex,rfl⟩:=ip hv
   refine aS ⟨_,rfl,_,_,rfl,rfl,_,rfl,dy (λy =>?_) (λy=>r1 _ _ ⟨rfl,?_⟩)⟩
   ·refine ⟨_,rfl,r,_,0,_,rfl,rfl,SqT.of (s1 _ _ e1),rfl,_,_,rfl,rfl,r1 _ _ ⟨rfl,?_⟩⟩
    rw[take_snoc ex,Ee,show inR m x=decide (x<m) by unfold inR;rw[y,Kx]];rfl
   ·rw[take_snoc ex,Ee,show inR m x=false by unfold inR;rw[GO.mpr y,Io]];rfl
  rintro ys H' hy ⟨eH',rfl⟩ al hal
  rw[eH'] at hal ⊢
  rw[DY,show ns.take ns.length=ns from G2]
  refine ⟨al,_,rfl,SqL.of ae,?_⟩
  have e:((ns.map (inR m)).all id)=isSet m ns:=by
   unfold isSet;rw[z,Kx,Nj];rfl
  rw[e]
  exact q _ (s1.trans (ag hal _))
 ·have e:isSet m ns=false:=by
   unfold isSet;rw[GO.mpr z,Io]
  rw[e] at q
  exact q _ s1
end
def wth (ns:List (List Int))(A:List Int):Int:=1+((ns.filter (both A)).length:Int)+(((ns.filter (both A)).length:Int)-(A.length:Int)+1)%2
abbrev sd:Sp:=λvs H Q _=>∃(r p:Addr) (m:Int) (ts:LAz) (ns:List Int),vs=[.ref r,.ref p]/\Wb H r m ts/\H p=some (.tup (ns.map V.int))/\ns.length<=500/\∀H',ax H H'->Q (.int (wth (ts.map (·.2)) ns)) H'
@[irreducible] def jE:Sp:=sd
theorem eE {vs:List V}{H:Hp}{Q:VK}{E:XK}:jE vs H Q E↔sd vs H Q E:=by
 delta jE
 exact FU
section
theorem pA:aB ["web", "part", "within"] ["web", "part"] (ao mD):=⟨rfl,rfl,rfl,by decide +kernel,rfl,by decide +kernel,by decide +kernel⟩
theorem xx (F:Fun K "worth_of" "worth_of" mD f fd)(B:Blt mg)(cTiesWithin:Cal P w K mg base 1 "ties_within" ["web", "places"] dC)(C:Cst mg):bB P w K mg base CX0 2 f fd ["web", "part"] jE:=by
 refine F.ok pA (λvs H Q E h =>?_) (λcdv A outer s H vs Q E hr h =>?_)
 ·obtain ⟨_,_,_,_,_,rfl,_⟩:=eE.mp h
  rfl
 obtain ⟨r,p,m,ts,ns,rfl,W,ep,l5,q⟩:=eE.mp h
 refine ⟨_,(ah (aE (i:=2) pA.nd rfl (Or.inl rfl) (aA cTiesWithin hr (by decide) rfl (aa (pv 0) (aa (pv 1) af rfl) rfl)))
  (ah (bq (az cI (aN gy (aN dH (aN jM (pv 2) (av aL rfl B.b_len mK (aa (pv 1) af rfl))) ai) ai) ai (aM _)) (aj (aJ (aN dH ai (pv 2)))) aI)
  (aj (aJ (aN dH ai (pv 2)))))),?_⟩
 refine ⟨_,rfl,_,rfl,bN.mpr ⟨r,p,m,ts,ns,rfl,W,.inr ep,λH1 s1 =>?_⟩⟩
 have lw:(((ts.map (·.2)).filter (both ns)).length)<=200:=by
  have:=GW (both ns) (ts.map (·.2))
  have:=W.len
  rw[DY] at *
  lia
 unfold wth at q
 generalize hw:((ts.map (·.2)).filter (both ns)).length=w at q lw
 have lm:(ns.map V.int).length=ns.length:=DY _
 refine ⟨_,rfl,_,rfl,p,_,rfl,.inr (SqT.of (s1 _ _ ep)),_,_,rfl,rfl,_,_,rfl,rfl,_,_,rfl,rfl,(show (0:Int)<2 by decide),rfl,_,rfl,dy (λz =>?_) (λz =>?_)⟩
 ·have z:=V.int.inj (of_decide_eq_true z)
  rw[lm] at z
  refine ⟨_,rfl,_,_,rfl,rfl,?_⟩
  have:=q H1 s1
  rw[z,show (1:Int)+(w:Int)+1=2+w by lia] at this
  exact this
 ·have z:¬ ((w:Int)-(ns.length:Int)+1)%2=1:=λy=>z (decide_eq_true (by show V.int _=V.int _;rw[lm,y]))
  refine ⟨_,rfl,_,_,rfl,rfl,?_⟩
  have:=q H1 s1
  rw[show ((w:Int)-(ns.length:Int)+1)%2=0 by lia,Int.add_zero] at this
  exact this
end
noncomputable def okp (ns:List (List Int))(m:Nat)(A:List Int):Bool:=isSet m A && decide (trees ns m A=1)
noncomputable def iX (ns:List (List Int))(m:Nat)(ps:List (List Int)):Bool:=ps.all (okp ns m) && decide (ps.flatten.Perm (rgI m))
theorem CS {a b:List Int}(p:a.Perm b)(ha:a.Pairwise (· <= ·))(hb:b.Pairwise (· <= ·)):a=b :=
 p.eq_of_pairwise (λa b _ _ x y=>Int.le_antisymm x y) ha hb
theorem CT {out ms:List Int}{m:Nat}(p:out.Perm ms)(w:out.Pairwise (· <= ·)):decide (out=rgI m)=decide (ms.Perm (rgI m)):=by
 rw[Gr,decide_eq_true_iff,decide_eq_true_iff]
 exact ⟨λe=>e ▸ p.symm,λh=>CS (p.trans h) w ((fT m).imp λ{a b} h=>by lia)⟩
theorem vN {ns:List (List Int)}{m:Nat}{A:List Int}(h:okp ns m A=true):A.length<=m:=ij (ni (by
 unfold okp at h
 rw[EO] at h
 exact h.1))
theorem se {m:Nat}:∀{ps:List (List Int)},(∀A∈ps,A.length<=m)->ps.flatten.length<=m*ps.length
 | [],_=>by simp
 | A :: ps,h=>by
  have a:=h A (D8 ..)
  have b:=se (m:=m) (ps:=ps) λB hB=>h B (Eg _ hB)
  rw[GN,D7,EI,Nat.mul_add]
  lia
theorem vO {ns:List (List Int)}{m:Nat}{ps:List (List Int)}{A:List Int}(h:A∈ps)(n:okp ns m A≠true):iX ns m ps=false:=by
 unfold iX
 rw[Bool.and_eq_false_iff]
 refine .inl (GO.mpr λz=>n ?_)
 exact Gv.mp z A h
abbrev pB:Sp:=λvs H Q _=>∃(r l:Addr) (m:Nat) (ts us:LAz),vs=[.ref r,.ref l]/\Wb H r m ts/\m<=250/\(H l=some (.lst (us.map λu =>.ref u.1))\/H l=some (.tup (us.map λu =>.ref u.1)))/\(∀u∈us,H u.1=some (.tup (u.2.map V.int)))/\(∀u∈us,u.2.length<=500)/\us.length<=500/\∀H',ax H H'->Q (.bl (iX (ts.map (·.2)) m (us.map (·.2)))) H'
@[irreducible] def jF:Sp:=pB
theorem gc {vs:List V}{H:Hp}{Q:VK}{E:XK}:jF vs H Q E↔pB vs H Q E:=by
 delta jF
 exact FU
section
theorem gS:aB ["web", "parts", "met", "part"] ["web", "parts"] (ao iN):=⟨rfl,rfl,rfl,by decide +kernel,rfl,by decide +kernel,by decide +kernel⟩
theorem sf (F:Fun K "is_parting" "is_parting" iN f fd)(B:Blt mg)(cIsSetOf:Cal P w K mg base 2 "is_set_of" ["web", "places"] vM)(cPartsAmong:Cal P w K mg base 3 "parts_among" ["web", "places"] fZ)(C:Cst mg):bB P w K mg base CX0 4 f fd ["web", "parts"] jF:=by
 refine F.ok gS (λvs H Q E h =>?_) (λcdv A outer s H vs Q E hr h =>?_)
 ·obtain ⟨_,_,_,_,_,rfl,_⟩:=gc.mp h
  rfl
 obtain ⟨r,l,m,ts,us,rfl,W,m2,el,tu,tl,lu,q⟩:=gc.mp h
 refine ⟨_,(ah (aE (i:=2) gS.nd rfl (Or.inl rfl) (bR af))
  (ah (cf Fl rfl (pX (pv 1)) (ay (i:=3) gS.nd rfl (Or.inl rfl))
   (ah (bq (PW.pt (uE (gw (dG (aA cIsSetOf hr (by decide) rfl (aa (pv 0) (aa (pv 3) af rfl) rfl)))) (pO (az uJ (aA cPartsAmong hr (by decide) rfl (aa (pv 0) (aa (pv 3) af rfl) rfl)) ai (aM _))))) (aj (aJ kh)) aI)
   (aj (bA (eC EM PySem.F.slot_list_extend PySem.F.type_list_extend tU (pv 2) (aa (pv 3) af rfl))))) (λ_=>rfl))
  (aj (aJ (fC (AK hr) (av fK rfl B.b_sorted cw (aa (pv 2) af rfl)) (aQ (mq hr.hd) rfl B.b_list vq (aa (aQ dA rfl B.b_range gJ (aa (aD aG (pv 0) ai (λ_ _=>rfl)) af rfl)) af rfl)) (aM _)))))),?_⟩
 obtain ⟨t,e1,e2⟩:=W.at'
 refine ⟨by decide,λc hc =>?_⟩
 obtain ⟨H1,zQ9,g1,ec⟩:=nwZ hc (.lst [])
 rw[zQ9]
 refine ⟨_,rfl,l,rfl,vE (xs:=us.map λu =>.ref u.1) (λi σ H'=>(∃c3,σ=[some (.ref r),some (.ref l),some (.ref c),c3])/\ax H H'/\H' c=some (.lst (((us.take i).map (·.2)).flatten.map V.int))/\∀A∈(us.take i).map (·.2),okp (ts.map (·.2)) m A=true) (el.imp (g1 _ _) (g1 _ _)) ⟨⟨_,rfl⟩,g1,ec,λA h=>by cases h⟩ (λi σ H' z=>by rcases el with y | y <;> rw[z.2.1 _ _ y,g1 _ _ y]) ?_ ?_⟩
 ·rintro i x σ H2 hx ⟨⟨c3,rfl⟩,s2,ec2,ok2⟩
  obtain ⟨u,eu,rfl⟩:=item hx
  have mu:=Eb eu
  have mA:u.2∈us.map (·.2):=GP (f:=(·.2)) mu
  refine ⟨_,rfl,_,rfl,j7.mpr ⟨r,u.1,m,ts,u.2,rfl,W.same s2,s2 _ _ (tu u mu),tl u mu,λH3 s3=>⟨_,rfl,dy (λz=>aS ?_) (λz =>?_)⟩⟩⟩
  ·have n:iX (ts.map (·.2)) m (us.map (·.2))=false:=vO mA λy=>by
    unfold okp at y
    rw[EO] at y
    rw[y.1] at z
    cases z
   rw[n] at q
   exact q H3 (s2.trans s3)
  have hs:isSet m u.2=true:=by
   cases h:isSet m u.2
   ·rw[h] at z;exact absurd rfl z
   ·rfl
  have s23:=s2.trans s3
  refine ⟨_,rfl,_,rfl,cO.mpr ⟨r,u.1,m,ts,u.2,rfl,W.same s23,m2,.inr (s23 _ _ (tu u mu)),ni hs,λH4 s4=>⟨rfl,_,rfl,dy (λz =>?_) (λz =>?_)⟩⟩⟩
  ·have n:iX (ts.map (·.2)) m (us.map (·.2))=false:=vO mA λy=>by
    unfold okp at y
    rw[EO,decide_eq_true_iff] at y
    rw[y.2] at z
    cases z
   rw[n] at q
   exact q H4 (s23.trans s4)
  have ht:okp (ts.map (·.2)) m u.2=true:=by
   unfold okp
   rw[hs,Kx,decide_eq_true_iff]
   rw[Bool.not_eq_true,Bool.not_eq_false',decide_eq_true_iff] at z
   have:=V.int.inj z
   lia
  have s24:=s23.trans s4
  have ec4:=s4 _ _ (s3 _ _ ec2)
  have eu4:=s24 _ _ (tu u mu)
  have lf:=se (m:=m) λA hA=>vN (ok2 A hA)
  have lA:=vN ht
  rw[DY,Ff] at lf
  have lf2:m*min i us.length<=250*500:=Nat.mul_le_mul m2 (by lia)
  refine ⟨_,rfl,.inl ⟨rfl,_,SqL.of ec4⟩,_,rfl,c,u.1,_,_,rfl,rfl,ec4,eu4,?_,⟨_,rfl⟩,λq' o e =>?_,?_,?_⟩
  ·rw[DY,DY,Ic];lia
  ·rw[ak (aq e hc)];exact s24 _ _ e
  ·rw[ae,take_snoc eu,List.flatten_append,Ee]
   simp
  ·intro A hA
   rw[take_snoc eu] at hA
   rcases Eh.mp hA with hA | hA
   ·exact ok2 A hA
   ·rw[Ef.mp hA];exact ht
 ·rintro σ H2 ⟨⟨c3,rfl⟩,s2,ec2,ok2⟩
  rw[DY,G2] at ec2 ok2
  refine ⟨_,rfl,c,_,rfl,.inl (SqL.of ec2),λlo out hlo pm pw =>?_⟩
  obtain ⟨H3,zQ9,g3,elo⟩:=nwZ hlo (.lst (out.map V.int))
  rw[zQ9]
  refine ⟨_,rfl,r,_,0,_,rfl,rfl,SqT.of (g3 _ _ (s2 _ _ e1)),rfl,(m:Int),rfl,λa ha=>⟨a,m,rfl,ae,by lia,λlr hlr =>?_⟩⟩
  rw[pq]
  have g4:=(ag ha (.rng 0 (m:Int))).trans (ag hlr (.lst ((rgI m).map V.int)))
  have elr:upd (upd H3 a (.rng 0 (m:Int))) lr (.lst ((rgI m).map V.int)) lr=some (.lst ((rgI m).map V.int)):=ae
  generalize upd (upd H3 a (.rng 0 (m:Int))) lr (.lst ((rgI m).map V.int))=H4 at g4 elr
  refine ⟨lo,lr,out,rgI m,rfl,rfl,SqL.of (g4 _ _ elo),SqL.of elr,?_⟩
  have e:iX (ts.map (·.2)) m (us.map (·.2))=decide (out=rgI m):=by
   unfold iX
   rw[CT pm pw,Gv.mpr ok2,Kx]
  rw[e] at q
  exact q H4 (s2.trans (g3.trans g4))
end
structure Exs (K:D2)(mg:Str->Option D1)(čc čk čh či čf čm čg čd če čb čl čj:Addr):Prop where
 x_WebError:mg "WebError" = some (.ref čc)
 x_BadWeb:mg "BadWeb" = some (.ref čk)
 x_NoStep:mg "NoStep" = some (.ref čh)
 x_NoText:mg "NoText" = some (.ref či)
 x_TooMany:mg "TooMany" = some (.ref čf)
 x_NoTie:mg "NoTie" = some (.ref čm)
 x_NoRing:mg "NoRing" = some (.ref čg)
 x_NotClear:mg "NotClear" = some (.ref čd)
 x_NotThree:mg "NotThree" = some (.ref če)
 x_BadBoard:mg "BadBoard" = some (.ref čb)
 x_NoRow:mg "NoRow" = some (.ref čl)
 x_NoBack:mg "NoBack" = some (.ref čj)
 h_ex:PySem.W.excIn K če mv "ValueError.__new__" = true
 h_i:ExI K če
 h_m:PySem.W.exmOne K (.ref če) (.ref čc)=some true
 h_v:PySem.W.kitOne K (.ref če) (.type "ValueError")=some true
 h_w:PySem.W.kitOne K (.ref če) (.ref čc)=some true
 h_o:[čk,čh,či,čf,čm,čg,čd,če,čb,čl,čj].map (λa=>PySem.W.kitOne K (.ref če) (.ref a))=[some false,some false,some false,some false,some false,some false,some false,some true,some false,some false,some false]
 t_ex:PySem.W.excIn K čf mv "ValueError.__new__" = true
 t_i:ExI K čf
 t_m:PySem.W.exmOne K (.ref čf) (.ref čc)=some true
 t_v:PySem.W.kitOne K (.ref čf) (.type "ValueError")=some true
 t_w:PySem.W.kitOne K (.ref čf) (.ref čc)=some true
 t_o:[čk,čh,či,čf,čm,čg,čd,če,čb,čl,čj].map (λa=>PySem.W.kitOne K (.ref čf) (.ref a))=[some false,some false,some false,some true,some false,some false,some false,some false,some false,some false,some false]
 n_ex:PySem.W.excIn K čd mv "ValueError.__new__" = true
 n_i:ExI K čd
 n_m:PySem.W.exmOne K (.ref čd) (.ref čc)=some true
 n_v:PySem.W.kitOne K (.ref čd) (.type "ValueError")=some true
 n_w:PySem.W.kitOne K (.ref čd) (.ref čc)=some true
 n_o:[čk,čh,či,čf,čm,čg,čd,če,čb,čl,čj].map (λa=>PySem.W.kitOne K (.ref čd) (.ref a))=[some false,some false,some false,some false,some false,some false,some true,some false,some false,some false,some false]
theorem dk {X:Cx}{E:XK}{j k:Nat}{x:Str}{ps:List Str}{sp:Sp}{e:Expr}{es:List Expr}{t:TA}{p pos:Pos}(hx:Passes (CX1 X.prog X.w) X E)(C:iJ X.prog X.w X.K X.mg X.base k x ps sp)(hr:cy j X.A)(hj:k<=j)(hg:Gl X x)(ha:PA X (e :: es) t)
  (hdb:(x == ("__debug__" : Str))=false:=by decide) (he:E5 (e :: es) X.env=(false,eval e X.env) :: E5 es X.env:=by rfl) (hpl:(Ig pos (E5 es X.env)).any (·.1)=false:=by rfl) :
  PE X (.Call (.Name x p) (e :: es) [] pos) (xP sp [] E t):=by
 obtain ⟨f,fd,F,m,kp,b⟩:=C.ex
 exact uL F (hr.mono hj) hg m kp b .nil hx ha hdb he hpl
abbrev pC:Sp:=λvs H Q _=>∃(r p:Addr) (m:Nat) (ts:LAz) (R:List Int),vs=[.ref r,.ref p]/\Wb H r m ts/\m<=250/\H p=some (.tup (R.map V.int))/\∀(b:Bool) (H':Hp),(b=true↔cG (ts.map (·.2)) m (bC m R))->ax H H'->Q (.bl b) H'
@[irreducible] def gU:Sp:=pC
theorem dP {vs:List V}{H:Hp}{Q:VK}{E:XK}:gU vs H Q E↔pC vs H Q E:=by
 delta gU
 exact FU
section
theorem sg:aB ["web", "places"] ["web", "places"] (ao iK):=⟨rfl,rfl,rfl,by decide +kernel,rfl,by decide +kernel,by decide +kernel⟩
theorem sj (F:Fun K "clears_web" "clears_web" iK f fd)(B:Blt mg)(cSpareTies:Cal P w K mg base 3 "spare_ties" ["web"] lB)(cCutWeb:Cal P w K mg base 1 "cut_web" ["web", "places"] rV)(C:Cst mg):bB P w K mg base CX0 4 f fd ["web", "places"] gU:=by
 refine F.ok sg (λvs H Q E h =>?_) (λcdv A outer s H vs Q E hr h =>?_)
 ·obtain ⟨_,_,_,_,_,rfl,_⟩:=dP.mp h
  rfl
 obtain ⟨r,p,m,ts,R,rfl,W,m4,hp,q⟩:=dP.mp h
 refine ⟨_,(aj (aJ (fC cI (aA cSpareTies hr (by decide) rfl (aa (aA cCutWeb hr (by decide) rfl (aa (pv 0) (aa (pv 1) af rfl) rfl)) af rfl)) ai (aM _)))),?_⟩
 refine ⟨_,rfl,_,rfl,ig.mpr ⟨r,p,m,ts,R,rfl,W,.inr hp,λz us H1 s1 W1 e1 =>?_⟩⟩
 refine gO.mpr ⟨z,m,us,rfl,W1,by lia,λH2 s2=>⟨rfl,q _ _ ?_ (s1.trans s2)⟩⟩
 rw[rZ W.ok] at e1
 have l1:us.length=(Sub (ts.map (·.2)) (bC m R)).length:=by rw[<- e1,DY]
 rw[e1,l1,decide_eq_true_iff]
 unfold cG
 constructor
 ·intro z
  have:=V.int.inj z
  lia
 ·intro z
  congr 1
  lia
end
def zC (ns:List (List Int))(k:Int):Bool := !decide (V.int (b8 ns k)=V.int 3)
theorem zD (ns:List (List Int))(m:Nat):((rgI m).map (zC ns)).any id=true↔¬ bz ns m:=by
 rw[List.any_map,Hj]
 constructor
 ·rintro ⟨k,hk,b⟩ C
  have:=aT.mp hk
  unfold zC at b
  simp[C k this.1 this.2] at b
 ·intro n
  refine FF λz=>n λk k0 km =>?_
  refine FF λy=>z ⟨k,aT.mpr ⟨k0,km⟩,?_⟩
  unfold zC
  simp[y]
theorem zE (i:Nat):rgI (i+1)=rgI i++[(i:Int)]:=by unfold rgI;rw[JP,Ee];rfl
@[irreducible] def gf (C:Addr):Sp:=λvs H Q E=>∃(r:Addr) (m:Nat) (ts:LAz),vs=[.ref r]/\Wb H r m ts/\m<=250/\(bz (ts.map (·.2)) m->∀H',ax H H'->Q .non H')/\(¬ bz (ts.map (·.2)) m->∀H',ax H H'->E (.ref C) none H')
theorem cQ {C:Addr}{vs:List V}{H:Hp}{Q:VK}{E:XK}:gf C vs H Q E↔∃(r:Addr) (m:Nat) (ts:LAz),vs=[.ref r]/\Wb H r m ts/\m<=250/\(bz (ts.map (·.2)) m->∀H',ax H H'->Q .non H')/\(¬ bz (ts.map (·.2)) m->∀H',ax H H'->E (.ref C) none H'):=by
 delta gf
 exact FU
section
variable  {P:Eo}{w:ES}{K:D2}{mg:Str->Option D1}{base:Heap}{f:Addr}{fd:Fb}{čc čk čh či čf čm čg čd če čb čl čj:Addr}
theorem sr:aB ["web"] ["web"] (ao iL):=⟨rfl,rfl,rfl,by decide +kernel,rfl,by decide +kernel,by decide +kernel⟩
theorem gu:(["place", "web"]:List Str).Nodup:=by decide +kernel
theorem su (F:Fun K "look_three" "look_three" iL f fd)(B:Blt mg)(Z:Exs K mg čc čk čh či čf čm čg čd če čb čl čj)(cTiesAt:Cal P w K mg base 1 "ties_at" ["web", "place"] AX)(C:Cst mg):bB P w K mg base (CX1 P w) 2 f fd ["web"] (gf če):=by
 refine F.okX sr (λvs H Q E h =>?_) (λcdv A outer s H vs Q E hr h =>?_)
 ·obtain ⟨_,_,_,rfl,_⟩:=cQ.mp h
  rfl
 obtain ⟨r,m,ts,rfl,W,m2,q1,q2⟩:=cQ.mp h
 refine ⟨_,(aj (bq (dG (av (yB rfl) rfl B.b_any CH (aa (bI ["place", "web"] [none,some 0] rfl (bu rfl B.b_range (aa (aD aG (pv 0) ai (λ_ _=>rfl)) af rfl)) rfl (λ_ _ _ _ _=>(ay (i:=0) gu rfl (Or.inl rfl))) (λ_ _ _ _ _=>cF) (λ_ _ _ _ _=>(fC uJ (aA cTiesAt hr (by decide) rfl (aa (pv 1) (aa (pv 0) af rfl) rfl)) ai (aM _)))) af rfl))) (aj (mw (x := "NotThree") yK ⟨Z.h_ex,Z.x_NotThree⟩ hr.hd rfl (aa sN af rfl))) aI)),?_⟩
 obtain ⟨t,e1,e2⟩:=W.at'
 refine ⟨_,rfl,r,_,0,_,rfl,rfl,SqT.of e1,rfl,(m:Int),rfl,by lia,by lia,bL (λi ys H'=>ax H H'/\ys=((rgI i).map (zC (ts.map (·.2)))).map V.bl) ⟨ax.refl _,rfl⟩ (small (by lia)) ?_ ?_⟩
 ·rintro i ys H3 hi hy ⟨s3,rfl⟩ R1 R0 r1 r0
  refine aS ⟨_,rfl,_,rfl,mM.mpr ⟨r,m,0+(i:Int),ts,rfl,W.same s3,λH4 s4=>⟨rfl,r1 _ _ ⟨s3.trans s4,?_⟩⟩⟩⟩
  rw[show (0:Int)+(i:Int)=i from ME _,zE,Ee,Ee]
  rfl
 rintro ys H3 hy ⟨s3,rfl⟩ l hl
 have s4:=s3.trans (ag hl (.lst (((rgI m).map (zC (ts.map (·.2)))).map V.bl)))
 refine ⟨l,_,rfl,SqL.of ae,?_⟩
 have k:=zD (ts.map (·.2)) m
 refine ⟨_,rfl,dy (λz=>⟨(by show 1<=Ei;decide),q2 (k.mp z) _ s4⟩) λz=>q1 (FF λy=>z (k.mpr y)) _ s4⟩
end
@[irreducible] def jG (C:Addr):Sp:=λvs H Q E=>∃(r p:Addr) (m:Nat) (ts:LAz) (R:List Int),vs=[.ref r,.ref p]/\Wb H r m ts/\m<=250/\H p=some (.tup (R.map V.int))/\(cG (ts.map (·.2)) m (bC m R)->∀H',ax H H'->Q .non H')/\(¬ cG (ts.map (·.2)) m (bC m R)->∀H',ax H H'->E (.ref C) none H')
theorem eF {C:Addr}{vs:List V}{H:Hp}{Q:VK}{E:XK}:jG C vs H Q E↔∃(r p:Addr) (m:Nat) (ts:LAz) (R:List Int),vs=[.ref r,.ref p]/\Wb H r m ts/\m<=250/\H p=some (.tup (R.map V.int))/\(cG (ts.map (·.2)) m (bC m R)->∀H',ax H H'->Q .non H')/\(¬ cG (ts.map (·.2)) m (bC m R)->∀H',ax H H'->E (.ref C) none H'):=by
 delta jG
 exact FU
section
variable  {P:Eo}{w:ES}{K:D2}{mg:Str->Option D1}{base:Heap}{f:Addr}{fd:Fb}{čc čk čh či čf čm čg čd če čb čl čj:Addr}
theorem sv:aB ["web", "places"] ["web", "places"] (ao iM):=⟨rfl,rfl,rfl,by decide +kernel,rfl,by decide +kernel,by decide +kernel⟩
theorem sD (F:Fun K "look_clear" "look_clear" iM f fd)(B:Blt mg)(Z:Exs K mg čc čk čh či čf čm čg čd če čb čl čj)(cClearsWeb:Cal P w K mg base 4 "clears_web" ["web", "places"] gU)(C:Cst mg):bB P w K mg base (CX1 P w) 5 f fd ["web", "places"] (jG čd):=by
 refine F.okX sv (λvs H Q E h =>?_) (λcdv A outer s H vs Q E hr h =>?_)
 ·obtain ⟨_,_,_,_,_,rfl,_⟩:=eF.mp h
  rfl
 obtain ⟨r,p,m,ts,R,rfl,W,m2,hp,q1,q2⟩:=eF.mp h
 refine ⟨_,(aj (bq (gw (dG (aA cClearsWeb hr (by decide) rfl (aa (pv 0) (aa (pv 1) af rfl) rfl)))) (aj (mw (x := "NotClear") yK ⟨Z.n_ex,Z.x_NotClear⟩ hr.hd rfl (aa sN af rfl))) aI)),?_⟩
 refine ⟨_,rfl,_,rfl,dP.mpr ⟨r,p,m,ts,R,rfl,W,m2,hp,λb H1 k s1=>⟨_,rfl,?_⟩⟩⟩
 cases b with
 | true=>exact aF (q1 (k.mp rfl) _ s1)
 | false=>exact aS ⟨(by show 1<=Ei;decide),q2 (λy=>Bool.noConfusion (k.mpr y)) _ s1⟩
end
@[irreducible] def lD (C:Addr):Sp:=λvs H Q E=>∃(r l:Addr) (m:Nat) (ts us:LAz),vs=[.ref r,.ref l]/\Wb H r m ts/\m<=250/\(H l=some (.lst (us.map λu =>.ref u.1))\/H l=some (.tup (us.map λu =>.ref u.1)))/\(∀u∈us,H u.1=some (.tup (u.2.map V.int)))/\(∀u∈us,u.2.length<=500)/\us.length<=500/\(bz (ts.map (·.2)) m->∀v H',ax H H'->Q v H')/\(¬ bz (ts.map (·.2)) m->∀H',ax H H'->E (.ref C) none H')
theorem gW {C:Addr}{vs:List V}{H:Hp}{Q:VK}{E:XK}:lD C vs H Q E↔∃(r l:Addr) (m:Nat) (ts us:LAz),vs=[.ref r,.ref l]/\Wb H r m ts/\m<=250/\(H l=some (.lst (us.map λu =>.ref u.1))\/H l=some (.tup (us.map λu =>.ref u.1)))/\(∀u∈us,H u.1=some (.tup (u.2.map V.int)))/\(∀u∈us,u.2.length<=500)/\us.length<=500/\(bz (ts.map (·.2)) m->∀v H',ax H H'->Q v H')/\(¬ bz (ts.map (·.2)) m->∀H',ax H H'->E (.ref C) none H'):=by
 delta lD
 exact FU
section
variable  {P:Eo}{w:ES}{K:D2}{mg:Str->Option D1}{base:Heap}{f:Addr}{fd:Fb}{čc čk čh či čf čm čg čd če čb čl čj:Addr}
theorem nj:aB ["web", "parts"] ["web", "parts"] (ao eN):=⟨rfl,rfl,rfl,by decide +kernel,rfl,by decide +kernel,by decide +kernel⟩
theorem fz:(["part", "web"]:List Str).Nodup:=by decide +kernel
theorem nq (F:Fun K "parting_twice" "parting_twice" eN f fd)(B:Blt mg)(Z:Exs K mg čc čk čh či čf čm čg čd če čb čl čj)(xLookT:iJ P w K mg base 2 "look_three" ["web"] (gf če))(cIsParting:Cal P w K mg base 4 "is_parting" ["web", "parts"] jF)(cWorthOf:Cal P w K mg base 2 "worth_of" ["web", "part"] jE)(C:Cst mg):bB P w K mg base (CX1 P w) 5 f fd ["web", "parts"] (lD če):=by
 refine F.okX nj (λvs H Q E h =>?_) (λcdv A outer s H vs Q E hr h =>?_)
 ·obtain ⟨_,_,_,_,_,rfl,_⟩:=gW.mp h
  rfl
 obtain ⟨r,l,m,ts,us,rfl,W,m2,el,tu,tl,lu,q1,q2⟩:=gW.mp h
 refine ⟨_,(ah (bA (dk iA xLookT hr (by decide) rfl (aa (pv 0) af rfl)))
  (ah (bq (gw (dG (aA cIsParting hr (by decide) rfl (aa (pv 0) (aa (pv 1) af rfl) rfl)))) (aj (aJ lJ)) aI)
  (aj (aJ (aN jM (aN dH (aN kU (aD aG (pv 0) ai (λ_ _=>rfl)) ai) (av (q9 hr.hd) rfl B.b_sum yX (aa (bI ["part", "web"] [none,some 0] rfl (pX (pv 1)) rfl (λ_ _ _ _ _=>(ay (i:=0) fz rfl (Or.inl rfl))) (λ_ _ _ _ _=>cF) (λ_ _ _ _ _=>(aA cWorthOf hr (by decide) rfl (aa (pv 1) (aa (pv 0) af rfl) rfl)))) af rfl))) (av aL rfl B.b_len mK (aa (aD aG (pv 0) ai (λ_ _=>rfl)) af rfl))))))),?_⟩
 obtain ⟨t,e1,e2⟩:=W.at'
 refine ⟨_,rfl,cQ.mpr ⟨r,m,ts,rfl,W,m2,λC3 H1 s1 =>?_,q2⟩⟩
 have q:=q1 C3
 refine ⟨_,rfl,_,rfl,gc.mpr ⟨r,l,m,ts,us,rfl,W.same s1,m2,el.imp (s1 _ _) (s1 _ _),λu hu=>s1 _ _ (tu u hu),tl,lu,λH2 s2=>⟨_,rfl,dy (λz=>q _ H2 (s1.trans s2)) (λz =>?_)⟩⟩⟩
 have s12:=s1.trans s2
 refine ⟨_,rfl,r,_,0,_,rfl,rfl,SqT.of (s12 _ _ e1),rfl,_,_,rfl,rfl,⟨by decide,by decide⟩,?_⟩
 refine ⟨_,rfl,l,rfl,oD (xs:=us.map λu =>.ref u.1) (λi ys H'=>ax H2 H'/\ys=(((us.take i).map (·.2)).map (wth (ts.map (·.2)))).map V.int) (el.imp (s12 _ _) (s12 _ _)) ⟨ax.refl _,rfl⟩ (by rw[DY];exact small (by lia)) (λi ys H' z=>by rcases el with y | y <;> rw[z.1 _ _ (s12 _ _ y),s12 _ _ y]) ?_ ?_⟩
 ·rintro i x ys H3 hx hy ⟨s3,rfl⟩ R1 R0 r1 r0
  obtain ⟨u,eu,rfl⟩:=item hx
  have mu:=Eb eu
  have s13:=s12.trans s3
  refine aS ⟨_,rfl,_,rfl,eE.mpr ⟨r,u.1,m,ts,u.2,rfl,W.same s13,s13 _ _ (tu u mu),tl u mu,λH4 s4=>r1 _ _ ⟨s3.trans s4,?_⟩⟩⟩
  rw[take_snoc eu,Ee,Ee];rfl
 rintro ys H3 hy ⟨s3,rfl⟩ al hal
 have g4:=ag hal (.lst ((((us.take (us.map λu=>V.ref u.1).length).map (·.2)).map (wth (ts.map (·.2)))).map V.int))
 have s14:=s12.trans (s3.trans g4)
 exact ⟨al,_,rfl,ae,_,_,rfl,rfl,_,rfl,r,_,1,_,rfl,rfl,SqT.of (s14 _ _ e1),rfl,t,_,rfl,.inr (SqT.of (s14 _ _ e2)),_,_,rfl,rfl,q _ _ s14⟩
end
@[irreducible] def jH (C D:Addr):Sp:=λvs H Q E=>∃(r p:Addr) (m:Nat) (ts:LAz) (R:List Int),vs=[.ref r,.ref p]/\Wb H r m ts/\m<=250/\H p=some (.tup (R.map V.int))/\(bz (ts.map (·.2)) m->cG (ts.map (·.2)) m (bC m R)->∀v H',ax H H'->Q v H')/\(bz (ts.map (·.2)) m->¬ cG (ts.map (·.2)) m (bC m R)->∀H',ax H H'->E (.ref D) none H')/\(¬ bz (ts.map (·.2)) m->∀H',ax H H'->E (.ref C) none H')
theorem gg {C D:Addr}{vs:List V}{H:Hp}{Q:VK}{E:XK}:jH C D vs H Q E↔∃(r p:Addr) (m:Nat) (ts:LAz) (R:List Int),vs=[.ref r,.ref p]/\Wb H r m ts/\m<=250/\H p=some (.tup (R.map V.int))/\(bz (ts.map (·.2)) m->cG (ts.map (·.2)) m (bC m R)->∀v H',ax H H'->Q v H')/\(bz (ts.map (·.2)) m->¬ cG (ts.map (·.2)) m (bC m R)->∀H',ax H H'->E (.ref D) none H')/\(¬ bz (ts.map (·.2)) m->∀H',ax H H'->E (.ref C) none H'):=by
 delta jH
 exact FU
section
variable  {P:Eo}{w:ES}{K:D2}{mg:Str->Option D1}{base:Heap}{f:Addr}{fd:Fb}{čc čk čh či čf čm čg čd če čb čl čj:Addr}
theorem iC:aB ["web", "places", "left"] ["web", "places"] (ao fQ):=⟨rfl,rfl,rfl,by decide +kernel,rfl,by decide +kernel,by decide +kernel⟩
theorem eA:(["place", "places"]:List Str).Nodup:=by decide +kernel
theorem nQ (F:Fun K "three_counts" "three_counts" fQ f fd)(B:Blt mg)(Z:Exs K mg čc čk čh či čf čm čg čd če čb čl čj)(xLookT:iJ P w K mg base 2 "look_three" ["web"] (gf če))(xLookC:iJ P w K mg base 5 "look_clear" ["web", "places"] (jG čd))(cPartsAmong:Cal P w K mg base 3 "parts_among" ["web", "places"] fZ)(cTiesWithin:Cal P w K mg base 1 "ties_within" ["web", "places"] dC)(C:Cst mg):bB P w K mg base (CX1 P w) 6 f fd ["web", "places"] (jH če čd):=by
 refine F.okX iC (λvs H Q E h =>?_) (λcdv A outer s H vs Q E hr h =>?_)
 ·obtain ⟨_,_,_,_,_,rfl,_⟩:=gg.mp h
  rfl
 obtain ⟨r,p,m,ts,R,rfl,W,m2,hp,q1,q3,q2⟩:=gg.mp h
 refine ⟨_,(ah (bA (dk iA xLookT hr (by decide) rfl (aa (pv 0) af rfl)))
  (ah (bA (dk iA xLookC hr (by decide) rfl (aa (pv 0) (aa (pv 1) af rfl) rfl)))
  (ah (bO (i:=2) ["place", "places"] [none,some 1] rfl iC.nd rfl rfl (bu rfl B.b_range (aa (aD aG (pv 0) ai (λ_ _=>rfl)) af rfl)) rfl (λ_ _ _ _ _=>(ay (i:=0) eA rfl (Or.inl rfl))) (λ_ _ _ _ _=>(da (az (cn (K:=K)) (pv 0) (pv 1) rfl))) (λ_ _ _ _ _=>(pv 0)))
  (aj (aJ (bP (aa (aA cPartsAmong hr (by decide) rfl (aa (pv 0) (aa (pv 2) af rfl) rfl)) (aa (aA cTiesWithin hr (by decide) rfl (aa (pv 0) (aa (pv 1) af rfl) rfl)) af rfl) rfl))))))),?_⟩
 obtain ⟨t,e1,e2⟩:=W.at'
 refine ⟨_,rfl,cQ.mpr ⟨r,m,ts,rfl,W,m2,λC3 H1 s1 =>?_,q2⟩⟩
 refine ⟨_,rfl,_,rfl,eF.mpr ⟨r,p,m,ts,R,rfl,W.same s1,m2,s1 _ _ hp,λwd H2 s2 =>?_,λnw H2 s2=>q3 C3 nw H2 (s1.trans s2)⟩⟩
 have q:=q1 C3 wd
 have s12:=s1.trans s2
 refine ⟨_,rfl,r,_,0,_,rfl,rfl,SqT.of (s12 _ _ e1),rfl,(m:Int),rfl,by lia,by lia,bL (λi ys H'=>H'=H2/\ys=((rgI i).filter λv => !decide (v∈R)).map V.int) ⟨rfl,rfl⟩ (small (by lia)) ?_ ?_⟩
 ·rintro i ys H3 hi hy ⟨rfl,rfl⟩ R1 R0 r1 r0
  have e0:(0+(i:Int))=i:=by lia
  refine ⟨_,rfl,_,rfl,p,_,rfl,.inr (SqT.of (s12 _ _ hp)),rfl,aU R,_,rfl,?_⟩
  show if (if true=true then !inV (.int (0+(i:Int))) (R.map V.int) else _)=true then _ else _
  rw[if_pos rfl,bj,e0]
  by_cases h:(i:Int)∈R
  ·rw[decide_eq_true h]
   refine aF (r0 _ ⟨rfl,?_⟩)
   rw[bY,if_pos h,EN]
  ·rw[decide_eq_false h]
   refine aS ⟨_,rfl,r1 _ _ ⟨rfl,?_⟩⟩
   rw[bY,if_neg h,Ee]
   rfl
 rintro ys H3 hy ⟨rfl,rfl⟩ l hl
 have eqH:upd H3 l (.lst (((rgI (m:Int).toNat).filter λv => !decide (v∈R)).map V.int))=upd H3 l (.lst ((bC m R).map V.int)):=by rw[Fo];rfl
 rw[eqH]
 have g1:=ag hl (.lst ((bC m R).map V.int))
 have s13:=s12.trans g1
 refine ⟨_,rfl,_,rfl,cO.mpr ⟨r,l,m,ts,bC m R,rfl,W.same s13,m2,.inl ae,fu m R,λH4 s4 =>?_⟩⟩
 have s14:=s13.trans s4
 exact ⟨_,rfl,_,rfl,bN.mpr ⟨r,p,m,ts,R,rfl,W.same s14,.inr (s14 _ _ hp),λH5 s5=>⟨(by show 2<=Ei;decide),λz hz=>q _ _ ((s14.trans s5).trans (ag hz _))⟩⟩⟩
end
@[irreducible] def qt (C D:Addr):Sp:=λvs H Q E=>∃(r p l:Addr) (m:Nat) (ts us:LAz) (R:List Int),vs=[.ref r,.ref p,.ref l]/\Wb H r m ts/\m<=250/\H p=some (.tup (R.map V.int))/\(H l=some (.lst (us.map λu =>.ref u.1))\/H l=some (.tup (us.map λu =>.ref u.1)))/\(∀u∈us,H u.1=some (.tup (u.2.map V.int))/\bD m u.2)/\us.length<=250/\(bz (ts.map (·.2)) m->cG (ts.map (·.2)) m (bC m R)->∀v H',ax H H'->Q v H')/\(bz (ts.map (·.2)) m->¬ cG (ts.map (·.2)) m (bC m R)->∀H',ax H H'->E (.ref D) none H')/\(¬ bz (ts.map (·.2)) m->∀H',ax H H'->E (.ref C) none H')
theorem iY {C D:Addr}{vs:List V}{H:Hp}{Q:VK}{E:XK}:qt C D vs H Q E↔∃(r p l:Addr) (m:Nat) (ts us:LAz) (R:List Int),vs=[.ref r,.ref p,.ref l]/\Wb H r m ts/\m<=250/\H p=some (.tup (R.map V.int))/\(H l=some (.lst (us.map λu =>.ref u.1))\/H l=some (.tup (us.map λu =>.ref u.1)))/\(∀u∈us,H u.1=some (.tup (u.2.map V.int))/\bD m u.2)/\us.length<=250/\(bz (ts.map (·.2)) m->cG (ts.map (·.2)) m (bC m R)->∀v H',ax H H'->Q v H')/\(bz (ts.map (·.2)) m->¬ cG (ts.map (·.2)) m (bC m R)->∀H',ax H H'->E (.ref D) none H')/\(¬ bz (ts.map (·.2)) m->∀H',ax H H'->E (.ref C) none H'):=by
 delta qt
 exact FU
section
variable  {P:Eo}{w:ES}{K:D2}{mg:Str->Option D1}{base:Heap}{f:Addr}{fd:Fb}{čc čk čh či čf čm čg čd če čb čl čj:Addr}
theorem nR:aB ["web", "places", "parts"] ["web", "places", "parts"] (ao fR):=⟨rfl,rfl,rfl,by decide +kernel,rfl,by decide +kernel,by decide +kernel⟩
theorem dF:(["part", "web", "places"]:List Str).Nodup:=by decide +kernel
theorem nU (F:Fun K "parting_rows" "parting_rows" fR f fd)(B:Blt mg)(Z:Exs K mg čc čk čh či čf čm čg čd če čb čl čj)(xLookT:iJ P w K mg base 2 "look_three" ["web"] (gf če))(xLookC:iJ P w K mg base 5 "look_clear" ["web", "places"] (jG čd))(cPartRow:Cal P w K mg base 4 "part_row" ["web", "places", "part"] qp)(C:Cst mg):bB P w K mg base (CX1 P w) 6 f fd ["web", "places", "parts"] (qt če čd):=by
 refine F.okX nR (λvs H Q E h =>?_) (λcdv A outer s H vs Q E hr h =>?_)
 ·obtain ⟨_,_,_,_,_,_,_,rfl,_⟩:=iY.mp h
  rfl
 obtain ⟨r,p,l,m,ts,us,R,rfl,W,m2,hp,hl,hu,lu,q1,q3,q2⟩:=iY.mp h
 refine ⟨_,(ah (bA (dk iA xLookT hr (by decide) rfl (aa (pv 0) af rfl)))
  (ah (bA (dk iA xLookC hr (by decide) rfl (aa (pv 0) (aa (pv 1) af rfl) rfl)))
  (aj (aJ (bI ["part", "web", "places"] [none,some 0,some 1] rfl (pX (pv 2)) rfl (λ_ _ _ _ _=>(ay (i:=0) dF rfl (Or.inl rfl))) (λ_ _ _ _ _=>cF) (λ_ _ _ _ _=>(aA cPartRow hr (by decide) rfl (aa (pv 1) (aa (pv 2) (aa (pv 0) af rfl) rfl) rfl)))))))),?_⟩
 refine ⟨_,rfl,cQ.mpr ⟨r,m,ts,rfl,W,m2,λC3 H1 s1 =>?_,q2⟩⟩
 refine ⟨_,rfl,_,rfl,eF.mpr ⟨r,p,m,ts,R,rfl,W.same s1,m2,s1 _ _ hp,λwd H2 s2 =>?_,λnw H2 s2=>q3 C3 nw H2 (s1.trans s2)⟩⟩
 have q:=q1 C3 wd
 have s12:=s1.trans s2
 refine ⟨_,rfl,l,rfl,oD (xs:=us.map λu =>.ref u.1) (λi ys H'=>ax H2 H') (hl.imp (s12 _ _) (s12 _ _)) (ax.refl _) (by rw[DY];exact small (by lia)) (λi ys H' z=>by rcases hl with y | y <;> rw[z _ _ (s12 _ _ y),s12 _ _ y]) ?_ ?_⟩
 ·rintro i v ys H3 hv hy s3 R1 R0 r1 r0
  obtain ⟨u,eu,rfl⟩:=item hv
  obtain ⟨hu1,hu2⟩:=hu u (Eb eu)
  have s13:=s12.trans s3
  exact aS ⟨_,rfl,_,rfl,_,rfl,iV.mpr ⟨r,p,u.1,m,ts,R,u.2,rfl,W.same s13,m2,s13 _ _ hp,s13 _ _ hu1,hu2,λz H4 s4 hz ez=>r1 _ _ (s3.trans s4)⟩⟩
 exact λys H3 hy s3 z hz=>q _ _ ((s12.trans s3).trans (ag hz _))
end
def SS (x:List Int):Prop:=x.Pairwise (· < ·)
theorem zF:∀{x y:List Int},SS x->SS y->(∀v,v∈x↔v∈y)->x=y
 | [],[],_,_,_=>rfl
 | [],b :: y,_,_,h=>absurd ((h b).mpr D8) (by simp)
 | a :: x,[],_,_,h=>absurd ((h a).mp D8) (by simp)
 | a :: x,b :: y,hx,hy,h=>by
  have hx':=GB.mp hx
  have hy':=GB.mp hy
  have e:a=b:=by
   have m1:=(h a).mp D8
   have m2:=(h b).mpr D8
   rcases EB.mp m1 with z | z
   ·exact z
   ·rcases EB.mp m2 with z2 | z2
    ·exact z2.symm
    ·have:=hy'.1 a z;have:=hx'.1 b z2;lia
  subst e
  congr 1
  refine zF hx'.2 hy'.2 λv=>⟨λhv =>?_,λhv =>?_⟩
  ·rcases EB.mp ((h v).mp (Eg _ hv)) with z | z
   ·have:=hx'.1 v hv;lia
   ·exact z
  ·rcases EB.mp ((h v).mpr (Eg _ hv)) with z | z
   ·have:=hy'.1 v hv;lia
   ·exact z
theorem zG {x:List Int}(h:SS x):x.Nodup:=h.imp λz=>by lia
theorem pF {x:List Int}(f:Int->Bool)(h:SS x):SS (x.filter f):=Nl f h
def sbs (ns:List Int):List (List Int):=ns.foldl (λf v=>f++f.map (· ++ [v])) [[]]
theorem jJ (ns:List Int)(v:Int):sbs (ns++[v])=sbs ns++(sbs ns).map (· ++ [v]):=by
 unfold sbs
 rw[MA]
 rfl
theorem snoc_cases {α:Type}{C:List α -> Prop}(h0:C [])(h1:∀l a,C l->C (l++[a]))(l:List α):C l:=by
 have:∀(n:Nat),C (l.take n):=by
  intro n
  induction n with
  | zero=>exact h0
  | succ n ih =>
   rw[E4]
   cases l[n]? with
   | none=>rw[Option.toList,EN];exact ih
   | some a=>exact h1 _ a ih
 have:=this l.length
 rwa [G2] at this
theorem qu {x:List Int}{v:Int}:SS (x++[v])↔SS x/\∀u∈x,u<v:=by
 unfold SS
 rw[FH]
 constructor
 ·exact λ⟨a,_,c⟩=>⟨a,λu hu=>c u hu v D8⟩
 ·exact λ⟨a,c⟩=>⟨a,Ge _ _,λu hu w hw=>by rw[Ef.mp hw];exact c u hu⟩
theorem vP (ns:List Int):(sbs ns).length=2 ^ ns.length:=by
 refine snoc_cases (C:=λns=>(sbs ns).length=2 ^ ns.length) rfl (λl a ih =>?_) ns
 rw[jJ,D7,DY,ih,D7,ED,Nat.pow_succ]
 lia
theorem Bg {ns:List Int}:SS ns->∀x,x∈sbs ns↔SS x/\∀v∈x,v∈ns:=by
 refine snoc_cases (C:=λns=>SS ns->∀x,x∈sbs ns↔SS x/\∀v∈x,v∈ns) ?_ ?_ ns
 ·intro _ x
  show x∈[[]]↔_
  rw[Ef]
  constructor
  ·rintro rfl
   exact ⟨List.Pairwise.nil,λv hv=>hv⟩
  ·rintro ⟨_,h⟩
   cases x with
   | nil=>rfl
   | cons a x=>cases h a D8
 ·intro l a ih hs x
  obtain ⟨sl,la⟩:=qu.mp hs
  rw[jJ,Eh,EK]
  constructor
  ·rintro (h | ⟨y,h,rfl⟩)
   ·obtain ⟨h1,h2⟩:=(ih sl x).mp h
    exact ⟨h1,λv hv=>E9 _ (h2 v hv)⟩
   ·obtain ⟨h1,h2⟩:=(ih sl y).mp h
    refine ⟨qu.mpr ⟨h1,λu hu=>la u (h2 u hu)⟩,λv hv =>?_⟩
    rcases Eh.mp hv with z | z
    ·exact E9 _ (h2 v z)
    ·exact EH _ z
  ·rintro ⟨h1,h2⟩
   by_cases c:a∈x
   ·right
    have sx:=pF (λv=>decide (v≠a)) h1
    have mx:∀v,v∈x.filter (λv=>decide (v≠a))↔v∈x/\v≠a:=λv=>by rw[Ft];simp
    have hl:∀v∈x.filter (λv=>decide (v≠a)),v∈l:=λv hv=>by
     obtain ⟨z1,z2⟩:=(mx v).mp hv
     rcases Eh.mp (h2 v z1) with z | z
     ·exact z
     ·exact absurd (Ef.mp z) z2
    refine ⟨_,(ih sl _).mpr ⟨sx,hl⟩,?_⟩
    refine zF (qu.mpr ⟨sx,λu hu=>la u (hl u hu)⟩) h1 λv =>?_
    rw[Eh,mx,Ef]
    constructor
    ·rintro (z | z)
     ·exact z.1
     ·exact z ▸ c
    ·intro z
     by_cases e:v=a
     ·exact .inr e
     ·exact .inl ⟨z,e⟩
   ·left
    refine (ih sl x).mpr ⟨h1,λv hv =>?_⟩
    rcases Eh.mp (h2 v hv) with z | z
    ·exact z
    ·exact absurd (Ef.mp z ▸ hv) c
theorem vQ:∀(ns x:List Int),x∈sbs ns->x.length<=ns.length:=by
 intro ns
 refine snoc_cases (C:=λns=>∀x,x∈sbs ns->x.length<=ns.length) (λx hx =>?_) (λl a ih x hx =>?_) ns
 ·rw[Ef.mp (show x∈[[]] from hx)];exact D6 _
 ·rw[jJ,Eh] at hx
  rw[D7,ED]
  rcases hx with z | z
  ·have:=ih x z;lia
  ·obtain ⟨y,hy,rfl⟩:=EK.mp z
   have:=ih y hy
   rw[D7,ED]
   lia
theorem zI {H:Hp}{ts:LAz}{u:Addr×List Int}(t:Tus H ts)(h:H u.1=some (.tup (u.2.map V.int))):Tus H (ts++[u]):=λv hv=>by
 rcases Eh.mp hv with z | z
 ·exact t v z
 ·rw[Ef.mp z];exact h
theorem nr {n:Nat}(h:n<=5000):n<Ei:=GZ h (by decide)
theorem gX {n:Nat}(h:n<=5000):n<=Ei:=HU (nr h)
abbrev nt:Sp:=λvs H Q _=>∃(a:Addr) (ns:List Int),vs=[.ref a]/\H a=some (.tup (ns.map V.int))/\ns.length<=9/\∀(l:Addr) (us:LAz) (H':Hp),ax H H'->H l=none->H' l=some (.lst (us.map λu =>.ref u.1))->Tus H' us->(us.map (·.2)).Perm (sbs ns)->(us.map (·.2)).Pairwise (λx y=>x.length<=y.length)->Q (.ref l) H'
@[irreducible] def fA:Sp:=nt
theorem dq {vs:List V}{H:Hp}{Q:VK}{E:XK}:fA vs H Q E↔nt vs H Q E:=by
 delta fA
 exact FU
section
theorem iq:aB ["places", "sets", "place"] ["places"] (ao mC):=⟨rfl,rfl,rfl,by decide +kernel,rfl,by decide +kernel,by decide +kernel⟩
theorem iw:(["one", "place"]:List Str).Nodup:=by decide +kernel
theorem xA (F:Fun K "all_sets" "all_sets" mC f fd)(B:Blt mg)(C:Cst mg):bB P w K mg base CX0 1 f fd ["places"] fA:=by
 refine F.ok iq (λvs H Q E h =>?_) (λcdv A outer s H vs Q E hr h =>?_)
 ·obtain ⟨_,_,rfl,_⟩:=dq.mp h
  rfl
 obtain ⟨a,ns,rfl,ha,h7,q⟩:=dq.mp h
 refine ⟨_,(ah (aE (i:=1) iq.nd rfl (Or.inl rfl) (bR (aa (bP af) af rfl)))
  (ah (cf Fl rfl (cV (pv 0)) (ay (i:=2) iq.nd rfl (Or.inr rfl))
   (aj (aE (i:=1) iq.nd rfl (Or.inl rfl) (aN hV (pv 1) (bI ["one", "place"] [none,some 2] rfl (dg (pv 1)) rfl (λ_ _ _ _ _=>(ay (i:=0) iw rfl (Or.inl rfl))) (λ_ _ _ _ _=>cF) (λ_ _ _ _ _=>(aN (wZ (K:=K)) (pv 0) (bP (aa (pv 1) af rfl)))))))) (λ_=>rfl))
  (aj (aJ (qf rfl B.b_sorted rfl B.b_len cw (pv 1)))))),?_⟩
 refine ⟨(by show 0<=Ei;decide),λt0 ht0=>⟨(by show 1<=Ei;decide),λl0 hl0 =>?_⟩⟩
 have s0:=(ag ht0 (.tup [])).trans (ag hl0 (.lst [.ref t0]))
 have e0:upd (upd H t0 (.tup [])) l0 (.lst [.ref t0]) l0=some (.lst (([(t0,[])]:LAz).map λu =>.ref u.1)):=ae
 have et:Tus (upd (upd H t0 (.tup [])) l0 (.lst [.ref t0])) [(t0,[])]:=λu hu=>by
  rw[Ef.mp hu]
  exact (ag hl0 _) _ _ ae
 generalize upd (upd H t0 (.tup [])) l0 (.lst [.ref t0])=H0 at s0 e0 et
 let W0:Nat->St->Hp->Prop:=λi σ H'=>(∃l us c2,σ=[some (.ref a),some (.ref l),c2]/\H' l=some (.lst (us.map λu =>.ref u.1))/\Tus H' us/\us.map (·.2)=sbs (ns.take i))/\ax H H'
 refine ⟨_,rfl,a,rfl,⟨_,SqT.of (s0 _ _ ha)⟩,pS (xs:=ns.map V.int) W0 ⟨⟨l0,[(t0,[])],_,rfl,e0,et,rfl⟩,s0⟩ (λi σ H' _ k=>SqT.of (k.2 _ _ ha)) ?_ ?_⟩
 ·rintro i x σ H' hx ⟨⟨l,us,c2,rfl,el,tus,em⟩,s1⟩
  obtain ⟨v,ev,rfl⟩:=DD hx
  have hi:i<ns.length:=(Ea.mp ev).1
  have lus:us.length<=256:=by
   have:=congrArg List.length em
   rw[DY,vP,Ff] at this
   have:2 ^ (min i ns.length)<=2 ^ 8:=Jy (by decide) (by lia)
   lia
  have l50:∀u∈us,u.2.length<=9:=λu hu=>by
   have h1:u.2∈sbs (ns.take i):=em ▸ GP hu
   exact ET (vQ _ _ h1) (ET (LQ _ _) (by lia))
  let W1:Nat->List V->Hp->Prop:=λk zs H2=>ax H' H2/\∃rs:LAz,zs=(rs.map λu=>V.ref u.1)/\Tus H2 rs/\rs.map (·.2)=(us.take k).map λu=>u.2++[v]
  refine ⟨_,rfl,_,rfl,l,rfl,⟨_,SqL.of el⟩,dX (xs:=us.map λu =>.ref u.1) W1 ⟨ax.refl _,[],rfl,(λu hu=>by cases hu),rfl⟩ (by rw[DY];exact gX (by lia)) (λk zs H2 _ h=>SqL.of (h.1 _ _ el)) ?_ ?_⟩
  ·rintro k x zs H2 hx hy ⟨s2,rs,rfl,tr,er⟩ R1 R0 r1 r0
   obtain ⟨u,eu,rfl⟩:=DC hx
   have mu:=Eb eu
   refine aS ⟨_,rfl,_,rfl,(by show 1<=Ei;decide),λt ht =>?_⟩
   have g3:=ag ht (.tup [V.int v])
   refine rE.one (ys:=[V.int v]) (g3 _ _ (s2 _ _ (tus u mu))) ae (by rw[DY];have:=l50 u mu;exact gX (by show _+1<=_;lia)) λq1 H3 s3 eq1 =>?_
   refine r1 _ _ ⟨(s2.trans g3).trans s3,rs++[(q1,u.2++[v])],by rw[Ee];rfl,zI ((tr.same g3).same s3) (by rw[Ee];exact eq1),?_⟩
   rw[Ee,er,DE eu];rfl
  ·rintro zs H2 hy ⟨s2,rs,rfl,tr,er⟩ r hr'
   rw[DY,ow] at er
   have lr:rs.length=us.length:=by
    have:=congrArg List.length er
    rwa [DY,DY] at this
   have g3:=ag hr' (.lst (rs.map λu=>V.ref u.1))
   refine ⟨l,r,_,_,rfl,rfl,SqL.of (g3 _ _ (s2 _ _ el)),SqL.of ae,by rw[DY,DY];exact gX (by lia),λl3 hl3 =>?_⟩
   have g4:=g3.trans (ag hl3 (.lst ((us.map λu=>V.ref u.1)++(rs.map λu=>V.ref u.1))))
   have s4:=s2.trans g4
   refine ⟨⟨l3,us++rs,_,rfl,by rw[ae,Ee],λu hu =>?_,?_⟩,s1.trans s4⟩
   ·rcases Eh.mp hu with z | z
    ·exact s4 _ _ (tus u z)
    ·exact g4 _ _ (tr u z)
   ·rw[Ee,er,em,E4,ev]
    show _=sbs (ns.take i++[v])
    rw[jJ, <- em,G6];rfl
 ·rintro σ H' ⟨⟨l,us,c2,rfl,el,tus,em⟩,s1⟩
  rw[DY,ow] at em
  refine ⟨_,rfl,l,us,rfl,.inl (SqL.of el),λt ht=>SqT.of (tus t ht),λl2 out hl2 pm so =>?_⟩
  exact q l2 out _ (s1.trans (ag hl2 _)) (s1.free hl2) ae (λt ht=>(ag hl2 _) _ _ (tus t (pm.mem_iff.mp ht))) (em ▸ pm.map (·.2)) (Fh.mpr so)
end
theorem uA (m:Nat):SS (rgI m):=fT m
theorem gh {α:Type}{l:List α}{i:Nat}{x:α}(e:l[i]? = some x):i<l.length:=(Ea.mp e).1
structure Sz (m:Nat)(Ls:List (List Int)):Prop where
 pm:Ls.Perm (sbs (rgI m))
 so:Ls.Pairwise λx y=>x.length<=y.length
theorem Sz.mem {m:Nat}{Ls:List (List Int)}(z:Sz m Ls){S:List Int}:S∈Ls↔SS S/\∀v∈S,0<=v/\v<m:=by
 rw[z.pm.mem_iff,Bg (uA m)]
 exact and_congr_right λ_=>⟨λh v hv=>aT.mp (h v hv),λh v hv=>aT.mpr (h v hv)⟩
theorem Sz.len {m:Nat}{Ls:List (List Int)}(z:Sz m Ls):Ls.length=2 ^ m:=by rw[z.pm.length_eq,vP,cD]
theorem Sz.DV {m:Nat}{Ls:List (List Int)}(z:Sz m Ls){S:List Int}(h:S∈Ls):S.length<=m:=by
 have:=vQ _ _ (z.pm.mem_iff.mp h)
 rwa [cD] at this
theorem Sz.small {m:Nat}{Ls:List (List Int)}(z:Sz m Ls){i:Nat}{S R:List Int}(e:Ls[i]? = some S)(hR:SS R)(rg:∀v∈R,0<=v/\v<(m:Int))(hl:R.length<S.length):R∈Ls.take i:=by
 obtain ⟨j,hj⟩:=LA (z.mem.mpr ⟨hR,rg⟩)
 have lj:=gh hj
 have li:=gh e
 by_cases c:j<i
 ·refine Eb (i:=j) ?_
  rw[Ki c];exact hj
 ·exfalso
  by_cases d:j=i
  ·subst d
   rw[hj] at e
   rw[E1 e] at hl;lia
  ·have:=Gs.mp z.so i j li lj (by lia)
   rw[(Ea.mp e).2,(Ea.mp hj).2] at this
   lia
theorem zJ (m:Nat):bC m (rgI m)=[]:=by
 rw[List.eq_nil_iff_forall_not_mem]
 intro v hv
 obtain ⟨h1,h2⟩:=fq.mp hv
 exact h2 (aT.mpr h1)
abbrev pG:Sp:=λvs H Q _=>∃(r:Addr) (m:Nat) (ts:LAz),vs=[.ref r]/\Wb H r m ts/\m<=250/\m<=8/\∀v H',ax H H'->Q v H'
@[irreducible] def jK:Sp:=pG
theorem gi {vs:List V}{H:Hp}{Q:VK}{E:XK}:jK vs H Q E↔pG vs H Q E:=by
 delta jK
 exact FU
section
theorem gY:aB ["web", "clearing"] ["web"] (ao eO):=⟨rfl,rfl,rfl,by decide +kernel,rfl,by decide +kernel,by decide +kernel⟩
theorem eB:(["places", "web"]:List Str).Nodup:=by decide +kernel
theorem nB (F:Fun K "fewest_places" "fewest_places" eO f fd)(B:Blt mg)(cAllSets:Cal P w K mg base 1 "all_sets" ["places"] fA)(cClearsWeb:Cal P w K mg base 4 "clears_web" ["web", "places"] gU)(C:Cst mg):bB P w K mg base CX0 5 f fd ["web"] jK:=by
 refine F.ok gY (λvs H Q E h =>?_) (λcdv A outer s H vs Q E hr h =>?_)
 ·obtain ⟨_,_,_,rfl,_⟩:=gi.mp h
  rfl
 obtain ⟨r,m,ts,rfl,W,m2,m8,q⟩:=gi.mp h
 refine ⟨_,(ah (bO (i:=1) ["places", "web"] [none,some 0] rfl gY.nd rfl rfl (dg (aA cAllSets hr (by decide) rfl (aa (aQ (gI hr.hd) rfl B.b_tuple gK (aa (aQ dA rfl B.b_range gJ (aa (aD aG (pv 0) ai (λ_ _=>rfl)) af rfl)) af rfl)) af rfl))) rfl (λ_ _ _ _ _=>(ay (i:=0) eB rfl (Or.inl rfl))) (λ_ _ _ _ _=>(da (dG (aA cClearsWeb hr (by decide) rfl (aa (pv 1) (aa (pv 0) af rfl) rfl))))) (λ_ _ _ _ _=>(pv 0)))
  (aj (aJ (tX rfl rfl B.b_min rfl B.b_len mL (pv 1))))),?_⟩
 obtain ⟨t,e1,e2⟩:=W.at'
 refine ⟨_,rfl,r,_,0,_,rfl,rfl,SqT.of (e1),rfl,(m:Int),rfl,λrg hrg=>⟨rg,m,rfl,ae,by lia,λtl htl =>?_⟩⟩
 have g1:=(ag hrg (.rng 0 m)).trans (ag htl (.tup ((E2 m).map λi=>V.int (i:Nat))))
 have e1':upd (upd H rg (.rng 0 m)) tl (.tup ((E2 m).map λi=>V.int (i:Nat))) tl=some (.tup ((rgI m).map V.int)):=by rw[ae];unfold rgI;rw[G6];rfl
 generalize upd (upd H rg (.rng 0 m)) tl (.tup ((E2 m).map λi=>V.int (i:Nat)))=H1 at g1 e1'
 refine dq.mpr ⟨tl,rgI m,rfl,e1',by rw[cD];lia,λl us H2 s2 hl el tu pm so =>?_⟩
 have z:Sz m (us.map (·.2)):=⟨pm,so⟩
 have lus:us.length<=256:=by
  have:=z.len
  rw[DY] at this
  have:2 ^ m<=2 ^ 8:=Jy (by decide) m8
  lia
 have s12:=g1.trans s2
 let W0:Nat->List V->Hp->Prop:=λi ys H'=>ax H2 H'/\∃os:LAz,ys=os.map (λu =>.ref u.1)/\(∀o∈os,o∈us)/\∀u∈us.take i,cG (ts.map (·.2)) m (bC m u.2)->u∈os
 refine ⟨l,rfl,⟨_,SqL.of el⟩,dX (xs:=us.map λu =>.ref u.1) W0 (by refine ⟨ax.refl _,[],rfl,?_,?_⟩ <;> intro o h <;> cases h) (by rw[DY];exact small (by lia)) (λi ys H' _ k=>SqL.of (k.1 _ _ el)) ?_ ?_⟩
 ·rintro i v ys H3 hv hy ⟨s3,os,rfl,ho,hw⟩ R1 R0 r1 r0
  obtain ⟨u,eu,rfl⟩:=item hv
  have mu:=Eb eu
  have s13:=s12.trans s3
  refine ⟨_,rfl,_,rfl,dP.mpr ⟨r,u.1,m,ts,u.2,rfl,W.same s13,m2,s3 _ _ (tu u mu),λb H4 k s4=>⟨_,rfl,?_⟩⟩⟩
  have tk:∀x∈us.take (i+1),x∈us.take i\/x=u:=λx hx=>by
   rw[E4,eu] at hx
   exact (Eh.mp hx).imp id λy=>by simpa using y
  cases b with
  | true =>
   refine aS ⟨_,rfl,r1 _ _ ⟨s3.trans s4,os++[u],by rw[Ee];rfl,λo h =>?_,λx hx wx =>?_⟩⟩
   ·rcases Eh.mp h with y | y
    ·exact ho o y
    ·rw[Ef.mp y];exact mu
   ·rcases tk x hx with y | y
    ·exact E9 _ (hw x y wx)
    ·rw[y];exact EH _ D8
  | false =>
   refine aF (r0 _ ⟨s3.trans s4,os,rfl,ho,λx hx wx =>?_⟩)
   rcases tk x hx with y | y
   ·exact hw x y wx
   ·rw[y] at wx;exact Bool.noConfusion (k.mpr wx)
 rintro ys H3 hy ⟨s3,os,rfl,ho,hw⟩ lo hlo
 rw[DY,G2] at hw
 have g4:=ag hlo (.lst (os.map λu =>.ref u.1))
 have ne:os≠[]:=by
  obtain ⟨u,hu,eu⟩:=EK.mp (z.mem.mpr ⟨uA m,λv hv=>aT.mp hv⟩)
  intro e
  have:=hw u hu (by rw[eu,zJ];exact mX W.ok)
  rw[e] at this
  cases this
 exact ⟨_,rfl,lo,os,rfl,SqL.of ae,λt ht=>SqT.of (g4 _ _ (s3 _ _ (tu t (ho t ht)))),ne,λt _ _=>q _ _ ((s12.trans s3).trans g4)⟩
end
def Sb (H:Hp)(d:Addr)(H':Hp):Prop:=∀a o,H a=some o->a≠d->H' a=some o
theorem Sb.trans {H H1 H2:Hp}{d:Addr}(b:Sb H d H1)(s:ax H1 H2):Sb H d H2:=λa o e n=>s _ _ (b a o e n)
def Good (H:Hp)(n:Nat)(v:V):Prop:=∃(t l:Addr) (x:Int) (us:LAz),v = .ref t/\H t=some (.tup [.int x,.ref l])/\H l=some (.lst (us.map λu =>.ref u.1))/\(∀u∈us,H u.1=some (.tup (u.2.map V.int))/\u.2≠[])/\us.length<=n
def Pl (o:HO):Prop:=(∀kvs,o ≠ .dT kvs)/\∀b u,o ≠ .frz b u
theorem zK {xs:List V}:Pl (.tup xs):=⟨(λ_ z=>by cases z),(λ_ _ z=>by cases z)⟩
theorem CU {xs:List V}:Pl (.lst xs):=⟨(λ_ z=>by cases z),(λ_ _ z=>by cases z)⟩
theorem Good.same {H H':Hp}{n:Nat}{v:V}(g:Good H n v)(s:∀a o,H a=some o->Pl o->H' a=some o):Good H' n v:=by
 obtain ⟨t,l,x,us,e,e1,e2,e3,e4⟩:=g
 exact ⟨t,l,x,us,e,s _ _ e1 zK,s _ _ e2 CU,λu hu=>⟨s _ _ (e3 u hu).1 zK,(e3 u hu).2⟩,e4⟩
def uB (wk:List (List Key×V)):Prop:=∀kv∈wk,∃(A:List Int) (n:Int),kv=(A.map Sum.inl,.int n)/\A≠[]/\A.length<=9
theorem Bh {wk:List (List Key×V)}{kv:List Key×V}(h:kv∈wk):∃v,bT wk kv.1=some v/\(kv.1,v)∈wk:=by
 cases e:bT wk kv.1 with
 | none=>exact absurd (GP (f:=(·.1)) h) (yA e)
 | some v =>
  refine ⟨v,rfl,?_⟩
  unfold bT at e
  obtain ⟨q,hq,rfl⟩:=HR.mp e
  have:=List.find?_some hq
  rw[decide_eq_true_iff] at this
  rw[<- this]
  exact List.mem_of_find?_eq_some hq
theorem uB.val {wk:List (List Key×V)}(w:uB wk){kv:List Key×V}(h:kv∈wk):∃n,bT wk kv.1=some (.int n):=by
 obtain ⟨v,e,m⟩:=Bh h
 obtain ⟨_,n,z,_⟩:=w _ m
 rw[(Prod.mk.inj z).2] at e
 exact ⟨n,e⟩
theorem qv:∀{a b:List Int},(a.map Sum.inl:List Key)=b.map Sum.inl->a=b
 | [],[],_=>rfl
 | [],_ :: _,h=>by cases h
 | _ :: _,[],h=>by cases h
 | x :: a,y :: b,h=>by
  obtain ⟨h1,h2⟩:=Mj h
  rw[Kr h1,qv h2]
theorem BB (x:Int)(l:List Int):atI ((x :: l).map V.int) 0=some (.int x):=fE (j:=0) rfl
theorem j8 (A:List Int):(A.map (Sum.inl:Int->Key)).map kV=A.map V.int:=by rw[G6];rfl
theorem Bi {A S:List Int}{x:Int}(hx:x∈A)(hS:x∈S):(S.filter λv => !decide (v∈A)).length<S.length:=by
 refine JY (GW _ _) λe =>?_
 have:=List.length_filter_eq_length_iff.mp e x hS
 simp[hx] at this
abbrev vR:Sp:=λvs H Q _=>∃(wd bd p:Addr) (wk bk:List (List Key×V)) (x:Int) (S:List Int),vs=[.ref wd,.ref bd,.ref p]/\H wd=some (.dT wk)/\H bd=some (.dT bk)/\wd≠bd/\H p=some (.tup ((x :: S).map V.int))/\SS (x :: S)/\(x :: S).length<=9/\uB wk/\(∃kv∈wk,kv.1=[Sum.inl x])/\(∀R:List Int,SS R->(∀v∈R,v∈x :: S)->R.length<(x :: S).length->∃v,bT bk (R.map Sum.inl)=some v/\Good H R.length v)/\∀v H',ax H H'->Good H' (x :: S).length v->Q v H'
@[irreducible] def qw:Sp:=vR
theorem iZ {vs:List V}{H:Hp}{Q:VK}{E:XK}:qw vs H Q E↔vR vs H Q E:=by
 delta qw
 exact FU
section
theorem cS:aB ["worths", "best", "places", "found", "part", "rest", "worth"] ["worths", "best", "places"] (ao fS):=⟨rfl,rfl,rfl,by decide +kernel,rfl,by decide +kernel,by decide +kernel⟩
theorem eQ:(["place", "places"]:List Str).Nodup:=by decide +kernel
theorem gj:(["place", "part"]:List Str).Nodup:=by decide +kernel
theorem sF (F:Fun K "best_parts" "best_parts" fS f fd)(B:Blt mg)(C:Cst mg):bB P w K mg base CX0 1 f fd ["worths", "best", "places"] qw:=by
 refine F.ok cS (λvs H Q E h =>?_) (λcdv A outer s H vs Q E hr h =>?_)
 ·obtain ⟨_,_,_,_,_,_,_,rfl,_⟩:=iZ.mp h
  rfl
 obtain ⟨wd,bd,p,wk,bk,x,S,rfl,hw,hb,nd,hp,sS,l9,ww,hx,hB,q⟩:=iZ.mp h
 have hu:(gA CX0 P w K mg base ["worths", "best", "places", "found", "part", "rest", "worth"] "best_parts" (ao fS) f cdv A outer s H E).nox.A.units+1<cLine:=oo hr
 refine ⟨_,(ah (aE (i:=3) cS.nd rfl (Or.inl rfl) lJ)
  (ah (AV (cf Fl rfl (yQ (pv 0)) (ay (i:=4) cS.nd rfl (Or.inr rfl))
   (aj (bq (PW.pt (c9 (az cI (aD aG (pv 4) ai (λ_ _=>rfl)) (aD aG (pv 2) ai (λ_ _=>rfl)) (aM _)) (cj (dG (av (lT rfl) rfl B.b_all t8 (aa (bI ["place", "places"] [none,some 2] rfl (cV (pv 4)) rfl (λ_ _ _ _ _=>(ay (i:=0) eQ rfl (Or.inl rfl))) (λ_ _ _ _ _=>cF) (λ_ _ _ _ _=>(fC (gC (K:=K)) (pv 0) (pv 1) rfl))) af rfl)))))) (ah (aE (i:=5) cS.nd rfl (Or.inl rfl) (ib hu (pv 1) (aQ bX rfl B.b_tuple gK (aa (bI ["place", "part"] [none,some 4] rfl (cV (pv 2)) rfl (λ_ _ _ _ _=>(ay (i:=0) gj rfl (Or.inl rfl))) (λ_ _ _ _ _=>(da (az (cn (K:=K)) (pv 0) (pv 1) rfl))) (λ_ _ _ _ _=>(pv 0))) af rfl)) (λ_ _=>rfl)))
    (ah (aE (i:=6) cS.nd rfl (Or.inl rfl) (aN dH (ib hu (pv 0) (pv 4) (λ_ _=>rfl)) (aD aG (pv 5) ai (λ_ _=>rfl))))
    (aj (bq (PW.pt (uE (az BS (pv 3) lJ (aM _)) (pO (az n6 (pv 6) (aD aG (pv 3) ai (λ_ _=>rfl)) (aM _))))) (aj (aE (i:=3) cS.nd rfl (Or.inl rfl) (bP (aa (pv 6) (aa (aN hV (bR (aa (pv 4) af rfl)) (aD aG (pv 5) ai (λ_ _=>rfl))) af rfl) rfl)))) aI)))) aI)) (λ_=>rfl)))
  (aj (aJ (pv 3))))),?_⟩
 have np:p≠wd:=cZ hp hw nofun
 refine ⟨_,rfl,wd,wk,rfl,hw,λob=>w5 (λi σ H'=>∃fv c4 c5 c6,σ=[some (.ref wd),some (.ref bd),some (.ref p),some fv,c4,c5,c6]/\H' wd=some (.frz ob (.dT wk))/\Sb H wd H'/\(fv = .non\/Good H' (x :: S).length fv)/\∀j kv,j<i->wk[j]? = some kv->kv.1=[Sum.inl x]->fv ≠ .non) ⟨_,_,_,_,rfl,ae,λa o e n=>by rw[ak n];exact e,.inl rfl,λj kv h=>by lia⟩ (λi σ H' _ ⟨_,_,_,_,_,e,_⟩=>e) ?_ ?_⟩
 ·rintro i b kv σ H' hk hbt ⟨fv,c4,c5,c6,rfl,hw',sb,hf,hd⟩
  obtain ⟨A,nA,rfl,neA,lA⟩:=ww kv (Eb hk)
  rw[j8] at hbt
  rcases A with _ | ⟨a0,A⟩
  ·exact absurd rfl neA
  have hp':=sb _ _ hp np
  have hb':=sb _ _ hb nd.symm
  have keep:∀{fv':V},(fv' ≠ .non\/(fv'=fv/\a0 :: A≠[x]))->∀j kv,j<i+1->wk[j]? = some kv->kv.1=[Sum.inl x]->fv' ≠ .non:=by
   rintro fv' (h | ⟨rfl,h⟩) j kv hj ej ek
   ·exact h
   ·by_cases c:j=i
    ·subst c
     rw[hk] at ej
     cases ej
     exact absurd (qv (b:=[x]) ek) h
    ·exact hd j kv (by lia) ej ek
  refine ⟨_,rfl,b,_,0,.int a0,rfl,rfl,SqT.of hbt,BB _ _,_,rfl,p,_,0,.int x,rfl,rfl,SqT.of hp',BB _ _,rfl,_,rfl,dy (λc =>?_) (λc=>aF ?_)⟩
  rotate_left
  ·exact ⟨fv,_,_,_,rfl,hw',sb,hf,keep (.inr ⟨rfl,λe=>c (by rw[(Mj e).1];exact decide_eq_true rfl)⟩)⟩
  obtain rfl:a0=x:=V.int.inj (of_decide_eq_true c)
  refine ⟨_,rfl,b,rfl,⟨_,SqT.of hbt⟩,bF (xs:=(a0 :: A).map V.int) (λk ys H3=>H3=H'/\ys=(((a0 :: A).take k).map λv=>decide (v∈a0 :: S)).map V.bl) ⟨rfl,rfl⟩ (by rw[DY];exact small (by lia)) (λk ys H3 _ h=>by rw[h.1];exact SqT.of hbt) ?_ ?_⟩
  ·rintro k v ys H3 hv hy ⟨rfl,rfl⟩ R1 R0 r1 r0
   obtain ⟨n,en,rfl⟩:=ip hv
   refine aS ⟨_,rfl,_,rfl,p,_,rfl,.inr (SqT.of hp'),rfl,aU (a0 :: S),?_⟩
   rw[if_neg Ek,bj]
   refine r1 _ _ ⟨rfl,?_⟩
   rw[E4,en,Ee,Ee];rfl
  rintro ys H3 hy ⟨rfl,rfl⟩ al hal
  have g4:=ag hal (.lst ((((a0 :: A).take ((a0 :: A).map V.int).length).map λv=>decide (v∈a0 :: S)).map V.bl))
  refine ⟨al,_,rfl,SqL.of ae,_,rfl,dy (λcA =>?_) (λcA =>?_)⟩
  rotate_left
  ·refine ⟨fv,_,_,_,rfl,g4 _ _ hw',λa o e n=>g4 _ _ (sb a o e n),hf.imp id λy=>Good.same y λa o e _=>g4 _ _ e,keep (.inr ⟨rfl,λe=>cA ?_⟩)⟩
   rw[(Mj e).2]
   simp
  generalize upd H3 al (.lst ((((a0 :: A).take ((a0 :: A).map V.int).length).map λv=>decide (v∈a0 :: S)).map V.bl))=H4 at g4
  refine ⟨_,rfl,_,rfl,p,rfl,⟨_,SqT.of (g4 _ _ hp')⟩,bF (xs:=(a0 :: S).map V.int) (λk ys H5=>H5=H4/\ys=(((a0 :: S).take k).filter λv => !decide (v∈a0 :: A)).map V.int) ⟨rfl,rfl⟩ (by rw[DY];exact small (by lia)) (λk ys H5 _ h=>by rw[h.1];exact SqT.of (g4 _ _ hp')) ?_ ?_⟩
  ·rintro k v ys H5 hv hy ⟨rfl,rfl⟩ R1 R0 r1 r0
   obtain ⟨n,en,rfl⟩:=ip hv
   refine ⟨_,rfl,_,rfl,b,_,rfl,.inr (SqT.of (g4 _ _ hbt)),rfl,aU (a0 :: A),_,rfl,?_⟩
   show if (if true=true then !inV (.int n) ((a0 :: A).map V.int) else _)=true then _ else _
   rw[if_pos rfl,bj]
   by_cases h:n∈a0 :: A
   ·rw[decide_eq_true h]
    exact aF (r0 _ ⟨rfl,takeOut en (by rw[decide_eq_true h];decide)⟩)
   ·rw[decide_eq_false h]
    exact aS ⟨_,rfl,r1 _ _ ⟨rfl,takeIn en (by rw[decide_eq_false h];decide)⟩⟩
  rintro ys H5 hy ⟨rfl,rfl⟩ l2 hl2
  rw[qq]
  refine ⟨l2,_,rfl,.inl ⟨SqL.of ae,λtt htt =>?_⟩⟩
  have lR:=Bi (A:=a0 :: A) (S:=a0 :: S) (x:=a0) D8 D8
  obtain ⟨rv,er,gr⟩:=hB _ (pF _ sS) (λv hv=>(Ft.mp hv).1) lR
  generalize hR:((a0 :: S).filter λv => !decide (v∈a0 :: A))=R at *
  have g6:=g4.trans ((ag hl2 (.lst (R.map V.int))).trans (ag htt (.tup (R.map V.int))))
  have ett:upd (upd H5 l2 (.lst (R.map V.int))) tt (.tup (R.map V.int)) tt=some (.tup (R.map V.int)):=ae
  generalize upd (upd H5 l2 (.lst (R.map V.int))) tt (.tup (R.map V.int))=H6 at g6 ett
  have sb6:Sb H wd H6:=sb.trans g6
  have hw6:=g6 _ _ hw'
  have hbt6:=g6 _ _ hbt
  obtain ⟨tr,lr,xr,ur,rfl,t1,t2,t3,t4⟩:=Good.same gr (H':=H6) λa o e n=>sb6 a o e λz=>by rw[z,hw] at e;cases e;exact n.1 _ rfl
  refine ⟨bd,.ref tr,rfl,(by rw[<- er];exact d8.t (g6 _ _ hb') (by rw[j8];exact ett)),?_⟩
  obtain ⟨nv,env⟩:=ww.val (Eb hk)
  refine ⟨_,rfl,_,rfl,wd,.int nv,rfl,(by rw[<- env];exact d8.tF hw6 (by rw[j8];exact hbt6)),_,rfl,tr,_,0,.int xr,rfl,rfl,SqT.of t1,rfl,_,_,rfl,rfl,?_⟩
  rcases hf with rfl | ⟨tf,lf,xf,uf,rfl,f1,f2,f3,f4⟩
  ·refine ⟨_,rfl,rfl,_,rfl,aS ?_⟩
   refine ⟨_,rfl,_,rfl,(by show 1<=Ei;decide),λl5 hl5 =>?_⟩
   have g7:=ag hl5 (.lst [.ref b])
   refine ⟨_,rfl,tr,_,1,.ref lr,rfl,rfl,SqT.of (g7 _ _ t1),rfl,l5,lr,_,_,rfl,rfl,SqL.of ae,SqL.of (g7 _ _ t2),?_,λl6 hl6 =>?_⟩
   ·rw[DY];exact gX (by show 1+ur.length<=5000;lia)
   have g8:=ag hl6 (.lst ([.ref b]++ur.map λu =>.ref u.1))
   refine ⟨(by show 2<=Ei;decide),λtn htn =>?_⟩
   have g9:=ag htn (.tup [.int (nv+xr),.ref l6])
   have s69:=g7.trans (g8.trans g9)
   refine ⟨.ref tn,_,_,_,rfl,s69 _ _ hw6,λa o e n=>s69 _ _ (sb6 a o e n),.inr ⟨tn,l6,_,(b,a0 :: A) :: ur,rfl,ae,g9 _ _ ae,λu hu =>?_,?_⟩,keep (.inl λz=>by cases z)⟩
   ·rcases EB.mp hu with rfl | hu
    ·exact ⟨s69 _ _ hbt6,neA⟩
    ·exact ⟨s69 _ _ (t3 u hu).1,(t3 u hu).2⟩
   ·show ur.length+1<=(a0 :: S).length
    lia
  ·have f16:=g6 _ _ f1
   refine ⟨_,rfl,rfl,_,rfl,aF ⟨_,rfl,_,rfl,tf,_,0,.int xf,rfl,rfl,SqT.of f16,rfl,_,_,rfl,rfl,_,rfl,dy (λc2 =>?_) (λc2 =>?_)⟩⟩
   ·refine ⟨_,rfl,_,rfl,(by show 1<=Ei;decide),λl5 hl5 =>?_⟩
    have g7:=ag hl5 (.lst [.ref b])
    refine ⟨_,rfl,tr,_,1,.ref lr,rfl,rfl,SqT.of (g7 _ _ t1),rfl,l5,lr,_,_,rfl,rfl,SqL.of ae,SqL.of (g7 _ _ t2),?_,λl6 hl6 =>?_⟩
    ·rw[DY];exact gX (by show 1+ur.length<=5000;lia)
    have g8:=ag hl6 (.lst ([.ref b]++ur.map λu =>.ref u.1))
    refine ⟨(by show 2<=Ei;decide),λtn htn =>?_⟩
    have g9:=ag htn (.tup [.int (nv+xr),.ref l6])
    have s69:=g7.trans (g8.trans g9)
    refine ⟨.ref tn,_,_,_,rfl,s69 _ _ hw6,λa o e n=>s69 _ _ (sb6 a o e n),.inr ⟨tn,l6,_,(b,a0 :: A) :: ur,rfl,ae,g9 _ _ ae,λu hu =>?_,?_⟩,keep (.inl λz=>by cases z)⟩
    ·rcases EB.mp hu with rfl | hu
     ·exact ⟨s69 _ _ hbt6,neA⟩
     ·exact ⟨s69 _ _ (t3 u hu).1,(t3 u hu).2⟩
    ·show ur.length+1<=(a0 :: S).length
     lia
   ·exact ⟨.ref tf,_,_,_,rfl,hw6,sb6,.inr (Good.same (⟨tf,lf,xf,uf,rfl,f1,f2,f3,f4⟩:Good H3 _ _) λa o e _=>g6 _ _ e),keep (.inl λz=>by cases z)⟩
 ·rintro σ H' ⟨fv,c4,c5,c6,rfl,hw',sb,hf,hd⟩
  refine ⟨wd,ob,wk,hw',hw,_,rfl,q fv _ (λa o e =>?_) ?_⟩
  ·by_cases c:a=wd
   ·subst c
    rw[ae, <- hw];exact e
   ·rw[ak c];exact sb a o e c
  ·obtain ⟨kv,hkv,ek⟩:=hx
   obtain ⟨j,hj⟩:=LA hkv
   have nf:=hd j kv (Ea.mp hj).1 hj ek
   exact Good.same (hf.resolve_left nf) λa o e n=>by rw[ak λz=>by rw[z,hw'] at e;cases e;exact n.2 _ _ rfl];exact e
end
open Classical in
theorem xB {ns:List (List Int)}{m:Nat}(O:Ok m ns){P:List Int}(S:bD m P)(h:trees ns m P=0):P=[]:=by
 cases P with
 | nil=>rfl
 | cons v P =>
  obtain ⟨c,cP,fc,_⟩:=mV O S (v:=v) D8
  unfold trees at h
  have:c∈((rgI m).filter λu=>decide (u∈v :: P) && decide (Fst (Sub ns (v :: P)) u)):=Ft.mpr ⟨aT.mpr (S.rng c cP),by rw[decide_eq_true cP,decide_eq_true fc];rfl⟩
  rw[HI.mp h] at this
  cases this
theorem zL {κ:Type}[DecidableEq κ]{kvs:List (κ×V)}{k:κ}{v:V}{q:κ×V}(h:q∈putK kvs k v):q∈kvs\/q=(k,v):=by
 unfold putK at h
 split at h
 ·obtain ⟨p,hp,e⟩:=EK.mp h
  by_cases c:p.1=k
  ·rw[if_pos c] at e
   exact .inr (by rw[<- e,c])
  ·rw[if_neg c] at e
   exact .inl (e ▸ hp)
 ·exact (Eh.mp h).imp id λz=>Ef.mp z
theorem uB.put {wk:List (List Key×V)}(w:uB wk){A:List Int}(n:Int)(h:A≠[])(l:A.length<=9):uB (putK wk (A.map Sum.inl) (.int n)):=λkv hk=>(zL hk).elim (w kv) λe=>⟨A,n,e,h,l⟩
open Classical in
theorem zM {m:Nat}{ns:List (List Int)}(O:Ok m ns){k:Int}(k0:0<=k)(km:k<m):trees ns m [k]=1:=by
 have S:bD m [k]:=⟨FC.mpr ⟨by simp,Gu⟩,λv hv=>by rw[Ef.mp hv];exact ⟨k0,km⟩⟩
 have h1:trees ns m [k]<=1:=by
  unfold trees
  have nd:((rgI m).filter λu=>decide (u∈[k]) && decide (Fst (Sub ns [k]) u)).Nodup:=(cN m).filter _
  have al:∀x∈((rgI m).filter λu=>decide (u∈[k]) && decide (Fst (Sub ns [k]) u)),x=k:=λx hx=>by
   have:=(Ft.mp hx).2
   rw[EO,decide_eq_true_iff] at this
   exact Ef.mp this.1
  generalize ((rgI m).filter λu=>decide (u∈[k]) && decide (Fst (Sub ns [k]) u))=L at nd al
  rcases L with _ | ⟨a,_ | ⟨b,L⟩⟩
  ·exact EZ _
  ·exact D6 _
  ·have e1:=al a D8
   have e2:=al b (Eg _ D8)
   rw[e1,e2] at nd
   exact absurd D8 (FC.mp nd).1
 have h2:trees ns m [k]≠0:=λz=>by cases xB O S z
 lia
def Sb2 (H:Hp)(d e:Addr)(H':Hp):Prop:=∀a o,H a=some o->a≠d->a≠e->H' a=some o
structure Bst (Ls:List (List Int))(wd bd:Addr)(i:Nat)(H2 H':Hp)(wk bk:List (List Key×V)):Prop where
 w:H' wd=some (.dT wk)
 b:H' bd=some (.dT bk)
 sb:Sb2 H2 wd bd H'
 ws:uB wk
 bl:bk.length<=i+1
 one:∀v:Int,[v]∈Ls.take i->∃n,bT wk [Sum.inl v]=some n
 bs:∀R:List Int,(R=[]\/R∈Ls.take i)->∃v,bT bk (R.map Sum.inl)=some v/\Good H' R.length v
theorem lE {α:Type}{L:List α}{i:Nat}{S R:α}(e:L[i]? = some S)(h:R∈L.take (i+1)):R∈L.take i\/R=S:=by
 rw[E4,e] at h
 exact (Eh.mp h).imp id λy=>by simpa using y
abbrev BC:Sp:=λvs H Q _=>∃(r:Addr) (m:Nat) (ts:LAz),vs=[.ref r]/\Wb H r m ts/\m<=250/\m<=8/\∀v H',ax H H'->Q v H'
@[irreducible] def Bj:Sp:=BC
theorem nC {vs:List V}{H:Hp}{Q:VK}{E:XK}:Bj vs H Q E↔BC vs H Q E:=by
 delta Bj
 exact FU
section
theorem dt:aB ["web", "worths", "best", "places"] ["web"] (ao cq):=⟨rfl,rfl,rfl,by decide +kernel,rfl,by decide +kernel,by decide +kernel⟩
theorem nV (F:Fun K "best_parting" "best_parting" cq f fd)(B:Blt mg)(cAllSets:Cal P w K mg base 1 "all_sets" ["places"] fA)(cPartsAmong:Cal P w K mg base 3 "parts_among" ["web", "places"] fZ)(cWorthOf:Cal P w K mg base 2 "worth_of" ["web", "part"] jE)(cBestParts:Cal P w K mg base 1 "best_parts" ["worths", "best", "places"] qw)(C:Cst mg):bB P w K mg base CX0 4 f fd ["web"] Bj:=by
 refine F.ok dt (λvs H Q E h =>?_) (λcdv A outer s H vs Q E hr h =>?_)
 ·obtain ⟨_,_,_,rfl,_⟩:=nC.mp h
  rfl
 obtain ⟨r,m,ts,rfl,W,m2,m8,q⟩:=nC.mp h
 have hu:(gA CX0 P w K mg base ["web", "worths", "best", "places"] "best_parting" (ao cq) f cdv A outer s H E).nox.A.units+1<cLine:=oo hr
 have TD:∃t,PSs (gA CX0 P w K mg base ["web", "worths", "best", "places"] "best_parting" (ao cq) f cdv A outer s H E).nox ((vj ((bK cq).getD 2 (.Pass ⟨0,0,0,0⟩))).drop 1) t/\∀(D:Ends) (wd bd:Addr) (i:Nat) (us:LAz) (u:Addr×List Int) (wkx bk:List (List Key×V)) (H6 HX:Hp),wd≠bd->Sz m (us.map (·.2))->us.length<=256->us[i]? = some u->Bst (us.map (·.2)) wd bd i H6 HX wkx bk->HX u.1=some (.tup (u.2.map V.int))->wkx.length<=i+1->(∀v:Int,u.2=[v]->∃n,bT wkx [Sum.inl v]=some n)->(∀σ H',(∃wk bk c3,σ=[some (.ref r),some (.ref wd),some (.ref bd),c3]/\wk.length<=i+1/\Bst (us.map (·.2)) wd bd (i+1) H6 H' wk bk)->D.nx σ H')->t D [some (.ref r),some (.ref wd),some (.ref bd),some (.ref u.1)] HX:=by
  refine ⟨_,(aj (bq (az (AF hr) (pv 3) (bP af) (aM _)) (aj (fO hu (pv 2) (pv 3) (aA cBestParts hr (by decide) rfl (aa (pv 1) (aa (pv 2) (aa (pv 3) af rfl) rfl) rfl)) rfl)) aI)),?_⟩
  intro D wd bd i us u wkx bk H6 HX nwb z lus eu B tux wlx onk nx
  have eS:(us.map (·.2))[i]? = some u.2:=by rw[En,eu];rfl
  have li:=gh eu
  have mS:=Eb eS
  obtain ⟨sS,rS⟩:=z.mem.mp mS
  have l8:=z.DV mS
  refine ⟨_,rfl,(by show 0<=Ei;decide),λe0 he0=>⟨u.1,e0,u.2,[],rfl,rfl,SqT.of ((ag he0 (.tup [])) _ _ tux),SqT.of ae,_,rfl,dy (λc2 =>?_) (λc2 =>?_)⟩⟩
  ·have gE:=ag he0 (.tup [])
   obtain ⟨x,S,eS2⟩:∃x S,u.2=x :: S:=by
    cases h:u.2 with
    | nil=>rw[h] at c2;exact absurd c2 (by decide)
    | cons x S=>exact ⟨x,S,rfl⟩
   have rx:∀R:List Int,SS R->(∀v∈R,v∈x :: S)->R.length<(x :: S).length->R∈(us.map (·.2)).take i:=λR hR hv hl=>z.small eS hR (λv h=>rS v (by rw[eS2];exact hv v h)) (by rw[eS2];exact hl)
   refine ⟨_,rfl,_,rfl,_,rfl,iZ.mpr ⟨wd,bd,u.1,wkx,bk,x,S,rfl,gE _ _ B.w,gE _ _ B.b,nwb,by rw[<- eS2];exact gE _ _ tux,by rw[<- eS2];exact sS,by rw[<- eS2];lia,B.ws,?_,λR hR hv hl =>?_,λv H11 s11 gv =>?_⟩⟩
   ·have ⟨n,hn⟩:∃n,bT wkx [Sum.inl x]=some n:=by
     by_cases c3:S=[]
     ·exact onk x (by rw[eS2,c3])
     ·exact B.one x (rx [x] (by unfold SS;simp) (λv hv=>by rw[Ef.mp hv];exact D8) (by have:=LR.mpr c3;show 1<S.length+1;lia))
    obtain ⟨kv,hk,ek⟩:=EK.mp (AB hn)
    exact ⟨kv,hk,ek⟩
   ·obtain ⟨v,e,gv⟩:=B.bs R (.inr (rx R hR hv hl))
    exact ⟨v,e,Good.same gv λa o e _=>gE _ _ e⟩
   ·have sE:=gE.trans s11
    rw[<- eS2] at gv
    have nb:∀a o,HX a=some o->Pl o->a≠bd:=λa o e n y=>by rw[y,B.b] at e;cases e;exact n.1 _ rfl
    refine ⟨_,rfl,_,rfl,bd,_,rfl,jW.t (sE _ _ B.b) (by rw[j8];exact sE _ _ tux) (nr (by have:=B.bl;lia)),nx _ _ ⟨wkx,_,_,rfl,wlx,⟨by rw[ak nwb];exact sE _ _ B.w,ae,λa o e n1 n2=>by rw[ak n2];exact sE _ _ (B.sb a o e n1 n2),B.ws,?_,λv h=>(lE eS h).elim (B.one v) λe=>onk v e.symm,λR h =>?_⟩⟩⟩
    ·have:=dB bk (u.2.map Sum.inl) v
     have:=B.bl
     lia
    ·by_cases c3:R=u.2
     ·refine ⟨v,by rw[jm,if_pos (by rw[c3])],?_⟩
      rw[c3]
      exact Good.same gv λa o e n=>by rw[ak λy=>by rw[y,sE _ _ B.b] at e;cases e;exact n.1 _ rfl];exact e
     ·obtain ⟨v',e,gv'⟩:=B.bs R (h.imp id λy=>(lE eS y).resolve_right c3)
      exact ⟨v',by rw[jm,if_neg λy=>c3 (qv y)];exact e,Good.same gv' λa o e n=>by rw[ak (nb a o e n)];exact sE _ _ e⟩
  ·have gE:=ag he0 (.tup [])
   have c3:u.2=[]:=by simpa using c2
   exact nx _ _ ⟨wkx,bk,_,rfl,wlx,⟨gE _ _ B.w,gE _ _ B.b,λa o e n1 n2=>gE _ _ (B.sb a o e n1 n2),B.ws,by have:=B.bl;lia,λv h=>(lE eS h).elim (B.one v) λe=>(onk v e.symm),λR h=>by
    obtain ⟨v,e,gv⟩:=B.bs R (h.elim .inl λy=>(lE eS y).symm.imp (λw=>w.trans c3) id)
    exact ⟨v,e,Good.same gv λa o e _=>gE _ _ e⟩⟩⟩
 obtain ⟨tD,pD,gD⟩:=TD
 refine ⟨_,(ah (aE (i:=1) dt.nd rfl (Or.inl rfl) yz)
  (ah (aE (i:=2) dt.nd rfl (Or.inl rfl) (yR hu (bP af) (bP (aa ai (aa (bR af) af rfl) rfl))))
  (ah (cf Fl rfl (dg (aA cAllSets hr (by decide) rfl (aa (aQ (gI hr.hd) rfl B.b_tuple gK (aa (aQ dA rfl B.b_range gJ (aa (aD aG (pv 0) ai (λ_ _=>rfl)) af rfl)) af rfl)) af rfl))) (ay (i:=3) dt.nd rfl (Or.inl rfl))
   (ah (bq (az cI (aA cPartsAmong hr (by decide) rfl (aa (pv 0) (aa (pv 3) af rfl) rfl)) ai (aM _)) (aj (fO hu (pv 1) (pv 3) (aA cWorthOf hr (by decide) rfl (aa (pv 0) (aa (pv 3) af rfl) rfl)) rfl)) aI)
   pD) (λ_=>rfl))
  (aj (aJ (av fL rfl B.b_sorted cw (aa (aD aG (ib hu (pv 2) (aQ (gI hr.hd) rfl B.b_tuple gK (aa (aQ dA rfl B.b_range gJ (aa (aD aG (pv 0) ai (λ_ _=>rfl)) af rfl)) af rfl)) (λ_ _=>rfl)) ai (λ_ _=>rfl)) af rfl))))))),?_⟩
 obtain ⟨t,e1,e2⟩:=W.at'
 intro wd hwd
 obtain ⟨H0,zQ9,g0,ew0⟩:=nwZ hwd (.dT [])
 rw[zQ9]
 intro bd hbd
 have nwb:wd≠bd:=aq ew0 hbd
 refine ⟨(by show 0<=Ei;decide),λk0 hk0=>⟨(by show 0<=Ei;decide),λl0 hl0=>⟨(by show 2<=Ei;decide),λt0 ht0 =>?_⟩⟩⟩
 have gk:=ag hk0 (.tup [])
 have gl:=ag hl0 (.lst [])
 have gt:=ag ht0 (.tup [.int 0,.ref l0])
 have ebd:=gt _ _ (gl _ _ (gk _ _ (ae (H:=H0) (a:=bd) (o :=.dT []))))
 have ek0:=gt _ _ (gl _ _ (ae (H:=upd H0 bd (.dT [])) (a:=k0) (o :=.tup [])))
 have el0:=gt _ _ (ae (H:=upd (upd H0 bd (.dT [])) k0 (.tup [])) (a:=l0) (o :=.lst []))
 have et0:=ae (H:=upd (upd (upd H0 bd (.dT [])) k0 (.tup [])) l0 (.lst [])) (a:=t0) (o :=.tup [.int 0,.ref l0])
 refine ⟨ebd,k0,[],rfl,ek0,?_⟩
 have s3:=(ag hbd (.dT [])).trans (gk.trans (gl.trans gt))
 generalize upd (upd (upd (upd H0 bd (.dT [])) k0 (.tup [])) l0 (.lst [])) t0 (.tup [.int 0,.ref l0])=H3 at s3 ebd el0 et0
 have s4:ax H0 (upd H3 bd (.dT [([],.ref t0)])):=λa o e=>by rw[ak (aq e hbd)];exact s3 _ _ e
 have eb4:upd H3 bd (.dT [([],.ref t0)]) bd=some (.dT [([],.ref t0)]):=ae
 have gd:Good (upd H3 bd (.dT [([],.ref t0)])) 0 (.ref t0):=⟨t0,l0,0,[],rfl,by rw[ak (cZ et0 ebd nofun)];exact et0,by rw[ak (cZ el0 ebd nofun)];exact el0,(λu h=>nomatch h),D6 _⟩
 generalize upd H3 bd (.dT [([],.ref t0)])=H4 at s4 eb4 gd
 have s04:=g0.trans s4
 refine ⟨_,rfl,r,_,0,_,rfl,rfl,SqT.of (s04 _ _ e1),rfl,(m:Int),rfl,λrg hrg=>⟨rg,m,rfl,ae,by lia,λtl htl =>?_⟩⟩
 have g1:=(ag hrg (.rng 0 m)).trans (ag htl (.tup ((E2 m).map λi=>V.int (i:Nat))))
 have e1':upd (upd H4 rg (.rng 0 m)) tl (.tup ((E2 m).map λi=>V.int (i:Nat))) tl=some (.tup ((rgI m).map V.int)):=by rw[ae];unfold rgI;rw[G6];rfl
 generalize upd (upd H4 rg (.rng 0 m)) tl (.tup ((E2 m).map λi=>V.int (i:Nat)))=H5 at g1 e1'
 refine dq.mpr ⟨tl,rgI m,rfl,e1',by rw[cD];lia,λl us H6 s6 hl el tu pm so =>?_⟩
 have z:Sz m (us.map (·.2)):=⟨pm,so⟩
 have lus:us.length<=256:=by
  have:=z.len
  rw[DY] at this
  have:2 ^ m<=2 ^ 8:=Jy (by decide) m8
  lia
 have s46:=g1.trans s6
 have ew5:=g1 _ _ (s4 _ _ ew0)
 have eb5:=g1 _ _ eb4
 have ew6:=s6 _ _ ew5
 have eb6:=s6 _ _ eb5
 have sH6:=s04.trans s46
 let W0:Nat->St->Hp->Prop:=λi σ H'=>∃wk bk c3,σ=[some (.ref r),some (.ref wd),some (.ref bd),c3]/\wk.length<=i/\Bst (us.map (·.2)) wd bd i H6 H' wk bk
 refine ⟨l,rfl,⟨_,SqL.of el⟩,dW (xs:=us.map λu =>.ref u.1) W0 ⟨[],[([],.ref t0)],_,rfl,EZ _,⟨ew6,eb6,λa o e _ _=>e,(λ_ h=>nomatch h),D6 _,(λv h=>by cases h),λR h =>?_⟩⟩ (λi σ H' _ ⟨wk,bk,c3,_,_,B⟩=>SqL.of (B.sb _ _ el (aq ew5 hl).symm (aq eb5 hl).symm)) ?_ ?_⟩
 ·rcases h with rfl | h
  ·exact ⟨.ref t0,rfl,Good.same gd λa o e _=>s46 _ _ e⟩
  ·cases h
 ·rintro i x σ H' hx ⟨wk,bk,c3,rfl,wl,Bs⟩
  obtain ⟨u,eu,rfl⟩:=item hx
  have mu:=Eb eu
  have eS:(us.map (·.2))[i]? = some u.2:=by rw[En,eu];rfl
  have li:=gh eu
  have mS:=Eb eS
  obtain ⟨sS,rS⟩:=z.mem.mp mS
  have l8:=z.DV mS
  have sH:ax H H':=λa o e=>Bs.sb a o (sH6 _ _ e) (aq e hwd) λy=>by
   have:=g0 _ _ e
   rw[y,hbd] at this;cases this
  have tu':=Bs.sb _ _ (tu u mu) (cZ (tu u mu) ew6 nofun) (cZ (tu u mu) eb6 nofun)
  have SM:bD m u.2:=⟨zG sS,rS⟩
  refine ⟨_,rfl,_,rfl,cO.mpr ⟨r,u.1,m,ts,u.2,rfl,W.same sH,m2,.inr tu',SM,λH7 s7=>⟨rfl,_,rfl,dy (λc =>?_) (λc =>?_)⟩⟩⟩
  ·have c1:trees (ts.map (·.2)) m u.2=1:=by have:=V.int.inj (of_decide_eq_true c);lia
   have neu:u.2≠[]:=λe=>by rw[e,xq W.ok] at c1;cases c1
   refine ⟨_,rfl,_,rfl,eE.mpr ⟨r,u.1,m,ts,u.2,rfl,W.same (sH.trans s7),s7 _ _ tu',by lia,λH8 s8 =>?_⟩⟩
   have s78:=s7.trans s8
   refine ⟨_,rfl,_,rfl,wd,_,rfl,jW.t (s78 _ _ Bs.w) (by rw[j8];exact s78 _ _ tu') (nr (by lia)),gD _ wd bd i us u _ bk H6 _ nwb z lus eu ⟨ae,by rw[ak nwb.symm];exact s78 _ _ Bs.b,λa o e n1 n2=>by rw[ak n1];exact s78 _ _ (Bs.sb a o e n1 n2),Bs.ws.put _ neu (by lia),Bs.bl,λv h =>?_,λR h =>?_⟩ (by rw[ak (cZ (tu u mu) ew6 nofun)];exact s78 _ _ tu') ?_ (λv e=>⟨_,by rw[jm,if_pos (by rw[e];rfl)]⟩) λ_ _ h=>h⟩
   ·rw[jm]
    split
    ·exact ⟨_,rfl⟩
    ·exact Bs.one v h
   ·obtain ⟨v,e,gv⟩:=Bs.bs R h
    exact ⟨v,e,Good.same gv λa o e n=>by rw[ak λy=>by rw[y,Bs.w] at e;cases e;exact n.1 _ rfl];exact s78 _ _ e⟩
   ·have:=dB wk (u.2.map Sum.inl) (.int (wth (ts.map (·.2)) u.2))
    lia
  ·refine gD _ wd bd i us u wk bk H6 H7 nwb z lus eu ⟨s7 _ _ Bs.w,s7 _ _ Bs.b,λa o e n1 n2=>s7 _ _ (Bs.sb a o e n1 n2),Bs.ws,Bs.bl,Bs.one,λR h =>?_⟩ (s7 _ _ tu') (by lia) (λv e =>?_) λ_ _ h=>h
   ·obtain ⟨v,e,gv⟩:=Bs.bs R h
    exact ⟨v,e,Good.same gv λa o e n=>s7 _ _ e⟩
   ·refine absurd ?_ c
    have:=rS v (by rw[e];exact D8)
    rw[e,zM W.ok this.1 this.2]
    exact decide_eq_true rfl
 ·rintro σ H' ⟨wk,bk,c3,rfl,wl,Bs⟩
  have sH:ax H H':=λa o e=>Bs.sb a o (sH6 _ _ e) (aq e hwd) λy=>by
   have:=g0 _ _ e
   rw[y,hbd] at this;cases this
  refine ⟨_,rfl,_,rfl,r,_,0,_,rfl,rfl,SqT.of (sH _ _ e1),rfl,(m:Int),rfl,λrg2 hrg2=>⟨rg2,m,rfl,ae,by lia,λtl2 htl2 =>?_⟩⟩
  have g7:=(ag hrg2 (.rng 0 m)).trans (ag htl2 (.tup ((E2 m).map λi=>V.int (i:Nat))))
  have e7:upd (upd H' rg2 (.rng 0 m)) tl2 (.tup ((E2 m).map λi=>V.int (i:Nat))) tl2=some (.tup ((rgI m).map V.int)):=by rw[ae];unfold rgI;rw[G6];rfl
  generalize upd (upd H' rg2 (.rng 0 m)) tl2 (.tup ((E2 m).map λi=>V.int (i:Nat)))=H7 at g7 e7
  obtain ⟨v,ev,gv⟩:=Bs.bs (rgI m) (.inr (by rw[DY, <- DY (f:=(·.2)) (as:=us),G2];exact z.mem.mpr ⟨uA m,λv hv=>aT.mp hv⟩))
  obtain ⟨t',l',x',us',rfl,f1,f2,f3,f4⟩:=Good.same gv (H':=H7) λa o e _=>g7 _ _ e
  refine ⟨bd,.ref t',rfl,(by rw[<- ev];exact d8.t (g7 _ _ Bs.b) (by rw[j8];exact e7)),t',_,1,.ref l',rfl,rfl,SqT.of f1,rfl,l',us',rfl,.inl (SqL.of f2),λt ht=>⟨SqT.of (f3 t ht).1,(f3 t ht).2⟩,λlo out hlo _ _=>q _ _ ((sH.trans g7).trans (ag hlo _))⟩
end
@[irreducible] def lF (C D:Addr):Sp:=λvs H Q E=>∃(r:Addr) (m:Nat) (ts:LAz),vs=[.ref r]/\Wb H r m ts/\m<=250/\(bz (ts.map (·.2)) m->m<=8->∀v H',ax H H'->Q v H')/\(bz (ts.map (·.2)) m->¬ m<=8->∀H',ax H H'->E (.ref D) none H')/\(¬ bz (ts.map (·.2)) m->∀H',ax H H'->E (.ref C) none H')
theorem gZ {C D:Addr}{vs:List V}{H:Hp}{Q:VK}{E:XK}:lF C D vs H Q E↔∃(r:Addr) (m:Nat) (ts:LAz),vs=[.ref r]/\Wb H r m ts/\m<=250/\(bz (ts.map (·.2)) m->m<=8->∀v H',ax H H'->Q v H')/\(bz (ts.map (·.2)) m->¬ m<=8->∀H',ax H H'->E (.ref D) none H')/\(¬ bz (ts.map (·.2)) m->∀H',ax H H'->E (.ref C) none H'):=by
 delta lF
 exact FU
section
variable  {P:Eo}{w:ES}{K:D2}{mg:Str->Option D1}{base:Heap}{f:Addr}{fd:Fb}{čc čk čh či čf čm čg čd če čb čl čj:Addr}
theorem uC:aB ["web"] ["web"] (ao jY):=⟨rfl,rfl,rfl,by decide +kernel,rfl,by decide +kernel,by decide +kernel⟩
theorem uD (F:Fun K "three_cut" "three_cut" jY f fd)(B:Blt mg)(Z:Exs K mg čc čk čh či čf čm čg čd če čb čl čj)(xLookT:iJ P w K mg base 2 "look_three" ["web"] (gf če))(cFewestPlaces:Cal P w K mg base 5 "fewest_places" ["web"] jK)(cBestParting:Cal P w K mg base 4 "best_parting" ["web"] Bj)(C:Cst mg):bB P w K mg base (CX1 P w) 6 f fd ["web"] (lF če čf):=by
 refine F.okX uC (λvs H Q E h =>?_) (λcdv A outer s H vs Q E hr h =>?_)
 ·obtain ⟨_,_,_,rfl,_⟩:=gZ.mp h
  rfl
 obtain ⟨r,m,ts,rfl,W,m2,q1,q3,q2⟩:=gZ.mp h
 obtain ⟨t_MOST_THREES,w_MOST_THREES⟩:=C.ča
 refine ⟨_,(ah (bA (dk iA xLookT hr (by decide) rfl (aa (pv 0) af rfl)))
  (ah (bq (az n6 (aD aG (pv 0) ai (λ_ _=>rfl)) (cg (v :=.int 8) rfl w_MOST_THREES ⟨_,rfl⟩) (aM _)) (aj (mw (x := "TooMany") yK ⟨Z.t_ex,Z.x_TooMany⟩ hr.hd rfl (aa sN af rfl))) aI)
  (aj (aJ (bP (aa (aA cFewestPlaces hr (by decide) rfl (aa (pv 0) af rfl)) (aa (aA cBestParting hr (by decide) rfl (aa (pv 0) af rfl)) af rfl) rfl)))))),?_⟩
 obtain ⟨t,e1,e2⟩:=W.at'
 refine ⟨_,rfl,cQ.mpr ⟨r,m,ts,rfl,W,m2,λC3 H1 s1 =>?_,q2⟩⟩
 refine ⟨_,rfl,r,_,0,_,rfl,rfl,SqT.of (s1 _ _ e1),rfl,_,_,rfl,rfl,_,rfl,dy (λc =>?_) (λc =>?_)⟩
 ·exact ⟨(by show 1<=Ei;decide),q3 C3 (by have:=of_decide_eq_true c;lia) _ s1⟩
 have m8:m<=8:=HL λy=>c (decide_eq_true (by lia))
 refine ⟨_,rfl,gi.mpr ⟨r,m,ts,rfl,W.same s1,m2,m8,λv H2 s2 =>?_⟩⟩
 have s12:=s1.trans s2
 exact ⟨_,rfl,nC.mpr ⟨r,m,ts,rfl,W.same s12,m2,m8,λv2 H3 s3=>⟨(by show 2<=Ei;decide),λz hz=>q1 C3 m8 _ _ ((s12.trans s3).trans (ag hz _))⟩⟩⟩
end
theorem pH {X:Cx}{body:List Stmt}{D0:Ends}{σ0:St}{H0:Hp}(sts:List Stmt)(M:St->Hp->Prop)(h:∃t2,PSs X sts t2/\∀σ H,M σ H->t2 D0 σ H)
  (g:∀t2,PSs X sts t2->(∀σ H,M σ H->t2 D0 σ H)->∃t,PSs X body t/\t D0 σ0 H0):∃t,PSs X body t/\t D0 σ0 H0:=by
 obtain ⟨t2,p2,m2⟩:=h
 exact g t2 p2 m2
theorem But.new {p l:Addr}{H H1:Hp}(a:But p H H1)(h:Pot H p)(hl:H1 l=none):H l=none/\l≠p:=by
 have np:l≠p:=λz=>by
  subst z
  obtain ⟨_,_,e⟩:=a.pot
  rw[hl] at e
  cases e
 refine ⟨?_,np⟩
 cases e:H l with
 | none=>rfl
 | some o=>rw[a.st _ _ np e] at hl;cases hl
theorem sI {m:Nat}:∀{ns:List (List Int)},Ok m ns->((ns.map λp=>(if p.getD 0 0∈rgI m then (1:Int) else 0)+(if p.getD 1 0∈rgI m then 1 else 0)).sum)=2*(ns.length:Int)
 | [],_=>rfl
 | p :: ns,O=>by
  obtain ⟨a,b,rfl,a0,ab,bm⟩:=O p D8
  rw[Ez,Hn,sI λq hq=>O q (Eg _ hq),EI]
  show (if a∈rgI m then (1:Int) else 0)+(if b∈rgI m then 1 else 0)+_=_
  rw[if_pos (aT.mpr ⟨a0,by lia⟩),if_pos (aT.mpr ⟨by lia,bm⟩)]
  lia
theorem xC {m:Nat}{ns:List (List Int)}(O:Ok m ns)(C:bz ns m):2*ns.length=3*m:=by
 have h:=xo C (P:=rgI m) λv hv=>aT.mp hv
 rw[zj (cN m) O,sI O,cD] at h
 lia
theorem pI {α β:Type}(g:α -> β):∀(l:List α) (n:Nat),(l.map g).eraseIdx n=(l.eraseIdx n).map g
 | [],_=>rfl
 | a :: l,0=>rfl
 | a :: l,n+1=>by show g a :: _=g a :: _;rw[pI g l n]
structure Lo (m:Int)(p lo:Addr)(H H':Hp)(us:LAz):Prop where
 b:But p H H'
 e:H' lo=some (.lst (us.map λu =>.ref u.1))
 t:∀u∈us,H' u.1=some (.tup (u.2.map V.int))/\∃a b:Int,u.2=[a,b]/\0<=a/\a<=b/\b<m
 l:us.length<=150
theorem Lo.but {m:Int}{p lo:Addr}{H H1 H2:Hp}{us:LAz}(h:Lo m p lo H H1 us)(n:lo≠p)(b:But p H1 H2):Lo m p lo H H2 us :=
 ⟨h.b.trans b,b.st _ _ n h.e,λu hu=>⟨b.tup h.b.pot (h.t u hu).1,(h.t u hu).2⟩,h.l⟩
theorem Lo.same {m:Int}{p lo:Addr}{H H1 H2:Hp}{us:LAz}(h:Lo m p lo H H1 us)(s:ax H1 H2):Lo m p lo H H2 us:=⟨h.b.same s,s _ _ h.e,λu hu=>⟨s _ _ (h.t u hu).1,(h.t u hu).2⟩,h.l⟩
theorem Lo.set {m:Int}{p lo:Addr}{H H1:Hp}{us us':LAz}(h:Lo m p lo H H1 us)(hl:H lo=none)(n:lo≠p)(t:∀u∈us',H1 u.1=some (.tup (u.2.map V.int))/\∃a b:Int,u.2=[a,b]/\0<=a/\a<=b/\b<m)(l:us'.length<=150):Lo m p lo H (upd H1 lo (.lst (us'.map λu =>.ref u.1))) us' :=
 ⟨h.b.j4 hl n _,ae,λu hu=>⟨by rw[ak (cZ (t u hu).1 h.e nofun)];exact (t u hu).1,(t u hu).2⟩,l⟩
abbrev vS:Sp:=λvs H Q _=>∃(p r:Addr) (m:Nat) (ts:LAz),vs=[.ref p,.ref r]/\Pot H p/\Wb H r m ts/\m<=40/\ts.length<=60/\∀(b:Addr) (m':Nat) (ts':LAz) (H':Hp),But p H H'->Wb H' b m' ts'->m'<=40->Q (.ref b) H'
@[irreducible] def qx:Sp:=vS
theorem i3 {vs:List V}{H:Hp}{Q:VK}{E:XK}:qx vs H Q E↔vS vs H Q E:=by
 delta qx
 exact FU
section
theorem dv:aB ["pot", "web", "many", "ties", "way", "some", "a", "b"] ["pot", "web"] (ao mJ):=⟨rfl,rfl,rfl,by decide +kernel,rfl,by decide +kernel,by decide +kernel⟩
theorem Bk (F:Fun K "_law_bent" "_law_bent" mJ f fd)(B:Blt mg)(cLPick:Cal P w K mg base 1 "_law_pick" ["pot", "many"] iS)(C:Cst mg):bB P w K mg base CX0 2 f fd ["pot", "web"] qx:=by
 refine F.ok dv (λvs H Q E h =>?_) (λcdv A outer s H vs Q E hr h =>?_)
 ·obtain ⟨_,_,_,_,rfl,_⟩:=i3.mp h
  rfl
 obtain ⟨p,r,m,ts,rfl,pt,W,m4,tl,q⟩:=i3.mp h
 obtain ⟨t,e1,e2⟩:=W.at'
 refine pH ((bK mJ).drop 6) (λσ H'=>∃(m':Nat) (lo:Addr) (us:LAz) (c3 c4 c6 c7:Option V),σ=[some (.ref p),some (.ref r),some (.int m'),c3,c4,some (.ref lo),c6,c7]/\m'<=40/\Lo m' p lo H H' us) ?hT λtT pT mT =>?gT
 case hT =>
  refine ⟨_,(aj (aJ (bP (aa (pv 2) (aa (aQ bX rfl B.b_tuple gK (aa (av fL rfl B.b_sorted cw (aa (pv 5) af rfl)) af rfl)) af rfl) rfl)))),?_⟩
  rintro σ H' ⟨m',lo,us,c3,c4,c6,c7,rfl,l40,L⟩
  refine ⟨_,rfl,_,rfl,lo,us,rfl,.inl (SqL.of L.e),λu hu=>⟨SqT.of (L.t u hu).1,λz =>?_⟩,λL2 out hL2 po ps =>?_⟩
  ·obtain ⟨_,x,y,e,_⟩:=L.t u hu
   rw[z] at e;cases e
  have g1:=ag hL2 (.lst (out.map λt =>.ref t.1))
  refine ⟨L2,_,rfl,.inl ⟨SqL.of ae,λl3 hl3 =>?_⟩⟩
  have g2:=ag hl3 (.tup (out.map λt =>.ref t.1))
  refine ⟨(by show 2<=Ei;decide),λb hb =>?_⟩
  have g3:=ag hb (.tup [.int m',.ref l3])
  have s3:=g1.trans (g2.trans g3)
  exact q b m' out _ (L.b.same s3) ⟨⟨l3,ae,g3 _ _ ae⟩,λu hu=>s3 _ _ (L.t u (po.mem_iff.mp hu)).1,λu hu=>(L.t u (po.mem_iff.mp hu)).2,by rw[po.length_eq];have:=L.l;lia⟩ l40
 case gT =>
 refine pH ((bK mJ).drop 5) (λσ H'=>∃(wy:Int) (lo:Addr) (us:LAz) (c3 c6 c7:Option V),σ=[some (.ref p),some (.ref r),some (.int m),c3,some (.int wy),some (.ref lo),c6,c7]/\Lo m p lo H H' us) ?h5 λt5 p5 m5 =>?g5
 case h5 =>
  refine ⟨_,(ah (bq (PW.pt (c9 (az cI (pv 4) ai (aM _)) (cj (az (Cw hr) (pv 5) (bR af) (aM _))))) (aj (aE (i:=2) dv.nd rfl (Or.inl rfl) ai)) aI)
  pT),?_⟩
  rintro σ H' ⟨wy,lo,us,c3,c6,c7,rfl,L⟩
  refine ⟨_,rfl,rfl,_,rfl,dy (λc=>⟨_,rfl,(by show 0<=Ei;decide),λem hem =>?_⟩) (λc=>aF (mT _ _ ⟨m,lo,us,_,_,_,_,rfl,m4,L⟩))⟩
  have L':=L.same (ag hem (.lst []))
  refine ⟨lo,em,_,_,rfl,rfl,SqL.of L'.e,SqL.of ae,?_⟩
  by_cases hu:us=[]
  ·subst hu
   exact .inr ⟨.nil,_,rfl,aS (mT _ _ ⟨1,lo,[],_,_,_,_,rfl,by decide,⟨L'.b,L'.e,(λu h=>nomatch h),L'.l⟩⟩)⟩
  ·exact .inl ⟨λz=>hu (JL.mp (Jt z)),_,rfl,aF (mT _ _ ⟨m,lo,us,_,_,_,_,rfl,m4,L'⟩)⟩
 case g5 =>
 refine ⟨_,(ah (pQ (pv 1) (pP rfl (dw (ay (i:=2) dv.nd rfl (Or.inl rfl)) (dw (ay (i:=3) dv.nd rfl (Or.inl rfl)) kT))) rfl rfl rfl)
  (ah (aE (i:=4) dv.nd rfl (Or.inl rfl) (aA cLPick hr (by decide) rfl (aa (pv 0) (aa ai af rfl) rfl)))
  (ah (aE (i:=5) dv.nd rfl (Or.inl rfl) (aQ pW rfl B.b_list vq (aa (pv 3) af rfl)))
  (ah (bq (PW.pt (c9 (az cI (pv 4) ai (aM _)) (cj (az n6 (pv 2) ai (aM _))))) (ah (aE (i:=6) dv.nd rfl (Or.inl rfl) (aA cLPick hr (by decide) rfl (aa (pv 0) (aa (pv 2) af rfl) rfl)))
   (ah (aE (i:=7) dv.nd rfl (Or.inl rfl) (aA cLPick hr (by decide) rfl (aa (pv 0) (aa (pv 2) af rfl) rfl)))
   (aj (bA (eC EM FN FO cK (pv 5) (aa (bP (aa (av (hU rfl) rfl B.b_min mL (aa (pv 6) (aa (pv 7) af rfl) rfl)) (aa (av (jP rfl) rfl B.b_max t9 (aa (pv 6) (aa (pv 7) af rfl) rfl)) af rfl) rfl)) af rfl)))))) aI)
  (ah (bq (PW.pt (c9 (az cI (pv 4) ai (aM _)) (cj (az (B8 hr) (pv 5) (bR af) (aM _))))) (ah (bA (eC EM HZ Ia qI (pv 5) (aa (aA cLPick hr (by decide) rfl (aa (pv 0) (aa (av aL rfl B.b_len mK (aa (pv 5) af rfl)) af rfl) rfl)) af rfl)))
   (aj (bq (az cI (aA cLPick hr (by decide) rfl (aa (pv 0) (aa ai af rfl) rfl)) ai (aM _)) (ah (pQ (aD aG (pv 3) (aA cLPick hr (by decide) rfl (aa (pv 0) (aa (av aL rfl B.b_len mK (aa (pv 3) af rfl)) af rfl) rfl)) (λ_ _=>rfl)) (pP rfl (dw (ay (i:=6) dv.nd rfl (Or.inl rfl)) (dw (ay (i:=7) dv.nd rfl (Or.inl rfl)) kT))) rfl rfl rfl)
    (aj (bA (eC EM FN FO cK (pv 5) (aa (bP (aa (pv 6) (aa (pv 7) af rfl) rfl)) af rfl))))) aI))) aI)
  p5))))),?_⟩
 refine ⟨_,rfl,r,_,rfl,SqT.of e1,rfl,_,_,rfl,_,_,rfl,rfl,?_⟩
 refine ⟨_,rfl,aP.mpr ⟨p,3,rfl,pt,by decide,by decide,λwy H1 y0 y1 b1 =>?_⟩⟩
 have W1:=b1.wb pt W
 have e21:=b1.tup pt e2
 refine ⟨_,rfl,t,_,rfl,.inr (SqT.of e21),λlo hlo =>?_⟩
 obtain ⟨hl,nl⟩:H lo=none/\lo≠p:=b1.new pt hlo
 have gl:=ag hlo (.lst (ts.map λu =>.ref u.1))
 have L2:Lo m p lo H (upd H1 lo (.lst (ts.map λu =>.ref u.1))) ts:=⟨b1.same gl,ae,λu hu=>⟨gl _ _ (W1.tup u hu),W1.pr u hu⟩,by lia⟩
 generalize upd H1 lo (.lst (ts.map λu =>.ref u.1))=H2 at gl L2
 obtain rfl | rfl | rfl:wy=0\/wy=1\/wy=2:=by lia
 ·exact ⟨_,rfl,rfl,_,rfl,aF (aF ⟨_,rfl,rfl,_,rfl,aF (aF (m5 _ _ ⟨0,lo,ts,_,_,_,rfl,L2⟩))⟩)⟩
 ·refine ⟨_,rfl,rfl,_,rfl,aS ⟨_,rfl,_,_,rfl,rfl,_,rfl,dy (λc =>?_) (λc=>⟨_,rfl,rfl,_,rfl,aF (aF (m5 _ _ ⟨1,lo,ts,_,_,_,rfl,L2⟩))⟩)⟩⟩
  have m0:0<(m:Int):=of_decide_eq_true c
  refine ⟨_,rfl,_,rfl,aP.mpr ⟨p,m,rfl,L2.b.pot,m0,by lia,λx H3 x0 x1 b3 =>?_⟩⟩
  refine ⟨_,rfl,_,rfl,aP.mpr ⟨p,m,rfl,(L2.but nl b3).b.pot,m0,by lia,λy H4 y0 y1 b4 =>?_⟩⟩
  have L4:=(L2.but nl b3).but nl b4
  refine ⟨_,rfl,.inl ⟨rfl,_,SqL.of L4.e⟩,_,rfl,_,rfl,_,_,rfl,_,rfl,_,rfl,_,_,rfl,(by show 2<=Ei;decide),λtn htn =>?_⟩
  have en:([V.int (if y<x then y else x),V.int (if y>x then y else x)]:List V)=(nrm x y).map V.int:=rfl
  rw[en]
  have gn:=ag htn (.tup ((nrm x y).map V.int))
  have L5:=L4.same gn
  have etn:upd H4 tn (.tup ((nrm x y).map V.int)) tn=some (.tup ((nrm x y).map V.int)):=ae
  generalize upd H4 tn (.tup ((nrm x y).map V.int))=H5 at gn L5 etn
  refine ⟨lo,_,.ref tn,rfl,rfl,L5.e,by rw[DY];exact nr (by lia),_,rfl,rfl,_,rfl,aF (aF (m5 _ _ ⟨1,lo,ts++[(tn,nrm x y)],_,_,_,rfl,?_⟩))⟩
  have:=L5.set hl nl (us':=ts++[(tn,nrm x y)]) (λu hu=>by
   rcases Eh.mp hu with z | z
   ·exact L5.t u z
   ·rw[Ef.mp z];exact ⟨etn,vD x0 x1 y0 y1⟩) (by rw[D7,ED];lia)
  rw[Ee] at this
  exact this
 ·refine ⟨_,rfl,rfl,_,rfl,aF (aF ⟨_,rfl,rfl,_,rfl,aS ⟨_,rfl,(by show 0<=Ei;decide),λem hem =>?_⟩⟩)⟩
  have L3:=L2.same (ag hem (.lst []))
  have e23:=(gl.trans (ag hem (.lst []))) _ _ e21
  refine ⟨lo,em,_,_,rfl,rfl,SqL.of L3.e,SqL.of ae,?_⟩
  generalize upd H2 em (.lst [])=H3 at L3 e23
  by_cases hu:ts=[]
  ·exact .inr ⟨by rw[hu];exact .nil,_,rfl,aF (m5 _ _ ⟨2,lo,ts,_,_,_,rfl,L3⟩)⟩
  have lp:=LR.mpr hu
  refine .inl ⟨λz=>hu (JL.mp (Jt z)),_,rfl,aS ?_⟩
  refine ⟨_,rfl,.inl ⟨rfl,_,SqL.of L3.e⟩,_,rfl,_,rfl,lo,_,rfl,.inl (SqL.of L3.e),aP.mpr ⟨p,_,rfl,L3.b.pot,by rw[DY];lia,by rw[DY];lia,λk H4 k0 k1 b4 =>?_⟩⟩
  rw[DY] at k1
  obtain ⟨k,rfl⟩:∃n:Nat,k=n:=⟨k.toNat,by lia⟩
  have L4:=L3.but nl b4
  have e24:=b4.tup L3.b.pot e23
  obtain ⟨y,ey⟩:∃y,ts[k]? = some y:=⟨_,Ec (show k<ts.length by lia)⟩
  refine ⟨lo,_,(k:Int),k,.ref y.1,rfl,rfl,L4.e,by lia,by lia,?_,by rw[En,ey];rfl,?_⟩
  ·refine (kZ (n:=(ts.map λu=>V.ref u.1).length) (i:=(k:Int)) (j:=k) ?_).1
   unfold ixN
   rw[if_pos (by lia),if_pos (by rw[DY];lia)]
   rfl
  have L5:=L4.set hl nl (us':=ts.eraseIdx k) (λu hu=>L4.t u (Kq hu)) (by have:=Ky ts k;lia)
  have e25:upd H4 lo (.lst ((ts.eraseIdx k).map λu =>.ref u.1)) t=some (.tup (ts.map λu =>.ref u.1)):=by rw[ak (cZ e24 L4.e nofun)];exact e24
  rw[pI]
  generalize upd H4 lo (.lst ((ts.eraseIdx k).map λu =>.ref u.1))=H5 at L5 e25
  have l5:(ts.eraseIdx k).length<=100:=by have:=Ky ts k;lia
  have tsub:∀u∈ts,u∈ts:=λu h=>h
  have W5:=L5.b.wb pt W
  generalize ts.eraseIdx k=us at L5 l5
  refine ⟨_,rfl,aP.mpr ⟨p,2,rfl,L5.b.pot,by decide,by decide,λd H6 d0 d1 b6=>⟨rfl,_,rfl,dy (λc =>?_) (λc=>m5 _ _ ⟨2,lo,us,_,_,_,rfl,L5.but nl b6⟩)⟩⟩⟩
  have L6:=L5.but nl b6
  have W6:=b6.wb L5.b.pot W5
  have e26:=b6.tup L5.b.pot e25
  refine ⟨_,rfl,_,rfl,_,rfl,t,_,rfl,.inr (SqT.of e26),aP.mpr ⟨p,_,rfl,L6.b.pot,by rw[DY];lia,by rw[DY];lia,λk2 H7 k20 k21 b7 =>?_⟩⟩
  rw[DY] at k21
  have L7:=L6.but nl b7
  have W7:=b7.wb L6.b.pot W6
  have e27:=b7.tup L6.b.pot e26
  obtain ⟨u,hu2,au⟩:=AH (g:=λu:Addr×List Int=>u.1) (ts:=ts) k20 k21
  obtain ⟨x,y2,eu,x0,xy,ym⟩:=W7.pr u hu2
  have tu:=W7.tup u hu2
  rw[eu] at tu
  refine ⟨t,_,k2,.ref u.1,rfl,rfl,SqT.of e27,au,u.1,_,rfl,SqT.of tu,rfl,_,_,rfl,_,_,rfl,rfl,?_⟩
  refine ⟨_,rfl,.inl ⟨rfl,_,SqL.of L7.e⟩,_,rfl,_,rfl,(by show 2<=Ei;decide),λtn htn =>?_⟩
  have gn:=ag htn (.tup [.int x,.int y2])
  have L8:=L7.same gn
  have etn:upd H7 tn (.tup [.int x,.int y2]) tn=some (.tup (([x,y2]:List Int).map V.int)):=ae
  generalize upd H7 tn (.tup [.int x,.int y2])=H8 at gn L8 etn
  refine ⟨lo,_,.ref tn,rfl,rfl,L8.e,by rw[DY];exact nr (by lia),m5 _ _ ⟨2,lo,us++[(tn,[x,y2])],_,_,_,rfl,?_⟩⟩
  have:=L8.set hl nl (us':=us++[(tn,[x,y2])]) (λu hu=>by
   rcases Eh.mp hu with z | z
   ·exact L8.t u z
   ·rw[Ef.mp z];exact ⟨etn,x,y2,rfl,x0,xy,ym⟩) (by rw[D7,ED];lia)
  rw[Ee] at this
  exact this
end
def nD (ns:List (List Int)):List Int:=(ns.map λp=>p.getD 0 0)++ns.map λp=>p.getD 1 0
theorem kO {m:Nat}(k:Int):∀{ns:List (List Int)},Ok m ns->((nD ns).count k:Int)=b8 ns k
 | [],_=>rfl
 | p :: ns,O=>by
  obtain ⟨a,b,rfl,_⟩:=O p D8
  have ih:=kO k λq hq=>O q (Eg _ hq)
  unfold nD b8 at ih ⊢
  rw[Ez,Ez,Ez,Hn,HD,FW,FW]
  rw[HD] at ih
  show (((List.count k (ns.map λp=>p.getD 0 0)+if (a == k)=true then 1 else 0)+(List.count k (ns.map λp=>p.getD 1 0)+if (b == k)=true then 1 else 0):Nat):Int)=((List.count k [a,b]:Nat):Int)+_
  rw[FW,FW,Jk]
  lia
abbrev vT:Sp:=λvs H Q _=>∃(r:Addr) (m:Nat) (ts:LAz),vs=[.ref r]/\Wb H r m ts/\m<=250/\∀(b:Bool) (H':Hp),(b=true↔bz (ts.map (·.2)) m)->ax H H'->Q (.bl b) H'
@[irreducible] def qy:Sp:=vT
theorem i4 {vs:List V}{H:Hp}{Q:VK}{E:XK}:qy vs H Q E↔vT vs H Q E:=by
 delta qy
 exact FU
section
theorem hJ:aB ["web", "place", "ends"] ["web"] (ao iO):=⟨rfl,rfl,rfl,by decide +kernel,rfl,by decide +kernel,by decide +kernel⟩
theorem gp:(["tie"]:List Str).Nodup:=by decide +kernel
theorem sJ (F:Fun K "_law_all_three" "_law_all_three" iO f fd)(B:Blt mg)(C:Cst mg):bB P w K mg base CX0 1 f fd ["web"] qy:=by
 refine F.ok hJ (λvs H Q E h =>?_) (λcdv A outer s H vs Q E hr h =>?_)
 ·obtain ⟨_,_,_,rfl,_⟩:=i4.mp h
  rfl
 obtain ⟨r,m,ts,rfl,W,m2,q⟩:=i4.mp h
 refine ⟨_,(ah (cf Fl rfl (bu rfl B.b_range (aa (aD aG (pv 0) ai (λ_ _=>rfl)) af rfl)) (ay (i:=1) hJ.nd rfl (Or.inl rfl))
   (ah (aE (i:=2) hJ.nd rfl (Or.inl rfl) (aN hV (bI ["tie"] [none] rfl (cV (aD aG (pv 0) ai (λ_ _=>rfl))) rfl (λ_ _ _ _ _=>(ay (i:=0) gp rfl (Or.inl rfl))) (λ_ _ _ _ _=>cF) (λ_ _ _ _ _=>(aD (dM (K:=K)) (pv 0) ai (λ_ _=>rfl)))) (bI ["tie"] [none] rfl (cV (aD aG (pv 0) ai (λ_ _=>rfl))) rfl (λ_ _ _ _ _=>(ay (i:=0) gp rfl (Or.inl rfl))) (λ_ _ _ _ _=>cF) (λ_ _ _ _ _=>(aD (dM (K:=K)) (pv 0) ai (λ_ _=>rfl))))))
   (aj (bq (az uJ (eC EM IX Kz wO (pv 2) (aa (pv 1) af rfl)) ai (aM _)) (aj (aJ kh)) aI))) (λ_=>rfl))
  (aj (aJ kh))),?_⟩
 obtain ⟨t,e1,e2⟩:=W.at'
 have O:=W.ok
 let W0:Nat->St->Hp->Prop:=λi σ H'=>(∃c1 c2,σ=[some (.ref r),c1,c2])/\ax H H'/\∀k:Int,0<=k->k<i->b8 (ts.map (·.2)) k=3
 refine ⟨_,rfl,r,_,0,_,rfl,rfl,SqT.of e1,rfl,(m:Int),rfl,by lia,by lia,dQ W0 ⟨⟨_,_,rfl⟩,ax.refl _,λk _ _=>by lia⟩ ?_ ?_⟩
 ·rintro i σ H1 hi ⟨⟨c1,c2,rfl⟩,s1,hk⟩
  have cm:∀{Hx:Hp} (d:Nat),ax H Hx->d<2->∀{j:Nat} {u:Addr×List Int},ts[j]? = some u->∃x:Int,Hx u.1=some (.tup (u.2.map V.int))/\atI (u.2.map V.int) (d:Int)=some (.int x)/\u.2.getD d 0=x:=λ{Hx} d s hd {j u} e=>by
   have mu:=Eb e
   obtain ⟨a,b,eu,_⟩:=W.pr u mu
   refine ⟨u.2.getD d 0,s _ _ (W.tup u mu),?_,rfl⟩
   rw[eu]
   obtain rfl | rfl:d=0\/d=1:=by lia
   ·rfl
   ·rfl
  refine ⟨_,rfl,r,_,1,_,rfl,rfl,SqT.of (s1 _ _ e1),rfl,t,rfl,⟨_,SqT.of (s1 _ _ e2)⟩,bF (xs:=ts.map λu =>.ref u.1) (λj ys H'=>H'=H1/\ys=(((ts.take j).map (·.2)).map λp=>p.getD 0 0).map V.int) ⟨rfl,rfl⟩ (by rw[DY];have:=W.len;exact small (by lia)) (λj ys H' _ h=>by rw[h.1];exact SqT.of (s1 _ _ e2)) ?_ ?_⟩
  ·rintro j v ys H3 hv hy ⟨rfl,rfl⟩ R1 R0 r1 r0
   obtain ⟨u,eu,rfl⟩:=item hv
   obtain ⟨x,h1,h2,h3⟩:=cm 0 s1 (by decide) eu
   refine aS ⟨_,rfl,u.1,_,0,.int x,rfl,rfl,SqT.of h1,h2,r1 _ _ ⟨rfl,?_⟩⟩
   rw[take_snoc eu,Ee,Ee, <- h3];rfl
  rintro ys H3 hy ⟨rfl,rfl⟩ l1 hl1
  rw[DY,G2]
  obtain ⟨H4,zQ9,g1,el1⟩:=nwZ hl1 (.lst (((ts.map (·.2)).map λp=>p.getD 0 0).map V.int))
  rw[zQ9]
  have s4:=s1.trans g1
  refine ⟨_,rfl,r,_,1,_,rfl,rfl,SqT.of (s4 _ _ e1),rfl,t,rfl,⟨_,SqT.of (s4 _ _ e2)⟩,bF (xs:=ts.map λu =>.ref u.1) (λj ys H'=>H'=H4/\ys=(((ts.take j).map (·.2)).map λp=>p.getD 1 0).map V.int) ⟨rfl,rfl⟩ (by rw[DY];have:=W.len;exact small (by lia)) (λj ys H' _ h=>by rw[h.1];exact SqT.of (s4 _ _ e2)) ?_ ?_⟩
  ·rintro j v ys H5 hv hy ⟨rfl,rfl⟩ R1 R0 r1 r0
   obtain ⟨u,eu,rfl⟩:=item hv
   obtain ⟨x,h1,h2,h3⟩:=cm 1 s4 (by decide) eu
   refine aS ⟨_,rfl,u.1,_,1,.int x,rfl,rfl,SqT.of h1,h2,r1 _ _ ⟨rfl,?_⟩⟩
   rw[take_snoc eu,Ee,Ee, <- h3];rfl
  rintro ys H5 hy ⟨rfl,rfl⟩ l2 hl2
  rw[DY,G2]
  have g2:=ag hl2 (.lst (((ts.map (·.2)).map λp=>p.getD 1 0).map V.int))
  have lw:=W.len
  refine ⟨l1,l2,_,_,rfl,rfl,SqL.of (g2 _ _ el1),SqL.of ae,?_,λl3 hl3 =>?_⟩
  ·rw[DY,DY,DY,DY,DY,DY];exact gX (by lia)
  rw[<- Ee,show ((ts.map (·.2)).map (λp=>p.getD 0 0)++(ts.map (·.2)).map λp=>p.getD 1 0)=nD (ts.map (·.2)) from rfl]
  have g3:=ag hl3 (.lst ((nD (ts.map (·.2))).map V.int))
  have s6:=s4.trans (g2.trans g3)
  have el3:upd (upd H5 l2 (.lst (((ts.map (·.2)).map λp=>p.getD 1 0).map V.int))) l3 (.lst ((nD (ts.map (·.2))).map V.int)) l3=some (.lst ((nD (ts.map (·.2))).map V.int)):=ae
  refine ⟨_,rfl,.inl ⟨rfl,_,SqL.of el3⟩,_,rfl,l3,nD (ts.map (·.2)),_,rfl,rfl,el3,rfl,_,rfl,?_⟩
  have ec:=kO (0+(i:Int)) O
  rw[show (0:Int)+(i:Int)=i from ME _] at ec ⊢
  rw[ec]
  have hi':(i:Int)<m:=by lia
  refine dy (λc=>q false _ ⟨λz=>(by cases z),λC3 =>?_⟩ s6) (λc=>⟨⟨_,_,rfl⟩,s6,λk k0 ki =>?_⟩)
  ·rw[C3 i (by lia) hi'] at c
   simp at c
  ·by_cases d:k=i
   ·rw[d]
    exact FF λz=>c (by simp[z])
   ·exact hk k k0 (by lia)
 ·rintro σ H1 ⟨⟨c1,c2,rfl⟩,s1,hk⟩
  exact q true H1 ⟨λ_=>λk k0 km=>hk k k0 (by lia),λ_=>rfl⟩ s1
end
def Due (wh:Int)(ns:List (List Int))(m:Nat)(R:List Int)(d:Int):Prop:=(¬ bz ns m/\d=7)\/(bz ns m/\wh=0/\¬ m<=8/\d=3)\/(bz ns m/\1<wh/\¬ cG ns m (bC m R)/\d=6)\/(bz ns m/\(wh=0->m<=8)/\(1<wh->cG ns m (bC m R))/\d = -1)
abbrev zN:Sp:=λvs H Q _=>∃(wh:Int) (r p:Addr) (m:Nat) (ts:LAz) (R:List Int),vs=[.int wh,.ref r,.ref p]/\Wb H r m ts/\m<=250/\H p=some (.tup (R.map V.int))/\∀(d:Int) (H':Hp),ax H H'->Due wh (ts.map (·.2)) m R d->Q (.int d) H'
@[irreducible] def vU:Sp:=zN
theorem dS {vs:List V}{H:Hp}{Q:VK}{E:XK}:vU vs H Q E↔zN vs H Q E:=by
 delta vU
 exact FU
section
theorem CV:aB ["which", "web", "places"] ["which", "web", "places"] (ao yV):=⟨rfl,rfl,rfl,by decide +kernel,rfl,by decide +kernel,by decide +kernel⟩
theorem CW (F:Fun K "_law_due" "_law_due" yV f fd)(B:Blt mg)(cLAllThree:Cal P w K mg base 1 "_law_all_three" ["web"] qy)(cLClears:Cal P w K mg base 3 "_law_clears" ["web", "places"] fw)(C:Cst mg):bB P w K mg base CX0 4 f fd ["which", "web", "places"] vU:=by
 refine F.ok CV (λvs H Q E h =>?_) (λcdv A outer s H vs Q E hr h =>?_)
 ·obtain ⟨_,_,_,_,_,_,rfl,_⟩:=dS.mp h
  rfl
 obtain ⟨wh,r,p,m,ts,R,rfl,W,m2,hp,q⟩:=dS.mp h
 refine ⟨_,(ah (bq (gw (dG (aA cLAllThree hr (by decide) rfl (aa (pv 1) af rfl)))) (aj (aJ ai)) aI)
  (ah (bq (PW.pt (c9 (az cI (pv 0) ai (aM _)) (cj (az n6 (aD aG (pv 1) ai (λ_ _=>rfl)) ai (aM _))))) (aj (aJ ai)) aI)
  (ah (bq (PW.pt (c9 (az n6 (pv 0) ai (aM _)) (cj (gw (dG (aA cLClears hr (by decide) rfl (aa (pv 1) (aa (pv 2) af rfl) rfl))))))) (aj (aJ ai)) aI)
  (aj (aJ (Dg BR ai)))))),?_⟩
 obtain ⟨t,e1,e2⟩:=W.at'
 refine ⟨_,rfl,i4.mpr ⟨r,m,ts,rfl,W,m2,λb H1 k s1=>⟨_,rfl,?_⟩⟩⟩
 cases b with
 | false=>exact aS (q 7 H1 s1 (.inl ⟨λy=>Bool.noConfusion (k.mpr y),rfl⟩))
 | true =>
  have C3:=k.mp rfl
  by_cases c0:wh=0
  ·subst c0
   refine aF ⟨_,rfl,rfl,_,rfl,aS ⟨_,rfl,r,_,0,_,rfl,rfl,SqT.of (s1 _ _ e1),rfl,_,_,rfl,rfl,_,rfl,dy (λc =>?_) (λc=>⟨_,rfl,_,_,rfl,rfl,_,rfl,aF (aF ?_)⟩)⟩⟩
   ·exact q 3 H1 s1 (.inr (.inl ⟨C3,rfl,by have:=of_decide_eq_true c;lia,rfl⟩))
   ·exact ⟨_,rfl,q (-1) H1 s1 (.inr (.inr (.inr ⟨C3,λ_=>HL λy=>c (decide_eq_true (by lia)),λy=>absurd y (by decide),rfl⟩)))⟩
  ·refine aF ⟨_,rfl,rfl,_,rfl,?_⟩
   rw[decide_eq_false λz=>c0 (V.int.inj z)]
   refine aF (aF ⟨_,rfl,_,_,rfl,rfl,_,rfl,dy (λc =>?_) (λc=>aF ?_)⟩)
   ·refine ⟨_,rfl,_,rfl,di.mpr ⟨r,p,m,ts,R,rfl,W.same s1,m2,.inr (s1 _ _ hp),λb2 H2 k2 s2=>⟨_,rfl,?_⟩⟩⟩
    have s12:=s1.trans s2
    have c:=of_decide_eq_true c
    cases b2 with
    | false=>exact aS (q 6 H2 s12 (.inr (.inr (.inl ⟨C3,c,λy=>Bool.noConfusion (k2.mpr y),rfl⟩))))
    | true=>exact aF ⟨_,rfl,q (-1) H2 s12 (.inr (.inr (.inr ⟨C3,λy=>absurd y c0,λ_=>k2.mp rfl,rfl⟩)))⟩
   ·exact ⟨_,rfl,q (-1) H1 s1 (.inr (.inr (.inr ⟨C3,λy=>absurd y c0,λy=>absurd (decide_eq_true y) c,rfl⟩)))⟩
end
@[irreducible] def vV (C D G:Addr):Sp:=λvs H Q E=>∃(wh:Int) (r p l:Addr) (m:Nat) (ts us:LAz) (R:List Int),vs=[.int wh,.ref r,.ref p,.ref l]/\0<=wh/\wh<4/\Wb H r m ts/\m<=200/\H p=some (.tup (R.map V.int))/\H l=some (.lst (us.map λu =>.ref u.1))/\(∀u∈us,H u.1=some (.tup (u.2.map V.int))/\u.2.length<=500/\(wh=3->bD m u.2))/\us.length<=250/\(Due wh (ts.map (·.2)) m R (-1)->∀H',ax H H'->Q .non H')/\(Due wh (ts.map (·.2)) m R 7->∀H',ax H H'->E (.ref C) none H')/\(Due wh (ts.map (·.2)) m R 3->∀H',ax H H'->E (.ref D) none H')/\(Due wh (ts.map (·.2)) m R 6->∀H',ax H H'->E (.ref G) none H')
theorem j9 {C D G:Addr}{vs:List V}{H:Hp}{Q:VK}{E:XK}:vV C D G vs H Q E↔∃(wh:Int) (r p l:Addr) (m:Nat) (ts us:LAz) (R:List Int),vs=[.int wh,.ref r,.ref p,.ref l]/\0<=wh/\wh<4/\Wb H r m ts/\m<=200/\H p=some (.tup (R.map V.int))/\H l=some (.lst (us.map λu =>.ref u.1))/\(∀u∈us,H u.1=some (.tup (u.2.map V.int))/\u.2.length<=500/\(wh=3->bD m u.2))/\us.length<=250/\(Due wh (ts.map (·.2)) m R (-1)->∀H',ax H H'->Q .non H')/\(Due wh (ts.map (·.2)) m R 7->∀H',ax H H'->E (.ref C) none H')/\(Due wh (ts.map (·.2)) m R 3->∀H',ax H H'->E (.ref D) none H')/\(Due wh (ts.map (·.2)) m R 6->∀H',ax H H'->E (.ref G) none H'):=by
 delta vV
 exact FU
section
variable  {P:Eo}{w:ES}{K:D2}{mg:Str->Option D1}{base:Heap}{f:Addr}{fd:Fb}{čc čk čh či čf čm čg čd če čb čl čj:Addr}
theorem CY:aB ["which", "web", "places", "parts"] ["which", "web", "places", "parts"] (ao yW):=⟨rfl,rfl,rfl,by decide +kernel,rfl,by decide +kernel,by decide +kernel⟩
theorem CZ (F:Fun K "_law_ask" "_law_ask" yW f fd)(B:Blt mg)(Z:Exs K mg čc čk čh či čf čm čg čd če čb čl čj)(xThree:iJ P w K mg base 6 "three_cut" ["web"] (lF če čf))(xTwice:iJ P w K mg base 5 "parting_twice" ["web", "parts"] (lD če))(xCounts:iJ P w K mg base 6 "three_counts" ["web", "places"] (jH če čd))(xRows:iJ P w K mg base 6 "parting_rows" ["web", "places", "parts"] (qt če čd))(C:Cst mg):bB P w K mg base (CX1 P w) 7 f fd ["which", "web", "places", "parts"] (vV če čf čd):=by
 refine F.okX CY (λvs H Q E h =>?_) (λcdv A outer s H vs Q E hr h =>?_)
 ·obtain ⟨_,_,_,_,_,_,_,_,rfl,_⟩:=j9.mp h
  rfl
 obtain ⟨wh,r,p,l,m,ts,us,R,rfl,h0,h4,W,m2,hp,el,tu,lu,q1,q7,q3,q6⟩:=j9.mp h
 refine ⟨_,(ah (bq (az cI (pv 0) ai (aM _)) (aj (bA (dk iA xThree hr (by decide) rfl (aa (pv 1) af rfl)))) aI)
  (ah (bq (az cI (pv 0) ai (aM _)) (aj (bA (dk iA xTwice hr (by decide) rfl (aa (pv 1) (aa (pv 3) af rfl) rfl)))) aI)
  (ah (bq (az cI (pv 0) ai (aM _)) (aj (bA (dk iA xCounts hr (by decide) rfl (aa (pv 1) (aa (pv 2) af rfl) rfl)))) aI)
  (aj (bq (az cI (pv 0) ai (aM _)) (aj (bA (dk iA xRows hr (by decide) rfl (aa (pv 1) (aa (pv 2) (aa (pv 3) af rfl) rfl) rfl)))) aI))))),?_⟩
 have tu1:∀u∈us,H u.1=some (.tup (u.2.map V.int)):=λu hu=>(tu u hu).1
 obtain rfl | rfl | rfl | rfl:wh=0\/wh=1\/wh=2\/wh=3:=by lia
 ·refine ⟨_,rfl,rfl,_,rfl,aS ⟨_,rfl,gZ.mpr ⟨r,m,ts,rfl,W,by lia,λC3 m8 v H1 s1 =>?_,λC3 n8 H1 s1 =>?_,λn3 H1 s1=>q7 (.inl ⟨n3,rfl⟩) H1 s1⟩⟩⟩
  ·exact ⟨_,rfl,rfl,_,rfl,aF ⟨_,rfl,rfl,_,rfl,aF ⟨_,rfl,rfl,_,rfl,aF (q1 (.inr (.inr (.inr ⟨C3,λ_=>m8,λy=>absurd y (by decide),rfl⟩))) H1 s1)⟩⟩⟩
  ·exact q3 (.inr (.inl ⟨C3,rfl,n8,rfl⟩)) H1 s1
 ·refine ⟨_,rfl,rfl,_,rfl,aF ⟨_,rfl,rfl,_,rfl,aS ⟨_,rfl,_,rfl,gW.mpr ⟨r,l,m,ts,us,rfl,W,by lia,.inl el,tu1,λu hu=>(tu u hu).2.1,by lia,λC3 v H1 s1 =>?_,λn3 H1 s1=>q7 (.inl ⟨n3,rfl⟩) H1 s1⟩⟩⟩⟩
  exact ⟨_,rfl,rfl,_,rfl,aF ⟨_,rfl,rfl,_,rfl,aF (q1 (.inr (.inr (.inr ⟨C3,λy=>absurd y (by decide),λy=>absurd y (by decide),rfl⟩))) H1 s1)⟩⟩
 ·refine ⟨_,rfl,rfl,_,rfl,aF ⟨_,rfl,rfl,_,rfl,aF ⟨_,rfl,rfl,_,rfl,aS ⟨_,rfl,_,rfl,gg.mpr ⟨r,p,m,ts,R,rfl,W,by lia,hp,λC3 wd v H1 s1 =>?_,λC3 nw H1 s1=>q6 (.inr (.inr (.inl ⟨C3,by decide,nw,rfl⟩))) H1 s1,λn3 H1 s1=>q7 (.inl ⟨n3,rfl⟩) H1 s1⟩⟩⟩⟩⟩
  exact ⟨_,rfl,rfl,_,rfl,aF (q1 (.inr (.inr (.inr ⟨C3,λy=>absurd y (by decide),λ_=>wd,rfl⟩))) H1 s1)⟩
 ·refine ⟨_,rfl,rfl,_,rfl,aF ⟨_,rfl,rfl,_,rfl,aF ⟨_,rfl,rfl,_,rfl,aF ⟨_,rfl,rfl,_,rfl,aS ⟨_,rfl,_,rfl,_,rfl,iY.mpr ⟨r,p,l,m,ts,us,R,rfl,W,by lia,hp,.inl el,λu hu=>⟨tu1 u hu,(tu u hu).2.2 rfl⟩,by lia,λC3 wd v H1 s1 =>?_,λC3 nw H1 s1=>q6 (.inr (.inr (.inl ⟨C3,by decide,nw,rfl⟩))) H1 s1,λn3 H1 s1=>q7 (.inl ⟨n3,rfl⟩) H1 s1⟩⟩⟩⟩⟩⟩
  exact q1 (.inr (.inr (.inr ⟨C3,λy=>absurd y (by decide),λ_=>wd,rfl⟩))) H1 s1
end
@[irreducible] def qz (C D G:Addr):Sp:=λvs H Q E=>∃(wh:Int) (r p l:Addr) (m:Nat) (ts us:LAz) (R:List Int),vs=[.int wh,.ref r,.ref p,.ref l]/\0<=wh/\wh<4/\Wb H r m ts/\m<=200/\H p=some (.tup (R.map V.int))/\H l=some (.lst (us.map λu =>.ref u.1))/\(∀u∈us,H u.1=some (.tup (u.2.map V.int))/\u.2.length<=500/\(wh=3->bD m u.2))/\us.length<=250/\(Due wh (ts.map (·.2)) m R (-1)->∀H',ax H H'->Q .non H')/\∀(ea c:Addr) (d:Int) (H':Hp),ax H H'->H' ea=some (rH ea (.ref c))->Due wh (ts.map (·.2)) m R d->((c=C/\d=7)\/(c=D/\d=3)\/(c=G/\d=6))->Q (.ref ea) H'
theorem df {C D G:Addr}{vs:List V}{H:Hp}{Q:VK}{E:XK}:qz C D G vs H Q E↔∃(wh:Int) (r p l:Addr) (m:Nat) (ts us:LAz) (R:List Int),vs=[.int wh,.ref r,.ref p,.ref l]/\0<=wh/\wh<4/\Wb H r m ts/\m<=200/\H p=some (.tup (R.map V.int))/\H l=some (.lst (us.map λu =>.ref u.1))/\(∀u∈us,H u.1=some (.tup (u.2.map V.int))/\u.2.length<=500/\(wh=3->bD m u.2))/\us.length<=250/\(Due wh (ts.map (·.2)) m R (-1)->∀H',ax H H'->Q .non H')/\∀(ea c:Addr) (d:Int) (H':Hp),ax H H'->H' ea=some (rH ea (.ref c))->Due wh (ts.map (·.2)) m R d->((c=C/\d=7)\/(c=D/\d=3)\/(c=G/\d=6))->Q (.ref ea) H':=by
 delta qz
 exact FU
section
variable  {P:Eo}{w:ES}{K:D2}{mg:Str->Option D1}{base:Heap}{f:Addr}{fd:Fb}{čc čk čh či čf čm čg čd če čb čl čj:Addr}
theorem lG:aB ["which", "web", "places", "parts", "found", "e"] ["which", "web", "places", "parts"] (ao tZ):=⟨rfl,rfl,rfl,by decide +kernel,rfl,by decide +kernel,by decide +kernel⟩
theorem Bl (F:Fun K "_law_said" "_law_said" tZ f fd)(B:Blt mg)(Z:Exs K mg čc čk čh či čf čm čg čd če čb čl čj)(xAsk:iJ P w K mg base 7 "_law_ask" ["which", "web", "places", "parts"] (vV če čf čd))(C:Cst mg):bB P w K mg base CX0 8 f fd ["which", "web", "places", "parts"] (qz če čf čd):=by
 refine F.ok lG (λvs H Q E h =>?_) (λcdv A outer s H vs Q E hr h =>?_)
 ·obtain ⟨_,_,_,_,_,_,_,_,rfl,_⟩:=df.mp h
  rfl
 obtain ⟨wh,r,p,l,m,ts,us,R,rfl,h0,h4,W,m2,hp,el,tu,lu,q1,q2⟩:=df.mp h
 refine ⟨_,(ah (aE (i:=4) lG.nd rfl (Or.inl rfl) lJ)
  (ah (CA (i:=5) (n := "e") (x := "WebError") rfl rfl lG.nd rfl rfl rfl Z.x_WebError (AM (yL xAsk hr (by decide) rfl (aa (pv 0) (aa (pv 1) (aa (pv 2) (aa (pv 3) af rfl) rfl) rfl) rfl))) (λ_=>(aj (aE (i:=4) lG.nd rfl (Or.inl rfl) (pv 5)))))
  (aj (aJ (pv 4))))),?_⟩
 refine ⟨_,rfl,_,rfl,_,rfl,_,rfl,j9.mpr ⟨wh,r,p,l,m,ts,us,R,rfl,h0,h4,W,m2,hp,el,tu,lu,λdu H1 s1=>⟨_,rfl,q1 du H1 s1⟩,λdu H1 s1=>⟨Z.h_m,λea he =>?_⟩,λdu H1 s1=>⟨Z.t_m,λea he =>?_⟩,λdu H1 s1=>⟨Z.n_m,λea he =>?_⟩⟩⟩
 ·exact ⟨_,rfl,_,rfl,q2 ea če 7 _ (s1.trans (ag he _)) ae du (.inl ⟨rfl,rfl⟩)⟩
 ·exact ⟨_,rfl,_,rfl,q2 ea čf 3 _ (s1.trans (ag he _)) ae du (.inr (.inl ⟨rfl,rfl⟩))⟩
 ·exact ⟨_,rfl,_,rfl,q2 ea čd 6 _ (s1.trans (ag he _)) ae du (.inr (.inr ⟨rfl,rfl⟩))⟩
end
@[irreducible] def lH (C D G:Addr):Sp:=λvs H Q E=>∃(ea c:Addr) (d:Int),vs=[.ref ea,.int d]/\H ea=some (rH ea (.ref c))/\((c=C/\d=7)\/(c=D/\d=3)\/(c=G/\d=6))/\∀H',ax H H'->Q (.bl true) H'
theorem cU {C D G:Addr}{vs:List V}{H:Hp}{Q:VK}{E:XK}:lH C D G vs H Q E↔∃(ea c:Addr) (d:Int),vs=[.ref ea,.int d]/\H ea=some (rH ea (.ref c))/\((c=C/\d=7)\/(c=D/\d=3)\/(c=G/\d=6))/\∀H',ax H H'->Q (.bl true) H':=by
 delta lH
 exact FU
section
variable  {P:Eo}{w:ES}{K:D2}{mg:Str->Option D1}{base:Heap}{f:Addr}{fd:Fb}{čc čk čh či čf čm čg čd če čb čl čj:Addr}
theorem sL:aB ["e", "place", "some"] ["e", "place"] (ao qg):=⟨rfl,rfl,rfl,by decide +kernel,rfl,by decide +kernel,by decide +kernel⟩
theorem zO (F:Fun K "_law_alone" "_law_alone" qg f fd)(B:Blt mg)(Z:Exs K mg čc čk čh či čf čm čg čd če čb čl čj)(C:Cst mg):bB P w K mg base CX0 1 f fd ["e", "place"] (lH če čf čd):=by
 refine F.ok sL (λvs H Q E h =>?_) (λcdv A outer s H vs Q E hr h =>?_)
 ·obtain ⟨_,_,_,rfl,_⟩:=cU.mp h
  rfl
 obtain ⟨ea,c,d,rfl,ee,hc,q⟩:=cU.mp h
 refine ⟨_,(ah (aE (i:=2) sL.nd rfl (Or.inl rfl) (bR (aa (av (bQ (K:=K)) rfl B.b_isinstance aO (aa (pv 0) (aa (cg (v :=.ref čk) rfl Z.x_BadWeb rfl) af rfl) rfl)) (aa (av (bQ (K:=K)) rfl B.b_isinstance aO (aa (pv 0) (aa (cg (v :=.ref čh) rfl Z.x_NoStep rfl) af rfl) rfl)) (aa (av (bQ (K:=K)) rfl B.b_isinstance aO (aa (pv 0) (aa (cg (v :=.ref či) rfl Z.x_NoText rfl) af rfl) rfl)) (aa (av (bQ (K:=K)) rfl B.b_isinstance aO (aa (pv 0) (aa (cg (v :=.ref čf) rfl Z.x_TooMany rfl) af rfl) rfl)) (aa (av (bQ (K:=K)) rfl B.b_isinstance aO (aa (pv 0) (aa (cg (v :=.ref čm) rfl Z.x_NoTie rfl) af rfl) rfl)) (aa (av (bQ (K:=K)) rfl B.b_isinstance aO (aa (pv 0) (aa (cg (v :=.ref čg) rfl Z.x_NoRing rfl) af rfl) rfl)) (aa (av (bQ (K:=K)) rfl B.b_isinstance aO (aa (pv 0) (aa (cg (v :=.ref čd) rfl Z.x_NotClear rfl) af rfl) rfl)) (aa (av (bQ (K:=K)) rfl B.b_isinstance aO (aa (pv 0) (aa (cg (v :=.ref če) rfl Z.x_NotThree rfl) af rfl) rfl)) (aa (av (bQ (K:=K)) rfl B.b_isinstance aO (aa (pv 0) (aa (cg (v :=.ref čb) rfl Z.x_BadBoard rfl) af rfl) rfl)) (aa (av (bQ (K:=K)) rfl B.b_isinstance aO (aa (pv 0) (aa (cg (v :=.ref čl) rfl Z.x_NoRow rfl) af rfl) rfl)) (aa (av (bQ (K:=K)) rfl B.b_isinstance aO (aa (pv 0) (aa (cg (v :=.ref čj) rfl Z.x_NoBack rfl) af rfl) rfl)) af rfl) rfl) rfl) rfl) rfl) rfl) rfl) rfl) rfl) rfl) rfl)))
  (ah (bq (PW.pt (uE (gw (dG (av (bQ (K:=K)) rfl B.b_isinstance aO (aa (pv 0) (aa (cg (v :=.ref čc) rfl Z.x_WebError rfl) af rfl) rfl)))) (pO (gw (dG (av (bQ (K:=K)) rfl B.b_isinstance aO (aa (pv 0) (aa (zR (v :=.ty "ValueError") rfl B.b_ValueError nN rfl) af rfl) rfl))))))) nY aI)
  (aj (aJ (xG (fC cI (eC EM IX Kz w4 (pv 2) (aa kh af rfl)) ai (aM _)) (xF (aD ck (pv 2) (pv 1) (λ_ _=>rfl)))))))),?_⟩
 obtain ⟨rfl,rfl⟩ | ⟨rfl,rfl⟩ | ⟨rfl,rfl⟩:=hc
 ·have ho:=Z.h_o
  simp only[Ez,Lg] at ho
  obtain ⟨o0,o1,o2,o3,o4,o5,o6,o7,o8,o9,o10,_⟩:=ho
  refine ⟨_,rfl,ea,c,_,false,rfl,ee,Z.h_i,rfl,o0,_,rfl,ea,c,_,false,rfl,ee,Z.h_i,rfl,o1,_,rfl,ea,c,_,false,rfl,ee,Z.h_i,rfl,o2,_,rfl,ea,c,_,false,rfl,ee,Z.h_i,rfl,o3,_,rfl,ea,c,_,false,rfl,ee,Z.h_i,rfl,o4,_,rfl,ea,c,_,false,rfl,ee,Z.h_i,rfl,o5,_,rfl,ea,c,_,false,rfl,ee,Z.h_i,rfl,o6,_,rfl,ea,c,_,true,rfl,ee,Z.h_i,rfl,o7,_,rfl,ea,c,_,false,rfl,ee,Z.h_i,rfl,o8,_,rfl,ea,c,_,false,rfl,ee,Z.h_i,rfl,o9,_,rfl,ea,c,_,false,rfl,ee,Z.h_i,rfl,o10,(by show 11<=Ei;decide),λl hl =>?_⟩
  have g1:=ag hl (.lst [.bl false,.bl false,.bl false,.bl false,.bl false,.bl false,.bl false,.bl true,.bl false,.bl false,.bl false])
  have el:upd H l (.lst [.bl false,.bl false,.bl false,.bl false,.bl false,.bl false,.bl false,.bl true,.bl false,.bl false,.bl false]) l=some (.lst (([false,false,false,false,false,false,false,true,false,false,false]:List Bool).map V.bl)):=ae
  have ee1:=g1 _ _ ee
  generalize upd H l (.lst [.bl false,.bl false,.bl false,.bl false,.bl false,.bl false,.bl false,.bl true,.bl false,.bl false,.bl false])=H1 at g1 el ee1
  refine ⟨_,rfl,ea,c,_,true,rfl,ee1,Z.h_i,rfl,Z.h_w,_,rfl,aF ⟨_,rfl,ea,c,_,true,rfl,ee1,Z.h_i,rfl,Z.h_v,_,rfl,aF ?_⟩⟩
  refine ⟨_,rfl,.inl ⟨rfl,_,SqL.of el⟩,l,_,true,rfl,rfl,el,rfl,true,by rw[decide_eq_true (by decide)],aS ⟨_,rfl,_,rfl,l,_,7,_,rfl,rfl,SqL.of el,rfl,q _ g1⟩⟩
 ·have ho:=Z.t_o
  simp only[Ez,Lg] at ho
  obtain ⟨o0,o1,o2,o3,o4,o5,o6,o7,o8,o9,o10,_⟩:=ho
  refine ⟨_,rfl,ea,c,_,false,rfl,ee,Z.t_i,rfl,o0,_,rfl,ea,c,_,false,rfl,ee,Z.t_i,rfl,o1,_,rfl,ea,c,_,false,rfl,ee,Z.t_i,rfl,o2,_,rfl,ea,c,_,true,rfl,ee,Z.t_i,rfl,o3,_,rfl,ea,c,_,false,rfl,ee,Z.t_i,rfl,o4,_,rfl,ea,c,_,false,rfl,ee,Z.t_i,rfl,o5,_,rfl,ea,c,_,false,rfl,ee,Z.t_i,rfl,o6,_,rfl,ea,c,_,false,rfl,ee,Z.t_i,rfl,o7,_,rfl,ea,c,_,false,rfl,ee,Z.t_i,rfl,o8,_,rfl,ea,c,_,false,rfl,ee,Z.t_i,rfl,o9,_,rfl,ea,c,_,false,rfl,ee,Z.t_i,rfl,o10,(by show 11<=Ei;decide),λl hl =>?_⟩
  have g1:=ag hl (.lst [.bl false,.bl false,.bl false,.bl true,.bl false,.bl false,.bl false,.bl false,.bl false,.bl false,.bl false])
  have el:upd H l (.lst [.bl false,.bl false,.bl false,.bl true,.bl false,.bl false,.bl false,.bl false,.bl false,.bl false,.bl false]) l=some (.lst (([false,false,false,true,false,false,false,false,false,false,false]:List Bool).map V.bl)):=ae
  have ee1:=g1 _ _ ee
  generalize upd H l (.lst [.bl false,.bl false,.bl false,.bl true,.bl false,.bl false,.bl false,.bl false,.bl false,.bl false,.bl false])=H1 at g1 el ee1
  refine ⟨_,rfl,ea,c,_,true,rfl,ee1,Z.t_i,rfl,Z.t_w,_,rfl,aF ⟨_,rfl,ea,c,_,true,rfl,ee1,Z.t_i,rfl,Z.t_v,_,rfl,aF ?_⟩⟩
  refine ⟨_,rfl,.inl ⟨rfl,_,SqL.of el⟩,l,_,true,rfl,rfl,el,rfl,true,by rw[decide_eq_true (by decide)],aS ⟨_,rfl,_,rfl,l,_,3,_,rfl,rfl,SqL.of el,rfl,q _ g1⟩⟩
 ·have ho:=Z.n_o
  simp only[Ez,Lg] at ho
  obtain ⟨o0,o1,o2,o3,o4,o5,o6,o7,o8,o9,o10,_⟩:=ho
  refine ⟨_,rfl,ea,c,_,false,rfl,ee,Z.n_i,rfl,o0,_,rfl,ea,c,_,false,rfl,ee,Z.n_i,rfl,o1,_,rfl,ea,c,_,false,rfl,ee,Z.n_i,rfl,o2,_,rfl,ea,c,_,false,rfl,ee,Z.n_i,rfl,o3,_,rfl,ea,c,_,false,rfl,ee,Z.n_i,rfl,o4,_,rfl,ea,c,_,false,rfl,ee,Z.n_i,rfl,o5,_,rfl,ea,c,_,true,rfl,ee,Z.n_i,rfl,o6,_,rfl,ea,c,_,false,rfl,ee,Z.n_i,rfl,o7,_,rfl,ea,c,_,false,rfl,ee,Z.n_i,rfl,o8,_,rfl,ea,c,_,false,rfl,ee,Z.n_i,rfl,o9,_,rfl,ea,c,_,false,rfl,ee,Z.n_i,rfl,o10,(by show 11<=Ei;decide),λl hl =>?_⟩
  have g1:=ag hl (.lst [.bl false,.bl false,.bl false,.bl false,.bl false,.bl false,.bl true,.bl false,.bl false,.bl false,.bl false])
  have el:upd H l (.lst [.bl false,.bl false,.bl false,.bl false,.bl false,.bl false,.bl true,.bl false,.bl false,.bl false,.bl false]) l=some (.lst (([false,false,false,false,false,false,true,false,false,false,false]:List Bool).map V.bl)):=ae
  have ee1:=g1 _ _ ee
  generalize upd H l (.lst [.bl false,.bl false,.bl false,.bl false,.bl false,.bl false,.bl true,.bl false,.bl false,.bl false,.bl false])=H1 at g1 el ee1
  refine ⟨_,rfl,ea,c,_,true,rfl,ee1,Z.n_i,rfl,Z.n_w,_,rfl,aF ⟨_,rfl,ea,c,_,true,rfl,ee1,Z.n_i,rfl,Z.n_v,_,rfl,aF ?_⟩⟩
  refine ⟨_,rfl,.inl ⟨rfl,_,SqL.of el⟩,l,_,true,rfl,rfl,el,rfl,true,by rw[decide_eq_true (by decide)],aS ⟨_,rfl,_,rfl,l,_,6,_,rfl,rfl,SqL.of el,rfl,q _ g1⟩⟩
end
def sM (K:D2):Sp:=λvs H Q _=>∃(a:Addr) (ns:List Int),vs=[.ref a]/\SqL K H a (ns.map V.int)/\ns.length<=63/\∀H',Q (.bl true) H'
theorem pJ {K:D2}{vs:List V}{H:Hp}{Q:VK}{E:XK}:sM K vs H Q E↔∃(a:Addr) (ns:List Int),vs=[.ref a]/\SqL K H a (ns.map V.int)/\ns.length<=63/\∀H',Q (.bl true) H':=FU
theorem Due.uniq {wh:Int}{ns:List (List Int)}{m:Nat}{R:List Int}{d e:Int}(a:Due wh ns m R d)(b:Due wh ns m R e):d=e:=by
 rcases a with ⟨a1,rfl⟩ | ⟨a1,a2,a3,rfl⟩ | ⟨a1,a2,a3,rfl⟩ | ⟨a1,a2,a3,rfl⟩ <;> rcases b with ⟨b1,rfl⟩ | ⟨b1,b2,b3,rfl⟩ | ⟨b1,b2,b3,rfl⟩ | ⟨b1,b2,b3,rfl⟩ <;> first | rfl | exact absurd b1 a1 | exact absurd a1 b1 | lia | exact absurd (b3 a2) a3 | exact absurd (a3 b2) b3 | exact absurd (b2 a2) a3 | exact absurd (a2 b2) b3
structure Inn (p b z l:Addr)(m:Nat)(ts:LAz)(R:List Int)(us:LAz)(H1 H':Hp):Prop where
 bt:But p H1 H'
 W:Wb H' b m ts
 z:H' z=some (.tup (R.map V.int))
 l:H' l=some (.lst (us.map λu =>.ref u.1))
 t:∀u∈us,H' u.1=some (.tup (u.2.map V.int))/\u.2.length<=500
 n:us.length<=100
theorem Inn.same {p b z l:Addr}{m:Nat}{ts:LAz}{R:List Int}{us:LAz}{H1 H' H2:Hp}(h:Inn p b z l m ts R us H1 H')(s:ax H' H2):Inn p b z l m ts R us H1 H2:=⟨h.bt.same s,h.W.same s,s _ _ h.z,s _ _ h.l,λu hu=>⟨s _ _ (h.t u hu).1,(h.t u hu).2⟩,h.n⟩
theorem Inn.but {p b z l:Addr}{m:Nat}{ts:LAz}{R:List Int}{us:LAz}{H1 H' H2:Hp}(h:Inn p b z l m ts R us H1 H')(n:l≠p)(c:But p H' H2):Inn p b z l m ts R us H1 H2:=⟨h.bt.trans c,c.wb h.bt.pot h.W,c.tup h.bt.pot h.z,c.st _ _ n h.l,λu hu=>⟨c.tup h.bt.pot (h.t u hu).1,(h.t u hu).2⟩,h.n⟩
theorem Inn.to {p b z l l':Addr}{m:Nat}{ts:LAz}{R:List Int}{us us':LAz}{H1 H':Hp}(h:Inn p b z l m ts R us H1 H')(e:H' l'=some (.lst (us'.map λu =>.ref u.1)))(t:∀u∈us',H' u.1=some (.tup (u.2.map V.int))/\u.2.length<=500)(n:us'.length<=100):Inn p b z l' m ts R us' H1 H':=⟨h.bt,h.W,h.z,e,t,n⟩
theorem at3 {d:Int}(d0:0<=d)(d1:d<3):∃v:Int,atI [V.int 4,V.int 8,V.int 12] d=some (.int v)/\0<=v/\v<=40:=by
 obtain rfl | rfl | rfl:d=0\/d=1\/d=2:=by lia
 ·exact ⟨4,rfl,by decide,by decide⟩
 ·exact ⟨8,rfl,by decide,by decide⟩
 ·exact ⟨12,rfl,by decide,by decide⟩
theorem vW {α:Type}(f:α -> V)(l:List α)(lo hi:Option Int):∃l':List α,iF (l.map f) lo hi=l'.map f/\(∀x∈l',x∈l)/\l'.length<=l.length:=by
 unfold iF
 simp only[<- JB, <- Me]
 refine ⟨_,rfl,λx hx=>GH (FI hx),?_⟩
 rw[Ff,FJ]
 lia
theorem kg {H:Hp}{p l:Addr}(h:Pot H p)(e:H l=none):l≠p:=λz=>by
 obtain ⟨x,y,q⟩:=h
 rw[z,q] at e;cases e
section
variable  {P:Eo}{w:ES}{K:D2}{mg:Str->Option D1}{base:Heap}{f:Addr}{fd:Fb}{čc čk čh či čf čm čg čd če čb čl čj:Addr}
theorem gq:aB ["script", "k", "pot", "web", "places", "parts", "which", "due", "found"] ["script"] (ao rL):=⟨rfl,rfl,rfl,by decide +kernel,rfl,by decide +kernel,by decide +kernel⟩
theorem kP:(["place"]:List Str).Nodup:=by decide +kernel
theorem DW (F:Fun K "law" "law" rL f fd)(B:Blt mg)(cLDeal:Cal P w K mg base 1 "_law_deal" ["script", "k"] (qm K))(cLBent:Cal P w K mg base 2 "_law_bent" ["pot", "web"] qx)(cLClearing:Cal P w K mg base 4 "_law_clearing" ["pot", "web"] f9)(cLThrees:Cal P w K mg base 2 "_law_threes" ["pot", "most"] jC)(cLPick:Cal P w K mg base 1 "_law_pick" ["pot", "many"] iS)(cLDue:Cal P w K mg base 4 "_law_due" ["which", "web", "places"] vU)(cLSaid:Cal P w K mg base 8 "_law_said" ["which", "web", "places", "parts"] (qz če čf čd))(cLAlone:Cal P w K mg base 1 "_law_alone" ["e", "place"] (lH če čf čd))(C:Cst mg):bB P w K mg base CX0 9 f fd ["script"] (sM K):=by
 refine F.ok gq (λvs H Q E h =>?_) (λcdv A outer s H vs Q E hr h =>?_)
 ·obtain ⟨_,_,rfl,_⟩:=pJ.mp h
  rfl
 obtain ⟨a,ns,rfl,hS,h63,q⟩:=pJ.mp h
 have TD:∃t,PSs (gA CX0 P w K mg base ["script", "k", "pot", "web", "places", "parts", "which", "due", "found"] "law" (ao rL) f cdv A outer s H E).nox ((vj ((bK rL).getD 0 (.Pass ⟨0,0,0,0⟩))).drop 4) t/\∀(D:Ends) (k0:Int) (p b z:Addr) (m:Nat) (ts:LAz) (R:List Int) (H1 H6:Hp) (c5 c6 c7 c8:Option V),But p H1 H6->Wb H6 b m ts->m<=40->H6 z=some (.tup (R.map V.int))->(∀σ' H',(∃c1 c2 c3 c4 c5 c6 c7 c8,σ'=[some (.ref a),c1,c2,c3,c4,c5,c6,c7,c8])->But p H1 H'->D.nx σ' H')->t D [some (.ref a),some (.int k0),some (.ref p),some (.ref b),some (.ref z),c5,c6,c7,c8] H6:=by
  refine ⟨_,(ah (bO (i:=5) ["place"] [none] rfl gq.nd rfl rfl (bu rfl B.b_range (aa (aD aG (pv 3) ai (λ_ _=>rfl)) af rfl)) rfl (λ_ _ _ _ _=>(ay (i:=0) kP rfl (Or.inl rfl))) (λ_ _ _ _ _=>cF) (λ_ _ _ _ _=>(bP (aa (pv 0) af rfl))))
   (aj (cf Fl rfl (bu rfl B.b_range (aa ai af rfl)) (ay (i:=6) gq.nd rfl (Or.inl rfl))
    (ah (bq (az cI (pv 6) ai (aM _)) (aj (aE (i:=5) gq.nd rfl (Or.inl rfl) (aD ck (bR (aa (pv 5) (aa (aN hV (pv 5) (bR (aa (bP af) af rfl))) (aa (aN hV (pv 5) (bR (aa (bP (aa ai af rfl)) af rfl))) (aa (i9 uO (pv 5) (kX ai) kW) af rfl) rfl) rfl) rfl)) (aA cLPick hr (by decide) rfl (aa (pv 2) (aa ai af rfl) rfl)) (λ_ _=>rfl)))) aI)
    (ah (bq (az cI (pv 6) ai (aM _)) (aj (bO (i:=5) ["place"] [none] rfl gq.nd rfl rfl (bu rfl B.b_range (aa (aD aG (pv 3) ai (λ_ _=>rfl)) af rfl)) rfl (λ_ _ _ _ _=>(ay (i:=0) kP rfl (Or.inl rfl))) (λ_ _ _ _ _=>cF) (λ_ _ _ _ _=>(bP (aa (pv 0) af rfl))))) aI)
    (ah (aE (i:=7) gq.nd rfl (Or.inl rfl) (aA cLDue hr (by decide) rfl (aa (pv 6) (aa (pv 3) (aa (pv 4) af rfl) rfl) rfl)))
    (ah (aE (i:=8) gq.nd rfl (Or.inl rfl) (aA cLSaid hr (by decide) rfl (aa (pv 6) (aa (pv 3) (aa (pv 4) (aa (pv 5) af rfl) rfl) rfl) rfl)))
    (aj (bq (PW.pt (uE (PW.pt (c9 (az uK (pv 7) ai (aM _)) (cj (az zT (pv 8) lJ (aM _))))) (pO (PW.pt (c9 (az Bn (pv 7) ai (aM _)) (cj (gw (dG (aA cLAlone hr (by decide) rfl (aa (pv 8) (aa (pv 7) af rfl) rfl)))))))))) nY aI)))))) (λ_=>rfl)))),?_⟩
  intro D k0 p b z m ts R H1 H6 c5 c6 c7 c8 b16 W6 hm4 ez6 nx
  obtain ⟨t_,e1_,e2_⟩:=W6.at'
  let W0:Nat->List V->Hp->Prop:=λi ys H'=>ax H6 H'/\∃us:LAz,ys=us.map (λu =>.ref u.1)/\us.length=i/\∀u∈us,H' u.1=some (.tup (u.2.map V.int))/\∃v:Int,u.2=[v]/\0<=v/\v<m
  refine ⟨_,rfl,b,_,0,_,rfl,rfl,SqT.of e1_,rfl,(m:Int),rfl,by lia,by lia,bL W0 (by refine ⟨ax.refl _,[],rfl,rfl,?_⟩;intro u hu;cases hu) (small (by lia)) ?_ ?_⟩
  ·rintro i ys Hc hi hy ⟨sc,vs,rfl,lv,tv⟩ R1 R0 r1 r0
   refine aS ⟨_,rfl,(by show 1<=Ei;decide),λtn htn=>r1 _ _ ⟨sc.trans (ag htn _),vs++[(tn,[0+(i:Int)])],by rw[Ee];rfl,by rw[D7,ED,lv],λu hu =>?_⟩⟩
   rcases Eh.mp hu with y | y
   ·exact ⟨(ag htn _) _ _ (tv u y).1,(tv u y).2⟩
   ·rw[Ef.mp y]
    exact ⟨ae,_,rfl,by lia,by lia⟩
  rintro ys H6c hy ⟨sc,us0,rfl,lvus0,tvus0⟩ l hl
  have gl:=ag hl (.lst (us0.map λu =>.ref u.1))
  have b17:=b16.same sc
  have nl:l≠p:=kg b17.pot hl
  have I7:Inn p b z l m ts R us0 H1 (upd H6c l (.lst (us0.map λu =>.ref u.1))):=⟨b17.same gl,(W6.same sc).same gl,gl _ _ (sc _ _ ez6),ae,λu hu=>⟨gl _ _ (tvus0 u hu).1,by obtain ⟨v,e,_⟩:=(tvus0 u hu).2;rw[e];show 1<=500;decide⟩,by lia⟩
  generalize upd H6c l (.lst (us0.map λu =>.ref u.1))=H7 at I7
  let W1:Nat->St->Hp->Prop:=λi σ H'=>∃l us c6 c7 c8,σ=[some (.ref a),some (.int k0),some (.ref p),some (.ref b),some (.ref z),some (.ref l),c6,c7,c8]/\l≠p/\(i<=1->us.length<=60)/\Inn p b z l m ts R us H1 H'
  refine ⟨4,rfl,by decide,by decide,dQ W1 ⟨l,us0,_,_,_,rfl,nl,λ_=>by lia,I7⟩ ?_ λσ H' ⟨l,us,c6,c7,c8,e,_,_,I⟩=>nx σ H' ⟨_,_,_,_,_,_,_,_,e⟩ I.bt⟩
  clear I7 nl hl gl b17
  rintro i σ H8 hi ⟨l,us,c6,c7,c8,rfl,nl,h60,I⟩
  obtain rfl | rfl | rfl | rfl:i=0\/i=1\/i=2\/i=3:=by lia
  ·refine ⟨_,rfl,rfl,_,rfl,aF ⟨_,rfl,rfl,_,rfl,aF ?_⟩⟩
   refine ⟨_,rfl,_,rfl,_,rfl,dS.mpr ⟨0,b,z,m,ts,R,rfl,I.W,by lia,I.z,λd HA sA du =>?_⟩⟩
   have IA:=I.same sA
   refine ⟨_,rfl,_,rfl,_,rfl,_,rfl,df.mpr ⟨0,b,z,l,m,ts,us,R,rfl,by decide,by decide,IA.W,by lia,IA.z,IA.l,λu hu=>⟨(IA.t u hu).1,(IA.t u hu).2,λh=>absurd h (by decide)⟩,by have:=IA.n;lia,λdm HB sB =>?_,λea c d2 HB sB ee du2 hc =>?_⟩⟩
   ·obtain rfl:=du.uniq dm
    exact ⟨_,rfl,_,_,rfl,rfl,_,rfl,aS ⟨_,rfl,rfl,_,rfl,aF ⟨_,rfl,_,_,rfl,rfl,_,rfl,aF (aF ⟨l,us,_,_,_,rfl,nl,λ_=>h60 (by decide),IA.same sB⟩)⟩⟩⟩
   ·obtain rfl:=du.uniq du2
    have d3:0<=d:=by rcases hc with ⟨_,h⟩ | ⟨_,h⟩ | ⟨_,h⟩ <;> lia
    refine ⟨_,rfl,_,_,rfl,rfl,_,rfl,?_⟩
    rw[decide_eq_false (show ¬ d<0 by lia)]
    refine aF ⟨_,rfl,_,_,rfl,rfl,_,rfl,?_⟩
    rw[decide_eq_true (show d≥0 from d3)]
    refine aS ⟨_,rfl,_,rfl,cU.mpr ⟨ea,c,d,rfl,ee,hc,λHC sC=>⟨_,rfl,aF ⟨l,us,_,_,_,rfl,nl,λ_=>h60 (by decide),(IA.same sB).same sC⟩⟩⟩⟩
  ·refine ⟨_,rfl,rfl,_,rfl,aS ?_⟩
   have l60:=h60 (by decide)
   refine ⟨_,rfl,_,rfl,(by show 0<=Ei;decide),λx1 hx1=>⟨(by show 1<=Ei;decide),λy1 hy1 =>?_⟩⟩
   have I1:=(I.same (ag hx1 (.tup []))).same (ag hy1 (.lst [.ref x1]))
   have ex1:=(ag hy1 (.lst [.ref x1])) _ _ (ae (H:=H8) (a:=x1) (o :=.tup []))
   refine ⟨l,y1,_,_,rfl,rfl,SqL.of I1.l,SqL.of ae,by rw[DY];have:=I.n;exact gX (by show us.length+1<=5000;lia),λl1 hl1 =>?_⟩
   generalize upd (upd H8 x1 (.tup [])) y1 (.lst [.ref x1])=H9 at I1 ex1 hl1
   have g1:=ag hl1 (.lst ((us.map λu =>.ref u.1)++[.ref x1]))
   have J1:=I1.same g1
   have A1:=J1.to (l':=l1) (us':=us++[(x1,[])]) (by rw[ae,Ee];rfl) (λu hu=>by
    rcases Eh.mp hu with y | y
    ·exact J1.t u y
    ·rw[Ef.mp y];exact ⟨g1 _ _ ex1,EZ _⟩) (by rw[D7,ED];lia)
   have nl1:l1≠p:=kg I1.bt.pot hl1
   generalize upd H9 l1 (.lst ((us.map λu =>.ref u.1)++[.ref x1]))=H10 at g1 J1 A1
   refine ⟨_,rfl,(by show 1<=Ei;decide),λx2 hx2=>⟨(by show 1<=Ei;decide),λy2 hy2 =>?_⟩⟩
   have s2:=(ag hx2 (.tup [.int 0])).trans (ag hy2 (.lst [.ref x2]))
   have J2:=J1.same s2
   have A2:=A1.same s2
   have ex2:=(ag hy2 (.lst [.ref x2])) _ _ (ae (H:=H10) (a:=x2) (o :=.tup [.int 0]))
   refine ⟨l,y2,_,_,rfl,rfl,SqL.of J2.l,SqL.of ae,by rw[DY];exact gX (by show us.length+1<=5000;lia),λl2 hl2 =>?_⟩
   generalize upd (upd H10 x2 (.tup [.int 0])) y2 (.lst [.ref x2])=H11 at J2 A2 ex2 hl2
   have g2:=ag hl2 (.lst ((us.map λu =>.ref u.1)++[.ref x2]))
   have J3:=J2.same g2
   have A3:=A2.same g2
   have B3:=J3.to (l':=l2) (us':=us++[(x2,[0])]) (by rw[ae,Ee];rfl) (λu hu=>by
    rcases Eh.mp hu with y | y
    ·exact J3.t u y
    ·rw[Ef.mp y];exact ⟨g2 _ _ ex2,by show 1<=500;decide⟩) (by rw[D7,ED];lia)
   have nl2:l2≠p:=kg J2.bt.pot hl2
   generalize upd H11 l2 (.lst ((us.map λu =>.ref u.1)++[.ref x2]))=H12 at J3 A3 B3
   refine ⟨_,rfl,1,rfl,l,_,rfl,SqL.of J3.l,λl3 hl3 =>?_⟩
   obtain ⟨us4,e4,m4,n4⟩:=vW (λu:Addr×List Int=>V.ref u.1) us (some 1) none
   rw[e4]
   have g3:=ag hl3 (.lst (us4.map λu =>.ref u.1))
   have J4:=J3.same g3
   have A4:=A3.same g3
   have B4:=B3.same g3
   have C4:=J4.to (l':=l3) (us':=us4) ae (λu hu=>J4.t u (m4 u hu)) (by lia)
   have nl3:l3≠p:=kg J3.bt.pot hl3
   generalize upd H12 l3 (.lst (us4.map λu =>.ref u.1))=H13 at J4 A4 B4 C4
   refine ⟨(by show 4<=Ei;decide),λL4 hL4 =>?_⟩
   have g4:=ag hL4 (.lst [.ref l,.ref l1,.ref l2,.ref l3])
   have J5:=J4.same g4
   have A5:=A4.same g4
   have B5:=B4.same g4
   have C5:=C4.same g4
   have eL:upd H13 L4 (.lst [.ref l,.ref l1,.ref l2,.ref l3]) L4=some (.lst [.ref l,.ref l1,.ref l2,.ref l3]):=ae
   have nL:L4≠p:=kg J4.bt.pot hL4
   generalize upd H13 L4 (.lst [.ref l,.ref l1,.ref l2,.ref l3])=H14 at J5 A5 B5 C5 eL
   refine ⟨_,rfl,aP.mpr ⟨p,4,rfl,J5.bt.pot,by decide,by decide,λd H15 d0 d1 b15 =>?_⟩⟩
   obtain ⟨lx,usx,hlx,nlx,Ix⟩:∃lx usx,atI [V.ref l,V.ref l1,V.ref l2,V.ref l3] d=some (.ref lx)/\lx≠p/\Inn p b z lx m ts R usx H1 H15:=by
    obtain rfl | rfl | rfl | rfl:d=0\/d=1\/d=2\/d=3:=by lia
    ·exact ⟨l,us,rfl,nl,J5.but nl b15⟩
    ·exact ⟨l1,_,rfl,nl1,A5.but nl1 b15⟩
    ·exact ⟨l2,_,rfl,nl2,B5.but nl2 b15⟩
    ·exact ⟨l3,_,rfl,nl3,C5.but nl3 b15⟩
   refine ⟨L4,_,d,_,rfl,rfl,SqL.of (b15.st _ _ nL eL),hlx,_,rfl,rfl,_,rfl,aF ?_⟩
   refine ⟨_,rfl,_,rfl,_,rfl,dS.mpr ⟨1,b,z,m,ts,R,rfl,Ix.W,by lia,Ix.z,λd HA sA du =>?_⟩⟩
   have IA:=Ix.same sA
   refine ⟨_,rfl,_,rfl,_,rfl,_,rfl,df.mpr ⟨1,b,z,lx,m,ts,usx,R,rfl,by decide,by decide,IA.W,by lia,IA.z,IA.l,λu hu=>⟨(IA.t u hu).1,(IA.t u hu).2,λh=>absurd h (by decide)⟩,by have:=IA.n;lia,λdm HB sB =>?_,λea c d2 HB sB ee du2 hc =>?_⟩⟩
   ·obtain rfl:=du.uniq dm
    exact ⟨_,rfl,_,_,rfl,rfl,_,rfl,aS ⟨_,rfl,rfl,_,rfl,aF ⟨_,rfl,_,_,rfl,rfl,_,rfl,aF (aF ⟨lx,usx,_,_,_,rfl,nlx,λh=>absurd h (by decide),IA.same sB⟩)⟩⟩⟩
   ·obtain rfl:=du.uniq du2
    have d3:0<=d:=by rcases hc with ⟨_,h⟩ | ⟨_,h⟩ | ⟨_,h⟩ <;> lia
    refine ⟨_,rfl,_,_,rfl,rfl,_,rfl,?_⟩
    rw[decide_eq_false (show ¬ d<0 by lia)]
    refine aF ⟨_,rfl,_,_,rfl,rfl,_,rfl,?_⟩
    rw[decide_eq_true (show d≥0 from d3)]
    refine aS ⟨_,rfl,_,rfl,cU.mpr ⟨ea,c,d,rfl,ee,hc,λHC sC=>⟨_,rfl,aF ⟨lx,usx,_,_,_,rfl,nlx,λh=>absurd h (by decide),(IA.same sB).same sC⟩⟩⟩⟩
  ·refine ⟨_,rfl,rfl,_,rfl,aF ⟨_,rfl,rfl,_,rfl,aF ?_⟩⟩
   refine ⟨_,rfl,_,rfl,_,rfl,dS.mpr ⟨2,b,z,m,ts,R,rfl,I.W,by lia,I.z,λd HA sA du =>?_⟩⟩
   have IA:=I.same sA
   refine ⟨_,rfl,_,rfl,_,rfl,_,rfl,df.mpr ⟨2,b,z,l,m,ts,us,R,rfl,by decide,by decide,IA.W,by lia,IA.z,IA.l,λu hu=>⟨(IA.t u hu).1,(IA.t u hu).2,λh=>absurd h (by decide)⟩,by have:=IA.n;lia,λdm HB sB =>?_,λea c d2 HB sB ee du2 hc =>?_⟩⟩
   ·obtain rfl:=du.uniq dm
    exact ⟨_,rfl,_,_,rfl,rfl,_,rfl,aS ⟨_,rfl,rfl,_,rfl,aF ⟨_,rfl,_,_,rfl,rfl,_,rfl,aF (aF ⟨l,us,_,_,_,rfl,nl,λh=>absurd h (by decide),IA.same sB⟩)⟩⟩⟩
   ·obtain rfl:=du.uniq du2
    have d3:0<=d:=by rcases hc with ⟨_,h⟩ | ⟨_,h⟩ | ⟨_,h⟩ <;> lia
    refine ⟨_,rfl,_,_,rfl,rfl,_,rfl,?_⟩
    rw[decide_eq_false (show ¬ d<0 by lia)]
    refine aF ⟨_,rfl,_,_,rfl,rfl,_,rfl,?_⟩
    rw[decide_eq_true (show d≥0 from d3)]
    refine aS ⟨_,rfl,_,rfl,cU.mpr ⟨ea,c,d,rfl,ee,hc,λHC sC=>⟨_,rfl,aF ⟨l,us,_,_,_,rfl,nl,λh=>absurd h (by decide),(IA.same sB).same sC⟩⟩⟩⟩
  ·refine ⟨_,rfl,rfl,_,rfl,aF ⟨_,rfl,rfl,_,rfl,aS ?_⟩⟩
   obtain ⟨t_,e1_,e2_⟩:=I.W.at'
   let W2:Nat->List V->Hp->Prop:=λi ys H'=>ax H8 H'/\∃us:LAz,ys=us.map (λu =>.ref u.1)/\us.length=i/\∀u∈us,H' u.1=some (.tup (u.2.map V.int))/\∃v:Int,u.2=[v]/\0<=v/\v<m
   refine ⟨_,rfl,b,_,0,_,rfl,rfl,SqT.of e1_,rfl,(m:Int),rfl,by lia,by lia,bL W2 (by refine ⟨ax.refl _,[],rfl,rfl,?_⟩;intro u hu;cases hu) (small (by lia)) ?_ ?_⟩
   ·rintro i ys Hc hi hy ⟨sc,vs,rfl,lv,tv⟩ R1 R0 r1 r0
    refine aS ⟨_,rfl,(by show 1<=Ei;decide),λtn htn=>r1 _ _ ⟨sc.trans (ag htn _),vs++[(tn,[0+(i:Int)])],by rw[Ee];rfl,by rw[D7,ED,lv],λu hu =>?_⟩⟩
    rcases Eh.mp hu with y | y
    ·exact ⟨(ag htn _) _ _ (tv u y).1,(tv u y).2⟩
    ·rw[Ef.mp y]
     exact ⟨ae,_,rfl,by lia,by lia⟩
   rintro ys H8c hy ⟨sc,us3,rfl,lvus3,tvus3⟩ l3 hl3
   have gl:=ag hl3 (.lst (us3.map λu =>.ref u.1))
   have nl3:l3≠p:=kg (I.same sc).bt.pot hl3
   have I9:Inn p b z l3 m ts R us3 H1 (upd H8c l3 (.lst (us3.map λu =>.ref u.1))):=((I.same sc).same gl).to ae (λu hu=>⟨gl _ _ (tvus3 u hu).1,by obtain ⟨v,e,_⟩:=(tvus3 u hu).2;rw[e];show 1<=500;decide⟩) (by lia)
   generalize upd H8c l3 (.lst (us3.map λu =>.ref u.1))=H9 at I9
   have S3:∀u∈us3,bD m u.2:=λu hu=>by
    obtain ⟨v,e,v0,vm⟩:=(tvus3 u hu).2
    rw[e]
    exact ⟨FC.mpr ⟨by simp,Gu⟩,λx hx=>by rw[Ef.mp hx];exact ⟨v0,vm⟩⟩
   refine ⟨_,rfl,_,rfl,_,rfl,dS.mpr ⟨3,b,z,m,ts,R,rfl,I9.W,by lia,I9.z,λd HA sA du =>?_⟩⟩
   have IA:=I9.same sA
   refine ⟨_,rfl,_,rfl,_,rfl,_,rfl,df.mpr ⟨3,b,z,l3,m,ts,us3,R,rfl,by decide,by decide,IA.W,by lia,IA.z,IA.l,λu hu=>⟨(IA.t u hu).1,(IA.t u hu).2,λ_=>S3 u hu⟩,by have:=IA.n;lia,λdm HB sB =>?_,λea c d2 HB sB ee du2 hc =>?_⟩⟩
   ·obtain rfl:=du.uniq dm
    exact ⟨_,rfl,_,_,rfl,rfl,_,rfl,aS ⟨_,rfl,rfl,_,rfl,aF ⟨_,rfl,_,_,rfl,rfl,_,rfl,aF (aF ⟨l3,us3,_,_,_,rfl,nl3,λh=>absurd h (by decide),IA.same sB⟩)⟩⟩⟩
   ·obtain rfl:=du.uniq du2
    have d3:0<=d:=by rcases hc with ⟨_,h⟩ | ⟨_,h⟩ | ⟨_,h⟩ <;> lia
    refine ⟨_,rfl,_,_,rfl,rfl,_,rfl,?_⟩
    rw[decide_eq_false (show ¬ d<0 by lia)]
    refine aF ⟨_,rfl,_,_,rfl,rfl,_,rfl,?_⟩
    rw[decide_eq_true (show d≥0 from d3)]
    refine aS ⟨_,rfl,_,rfl,cU.mpr ⟨ea,c,d,rfl,ee,hc,λHC sC=>⟨_,rfl,aF ⟨l3,us3,_,_,_,rfl,nl3,λh=>absurd h (by decide),(IA.same sB).same sC⟩⟩⟩⟩
 obtain ⟨tD,pD,gD⟩:=TD
 refine ⟨_,(ah (cf Fl rfl (bu rfl B.b_range (aa (av (jP rfl) rfl B.b_max t9 (aa ai (aa (av (hU rfl) rfl B.b_min mL (aa (av aL rfl B.b_len mK (aa (pv 0) af rfl)) (aa ai af rfl) rfl)) af rfl) rfl)) af rfl)) (ay (i:=1) gq.nd rfl (Or.inl rfl))
   (ah (aE (i:=2) gq.nd rfl (Or.inl rfl) (aA cLDeal hr (by decide) rfl (aa (pv 0) (aa (pv 1) af rfl) rfl)))
   (ah (aE (i:=3) gq.nd rfl (Or.inl rfl) (aA cLBent hr (by decide) rfl (aa (pv 2) (aa (aA cLThrees hr (by decide) rfl (aa (pv 2) (aa (aD aG (bP (aa ai (aa ai (aa ai af rfl) rfl) rfl)) (aA cLPick hr (by decide) rfl (aa (pv 2) (aa ai af rfl) rfl)) (λ_ _=>rfl)) af rfl) rfl)) af rfl) rfl)))
   (ah (aE (i:=4) gq.nd rfl (Or.inl rfl) (aA cLClearing hr (by decide) rfl (aa (pv 2) (aa (pv 3) af rfl) rfl)))
   (ah (bq (az cI (aA cLPick hr (by decide) rfl (aa (pv 2) (aa ai af rfl) rfl)) ai (aM _)) (aj (aE (i:=4) gq.nd rfl (Or.inl rfl) (i9 vg (pv 4) (kX (aA cLPick hr (by decide) rfl (aa (pv 2) (aa ai af rfl) rfl))) kW))) aI)
   pD)))) (λ_=>rfl))
  (aj (aJ kh))),?_⟩
 refine ⟨_,rfl,a,_,rfl,.inl hS,_,_,rfl,_,_,rfl,?_⟩
 obtain ⟨N,hN,N0,N1⟩:∃N:Int,(if (if (5:Int)<((ns.map V.int).length:Int) then (5:Int) else ((ns.map V.int).length:Int))>1 then (if (5:Int)<((ns.map V.int).length:Int) then (5:Int) else ((ns.map V.int).length:Int)) else 1)=N/\0<=N/\N<=63:=⟨_,rfl,by split <;> (try split) <;> lia,by rw[DY];split <;> (try split) <;> lia⟩
 rw[hN]
 refine ⟨N,rfl,by lia,by lia,dQ (λ_ σ H'=>(∃c1 c2 c3 c4 c5 c6 c7 c8,σ=[some (.ref a),c1,c2,c3,c4,c5,c6,c7,c8])/\ax H H') ⟨⟨_,_,_,_,_,_,_,_,rfl⟩,ax.refl _⟩ ?_ (λσ H' _=>q _)⟩
 rintro k σ H0 hk ⟨⟨c1,c2,c3,c4,c5,c6,c7,c8,rfl⟩,s0⟩
 have hk':(k:Int)<63:=by lia
 refine ⟨_,rfl,_,rfl,iR.mpr ⟨a,ns,0+(k:Int),rfl,s0.seq hS,by lia,by lia,λx y p hp =>?_⟩⟩
 have p0:Pot (upd H0 p (.lst [.int x,.int y])) p:=⟨x,y,ae⟩
 have b0:=But.refl p0
 have fr:∀{H':Hp},But p (upd H0 p (.lst [.int x,.int y])) H'->ax H0 H':=λb=>But.fresh hp b
 generalize upd H0 p (.lst [.int x,.int y])=H1 at p0 b0 fr
 refine ⟨_,rfl,_,rfl,(by show 3<=Ei;decide),λc hc =>?_⟩
 have b1:=b0.same (ag hc (.tup [.int 4,.int 8,.int 12]))
 have ec:upd H1 c (.tup [.int 4,.int 8,.int 12]) c=some (.tup [.int 4,.int 8,.int 12]):=ae
 refine ⟨_,rfl,aP.mpr ⟨p,3,rfl,b1.pot,by decide,by decide,λd H2 d0 d1 b2 =>?_⟩⟩
 obtain ⟨v,hv,v0,v1⟩:=at3 d0 d1
 refine ⟨c,_,d,_,rfl,rfl,SqT.of (b2.tup b1.pot ec),hv,fX.mpr ⟨p,v,rfl,b2.pot,v0,v1,λb' hh ts' H3 b3 W3 hm cu =>?_⟩⟩
 have cl:=xC W3.ok cu
 rw[DY] at cl
 refine i3.mpr ⟨p,b',2*hh,ts',rfl,b3.pot,W3,hm,by lia,λb m ts H4 b4 W4 hm4 =>?_⟩
 refine ⟨_,rfl,_,rfl,ef.mpr ⟨p,b,m,ts,rfl,b4.pot,W4,by lia,λz R H5 b5 ez SR wd =>?_⟩⟩
 have W5:=b5.wb b4.pot W4
 have b15:=(((b1.trans b2).trans b3).trans b4).trans b5
 clear b1 b2 b3 b4 wd
 refine ⟨_,rfl,aP.mpr ⟨p,3,rfl,b15.pot,by decide,by decide,λd H6 d0 d1 b6=>⟨rfl,_,rfl,?_⟩⟩⟩
 have W6:=b6.wb b15.pot W5
 have ez6:=b6.tup b15.pot ez
 have b16:=b15.trans b6
 refine dy (λc0 =>?_) (λc0=>gD _ _ p b z m ts R H1 H6 _ _ _ _ b16 W6 hm4 ez6 λσ' H' e b=>⟨e,s0.trans (fr b)⟩)
 refine ⟨_,rfl,_,rfl,aP.mpr ⟨p,3,rfl,b16.pot,by decide,by decide,λd2 H7 d20 d21 b7 =>?_⟩⟩
 have b17:=b16.trans b7
 have W7:=b7.wb b16.pot W6
 have ez7:=b7.tup b16.pot ez6
 refine ⟨d2,rfl,z,_,rfl,SqT.of ez7,λ_=>gD _ _ p b z m ts R H1 H7 _ _ _ _ b17 W7 hm4 ez7 λσ' H' e b=>⟨e,s0.trans (fr b)⟩,λ_ z2 hz2 =>?_⟩
 obtain ⟨R2,e2,_⟩:=vW V.int R (some d2) none
 rw[e2]
 have g2:=ag hz2 (.tup (R2.map V.int))
 exact gD _ _ p b z2 m ts R2 H1 _ _ _ _ _ (b17.same g2) (W7.same g2) hm4 ae λσ' H' e b=>⟨e,s0.trans (fr b)⟩
end
theorem all_mk {l:PySem.W.OpenLaw}{w:ES}{K:D2}{h:Heap}{mg:Str->Option D1}{fa:Addr}(X:K.In h)(G:h.Ns EJ mg)(hfa:mg "law" = some (.ref fa))
  (h1:bG K "ties_at" vn) (h2:bG K "near_lists" my) (h3:bG K "ties_within" kF) (h4:bG K "is_rising" jX) (h5:bG K "is_set_of" mz) (h6:bG K "cut_web" vo) (h7:bG K "reached_from" js) (h8:bG K "hanging_parts" iB) (h9:bG K "spare_ties" mB) (h10:bG K "clears_web" iK) (h11:bG K "all_sets" mC) (h12:bG K "look_three" iL) (h13:bG K "look_clear" iM) (h14:bG K "parts_among" kG) (h15:bG K "is_parting" iN) (h16:bG K "worth_of" mD) (h17:bG K "parting_twice" eN) (h18:bG K "three_counts" fQ) (h19:bG K "ends_out" mE) (h20:bG K "part_row" mF) (h21:bG K "parting_rows" fR) (h22:bG K "fewest_places" eO) (h23:bG K "best_parts" fS) (h24:bG K "best_parting" cq) (h25:bG K "three_cut" jY) (h26:bG K "_law_deal" yT) (h27:bG K "_law_pick" yU) (h28:bG K "_law_threes" rJ) (h29:bG K "_law_joined" rK) (h30:bG K "_law_trees" vp) (h31:bG K "_law_within" mG) (h32:bG K "_law_clears" mH) (h33:bG K "_law_clearing" mI) (h34:bG K "_law_alone" qg) (h35:bG K "_law_bent" mJ) (h36:bG K "_law_all_three" iO) (h37:bG K "_law_due" yV) (h38:bG K "_law_ask" yW) (h39:bG K "_law_said" tZ) (h40:bG K "law" rL)
  (y_all:E7 K EJ "all" = some none) (y_any:E7 K EJ "any" = some none) (y_isinstance:E7 K EJ "isinstance" = some none) (y_len:E7 K EJ "len" = some none) (y_list:E7 K EJ "list" = some none) (y_max:E7 K EJ "max" = some none) (y_min:E7 K EJ "min" = some none) (y_range:E7 K EJ "range" = some none) (y_set:E7 K EJ "set" = some none) (y_sorted:E7 K EJ "sorted" = some none) (y_sum:E7 K EJ "sum" = some none) (y_tuple:E7 K EJ "tuple" = some none) (y_zip:E7 K EJ "zip" = some none) (y_ValueError:E7 K EJ "ValueError" = some none)
  {t_MOST_THREES:Nat} (q_MOST_THREES:E7 K EJ "MOST_THREES" = some (some (.int 8 t_MOST_THREES)))
  {čc:Addr} (e_WebError:E7 K EJ "WebError" = some (some (.ref čc)))
  {čk:Addr} (e_BadWeb:E7 K EJ "BadWeb" = some (some (.ref čk)))
  {čh:Addr} (e_NoStep:E7 K EJ "NoStep" = some (some (.ref čh)))
  {či:Addr} (e_NoText:E7 K EJ "NoText" = some (some (.ref či)))
  {čf:Addr} (e_TooMany:E7 K EJ "TooMany" = some (some (.ref čf)))
  {čm:Addr} (e_NoTie:E7 K EJ "NoTie" = some (some (.ref čm)))
  {čg:Addr} (e_NoRing:E7 K EJ "NoRing" = some (some (.ref čg)))
  {čd:Addr} (e_NotClear:E7 K EJ "NotClear" = some (some (.ref čd)))
  {če:Addr} (e_NotThree:E7 K EJ "NotThree" = some (some (.ref če)))
  {čb:Addr} (e_BadBoard:E7 K EJ "BadBoard" = some (some (.ref čb)))
  {čl:Addr} (e_NoRow:E7 K EJ "NoRow" = some (some (.ref čl)))
  {čj:Addr} (e_NoBack:E7 K EJ "NoBack" = some (some (.ref čj)))
  (h_ex:PySem.W.excIn K če mv "ValueError.__new__" = true)
  (h_ga:PySem.W.findIn K (.ref če) "__getattribute__" = some (some (.builtin "BaseException.__getattribute__")))
  (h_gt:PySem.W.findIn K (.ref če) "__getattr__" = some none)
  (h_cl:PySem.W.findIn K (.ref če) "__class__" = some (some (.builtin "object.__class__")))
  (h_mo:PySem.W.subIn K (.ref če) (.type "object")=some true)
  (h_sb:PySem.W.subIn K (.ref če) (.type "BaseException")=some true)
  (h_it:(PySem.W.clsIn K če).isSome=true)
  (h_m:PySem.W.exmOne K (.ref če) (.ref čc)=some true)
  (h_v:PySem.W.kitOne K (.ref če) (.type "ValueError")=some true)
  (h_w:PySem.W.kitOne K (.ref če) (.ref čc)=some true)
  (h_o:[čk,čh,či,čf,čm,čg,čd,če,čb,čl,čj].map (λa=>PySem.W.kitOne K (.ref če) (.ref a))=[some false,some false,some false,some false,some false,some false,some false,some true,some false,some false,some false])
  (t_ex:PySem.W.excIn K čf mv "ValueError.__new__" = true)
  (t_ga:PySem.W.findIn K (.ref čf) "__getattribute__" = some (some (.builtin "BaseException.__getattribute__")))
  (t_gt:PySem.W.findIn K (.ref čf) "__getattr__" = some none)
  (t_cl:PySem.W.findIn K (.ref čf) "__class__" = some (some (.builtin "object.__class__")))
  (t_mo:PySem.W.subIn K (.ref čf) (.type "object")=some true)
  (t_sb:PySem.W.subIn K (.ref čf) (.type "BaseException")=some true)
  (t_it:(PySem.W.clsIn K čf).isSome=true)
  (t_m:PySem.W.exmOne K (.ref čf) (.ref čc)=some true)
  (t_v:PySem.W.kitOne K (.ref čf) (.type "ValueError")=some true)
  (t_w:PySem.W.kitOne K (.ref čf) (.ref čc)=some true)
  (t_o:[čk,čh,či,čf,čm,čg,čd,če,čb,čl,čj].map (λa=>PySem.W.kitOne K (.ref čf) (.ref a))=[some false,some false,some false,some true,some false,some false,some false,some false,some false,some false,some false])
  (n_ex:PySem.W.excIn K čd mv "ValueError.__new__" = true)
  (n_ga:PySem.W.findIn K (.ref čd) "__getattribute__" = some (some (.builtin "BaseException.__getattribute__")))
  (n_gt:PySem.W.findIn K (.ref čd) "__getattr__" = some none)
  (n_cl:PySem.W.findIn K (.ref čd) "__class__" = some (some (.builtin "object.__class__")))
  (n_mo:PySem.W.subIn K (.ref čd) (.type "object")=some true)
  (n_sb:PySem.W.subIn K (.ref čd) (.type "BaseException")=some true)
  (n_it:(PySem.W.clsIn K čd).isSome=true)
  (n_m:PySem.W.exmOne K (.ref čd) (.ref čc)=some true)
  (n_v:PySem.W.kitOne K (.ref čd) (.type "ValueError")=some true)
  (n_w:PySem.W.kitOne K (.ref čd) (.ref čc)=some true)
  (n_o:[čk,čh,či,čf,čm,čg,čd,če,čb,čl,čj].map (λa=>PySem.W.kitOne K (.ref čd) (.ref a))=[some false,some false,some false,some false,some false,some false,some true,some false,some false,some false,some false])
  : ∃fd:Fb,(∀(s:D5) (v:D1),BindsTo s fd ⟨[v],[]⟩ [("script",v)])/\∀base:Heap,K.In base->base.Ns EJ mg->bB l.prog w K mg base CX0 9 fa fd ["script"] (sM K):=by
 obtain ⟨fl,od,an,sl,oc,kV,dc,pm,cd,ct,al,ll,cl,kl⟩:=h40
 have e:=hfa.symm.trans (FT X G al)
 cases e
 have F40:=sV ll cl kl
 have z_all:=Fp X G y_all
 have z_any:=Fp X G y_any
 have z_isinstance:=Fp X G y_isinstance
 have z_len:=Fp X G y_len
 have z_list:=Fp X G y_list
 have z_max:=Fp X G y_max
 have z_min:=Fp X G y_min
 have z_range:=Fp X G y_range
 have z_set:=Fp X G y_set
 have z_sorted:=Fp X G y_sorted
 have z_sum:=Fp X G y_sum
 have z_tuple:=Fp X G y_tuple
 have z_zip:=Fp X G y_zip
 have z_ValueError:=Fp X G y_ValueError
 have w_MOST_THREES:=FT X G q_MOST_THREES
 refine ⟨PySem.W.fnOf "law" "law" (dI rL) (bK rL) (ao rL) .none kV dc pm an cd ct,λs v =>.of_eq rfl,λbase kb nb =>?_⟩
 have B:Blt mg:=⟨z_all,z_any,z_isinstance,z_len,z_list,z_max,z_min,z_range,z_set,z_sorted,z_sum,z_tuple,z_zip,z_ValueError⟩
 have C:Cst mg:=⟨⟨_,w_MOST_THREES⟩⟩
 have x_WebError:=FT X G e_WebError
 have x_BadWeb:=FT X G e_BadWeb
 have x_NoStep:=FT X G e_NoStep
 have x_NoText:=FT X G e_NoText
 have x_TooMany:=FT X G e_TooMany
 have x_NoTie:=FT X G e_NoTie
 have x_NoRing:=FT X G e_NoRing
 have x_NotClear:=FT X G e_NotClear
 have x_NotThree:=FT X G e_NotThree
 have x_BadBoard:=FT X G e_BadBoard
 have x_NoRow:=FT X G e_NoRow
 have x_NoBack:=FT X G e_NoBack
 have Z:Exs K mg čc čk čh či čf čm čg čd če čb čl čj:=⟨x_WebError,x_BadWeb,x_NoStep,x_NoText,x_TooMany,x_NoTie,x_NoRing,x_NotClear,x_NotThree,x_BadBoard,x_NoRow,x_NoBack,h_ex,⟨h_ga,h_gt,h_cl,h_mo,h_sb,h_it⟩,h_m,h_v,h_w,h_o,t_ex,⟨t_ga,t_gt,t_cl,t_mo,t_sb,t_it⟩,t_m,t_v,t_w,t_o,n_ex,⟨n_ga,n_gt,n_cl,n_mo,n_sb,n_it⟩,n_m,n_v,n_w,n_o⟩
 have cLDeal:=h26.cal l.prog w base X G (λF=>CM F z_len) λ_ _ _ _ _ _ us hl=>match us,hl with | [_,_],_=>rfl
 have cLPick:=h27.cal l.prog w base X G (λF=>CN F) λ_ _ _ _ _ _ us hl=>match us,hl with | [_,_],_=>rfl
 have cLBent:=h35.cal l.prog w base X G (λF=>Bk F B cLPick C) λ_ _ _ _ _ _ us hl=>match us,hl with | [_,_],_=>rfl
 have cLJoined:=h29.cal l.prog w base X G (λF=>zx F B z_min) λ_ _ _ _ _ _ us hl=>match us,hl with | [_,_,_],_=>rfl
 have cLTrees:=h30.cal l.prog w base X G (λF=>Bc F B z_set cLJoined) λ_ _ _ _ _ _ us hl=>match us,hl with | [_,_],_=>rfl
 have cLWithin:=h31.cal l.prog w base X G (λF=>w9 F B) λ_ _ _ _ _ _ us hl=>match us,hl with | [_,_],_=>rfl
 have cLClears:=h32.cal l.prog w base X G (λF=>xu F B cLTrees cLWithin) λ_ _ _ _ _ _ us hl=>match us,hl with | [_,_],_=>rfl
 have cLClearing:=h33.cal l.prog w base X G (λF=>uo F B cLPick cLClears) λ_ _ _ _ _ _ us hl=>match us,hl with | [_,_],_=>rfl
 have cLThrees:=h28.cal l.prog w base X G (λF=>zu F B z_sorted z_max z_min cLPick) λ_ _ _ _ _ _ us hl=>match us,hl with | [_,_],_=>rfl
 have cLAllThree:=h36.cal l.prog w base X G (λF=>sJ F B C) λ_ _ _ _ _ _ us hl=>match us,hl with | [_],_=>rfl
 have cLDue:=h37.cal l.prog w base X G (λF=>CW F B cLAllThree cLClears C) λ_ _ _ _ _ _ us hl=>match us,hl with | [_,_,_],_=>rfl
 have cTiesAt:=h1.cal l.prog w base X G (λF=>okAt F z_sum) λ_ _ _ _ _ _ us hl=>match us,hl with | [_,_],_=>rfl
 have xLookT:=h12.tY l.prog w base X G (λF=>su F B Z cTiesAt C) λ_ _ _ _ _ _ us hl=>match us,hl with | [_],_=>rfl
 have cAllSets:=h11.cal l.prog w base X G (λF=>xA F B C) λ_ _ _ _ _ _ us hl=>match us,hl with | [_],_=>rfl
 have cNearLists:=h2.cal l.prog w base X G (λF=>AY F z_range z_set z_sorted) λ_ _ _ _ _ _ us hl=>match us,hl with | [_],_=>rfl
 have cReachedFrom:=h7.cal l.prog w base X G (λF=>AZ F z_sorted) λ_ _ _ _ _ _ us hl=>match us,hl with | [_,_],_=>rfl
 have cHangingParts:=h8.cal l.prog w base X G (λF=>CK F B cNearLists cReachedFrom) λ_ _ _ _ _ _ us hl=>match us,hl with | [_],_=>rfl
 have cSpareTies:=h9.cal l.prog w base X G (λF=>A6 F B cHangingParts) λ_ _ _ _ _ _ us hl=>match us,hl with | [_],_=>rfl
 have cCutWeb:=h6.cal l.prog w base X G (λF=>DS F B) λ_ _ _ _ _ _ us hl=>match us,hl with | [_,_],_=>rfl
 have cClearsWeb:=h10.cal l.prog w base X G (λF=>sj F B cSpareTies cCutWeb C) λ_ _ _ _ _ _ us hl=>match us,hl with | [_,_],_=>rfl
 have cFewestPlaces:=h22.cal l.prog w base X G (λF=>nB F B cAllSets cClearsWeb C) λ_ _ _ _ _ _ us hl=>match us,hl with | [_],_=>rfl
 have cPartsAmong:=h14.cal l.prog w base X G (λF=>Bd F B cCutWeb cHangingParts) λ_ _ _ _ _ _ us hl=>match us,hl with | [_,_],_=>rfl
 have cTiesWithin:=h3.cal l.prog w base X G (λF=>y9 F B) λ_ _ _ _ _ _ us hl=>match us,hl with | [_,_],_=>rfl
 have cWorthOf:=h16.cal l.prog w base X G (λF=>xx F B cTiesWithin C) λ_ _ _ _ _ _ us hl=>match us,hl with | [_,_],_=>rfl
 have cBestParts:=h23.cal l.prog w base X G (λF=>sF F B C) λ_ _ _ _ _ _ us hl=>match us,hl with | [_,_,_],_=>rfl
 have cBestParting:=h24.cal l.prog w base X G (λF=>nV F B cAllSets cPartsAmong cWorthOf cBestParts C) λ_ _ _ _ _ _ us hl=>match us,hl with | [_],_=>rfl
 have xThree:=h25.tY l.prog w base X G (λF=>uD F B Z xLookT cFewestPlaces cBestParting C) λ_ _ _ _ _ _ us hl=>match us,hl with | [_],_=>rfl
 have cIsRising:=h4.cal l.prog w base X G (λF=>uz F B C) λ_ _ _ _ _ _ us hl=>match us,hl with | [_],_=>rfl
 have cIsSetOf:=h5.cal l.prog w base X G (λF=>xw F B cIsRising C) λ_ _ _ _ _ _ us hl=>match us,hl with | [_,_],_=>rfl
 have cIsParting:=h15.cal l.prog w base X G (λF=>sf F B cIsSetOf cPartsAmong C) λ_ _ _ _ _ _ us hl=>match us,hl with | [_,_],_=>rfl
 have xTwice:=h17.tY l.prog w base X G (λF=>nq F B Z xLookT cIsParting cWorthOf C) λ_ _ _ _ _ _ us hl=>match us,hl with | [_,_],_=>rfl
 have xLookC:=h13.tY l.prog w base X G (λF=>sD F B Z cClearsWeb C) λ_ _ _ _ _ _ us hl=>match us,hl with | [_,_],_=>rfl
 have xCounts:=h18.tY l.prog w base X G (λF=>nQ F B Z xLookT xLookC cPartsAmong cTiesWithin C) λ_ _ _ _ _ _ us hl=>match us,hl with | [_,_],_=>rfl
 have cEndsOut:=h19.cal l.prog w base X G (λF=>CO F B) λ_ _ _ _ _ _ us hl=>match us,hl with | [_,_,_],_=>rfl
 have cPartRow:=h20.cal l.prog w base X G (λF=>CP F B cPartsAmong cTiesWithin cEndsOut) λ_ _ _ _ _ _ us hl=>match us,hl with | [_,_,_],_=>rfl
 have xRows:=h21.tY l.prog w base X G (λF=>nU F B Z xLookT xLookC cPartRow C) λ_ _ _ _ _ _ us hl=>match us,hl with | [_,_,_],_=>rfl
 have xAsk:=h38.tY l.prog w base X G (λF=>CZ F B Z xThree xTwice xCounts xRows C) λ_ _ _ _ _ _ us hl=>match us,hl with | [_,_,_,_],_=>rfl
 have cLSaid:=h39.cal l.prog w base X G (λF=>Bl F B Z xAsk C) λ_ _ _ _ _ _ us hl=>match us,hl with | [_,_,_,_],_=>rfl
 have cLAlone:=h34.cal l.prog w base X G (λF=>zO F B Z C) λ_ _ _ _ _ _ us hl=>match us,hl with | [_,_],_=>rfl
 exact DW F40 B cLDeal cLBent cLClearing cLThrees cLPick cLDue cLSaid cLAlone C
theorem walk {l:PySem.W.OpenLaw}{q:Eo}{loose:List Str}{XP:(Str->Option D1)->Heap->Prop}{YP:ES->Heap->Prop}{d:DefRec}{K:Params->D2}(hn:l.most=some 63)(hdf:d.params.defaults=[])
  (hY:∀(w:ES) (h:Heap),YP w h->(K w.params).In h)
  (F:∀(w:ES) (mg:Str->Option D1) (fa:Addr) (h:Heap),(K w.params).In h->h.Ns EJ mg->mg d.name=some (.ref fa) →
   ∃fd:Fb,(∀(s:D5) (u:D1),BindsTo s fd ⟨[u],[]⟩ [("script",u)])/\∀base:Heap,(K w.params).In base->base.Ns EJ mg->bB l.prog w (K w.params) mg base CX0 9 fa fd ["script"] (sM (K w.params))) :
  PySem.W.WalkO q loose XP YP l.row.toRowW d [] (λf vs=>PySem.call f vs) :=
 L2.z9 (n:=63) (k:=9) (x := "script") (CX:=λ_=>CX0) (sp:=λw=>sM (K w.params)) hn (by decide) hdf ⟨rfl,by decide,by decide⟩ hY F (λ_ _ a ns hl _ hS=>⟨a,ns,rfl,hS,hl,λ_=>rfl⟩) λ_ _ _ _ _ z=>z
end K43
def PySem.W.Fast.tw5204132920410385934:Nat:=0
def PySem.W.Fast.tw16676944966077573288:Nat:=0
def PySem.W.Fast.tw6440555835121221015:Nat:=0
def PySem.W.Fast.tw5275127696436361431:Nat:=0
def PySem.W.Fast.tw4133418212361506682:Nat:=0
def PySem.W.Fast.tw3984871821077079324:Nat:=0
def PySem.W.Fast.tw14083901485199433654:Nat:=0
def PySem.W.Fast.tw16979410861375011859:Nat:=0
def PySem.W.Fast.tw6637711819483821925:Nat:=0
def PySem.W.Fast.tw16472142582808195323:Nat:=0
def PySem.W.Fast.tw15002850941549390776:Nat:=0
def PySem.W.Fast.tw1190450187165492684:Nat:=0
def PySem.W.Fast.tw78936783439818491:Nat:=0
def PySem.W.Fast.tw8085413546008918152:Nat:=0
def PySem.W.Fast.tw7835149060623311569:Nat:=0
def PySem.W.Fast.tw16951561385696591552:Nat:=0
def PySem.W.Fast.tw15953677420667670838:Nat:=0
def PySem.W.Fast.tw8543460399801110169:Nat:=0
def PySem.W.Fast.tw14566121780407755660:Nat:=0
def PySem.W.Fast.tw18404196412052594133:Nat:=0
def PySem.W.Fast.tw7589016812883285019:Nat:=0
def PySem.W.Fast.tw3659743022308632316:Nat:=0
def PySem.W.Fast.tw13517918627143574016:Nat:=0
def PySem.W.Fast.tw3979638568728469477:Nat:=0
def PySem.W.Fast.tw15374316332208807481:Nat:=0
def PySem.W.Fast.tw14889473014038795580:Nat:=0
def PySem.W.Fast.tw2362657941325574197:Nat:=0
def PySem.W.Fast.tw8079705789202796679:Nat:=0
def PySem.W.Fast.tw8236201265979086194:Nat:=0
def PySem.W.Fast.tw5234348950697097055:Nat:=0
def PySem.W.Fast.tw8273529961390367207:Nat:=0
def PySem.W.Fast.tw2144203534441459502:Nat:=0
def PySem.W.Fast.tw3814708091584005431:Nat:=0
def PySem.W.Fast.tw14316711134280090949:Nat:=0
def PySem.W.Fast.tw15605411490665008339:Nat:=0
def PySem.W.Fast.tw9126936904364402335:Nat:=0
def PySem.W.Fast.tw1810518297425953406:Nat:=0
def PySem.W.Fast.tw16040847080756840689:Nat:=0
def PySem.W.Fast.tw9576463085282907799:Nat:=0
def PySem.W.Fast.tw10662249477842708141:Nat:=0
def PySem.W.Fast.tw5564474676679352335:Nat:=0
def PySem.W.Fast.tw11605483224650144871:Nat:=0
def PySem.W.Fast.tw17033576833289637557:Nat:=0
def PySem.W.Fast.tw1870209661216781533:Nat:=0
def PySem.W.Fast.tw13445476477871864257:Nat:=0
def PySem.W.Fast.tw17870622258497613264:Nat:=0
def PySem.W.Fast.tw8397386990099080530:Nat:=0
def PySem.W.Fast.tw10613952418291351591:Nat:=0
def PySem.W.Fast.tw10297497687544687710:Nat:=0
def PySem.W.Fast.tw8363716235789225892:Nat:=0
def PySem.W.Fast.tw10574651397653577881:Nat:=0
def PySem.W.Fast.tw7908207684326413349:Nat:=0
def PySem.W.Fast.tw10372330720895747682:Nat:=0
def PySem.W.Fast.tw16466132932270311463:Nat:=0
def PySem.W.Fast.tw1378380758074401787:Nat:=0
def PySem.W.Fast.tw8616881963371619626:Nat:=0
def PySem.W.Fast.tw9445570321107152452:Nat:=0
def PySem.W.Fast.tw15078404938580057634:Nat:=0
def PySem.W.Fast.tw9618219267294970026:Nat:=0
def PySem.W.Fast.tw8839188024707636133:Nat:=0
def PySem.W.Fast.tw5167498372109703249:Nat:=0
def PySem.W.Fast.tw8687011135670039615:Nat:=0
def PySem.W.Fast.tw2871583013167116387:Nat:=0
def PySem.W.Fast.tw202213378753822767:Nat:=0
def PySem.W.Fast.tw3119094862113551183:Nat:=0
def PySem.W.Fast.tw7374989366703436879:Nat:=0
def PySem.W.Fast.tw15257927203353840198:Nat:=0
def PySem.W.Fast.tw1619976490908197773:Nat:=0
def PySem.W.Fast.tw8364332688472569184:Nat:=0
def PySem.W.Fast.tw12361387598939852720:Nat:=0
def PySem.W.Fast.tw17637973375788191839:Nat:=0
def PySem.W.Fast.tw15496833598254272081:Nat:=0
def PySem.W.Fast.tw8580915118796758289:Nat:=0
def PySem.W.Fast.tw4475227845670373426:Nat:=0
def PySem.W.Fast.tw9189804480638765227:Nat:=0
def PySem.W.Fast.tw15894588799558100898:Nat:=0
def PySem.W.Fast.tw10064434891683039293:Nat:=0
def PySem.W.Fast.tw10434329087661569726:Nat:=0
def PySem.W.Fast.tw8468356828738197777:Nat:=0
def PySem.W.Fast.tw17753364566774533385:Nat:=0
def PySem.W.Fast.tw6922226443259451167:Nat:=0
def PySem.W.Fast.tw17553241684156100935:Nat:=0
def PySem.W.Fast.tw11327235768625207449:Nat:=0
def PySem.W.Fast.tw4040762267459302813:Nat:=0
def PySem.W.Fast.tw4487977515994847687:Nat:=0
def PySem.W.Fast.tw3656500748232039746:Nat:=0
def PySem.W.Fast.tw7458931377423372033:Nat:=0
def PySem.W.Fast.tw11348517467618124224:Nat:=0
def PySem.W.Fast.tw11821020279233796022:Nat:=0
def PySem.W.Fast.tw7784621620700099874:Nat:=0
def PySem.W.Fast.tw17062149829514235648:Nat:=0
def PySem.W.Fast.tw3639366964422097547:Nat:=0
def PySem.W.Fast.tw2184948256937784640:Nat:=0
def PySem.W.Fast.tw843476294188950855:Nat:=0
def PySem.W.Fast.tw17433161002068925703:Nat:=0
def PySem.W.Fast.tw4589994923520846207:Nat:=0
def PySem.W.Fast.tw98575619228720817:Nat:=0
def PySem.W.Fast.tw3939377062242997758:Nat:=0
def PySem.W.Fast.tw17901681334289925877:Nat:=0
def PySem.W.Fast.tw4832620343823503614:Nat:=0
def PySem.W.Fast.tw4566502071409024687:Nat:=0
def PySem.W.Fast.tw8389598762592670926:Nat:=0
def PySem.W.Fast.tw7840240537174590785:Nat:=0
def PySem.W.Fast.tw8986020596279488505:Nat:=0
def PySem.W.Fast.tw14808584638320155836:Nat:=0
def PySem.W.Fast.tw16908984828598285414:Nat:=0
def PySem.W.Fast.tw10494463477894402296:Nat:=0
def PySem.W.Fast.tw9295615956679710806:Nat:=0
def PySem.W.Fast.tw16118822501247002098:Nat:=0
def PySem.W.Fast.tw12936704183759198385:Nat:=0
def PySem.W.Fast.tw2499416708352909207:Nat:=0
def PySem.W.Fast.tw10119983246218278550:Nat:=0
def PySem.W.Fast.tw131940030994677648:Nat:=0
def PySem.W.Fast.tw6108597732483324373:Nat:=0
def PySem.W.Fast.tw16545454935431740493:Nat:=0
def PySem.W.Fast.tw1277480310953795049:Nat:=0
def PySem.W.Fast.tw10348059154583325556:Nat:=0
def PySem.W.Fast.tw8825722706445165063:Nat:=0
def PySem.W.Fast.tw14530872630780424708:Nat:=0
def PySem.W.Fast.tw9789796830850447946:Nat:=0
def PySem.W.Fast.tw9727483046512999946:Nat:=0
def PySem.W.Fast.tw14788633710906384525:Nat:=0
def PySem.W.Fast.tw14305649023269900896:Nat:=0
def PySem.W.Fast.tw2667536513082835126:Nat:=0
def PySem.W.Fast.tw12664977614041143909:Nat:=0
def PySem.W.Fast.tw4024572732542129245:Nat:=0
def PySem.W.Fast.tw2746895006703094652:Nat:=0
def PySem.W.Fast.tw5972262193971837437:Nat:=0
def PySem.W.Fast.tw5317059412155666256:Nat:=0
def PySem.W.Fast.tw2371857598808469378:Nat:=0
def PySem.W.Fast.tw15157941996283778719:Nat:=0
def PySem.W.Fast.tw4994036783330114085:Nat:=0
def PySem.W.Fast.tw11455211138793414318:Nat:=0
def PySem.W.Fast.tw5173189914205743424:Nat:=0
def PySem.W.Fast.tw13108367960447665456:Nat:=0
def PySem.W.Fast.tw11331939868526006424:Nat:=0
def PySem.W.Fast.tw17254904925254523203:Nat:=0
def PySem.W.Fast.tw9573000753469035554:Nat:=0
def PySem.W.Fast.tw15277576662951150919:Nat:=0
def PySem.W.Fast.tw11723971186887708624:Nat:=0
def PySem.W.Fast.tw116773966498475035:Nat:=0
def PySem.W.Fast.tw13241831538283794018:Nat:=0
def PySem.W.Fast.tw161020781365834924:Nat:=0
def PySem.W.Fast.tw6056218392691531445:Nat:=0
def PySem.W.Fast.tw16791777870309698609:Nat:=0
def PySem.W.Fast.tw14265357933291186817:Nat:=0
def PySem.W.Fast.tw13318199733952146343:Nat:=0
def PySem.W.Fast.tw9990446193234163734:Nat:=0
def PySem.W.Fast.tw11086070919529710102:Nat:=0
def PySem.W.Fast.tw4354175075164571267:Nat:=0
def PySem.W.Fast.tw14001819284083938704:Nat:=0
def PySem.W.Fast.tw12825058649291704184:Nat:=0
def PySem.W.Fast.tw3882087902490119064:Nat:=0
def PySem.W.Fast.tw14163980223838678235:Nat:=0
def PySem.W.Fast.tw9244791377036344517:Nat:=0
def PySem.W.Fast.tw11340781705048918755:Nat:=0
def PySem.W.Fast.tw12748423521212234504:Nat:=0
def PySem.W.Fast.tw12590273853991010303:Nat:=0
def PySem.W.Fast.tw7450054479922670472:Nat:=0
def PySem.W.Fast.tw10197475516280779934:Nat:=0
def PySem.W.Fast.tw8202930014515840433:Nat:=0
def PySem.W.Fast.tw719961418788910405:Nat:=0
def PySem.W.Fast.tw17547958813731424326:Nat:=0
def PySem.W.Fast.tw3662037551361596492:Nat:=0
def PySem.W.Fast.tw7089640025092070393:Nat:=0
def PySem.W.Fast.tw1575605571245909695:Nat:=0
def PySem.W.Fast.tw13843602635478327130:Nat:=0
def PySem.W.Fast.tw1113085938877503261:Nat:=0
def PySem.W.Fast.tw12295216632219477403:Nat:=0
def PySem.W.Fast.tw8799468532846565863:Nat:=0
def PySem.W.Fast.tw18206577215981005977:Nat:=0
def PySem.W.Fast.tw3098583838723077349:Nat:=0
def PySem.W.Fast.tw16321650951035089295:Nat:=0
def PySem.W.Fast.tw3582595592199185463:Nat:=0
def PySem.W.Fast.tw12731862113861553218:Nat:=0
def PySem.W.Fast.tw21262031183716828:Nat:=0
def PySem.W.Fast.tw9706301838699847303:Nat:=0
def PySem.W.Fast.tw15978935159849145643:Nat:=0
def PySem.W.Fast.tw1480674182015652903:Nat:=0
def PySem.W.Fast.tw2455788241411886004:Nat:=0
def PySem.W.Fast.tw13775834521722320405:Nat:=0
def PySem.W.Fast.tw4946884069954924439:Nat:=0
def PySem.W.Fast.tw371032707247885871:Nat:=0
def PySem.W.Fast.tw7337683949767034814:Nat:=0
def PySem.W.Fast.tw10661717352258270750:Nat:=0
def PySem.W.Fast.tw12089303165076594078:Nat:=0
def PySem.W.Fast.tw7275098797971733377:Nat:=0
def PySem.W.Fast.tw3216509029506223155:Nat:=0
def PySem.W.Fast.tw9871458918608487698:Nat:=0
def PySem.W.Fast.tw955837978517324065:Nat:=0
def PySem.W.Fast.tw5881986739989100639:Nat:=0
def PySem.W.Fast.tw18222582597043806188:Nat:=0
def PySem.W.Fast.tw1752245687168267073:Nat:=0
def PySem.W.Fast.tw12086820673086064472:Nat:=0
def PySem.W.Fast.tw13995931498645346009:Nat:=0
def PySem.W.Fast.tw4465462747998514762:Nat:=0
def PySem.W.Fast.tw15879071812047803695:Nat:=0
def PySem.W.Fast.tw17354214826378016078:Nat:=0
def PySem.W.Fast.tw11566645648294912278:Nat:=0
def PySem.W.Fast.tw6400748527780390424:Nat:=0
def PySem.W.Fast.tw4088539487164817550:Nat:=0
def PySem.W.Fast.tw15572091881474891214:Nat:=0
def PySem.W.Fast.tw7372159395657301051:Nat:=0
def PySem.W.Fast.tw13714064438348783044:Nat:=0
def PySem.W.Fast.tw11486617017551230985:Nat:=0
def PySem.W.Fast.tw14582953565532515128:Nat:=0
def PySem.W.Fast.tw5520808122155850438:Nat:=0
def PySem.W.Fast.tw3683760838083474125:Nat:=0
def PySem.W.Fast.tw2213134254756482021:Nat:=0
def PySem.W.Fast.tw1484268358115915231:Nat:=0
def PySem.W.Fast.tw619503545113872385:Nat:=0
def PySem.W.Fast.tw16990745229351903229:Nat:=0
def PySem.W.Fast.tw4399528452749665321:Nat:=0
def PySem.W.Fast.tw6856049920586013148:Nat:=0
def PySem.W.Fast.tw15565127496420837987:Nat:=0
def PySem.W.Fast.tw5666197893764711279:Nat:=0
def PySem.W.Fast.tw16702515292330076584:Nat:=0
def PySem.W.Fast.tw6972571240518595417:Nat:=0
def PySem.W.Fast.tw1545904419189561249:Nat:=0
def PySem.W.Fast.tw17113462933297229662:Nat:=0
def PySem.W.Fast.tw10457459414088211648:Nat:=0
def PySem.W.Fast.tw18155068915980138172:Nat:=0
def PySem.W.Fast.tw5602035424090772767:Nat:=0
def PySem.W.Fast.tw5528169606660432263:Nat:=0
def PySem.W.Fast.tw15254786700735188277:Nat:=0
def PySem.W.Fast.tw9232169200670215580:Nat:=0
def PySem.W.Fast.tw10323498423253397220:Nat:=0
def PySem.W.Fast.tw10958055096904527694:Nat:=0
def PySem.W.Fast.tw16875914773216437510:Nat:=0
def PySem.W.Fast.tw7913765477494984728:Nat:=0
def PySem.W.Fast.tw17331222297879300155:Nat:=0
def PySem.W.Fast.tw12594443739951259717:Nat:=0
def PySem.W.Fast.tw12318784990200928055:Nat:=0
def PySem.W.Fast.tw1770432743852972059:Nat:=0
def PySem.W.Fast.tw14495353616550428648:Nat:=0
def PySem.W.Fast.tw9938840190729089380:Nat:=0
def PySem.W.Fast.tw11860836979367752923:Nat:=0
def PySem.W.Fast.tw4286955504078963242:Nat:=0
def PySem.W.Fast.tw14901171851761588694:Nat:=0
def PySem.W.Fast.tw7202626280495783820:Nat:=0
def PySem.W.Fast.tw16102057883044855986:Nat:=0
open PySem PySem.W PyProof.Rows
set_option maxRecDepth 100000 in
set_option maxHeartbeats 0 in
theorem PySem.Challenge.cw_ringfell_k43_three_ties_looked_for_holds : PySem.Challenge.rw_ringfell_k43_three_ties_looked_for.Holds := by
 w_on;o_law;k_head;(case hw=>w_witness2)
 k_fill
 refine K43.walk (l:=PySem.Challenge.rw_ringfell_k43_three_ties_looked_for) rfl rfl (λw h Y=>PySem.W.kIn_of Y) ?F
 case F =>
  intro w mg fa h KX G hmg
  refine' K43.all_mk KX G hmg ?_ ?_ ?_ ?_ ?_ ?_ ?_ ?_ ?_ ?_ ?_ ?_ ?_ ?_ ?_ ?_ ?_ ?_ ?_ ?_ ?_ ?_ ?_ ?_ ?_ ?_ ?_ ?_ ?_ ?_ ?_ ?_ ?_ ?_ ?_ ?_ ?_ ?_ ?_ ?_ ?_ ?_ ?_ ?_ ?_ ?_ ?_ ?_ ?_ ?_ ?_ ?_ ?_ ?_ ?_ ?_ ?_ ?_ ?_ ?_ ?_ ?_ ?_ ?_ ?_ ?_ ?_ ?_ ?_ ?_ ?_ ?_ ?_ ?_ ?_ ?_ ?_ ?_ ?_ ?_ ?_ ?_ ?_ ?_ ?_ ?_ ?_ ?_ ?_ ?_ ?_ ?_ ?_ ?_ ?_ ?_ ?_ ?_ ?_ ?_
  any_goals k_is
  any_goals (refine' L2.bG.mk ?a ?l ?c ?k;(case a=>k_is);(case l=>k_is);(case c=>k_is);(case k=>k_is))
  all_goals kernel_rfl
