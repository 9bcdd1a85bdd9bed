import PyProof.Rows.All
import Wide.All
import OpenK.AllK
import Wide.FinOn
import Lean
import PyProof.EqAt
import PyProof.EqKinds
import PyProof.TupleCall
import KE.KRevIter
import PyProof.ZipIter
import PySem.Challenge.RW_ringfell_k16_least_ones_judged
open PySem renaming wpAny_bind → C5,Value → C9,wpAny_pure → De,Shared → Dg,sizeLine → Dm,Program → DH,wpAny → DI,model → DS,World → Eb,wpAny_newObj_type → Ec,wpAny_call_entry → Ei,starEach → Em,mainGlobals → En,Around → Ep,bootBuiltins → ED,codeAny_builtin → EE,wpAny_callSpecial?_slot → EF,FuncData → EK,wpAny_field → EM,wpAny_ite_split → ES,wpAny_holding → EU,builtinLookup_eq_fast → EY,compareOp → Fj,wpAny_setField_rec → Fp,richCompare_meets_room → Fq,wpAny_specialOf → Fv,plainId_quiet → Fw,wpAny_typeOf → FC,wpAny_seqItems → FD,isSubtype_type → FE,wpAny_rule → FI,wpAny_isInstance → FJ,wpAny_truthy_bool → FQ,wpAny_attempt → FT,typeLookup_type → FY,wpAny_pyIter_tuple → F0,wpAny_Call_Name_kw → F1,sizeLine_eq → F8,wpAny_of_eq → Ga,wpAny_mono → Gi,mem_of_lookup → Gk,wpAny_updateSeq → Gp,wpAny_passesOwn → GL,rawInt → GN,wpAny_runValue → G2,tupleKind_room_in1 → G7,wpAny_pyIter_list → Hv,codeAny_extend_loopS → HF,codeAny_mono → HV,wpAny_newList → Ie,intItems → Ig,backTo → Ih,wpAny_pyIter_slot → Ir,wpAny_setField → Iv,wpAny_forIn_list → IK,wpAny_updateSeq_pair → IP,call_meets → IV,wpAny_execs_nil → Jg,codeAny → Ji,wpAny_letOwnedTupleGo_enum → Jp,callType_new → Jv,wpAny_eqBool_tuple → Jx,boot_len → JE,isSubtype_stop → JF,wpAny_load → JS,intKind_is → JT,wpAny_onRaise → J8,wpAny_eqBool_int → Kf,noFill_tuple_add → Kg,wpAny_askSetting → Kh,entryFor_of_tree → Ki,wpAny_Call_method_late → Kr,wpAny_isTrue_Compare1 → KH,concat_meets → KI,wpAny_eqIsQuiet_tuple → KO,codeAny_of_tree → KP,weight_type_call_type → KQ,codeAny_call_builtin → K3,wpAny_setEntries_of → Lj,wpAny_letGo → Lk,rangeSize_one → Lw,seq_tuple_add → Lx,wpAny_handled → Lz,signature?_of → LB,wpAny_sequenceKey → LN,init_tuple_lookup → LO,wpAny_Call_method → LP,wpAny_pyIter_dict → LQ,call_meetsIn → LW,seqIndex_of → Mr,wpAny_throw → Ms,holding → Mu,wpAny_Name → MH,wpAny_call → MI,typeIs_int → MJ
open List renaming length_map → C6,length_append → C8,getElem?_eq_getElem → Dc,mem_append → Dh,getElem?_eq_some_iff → Di,map_append → Dj,size_toArray → Dk,mem_of_getElem? → Dp,getElem?_map → Dq,take_of_length_le → Dr,getD_eq_getElem?_getD → Du,mem_cons → Dx,length_cons → Dz,mem_cons_self → DA,mem_cons_of_mem → DB,mem_singleton → DD,mem_append_right → DE,mem_append_left → DM,append_assoc → DQ,mem_map → DR,map_cons → DV,getElem?_toArray → DX,append_nil → DZ,take_add_one → D3,count_pos_iff → D7,length_singleton → D9,getElem?_append_left → Ed,getElem?_append_right → Eg,replicate → Ej,range → Eo,pairwise_map → Eu,length_take → Ew,mem_iff_getElem? → EG,nodup_cons → EI,take_sublist → EN,length_drop → EO,length_nil → ER,mem_range → ET,drop_sublist → EV,length_reverse → E2,mem_map_of_mem → E3,mem_filter → E4,pairwise_append → E7,length_eq_zero_iff → Ff,length_range → Fg,mem_of_mem_take → Fl,getElem?_take → Fm,map_map → Fo,getElem?_eq_none_iff → Ft,extract_eq_take_drop → Fu,take_append_drop → Fz,nodup_append → FA,getElem?_set_self → FK,replicate_succ → FN,flatten_cons → FO,getElem?_eq_none → FX,all_eq_true → F2,take_append_of_le_length → F4,getElem?_set_ne → Gb,pairwise_singleton → Gg,getElem?_cons_succ → Gh,length_replicate → Gw,pairwise_cons → Gz,perm_append_comm → GA,nodup_nil → GC,mem_of_mem_drop → GD,filter_congr → GK,reverse_append → GS,length_pos_iff → GX,not_mem_nil → GZ,mem_reverse → G0,count_eq_zero_of_not_mem → G1,getElem?_drop → G5,dropLast_concat_getLast → G6,nil_append → G8,set_set → G9,find?_cons → Hi,eq_nil_or_concat → Hj,concat_eq_append → Hk,ext_getElem? → Hs,perm_ext_iff_of_nodup → Hw,getElem?_of_mem → Hz,pairwise_iff_getElem → HI,lookup_cons → HJ,getElem_mem → HK,mem_of_mem_eraseIdx → HU,getElem?_replicate → HX,zip_cons_cons → HY,any_cons → Ia,eraseIdx_cons_succ → Ib,pairwise_lt_range → Ij,eraseIdxIfInBounds_toArray → Il,reverse_cons → Iq,take_zero → Iu,length_filter_le → IC,drop_append_of_le_length → IH,filter_cons → IJ,map_drop → IT,filterMap_cons → IW,getElem_of_mem → Ja,count_cons → Jb,length_set → Jf,eq_append_cons_of_mem → Jo,mem_filterMap → Jq,filter_append → Jt,getElem?_zip_eq_some → Jy,drop_eq_getElem_cons → JA,drop_zero → JB,drop_left → JC,find?_range_eq_none → JK,eq_of_mem_replicate → JP,count_append → JR,all_cons → JU,map_take → JX,filter_cons_of_pos → J4,filter_cons_of_neg → J5,getElem_inj → J9,zipIdx_cons → Kb,cons_append → Kc,drop_eq_nil_of_le → Kl,filter_eq_nil_iff → Ko,of_mem_zip → Ks,map_nil → Kt,foldl_cons → Ku,forIn_cons → Kv,contains_iff_mem → Kz,getElem?_reverse → KD,reverse_reverse → KS,length_eraseIdx → KW,dropLast_concat → K0,map_eq_nil_iff → La,getElem?_range → Lb,map_congr_left → Lf,filter_filter → Lv,getElem?_inj → LL,count_filter → LM,perm_middle → LZ,nodup_range → L4,ext_getElem → L6,take_length → Ma,append_inj' → Md,map_reverse → Me,length_zip → Mi,zipIdx_nil → Mm,filter_map → Mp,sum_append → Mq,drop_drop → Mz,take_succ → MB,forIn_nil → MC,set_comm → MK,all_map → MP
open PySem.Heap renaming get?_push_of_some → C7,get?_push_size → Dn,lt_size → Ds,get?_update_other → Eh,get?_update_self → EA,size_push → E5,get?_update_ne → K9
open Nat renaming le_refl → Dd,ne_of_lt → Dw,lt_of_lt_of_le → DC,le_trans → DU,zero_le → D5,lt_succ_of_lt → EH,lt_succ_self → Fc,lt_irrefl → Fe,ne_of_gt → FV,le_add_right → F3,le_sub_one_of_lt → Gf,le_of_lt → Gv,zero_add → GO,le_succ → GQ,add_sub_cancel_left → GR,lt_of_not_le → GY,eq_zero_of_not_pos → G3,lt_of_le_of_lt → G4,le_of_lt_succ → Hu,add_le_add_left → HL,succ_pos → HQ,le_antisymm → Ic,le_succ_of_le → Im,mod_lt → Io,le_of_not_lt → IE,sub_one_lt_of_lt → IM,lt_of_succ_lt → JI,succ_le_succ → Ka,le_of_sub_eq_zero → Kw,not_lt_zero → KG,lt_of_le_of_ne → Ln,sub_pos_of_lt → LG,le_of_succ_le → LH,mul_comm → LR,sub_zero → LS,sub_self → LU,add_assoc → ML
open PySem.W renaming Frag → Df,mg_none_of → Ek,nsIn → EZ,kia_one → Fs,kat_nil → I0,kat_cons → Ke,cellsFrom_some → Kj,kat_yes → Kx,kat_no → K7,kitx_list → LC,kitx_dict → LD,kat_kind → L3,kat_lt → MA,mg_of → MN
open Array renaming length_toList → Dl,getElem?_toList → Dt,getElem?_eq_getElem → DN,mem_toList_iff → D4,toList_append → Ef,size_map → Ey,getElem?_eq_some_iff → Fi,getD_eq_getD_getElem? → FH,getElem?_eq_none → FL,toList_push → FP,toList_extract → Ge,toList_reverse → GF,size_push → GI,size_append → Hr,toList_map → II,toList_setIfInBounds → Jm,perm_iff_toList_perm → Jn,size_setIfInBounds → JJ,getElem?_replicate → JL,getElem?_map → Lo,forIn_toList → Lp,toList_inj → L0
open Bool renaming false_ne_true → Dv,false_eq_true → DJ,and_eq_true → EC,not_true → E8,eq_iff_iff → FW,eq_false_iff → Ht,false_and → HG,or_false → IQ,and_false → K5,not_false → K6,true_and → Lu,false_or → MM,and_true → MO
open PyProof.Rows renaming wpS_bind → DF,wpS_pure → DK,Keyed → DL,arrOf → DP,pendingOf → D1,SortSt → D8,slot_tuple_getitem → Et,callWith_type1 → Ez,wpS_forRange → EX,wpS_mono → FU,wpS_modify → Gj,IntsAre → Gq,KeyOrd → ID,reverseSlice'_eq → IL,wpS_get → Jh,wpS_lift → Jw,args_list_sort → JG,sortedHeap_old → JH,sortedHeap_at → J6,subscriptTail_builtinR → Kq,plain_sorted → KJ,entry_sorted → KL,args_sorted1 → KN,size_push' → KR,getElem?_mirror_all → Lh,kind_sorted → Li,args_tuple_getitem → Ly,listUpdate_at → LA,listItems_at → LV
open PySem.Value renaming ref → DG,int → EL,type → E1,none → E9,isInt_shape → Hl
open PySem.Builtin.List renaming listExtendWith → DT,listLengthHint → EJ,listSameRef → EW
open Option.some renaming inj → DW
open PySem.F renaming plainAttrs_list → DY,slot_list_append → Er,type_list_append → Es,called_set → Fb,plain_extend_loop → Gm,slot_tuple_iterator_next → Gu,plain_list_iadd → GV,slot_enumerate_iter → Hg,slot_enumerate_next → Hh,args_object_init_2 → Hx,args_tuple_add_2 → HP,slot_tuple_count → HS,entry_tuple_add → HZ,slot_tuple_add → Ii,plain_list_iadd → Ip,slot_dict_get → Iy,slot_list_pop → Iz,type_list_pop → IA,args_list_ne_2 → IG,args_tuple_iterator_next_1 → IS,slot_dict_setdefault → IU,entry_list_ne → IY,entry_tuple_iterator_next → IZ,entry_proto_collect → Jc,plain_proto_collect → Jd,slot_zip_next → Je,slot_list_ne → Jz,plain_extend_loop → JD,typeCall_tuple_1 → JM,slot_list_extend → JN,type_list_extend → JO,type_tuple_count → JQ,args_enumerate_iter_1 → JW,entry_list_iadd → JZ,newCall_tuple_1 → J0,entry_tuple_new → J1,args_dict_get_3 → J2,plainAttrs_dict → J3,entry_enumerate_iter → Kk,typeCall_set_1 → Km,entry_dict_get → Kn,entry_proto_collect → KA,plain_proto_collect → KC,called_tuple → KY,mro_reversed → KZ,entry_extend_loop → Lc,entry_type_call → LI,entry_list_iadd → LJ,args_zip_next_1 → LK,entry_list_pop → LY,entry_set_init → L5,entry_zip_next → L7,args_list_eq_2 → L9,slot_list_pop → Mf,slot_int_rmul → Mg,plain_set_new → Mj,slot_set_iter → Ml,entry_list_eq → Mn
open PySem.PassesOwn renaming never → Ea
open PyProof.Rows.KeyOrd renaming kle_trans → Ee,kle_of_klt → E6,kle_refl → FF,kle_antisymm → K8
open PySem.Around renaming under_plainId → Ex,under_plain → Lq,in1_units → Mb
open Ne renaming symm → EB
open PySem.Obj renaming mapSeq → Fh,data_mapFields → Gy,isFreed_of_fields → Iw,cls_mapFields → LF
open Int renaming emod_lt_of_pos → Fn,toNat_natCast → Fx,emod_nonneg → FG,fdiv_eq_ediv_of_nonneg → Jk,fmod_eq_emod_of_nonneg → Jl,le_total → Ju,le_refl → Lg,ediv_nonneg → Mo
open List.Perm renaming append_left → Fy,append_right → Gs,refl → HH
open Classical renaming byContradiction → FR
open PySem.Calls renaming spliced_cons → FZ,callWith_builtin → Gr,call_function_entry → GB,spliced_nil → Ho,evalArgs_plain → Hy,Name_function_global → Jj
open Iff renaming rfl → Gn
open PySem.SeqAt.EqAt renaming int_int → Gx,same → IX,int_str → Ll,str_int → Lm
open Option renaming isSome_iff_exists → GG,map_some → GH,isSome_map → GJ,map_eq_some_iff → Ik,getD_none → LX
open List.Nodup renaming length_le_of_subset → GP
open PyProof.Rows.F renaming plain_set_update_loop → GU,entry_set_update_loop → JY
open PySem.Pv renaming boot_tuple → GW
open PySem.Paired renaming length → Hn,snoc → MS
open PySem.Heap.SameBut renaming update → HM
open List.Pairwise renaming imp_of_mem → HR,imp → MX,and → MY
open PySem.SeqAt renaming EqAt → HW,list_ne_lengthsAt → JV,list_neAt → Mh
open Prod renaming ext → Jr
open PySem.Code renaming quiet_builtin → Js
open PySem.W.Looks renaming of_pure → Ky
open PySem.W.KatTups renaming cons → KU
open PySem.ItemsOf renaming nil → Ld
open PySem.Moved renaming eq_with → Lr,trans → MR
open List.cons renaming inj → Ls
open PySem.Heap.ExtBut renaming push → L8
open PySem.StrLaws renaming seqIndex_nonneg → Mc
open PySem.Walks renaming tuple → Mk
open PySem.EqMixed renaming eq_bool_str → Mv,eq_str_bool → Mw,ne_bool_str → Mx,ne_str_bool → My,eq_int_str → MD,eq_str_int → ME,ne_int_str → MF,ne_str_int → MG
open Nat.succ renaming inj → MQ
open PySem.Heap.IsSliceOf renaming new → MU
set_option Elab.async false
set_option linter.all false
set_option maxRecDepth 100000
namespace L2
open PySem PySem.Spec PyProof.Rows
abbrev Key:=Sum Int Str
def nI:Key->C9->Bool
 | .inl k,v=>Value.isInt k v
 | .inr x,v=>Value.isStrOf x v
def keyH (w:Eb):Key->Int
 | .inl k=>hashInt k
 | .inr x=>hashStr w x
theorem bT:∀{k:Key} {v:C9},nI k v=true->(∃i t,k=Sum.inl i/\v=EL i t)\/(∃x t,k=Sum.inr x/\v=Value.str x t)
 | .inl i,v,h=>by
  obtain ⟨t,e⟩:=Hl (k:=i) (v:=v) h
  exact .inl ⟨i,t,rfl,e⟩
 | .inr x,v,h=>by
  obtain ⟨t,e⟩:=Value.isStrOf_shape (x:=x) (v:=v) h
  exact .inr ⟨x,t,rfl,e⟩
theorem vi (i:Int)(t:Tok):nI (.inl i) (.int i t)=true:=by simp[nI,Value.isInt]
theorem vj (x:Str)(t:Tok):nI (.inr x) (.str x t)=true:=by simp[nI,Value.isStrOf]
theorem A9 (a b:Int):decide ((Sum.inl a:Key)=Sum.inl b)=(a == b):=by
 by_cases e:a=b
 ·subst e;simp
 ·have h:¬ (Sum.inl a:Key)=Sum.inl b:=λq=>e (Sum.inl.inj q)
  rw[decide_eq_false h]
  exact (beq_eq_false_iff_ne.mpr e).symm
theorem Ba (a b:Str):decide ((Sum.inr a:Key)=Sum.inr b)=decide (a=b):=by
 by_cases e:a=b
 ·subst e;simp
 ·have h:¬ (Sum.inr a:Key)=Sum.inr b:=λq=>e (Sum.inr.inj q)
  rw[decide_eq_false h,decide_eq_false e]
theorem Bb (a:Int)(b:Str):decide ((Sum.inl a:Key)=Sum.inr b)=false:=decide_eq_false (λq=>nomatch q)
theorem Bc (a:Str)(b:Int):decide ((Sum.inr a:Key)=Sum.inl b)=false:=decide_eq_false (λq=>nomatch q)
def bD (prog:DH)(w:Eb):PySem.KeyKind prog w Key where
 is:=nI
 hash:=keyH w
 inj:=λv a b ha hb=>by
  rcases bT ha with ⟨i,t,rfl,rfl⟩ | ⟨x,t,rfl,rfl⟩
  ·rcases bT hb with ⟨j,u,rfl,e⟩ | ⟨y,u,rfl,e⟩
   ·injection e with e1 _;rw[e1]
   ·exact nomatch e
  ·rcases bT hb with ⟨j,u,rfl,e⟩ | ⟨y,u,rfl,e⟩
   ·exact nomatch e
   ·injection e with e1 _;rw[e1]
 byValue:=λk v h=>by
  rcases bT h with ⟨i,t,rfl,rfl⟩ | ⟨x,t,rfl,rfl⟩ <;> rfl
 pyHash:=λhv h=>by
  rcases bT hv with ⟨i,t,rfl,rfl⟩ | ⟨x,t,rfl,rfl⟩
  ·exact wpAny_pyHash_int h
  ·exact wpAny_pyHash_str h
 eqBool:=λhu hv h=>by
  rcases bT hu with ⟨i,t,rfl,rfl⟩ | ⟨x,t,rfl,rfl⟩
  ·rcases bT hv with ⟨j,u,rfl,rfl⟩ | ⟨y,u,rfl,rfl⟩
   ·rw[A9] at h;exact Kf h
   ·rw[Bb] at h;exact Ll i t y u _ _ _ _ h
  ·rcases bT hv with ⟨j,u,rfl,rfl⟩ | ⟨y,u,rfl,rfl⟩
   ·rw[Bc] at h;exact Lm x t j u _ _ _ _ h
   ·rw[Ba] at h;exact wpAny_eqBool_str h
 «strs» := λk x t v h=>by
  rcases bT h with ⟨i,u,rfl,e⟩ | ⟨y,u,rfl,e⟩
  ·exact nomatch e
  ·injection e with e1 _
   subst e1
   cases v <;> rfl
theorem qv (prog:DH)(w:Eb)(i:Int)(t:Tok):(bD prog w).is (.inl i) (.int i t)=true:=vi i t
theorem qw (prog:DH)(w:Eb)(x:Str)(t:Tok):(bD prog w).is (.inr x) (.str x t)=true:=vj x t
inductive V where
 | non | bl (b:Bool) | int (i:Int) | str (x:Str) | byt (b:Array UInt8) | flt (b:UInt64) | ref (a:Addr) | ty (n:String)
 deriving DecidableEq
def RelV:V->C9->Prop
 | .non,u=>u=E9
 | .bl b,u=>u=Value.bool b
 | .int i,u=>∃t,u=EL i t
 | .str x,u=>∃t,u=Value.str x t
 | .byt b,u=>∃t,u=Value.bytes b t
 | .flt b,u=>∃t,u=Value.float b t
 | .ref a,u=>u=DG a
 | .ty n,u=>u=E1 n
abbrev Vals:List V->List C9->Prop:=Paired RelV
theorem Vals.length {xs:List V}{us:List C9}(r:Vals xs us):xs.length=us.length:=Hn r
theorem Vals.get:∀{xs:List V} {us:List C9} {i:Nat} {x:V},Vals xs us->xs[i]? = some x->∃u,us[i]? = some u/\RelV x u
 | _,_,_,_,.nil,e=>by simp at e
 | _,_,0,_,.cons r _,e=>by simp at e;subst e;exact ⟨_,rfl,r⟩
 | _,_,i+1,x,.cons _ t,e=>by
  obtain ⟨u,h1,h2⟩:=Vals.get (i:=i) (x:=x) t (by simpa using e)
  exact ⟨u,by simpa using h1,h2⟩
theorem Vals.set {x:V}{u:C9}(r:RelV x u):∀{xs:List V} {us:List C9} (i:Nat),Vals xs us->Vals (xs.set i x) (us.set i u)
 | _,_,_,.nil =>.nil
 | _,_,0,.cons _ t =>.cons r t
 | _,_,i+1,.cons q t =>.cons q (Vals.set r i t)
theorem Vals.append:∀{xs ys:List V} {us ws:List C9},Vals xs us->Vals ys ws->Vals (xs++ys) (us++ws)
 | _,_,_,_,.nil,s=>s
 | _,_,_,_,.cons r t,s =>.cons r (Vals.append t s)
theorem Vals.take:∀{xs:List V} {us:List C9} (n:Nat),Vals xs us->Vals (xs.take n) (us.take n)
 | _,_,0,_ =>.nil
 | _,_,_+1,.nil =>.nil
 | _,_,n+1,.cons r t =>.cons r (Vals.take n t)
theorem Vals.drop:∀{xs:List V} {us:List C9} (n:Nat),Vals xs us->Vals (xs.drop n) (us.drop n)
 | _,_,0,r=>r
 | _,_,_+1,.nil =>.nil
 | _,_,n+1,.cons _ t=>Vals.drop n t
def jE:Option V->Option C9->Prop
 | some v,some u=>RelV v u
 | none,none=>True
 | _,_=>False
def KV {κ:Type}:List (κ×V)->List (κ×C9)->Prop:=Paired λ(p:κ×V) (q:κ×C9)=>p.1=q.1/\RelV p.2 q.2
def kV:Key->V
 | .inl i =>.int i
 | .inr x =>.str x
inductive HO where
  | lst (xs:List V)
  | tup (xs:List V)
  | dK (kvs:List (Key×V)) | dT (kvs:List (List Key×V))
  | set (S:Int->Bool) (n:Nat)
  | ins (C dx:Addr) (fs:List (Str×V))
  | own (x:Addr)
  | xd (fs:List (Str×V))
  | met (f x:Addr)
  | rng (lo hi:Int)
  | frz (o:Obj) (u:HO)
  | tbl (ps:Array C9)
  | ext (φ:Heap->Prop)
abbrev Hp:=Addr->Option HO
def upd (H:Hp)(a:Addr)(o:HO):Hp:=λb=>if b=a then some o else H b
theorem ag {H:Hp}{a:Addr}{o:HO}:upd H a o a=some o:=by unfold upd;rw[if_pos rfl]
theorem az {H:Hp}{a b:Addr}{o:HO}(h:b≠a):upd H a o b=H b:=by unfold upd;rw[if_neg h]
theorem cF {H:Hp}{a b:Addr}{o u:HO}(h:H a=some o)(h':H b=some u)(d:o≠u):a≠b:=by
 intro e;subst e;rw[h] at h';exact d (DW h')
theorem aA {H:Hp}{a b:Addr}{o:HO}(h:H a=some o)(h':H b=none):a≠b:=by
 intro e;subst e;rw[h] at h';cases h'
def dS (h:Heap)(a:Addr)(items:Array C9):Prop:=∃o,h.get? a=some o/\(o.cls = .type "tuple" /\ o.dict=none)/\∃n,o.data = .seq items n
theorem dS.tup {h:Heap}{a:Addr}{items:Array C9}(x:dS h a items):IsTup h a items:=let ⟨o,e,c,n,d⟩:=x;⟨o,e,c.1,n,d⟩
theorem dS.new (h:Heap)(items:Array C9):dS (h.push { cls :=.type "tuple",data :=.seq items }) h.objs.size items:=⟨_,Dn _ rfl,⟨rfl,rfl⟩,_,rfl⟩
section
variable  (P:DH)(w:Eb)
def bB (H:Hp)(h:Heap)(a:Addr):HO->Prop
 | .lst xs=>xs.length<=Dm/\∃(its:List C9) (n:Nat),Vals xs its/\h.get? a=some { cls :=.type "list",data :=.seq its.toArray n }
 | .tup xs=>xs.length<=Dm/\∃its:List C9,Vals xs its/\dS h a its.toArray
 | .dK kvs=>kvs.length<=Dm/\(a == sysModules)=false/\∃vs,KV kvs vs/\h.DictOf (bD P w) a vs
 | .dT kvs=>kvs.length<=Dm/\(a == sysModules)=false/\∃xs:List (List Key×Addr×C9),
   Paired (λ(p:List Key×V) (q:List Key×Addr×C9)=>p.1=q.1/\H q.2.1=some (.tup (p.1.map kV))/\RelV p.2 q.2.2) kvs xs ∧
   ∃o es ep,h.get? a=some o/\o.ExactDict/\o.data = .dict es ep/\es.toList=xs.map (entryOfKey (tupleKind (bD P w)))/\(xs.map (·.1)).Nodup
 | .set S n=>h.SetOf (intKind P w) a S n
 | .ins C dx fs=>H dx=some (.own a)/\fs.length<=1000/\dx≠a/\h.get? a=some (PySem.W.instObj C dx) ∧
   ∃mA,h.Ns1 dx mA/\(∀f,jE (fs.lookup f) (mA f))/\PySem.Within mA (fs.map (·.1))
 | .own _=>∃o,h.get? a=some o
 | .xd fs=>∃mA,h.Ns1 a mA/\∀f,jE (fs.lookup f) (mA f)
 | .rng lo hi=>∃t u v,h.get? a=some { cls :=.type "range",data :=.fields #[.int lo t,.int hi u,.int 1 v] }
 | .frz o u=>h.get? a=some o/\bB H h a u
 | .tbl ps=>h.get? a=some { cls :=.none,data :=.fields ps }
 | .met f x=>h.get? a=some (PySem.W.methodObj (.ref f) (.ref x))
 | .ext φ=>φ h/\(∃o,h.get? a=some o)/\∀h1 h2:Heap, φ h1->(∀o,h1.get? a=some o->h2.get? a=some o) -> φ h2
def HOk (H:Hp)(h:Heap):Prop:=∀a o,H a=some o->bB P w H h a o
end
section
variable  {P:DH}{w:Eb}{H H':Hp}{h h':Heap}{a:Addr}{o:HO}
theorem bB.lt (x:bB P w H h a o):a<h.objs.size:=by
 cases o with
 | lst xs=>obtain ⟨_,_,_,_,e⟩:=x;exact Ds e
 | tup xs=>obtain ⟨_,_,_,p⟩:=x;exact (dS.tup p).lt
 | dK kvs=>obtain ⟨_,_,_,_,o,_,_,e,_⟩:=x;exact Ds e
 | dT kvs=>obtain ⟨_,_,_,_,o,_,_,e,_⟩:=x;exact Ds e
 | set S n=>obtain ⟨o,_,_,_,e,_⟩:=x;exact Ds e
 | ins C dx fs=>obtain ⟨_,_,_,e,_⟩:=x;exact Ds e
 | own y=>obtain ⟨_,e⟩:=x;exact Ds e
 | xd fs=>obtain ⟨_,⟨_,_,_,e,_⟩,_⟩:=x;exact Ds e
 | rng lo hi=>obtain ⟨_,_,_,e⟩:=x;exact Ds e
 | frz ob u=>obtain ⟨e,_⟩:=x;exact Ds e
 | tbl ps=>exact Ds (show h.get? a=some _ from x)
 | met f y=>exact Ds (show h.get? a=some _ from x)
 | ext φ=>obtain ⟨_,⟨_,e⟩,_⟩:=x;exact Ds e
theorem Paired.Bd {α β:Type}{F G:α -> β -> Prop}:∀{l₁:List α} {l₂:List β},Paired F l₁ l₂->(∀a b,F a b->G a b)->Paired G l₁ l₂
 | _,_,.nil,_ =>.nil
 | _,_,.cons r t,f =>.cons (f _ _ r) (Paired.Bd t f)
theorem bB.stay (x:bB P w H h a o)(k:∀b u,(b=a\/H b=some (.own a))->h.get? b=some u->h'.get? b=some u)
  (ho:∀b,H b=some (.own a)->H' b=some (.own a)) (ht:∀b xs,H b=some (.tup xs)->H' b=some (.tup xs)):bB P w H' h' a o:=by
 induction o with
 | lst xs=>obtain ⟨z,its,n,r,e⟩:=x;exact ⟨z,its,n,r,k _ _ (.inl rfl) e⟩
 | tup xs=>obtain ⟨z,its,r,ob,e,c⟩:=x;exact ⟨z,its,r,ob,k _ _ (.inl rfl) e,c⟩
 | dK kvs=>obtain ⟨z,y,vs,r,ob,es,ep,e,c⟩:=x;exact ⟨z,y,vs,r,ob,es,ep,k _ _ (.inl rfl) e,c⟩
 | dT kvs =>
  obtain ⟨z,y,xs,r,ob,es,ep,e,c⟩:=x
  exact ⟨z,y,xs,Paired.Bd r λp q z=>⟨z.1,ht _ _ z.2.1,z.2.2⟩,ob,es,ep,k _ _ (.inl rfl) e,c⟩
 | set S n=>obtain ⟨ob,es,ep,t,e,c⟩:=x;exact ⟨ob,es,ep,t,k _ _ (.inl rfl) e,c⟩
 | ins C dx fs =>
  obtain ⟨d,z,ne,e,mA,⟨od,es,ep,e2,c⟩,r⟩:=x
  exact ⟨ho _ d,z,ne,k _ _ (.inl rfl) e,mA,⟨od,es,ep,k _ _ (.inr d) e2,c⟩,r⟩
 | own y=>obtain ⟨ob,e⟩:=x;exact ⟨ob,k _ _ (.inl rfl) e⟩
 | xd fs=>obtain ⟨mA,⟨od,es,ep,e,c⟩,r⟩:=x;exact ⟨mA,⟨od,es,ep,k _ _ (.inl rfl) e,c⟩,r⟩
 | rng lo hi=>obtain ⟨t,u,v,e⟩:=x;exact ⟨t,u,v,k _ _ (.inl rfl) e⟩
 | frz ob u ih=>obtain ⟨e,q⟩:=x;exact ⟨k _ _ (.inl rfl) e,ih q⟩
 | tbl ps =>
  have e:h.get? a=some { cls :=.none,data :=.fields ps }:=x
  show h'.get? a=some { cls :=.none,data :=.fields ps }
  exact k a _ (.inl rfl) e
 | met f y =>
  have e:h.get? a=some (PySem.W.methodObj (.ref f) (.ref y)):=x
  show h'.get? a=some (PySem.W.methodObj (.ref f) (.ref y))
  exact k a _ (.inl rfl) e
 | ext φ=>obtain ⟨p,⟨o,e⟩,st⟩:=x;exact ⟨st _ _ p λo q=>k _ _ (.inl rfl) q,⟨o,k _ _ (.inl rfl) e⟩,st⟩
theorem HOk.lt (x:HOk P w H h)(e:H a=some o):a<h.objs.size:=(x a o e).lt
theorem HOk.fresh (x:HOk P w H h)(e:h.objs.size<=a):H a=none:=by
 cases q:H a with
 | none=>rfl
 | some u=>exact absurd (DC (x.lt q) e) (Fe _)
theorem HOk.kept (x:HOk P w H h)(k:∀b u,h.get? b=some u->h'.get? b=some u):HOk P w H h':=λa o e =>
 (x a o e).stay (λb u _ q=>k b u q) (λ_ q=>q) λ_ _ q=>q
theorem HOk.laid (x:HOk P w H h)(k:∀b u,h.get? b=some u->h'.get? b=some u)(hp:h.objs.size<=a)(new:bB P w (upd H a o) h' a o):HOk P w (upd H a o) h':=λb u e=>by
 have hn:=x.fresh hp
 by_cases hb:b=a
 ·subst hb;rw[ag] at e;cases e;exact new
 ·rw[az hb] at e
  exact (x b u e).stay (λc v _ q=>k c v q) (λc q=>by rw[az (aA q hn)];exact q) λc xs q=>by rw[az (aA q hn)];exact q
end
def Rd (H:Hp)(a:Addr)(u:HO):Prop:=H a=some u\/∃o,H a=some (.frz o u)
theorem Rd.ok {P:DH}{w:Eb}{H:Hp}{h:Heap}{a:Addr}{u:HO}(r:Rd H a u)(x:HOk P w H h):bB P w H h a u:=by
 rcases r with r | ⟨o,r⟩
 ·exact x a u r
 ·obtain ⟨_,q⟩:=x a _ r
  exact q
def Mut:Option HO->Prop
 | some (.lst _)=>True
 | some (.dK _)=>True
 | some (.dT _)=>True
 | some (.set _ _)=>True
 | some (.ins _ _ _)=>True
 | some (.ext _)=>True
 | _=>False
section
variable  {P:DH}{w:Eb}{H:Hp}{h h':Heap}{x e:Addr}{o':HO}
theorem HOk.write (ok:HOk P w H h)(mu:Mut (H x))(he:e=x\/H e=some (.own x))(k:∀b u,b≠e->h.get? b=some u->h'.get? b=some u)(heo:∃u,h'.get? e=some u)
  (new:bB P w (upd H x o') h' x o'):HOk P w (upd H x o') h':=λb u q=>by
 have nown:∀c y,H c=some (.own y)->c≠x:=λc y r z=>by subst z;rw[r] at mu;exact mu
 have ntup:∀c xs,H c=some (.tup xs)->c≠x:=λc xs r z=>by subst z;rw[r] at mu;exact mu
 by_cases hb:b=x
 ·subst hb;rw[ag] at q;cases q;exact new
 ·rw[az hb] at q
  by_cases hbe:b=e
  ·have q':H b=some (.own x):=by
    rcases he with z | z
    ·exact absurd (hbe.trans z) hb
    ·rw[hbe];exact z
   rw[q] at q';cases q'
   obtain ⟨v,hv⟩:=heo
   exact ⟨v,by rw[hbe];exact hv⟩
  ·refine (ok b u q).stay (λc v hc r=>k c v ?_ r) (λc r=>by rw[az (nown c b r)];exact r) λc xs r=>by rw[az (ntup c xs r)];exact r
   rcases hc with rfl | hc
   ·exact hbe
   ·rintro rfl
    rcases he with z | z
    ·exact nown c b hc z
    ·rw[hc] at z;cases z;exact hb rfl
end
structure Un (fs ex:List Addr)(H H':Hp)(h h':Heap):Prop where
 keep:∀b o,h.get? b=some o->H b=none->b∉fs->b∉ex->h'.get? b=some o
 slot:∀b o,h.get? b=some o->H b=none->b∈fs->b∉ex->∃sl,h'.get? b=some { o with slots:=sl }
 free:∀b o,h.get? b=some o->H b=none->b∉ex->H' b=none
 there:∀b o,h.get? b=some o->b∉ex->∃o',h'.get? b=some o'
 tups:∀b xs,H b=some (.tup xs)->H' b=some (.tup xs)
 frzs:∀b o u,H b=some (.frz o u)->H' b=some (.frz o u)
 tbls:∀b ps,H b=some (.tbl ps)->∃more,H' b=some (.tbl (ps++more))
section
variable  {fs fs' ex ex':List Addr}{H H1 H2:Hp}{h h1 h2 h':Heap}{a x e:Addr}{o:HO}
theorem Un.any (u:Un fs ex H H1 h h1){b:Addr}{ob:Obj}(q:h.get? b=some ob)(n:H b=none)(hx:b∉ex):∃sl,h1.get? b=some { ob with slots:=sl }:=by
 by_cases hb:b∈fs
 ·exact u.slot b ob q n hb hx
 ·exact ⟨ob.slots,u.keep b ob q n hb hx⟩
theorem Un.kept (k:∀b u,h.get? b=some u->h'.get? b=some u):Un fs ex H H h h' :=
 ⟨λb ob q _ _ _=>k b ob q,λb ob q _ _ _=>⟨ob.slots,k b ob q⟩,λ_ _ _ n _=>n,λb ob q _=>⟨ob,k b ob q⟩,λ_ _ q=>q,λ_ _ _ q=>q,λ_ ps q=>⟨#[],by rw[q];simp⟩⟩
theorem Un.refl:Un fs ex H H h h:=Un.kept λ_ _ q=>q
theorem Un.laid (k:∀b u,h.get? b=some u->h'.get? b=some u)(hp:h.objs.size<=a)(hn:H a=none):Un fs ex H (upd H a o) h h' where
 keep:=λb u q _ _ _=>k b u q
 slot:=λb u q _ _ _=>⟨u.slots,k b u q⟩
 free:=λb u q n _=>by rw[az (Dw (DC (Ds q) hp))];exact n
 there:=λb u q _=>⟨u,k b u q⟩
 tups:=λb xs q=>by rw[az (aA q hn)];exact q
 frzs:=λb u xs q=>by rw[az (aA q hn)];exact q
 tbls:=λb ps q=>⟨#[],by rw[az (aA q hn),q];simp⟩
theorem Un.write (mu:Mut (H x))(he:e=x\/H e=some (.own x))(k:∀b u,b≠e->h.get? b=some u->h'.get? b=some u)(heo:∃u,h'.get? e=some u):Un fs ex H (upd H x o) h h':=by
 have hx:∀b,H b=none->b≠x:=λb n z=>by subst z;rw[n] at mu;exact mu
 have hb:∀b,H b=none->b≠e:=λb n z=>by
  subst z
  rcases he with r | r
  ·exact hx b n r
  ·rw[n] at r;cases r
 have hm:∀b u,H b=some u->¬ Mut (some u)->b≠x:=λb u q nm z=>by subst z;rw[q] at mu;exact nm mu
 refine ⟨λb u q n _ _=>k b u (hb b n) q,λb u q n _ _=>⟨u.slots,k b u (hb b n) q⟩,λb u q n _=>by rw[az (hx b n)];exact n,λb u q _ =>?_,
  λb xs q=>by rw[az (hm b _ q λz=>z)];exact q,λb u xs q=>by rw[az (hm b _ q λz=>z)];exact q,λb ps q=>⟨#[],by rw[az (hm b _ q λz=>z),q];simp⟩⟩
 by_cases hbe:b=e
 ·subst hbe;exact heo
 ·exact ⟨u,k b u hbe q⟩
end
def trk (h:Heap)(H:Hp):List Addr:=(Eo h.objs.size).filter λa=>(H a).isSome
def pk (h:Heap)(H:Hp):Heap:=PySem.W.hideAll h (trk h H)
theorem vk (h:Heap)(H:Hp):(pk h H).objs.size=h.objs.size:=PySem.W.hideAll_size _ _
theorem wQ {h:Heap}{H:Hp}{b:Addr}{o:Obj}(e:h.get? b=some o)(n:H b=none):(pk h H).get? b=some o :=
 PySem.W.hideAll_get _ e λhm=>by
  have q:(H b).isSome=true:=(E4.mp hm).2
  rw[n] at q;simp at q
theorem y9 {h:Heap}{H:Hp}{b:Addr}{o:Obj}(e:(pk h H).get? b=some o):h.get? b=some o/\H b=none:=by
 have e':h.get? b=some o:=PySem.W.of_hideAll (trk h H) e
 refine ⟨e',?_⟩
 cases q:H b with
 | none=>rfl
 | some x =>
  have hm:b∈trk h H:=E4.mpr ⟨ET.mpr (Ds e'),by simp[q]⟩
  have z:(pk h H).get? b=none:=PySem.W.hideAll_none (trk h H) hm
  rw[z] at e;cases e
def zc (g h:Heap)(L:Addr):List (Addr×Obj):=(Eo h.objs.size).filterMap λa=>if a=L\/(g.get? a).isSome=true then none else (h.get? a).map λo=>(a,o)
def rest (g h:Heap)(L d:Addr):List (Addr×Obj):=(zc g h L).filter λp=>decide (p.1≠d)
structure Mod (K:Df)(mg:Str->Option C9)(base:Heap):Prop where
 kin:K.In base
 glob:base.Ns En mg
 blt:∃mb,base.Ns builtinsNs mb/\∀x:Str,x ≠ "__name__" -> mb x=ED x
 nolimit:base.NoLimit
structure Cx where
 prog:DH
 w:Eb
 K:Df
 mg:Str->Option C9
 base:Heap
 A:Ep
 N:List Str
 s₀:Dg
 H₀:Hp
 env:Env
 outer:List Env
 stack:List Env
 ex:List Addr
 fn:Str->Bool
 calm:Bool
 pn:List (Addr×Obj)
 xe:C9->Dg->Prop
def frs (l:List Env):List Addr:=l.filterMap (·.frame)
abbrev Cx.fs (X:Cx):List Addr:=frs X.outer
def Vis (sc:Scope)(x:Str):Prop:=sc.names.lookup x=some .local\/sc.names.lookup x=some .cell\/sc.names.lookup x=some .free
def Loc (sc:Scope)(x:Str):Prop:=sc.names.lookup x=some .local\/sc.names.lookup x=some .cell
def Look (env:Env)(h:Heap)(m:Str->Option C9)(x:Str)(u:C9):Prop :=
 (env.kindOf x=some .local/\m x=some u)\/((env.kindOf x=some .cell\/env.kindOf x=some .free)/\∃c,env.cells.lookup x=some c/\h.IsCell c (some u))
structure Cx.Ok (X:Cx):Prop where
 mod:Mod X.K X.mg X.base
 kind:X.env.scope.kind = .function
 glob:X.env.globals=En
 blt:X.env.builtins=builtinsNs
 above:X.s₀.heap.objs.size<=X.env.locals
 inj:∀x y c,X.env.cells.lookup x=some c->X.env.cells.lookup y=some c->x=y
 has:∀x,(X.env.kindOf x=some .cell\/X.env.kindOf x=some .free)->∃c,X.env.cells.lookup x=some c
 cab:∀x c,X.fn x=true->X.env.cells.lookup x=some c->X.s₀.heap.objs.size<=c
 hd:X.calm=true->X.A.handled=none
 frames:X.A.frames=some X.stack
 stk:X.stack=X.outer\/(X.stack=X.env :: X.outer/\X.env.frame=some X.env.locals)
 exf:∀b∈X.ex,b≠X.env.locals/\∀x c,X.env.cells.lookup x=some c->c≠b
 bs:∀b o,X.base.get? b=some o->X.s₀.heap.get? b=some o/\X.H₀ b=none
 bsz:X.base.objs.size<=X.s₀.heap.objs.size
 noex:∀b o,X.base.get? b=some o->b∉X.ex
 exfs:∀b∈X.ex,b∉X.fs
 funs:X.s₀.heap.FunFrames X.base X.outer
 frf:∀b∈X.fs,X.H₀ b=none
structure Inv (X:Cx)(pins:List (Addr×Obj))(σ:List (Option V))(H:Hp)(s:Dg):Prop where
 ok:X.Ok
 os:s.os=X.s₀.os
 bare:AllBare s.gens
 base:Un X.fs X.ex X.H₀ H X.s₀.heap s.heap
 loc:∃m,s.heap.Ns X.env.locals m/\∀(i:Nat) (x:Str) (v:V),X.N[i]? = some x->σ[i]? = some (some v)->Vis X.env.scope x->∃u,RelV v u/\Look X.env s.heap m x u
 cell:∀x c,X.env.cells.lookup x=some c->∃v,s.heap.IsCell c v
 free:H X.env.locals=none
 freeC:∀x c,X.env.cells.lookup x=some c->H c=none
 pin:∀p∈X.pn++pins,s.heap.get? p.1=some p.2/\H p.1=none/\p.1≠X.env.locals/\p.1∉X.fs/\∀v,p.2.data ≠ .cell v
 hok:HOk X.prog X.w H s.heap
 len:σ.length=X.N.length
section
variable  {X:Cx}{pins:List (Addr×Obj)}{σ:List (Option V)}{H H':Hp}{s:Dg}{h':Heap}
theorem Cx.Ok.nofr (ok:X.Ok){b:Addr}{o:Obj}(e:X.base.get? b=some o):b∉X.fs:=λhb=>by
 have:=(ok.funs.mem hb).1
 rw[e] at this;cases this
theorem Inv.bs (I:Inv X pins σ H s):∀b o,X.base.get? b=some o->s.heap.get? b=some o/\H b=none:=λb o e =>
 ⟨I.base.keep b o (I.ok.bs b o e).1 (I.ok.bs b o e).2 (I.ok.nofr e) (I.ok.noex b o e),I.base.free b o (I.ok.bs b o e).1 (I.ok.bs b o e).2 (I.ok.noex b o e)⟩
theorem Inv.bk (I:Inv X pins σ H s):∀b o,X.base.get? b=some o->s.heap.get? b=some o:=λb o e=>(I.bs b o e).1
theorem Inv.mod (I:Inv X pins σ H s):Mod X.K X.mg X.base:=I.ok.mod
theorem Inv.kIn (I:Inv X pins σ H s):X.K.In s.heap:=I.ok.mod.kin.keeps I.bk
theorem Inv.lt (I:Inv X pins σ H s):X.env.locals<s.heap.objs.size:=let ⟨_,hn,_⟩:=I.loc;hn.lt
theorem Inv.sz (I:Inv X pins σ H s):X.s₀.heap.objs.size<=s.heap.objs.size:=DU I.ok.above (Gv I.lt)
theorem Inv.Be (I:Inv X pins σ H s){a:Addr}(h:s.heap.objs.size<=a):a∉X.fs:=λhb=>by
 obtain ⟨_,o,ho,_⟩:=I.ok.funs.mem hb
 exact absurd (DC (Ds ho) (DU I.sz h)) (Fe _)
theorem Inv.cne (I:Inv X pins σ H s):∀x c,X.env.cells.lookup x=some c->c≠X.env.locals:=λx c e z=>by
 obtain ⟨v,o,ho,hd⟩:=I.cell x c e
 obtain ⟨m,⟨o',es,ep,ho',hd',_⟩,_⟩:=I.loc
 rw[z,ho'] at ho;cases ho;rw[hd'] at hd;cases hd
theorem Inv.funs (I:Inv X pins σ H s):s.heap.FunFrames X.base X.outer:=by
 have all:∀(l:List Env),(∀b∈frs l,b∈X.fs)->X.s₀.heap.FunFrames X.base l->s.heap.FunFrames X.base l:=by
  intro l
  induction l with
  | nil=>intro _ _;trivial
  | cons env r ih =>
   intro hs hl
   obtain ⟨hk,⟨L,o,hf,hn,ho,hd⟩,hr⟩:=hl
   have hL:L∈X.fs:=hs L (by unfold frs;rw[IW,hf];exact DA)
   obtain ⟨sl,e⟩:=I.base.slot L o ho (I.ok.frf L hL) hL λz=>I.ok.exfs L z hL
   exact ⟨hk,⟨L,_,hf,hn,e,hd⟩,ih (λb hb=>hs b (by unfold frs;rw[IW,hf];exact DB _ hb)) hr⟩
 exact all X.outer (λ_ hb=>hb) I.ok.funs
theorem Inv.stack (I:Inv X pins σ H s):s.heap.FunFrames X.base X.stack:=by
 rcases I.ok.stk with e | ⟨e,hf⟩
 ·rw[e];exact I.funs
 ·rw[e]
  obtain ⟨m,hn,_⟩:=I.loc
  refine .cons (by rw[I.ok.kind];decide) hf hn ?_ I.funs
  exact Heap.get?_none_of_le (DU I.ok.bsz I.ok.above)
theorem Inv.pq (I:Inv X pins σ H s):∀b∈frs X.stack,b∈X.env.locals :: X.fs:=λb hb=>by
 rcases I.ok.stk with e | ⟨e,hf⟩
 ·rw[e] at hb;exact DB _ hb
 ·rw[e] at hb
  unfold frs at hb
  rw[IW,hf] at hb
  exact hb
theorem Inv.t7 (I:Inv X pins σ H s):∀b∈frs X.stack,H b=none:=λb hb=>by
 rcases Dx.mp (I.pq b hb) with e | hb
 ·rw[e];exact I.free
 ·obtain ⟨_,o,ho,_⟩:=I.ok.funs.mem hb
  exact I.base.free b o ho (I.ok.frf b hb) λz=>I.ok.exfs b z hb
theorem Inv.step {g':Array GenState}{t':Nat}{d':Drawn}{ch:List Addr}(I:Inv X pins σ H s)
  (hch:∀b∈ch,(b∈X.ex\/X.s₀.heap.objs.size<=b)/\b≠X.env.locals/\(∀x c,X.env.cells.lookup x=some c->c≠b)/\∀p∈X.pn++pins,p.1≠b)
  (keep:∀b o,b≠X.env.locals->b∉X.fs->b∉ch->s.heap.get? b=some o->H b=none->h'.get? b=some o)
  (slot:∀b o,b≠X.env.locals->b∈X.fs->b∉ch->s.heap.get? b=some o->H b=none->∃sl,h'.get? b=some { o with slots:=sl }) (free:∀b o,b∉ch->s.heap.get? b=some o->H b=none->H' b=none)
  (there:∀b o,b∉ch->s.heap.get? b=some o->∃o',h'.get? b=some o')
  (tups:∀b xs,H b=some (.tup xs)->H' b=some (.tup xs)) (frzs:∀b o u,H b=some (.frz o u)->H' b=some (.frz o u)) (tbls:∀b ps,H b=some (.tbl ps)->∃more,H' b=some (.tbl (ps++more)))
  (ns:∀m,s.heap.Ns X.env.locals m->h'.Ns X.env.locals m) (hok:HOk X.prog X.w H' h') (hg:AllBare g') :
  Inv X pins σ H' { s with heap:=h',gens:=g',drawn:=d',toks:=t' }:=by
 have neL:∀b o,X.s₀.heap.get? b=some o->b≠X.env.locals:=λb o e=>Dw (DC (Ds e) I.ok.above)
 have neC:∀b o,X.s₀.heap.get? b=some o->b∉X.ex->b∉ch:=λb o e hx hb=>by
  rcases (hch b hb).1 with z | z
  ·exact hx z
  ·exact absurd (DC (Ds e) z) (Fe _)
 have cellK:∀x c,X.env.cells.lookup x=some c->∀v,s.heap.IsCell c v->h'.IsCell c v:=λx c e v ⟨o,ho,hd⟩=>by
  have nch:c∉ch:=λz=>(hch c z).2.2.1 x c e rfl
  by_cases hc:c∈X.fs
  ·obtain ⟨sl,q⟩:=slot c o (I.cne x c e) hc nch ho (I.freeC x c e)
   exact ⟨_,q,hd⟩
  ·exact ⟨o,keep c o (I.cne x c e) hc nch ho (I.freeC x c e),hd⟩
 refine ⟨I.ok,I.os,hg,⟨λb o e n hb hx =>?_,λb o e n hb hx =>?_,λb o e n hx =>?_,λb o e hx =>?_,λb xs e=>tups b xs (I.base.tups b xs e),λb o xs e=>frzs b o xs (I.base.frzs b o xs e),λb ps e =>?_⟩,?_,λx c e =>?_,?_,λx c e =>?_,λp hp =>?_,hok,I.len⟩
 ·exact keep b o (neL b o e) hb (neC b o e hx) (I.base.keep b o e n hb hx) (I.base.free b o e n hx)
 ·obtain ⟨sl,e1⟩:=I.base.slot b o e n hb hx
  obtain ⟨sl',e2⟩:=slot b _ (neL b o e) hb (neC b o e hx) e1 (I.base.free b o e n hx)
  exact ⟨sl',e2⟩
 ·obtain ⟨o',e1⟩:=I.base.there b o e hx
  exact free b o' (neC b o e hx) e1 (I.base.free b o e n hx)
 ·obtain ⟨o',e1⟩:=I.base.there b o e hx
  exact there b o' (neC b o e hx) e1
 ·obtain ⟨m1,e1⟩:=I.base.tbls b ps e
  obtain ⟨m2,e2⟩:=tbls b _ e1
  exact ⟨m1++m2,by rw[e2,Array.append_assoc]⟩
 ·obtain ⟨m,hn,hl⟩:=I.loc
  refine ⟨m,ns m hn,λi x v e1 e2 e3 =>?_⟩
  obtain ⟨u,r,l⟩:=hl i x v e1 e2 e3
  refine ⟨u,r,?_⟩
  rcases l with l | ⟨k,c,e,z⟩
  ·exact .inl l
  ·exact .inr ⟨k,c,e,cellK x c e _ z⟩
 ·obtain ⟨v,z⟩:=I.cell x c e
  exact ⟨v,cellK x c e v z⟩
 ·obtain ⟨m,⟨o,_,_,ho,_⟩,_⟩:=I.loc
  exact free _ o (λz=>(hch _ z).2.1 rfl) ho I.free
 ·obtain ⟨v,o,ho,hd⟩:=I.cell x c e
  exact free c o (λz=>(hch c z).2.2.1 x c e rfl) ho (I.freeC x c e)
 ·obtain ⟨e,n,ne,nf,d⟩:=I.pin p hp
  have nch:p.1∉ch:=λz=>(hch p.1 z).2.2.2 p hp rfl
  exact ⟨keep p.1 p.2 ne nf nch e n,free p.1 p.2 nch e n,ne,nf,d⟩
theorem Inv.un {t':Nat}(I:Inv X pins σ H s)(u:Un X.fs [] H H' s.heap h')(hok:HOk X.prog X.w H' h'):Inv X pins σ H' { s with heap:=h',toks:=t' }:=by
 obtain ⟨m,⟨o,es,ep,ho,r⟩,_⟩:=id I.loc
 obtain ⟨sl,hL⟩:=u.any ho I.free (by simp)
 exact I.step (g':=s.gens) (d':=s.drawn) (ch:=[]) (λ_ z=>nomatch z) (λb o _ hb _ e n=>u.keep b o e n hb (by simp)) (λb o _ hb _ e n=>u.slot b o e n hb (by simp)) (λb o _ e n=>u.free b o e n (by simp)) (λb o _ e=>u.there b o e (by simp)) u.tups u.frzs u.tbls (λm' hm=>by
  obtain ⟨o',es',ep',ho',r'⟩:=hm
  rw[ho] at ho';cases ho'
  exact ⟨_,es',ep',hL,r'⟩) hok I.bare
theorem Inv.call {g':Array GenState}{t':Nat}{d':Drawn}{ch:List Addr}(I:Inv X pins σ H s)(u:Un (frs X.stack) ch H H' s.heap h')(hok:HOk X.prog X.w H' h')(hg:AllBare g')
  (hch:∀b∈ch,(b∈X.ex\/X.s₀.heap.objs.size<=b)/\b≠X.env.locals/\(∀x c,X.env.cells.lookup x=some c->c≠b)/\∀p∈X.pn++pins,p.1≠b) :
  Inv X pins σ H' { s with heap:=h',gens:=g',drawn:=d',toks:=t' }:=by
 obtain ⟨m,⟨o,es,ep,ho,r⟩,_⟩:=id I.loc
 obtain ⟨sl,hL⟩:=u.any ho I.free λz=>(hch _ z).2.1 rfl
 exact I.step (ch:=ch) hch (λb o hL hb hc e n=>u.keep b o e n (λz=>(Dx.mp (I.pq b z)).elim hL hb) hc) (λb o _ _ hc e n=>u.any e n hc) (λb o hc e n=>u.free b o e n hc) (λb o hc e=>u.there b o e hc) u.tups u.frzs u.tbls (λm' hm=>by
  obtain ⟨o',es',ep',ho',r'⟩:=hm
  rw[ho] at ho';cases ho'
  exact ⟨_,es',ep',hL,r'⟩) hok hg
theorem Inv.turned {t':Nat}{it:Addr}(I:Inv X pins σ H s)(k:∀b o,b≠it->s.heap.get? b=some o->h'.get? b=some o)(hn:H it=none)(hL:it≠X.env.locals)
  (h1:it∈X.ex\/X.s₀.heap.objs.size<=it) (h2:∀x c,X.env.cells.lookup x=some c->c≠it) (h3:∀p∈X.pn++pins,p.1≠it):Inv X pins σ H { s with heap:=h',toks:=t' }:=by
 have nit:∀b u,H b=some u->b≠it:=λb u e z=>by rw[z,hn] at e;cases e
 refine I.step (g':=s.gens) (d':=s.drawn) (ch:=[it]) (λb hb =>?_) (λb o _ _ hc e _=>k b o (λz=>hc (by simp[z])) e) (λb o _ _ hc e _=>⟨o.slots,k b o (λz=>hc (by simp[z])) e⟩) (λ_ _ _ _ n=>n)
  (λb o hc e=>⟨o,k b o (λz=>hc (by simp[z])) e⟩) (λ_ _ e=>e) (λ_ _ _ e=>e) (λb ps e=>⟨#[],by rw[e];simp⟩) (λm hm =>?_) (λb u e =>?_) I.bare
 ·have e:b=it:=by simpa using hb
  subst e
  exact ⟨h1,hL,h2,h3⟩
 ·obtain ⟨o,es,ep,ho,r⟩:=hm
  exact ⟨o,es,ep,k _ o (EB hL) ho,r⟩
 ·refine (I.hok b u e).stay (λc v hc q=>k c v ?_ q) (λ_ q=>q) λ_ _ q=>q
  rcases hc with z | z
  ·rw[z];exact nit b u e
  ·exact nit c _ z
theorem Inv.tok (I:Inv X pins σ H s)(t:Nat):Inv X pins σ H { s with toks:=t }:=I.un (h':=s.heap) (t':=t) Un.refl I.hok
theorem Inv.kept {t':Nat}(I:Inv X pins σ H s)(k:∀b u,s.heap.get? b=some u->h'.get? b=some u):Inv X pins σ H { s with heap:=h',toks:=t' }:=I.un (Un.kept k) (I.hok.kept k)
theorem Inv.laid {a:Addr}{o:HO}{t':Nat}(I:Inv X pins σ H s)(k:∀b u,s.heap.get? b=some u->h'.get? b=some u)(hp:s.heap.objs.size<=a)(new:bB X.prog X.w (upd H a o) h' a o) :
  Inv X pins σ (upd H a o) { s with heap:=h',toks:=t' }:=I.un (Un.laid k hp (I.hok.fresh hp)) (I.hok.laid k hp new)
theorem Inv.write {x e:Addr}{o:HO}{t':Nat}(I:Inv X pins σ H s)(mu:Mut (H x))(he:e=x\/H e=some (.own x))(k:∀b u,b≠e->s.heap.get? b=some u->h'.get? b=some u)(heo:∃u,h'.get? e=some u)
  (new:bB X.prog X.w (upd H x o) h' x o):Inv X pins σ (upd H x o) { s with heap:=h',toks:=t' }:=I.un (Un.write mu he k heo) (I.hok.write mu he k heo new)
theorem Inv.iL {pins':List (Addr×Obj)}(I:Inv X pins σ H s)(h:∀p∈pins',s.heap.get? p.1=some p.2/\H p.1=none/\p.1≠X.env.locals/\p.1∉X.fs/\∀v,p.2.data ≠ .cell v):Inv X pins' σ H s :=
 ⟨I.ok,I.os,I.bare,I.base,I.loc,I.cell,I.free,I.freeC,λp hp=>(Dh.mp hp).elim (λz=>I.pin p (DM _ z)) (h p),I.hok,I.len⟩
theorem qx {N:List Str}(hN:N.Nodup){i j:Nat}{x:Str}(a:N[i]? = some x)(b:N[j]? = some x):i=j:=by
 obtain ⟨h1,e1⟩:=Di.mp a
 obtain ⟨h2,e2⟩:=Di.mp b
 exact (J9 hN).mp (e1.trans e2.symm)
theorem vo {M:Model}{A:Ep}{E:C9->Dg->Prop}{i:Nat}{x:Str}{v:V}{u:C9}{Q:Unit->Dg->Prop}(I:Inv X pins σ H s)(hN:X.N.Nodup)(hi:X.N[i]? = some x)(hx:Loc X.env.scope x)(r:RelV v u)
  (h:∀s',Inv X pins (σ.set i (some v)) H s'->(∃a,Heap.SameBut a s.heap s'.heap/\(a=X.env.locals\/X.env.cells.lookup x=some a))->Q () s') (hf:X.fn x=true\/X.env.scope.names.lookup x=some .local:=by first | exact .inl rfl | exact .inr rfl | assumption):DI M A (storeName X.env x u) Q E s:=by
 obtain ⟨m,hn,hl⟩:=id I.loc
 have hcls:(X.env.scope.kind == .class || (X.env.scope.kind == .module && X.env.locals != X.env.globals))=false:=by rw[I.ok.kind];rfl
 have hiσ:i<σ.length:=by rw[I.len];exact (Di.mp hi).1
 have cne:=I.cne
 have tracked:∀{a:Addr} {h':Heap},(∃o,s.heap.get? a=some o/\H a=none)->Heap.SameBut a s.heap h'->HOk X.prog X.w H h':=λ{a h'} ha hs b ob e=>by
  obtain ⟨_,_,hfree⟩:=ha
  refine (I.hok b ob e).stay (λc w' hc q=>(hs.2 c ?_).trans q) (λ_ q=>q) λ_ _ q=>q
  rintro rfl
  rcases hc with rfl | hc
  ·rw[hfree] at e;cases e
  ·rw[hfree] at hc;cases hc
 rcases hx with hk | hk
 ·refine wpAny_storeName_local hk hn (λh' hn' hs =>?_) hcls
  obtain ⟨oL,_,_,hoL,_⟩:=id hn
  refine h _ ⟨I.ok,I.os,I.bare,⟨λb o e n hb hx =>?_,λb o e n hb hx =>?_,I.base.free,λb o e hx =>?_,I.base.tups,I.base.frzs,I.base.tbls⟩,⟨_,hn',λj y v' e1 e2 e3 =>?_⟩,λy c e =>?_,I.free,I.freeC,λp hp =>?_,tracked ⟨oL,hoL,I.free⟩ hs,by simpa using I.len⟩ ⟨_,hs,.inl rfl⟩
  ·exact (hs.2 b (Dw (DC (Ds e) I.ok.above))).trans (I.base.keep b o e n hb hx)
  ·obtain ⟨sl,e1⟩:=I.base.slot b o e n hb hx
   exact ⟨sl,(hs.2 b (Dw (DC (Ds e) I.ok.above))).trans e1⟩
  ·obtain ⟨o',e1⟩:=I.base.there b o e hx
   exact ⟨o',(hs.2 b (Dw (DC (Ds e) I.ok.above))).trans e1⟩
  ·by_cases hj:j=i
   ·subst hj
    rw[hi] at e1;cases e1
    rw[FK hiσ] at e2
    cases e2
    exact ⟨u,r,.inl ⟨hk,by simp⟩⟩
   ·rw[Gb (EB hj)] at e2
    obtain ⟨u',r',q⟩:=hl j y v' e1 e2 e3
    refine ⟨u',r',?_⟩
    rcases q with ⟨k,e⟩ | ⟨k,c,e,z⟩
    ·refine .inl ⟨k,?_⟩
     have:y≠x:=λe=>hj (qx hN e1 (e ▸ hi))
     simp[this,e]
    ·exact .inr ⟨k,c,e,z.sameBut hs (cne y c e)⟩
  ·obtain ⟨w',z⟩:=I.cell y c e
   exact ⟨w',z.sameBut hs (cne y c e)⟩
  ·obtain ⟨e,n,ne,nf,d⟩:=I.pin p hp
   exact ⟨(hs.2 p.1 ne).trans e,n,ne,nf,d⟩
 ·have hfn:X.fn x=true:=by
   rcases hf with z | z
   ·exact z
   ·rw[z] at hk;cases hk
  obtain ⟨c,hc⟩:=I.ok.has x (.inl hk)
  obtain ⟨w',z⟩:=I.cell x c hc
  refine wpAny_storeName_cell I.ok.kind hk hc z (λh' hc' hs =>?_)
  obtain ⟨oc,hoc,hocd⟩:=id z
  refine h { s with heap:=h' } ⟨I.ok,I.os,I.bare,⟨λb o e n hb hx =>?_,λb o e n hb hx =>?_,I.base.free,λb o e hx =>?_,I.base.tups,I.base.frzs,I.base.tbls⟩,⟨m,hn.sameBut hs (EB (cne x c hc)),λj y v' e1 e2 e3 =>?_⟩,λy c' e =>?_,I.free,I.freeC,λp hp =>?_,tracked ⟨oc,hoc,I.freeC x c hc⟩ hs,by simpa using I.len⟩ ⟨c,hs,.inr hc⟩
  ·exact (hs.2 b (Dw (DC (Ds e) (I.ok.cab x c hfn hc)))).trans (I.base.keep b o e n hb hx)
  ·obtain ⟨sl,e1⟩:=I.base.slot b o e n hb hx
   exact ⟨sl,(hs.2 b (Dw (DC (Ds e) (I.ok.cab x c hfn hc)))).trans e1⟩
  ·obtain ⟨o',e1⟩:=I.base.there b o e hx
   exact ⟨o',(hs.2 b (Dw (DC (Ds e) (I.ok.cab x c hfn hc)))).trans e1⟩
  ·by_cases hj:j=i
   ·subst hj
    rw[hi] at e1;cases e1
    rw[FK hiσ] at e2
    cases e2
    exact ⟨u,r,.inr ⟨.inl hk,c,hc,hc'⟩⟩
   ·rw[Gb (EB hj)] at e2
    obtain ⟨u',r',q⟩:=hl j y v' e1 e2 e3
    refine ⟨u',r',?_⟩
    rcases q with q | ⟨k,c',e,z'⟩
    ·exact .inl q
    ·refine .inr ⟨k,c',e,z'.sameBut hs ?_⟩
     rintro rfl
     exact hj (qx hN e1 (I.ok.inj _ _ _ e hc ▸ hi))
  ·by_cases hcc:c'=c
   ·subst hcc;exact ⟨_,hc'⟩
   ·obtain ⟨w2,z2⟩:=I.cell y c' e
    exact ⟨w2,z2.sameBut hs hcc⟩
  ·obtain ⟨e,n,ne,nf,d⟩:=I.pin p hp
   refine ⟨(hs.2 p.1 ?_).trans e,n,ne,nf,d⟩
   intro q
   rw[q,hoc] at e
   have q':oc=p.2:=DW e
   exact d w' (by rw[<- q'];exact hocd)
theorem qy {M:Model}{A:Ep}{E:C9->Dg->Prop}{i:Nat}{x:Str}{v:V}{u:C9}{Q:Unit->Dg->Prop}(I:Inv X pins σ H s)(hN:X.N.Nodup)(hi:X.N[i]? = some x)(hx:Loc X.env.scope x)(r:RelV v u)
  (h:∀s',Inv X pins (σ.set i (some v)) H s'->Q () s') (hf:X.fn x=true\/X.env.scope.names.lookup x=some .local:=by first | exact .inl rfl | exact .inr rfl | assumption):DI M A (storeName X.env x u) Q E s :=
 vo I hN hi hx r (λs' I' _=>h s' I') hf
theorem Inv.Ce {s':Dg}{ch:List Addr}(I:Inv X pins σ H s)(ho:s'.os=s.os)(u:Un (frs X.stack) ch H H' s.heap s'.heap)(hok:HOk X.prog X.w H' s'.heap)(hg:AllBare s'.gens)
  (hch:∀b∈ch,(b∈X.ex\/X.s₀.heap.objs.size<=b)/\b≠X.env.locals/\(∀x c,X.env.cells.lookup x=some c->c≠b)/\∀p∈X.pn++pins,p.1≠b):Inv X pins σ H' s':=by
 obtain ⟨h',g',d',t',o'⟩:=s'
 have e:o'=s.os:=ho
 subst e
 exact I.call (g':=g') (t':=t') (d':=d') u hok hg hch
end
abbrev XK:=C9->Option Addr->Hp->Prop
abbrev St:=List (Option V)
abbrev VK:=V->Hp->Prop
abbrev TE:=St->Hp->VK->Prop
abbrev TT:=St->Hp->(Bool->Hp->Prop)->Prop
abbrev TA:=St->Hp->(List V->Hp->Prop)->Prop
structure Ends where
 nx:St->Hp->Prop
 rt:VK
 bk:St->Hp->Prop:=λ_ _=>False
 ct:St->Hp->Prop:=λ_ _=>False
abbrev TS:=Ends->St->Hp->Prop
def EP (X:Cx)(pins:List (Addr×Obj))(σ:St)(Q:VK)(u:C9)(s':Dg):Prop:=∃v H',Inv X pins σ H' s'/\RelV v u/\Q v H'
def TP (X:Cx)(pins:List (Addr×Obj))(σ:St)(Q:Bool->Hp->Prop)(b:Bool)(s':Dg):Prop:=∃H',Inv X pins σ H' s'/\Q b H'
def AP (X:Cx)(pins:List (Addr×Obj))(σ:St)(Q:List V->Hp->Prop)(us:List C9)(s':Dg):Prop:=∃vs H',Inv X pins σ H' s'/\Vals vs us/\Q vs H'
def SP (X:Cx)(pins:List (Addr×Obj))(D:Ends)(f:Flow)(s':Dg):Prop :=
 match f with
 | .next=>∃σ' H',Inv X pins σ' H' s'/\D.nx σ' H'
 | .brk=>∃σ' H',Inv X pins σ' H' s'/\D.bk σ' H'
 | .cont=>∃σ' H',Inv X pins σ' H' s'/\D.ct σ' H'
 | .ret u=>∃v σ' H',Inv X pins σ' H' s'/\RelV v u/\D.rt v H'
def PE (X:Cx)(e:Expr)(t:TE):Prop :=
 ∀(pins:List (Addr×Obj)) (s:Dg) (σ:St) (H:Hp) (Q:VK),Inv X pins σ H s->t σ H Q->DI (DS X.prog X.w) X.A (eval e X.env) (EP X pins σ Q) X.xe s
def PT (X:Cx)(e:Expr)(t:TT):Prop :=
 ∀(pins:List (Addr×Obj)) (s:Dg) (σ:St) (H:Hp) (Q:Bool->Hp->Prop),Inv X pins σ H s->t σ H Q->DI (DS X.prog X.w) X.A (isTrue e X.env (eval e X.env)) (TP X pins σ Q) X.xe s
def PW (X:Cx)(e:Expr)(t:TT):Prop :=
 ∀(whole:Sem C9) (pins:List (Addr×Obj)) (s:Dg) (σ:St) (H:Hp) (Q:Bool->Hp->Prop),Inv X pins σ H s->t σ H Q->DI (DS X.prog X.w) X.A (isTrue e X.env whole) (TP X pins σ Q) X.xe s
theorem PW.pt {X:Cx}{e:Expr}{t:TT}(h:PW X e t):PT X e t:=h _
def PA (X:Cx)(es:List Expr)(t:TA):Prop :=
 ∀(pos:Pos) (pins:List (Addr×Obj)) (s:Dg) (σ:St) (H:Hp) (Q:List V->Hp->Prop),Inv X pins σ H s->t σ H Q->DI (DS X.prog X.w) X.A (spliced (Ih pos (Em es X.env))) (AP X pins σ Q) X.xe s
def PS (X:Cx)(st:Stmt)(t:TS):Prop :=
 ∀(pins:List (Addr×Obj)) (s:Dg) (σ:St) (H:Hp) (D:Ends),Inv X pins σ H s->t D σ H->DI (DS X.prog X.w) X.A (exec st X.env) (SP X pins D) X.xe s
def PSs (X:Cx)(st:List Stmt)(t:TS):Prop :=
 ∀(pins:List (Addr×Obj)) (s:Dg) (σ:St) (H:Hp) (D:Ends),Inv X pins σ H s->t D σ H->DI (DS X.prog X.w) X.A (execs st X.env) (SP X pins D) X.xe s
theorem thn {α:Type}{t:Sem α}{Q Q':α -> Dg->Prop}{M:Model}{A:Ep}{E:C9->Dg->Prop}{s:Dg}(h:DI M A t Q E s)(hQ:∀a s,Q a s->Q' a s):DI M A t Q' E s:=Gi h hQ λ_ _ x=>x
section
variable  {X:Cx}
theorem bin {a b:Expr}{ta tb:TE}(ha:PE X a ta)(hb:PE X b tb){pins:List (Addr×Obj)}{s:Dg}{σ:St}{H:Hp}{R:V->V->Hp->Prop}(I:Inv X pins σ H s)(h:ta σ H λx H1=>tb σ H1 λy H2=>R x y H2)
  {α:Type} {Q:α -> Dg->Prop} {f:C9->C9->Sem α}
  (hf:∀v u s2 x y H2,Inv X pins σ H2 s2->RelV x v->RelV y u->R x y H2->DI (DS X.prog X.w) X.A (f v u) Q X.xe s2) :
  DI (DS X.prog X.w) X.A (eval a X.env) (λv s₁=>DI (DS X.prog X.w) X.A (eval b X.env) (λu s₂=>DI (DS X.prog X.w) X.A (f v u) Q X.xe s₂) X.xe s₁) X.xe s:=by
 refine thn (ha pins s σ H _ I h) λv s1 ⟨x,H1,I1,r1,q1⟩ =>?_
 refine thn (hb pins s1 σ H1 _ I1 q1) λu s2 ⟨y,H2,I2,r2,q2⟩ =>?_
 exact hf v u s2 x y H2 I2 r1 r2 q2
def wR (i:Nat):TE:=λσ H Q=>∃v,σ[i]? = some (some v)/\Q v H
def tC (v:V):TE:=λ_ H Q=>Q v H
theorem Bf {i:Nat}{x:Str}{pos:Pos}(hN:X.N[i]? = some x)(hv:Vis X.env.scope x)(hd:(x == ("__debug__" : Str))=false:=by decide)(hcd:(x == ("__classdict__" : Str))=false:=by decide):PE X (.Name x pos) (wR i):=by
 intro pins s σ H Q I h
 obtain ⟨v,e,h⟩:=h
 obtain ⟨m,hn,hl⟩:=I.loc
 obtain ⟨u,r,l⟩:=hl i x v hN e hv
 have fin:EP X pins σ Q u s:=⟨v,H,I,r,h⟩
 rcases l with ⟨hk,hm⟩ | ⟨hk,c,hc,hcell⟩
 ·exact MH (wpAny_loadName_local I.ok.kind hk hn hm fin) hd
 ·rcases hk with hk | hk
  ·exact MH (wpAny_loadName_cell I.ok.kind hk hc hcell fin) hd
  ·exact MH (wpAny_loadName_free I.ok.kind hk hc hcell fin hcd) hd
theorem ak {i j pos}:PE X (.Constant (.int i) j pos) (tC (.int i)):=λ_ _ _ H _ I h=>wpAny_Constant_int ⟨.int i,H,I.tok _,⟨_,rfl⟩,h⟩
theorem dU {b j pos}:PE X (.Constant (.bool b) j pos) (tC (.bl b)):=λ_ _ _ H _ I h=>Constant_bool ⟨.bl b,H,I,rfl,h⟩
def Gl (X:Cx)(x:Str):Prop:=X.env.kindOf x=some .globalImplicit
theorem zd {E:C9->Dg->Prop}{pins:List (Addr×Obj)}{s:Dg}{σ:St}{H:Hp}{x:Str}{u:C9}{pos:Pos}{Q:C9->Dg->Prop}(I:Inv X pins σ H s)(hg:Gl X x)(hm:X.mg x=some u)(h:Q u s)
  (hd:(x == ("__debug__" : Str))=false:=by decide):DI (DS X.prog X.w) X.A (eval (.Name x pos) X.env) Q E s :=
 Jj I.ok.kind hg (Calls.loadGlobal_global (by rw[I.ok.glob];exact I.mod.glob.keeps I.bk) hm h) hd
theorem dW {E:C9->Dg->Prop}{pins:List (Addr×Obj)}{s:Dg}{σ:St}{H:Hp}{x:Str}{u:C9}{pos:Pos}{Q:C9->Dg->Prop}(I:Inv X pins σ H s)(hg:Gl X x)(hm:X.mg x=none)(hv:ED x=some u)(h:Q u s)
  (hn:x ≠ "__name__" := by decide) (hd:(x == ("__debug__" : Str))=false:=by decide):DI (DS X.prog X.w) X.A (eval (.Name x pos) X.env) Q E s:=by
 obtain ⟨mb,h1,h2⟩:=I.mod.blt
 exact Jj I.ok.kind hg (Calls.loadGlobal_builtin (by rw[I.ok.glob];exact I.mod.glob.keeps I.bk) hm (by rw[I.ok.blt];exact h1.keeps I.bk) ((h2 x hn).trans hv) h) hd
theorem ze {x:Str}{v:V}{u:C9}{pos:Pos}(hg:Gl X x)(hm:X.mg x=none)(hv:ED x=some u)(r:RelV v u)(hn:x ≠ "__name__" := by decide)(hd:(x == ("__debug__" : Str))=false:=by decide):PE X (.Name x pos) (tC v) :=
 λ_ _ _ H _ I h=>dW I hg hm hv ⟨v,H,I,r,h⟩ hn hd
variable  {a b:Expr}{ta tb:TE}{pos:Pos}
def PC (X:Cx)(op:CmpOp)(a b:Expr)(t:TE):Prop :=
 ∀(pins:List (Addr×Obj)) (s:Dg) (σ:St) (H:Hp) (Q:VK),Inv X pins σ H s->t σ H Q →
  DI (DS X.prog X.w) X.A (eval a X.env) (λv s₁=>DI (DS X.prog X.w) X.A (eval b X.env) (λu s₂=>DI (DS X.prog X.w) X.A (Fj op v u) (EP X pins σ Q) X.xe s₂) X.xe s₁) X.xe s
theorem wU (b:Expr){op:CmpOp}(h:op ≠ .In)(h2:op ≠ .NotIn):behindInMarks op b=false:=by
 have e1:(op == CmpOp.In)=false:=by cases op <;> first | rfl | exact absurd rfl h
 have e2:(op == CmpOp.NotIn)=false:=by cases op <;> first | rfl | exact absurd rfl h2
 cases b <;> simp[behindInMarks,e1,e2]
def tB (t:TE):TT:=λσ H Q=>t σ H λx H1=>∃c,x = .bl c/\Q c H1
theorem sk {op:CmpOp}{t:TE}(h:PC X op a b t)(h1:behindInMarks op b=false:=by first | exact wU _ (by decide) (by decide) | rfl):PT X (.Compare a [op] [b] pos) (tB t):=by
 intro pins s σ H Q I hw
 refine KH (thn (h pins s σ H _ I hw) λv s1 h1=>thn h1 λu s2 h2=>thn h2 λc s3 ⟨x,H1,I1,r1,q1⟩ =>?_) h1
 obtain ⟨d,rfl,q⟩:=q1
 cases r1
 exact FQ ⟨H1,I1,q⟩
theorem fV {e:Expr}{t:TE}(h:PE X e t)(he:∀whole,isTrue e X.env whole=(do let v ← whole;standAt e.pos;Mu [v] (truthy v)):=by intro _;rfl):PT X e (tB t):=by
  intro pins s σ H Q I hw
  refine isTrue_plain (thn (h pins s σ H _ I hw) λv s1 ⟨x,H1,I1,r1,q1⟩ =>?_) (he _)
  obtain ⟨d,rfl,q⟩:=q1
  cases r1
  exact FQ ⟨H1,I1,q⟩
variable  {tA tB':TT}{rest:List Expr}
def tAnd (t u:TT):TT:=λσ H Q=>t σ H λc H1=>if c=true then u σ H1 Q else Q false H1
def tOr (t u:TT):TT:=λσ H Q=>t σ H λc H1=>if c=true then Q true H1 else u σ H1 Q
def tNot (t:TT):TT:=λσ H Q=>t σ H λc H1=>Q (!c) H1
theorem fj (ha:PT X a tA):PW X (.BoolOp .And [a] pos) tA:=by
 intro wh pins s σ H Q I h
 refine isTrue_and (thn (ha pins s σ H Q I h) λc s1 e =>?_)
 cases c with
 | true=>exact isTrue_and_nil e
 | false=>exact e
theorem jF (ha:PT X a tA):PW X (.BoolOp .Or [a] pos) tA:=by
 intro wh pins s σ H Q I h
 refine isTrue_or (thn (ha pins s σ H Q I h) λc s1 e =>?_)
 cases c with
 | false=>exact isTrue_or_nil e
 | true=>exact e
theorem fW (ha:PT X a tA)(hb:PW X (.BoolOp .And (b :: rest) pos) tB'):PW X (.BoolOp .And (a :: b :: rest) pos) (tAnd tA tB'):=by
 intro wh pins s σ H Q I h
 refine isTrue_and (thn (ha pins s σ H _ I h) λc s1 ⟨H1,I1,q1⟩ =>?_)
 cases c with
 | true=>exact hb wh pins s1 σ H1 Q I1 q1
 | false=>exact ⟨H1,I1,q1⟩
theorem jZ (ha:PT X a tA)(hb:PW X (.BoolOp .Or (b :: rest) pos) tB'):PW X (.BoolOp .Or (a :: b :: rest) pos) (tOr tA tB'):=by
 intro wh pins s σ H Q I h
 refine isTrue_or (thn (ha pins s σ H _ I h) λc s1 ⟨H1,I1,q1⟩ =>?_)
 cases c with
 | true=>exact ⟨H1,I1,q1⟩
 | false=>exact hb wh pins s1 σ H1 Q I1 q1
theorem jG (ha:PT X a tA):PT X (.UnaryOp .Not a pos) (tNot tA):=by
 intro pins s σ H Q I h
 exact isTrue_not (ha pins s σ H (λc H1=>Q (!c) H1) I h)
def Cf (ta tb:TE):TE:=λσ H Q=>ta σ H λx H1=>∃c,x = .bl c/\if c=true then tb σ H1 Q else Q (.bl false) H1
theorem wV {op}{t:TE}(h:PE X a t):PE X (.BoolOp op [a] pos) t:=λpins s σ H Q I hw=>BoolOp_one (h pins s σ H Q I hw)
theorem wW (ha:PE X a ta)(hb:PE X (.BoolOp .And (b :: rest) pos) tb):PE X (.BoolOp .And (a :: b :: rest) pos) (Cf ta tb):=by
 intro pins s σ H Q I h
 refine BoolOp_and (thn (ha pins s σ H _ I h) λv s1 ⟨x,H1,I1,r1,q1⟩ =>?_)
 obtain ⟨c,rfl,q1⟩:=q1
 cases r1
 refine FQ ?_
 cases c with
 | true=>exact hb pins s1 σ H1 Q I1 q1
 | false=>exact ⟨.bl false,H1,I1,rfl,q1⟩
def tIf (t:TT)(ta tb:TE):TE:=λσ H Q=>t σ H λc H1=>if c=true then ta σ H1 Q else tb σ H1 Q
theorem wX {c:Expr}(hc:PT X c tA)(ha:PE X a ta)(hb:PE X b tb):PE X (.IfExp c a b pos) (tIf tA ta tb):=by
 intro pins s σ H Q I h
 refine wpAny_IfExp (thn (hc pins s σ H _ I h) λd s1 ⟨H1,I1,q1⟩ =>?_)
 cases d with
 | true=>exact ha pins s1 σ H1 Q I1 q1
 | false=>exact hb pins s1 σ H1 Q I1 q1
end
def SqL (K:Df)(H:Hp)(a:Addr)(xs:List V):Prop :=
 Rd H a (.lst xs) ∨
  ∃(o:Obj) (its:Array C9) (n:Nat),K.lookup a=some o/\o.cls = .type "list" /\ o.dict=none/\o.data = .seq its n/\its.size<=Dm/\Vals xs its.toList
def SqT (K:Df)(H:Hp)(a:Addr)(xs:List V):Prop :=
 Rd H a (.tup xs) ∨
  ∃(o:Obj) (its:Array C9) (n:Nat),K.lookup a=some o/\o.cls = .type "tuple" /\ o.data = .seq its n/\its.size<=Dm/\Vals xs its.toList
def absV:C9->Option V
 | .none=>some .non
 | .bool b=>some (.bl b)
 | .int i _=>some (.int i)
 | .str x _=>some (.str x)
 | .bytes b _=>some (.byt b)
 | .float b _=>some (.flt b)
 | .ref a=>some (.ref a)
 | .type n=>some (.ty n)
 | _=>none
theorem RelV.abs {x:V}{u:C9}(r:RelV x u):absV u=some x:=by
 cases x with
 | non=>cases r;rfl
 | bl _=>cases r;rfl
 | int _=>obtain ⟨t,rfl⟩:=r;rfl
 | str _=>obtain ⟨t,rfl⟩:=r;rfl
 | byt _=>obtain ⟨t,rfl⟩:=r;rfl
 | flt _=>obtain ⟨t,rfl⟩:=r;rfl
 | ref _=>cases r;rfl
 | ty _=>cases r;rfl
theorem RelV.inj {x y:V}{u:C9}(r:RelV x u)(q:RelV y u):x=y:=DW (r.abs.symm.trans q.abs)
theorem Vals.inj:∀{xs ys:List V} {us:List C9},Vals xs us->Vals ys us->xs=ys
 | _,_,_,.nil,.nil=>rfl
 | _,_,_,.cons r t,.cons r' t'=>by rw[r.inj r',Vals.inj t t']
section
variable  {X:Cx}{pins:List (Addr×Obj)}{σ:St}{H:Hp}{s:Dg}{a:Addr}{xs ys:List V}
theorem SqL.of {K:Df}(h:H a=some (.lst xs)):SqL K H a xs :=.inl (.inl h)
theorem SqT.of {K:Df}(h:H a=some (.tup xs)):SqT K H a xs :=.inl (.inl h)
theorem Inv.list (I:Inv X pins σ H s)(h:SqL X.K H a xs):∃its:List C9,Vals xs its/\PlainL s.heap a its.toArray/\xs.length<=Dm:=by
 rcases h with h | ⟨o,its,n,hk,hc,hd,hs,hz,r⟩
 ·obtain ⟨z,its,n,r,e⟩:=h.ok I.hok
  exact ⟨its,r,⟨_,n,e,rfl,rfl,rfl⟩,z⟩
 ·refine ⟨its.toList,r,⟨o,n,I.kIn a o hk,hc,hd,by simpa using hs⟩,?_⟩
  have e:=r.length
  simp only[Dl] at e
  lia
theorem Inv.tuple (I:Inv X pins σ H s)(h:SqT X.K H a xs):∃its:List C9,Vals xs its/\IsTup s.heap a its.toArray/\xs.length<=Dm:=by
 rcases h with h | ⟨o,its,n,hk,hc,hs,hz,r⟩
 ·obtain ⟨z,its,r,p⟩:=h.ok I.hok
  exact ⟨its,r,p.tup,z⟩
 ·refine ⟨its.toList,r,⟨o,I.kIn a o hk,hc,n,by simpa using hs⟩,?_⟩
  have e:=r.length
  simp only[Dl] at e
  lia
theorem Inv.lA (I:Inv X pins σ H s)(h:SqL X.K H a xs)(h':SqL X.K H a ys):xs=ys:=by
 obtain ⟨its,r,⟨o,n,e,_,_,d⟩,_⟩:=I.list h
 obtain ⟨its',r',⟨o',n',e',_,_,d'⟩,_⟩:=I.list h'
 rw[e] at e';cases e'
 rw[d] at d'
 injection d' with d1 _
 have:its=its':=by simpa using congrArg Array.toList d1
 subst this
 exact r.inj r'
theorem Inv.gK (I:Inv X pins σ H s)(h:SqT X.K H a xs)(h':SqT X.K H a ys):xs=ys:=by
 obtain ⟨its,r,⟨o,e,_,n,d⟩,_⟩:=I.tuple h
 obtain ⟨its',r',⟨o',e',_,n',d'⟩,_⟩:=I.tuple h'
 rw[e] at e';cases e'
 rw[d] at d'
 injection d' with d1 _
 have:its=its':=by simpa using congrArg Array.toList d1
 subst this
 exact r.inj r'
end
abbrev Cx.nh (X:Cx)(E:C9->Dg->Prop):Cx:={ X with xe:=E }
abbrev Cx.nox (X:Cx):Cx:=X.nh λ_ _=>False
theorem Cx.Ok.nh {X:Cx}(ok:X.Ok)(E:C9->Dg->Prop):(X.nh E).Ok :=
 ⟨ok.mod,ok.kind,ok.glob,ok.blt,ok.above,ok.inj,ok.has,ok.cab,ok.hd,ok.frames,ok.stk,ok.exf,ok.bs,ok.bsz,ok.noex,ok.exfs,ok.funs,ok.frf⟩
theorem Cx.Ok.fX {X:Cx}{E:C9->Dg->Prop}(ok:(X.nh E).Ok):X.Ok :=
 ⟨ok.mod,ok.kind,ok.glob,ok.blt,ok.above,ok.inj,ok.has,ok.cab,ok.hd,ok.frames,ok.stk,ok.exf,ok.bs,ok.bsz,ok.noex,ok.exfs,ok.funs,ok.frf⟩
section
variable  {X:Cx}{pins:List (Addr×Obj)}{σ:St}{H:Hp}{s:Dg}{E:C9->Dg->Prop}
theorem Inv.nh (I:Inv X pins σ H s)(E:C9->Dg->Prop):Inv (X.nh E) pins σ H s:=⟨I.ok.nh E,I.os,I.bare,I.base,I.loc,I.cell,I.free,I.freeC,I.pin,I.hok,I.len⟩
theorem Inv.fX (I:Inv (X.nh E) pins σ H s):Inv X pins σ H s:=⟨I.ok.fX,I.os,I.bare,I.base,I.loc,I.cell,I.free,I.freeC,I.pin,I.hok,I.len⟩
theorem SP.fX {D:Ends}{f:Flow}{s':Dg}(h:SP (X.nh E) pins D f s'):SP X pins D f s':=by
 cases f with
 | next=>obtain ⟨σ',H',I,q⟩:=h;exact ⟨σ',H',I.fX,q⟩
 | brk=>obtain ⟨σ',H',I,q⟩:=h;exact ⟨σ',H',I.fX,q⟩
 | cont=>obtain ⟨σ',H',I,q⟩:=h;exact ⟨σ',H',I.fX,q⟩
 | ret u=>obtain ⟨v,σ',H',I,r,q⟩:=h;exact ⟨v,σ',H',I.fX,r,q⟩
theorem PSs.nox {st:List Stmt}{t:TS}(h:PSs X.nox st t):PSs X st t:=λpins s σ H D I hw =>
 Gi (h pins s σ H D (I.nh _) hw) (λ_ _ q=>q.fX) λ_ _ z=>False.elim z
end
section
variable  {X:Cx}{st:Stmt}{rest:List Stmt}{t u:TS}{e:Expr}{te:TE}{pos:Pos}
def Cg:TS:=λD σ H=>D.nx σ H
def Ci (t u:TS):TS:=λD σ H=>t { D with nx:=u D } σ H
theorem aL:PSs X [] Cg:=λ_ _ σ H _ I h=>Jg ⟨σ,H,I,h⟩
theorem ai (h1:PS X st t)(h2:PSs X rest u):PSs X (st :: rest) (Ci t u):=by
 intro pins s σ H D I h
 refine wpAny_execs_cons (thn (h1 pins s σ H { D with nx:=u D } I h) λf s1 q =>?_)
 cases f with
 | next =>
  obtain ⟨σ',H',I',q⟩:=q
  exact h2 pins s1 σ' H' D I' q
 | ret v=>exact q
 | brk=>exact q
 | cont=>exact q
theorem aq (h1:PS X st t):PSs X [st] t:=by
 intro pins s σ H D I h
 refine wpAny_execs_cons (thn (h1 pins s σ H D I h) λf s1 q =>?_)
 cases f with
 | next=>exact Jg q
 | ret v=>exact q
 | brk=>exact q
 | cont=>exact q
theorem Inv.quiet {pins:List (Addr×Obj)}{σ:St}{H:Hp}{s:Dg}(I:Inv X pins σ H s):interactive X.env=false:=by simp[interactive,I.ok.kind]
def Cj (te:TE):TS:=λD σ H=>te σ H λ_ H1=>D.nx σ H1
theorem bX (he:PE X e te)(hs:swapsWith e none pos.line X.env=pure false:=by rfl):PS X (.Expr e pos) (Cj te):=by
 intro pins s σ H D I h
 exact wpAny_Expr_any (thn (he pins s σ H _ I h) λv s1 ⟨x,H1,I1,r1,q1⟩=>⟨σ,H1,I1,q1⟩) I.quiet hs
def tRet (te:TE):TS:=λD σ H=>te σ H D.rt
theorem aJ (he:PE X e te):PS X (.Return (some e) pos) (tRet te):=by
 intro pins s σ H D I h
 exact wpAny_Return_some (thn (he pins s σ H _ I h) λv s1 ⟨x,H1,I1,r1,q1⟩=>⟨x,σ,H1,I1,r1,q1⟩)
def tIfS (c:TT)(t u:TS):TS:=λD σ H=>c σ H λb H1=>if b=true then t D σ H1 else u D σ H1
theorem bh {c:Expr}{a b:List Stmt}{tc:TT}(hc:PT X c tc)(ha:PSs X a t)(hb:PSs X b u):PS X (.If c a b pos) (tIfS tc t u):=by
 intro pins s σ H D I h
 refine wpAny_If (thn (hc pins s σ H _ I h) λd s1 ⟨H1,I1,q1⟩ =>?_)
 cases d with
 | true=>exact ha pins s1 σ H1 D I1 q1
 | false=>exact hb pins s1 σ H1 D I1 q1
def Bg:TS:=λ_ _ _=>False
theorem nJ {sts:List Stmt}:PSs X sts Bg:=λ_ _ _ _ _ _ h=>h.elim
end
abbrev TG:=V->St->Hp->(St->Hp->Prop)->Prop
abbrev TGs:=List V->St->Hp->(St->Hp->Prop)->Prop
def PG (X:Cx)(target:Expr)(t:TG):Prop :=
 ∀(pins:List (Addr×Obj)) (s:Dg) (σ:St) (H:Hp) (v:V) (u:C9) (Q:St->Hp->Prop),Inv X pins σ H s->RelV v u->t v σ H Q →
  DI (DS X.prog X.w) X.A (assign target X.env u) (λ_ s'=>∃σ' H',Inv X pins σ' H' s'/\Q σ' H') X.xe s
def PGs (X:Cx)(ts:List Expr)(t:TGs):Prop :=
 ∀(pins:List (Addr×Obj)) (s:Dg) (σ:St) (H:Hp) (vs:List V) (us:List C9) (Q:St->Hp->Prop),Inv X pins σ H s->Vals vs us->t vs σ H Q →
  DI (DS X.prog X.w) X.A (assignInOrder ((assignEach ts X.env).map (·.2)) us) (λ_ s'=>∃σ' H',Inv X pins σ' H' s'/\Q σ' H') X.xe s
section
variable  {X:Cx}{pos:Pos}
def eA (i:Nat):TG:=λv σ H Q=>Q (σ.set i (some v)) H
theorem ao {i:Nat}{x:Str}(hN:X.N.Nodup)(hi:X.N[i]? = some x)(hx:Loc X.env.scope x)(hf:X.fn x=true\/X.env.scope.names.lookup x=some .local:=by first | exact .inl rfl | exact .inr rfl | assumption):PG X (.Name x pos) (eA i):=by
 intro pins s σ H v u Q I r h
 exact wpAny_assign_Name (qy I hN hi hx r (λs' I'=>⟨_,H,I',h⟩) hf)
def Ck:TGs:=λvs σ H Q=>vs=[]/\Q σ H
def wY (t:TG)(u:TGs):TGs:=λvs σ H Q=>∃v r,vs=v :: r/\t v σ H λσ' H'=>u r σ' H' Q
theorem aP:PGs X [] Ck:=by
 intro pins s σ H vs us Q I r h
 obtain ⟨e,h⟩:=h
 subst e
 cases r
 exact assignInOrder_nil ⟨σ,H,I,h⟩
theorem ax {e:Expr}{es:List Expr}{t:TG}{u:TGs}(h1:PG X e t)(h2:PGs X es u)
  (hs:(assignEach (e :: es) X.env).map (·.2)=assign e X.env :: (assignEach es X.env).map (·.2):=by rfl):PGs X (e :: es) (wY t u):=by
 intro pins s σ H vs us Q I r h
 obtain ⟨v,vr,e1,h⟩:=h
 subst e1
 cases r with
 | cons r rr =>
  rw[hs]
  refine assignInOrder_cons (thn (h1 pins s σ H _ _ _ I r h) λ_ s1 ⟨σ1,H1,I1,q1⟩ =>?_)
  exact h2 pins s1 σ1 H1 _ _ Q I1 rr q1
def Cm (K:Df)(n:Nat)(t:TGs):TG:=λv σ H Q=>∃a xs,v = .ref a/\SqT K H a xs/\xs.length=n/\t xs σ H Q
theorem aX {es:List Expr}{k:Nat}{t:TGs}{n:Nat}(hc:X.calm=true)(h:PGs X es t)
  (hn:(assignEach es X.env).length=n:=by rfl) (hst:(assignEach es X.env).findIdx? (·.1)=none:=by rfl):PG X (.Tuple es k pos) (Cm X.K n t):=by
 intro pins s σ H v u Q I r hw
 obtain ⟨a,xs,e1,hq,hl,hw⟩:=hw
 subst e1
 cases r
 obtain ⟨its,rv,ht,hz⟩:=I.tuple hq
 refine assign_Tuple_tuple (I.ok.hd hc) ht (by simp[hn, <- hl,rv.length]) hst λh' hx =>?_
 have I1:Inv X pins σ H { s with heap:=h' }:=I.kept (t':=s.toks) λb o e=>hx b o (Dw (Ds e)) e
 exact h pins _ σ H xs _ Q I1 (by simpa using rv) hw
def Bh (te:TE)(g:TG):TS:=λD σ H=>te σ H λx H1=>g x σ H1 D.nx
theorem bt {tg e:Expr}{te:TE}{g:TG}(he:PE X e te)(hg:PG X tg g)(hs:swapsWithSole [tg] e pos.line X.env=pure false:=by rfl)(hw:swappedStores [tg] e X.env=pure none:=by rfl)
  (h1:(assignEach [tg] X.env).map (·.2)=[assign tg X.env]:=by rfl):PS X (.Assign [tg] e pos) (Bh te g):=by
 intro pins s σ H D I h
 refine wpAny_Assign_stores (thn (he pins s σ H _ I h) λv s1 ⟨x,H1,I1,r1,q1⟩ =>?_) hs hw
 rw[h1]
 exact thn (hg pins s1 σ H1 x v _ I1 r1 q1) λ_ s2 q=>q
theorem aS {i:Nat}{x:Str}{e:Expr}{te:TE}{pos':Pos}(hN:X.N.Nodup)(hi:X.N[i]? = some x)(hx:Loc X.env.scope x)(he:PE X e te)(hs:swapsWith e (some (.Name x pos')) pos.line X.env=pure false:=by rfl)(hf:X.fn x=true\/X.env.scope.names.lookup x=some .local:=by first | exact .inl rfl | exact .inr rfl | assumption) :
  PS X (.Assign [.Name x pos'] e pos) (Bh te (eA i)):=by
 intro pins s σ H D I h
 refine wpAny_Assign_Name (thn (he pins s σ H _ I h) λv s1 ⟨y,H1,I1,r1,q1⟩ =>?_) hs
 exact qy I1 hN hi hx r1 (λs2 I2=>⟨_,H1,I2,q1⟩) hf
end
section
variable  {X:Cx}{pos:Pos}
def wZ (c:TT)(tb:TS):TS:=λD σ H=>∃W:Nat->St->Hp->Prop,(∃m,W m σ H)/\∀m σ H,W m σ H →
 c σ H λb H1=>if b=true then ∃N:St->Hp->Prop,(∀σ' H',N σ' H'->∃m',m'<m/\W m' σ' H')/\tb { D with nx:=N,ct:=N,bk:=D.nx } σ H1 else D.nx σ H1
theorem qz {c:Expr}{body:List Stmt}{tc:TT}{tb:TS}(hp:PassesOwn (DS X.prog X.w) X.A X.env X.xe)(hc:PT X c tc)(hb:PSs X body tb):PS X (.While c body [] pos) (wZ tc tb):=by
 intro pins s σ H D I h
 obtain ⟨W,⟨m0,w0⟩,turn⟩:=h
 refine wpAny_While (codeAny_whileLoop (λn s'=>∃σ' H',Inv X pins σ' H' s'/\W n σ' H') ?_ m0 ⟨σ,H,I,w0⟩)
 rintro n s1 ⟨σ1,H1,I1,w1⟩
 refine GL hp (thn (hc pins s1 σ1 H1 _ I1 (turn n σ1 H1 w1)) λb s2 ⟨H2,I2,q2⟩ =>?_)
 cases b with
 | true =>
  obtain ⟨N,hN,q2⟩:=q2
  rw[if_pos rfl]
  refine GL hp (thn (hb pins s2 σ1 H2 _ I2 q2) λf s3 q3 =>?_)
  cases f with
  | next =>
   obtain ⟨σ3,H3,I3,n3⟩:=q3
   obtain ⟨m',hm,w3⟩:=hN σ3 H3 n3
   exact ⟨m',hm,σ3,H3,I3,w3⟩
  | cont =>
   obtain ⟨σ3,H3,I3,n3⟩:=q3
   obtain ⟨m',hm,w3⟩:=hN σ3 H3 n3
   exact ⟨m',hm,σ3,H3,I3,w3⟩
  | brk=>exact q3
  | ret v=>exact q3
 | false =>
  rw[if_neg Dv]
  exact Jg ⟨σ1,H2,I2,q2⟩
end
structure It where
 go:Nat->Hp->Prop
 yld:Nat->Hp->V->Hp->Prop
 stop:Nat->Hp->Prop
def iM (X:Cx)(pins:List (Addr×Obj))(H:Hp)(b:Addr):Prop :=
 H b=none/\b≠X.env.locals/\b∉X.fs/\(b∈X.ex\/X.s₀.heap.objs.size<=b)/\(∀x c,X.env.cells.lookup x=some c->c≠b)/\∀p∈X.pn++pins,p.1≠b
theorem Inv.sr {X:Cx}{pins:List (Addr×Obj)}{σ:St}{H H':Hp}{s:Dg}{b:Addr}(I:Inv X pins σ H s)(hb:s.heap.objs.size<=b)(hn:H' b=none):iM X pins H' b:=by
 refine ⟨hn,FV (DC I.lt hb),I.Be hb,.inr (DU I.sz hb),λx c e z =>?_,λp hp z =>?_⟩
 ·obtain ⟨v,q⟩:=I.cell x c e
  exact absurd (DC q.lt (by rw[z];exact hb)) (Fe _)
 ·exact absurd (DC (Ds (I.pin p hp).1) (by rw[z];exact hb)) (Fe _)
structure Turn (P:DH)(w:Eb)(K:Df)(tg:Expr)(J:It)(fp:List Addr)(it:Addr)(tn:Nat->Heap->Prop):Prop where
 mem:it∈fp
 obj:∀i h,tn i h->∀b∈fp,∃o,h.get? b=some o/\∀v,o.data ≠ .cell v
 keep:∀i h h',tn i h->(∀b∈fp,∀o,h.get? b=some o->h'.get? b=some o)->tn i h'
 item:∀(X:Cx),X.prog=P->X.w=w->X.K=K->X.calm=true->∀(i:Nat) (pins:List (Addr×Obj)) (s:Dg) (σ:St) (H:Hp) (E:C9->Dg->Prop),Inv X pins σ H s->(∀b∈fp,iM X pins H b)->tn i s.heap->J.go i H →
  DI (DS P w) X.A (pyNext (.ref it)) (λr s1=>∃u,r=some u ∧
   DI (DS P w) X.A (letOwnedTupleGo tg (.ref it) u) (λ_ s2=>∃x H',Inv X pins σ H' s2/\RelV x u/\J.yld i H x H'/\tn (i+1) s2.heap/\∀b∈fp,H' b=none) E s1) E s
 done:∀(X:Cx),X.prog=P->X.w=w->X.K=K->X.calm=true->∀(i:Nat) (pins:List (Addr×Obj)) (s:Dg) (σ:St) (H:Hp) (E:C9->Dg->Prop),Inv X pins σ H s->(∀b∈fp,iM X pins H b)->tn i s.heap->J.stop i H →
  DI (DS P w) X.A (pyNext (.ref it)) (λr s1=>r=none/\Inv X pins σ H s1) E s
 self:∀(A:Ep) (i:Nat) (s:Dg) (Q:C9->Dg->Prop) (E:C9->Dg->Prop),tn i s.heap->Q (.ref it) s->DI (DS P w) A (pyIter (.ref it)) Q E s
abbrev TI:=St->Hp->(It->Hp->Prop)->Prop
def PIE (X:Cx)(pins:List (Addr×Obj))(σ:St)(tg:Expr)(R:It->Hp->Prop)(itv:C9)(s2:Dg):Prop :=
 ∃(it:Addr) (fp:List Addr) (tn:Nat->Heap->Prop) (J:It) (H':Hp),itv = .ref it/\Inv X pins σ H' s2/\Turn X.prog X.w X.K tg J fp it tn/\tn 0 s2.heap/\(∀b∈fp,iM X pins H' b)/\R J H'
def PI (X:Cx)(tg iter:Expr)(wi:TI):Prop :=
 ∀(pins:List (Addr×Obj)) (s:Dg) (σ:St) (H:Hp) (R:It->Hp->Prop),Inv X pins σ H s->wi σ H R →
  DI (DS X.prog X.w) X.A (eval iter X.env) (λv s1=>DI (DS X.prog X.w) X.A (pyIter v) (PIE X pins σ tg R) X.xe s1) X.xe s
theorem t8 {M:Model}{A:Ep}{E:C9->Dg->Prop}{s:Dg}{tg:Expr}{it:Addr}{u:C9}{o:Obj}{n:String}{vs:Array C9}{Q:Unit->Dg->Prop}(ho:s.heap.get? it=some o)(hc:o.cls = .type n)(hd:o.data = .fields vs)
    (hn:["enumerate", "zip", "dict_itemiterator", "dict_reverseitemiterator", "odict_iterator", "itertools.zip_longest", "itertools.pairwise"].contains n=false) (hQ:Q () s):DI M A (letOwnedTupleGo tg (.ref it) u) Q E s:=by
  unfold letOwnedTupleGo
  cases tg <;> first
    | exact De hQ
    | (cases u <;> first
        | exact De hQ
        | (refine C5 (JS ho ?_)
           rw[hc,hd]
           show DI M A (if (["enumerate", "zip", "dict_itemiterator", "dict_reverseitemiterator", "odict_iterator", "itertools.zip_longest", "itertools.pairwise"].contains n && vs[0]? == some (GN _))=true then _ else _) Q E s
           rw[if_neg (by intro h;rw[hn,HG] at h;cases h)]
           exact De hQ))
def Itl (K:Df)(a:Addr):It :=
 ⟨λi H=>∃xs x,SqL K H a xs/\xs[i]? = some x,λi H x H'=>H'=H/\∀xs,SqL K H a xs->xs[i]? = some x,λi H=>∃xs,SqL K H a xs/\xs.length<=i⟩
def Itt (K:Df)(a:Addr):It :=
 ⟨λi H=>∃xs x,SqT K H a xs/\xs[i]? = some x,λi H x H'=>H'=H/\∀xs,SqT K H a xs->xs[i]? = some x,λi H=>∃xs,SqT K H a xs/\xs.length<=i⟩
def Itr (lo:Int)(n:Nat):It:=⟨λi _=>i<n,λi H x H'=>H'=H/\x = .int (lo+i),λi _=>n<=i⟩
theorem nK {P:DH}{w:Eb}{K:Df}{tg:Expr}(a it:Addr):Turn P w K tg (Itl K a) [it] it (λi h=>h.IsListIter it a i) where
 mem:=by simp
 obj:=λi h st b hb=>by
  have e:b=it:=by simpa using hb
  subst e
  obtain ⟨o,e,c,d⟩:=st
  exact ⟨o,e,λv z=>by rw[d] at z;cases z⟩
 keep:=λi h h' st k=>st.at λo e=>k it (by simp) o e
 item:=by
  intro X hP hw hK hc i pins s σ H E I hf st hg
  subst hP hw hK
  obtain ⟨xs,x,hq,hx⟩:=hg
  obtain ⟨its,rv,p,hz⟩:=I.list hq
  obtain ⟨u,hu,ru⟩:=rv.get hx
  obtain ⟨f0,f1,f2,f3,f4,f5⟩:=hf it (by simp)
  refine wpAny_pyNext_list_item st p.isList (x:=u) (by simpa using hu) λh' st' sb =>?_
  have I1:Inv X pins σ H { s with heap:=h' }:=I.turned (t':=s.toks) (λb o hb e=>(sb.2 b hb).trans e) f0 f1 f3 f4 f5
  obtain ⟨o,e,c,d⟩:=id st'
  exact ⟨u,rfl,t8 (s:={ s with heap:=h' }) e c d (by decide) ⟨x,H,I1,ru,⟨rfl,λys hy=>by rw[I.lA hy hq];exact hx⟩,st',λb hb=>(hf b hb).1⟩⟩
 done:=by
  intro X hP hw hK hc i pins s σ H E I hf st hg
  subst hP hw hK
  obtain ⟨xs,hq,hx⟩:=hg
  obtain ⟨its,rv,p,hz⟩:=I.list hq
  obtain ⟨f0,f1,f2,f3,f4,f5⟩:=hf it (by simp)
  have hl:=rv.length
  exact wpAny_pyNext_list_end (I.ok.hd hc) st p.isList (by simp;lia) λh' eb=>⟨rfl,I.turned (t':=s.toks) (λb o hb e=>eb b o hb e) f0 f1 f3 f4 f5⟩
 self:=λ_ _ _ _ _ st h=>wpAny_pyIter_listiter st h
theorem lB {P:DH}{w:Eb}{K:Df}{tg:Expr}(a it:Addr):Turn P w K tg (Itt K a) [it] it (λi h=>h.IsTupleIter it a i) where
 mem:=by simp
 obj:=λi h st b hb=>by
  have e:b=it:=by simpa using hb
  subst e
  obtain ⟨o,e,c,d⟩:=st
  exact ⟨o,e,λv z=>by rw[d] at z;cases z⟩
 keep:=λi h h' st k=>st.at λo e=>k it (by simp) o e
 item:=by
  intro X hP hw hK hc i pins s σ H E I hf st hg
  subst hP hw hK
  obtain ⟨xs,x,hq,hx⟩:=hg
  obtain ⟨its,rv,p,hz⟩:=I.tuple hq
  obtain ⟨u,hu,ru⟩:=rv.get hx
  obtain ⟨f0,f1,f2,f3,f4,f5⟩:=hf it (by simp)
  refine wpAny_pyNext_tuple_item st (show s.heap.IsTuple a its.toArray from p) (x:=u) (by simpa using hu) λh' st' sb =>?_
  have I1:Inv X pins σ H { s with heap:=h' }:=I.turned (t':=s.toks) (λb o hb e=>(sb.2 b hb).trans e) f0 f1 f3 f4 f5
  obtain ⟨o,e,c,d⟩:=id st'
  exact ⟨u,rfl,t8 (s:={ s with heap:=h' }) e c d (by decide) ⟨x,H,I1,ru,⟨rfl,λys hy=>by rw[I.gK hy hq];exact hx⟩,st',λb hb=>(hf b hb).1⟩⟩
 done:=by
  intro X hP hw hK hc i pins s σ H E I hf st hg
  subst hP hw hK
  obtain ⟨xs,hq,hx⟩:=hg
  obtain ⟨its,rv,p,hz⟩:=I.tuple hq
  obtain ⟨f0,f1,f2,f3,f4,f5⟩:=hf it (by simp)
  have hl:=rv.length
  exact wpAny_pyNext_tuple_end (I.ok.hd hc) st (show s.heap.IsTuple a its.toArray from p) (by simp;lia) λh' eb=>⟨rfl,I.turned (t':=s.toks) (λb o hb e=>eb b o hb e) f0 f1 f3 f4 f5⟩
 self:=λ_ _ _ _ _ st h=>wpAny_pyIter_tupleiter st h
theorem su {P:DH}{w:Eb}{K:Df}{tg:Expr}(it:Addr)(lo:Int)(n:Nat):Turn P w K tg (Itr lo n) [it] it (λi h=>IsRangeIter h it (lo+(i:Nat)*1) ((n:Int)-(i:Nat)) 1) where
 mem:=by simp
 obj:=λi h st b hb=>by
  have e:b=it:=by simpa using hb
  subst e
  exact ⟨_,st,λv z=>by
   have z':Data.fields _=Data.cell v:=z
   cases z'⟩
 keep:=λi h h' st k=>k it (by simp) _ st
 item:=by
  intro X hP hw hK hc i pins s σ H E I hf st hg
  subst hP hw hK
  obtain ⟨f0,f1,f2,f3,f4,f5⟩:=hf it (by simp)
  have W:=Walks.range (prog:=X.prog) (w:=X.w) (I.ok.hd hc) it lo 1 n
  refine W.item i s _ _ hg st λv h' tk hv st' kk =>?_
  obtain ⟨t,rfl⟩:=hv
  have I1:Inv X pins σ H { s with heap:=h',toks:=tk }:=I.turned (λb o hb e=>kk b o (by simpa using hb) e) f0 f1 f3 f4 f5
  refine ⟨_,rfl,t8 (s:={ s with heap:=h',toks:=tk }) (n := "range_iterator") st' rfl rfl (by decide) ⟨.int (lo+i),H,I1,⟨t,?_⟩,⟨rfl,rfl⟩,st',λb hb=>(hf b hb).1⟩⟩
  rw[Int.mul_one]
 done:=by
  intro X hP hw hK hc i pins s σ H E I hf st hg
  subst hP hw hK
  obtain ⟨f0,f1,f2,f3,f4,f5⟩:=hf it (by simp)
  exact wpAny_pyNext_range_end (I.ok.hd hc) st (by have:n<=i:=hg;lia) λh' eb=>⟨rfl,I.turned (t':=s.toks) (λb o hb e=>eb b o hb e) f0 f1 f3 f4 f5⟩
 self:=λ_ _ _ _ _ st h=>wpAny_pyIter_rangeiter st h
section
variable  {X:Cx}{tg:Expr}
def Cn (K:Df)(tl:TE):TI:=λσ H R=>tl σ H λx H1=>∃a,x = .ref a/\(∃xs,SqL K H1 a xs)/\R (Itl K a) H1
def iTup (K:Df)(tl:TE):TI:=λσ H R=>tl σ H λx H1=>∃a,x = .ref a/\(∃xs,SqT K H1 a xs)/\R (Itt K a) H1
theorem bO {l:Expr}{tl:TE}(hl:PE X l tl):PI X tg l (Cn X.K tl):=by
 intro pins s σ H R I h
 refine thn (hl pins s σ H _ I h) λv s1 ⟨x,H1,I1,r1,q1⟩ =>?_
 obtain ⟨a,e,⟨xs,hq⟩,q⟩:=q1
 subst e
 cases r1
 obtain ⟨its,rv,p,hz⟩:=I1.list hq
 refine Hv p.isList ?_
 refine ⟨s1.heap.objs.size,[s1.heap.objs.size],_,_,H1,rfl,I1.kept (t':=s1.toks) λb o e=>C7 _ e,nK a _,⟨_,Dn _ rfl,rfl,rfl⟩,λb hb =>?_,q⟩
 have e:b=s1.heap.objs.size:=by simpa using hb
 subst e
 exact I1.sr (Dd _) (I1.hok.fresh (Dd _))
theorem fY {l:Expr}{tl:TE}(hl:PE X l tl):PI X tg l (iTup X.K tl):=by
 intro pins s σ H R I h
 refine thn (hl pins s σ H _ I h) λv s1 ⟨x,H1,I1,r1,q1⟩ =>?_
 obtain ⟨a,e,⟨xs,hq⟩,q⟩:=q1
 subst e
 cases r1
 obtain ⟨its,rv,p,hz⟩:=I1.tuple hq
 refine F0 (show s1.heap.IsTuple a its.toArray from p) ?_
 refine ⟨s1.heap.objs.size,[s1.heap.objs.size],_,_,H1,rfl,I1.kept (t':=s1.toks) λb o e=>C7 _ e,lB a _,⟨_,Dn _ rfl,rfl,rfl⟩,λb hb =>?_,q⟩
 have e:b=s1.heap.objs.size:=by simpa using hb
 subst e
 exact I1.sr (Dd _) (I1.hok.fresh (Dd _))
theorem qA {pins:List (Addr×Obj)}{σ:St}{H:Hp}{s:Dg}{R:It->Hp->Prop}{E:C9->Dg->Prop}{lo hi:Int}{t u v:Tok}{tk:Nat}(I:Inv X pins σ H s)(h1 : -(2 ^ 62)<=lo)(h2:lo<2 ^ 62)(h3 : -(2 ^ 62)<=hi)(h4:hi<2 ^ 62)
  (q:R (Itr lo (hi-lo).toNat) H):DI (DS X.prog X.w) X.A (pyIter (.ref s.heap.objs.size)) (PIE X pins σ tg R) E { s with heap:=s.heap.push { cls :=.type "range",data :=.fields #[.int lo t,.int hi u,.int 1 v] },toks:=tk }:=by
 refine wpAny_pyIter_range (IsRange.new ..) (small_one h1 h2 h3 h4) ?_
 have I1:Inv X pins σ H { s with heap:=s.heap.push { cls :=.type "range",data :=.fields #[.int lo t,.int hi u,.int 1 v] },toks:=tk }:=I.kept λb o e=>C7 _ e
 refine ⟨(s.heap.push { cls :=.type "range",data :=.fields #[.int lo t,.int hi u,.int 1 v] }).objs.size,[(s.heap.push { cls :=.type "range",data :=.fields #[.int lo t,.int hi u,.int 1 v] }).objs.size],_,_,H,rfl,
  I1.kept (t':=tk) λb o e=>C7 _ e,su _ lo (hi-lo).toNat,?_,λb hb =>?_,q⟩
 ·have e1:lo+((0:Nat):Int)*1=lo:=by simp
  have e2:(((hi-lo).toNat:Nat):Int)-((0:Nat):Int)=Builtin.Range.rangeSize lo hi 1:=by rw[Lw];split <;> lia
  show IsRangeIter _ _ (lo+((0:Nat):Int)*1) ((((hi-lo).toNat:Nat):Int)-((0:Nat):Int)) 1
  rw[e1,e2]
  exact Dn _ rfl
 ·have e:b=(s.heap.push { cls :=.type "range",data :=.fields #[.int lo t,.int hi u,.int 1 v] }).objs.size:=by simpa using hb
  subst e
  exact I1.sr (Dd _) (I1.hok.fresh (Dd _))
def Co (ta:TA):TI:=λσ H R=>ta σ H λvs H1=>∃j:Int,vs=[.int j] /\ -(2 ^ 62)<=j/\j<2 ^ 62/\R (Itr 0 j.toNat) H1
def Cp (ta:TA):TI:=λσ H R=>ta σ H λvs H1=>∃i j:Int,vs=[.int i,.int j]/\(-(2 ^ 62)<=i/\i<2 ^ 62 /\ -(2 ^ 62)<=j/\j<2 ^ 62)/\R (Itr i (j-i).toNat) H1
theorem cM {a:Expr}{ta:TA}{p pos:Pos}(hg:Gl X "range")(hm:X.mg "range" = none)(ha:PA X [a] ta)(hs:Em [a] X.env=[(false,eval a X.env)]:=by rfl):PI X tg (.Call (.Name "range" p) [a] [] pos) (Co ta):=by
 intro pins s σ H R I h
 refine Call_ (dW I hg hm boot_range (Ez (thn (ha pos pins s σ H _ I h) λus s1 ⟨vs,H1,I1,r1,q1⟩ =>?_) hs rfl))
 obtain ⟨j,e,q1,q2,q⟩:=q1
 subst e
 cases r1 with
 | cons r rr =>
  cases rr
  obtain ⟨t,rfl⟩:=r
  exact call_range_1 (qA I1 (by lia) (by lia) q1 q2 (by simpa using q))
theorem nL {a b:Expr}{ta:TA}{p pos:Pos}(hg:Gl X "range")(hm:X.mg "range" = none)(ha:PA X [a,b] ta)(hs:Em [a,b] X.env=[(false,eval a X.env),(false,eval b X.env)]:=by rfl)(hs2:Em [b] X.env=[(false,eval b X.env)]:=by rfl) :
  PI X tg (.Call (.Name "range" p) [a,b] [] pos) (Cp ta):=by
 intro pins s σ H R I h
 refine Call_ (dW I hg hm boot_range (Ez (thn (ha pos pins s σ H _ I h) λus s1 ⟨vs,H1,I1,r1,q1⟩ =>?_) (by rw[hs,hs2]) (by rw[hs2];rfl)))
 obtain ⟨i,j,e,⟨q1,q2,q3,q4⟩,q⟩:=q1
 subst e
 cases r1 with
 | cons r rr =>
  cases rr with
  | cons r' rr =>
   cases rr
   obtain ⟨t,rfl⟩:=r
   obtain ⟨t',rfl⟩:=r'
   exact call_range_2 (qA I1 q1 q2 q3 q4 q)
def tFor (wi:TI)(g:TG)(tb:TS):TS:=λD σ H=>wi σ H λJ H1=>∃W:Nat->Nat->St->Hp->Prop,(∃m,W 0 m σ H1)/\∀i m σ H,W i m σ H →
 (J.stop i H/\D.nx σ H)\/(J.go i H/\∃N:St->Hp->Prop,(∀σ' H',N σ' H'->∃m',m'<m/\W (i+1) m' σ' H')/\∀x H',J.yld i H x H'->g x σ H' λσ2 H2=>tb { D with nx:=N,ct:=N,bk:=D.nx } σ2 H2)
def il (fp:List Addr)(h:Heap):List (Addr×Obj):=fp.filterMap λb=>(h.get? b).map λo=>(b,o)
theorem dX {fp:List Addr}{h:Heap}{b:Addr}{o:Obj}(hb:b∈fp)(e:h.get? b=some o):(b,o)∈il fp h:=Jq.mpr ⟨b,hb,by rw[e];rfl⟩
theorem nM {fp:List Addr}{h:Heap}{p:Addr×Obj}(hp:p∈il fp h):p.1∈fp/\h.get? p.1=some p.2:=by
 obtain ⟨b,hb,e⟩:=Jq.mp hp
 cases q:h.get? b with
 | none=>rw[q] at e;cases e
 | some o =>
  rw[q] at e
  have e':(b,o)=p:=DW e
  subst e'
  exact ⟨hb,q⟩
theorem Inv.pinned {pins:List (Addr×Obj)}{σ:St}{H:Hp}{s:Dg}{fp:List Addr}(I:Inv X pins σ H s)(hf:∀b∈fp,iM X pins H b)(ho:∀b∈fp,∃o,s.heap.get? b=some o/\∀v,o.data ≠ .cell v):Inv X (pins++il fp s.heap) σ H s :=
 I.iL λp hp=>(Dh.mp hp).elim (λz=>I.pin p (DE _ z)) λz=>by
  obtain ⟨hb,e⟩:=nM z
  obtain ⟨f0,f1,f2,_⟩:=hf p.1 hb
  obtain ⟨o,e',d⟩:=ho p.1 hb
  rw[e] at e';cases e'
  exact ⟨e,f0,f1,f2,d⟩
theorem Inv.eJ {pins pl:List (Addr×Obj)}{σ:St}{H:Hp}{s:Dg}(I:Inv X (pins++pl) σ H s):Inv X pins σ H s:=I.iL λp hp=>I.pin p (DE _ (DM _ hp))
theorem bR {iter:Expr}{body:List Stmt}{wi:TI}{g:TG}{tb:TS}{pos:Pos}(hp:PassesOwn (DS X.prog X.w) X.A X.env X.xe)(hc:X.calm=true)(hi:PI X tg iter wi)(hg:PG X tg g)(hb:PSs X body tb)
  (hs:∀x,foldedSetIterable iter X.env x=pure x:=by intro _;rfl):PS X (.For tg iter body [] pos) (tFor wi g tb):=by
 intro pins s σ H D I h
 refine wpAny_For (thn (hi pins s σ H _ I h) λv s1 h1=>thn h1 λitv s2 h2 =>?_) hs
 obtain ⟨it,fp,tn,J,H2,e,I2,T,st2,f2,W,⟨m0,w0⟩,turn⟩:=h2
 subst e
 have stat:∀{H':Hp},(∀b∈fp,H' b=none)->∀b∈fp,iM X pins H' b:=λhn b hb=>⟨hn b hb,(f2 b hb).2⟩
 refine codeAny_forLoop_any (λn s'=>∃i σ' H',Inv X pins σ' H' s'/\tn i s'.heap/\(∀b∈fp,H' b=none)/\W i n σ' H') ?_ m0 ⟨0,σ,H2,I2,st2,λb hb=>(f2 b hb).1,w0⟩
 rintro n s3 ⟨i,σ3,H3,I3,st3,fr3,w3⟩
 rcases turn i n σ3 H3 w3 with ⟨stop,qn⟩ | ⟨go,N,hN,step⟩
 ·refine GL hp (thn (T.done X rfl rfl rfl hc i pins s3 σ3 H3 X.xe I3 (stat fr3) st3 stop) λr s4 ⟨hr,I4⟩ =>?_)
  subst hr
  exact Jg ⟨σ3,H3,I4,qn⟩
 ·refine GL hp (thn (T.item X rfl rfl rfl hc i pins s3 σ3 H3 X.xe I3 (stat fr3) st3 go) λr s4 ⟨u,hr,h4⟩ =>?_)
  subst hr
  refine GL hp (thn h4 λ_ s5 ⟨x,H5,I5,r5,y5,st5,fr5⟩ =>?_)
  have I5':=I5.pinned (stat fr5) (T.obj _ _ st5)
  refine GL hp (thn (hg _ s5 σ3 H5 x u _ I5' r5 (step x H5 y5)) λ_ s6 ⟨σ6,H6,I6,q6⟩ =>?_)
  refine GL hp (thn (hb _ s6 σ6 H6 _ I6 q6) λf s7 q7 =>?_)
  have again:∀{σ7:St} {H7:Hp},Inv X (pins++il fp s5.heap) σ7 H7 s7->N σ7 H7->∃m,m<n/\∃i σ' H',Inv X pins σ' H' s7/\tn i s7.heap/\(∀b∈fp,H' b=none)/\W i m σ' H':=λ{σ7 H7} I7 n7=>by
   obtain ⟨m',hm,w7⟩:=hN σ7 H7 n7
   refine ⟨m',hm,i+1,σ7,H7,I7.eJ,T.keep _ _ _ st5 λb hb o e=>(I7.pin (b,o) (DE _ (DE _ (dX hb e)))).1,λb hb =>?_,w7⟩
   obtain ⟨o,e,d⟩:=T.obj _ _ st5 b hb
   exact (I7.pin (b,o) (DE _ (DE _ (dX hb e)))).2.1
  cases f with
  | next=>obtain ⟨σ7,H7,I7,n7⟩:=q7;exact again I7 n7
  | cont=>obtain ⟨σ7,H7,I7,n7⟩:=q7;exact again I7 n7
  | brk=>obtain ⟨σ7,H7,I7,q7⟩:=q7;exact ⟨σ7,H7,I7.eJ,q7⟩
  | ret v=>obtain ⟨x7,σ7,H7,I7,r7,q7⟩:=q7;exact ⟨x7,σ7,H7,I7.eJ,r7,q7⟩
end
theorem eM {K:Df}{a:Addr}{xs:List V}{g:TG}{tb:TS}{D:Ends}{σ:St}{H:Hp}(Pv:Nat->St->Hp->Prop)(h0:Pv 0 σ H)(hl:∀i σ H,i<=xs.length->Pv i σ H->SqL K H a xs)
  (hs:∀i x σ H,xs[i]? = some x->Pv i σ H->g x σ H λσ2 H2=>tb { D with nx:=Pv (i+1),ct:=Pv (i+1),bk:=D.nx } σ2 H2) (hd:∀σ H,Pv xs.length σ H->D.nx σ H) :
  ∃W:Nat->Nat->St->Hp->Prop,(∃m,W 0 m σ H)/\∀i m σ H,W i m σ H →
   ((Itl K a).stop i H/\D.nx σ H)\/((Itl K a).go i H/\∃N:St->Hp->Prop,(∀σ' H',N σ' H'->∃m',m'<m/\W (i+1) m' σ' H')/\∀x H',(Itl K a).yld i H x H'->g x σ H' λσ2 H2=>tb { D with nx:=N,ct:=N,bk:=D.nx } σ2 H2):=by
 refine ⟨λi m σ H=>m=xs.length-i/\i<=xs.length/\Pv i σ H,⟨xs.length,by simp,D5 _,h0⟩,?_⟩
 rintro i m σ H ⟨rfl,hi,p⟩
 have q:=hl i σ H hi p
 by_cases hlt:i<xs.length
 ·refine .inr ⟨⟨xs,xs[i],q,by simp[hlt]⟩,Pv (i+1),λσ' H' p'=>⟨xs.length-(i+1),by lia,rfl,hlt,p'⟩,λx H' y =>?_⟩
  obtain ⟨e,y⟩:=y
  subst e
  exact hs i x σ _ (y xs q) p
 ·have e:i=xs.length:=by lia
  subst e
  exact .inl ⟨⟨xs,q,Dd _⟩,hd σ H p⟩
theorem t9 {K:Df}{a:Addr}{xs:List V}{g:TG}{tb:TS}{D:Ends}{σ:St}{H:Hp}(Pv:Nat->St->Hp->Prop)(h0:Pv 0 σ H)(hl:∀i σ H,i<=xs.length->Pv i σ H->SqT K H a xs)
  (hs:∀i x σ H,xs[i]? = some x->Pv i σ H->g x σ H λσ2 H2=>tb { D with nx:=Pv (i+1),ct:=Pv (i+1),bk:=D.nx } σ2 H2) (hd:∀σ H,Pv xs.length σ H->D.nx σ H) :
  ∃W:Nat->Nat->St->Hp->Prop,(∃m,W 0 m σ H)/\∀i m σ H,W i m σ H →
   ((Itt K a).stop i H/\D.nx σ H)\/((Itt K a).go i H/\∃N:St->Hp->Prop,(∀σ' H',N σ' H'->∃m',m'<m/\W (i+1) m' σ' H')/\∀x H',(Itt K a).yld i H x H'->g x σ H' λσ2 H2=>tb { D with nx:=N,ct:=N,bk:=D.nx } σ2 H2):=by
 refine ⟨λi m σ H=>m=xs.length-i/\i<=xs.length/\Pv i σ H,⟨xs.length,by simp,D5 _,h0⟩,?_⟩
 rintro i m σ H ⟨rfl,hi,p⟩
 have q:=hl i σ H hi p
 by_cases hlt:i<xs.length
 ·refine .inr ⟨⟨xs,xs[i],q,by simp[hlt]⟩,Pv (i+1),λσ' H' p'=>⟨xs.length-(i+1),by lia,rfl,hlt,p'⟩,λx H' y =>?_⟩
  obtain ⟨e,y⟩:=y
  subst e
  exact hs i x σ _ (y xs q) p
 ·have e:i=xs.length:=by lia
  subst e
  exact .inl ⟨⟨xs,q,Dd _⟩,hd σ H p⟩
theorem cN {lo:Int}{n:Nat}{g:TG}{tb:TS}{D:Ends}{σ:St}{H:Hp}(Pv:Nat->St->Hp->Prop)(h0:Pv 0 σ H)
  (hs:∀i σ H,i<n->Pv i σ H->g (.int (lo+i)) σ H λσ2 H2=>tb { D with nx:=Pv (i+1),ct:=Pv (i+1),bk:=D.nx } σ2 H2) (hd:∀σ H,Pv n σ H->D.nx σ H) :
  ∃W:Nat->Nat->St->Hp->Prop,(∃m,W 0 m σ H)/\∀i m σ H,W i m σ H →
   ((Itr lo n).stop i H/\D.nx σ H)\/((Itr lo n).go i H/\∃N:St->Hp->Prop,(∀σ' H',N σ' H'->∃m',m'<m/\W (i+1) m' σ' H')/\∀x H',(Itr lo n).yld i H x H'->g x σ H' λσ2 H2=>tb { D with nx:=N,ct:=N,bk:=D.nx } σ2 H2):=by
 refine ⟨λi m σ H=>m=n-i/\i<=n/\Pv i σ H,⟨n,by simp,D5 _,h0⟩,?_⟩
 rintro i m σ H ⟨rfl,hi,p⟩
 by_cases hlt:i<n
 ·refine .inr ⟨hlt,Pv (i+1),λσ' H' p'=>⟨n-(i+1),by lia,rfl,hlt,p'⟩,λx H' y =>?_⟩
  obtain ⟨e,y⟩:=y
  subst e y
  exact hs i σ _ hlt p
 ·have e:i=n:=by lia
  subst e
  exact .inl ⟨Dd _,hd σ H p⟩
theorem qB {c:TT}{tb:TS}{D:Ends}{σ:St}{H:Hp}(Pv:St->Hp->Prop)(μ:St->Hp->Nat)(h0:Pv σ H)
  (hs:∀σ H,Pv σ H->c σ H λb H1=>if b=true then tb { D with nx:=λσ' H'=>Pv σ' H' /\ μ σ' H'<μ σ H,ct:=λσ' H'=>Pv σ' H' /\ μ σ' H'<μ σ H,bk:=D.nx } σ H1 else D.nx σ H1)
  (mono:∀σ H Q Q',(∀b H1,Q b H1->Q' b H1)->c σ H Q->c σ H Q'):wZ c tb D σ H:=by
 refine ⟨λm σ H=>m=μ σ H/\Pv σ H,⟨_,rfl,h0⟩,?_⟩
 rintro m σ H ⟨rfl,p⟩
 refine mono σ H _ _ (λb H1 q =>?_) (hs σ H p)
 cases b with
 | true=>exact ⟨_,λσ' H' ⟨p',l⟩=>⟨_,l,rfl,p'⟩,q⟩
 | false=>exact q
abbrev R2:=V->V->Hp->VK->Prop
def OpR (X:Cx)(f:C9->C9->Sem C9)(r:R2):Prop :=
 ∀(pins:List (Addr×Obj)) (s:Dg) (σ:St) (H:Hp) (x y:V) (v u:C9) (Q:VK),Inv X pins σ H s->RelV x v->RelV y u->r x y H Q →
  DI (DS X.prog X.w) X.A (f v u) (EP X pins σ Q) X.xe s
def UnR (X:Cx)(f:C9->Sem C9)(r:V->Hp->VK->Prop):Prop :=
 ∀(pins:List (Addr×Obj)) (s:Dg) (σ:St) (H:Hp) (x:V) (v:C9) (Q:VK),Inv X pins σ H s->RelV x v->r x H Q →
  DI (DS X.prog X.w) X.A (f v) (EP X pins σ Q) X.xe s
def bL (X:Cx)(f:C9)(r:List V->Hp->VK->Prop):Prop :=
 ∀(pins:List (Addr×Obj)) (s:Dg) (σ:St) (H:Hp) (xs:List V) (us:List C9) (Q:VK),Inv X pins σ H s->Vals xs us->r xs H Q →
  DI (DS X.prog X.w) X.A (call f us) (EP X pins σ Q) X.xe s
def TruR (X:Cx)(r:V->Hp->(Bool->Hp->Prop)->Prop):Prop :=
 ∀(pins:List (Addr×Obj)) (s:Dg) (σ:St) (H:Hp) (x:V) (v:C9) (Q:Bool->Hp->Prop),Inv X pins σ H s->RelV x v->r x H Q →
  DI (DS X.prog X.w) X.A (truthy v) (TP X pins σ Q) X.xe s
def tOp (r:R2)(ta tb:TE):TE:=λσ H Q=>ta σ H λx H1=>tb σ H1 λy H2=>r x y H2 Q
def tUn (r:V->Hp->VK->Prop)(ta:TE):TE:=λσ H Q=>ta σ H λx H1=>r x H1 Q
def rI (C:Int->Int->Prop)(g:Int->Int->V):R2:=λx y H Q=>∃i j,x = .int i/\y = .int j/\C i j/\Q (g i j) H
def rI0 (g:Int->Int->V):R2:=λx y H Q=>∃i j,x = .int i/\y = .int j/\Q (g i j) H
def rU (g:Int->V):V->Hp->VK->Prop:=λx H Q=>∃i,x = .int i/\Q (g i) H
section
variable  {X:Cx}{a b c:Expr}{ta tb tc:TE}{pos:Pos}
theorem Bi (ha:PE X a ta)(hb:PE X b tb){pins:List (Addr×Obj)}{s:Dg}{σ:St}{H:Hp}{R:V->V->Hp->Prop}(I:Inv X pins σ H s)
  (h:ta σ H λx H1=>tb σ H1 λy H2=>R x y H2) {Q:C9->Dg->Prop} {f:C9->C9->Sem C9}
  (hf:∀v u s2 x y H2,Inv X pins σ H2 s2->RelV x v->RelV y u->R x y H2->DI (DS X.prog X.w) X.A (f v u) Q X.xe s2) :
  DI (DS X.prog X.w) X.A (eval a X.env) (λv s₁=>DI (DS X.prog X.w) X.A (eval b X.env) (λu s₂=>DI (DS X.prog X.w) X.A (f v u) Q X.xe s₂) X.xe s₁) X.xe s:=by
 refine thn (ha pins s σ H _ I h) λv s1 ⟨x,H1,I1,r1,q1⟩ =>?_
 refine thn (hb pins s1 σ H1 _ I1 q1) λu s2 ⟨y,H2,I2,r2,q2⟩ =>?_
 exact hf v u s2 x y H2 I2 r1 r2 q2
theorem aE {op:Operator}{r:R2}(ho:OpR X (binaryOp op) r)(ha:PE X a ta)(hb:PE X b tb):PE X (.BinOp a op b pos) (tOp r ta tb):=by
 intro pins s σ H Q I h
 exact wpAny_BinOp (Bi ha hb I h λv u s2 x y H2 I2 rx ry q=>ho pins s2 σ H2 x y v u Q I2 rx ry q)
theorem w5 {op:UnaryOp}{r:V->Hp->VK->Prop}(ho:UnR X (unaryOp op) r)(ha:PE X a ta):PE X (.UnaryOp op a pos) (tUn r ta):=by
 intro pins s σ H Q I h
 exact UnaryOp_ (thn (ha pins s σ H _ I h) λv s1 ⟨x,H1,I1,r1,q1⟩=>ho pins s1 σ H1 x v Q I1 r1 q1)
theorem opI {f:C9->C9->Sem C9}{C:Int->Int->Prop}{g:Int->Int->Int}
  (rule:∀(i j:Int) (t u:Tok) (s:Dg) (Q:C9->Dg->Prop) (E:C9->Dg->Prop),C i j->Q (.int (g i j) s.toks) { s with toks:=s.toks+1 }->DI (DS X.prog X.w) X.A (f (.int i t) (.int j u)) Q E s) :
  OpR X f (rI C λi j =>.int (g i j)):=by
 intro pins s σ H x y v u Q I rx ry h
 obtain ⟨i,j,rfl,rfl,hc,q⟩:=h
 obtain ⟨t,rfl⟩:=rx
 obtain ⟨t',rfl⟩:=ry
 exact rule i j t t' s _ _ hc ⟨.int (g i j),H,I.tok _,⟨_,rfl⟩,q⟩
theorem Cq {f:C9->C9->Sem C9}{g:Int->Int->Int}
  (rule:∀(i j:Int) (t u:Tok) (s:Dg) (Q:C9->Dg->Prop) (E:C9->Dg->Prop),Q (.int (g i j) s.toks) { s with toks:=s.toks+1 }->DI (DS X.prog X.w) X.A (f (.int i t) (.int j u)) Q E s) :
  OpR X f (rI0 λi j =>.int (g i j)):=by
 intro pins s σ H x y v u Q I rx ry h
 obtain ⟨i,j,rfl,rfl,q⟩:=h
 obtain ⟨t,rfl⟩:=rx
 obtain ⟨t',rfl⟩:=ry
 exact rule i j t t' s _ _ ⟨.int (g i j),H,I.tok _,⟨_,rfl⟩,q⟩
theorem zf {f:C9->C9->Sem C9}{g:Int->Int->Bool}
  (rule:∀(i j:Int) (t u:Tok) (s:Dg) (Q:C9->Dg->Prop) (E:C9->Dg->Prop),Q (.bool (g i j)) s->DI (DS X.prog X.w) X.A (f (.int i t) (.int j u)) Q E s) :
  OpR X f (rI0 λi j =>.bl (g i j)):=by
 intro pins s σ H x y v u Q I rx ry h
 obtain ⟨i,j,rfl,rfl,q⟩:=h
 obtain ⟨t,rfl⟩:=rx
 obtain ⟨t',rfl⟩:=ry
 exact rule i j t t' s _ _ ⟨.bl (g i j),H,I,rfl,q⟩
def CDiv (i j:Int):Prop:=0<j/\j<1073741824
def CPow (i j:Int):Prop:=0<=j/\j<=1000000/\i.natAbs<2 ^ 64
def Bj (i j:Int):Prop:=(-(2 ^ 64)<i/\i<2 ^ 64)\/(-(2 ^ 64)<j/\j<2 ^ 64)
theorem Bj.ok {i j:Int}(h:Bj i j):IntMulOk i j:=by
 rcases h with ⟨h1,h2⟩ | ⟨h1,h2⟩
 ·exact .of_left (intBits_le_64 h1 h2)
 ·exact .of_right (intBits_le_64 h1 h2)
theorem bM:OpR X (binaryOp .Add) (rI0 λi j =>.int (i+j)):=Cq λ_ _ _ _ _ _ _ q=>add_int q
theorem cg:OpR X (binaryOp .Sub) (rI0 λi j =>.int (i-j)):=Cq λ_ _ _ _ _ _ _ q=>sub_int q
theorem fk:OpR X (binaryOp .Mult) (rI Bj λi j =>.int (i*j)):=opI λ_ _ _ _ _ _ _ hc q=>mul_int q hc.ok
theorem zg:OpR X (binaryOp .FloorDiv) (rI CDiv λi j =>.int (i/j)):=opI λi j _ _ _ _ _ hc q=>by
 have h1:(0:Int)<j:=hc.1
 have h2:j<1073741824:=hc.2
 exact floordiv_int (by lia) (by rw[Jk i (by lia)];exact q) (.inl (PyProof.noPylong_small (by lia)))
theorem eG:OpR X (binaryOp .Mod) (rI (λ_ j=>0<j) λi j =>.int (i%j)):=opI λi j _ _ _ _ _ hc q=>by
 have h1:(0:Int)<j:=hc
 exact mod_int' (by lia) (by rw[Jl i (by lia)];exact q)
theorem lC:OpR X (binaryOp .Pow) (rI CPow λi j =>.int (i ^ j.toNat)):=opI λ_ _ _ _ _ _ _ hc q=>pow_int_small hc.1 hc.2.1 hc.2.2 q
theorem unI {f:C9->Sem C9}{g:Int->Int}
  (rule:∀(i:Int) (t:Tok) (s:Dg) (Q:C9->Dg->Prop) (E:C9->Dg->Prop),Q (.int (g i) s.toks) { s with toks:=s.toks+1 }->DI (DS X.prog X.w) X.A (f (.int i t)) Q E s) :
  UnR X f (rU λi =>.int (g i)):=by
 intro pins s σ H x v Q I rx h
 obtain ⟨i,rfl,q⟩:=h
 obtain ⟨t,rfl⟩:=rx
 exact rule i t s _ _ ⟨.int (g i),H,I.tok _,⟨_,rfl⟩,q⟩
theorem sA:UnR X (unaryOp .USub) (rU λi =>.int (-i)):=unI λ_ _ _ _ _ q=>neg_int q
end
def Cr:V->V->Bool
 | .non,.non=>true | .non,.int _=>true | .int _,.non=>true | .non,.bl _=>true | .bl _,.non=>true | .non,.str _=>true | .str _,.non=>true
 | .int _,.int _=>true | .bl _,.bl _=>true | .str _,.str _=>true | .byt _,.byt _=>true
 | .int _,.str _=>true | .str _,.int _=>true | .bl _,.str _=>true | .str _,.bl _=>true
 | _,_=>false
def rEq:R2:=λx y H Q=>Cr x y=true/\Q (.bl (decide (x=y))) H
def rNe:R2:=λx y H Q=>Cr x y=true/\Q (.bl (!decide (x=y))) H
theorem ud {i j:Int}:decide (V.int i=V.int j)=(i == j):=by
 rw[FW]
 simp
theorem w6 {i j:Bool}:decide (V.bl i=V.bl j)=(i == j):=by
 rw[FW]
 simp
theorem uf {i j:Str}:decide (V.str i=V.str j)=(i == j):=by
 rw[FW]
 simp
theorem ug {i j:Array UInt8}:decide (V.byt i=V.byt j)=(i.toList == j.toList):=by
 rw[FW]
 cases i
 cases j
 simp
section
variable  {X:Cx}{a b c:Expr}{ta tb tc:TE}{pos:Pos}
theorem bq {pins:List (Addr×Obj)}{σ:St}{H:Hp}{s:Dg}{Q:VK}{k k':Bool}(I:Inv X pins σ H s)(q:Q (.bl k) H)(e:k=k'):EP X pins σ Q (.bool k') s:=by
 subst e
 exact ⟨.bl k,H,I,rfl,q⟩
theorem cu:OpR X (Fj .Eq) rEq:=by
 intro pins s σ H x y v u Q I rx ry h
 obtain ⟨hs,q⟩:=h
 cases x with
 | non =>
  cases rx
  cases y with
  | non=>cases ry;exact PySem.EqNone.eq_none_none (bq I q (by simp))
  | bl j=>cases ry;exact PySem.EqNone.eq_none_bool (bq I q (by simp))
  | int j=>obtain ⟨t',rfl⟩:=ry;exact PySem.EqNone.eq_none_int (bq I q (by simp))
  | str j=>obtain ⟨t',rfl⟩:=ry;exact PySem.EqNone.eq_none_str (bq I q (by simp))
  | _=>exact absurd (show false=true from hs) Dv
 | bl i =>
  cases rx
  cases y with
  | non=>cases ry;exact PySem.EqNone.eq_bool_none (bq I q (by simp))
  | bl j=>cases ry;exact eq_bool (bq I q w6)
  | str j=>obtain ⟨t',rfl⟩:=ry;exact Mv (bq I q (by simp))
  | _=>exact absurd (show false=true from hs) Dv
 | int i =>
  obtain ⟨t,rfl⟩:=rx
  cases y with
  | non=>cases ry;exact PySem.EqNone.eq_int_none (bq I q (by simp))
  | int j=>obtain ⟨t',rfl⟩:=ry;exact eq_int (bq I q ud)
  | str j=>obtain ⟨t',rfl⟩:=ry;exact MD (bq I q (by simp))
  | _=>exact absurd (show false=true from hs) Dv
 | str i =>
  obtain ⟨t,rfl⟩:=rx
  cases y with
  | non=>cases ry;exact PySem.EqNone.eq_str_none (bq I q (by simp))
  | bl j=>cases ry;exact Mw (bq I q (by simp))
  | int j=>obtain ⟨t',rfl⟩:=ry;exact ME (bq I q (by simp))
  | str j=>obtain ⟨t',rfl⟩:=ry;exact eq_str (bq I q uf)
  | _=>exact absurd (show false=true from hs) Dv
 | byt i =>
  obtain ⟨t,rfl⟩:=rx
  cases y with
  | byt j=>obtain ⟨t',rfl⟩:=ry;exact PySem.W.eq_bytes (bq I q ug)
  | _=>exact absurd (show false=true from hs) Dv
 | _=>cases y <;> exact absurd (show false=true from hs) Dv
theorem j0:OpR X (Fj .NotEq) rNe:=by
 intro pins s σ H x y v u Q I rx ry h
 obtain ⟨hs,q⟩:=h
 cases x with
 | non =>
  cases rx
  cases y with
  | non=>cases ry;exact PySem.EqNone.ne_none_none (bq I q (by simp))
  | bl j=>cases ry;exact PySem.EqNone.ne_none_bool (bq I q (by simp))
  | int j=>obtain ⟨t',rfl⟩:=ry;exact PySem.EqNone.ne_none_int (bq I q (by simp))
  | str j=>obtain ⟨t',rfl⟩:=ry;exact PySem.EqNone.ne_none_str (bq I q (by simp))
  | _=>exact absurd (show false=true from hs) Dv
 | bl i =>
  cases rx
  cases y with
  | non=>cases ry;exact PySem.EqNone.ne_bool_none (bq I q (by simp))
  | bl j=>cases ry;exact ne_bool (bq I q (congrArg not w6))
  | str j=>obtain ⟨t',rfl⟩:=ry;exact Mx (bq I q (by simp))
  | _=>exact absurd (show false=true from hs) Dv
 | int i =>
  obtain ⟨t,rfl⟩:=rx
  cases y with
  | non=>cases ry;exact PySem.EqNone.ne_int_none (bq I q (by simp))
  | int j=>obtain ⟨t',rfl⟩:=ry;exact ne_int (bq I q (congrArg not ud))
  | str j=>obtain ⟨t',rfl⟩:=ry;exact MF (bq I q (by simp))
  | _=>exact absurd (show false=true from hs) Dv
 | str i =>
  obtain ⟨t,rfl⟩:=rx
  cases y with
  | non=>cases ry;exact PySem.EqNone.ne_str_none (bq I q (by simp))
  | bl j=>cases ry;exact My (bq I q (by simp))
  | int j=>obtain ⟨t',rfl⟩:=ry;exact MG (bq I q (by simp))
  | str j=>obtain ⟨t',rfl⟩:=ry;exact ne_str (bq I q (congrArg not uf))
  | _=>exact absurd (show false=true from hs) Dv
 | byt i =>
  obtain ⟨t,rfl⟩:=rx
  cases y with
  | byt j=>obtain ⟨t',rfl⟩:=ry;exact PySem.W.ne_bytes (bq I q (congrArg not ug))
  | _=>exact absurd (show false=true from hs) Dv
 | _=>cases y <;> exact absurd (show false=true from hs) Dv
theorem iN:OpR X (Fj .Lt) (rI0 λi j =>.bl (decide (i<j))):=zf λ_ _ _ _ _ _ _ q=>lt_int q
theorem uh:OpR X (Fj .LtE) (rI0 λi j =>.bl (decide (i<=j))):=zf λ_ _ _ _ _ _ _ q=>le_int q
theorem j5:OpR X (Fj .Gt) (rI0 λi j =>.bl (decide (j<i))):=zf λ_ _ _ _ _ _ _ q=>gt_int q
theorem w9:OpR X (Fj .GtE) (rI0 λi j =>.bl (decide (j<=i))):=zf λ_ _ _ _ _ _ _ q=>ge_int q
theorem aH (b:Expr){op:CmpOp}(h:op ≠ .In:=by decide)(h2:op ≠ .NotIn:=by decide):behindInMarks op b=false:=by
 have e1:(op == CmpOp.In)=false:=by cases op <;> first | rfl | exact absurd rfl h
 have e2:(op == CmpOp.NotIn)=false:=by cases op <;> first | rfl | exact absurd rfl h2
 cases b <;> simp[behindInMarks,e1,e2]
theorem fq {op:CmpOp}{r:R2}(ho:OpR X (Fj op) r)(ha:PE X a ta)(hb:PE X b tb)(hm:behindInMarks op b=false):PE X (.Compare a [op] [b] pos) (tOp r ta tb):=by
 intro pins s σ H Q I h
 exact wpAny_Compare1 (Bi ha hb I h λv u s2 x y H2 I2 rx ry q=>ho pins s2 σ H2 x y v u Q I2 rx ry q) hm
def Cs (t:TE):TT:=λσ H Q=>t σ H λx H'=>∃k,x = .bl k/\Q k H'
theorem aD {op:CmpOp}{r:R2}(ho:OpR X (Fj op) r)(ha:PE X a ta)(hb:PE X b tb)(hm:behindInMarks op b=false):PT X (.Compare a [op] [b] pos) (Cs (tOp r ta tb)):=by
 intro pins s σ H Q I h
 refine KH (thn (ha pins s σ H _ I h) λv s1 ⟨x,H1,I1,r1,q1⟩=>thn (hb pins s1 σ H1 _ I1 q1) λu s2 ⟨y,H2,I2,r2,q2⟩ =>
  thn (ho pins s2 σ H2 x y v u _ I2 r1 r2 q2) λc s3 ⟨z,H3,I3,r3,k,e,q3⟩ =>?_) hm
 subst e
 cases r3
 exact FQ ⟨H3,I3,q3⟩
def Bk (r r':R2)(ta tb tc:TE):TE:=λσ H Q=>ta σ H λx H1=>tb σ H1 λy H2=>r x y H2 λz H3=>∃k,z = .bl k ∧
 (if k=true then tc σ H3 λw' H4=>r' y w' H4 Q else Q (.bl false) H3)
theorem lE {op op':CmpOp}{r r':R2}(ho:OpR X (Fj op) r)(ho':OpR X (Fj op') r')(ha:PE X a ta)(hb:PE X b tb)(hc:PE X c tc)
  (hm:lastMarks [op,op'] [b,c]=false:=by with_unfolding_all rfl):PE X (.Compare a [op,op'] [b,c] pos) (Bk r r' ta tb tc):=by
 intro pins s σ H Q I h
 refine Compare_chain (thn (ha pins s σ H _ I h) λv s1 ⟨x,H1,I1,r1,q1⟩=>chain_link (thn (hb pins s1 σ H1 _ I1 q1) λu s2 ⟨y,H2,I2,r2,q2⟩ =>
  thn (ho pins s2 σ H2 x y v u _ I2 r1 r2 q2) λd s3 ⟨z,H3,I3,r3,k,e,q3⟩ =>?_)) hm
 subst e
 cases r3
 refine FQ ?_
 cases k with
 | false=>exact ite_ff ⟨.bl false,H3,I3,rfl,q3⟩
 | true=>exact ite_tt (chain_last (thn (hc pins s3 σ H3 _ I3 q3) λw' s4 ⟨z',H4,I4,r4,q4⟩=>ho' pins s4 σ H4 y z' u w' Q I4 r2 r4 q4))
def Ct (K:Df)(x:V)(H:Hp)(k:Bool):Prop :=
 match x with
 | .non=>k=false
 | .bl b=>k=b
 | .int i=>k=(i != 0)
 | .str y=>y.length<=Dm/\k=((y.length:Int) != 0)
 | .byt y=>y.size<=Dm/\k=((y.size:Int) != 0)
 | .ref p=>(∃xs,SqL K H p xs/\k = !xs.isEmpty)\/(∃xs,SqT K H p xs/\k = !xs.isEmpty)\/∃kvs,H p=some (.dK kvs)/\k = !kvs.isEmpty
 | _=>False
theorem sC {κ:Type}{kvs:List (κ×V)}{vs:List (κ×C9)}(r:KV kvs vs):(!vs.isEmpty) = !kvs.isEmpty:=by
 cases r <;> rfl
theorem lF {xs:List V}{its:List C9}(r:Vals xs its):(!its.toArray.isEmpty) = !xs.isEmpty:=by
 cases r <;> simp
theorem lH:(Dm:Nat)<2 ^ 63:=by rw[F8];decide
theorem Bl:TruR X (λx H Q=>∃k,Ct X.K x H k/\Q k H):=by
 intro pins s σ H x v Q I rx h
 obtain ⟨k,e,q⟩:=h
 have hl:=lH
 have hs:Dm=16777216:=F8
 cases x with
 | non =>
  cases rx
  have e':k=false:=e
  subst e'
  exact truthy_none ⟨H,I,q⟩
 | bl b =>
  cases rx
  have e':k=b:=e
  subst e'
  exact FQ ⟨H,I,q⟩
 | int i =>
  obtain ⟨t,rfl⟩:=rx
  have e':k=(i != 0):=e
  subst e'
  exact PySem.P.truthy_int ⟨H,I,q⟩
 | str y =>
  obtain ⟨t,rfl⟩:=rx
  obtain ⟨hy,e'⟩:y.length<=Dm/\k=((y.length:Int) != 0):=e
  subst e'
  exact PySem.P.truthy_str (by lia) ⟨H,I.tok _,q⟩
 | byt y =>
  obtain ⟨t,rfl⟩:=rx
  obtain ⟨hy,e'⟩:y.size<=Dm/\k=((y.size:Int) != 0):=e
  subst e'
  exact PySem.W.truthy_bytes (by lia) ⟨H,I.tok _,q⟩
 | ref p =>
  cases rx
  have e':(∃xs,SqL X.K H p xs/\k = !xs.isEmpty)\/(∃xs,SqT X.K H p xs/\k = !xs.isEmpty)\/∃kvs,H p=some (.dK kvs)/\k = !kvs.isEmpty:=e
  rcases e' with ⟨xs,hx,e'⟩ | ⟨xs,hx,e'⟩ | ⟨kvs,hx,e'⟩
  ·subst e'
   obtain ⟨its,r,pl,hz⟩:=I.list hx
   have hlen:=r.length
   exact wpAny_truthy_list pl.isList (by simp only[Dk];lia) ⟨H,I.tok _,by rw[lF r];exact q⟩
  ·subst e'
   obtain ⟨its,r,pl,hz⟩:=I.tuple hx
   have hlen:=r.length
   exact truthy_tuple pl (by simp only[Dk];lia) ⟨H,I.tok _,by rw[lF r];exact q⟩
  ·subst e'
   obtain ⟨hz,hS,vs,r,m⟩:kvs.length<=Dm/\(p == sysModules)=false/\∃vs,KV kvs vs/\s.heap.DictOf (bD X.prog X.w) p vs:=I.hok p _ hx
   have hlen:kvs.length=vs.length:=Hn r
   exact wpAny_truthy_dict hS m (by lia) ⟨H,I.tok _,by rw[sC r];exact q⟩
 | _=>exact (show False from e).elim
theorem xc (ha:PE X a ta)(he:∀whole,isTrue a X.env whole=(do let v ← whole;standAt a.pos;Mu [v] (truthy v))) :
    PT X a (λσ H Q=>ta σ H λx H'=>∃k,Ct X.K x H' k/\Q k H'):=by
  intro pins s σ H Q I h
  exact isTrue_plain (thn (ha pins s σ H _ I h) λv s1 ⟨x,H1,I1,r1,q1⟩=>Bl pins s1 σ H1 x v Q I1 r1 q1) (he _)
theorem vals1 {x:V}{us:List C9}(r:Vals [x] us):∃u,us=[u]/\RelV x u:=by
 cases r with
 | cons r1 r2=>cases r2;exact ⟨_,rfl,r1⟩
theorem vals2 {x y:V}{us:List C9}(r:Vals [x,y] us):∃u w',us=[u,w']/\RelV x u/\RelV y w':=by
 cases r with
 | cons r1 r2 =>
  cases r2 with
  | cons r3 r4=>cases r4;exact ⟨_,_,rfl,r1,r3⟩
theorem gL (hc:X.calm=true):bL X (.builtin "max") (λxs H Q=>∃i j,xs=[.int i,.int j]/\Q (.int (if j>i then j else i)) H):=by
 intro pins s σ H xs us Q I r h
 obtain ⟨i,j,rfl,q⟩:=h
 obtain ⟨u,w',rfl,⟨t,rfl⟩,⟨t',rfl⟩⟩:=vals2 r
 refine max_two_ints (I.ok.hd hc) λh' tk k=>⟨_,H,I.kept k,?_,q⟩
 by_cases hj:j>i
 ·rw[if_pos hj,if_pos hj];exact ⟨_,rfl⟩
 ·rw[if_neg hj,if_neg hj];exact ⟨_,rfl⟩
theorem jH (hc:X.calm=true):bL X (.builtin "min") (λxs H Q=>∃i j,xs=[.int i,.int j]/\Q (.int (if j<i then j else i)) H):=by
 intro pins s σ H xs us Q I r h
 obtain ⟨i,j,rfl,q⟩:=h
 obtain ⟨u,w',rfl,⟨t,rfl⟩,⟨t',rfl⟩⟩:=vals2 r
 refine min_two_ints (I.ok.hd hc) λh' tk k=>⟨_,H,I.kept k,?_,q⟩
 by_cases hj:j<i
 ·rw[if_pos hj,if_pos hj];exact ⟨_,rfl⟩
 ·rw[if_neg hj,if_neg hj];exact ⟨_,rfl⟩
theorem nN:bL X (.type "int") (λxs H Q=>(∃i,xs=[.int i]/\Q (.int i) H)\/∃k,xs=[.bl k]/\Q (.int (if k then 1 else 0)) H):=by
 intro pins s σ H xs us Q I r h
 rcases h with ⟨i,rfl,q⟩ | ⟨k,rfl,q⟩
 ·obtain ⟨u,rfl,t,rfl⟩:=vals1 r
  exact call_int_int ⟨.int i,H,I,⟨_,rfl⟩,q⟩
 ·obtain ⟨u,rfl,r1⟩:=vals1 r
  cases r1
  exact call_int_bool ⟨.int (if k then 1 else 0),H,I.tok _,⟨_,rfl⟩,q⟩
end
structure Bm (h:Heap)(x dx C:Addr)(mA:Str->Option C9):Prop where
 obj:h.get? x=some (PySem.W.instObj C dx)
 ns:h.Ns1 dx mA
 ne:dx≠x
theorem vp {h:Heap}{dx:Addr}{mA:Str->Option C9}(n:h.Ns1 dx mA):∃od,h.get? dx=some od/\∀name,PySem.W.lookIn name od=some (mA name):=by
 obtain ⟨o,es,ep,ho,hd,hk,_,hm⟩:=n
 refine ⟨o,ho,λname =>?_⟩
 have e:=hm name
 unfold nsFind findBy at e
 rw[<- Array.find?_toList] at e
 unfold PySem.W.lookIn
 rw[hd]
 dsimp only
 split
 ·rename_i y q
  rw[q] at e
  exact congrArg some e
 ·rename_i q
  rw[q] at e
  have a:es.toList.any (·.refKey)=false:=by
   rw[List.any_eq_false]
   intro y hy
   obtain ⟨z,t,hkey⟩:=hk y (D4.mp hy)
   simp[DictEntry.refKey,hkey]
  have a':¬ es.toList.any (·.refKey)=true:=by rw[a];exact Dv
  rw[if_neg a']
  exact congrArg some e
theorem Bm.look {h:Heap}{x dx C:Addr}{mA:Str->Option C9}(I:Bm h x dx C mA):∃od,PySem.W.InstAt h x (PySem.W.instObj C dx) C (some od)/\∀name,PySem.W.lookIn name od=some (mA name) :=
 let ⟨od,ho,hl⟩:=vp I.ns
 ⟨od,⟨I.obj,rfl,rfl,ho⟩,hl⟩
section
variable  {prog:DH}{w:Eb}{A:Ep}{E:C9->Dg->Prop}{s:Dg}{K:Df}{x dx C f:Addr}{mA:Str->Option C9}{name:Str}{v:C9}
end
theorem jE.some_of {v:V}{o:Option C9}(r:jE (some v) o):∃u,o=some u/\RelV v u:=by
 cases o with
 | none=>exact (show False from r).elim
 | some u=>exact ⟨u,rfl,r⟩
section
variable  {P:DH}{w:Eb}{H H':Hp}{h h':Heap}{a C dx:Addr}{fs fs':List (Str×V)}
theorem zh (hok:HOk P w H h)(e:H a=some (.ins C dx fs)):∃mA,Bm h a dx C mA/\(∀f,jE (fs.lookup f) (mA f))/\PySem.Within mA (fs.map (·.1))/\fs.length<=1000/\H dx=some (.own a):=by
 obtain ⟨d,z,ne,ob,mA,n,r,q⟩:=(show bB P w H h a (.ins C dx fs) from hok a _ e)
 exact ⟨mA,⟨ob,n,ne⟩,r,q,z,d⟩
end
structure Cls (K:Df)(C:Addr):Prop where
 pg:PySem.W.plainGet K C Str.empty=true
 hd:PySem.W.hasDictIn K C=true
 po:PySem.W.plainOver K C=true
 sa:PySem.W.findIn K (.ref C) "__setattr__" = some (some (.builtin "object.__setattr__"))
theorem Cls.get {K:Df}{C:Addr}(c:Cls K C)(f:Str):PySem.W.plainGet K C f=true:=c.pg
section
variable  {X:Cx}{pins:List (Addr×Obj)}{σ:St}{H:Hp}{s:Dg}{a C dx:Addr}{fs:List (Str×V)}{f:Str}{v:V}{A:Ep}{E:C9->Dg->Prop}
end
section
variable  {X:Cx}{o e value:Expr}{f:Str}{pos pos' tpos:Pos}{ta tv:TE}
end
section
variable  {X:Cx}{pins:List (Addr×Obj)}{σ:St}{H:Hp}{s:Dg}{A:Ep}{E:C9->Dg->Prop}{Q:C9->Dg->Prop}{c:C9}{b:Bool}
inductive jJ (K:Df)(H:Hp):V->C9->Prop where
 | non:jJ K H .non (.type "NoneType")
 | bl (x:Bool):jJ K H (.bl x) (.type "bool")
 | int (i:Int):jJ K H (.int i) (.type "int")
 | str (x:Str):jJ K H (.str x) (.type "str")
 | flt (x:UInt64):jJ K H (.flt x) (.type "float")
 | lst {a:Addr} {xs:List V} (e:H a=some (.lst xs)):jJ K H (.ref a) (.type "list")
 | frz {a:Addr} {o:Obj} {xs:List V} (e:H a=some (.frz o (.lst xs))):jJ K H (.ref a) (.type "list")
 | tup {a:Addr} {xs:List V} (e:H a=some (.tup xs)):jJ K H (.ref a) (.type "tuple")
 | dK {a:Addr} {kvs:List (Key×V)} (e:H a=some (.dK kvs)):jJ K H (.ref a) (.type "dict")
 | dT {a:Addr} {kvs:List (List Key×V)} (e:H a=some (.dT kvs)):jJ K H (.ref a) (.type "dict")
 | ins {a C dx:Addr} {fs:List (Str×V)} (e:H a=some (.ins C dx fs)) (cl:Cls K C) (ha:PySem.W.findIn K (.ref C) "__class__" = some (some (.builtin "object.__class__")))
   (hn:PySem.W.specialIn K (.builtin "object.__class__") "__get__" = some (some (.builtin "getset_descriptor.__get__"))) (htk:PySem.W.takesIn K (.builtin "object.__class__")=some true)
   (hm:PySem.W.mroIn K C (.type "object")=some true):jJ K H (.ref a) (.ref C)
theorem vq {x:V}{u t:C9}(I:Inv X pins σ H s)(rx:RelV x u)(ty:jJ X.K H x t)(e:PySem.W.kitOne X.K t c=some b)(h:∀tk,Q (.bool b) { s with toks:=tk }) :
  DI (DS X.prog X.w) A (call (.builtin "isinstance") [u,c]) Q E s:=by
 cases ty with
 | non=>cases (show u=E9 from rx);exact Fs PySem.W.kitx_none I.kIn True.intro e (λz=>nomatch z) h
 | bl y=>cases (show u=Value.bool y from rx);exact Fs PySem.W.kitx_bool I.kIn True.intro e (λz=>nomatch z) h
 | int i=>obtain ⟨t,q⟩:=(show ∃t,u=EL i t from rx);cases q;exact Fs PySem.W.kitx_int I.kIn True.intro e (λz=>nomatch z) h
 | str y=>obtain ⟨t,q⟩:=(show ∃t,u=Value.str y t from rx);cases q;exact Fs PySem.W.kitx_str I.kIn True.intro e (λz=>nomatch z) h
 | flt y=>obtain ⟨t,q⟩:=(show ∃t,u=Value.float y t from rx);cases q;exact Fs PySem.W.kitx_float I.kIn True.intro e (λz=>nomatch z) h
 | @lst a xs ea =>
  cases (show u=DG a from rx)
  obtain ⟨_,_,n,_,h1⟩:=(show bB X.prog X.w H s.heap a (.lst xs) from I.hok a _ ea)
  exact Fs LC I.kIn ⟨_,h1,rfl⟩ e (λz=>nomatch z) h
 | @frz a ob xs ea =>
  cases (show u=DG a from rx)
  obtain ⟨_,_,_,n,_,h1⟩:=(show bB X.prog X.w H s.heap a (.frz ob (.lst xs)) from I.hok a _ ea)
  exact Fs LC I.kIn ⟨_,h1,rfl⟩ e (λz=>nomatch z) h
 | @tup a xs ea =>
  cases (show u=DG a from rx)
  obtain ⟨_,_,_,p⟩:=(show bB X.prog X.w H s.heap a (.tup xs) from I.hok a _ ea)
  obtain ⟨o,h1,h2,_⟩:=p
  exact Fs PySem.W.kitx_tuple I.kIn ⟨o,h1,h2.1⟩ e (λz=>nomatch z) h
 | @dK a kvs ea =>
  cases (show u=DG a from rx)
  obtain ⟨_,_,vs,_,p⟩:=(show bB X.prog X.w H s.heap a (.dK kvs) from I.hok a _ ea)
  obtain ⟨o,es,ep,h1,h2,_⟩:=p
  exact Fs LD I.kIn ⟨o,h1,h2.1⟩ e (λz=>nomatch z) h
 | @dT a kvs ea =>
  cases (show u=DG a from rx)
  obtain ⟨_,_,xs,_,o,es,ep,h1,h2,_⟩:=(show bB X.prog X.w H s.heap a (.dT kvs) from I.hok a _ ea)
  exact Fs LD I.kIn ⟨o,h1,h2.1⟩ e (λz=>nomatch z) h
 | @ins a C dx fs ea cl ha hn htk hm =>
  cases (show u=DG a from rx)
  obtain ⟨mA,O,_⟩:=zh I.hok ea
  obtain ⟨od,J,_⟩:=O.look
  exact Fs (PySem.W.kitx_own (cl.get _) cl.hd ha hn htk hm) I.kIn J e (λz=>nomatch z) h
end
structure dG (k:Nat)(A:Ep):Prop where
 hd:A.handled=none
 dp:A.depth+3*k+5<recursionLimit
 un:A.units+16*k+200<cLine
theorem dG.mono {j k:Nat}{A:Ep}(r:dG k A)(h:j<=k):dG j A:=⟨r.hd,by have:=r.dp;lia,by have:=r.un;lia⟩
theorem dG.deeper {k:Nat}{A:Ep}(r:dG (k+1) A)(env:Env):dG k (A.deeper env) :=
 ⟨r.hd,by have:=r.dp;show A.depth+1+3*k+5<_;lia,by have:=r.un;show A.units+3+16*k+200<_;lia⟩
theorem dG.depth {k:Nat}{A:Ep}(r:dG k A):A.depth<recursionLimit:=by have:=r.dp;lia
theorem dG.units {k:Nat}{A:Ep}(r:dG k A):A.units+64<cLine:=by have:=r.un;lia
def tNil:TA:=λ_ H Q=>Q [] H
def Cu (ta:TE)(tr:TA):TA:=λσ H Q=>ta σ H λx H1=>tr σ H1 λxs H2=>Q (x :: xs) H2
section
variable  {X:Cx}{e:Expr}{es:List Expr}{te:TE}{t:TA}{pos:Pos}
theorem ah:PA X [] tNil:=λ_ _ _ _ H Q I h=>Ho ⟨[],H,I,.nil,h⟩
theorem aa (ha:PE X e te)(hr:PA X es t)(hs:Em (e :: es) X.env=(false,eval e X.env) :: Em es X.env:=by rfl):PA X (e :: es) (Cu te t):=by
 intro pos pins s σ H Q I h
 rw[hs]
 show DI _ _ (spliced ((false,eval e X.env) :: Ih pos (Em es X.env))) _ _ s
 refine FZ (thn (ha pins s σ H _ I h) λu s1 ⟨x,H1,I1,r1,q1⟩ =>?_)
 exact thn (hr pos pins s1 σ H1 _ I1 q1) λus s2 ⟨xs,H2,I2,r2,q2⟩=>⟨x :: xs,H2,I2,.cons r1 r2,q2⟩
def tTup (t:TA):TE:=λσ H Q=>t σ H λxs H1=>xs.length<=Dm/\∀p,H1 p=none->Q (.ref p) (upd H1 p (.tup xs))
def tLst (t:TA):TE:=λσ H Q=>t σ H λxs H1=>xs.length<=Dm/\∀p,H1 p=none->Q (.ref p) (upd H1 p (.lst xs))
theorem aT {x1}(h:PA X es t):PE X (.Tuple es x1 pos) (tTup t):=by
 intro pins s σ H Q I hq
 refine wpAny_Tuple_spliced (thn (h pos pins s σ H _ I hq) λus s1 ⟨xs,H1,I1,r,z,q⟩=>⟨by rw[<- r.length];exact z,?_⟩)
 have hf:H1 s1.heap.objs.size=none:=I1.hok.fresh (Dd _)
 refine ⟨.ref s1.heap.objs.size,upd H1 s1.heap.objs.size (.tup xs),I1.laid (t':=s1.toks) (λb u e=>C7 _ e) (Dd _) ?_,rfl,q _ hf⟩
 exact ⟨z,us,r,⟨_,Dn _ rfl,⟨rfl,rfl⟩,_,rfl⟩⟩
theorem bH (h:PA X es t):PE X (.List es pos) (tLst t):=by
 intro pins s σ H Q I hq
 refine wpAny_List_spliced (thn (h pos pins s σ H _ I hq) λus s1 ⟨xs,H1,I1,r,z,q⟩=>⟨by rw[<- r.length];exact z,?_⟩)
 have hf:H1 s1.heap.objs.size=none:=I1.hok.fresh (Dd _)
 refine ⟨.ref s1.heap.objs.size,upd H1 s1.heap.objs.size (.lst xs),I1.laid (t':=s1.toks) (λb u e=>C7 _ e) (Dd _) ?_,rfl,q _ hf⟩
 exact ⟨z,us,0,r,Dn _ rfl⟩
end
abbrev Sp:=List V->Hp->VK->XK->Prop
abbrev CXT:=List Env->Hp->Dg->XK->C9->Dg->Prop
structure zi (P:DH)(w:Eb)(K:Df)(mg:Str->Option C9)(base:Heap)(A:Ep)(outer:List Env)(s:Dg)(H:Hp):Prop where
 frames:A.frames=some outer
 mod:Mod K mg base
 bs:∀b o,base.get? b=some o->s.heap.get? b=some o/\H b=none
 bsz:base.objs.size<=s.heap.objs.size
 funs:s.heap.FunFrames base outer
 frf:∀b∈frs outer,H b=none
 hok:HOk P w H s.heap
 bare:AllBare s.gens
def CE (outer:List Env)(P:DH)(w:Eb)(H:Hp)(s:Dg)(Q:VK)(u:C9)(s':Dg):Prop :=
 ∃v H',s'.os=s.os/\AllBare s'.gens/\Un (frs outer) [] H H' s.heap s'.heap/\HOk P w H' s'.heap/\RelV v u/\Q v H'
def CR (CX:CXT)(outer:List Env)(P:DH)(w:Eb)(H:Hp)(s:Dg)(Q:VK)(E:XK)(r:Result)(s':Dg):Prop :=
 match r with
 | .ok (.ret u)=>CE outer P w H s Q u s'
 | .ok _=>False
 | .error e=>CX outer H s E e s'
structure cy (P:DH)(w:Eb)(K:Df)(mg:Str->Option C9)(base:Heap)(CX:CXT)(k:Nat)(f:Addr)(fd:EK)(ps:List Str)(sp:Sp):Prop where
 len:∀vs H Q E,sp vs H Q E->vs.length=ps.length
 run:∀(A:Ep) (outer:List Env) (s:Dg) (H:Hp) (args:Args) (us:List C9) (vs:List V) (Q:VK) (E:XK),dG k A->zi P w K mg base A outer s H->BindsTo s fd args (ps.zip us)->Vals vs us->sp vs H Q E →
  Ji (DS P w) A (.call (.ref f) args) (CR CX outer P w H s Q E) s
section
variable  {X:Cx}{pins:List (Addr×Obj)}{σ:St}{H:Hp}{s s':Dg}
theorem Inv.env0 (I:Inv X pins σ H s):zi X.prog X.w X.K X.mg X.base X.A X.stack s H :=
 ⟨I.ok.frames,I.ok.mod,I.bs,DU I.ok.bsz I.sz,I.stack,I.t7,I.hok,I.bare⟩
theorem Inv.after {Q:VK}{u:C9}(I:Inv X pins σ H s)(h:CE X.stack X.prog X.w H s Q u s'):EP X pins σ Q u s':=by
 obtain ⟨v,H',os,bare,un,hok,r,q⟩:=h
 obtain ⟨hh,g,d,t,os'⟩:=s'
 obtain rfl:os'=s.os:=os
 exact ⟨v,H',I.call (h':=hh) (g':=g) (d':=d) (t':=t) (ch:=[]) un hok bare (λb z=>absurd z (by simp)),r,q⟩
end
def AK (sp:Sp)(dvs:List V)(E:XK)(t:TA):TE:=λσ H Q=>t σ H λvs H1=>sp (vs++dvs) H1 Q E
def Binds (K:Df)(fd:EK)(ps:List Str)(ds:List C9):Prop :=
 ∀(s:Dg) (us:List C9),K.In s.heap->(us++ds).length=ps.length->BindsTo s fd ⟨us,[]⟩ (ps.zip (us++ds))
theorem Binds.all {K:Df}{fd:EK}{ps:List Str}(h:∀us:List C9,us.length=ps.length->bindArgs fd ⟨us,[]⟩=pure (ps.zip us)):Binds K fd ps []:=λs us _ hl=>by
 rw[DZ] at hl ⊢
 exact .of_eq (h us hl)
def Passes (CX:CXT)(X:Cx)(E:XK):Prop:=∀(pins:List (Addr×Obj)) (σ:St) (H:Hp) (s:Dg) (e:C9) (s':Dg),Inv X pins σ H s->CX X.stack H s E e s'->X.xe e s'
section
variable  {X:Cx}{CX:CXT}{k:Nat}{f C:Addr}{fd:EK}{ps:List Str}{sp:Sp}{dvs:List V}{ds:List C9}{E:XK}{x m:Str}{p pos apos:Pos}{e o:Expr}{es:List Expr}{ta:TE}{t:TA}
theorem Bn {pins:List (Addr×Obj)}{σ:St}{H:Hp}{s:Dg}{Q:VK}{us:List C9}{vs:List V}(F:cy X.prog X.w X.K X.mg X.base CX k f fd ps sp)(hr:dG k X.A)(hb:Binds X.K fd ps ds)(hd:Vals dvs ds)(hx:Passes CX X E)
  (I:Inv X pins σ H s) (r:Vals vs us) (h:sp (vs++dvs) H Q E):DI (DS X.prog X.w) X.A (call (.ref f) us) (EP X pins σ Q) X.xe s:=by
 have r2:Vals (vs++dvs) (us++ds):=r.append hd
 have hl:(us++ds).length=ps.length:=by rw[<- r2.length];exact F.len _ _ _ _ h
 refine MI (HV (F.run X.A X.stack s H ⟨us,[]⟩ (us++ds) (vs++dvs) Q E hr I.env0 (hb s us I.kIn hl) r2 h) λr s' hq =>?_)
 cases r with
 | error e=>exact hx pins σ H s e s' I hq
 | ok fl =>
  cases fl with
  | ret u=>exact I.after hq
  | next=>exact False.elim hq
  | brk=>exact False.elim hq
  | cont=>exact False.elim hq
theorem zj (F:cy X.prog X.w X.K X.mg X.base CX k f fd ps sp)(hr:dG k X.A)(hg:Gl X x)(hm:X.mg x=some (.ref f))(hk:PySem.W.keepIn X.K (.ref f)=true)(hb:Binds X.K fd ps ds)(hd:Vals dvs ds)(hx:Passes CX X E)
  (ha:PA X (e :: es) t) (hdb:(x == ("__debug__" : Str))=false:=by decide) (he:Em (e :: es) X.env=(false,eval e X.env) :: Em es X.env:=by rfl) (hpl:(Ih pos (Em es X.env)).any (·.1)=false:=by rfl) :
  PE X (.Call (.Name x p) (e :: es) [] pos) (AK sp dvs E t):=by
 intro pins s σ H Q I h
 refine F1 (zd I hg hm ?_ hdb)
 refine PySem.W.callWith_K (h₀:=X.base) I.ok.mod.kin hk (thn (ha pos pins s σ H _ I h) λus s1 ⟨vs,H1,I1,r,q⟩=>⟨I1.kIn,?_⟩) he hpl
 exact Bn F hr hb hd hx I1 r q
end
section
variable  {X:Cx}{CX:CXT}{k:Nat}{f C:Addr}{fd:EK}{ps ks:List Str}{sp:Sp}{E:XK}{x m:Str}{p pos apos kpos:Pos}{e o:Expr}{es:List Expr}{kws:List Keyword}{te ta:TE}{t tk:TA}{nm:Option Str}
variable  {g:List C9->List C9->List C9}{gV:List V->List V->List V}
end
structure aU (N P:List Str)(sc:Scope):Prop where
 kind:sc.kind = .function
 co:sc.isCoroutine=false
 gen:sc.isGenerator=false
 nd:N.Nodup
 pre:N.take P.length=P
 par:∀x∈P,sc.names.lookup x=some .local\/sc.names.lookup x=some .cell
 nofree:∀y∈sc.names,y.2 ≠ .free
theorem nO {kindOf:Str->Option NameKind}{x:Str}:∀{binds:List (Str×C9)} {m:Str->Option C9},(∀v,(x,v)∉binds)->bindL kindOf binds m x=m x
 | [],_,_=>rfl
 | (n,v) :: r,m,h=>by
  unfold bindL
  rw[nO λw hw=>h w (DB _ hw)]
  split
  ·have:x≠n:=by rintro rfl;exact h v DA
   simp[this]
  ·rfl
theorem nP {kindOf:Str->Option NameKind}{x:Str}:∀{binds:List (Str×C9)} {m:Str->Option C9},(∀v,(x,v)∉binds)->bindC kindOf binds m x=m x
 | [],_,_=>rfl
 | (n,v) :: r,m,h=>by
  unfold bindC
  rw[nP λw hw=>h w (DB _ hw)]
  split
  ·rfl
  ·have:x≠n:=by rintro rfl;exact h v DA
   simp[this]
theorem nQ {kindOf:Str->Option NameKind}{x:Str}{v:C9}:∀{P:List Str} {vs:List C9} {i:Nat} {m:Str->Option C9},P.Nodup->P[i]? = some x->vs[i]? = some v->kindOf x=some .local →
  bindL kindOf (P.zip vs) m x=some v
 | [],_,_,_,_,h,_,_=>by simp at h
 | _ :: _,[],_,_,_,_,h,_=>by simp at h
 | p :: P,w :: vs,0,m,nd,h1,h2,hk=>by
  simp at h1 h2;subst h1;subst h2
  show bindL kindOf ((p,w) :: P.zip vs) m p=_
  unfold bindL
  rw[nO λv hv=>(EI.mp nd).1 (Ks hv).1,if_pos hk]
  simp
 | p :: P,w :: vs,i+1,m,nd,h1,h2,hk=>by
  show bindL kindOf ((p,w) :: P.zip vs) m x=_
  unfold bindL
  exact nQ (i:=i) (EI.mp nd).2 (by simpa using h1) (by simpa using h2) hk
theorem nR {kindOf:Str->Option NameKind}{x:Str}{v:C9}:∀{P:List Str} {vs:List C9} {i:Nat} {m:Str->Option C9},P.Nodup->P[i]? = some x->vs[i]? = some v->kindOf x≠some .local →
  bindC kindOf (P.zip vs) m x=some v
 | [],_,_,_,_,h,_,_=>by simp at h
 | _ :: _,[],_,_,_,_,h,_=>by simp at h
 | p :: P,w :: vs,0,m,nd,h1,h2,hk=>by
  simp at h1 h2;subst h1;subst h2
  show bindC kindOf ((p,w) :: P.zip vs) m p=_
  unfold bindC
  rw[nP λv hv=>(EI.mp nd).1 (Ks hv).1,if_neg hk]
  simp
 | p :: P,w :: vs,i+1,m,nd,h1,h2,hk=>by
  show bindC kindOf ((p,w) :: P.zip vs) m x=_
  unfold bindC
  exact nR (i:=i) (EI.mp nd).2 (by simpa using h1) (by simpa using h2) hk
def start (N:List Str)(vs:List V):St:=vs.map some++Ej (N.length-vs.length) none
def qC (CX:CXT)(P:DH)(w:Eb)(K:Df)(mg:Str->Option C9)(base:Heap)(N:List Str)(qual:Str)(scope:Scope)(f:Addr)(cd:C9)(A:Ep)(outer:List Env)(s:Dg)(H:Hp)(E:XK):Cx where
 prog:=P
 w:=w
 K:=K
 mg:=mg
 base:=base
 A:=A.deeper (envOfC qual scope s.heap.objs.size f cd)
 N:=N
 s₀:=s
 H₀:=H
 env:=envOfC qual scope s.heap.objs.size f cd
 outer:=outer
 stack:=envOfC qual scope s.heap.objs.size f cd :: outer
 ex:=[]
 calm:=true
 fn:=λ_=>true
 pn:=[]
 xe:=λe s'=>DI (DS P w) (A.deeper (envOfC qual scope s.heap.objs.size f cd)) (leaving (envOfC qual scope s.heap.objs.size f cd) e) (λ_ s''=>CX outer H s E e s'') (λe' s''=>CX outer H s E e' s'') s'
theorem qD {sc:Scope}{n:Nat}{x:Str}(h:sc.names.lookup x=some .cell):∃c,(cellsFrom n sc.names []).lookup x=some c:=by
 have q:=Kj sc.names n [] (.inl h)
 exact GG.mp q
theorem vt {CX:CXT}{P:DH}{w:Eb}{K:Df}{mg:Str->Option C9}{base:Heap}{N ps:List Str}{qual:Str}{scope:Scope}{f:Addr}{cd:C9}{A:Ep}{outer:List Env}{s s1:Dg}{H:Hp}{E:XK}{us:List C9}{vs:List V}
  (S:aU N ps scope) (hd:A.handled=none) (e0:zi P w K mg base A outer s H) (hl:vs.length=ps.length) (r:Vals vs us)
  (x:InCallC s s.heap.objs.size (bindL (envOfC qual scope s.heap.objs.size f cd).kindOf (ps.zip us) λ_=>none) (cellsFrom (s.heap.objs.size+1) scope.names []) (bindC (envOfC qual scope s.heap.objs.size f cd).kindOf (ps.zip us) λ_=>none) s1) :
  Inv (qC CX P w K mg base N qual scope f cd A outer s H E) [] (start N vs) H s1:=by
 have hpl:ps.length<=N.length:=by have:=congrArg List.length S.pre;rw[Ew] at this;lia
 obtain ⟨h1,tk,rfl,hk⟩:=x.done
 have noA:∀b:Addr,b∉(qC CX P w K mg base N qual scope f cd A outer s H E).ex:=λb z=>absurd (show b∈([]:List Addr) from z) (by simp)
 refine ⟨⟨e0.mod,S.kind,rfl,rfl,Dd _,λy z c h1 h2 =>?_,λy hy =>?_,λy c _ h =>?_,λ_=>hd,Around.frames_deeper e0.frames,.inr ⟨rfl,rfl⟩,λb z=>absurd z (noA b),e0.bs,e0.bsz,λb _ _=>noA b,λb z=>absurd z (noA b),e0.funs,e0.frf⟩,
  rfl,e0.bare,Un.kept hk,⟨_,x.toInCall.ns,λi y v h1 h2 h3 =>?_⟩,λy c h=>⟨_,x.cell y c h⟩,e0.hok.fresh (Dd _),λy c h =>?_,λp hp=>absurd (show p∈([]:List (Addr×Obj)) from hp) (by simp),e0.hok.kept hk,?_⟩
 ·exact name_of_addr x.apart (Gk h1) (Gk h2)
 ·have hy:scope.names.lookup y=some .cell\/scope.names.lookup y=some .free:=hy
  rcases hy with hy | hy
  ·exact qD hy
  ·exact absurd rfl (S.nofree _ (Gk hy))
 ·exact Gv (x.above y c (Gk h))
 ·have hi:i<vs.length:=by
   unfold start at h2
   by_cases hi:i<vs.length
   ·exact hi
   ·rw[Eg (by simpa using hi)] at h2
    rw[HX] at h2
    split at h2 <;> cases h2
  have ha:vs[i]? = some v:=by
   unfold start at h2
   rw[Ed (by simpa using hi),Dq] at h2
   cases e:vs[i]? with
   | none=>rw[e] at h2;cases h2
   | some a=>rw[e] at h2;cases h2;rfl
  obtain ⟨u,hu,rv⟩:=r.get ha
  have hp:ps[i]? = some y:=by
   rw[<- S.pre,List.getElem?_take_of_lt (by lia)];exact h1
  have ndP:ps.Nodup:=by rw[<- S.pre];exact S.nd.sublist (EN _ _)
  refine ⟨u,rv,?_⟩
  rcases S.par y (Dp hp) with k | k
  ·exact .inl ⟨k,nQ ndP hp hu k⟩
  ·obtain ⟨c,e⟩:=qD (n:=s.heap.objs.size+1) k
   refine .inr ⟨.inl k,c,e,?_⟩
   have q:=x.cell y c e
   rw[nR ndP hp hu (by show scope.names.lookup y≠_;rw[k];decide)] at q
   exact q
 ·exact e0.hok.fresh (Gv (x.above y c (Gk h)))
 ·unfold start
  show _=N.length
  rw[C8,C6,Gw]
  lia
theorem Cv {CX:CXT}{P:DH}{w:Eb}{K:Df}{mg:Str->Option C9}{base:Heap}{k:Nat}{f:Addr}{name qual:Str}{params:Arguments}{body:List Stmt}{scope:Scope}{dV kV doc pm cdv ct oc:C9}{an od:Option Addr}
  {osl:Array (Option C9)} {N ps:List Str} {sp:Sp} (lk:K.lookup f=some ⟨oc,od,.func (PySem.W.fnOf name qual params body scope dV kV doc pm an cdv ct),osl⟩) (hcd:PySem.W.codeIn K cdv qual=true) (S:aU N ps scope)
  (len:∀vs H Q E,sp vs H Q E->vs.length=ps.length)
  (hbody:∀(A:Ep) (outer:List Env) (s:Dg) (H:Hp) (vs:List V) (Q:VK) (E:XK),dG k (A.deeper (envOfC qual scope s.heap.objs.size f cdv))->sp vs H Q E →
   ∃t,PSs (qC CX P w K mg base N qual scope f cdv A outer s H E) body t/\t { nx:=λ_ H'=>Q .non H',rt:=Q } (start N vs) H) :
  cy P w K mg base CX (k+1) f (PySem.W.fnOf name qual params body scope dV kV doc pm an cdv ct) ps sp:=by
 refine ⟨len,λA outer s H args us vs Q E hr e0 hb r hsp =>?_⟩
 have hl:=len _ _ _ _ hsp
 have KX:K.In s.heap:=e0.mod.kin.keeps λb o e=>(e0.bs b o e).1
 have lim:s.heap.NoLimit:=e0.mod.nolimit.keeps λb o e=>(e0.bs b o e).1
 have hkind:∀y∈ps.zip us,scope.names.lookup y.1=some .local\/(scope.names.lookup y.1=some .cell/\((cellsFrom (s.heap.objs.size+1) scope.names []).lookup y.1).isSome=true):=λ⟨n,v⟩ hy=>by
  rcases S.par n (Ks hy).1 with q | q
  ·exact .inl q
  ·exact .inr ⟨q,Kj _ _ _ (.inl q)⟩
 refine codeAny_call_function hr.depth (KX _ _ lk) rfl S.co S.gen rfl (PySem.W.codeRec_of KX hcd) (hb _ _ _ _ ?_)
 refine wpAny_newFunctionEnv_cells S.kind hkind λenv he s1 x =>?_
 subst he
 refine ⟨lim.keeps x.toInCall.keep,codeAny_func ?_⟩
 obtain ⟨t,ht,hq⟩:=hbody A outer s H vs Q E (hr.deeper _) hsp
 have I:Inv (qC CX P w K mg base N qual scope f cdv A outer s H E) [] (start N vs) H s1:=vt S hr.hd e0 hl r x
 refine Gi (ht [] s1 (start N vs) H _ I hq) (λfl s' hs =>?_) λe s' hs=>hs
 have fin:∀{σ':St} {H':Hp} {v:V} {u:C9},Inv (qC CX P w K mg base N qual scope f cdv A outer s H E) [] σ' H' s'->RelV v u->Q v H'->CE outer P w H s Q u s' :=
  λ{σ' H' v u} J rv q=>⟨v,H',J.os,J.bare,J.base,J.hok,rv,q⟩
 cases fl with
 | ret u =>
  obtain ⟨v,σ',H',J,rv,q⟩:=hs
  exact fin J rv q
 | next =>
  obtain ⟨σ',H',J,q⟩:=hs
  exact fin (v:=V.non) (u:=E9) J rfl q
 | brk =>
  obtain ⟨_,_,_,q⟩:=hs
  exact False.elim q
 | cont =>
  obtain ⟨_,_,_,q⟩:=hs
  exact False.elim q
section
variable  {X:Cx}{x:Str}{p pos:Pos}{e:Expr}{es:List Expr}{t:TA}{id T:String}{r:List V->Hp->VK->Prop}
def tCB (r:List V->Hp->VK->Prop)(t:TA):TE:=λσ H Q=>t σ H λvs H1=>r vs H1 Q
theorem ay (hc:bL X (.builtin id) r)(hg:Gl X x)(hm:X.mg x=none)(hv:ED x=some (.builtin id))(ha:PA X (e :: es) t)(hn:x ≠ "__name__" := by decide)(hdb:(x == ("__debug__" : Str))=false:=by decide)
  (he:Em (e :: es) X.env=(false,eval e X.env) :: Em es X.env:=by rfl) (hpl:(Ih pos (Em es X.env)).any (·.1)=false:=by rfl):PE X (.Call (.Name x p) (e :: es) [] pos) (tCB r t):=by
 intro pins s σ H Q I h
 refine F1 (dW I hg hm hv ?_ hn hdb)
 exact PyProof.Rows.callWith_builtin1 (thn (ha pos pins s σ H _ I h) λus s1 ⟨vs,H1,I1,r1,q1⟩=>hc pins s1 σ H1 vs us Q I1 r1 q1) he hpl
theorem aR (hc:bL X (.type T) r)(hg:Gl X x)(hm:X.mg x=none)(hv:ED x=some (.type T))(ha:PA X (e :: es) t)(hn:x ≠ "__name__" := by decide)(hdb:(x == ("__debug__" : Str))=false:=by decide)
  (he:Em (e :: es) X.env=(false,eval e X.env) :: Em es X.env:=by rfl) (hpl:(Ih pos (Em es X.env)).any (·.1)=false:=by rfl):PE X (.Call (.Name x p) (e :: es) [] pos) (tCB r t):=by
 intro pins s σ H Q I h
 refine F1 (dW I hg hm hv ?_ hn hdb)
 exact Ez (thn (ha pos pins s σ H _ I h) λus s1 ⟨vs,H1,I1,r1,q1⟩=>hc pins s1 σ H1 vs us Q I1 r1 q1) he hpl
end
end L2
namespace HT
open PySem PyProof.Rows
def lexLt:List Int->List Int->Bool
 | [],[]=>false
 | [],_ :: _=>true
 | _ :: _,[]=>false
 | x :: xs,y :: ys=>if x=y then lexLt xs ys else decide (x<y)
theorem dz (x y:Int)(xs ys:List Int):lexLt (x :: xs) (y :: ys)=if x=y then lexLt xs ys else decide (x<y):=rfl
theorem ni:lexLt [] []=false:=rfl
theorem lJ (y:Int)(ys:List Int):lexLt [] (y :: ys)=true:=rfl
theorem lM (x:Int)(xs:List Int):lexLt (x :: xs) []=false:=rfl
theorem xf (A:Ep)(s:Dg)(a:Int)(t:Tok)(c:Int)(u:Tok):∃e,HW A s (.int a t) (.int c u) e/\(e=true↔a=c) :=
 ⟨(a == c),Gx a t c u,by simp⟩
theorem qE (A:Ep)(s:Dg)(a:Int)(t:Tok)(c:Int)(u:Tok)(prog:DH)(w:Eb)(E:C9->Dg->Prop)(Q:C9->Dg->Prop)(h:Q (.bool (decide (a<c))) s) :
  DI (DS prog w) A (richCompare .Lt (.int a t) (.int c u)) Q E s :=
 (PyProof.Rows.lt_int h:DI (DS prog w) A (Fj .Lt (.int a t) (.int c u)) Q E s)
section
open PySem.SeqAt
open PySem.AutoSeq1 (wpAny_loadPart')
open PySem.MeetsSeq PySem.MeetsSeq2 PySem.MeetsSeq3
theorem nj (l b:Addr)(items items2:Array C9)(n n2:Nat)(dd dd2:Option Addr)(sl sl2:Array (Option C9))(ns ms:List Int)(hi:Gq items.toList ns)(hj:Gq items2.toList ms) :
  Meets (Builtin.«tuple.__lt__» ⟨[.ref l,.ref b],[]⟩)
   (λ_ R s=>s.heap.get? l=some { cls :=.type "tuple",dict:=dd,data :=.seq items n,slots:=sl }/\s.heap.get? b=some { cls :=.type "tuple",dict:=dd2,data :=.seq items2 n2,slots:=sl2 } ∧
    R (.ok (.ret (.bool (lexLt ns ms)))) s) :=
 .of_wp λprog w A R s h=>by
  obtain ⟨hp,g,d,tk,os⟩:=s;obtain ⟨hl,hb,h⟩:=h
  have f2:=AutoSeq1.sub_tuple_tuple
  have z1:items.size=ns.length:=by rw[<- hi.length];simp
  have z2:items2.size=ms.length:=by rw[<- hj.length];simp
  wp_walk using wpAny_loadPart' hl,wpAny_loadPart' hb,IK _ (λrest b s'=>b.1=none/\s'=⟨hp,g,d,tk,os⟩/\∃(vs ws:List C9) (ns' ms':List Int),rest=vs.zip ws ∧
   Gq vs ns'/\Gq ws ms'/\ns'.length+items2.size=ms'.length+items.size/\R (.ok (.ret (.bool (lexLt ns' ms')))) ⟨hp,g,d,tk,os⟩) _
  case turn =>
   rintro ⟨y,x⟩ rest b s' ⟨hb',rfl,vs,ws,ns',ms',hz,hvi,hwi,hlen,hR⟩
   cases hvi with
   | nil=>rw[List.zip_nil_left] at hz;cases hz
   | cons a t hvi' =>
    cases hwi with
    | nil=>rw[List.zip_nil_right] at hz;cases hz
    | cons c u hwi' =>
     rw[HY] at hz
     injection hz with hyx hrest
     injection hyx with hy hx
     subst hy hx
     rw[dz] at hR
     simp only[Dz] at hlen
     obtain ⟨e,he,hiff⟩:=xf A.in1 ⟨hp,g,d,tk,os⟩ a t c u
     refine C5 (he prog w _ _ ?_)
     cases e with
     | true =>
      rw[if_pos (hiff.mp rfl)] at hR
      wp_walk
      exact ⟨rfl,rfl,_,_,_,_,hrest,hvi',hwi',by lia,hR⟩
     | false =>
      rw[if_neg (λq=>absurd (hiff.mpr q) Dv)] at hR
      have hri:=qE A.in1 ⟨hp,g,d,tk,os⟩ a t c u prog w
      wp_walk using hri
      exact ⟨_,rfl,by simpa using hR⟩
  case fin =>
   rintro ⟨b1,b2⟩ s' ⟨hb',rfl,vs,ws,ns',ms',hz,hvi,hwi,hlen,hR⟩
   simp only at hb'
   subst hb'
   have hv:lexLt ns' ms'=decide (items.size<items2.size):=by
    cases hvi with
    | nil =>
     cases hwi with
     | nil =>
      simp only[ER] at hlen
      rw[ni]
      exact (decide_eq_false (by lia)).symm
     | cons c u hw =>
      simp only[ER,Dz] at hlen
      rw[lJ]
      exact (decide_eq_true (by lia)).symm
    | cons a t hv =>
     cases hwi with
     | nil =>
      simp only[ER,Dz] at hlen
      rw[lM]
      exact (decide_eq_false (by lia)).symm
     | cons c u hw =>
      rw[HY] at hz
      cases hz
   rw[hv] at hR
   wp_walk
   exact ⟨_,rfl,by simpa [Builtin.Tuple.tupleCompareSizes] using hR⟩
  case h =>
   exact ⟨rfl,rfl,items.toList,items2.toList,ns,ms,rfl,hi,hj,by lia,h⟩
end
section
variable  {prog:DH}{w:Eb}{A:Ep}{E:C9->Dg->Prop}{s:Dg}
theorem sD {l b:Addr}{items items2:Array C9}{ns ms:List Int}{Q:C9->Dg->Prop}(hl:IsTup s.heap l items)(hb:IsTup s.heap b items2)(hi:Gq items.toList ns)(hj:Gq items2.toList ms)
  (hu:A.units<cLine) (h:Q (.bool (lexLt ns ms)) s):DI (DS prog w) A (Fj .Lt (.ref l) (.ref b)) Q E s:=by
 obtain ⟨⟨cls,dd,data,sl⟩,ho,hc,n,hd⟩:=id hl
 obtain ⟨⟨cls2,dd2,data2,sl2⟩,ho2,hc2,n2,hd2⟩:=id hb
 simp only at hc hd hc2 hd2
 subst hc hd hc2 hd2
 exact Fq (op :=.Lt) ⟨_,ho,rfl⟩ ⟨_,ho2,rfl⟩ PySem.F.slot_tuple_lt PySem.F.entry_tuple_lt (PySem.F.args_tuple_lt_2 _ _) (nj l b items items2 n n2 dd dd2 sl sl2 ns ms hi hj)
  ⟨ho,ho2,show Value.bool (lexLt ns ms)≠Value.notImplemented/\Q (.bool (lexLt ns ms)) s from ⟨(λx=>nomatch x),h⟩⟩ hu
theorem zo {t b:Addr}{vs ws:List C9}{Q:C9->Dg->Prop}(ht:IsTup s.heap t vs.toArray)(hb:IsTup s.heap b ws.toArray)(hv:vs≠[])
  (h1:ws=[]->Q (.ref t) s) (h2:ws≠[]->Q (.ref s.heap.objs.size) { s with heap:=s.heap.push { cls :=.type "tuple",data :=.seq (vs++ws).toArray } })
  (hsz:vs.length+ws.length<=Dm):DI (DS prog w) A (binaryOp .Add (.ref t) (.ref b)) Q E s:=by
 obtain ⟨⟨cls,dd,data,sl⟩,ho,hc,n,hd⟩:=id ht
 obtain ⟨⟨cls2,dd2,data2,sl2⟩,ho2,hc2,n2,hd2⟩:=id hb
 simp only at hc hd hc2 hd2
 subst hc hd hc2 hd2
 have e:vs.toArray++ws.toArray=(vs++ws).toArray:=by simp
 by_cases hw:ws=[]
 ·exact KI ⟨_,ho,rfl⟩ ⟨_,ho2,rfl⟩ Kg Lx Ii HZ (HP _ _)
   (tuple_addW1 t b vs.toArray ws.toArray n n2 dd dd2 sl sl2 (by simpa using hv) (by simp[hw])) ⟨ho,ho2,h1 hw⟩
 ·refine KI ⟨_,ho,rfl⟩ ⟨_,ho2,rfl⟩ Kg Lx Ii HZ (HP _ _)
   (tuple_addW2 t b vs.toArray ws.toArray n n2 dd dd2 sl sl2 (by simpa using hv) (by simpa using hw) (by rw[Dk,Dk];exact hsz)) ⟨ho,ho2,?_⟩
  rw[e]
  exact h2 hw
def sIx (n d:Nat):Option Int->Nat
 | none=>d
 | some v=>if v<0 then (v+(n:Int)).toNat else min v.toNat n
theorem Bo (n d:Nat)(hd:d<=n)(o:Option Int):sIx n d o<=n:=by
 cases o with
 | none=>exact hd
 | some v =>
  show (if v<0 then (v+(n:Int)).toNat else min v.toNat n)<=n
  by_cases hv:v<0
  ·rw[if_pos hv];lia
  ·rw[if_neg hv];exact Nat.min_le_right _ _
theorem uj (v:Int)(n d:Nat):(if v<0 then max (v+(n:Int)) 0 else min v (n:Int))=((sIx n d (some v):Nat):Int):=by
 show (if v<0 then max (v+(n:Int)) 0 else min v (n:Int))=(((if v<0 then (v+(n:Int)).toNat else min v.toNat n):Nat):Int)
 by_cases hv:v<0
 ·simp only[if_pos hv];lia
 ·simp only[if_neg hv];lia
theorem sE (lo hi:Option Int)(n:Nat):Builtin.Slice.sliceAdjust lo hi 1 (n:Int)=(((sIx n 0 lo:Nat):Int),((sIx n n hi:Nat):Int)):=by
 have h1:¬ ((1:Int)<0):=by lia
 unfold Builtin.Slice.sliceAdjust
 simp only[h1,if_false]
 refine Jr ?_ ?_
 ·cases lo with
  | none=>rfl
  | some v=>exact uj v n 0
 ·cases hi with
  | none=>rfl
  | some v=>exact uj v n n
theorem sF (i j:Nat):Builtin.Slice.slicePlaces (i:Int) (j:Int) 1=j-i:=by
 unfold Builtin.Slice.slicePlaces
 have h1:(1:Int)>0:=by lia
 simp only[h1,if_true,Int.ediv_one]
 split <;> lia
theorem lN {v:C9}{o:Option Int}{Q:Option Int->Dg->Prop}(p:IsPart v o)(h:Q o s):DI (DS prog w) A (Builtin.Slice.slicePartIndex v) Q E s:=by
 cases p with
 | none=>exact slicePart_none h
 | int i t=>exact slicePart_int h
theorem eO {sl:Addr}{vl vu:C9}{lo hi:Option Int}{n:Nat}{Q:Int×Int×Nat->Dg->Prop}(hs:s.heap.IsSliceOf sl vl vu .none)(pl:IsPart vl lo)(pu:IsPart vu hi)
  (h:Q (((sIx n 0 lo:Nat):Int),1,sIx n n hi-sIx n 0 lo) s):DI (DS prog w) A (Builtin.Slice.sliceApplied (.ref sl) (pure (n:Int))) Q E s:=by
 obtain ⟨os,hos,hcs,hds⟩:=id hs
 unfold Builtin.Slice.sliceApplied Builtin.Slice.sliceFields
 refine C5 (C5 (EM hos hds (x:=vl) rfl (C5 (EM hos hds (x:=vu) rfl (C5 (EM hos hds (x :=.none) rfl (De ?_)))))))
 refine C5 (slicePart_none ?_)
 show DI _ _ (if ((1:Int) == 0)=true then _ else _) _ _ s
 rw[if_neg (by decide)]
 refine C5 (lN pl (C5 (lN pu (C5 (De ?_)))))
 show DI _ _ (match Builtin.Slice.sliceAdjust lo hi 1 (n:Int) with | (lo,hi)=>pure (lo,(1:Int),Builtin.Slice.slicePlaces lo hi 1)) _ _ s
 rw[sE lo hi n]
 show DI _ _ (pure (((sIx n 0 lo:Nat):Int),(1:Int),Builtin.Slice.slicePlaces ((sIx n 0 lo:Nat):Int) ((sIx n n hi:Nat):Int) 1)) _ _ s
 rw[sF]
 exact De h
theorem xg (xs:Array C9)(i k:Nat):((Eo k).filterMap λ(m:Nat)=>xs[((i:Int)+(m:Int)*1).toNat]?).toArray=((xs.toList.drop i).take k).toArray:=by
 have e:(λ(m:Nat)=>xs[((i:Int)+(m:Int)*1).toNat]?)=λm=>xs[i+m]? := by
  funext m
  have:((i:Int)+(m:Int)*1).toNat=i+m:=by lia
  rw[this]
 rw[e]
 have:=pick_run xs i k
 rw[List.filterMap_map] at this
 have e2:((λx=>xs[x]?) ∘ λx=>i+x)=λm=>xs[i+m]? := rfl
 rw[e2] at this
 rw[this]
theorem iO {t sl:Addr}{items:Array C9}{vl vu:C9}{lo hi:Option Int}{Q:C9->Dg->Prop}(ht:IsTup s.heap t items)(hs:s.heap.IsSliceOf sl vl vu .none)(pl:IsPart vl lo)(pu:IsPart vu hi)
  (hw:¬ (sIx items.size 0 lo=0/\sIx items.size items.size hi=items.size))
  (h:Q (.ref s.heap.objs.size) { s with heap:=s.heap.push { cls :=.type "tuple",data :=.seq ((items.toList.drop (sIx items.size 0 lo)).take (sIx items.size items.size hi-sIx items.size 0 lo)).toArray } })
  (hsz:items.size<=Dm):DI (DS prog w) A (getItem (.ref t) (.ref sl)) Q E s:=by
 have htake:sizeOk (.seq ((items.toList.drop (sIx items.size 0 lo)).take (sIx items.size items.size hi-sIx items.size 0 lo)).toArray):=by
  show ((items.toList.drop (sIx items.size 0 lo)).take (sIx items.size items.size hi-sIx items.size 0 lo)).toArray.size<=Dm
  rw[Dk,Ew,EO,Dl]
  omega
 have hj:sIx items.size items.size hi<=items.size:=Bo _ _ (Dd _) hi
 obtain ⟨os,hos,hcs,hds⟩:=id hs
 have hTs:s.TypeIs (.ref sl) "slice" :=⟨os,hos,hcs⟩
 unfold getItem
 try with_reducible refine EU ?_
 first | refine C5 (De ?_) | skip
 refine C5 (LN ht.typeIs (by decide) ?_)
 refine C5 (EF (name:=Str.ofString "__getitem__") ht.typeIs Et
  (Ei Et ht.typeIs entry_tuple_getitem ?_ (Ly _ _)))
 show DI _ _ (Builtin.Tuple.tupleItemsOf (.ref t) >>= _) _ _ s
 refine C5 (tupleItemsOf_ ht ?_)
 refine C5 (FC hTs ?_)
 rw[if_pos (by decide)]
 refine C5 (eO hs pl pu ?_)
 have hno:¬ ((((sIx items.size 0 lo:Nat):Int) == 0 && (1:Int) == 1 && (sIx items.size items.size hi-sIx items.size 0 lo) == items.size)=true):=by
  intro q
  rw[EC,EC] at q
  have q1:((sIx items.size 0 lo:Nat):Int)=0:=eq_of_beq q.1.1
  have q2:sIx items.size items.size hi-sIx items.size 0 lo=items.size:=eq_of_beq q.2
  exact hw ⟨by omega,by omega⟩
 show DI _ _ (if (((sIx items.size 0 lo:Nat):Int) == 0 && (1:Int) == 1 && (sIx items.size items.size hi-sIx items.size 0 lo) == items.size)=true then _ else _) _ _ s
 rw[if_neg hno,xg]
 first
  | exact C5 (m:=Builtin.Tuple.tupleExact _) (Ec (De ⟨_,rfl,De h⟩) htake)
  | exact C5 (m:=Builtin.Tuple.tupleExact _) (Ec (C5 (De (De ⟨_,rfl,De h⟩))) htake)
  | exact C5 (C5 (m:=Builtin.Tuple.tupleExact _) (Ec (De (De ⟨_,rfl,De h⟩)) htake))
  | exact C5 (C5 (m:=Builtin.Tuple.tupleExact _) (Ec (De ⟨_,rfl,De h⟩) htake))
end
end HT
namespace L2
open PySem PySem.Spec PyProof.Rows
abbrev TO:=St->Hp->(Option Int->Hp->Prop)->Prop
def PO (X:Cx)(e:Option Expr)(t:TO):Prop :=
 ∀(pins:List (Addr×Obj)) (s:Dg) (σ:St) (H:Hp) (Q:Option Int->Hp->Prop),Inv X pins σ H s->t σ H Q →
  DI (DS X.prog X.w) X.A (evalPart e X.env) (λu s'=>∃o H',Inv X pins σ H' s'/\IsPart u o/\Q o H') X.xe s
def zp:TO:=λ_ H Q=>Q none H
def Cw (t:TE):TO:=λσ H Q=>t σ H λx H1=>∃i,x = .int i/\Q (some i) H1
theorem intsAre_of {ns:List Int}:∀{us:List C9},Vals (ns.map V.int) us->Gq us ns:=by
 induction ns with
 | nil=>intro us r;rw[Kt] at r;cases r;exact .nil
 | cons n ns ih =>
  intro us r
  rw[DV] at r
  cases r with
  | cons r1 r2 =>
   obtain ⟨t,e⟩:=r1
   subst e
   exact .cons n t (ih r2)
section
variable  {X:Cx}{e:Expr}{te:TE}{lo hi:Option Expr}{tl th:TO}{pos p2:Pos}
theorem bE:PO X none zp:=by
 intro pins s σ H Q I h
 rw[evalPart_none]
 exact De ⟨none,H,I,.none,h⟩
theorem a9 (h:PE X e te):PO X (some e) (Cw te):=by
 intro pins s σ H Q I hw
 rw[evalPart_some]
 refine thn (h pins s σ H _ I hw) λu s1 ⟨x,H1,I1,r1,q1⟩ =>?_
 obtain ⟨i,rfl,q⟩:=q1
 obtain ⟨t,rfl⟩:=r1
 exact ⟨some i,H1,I1,.int i t,q⟩
def SlR (X:Cx)(r:V->Option Int->Option Int->Hp->VK->Prop):Prop :=
 ∀(pins:List (Addr×Obj)) (s:Dg) (σ:St) (H:Hp) (x:V) (v vl vu:C9) (lo hi:Option Int) (sl:Addr) (Q:VK),Inv X pins σ H s->RelV x v->s.heap.IsSliceOf sl vl vu .none->IsPart vl lo->IsPart vu hi->r x lo hi H Q →
  ∃T id,typeLookup (.type T) "__getitem__" = pure (some (.builtin id))/\s.TypeIs v T/\DI (DS X.prog X.w) X.A (getItem v (.ref sl)) (EP X pins σ Q) X.xe s
def tSl (r:V->Option Int->Option Int->Hp->VK->Prop)(te:TE)(tl th:TO):TE:=λσ H Q=>te σ H λx H1=>tl σ H1 λl H2=>th σ H2 λu H3=>r x l u H3 Q
theorem aW {r:V->Option Int->Option Int->Hp->VK->Prop}(hr:SlR X r)(he:PE X e te)(hl:PO X lo tl)(hu:PO X hi th):PE X (.Subscript e (.Slice lo hi none p2) pos) (tSl r te tl th):=by
 intro pins s σ H Q I h
 refine Subscript_ (thn (he pins s σ H _ I h) λv s1 ⟨x,H1,I1,r1,q1⟩ =>?_)
 refine wpAny_Slice (thn (hl pins s1 σ H1 _ I1 q1) λvl s2 ⟨l,H2,I2,pl,q2⟩=>thn (hu pins s2 σ H2 _ I2 q2) λvu s3 ⟨u,H3,I3,pu,q3⟩ =>?_)
 rw[evalPart_none]
 refine De ?_
 have I4:Inv X pins σ H3 { s3 with heap:=s3.heap.push { cls :=.type "slice",data :=.fields #[vl,vu,.none] } }:=I3.kept (t':=s3.toks) λb ob q=>C7 _ q
 obtain ⟨T,id,hT,ht,hg⟩:=hr pins { s3 with heap:=s3.heap.push { cls :=.type "slice",data :=.fields #[vl,vu,.none] } } σ H3 x v vl vu l u s3.heap.objs.size Q I4 r1 (MU ..) pl pu q3
 show DI (DS X.prog X.w) X.A (subscriptTail e (.Slice lo hi none p2) v (.ref s3.heap.objs.size)) (EP X pins σ Q) X.xe { s3 with heap:=s3.heap.push { cls :=.type "slice",data :=.fields #[vl,vu,.none] } }
 exact tail_any (ops:=[.ref s3.heap.objs.size,v]) ht hT hg (by with_unfolding_all rfl)
def dY (xs:List V)(lo hi:Option Int):List V:=(xs.drop (HT.sIx xs.length 0 lo)).take (HT.sIx xs.length xs.length hi-HT.sIx xs.length 0 lo)
theorem j6 (xs:List V)(lo hi:Option Int):(dY xs lo hi).length<=xs.length:=by
 unfold dY
 rw[Ew,EO]
 lia
def rSlT (K:Df):V->Option Int->Option Int->Hp->VK->Prop:=λx lo hi H Q=>∃a xs,x = .ref a/\SqT K H a xs ∧
 ¬ (HT.sIx xs.length 0 lo=0/\HT.sIx xs.length xs.length hi=xs.length)/\∀p,H p=none->Q (.ref p) (upd H p (.tup (dY xs lo hi)))
theorem Bp:SlR X (rSlT X.K):=by
 intro pins s σ H x v vl vu lo hi sl Q I rx hs pl pu h
 obtain ⟨a,xs,rfl,hx,hw,q⟩:=h
 cases rx
 obtain ⟨its,r,ht,hz⟩:=I.tuple hx
 have hlen:its.toArray.size=xs.length:=by rw[Dk];exact r.length.symm
 refine ⟨"tuple",_,Et.lookup,ht.typeIs,?_⟩
 refine HT.iO ht hs pl pu (by rw[hlen];exact hw) ?_ (by rw[hlen];exact hz)
 rw[hlen]
 refine ⟨.ref s.heap.objs.size,_,I.laid (t':=s.toks) (o :=.tup (dY xs lo hi)) (λb ob q=>C7 _ q) (Dd _) ?_,rfl,q _ (I.hok.fresh (Dd _))⟩
 exact ⟨DU (j6 xs lo hi) hz,_,(r.drop (HT.sIx xs.length 0 lo)).take (HT.sIx xs.length xs.length hi-HT.sIx xs.length 0 lo),dS.new _ _⟩
def Cy (K:Df):R2:=λx y H Q=>∃a b xs ys,x = .ref a/\y = .ref b/\SqT K H a xs/\SqT K H b ys/\xs≠[]/\xs.length+ys.length<=Dm ∧
 (ys=[]->Q (.ref a) H)/\(ys≠[]->∀p,H p=none->Q (.ref p) (upd H p (.tup (xs++ys))))
theorem Vals.kN {xs:List V}{us:List C9}(r:Vals xs us):us=[]↔xs=[]:=by
 cases r with
 | nil=>simp
 | cons _ _=>simp
theorem zr:OpR X (binaryOp .Add) (Cy X.K):=by
 intro pins s σ H x y v u Q I rx ry h
 obtain ⟨a,b,xs,ys,rfl,rfl,ha,hb,hx,hz,q1,q2⟩:=h
 cases rx
 cases ry
 obtain ⟨its,r1,p1,_⟩:=I.tuple ha
 obtain ⟨its2,r2,p2,_⟩:=I.tuple hb
 refine HT.zo p1 p2 (λz=>hx (r1.kN.mp z)) (λz=>⟨.ref a,H,I,rfl,q1 (r2.kN.mp z)⟩) (λz =>?_) (by rw[<- r1.length, <- r2.length];exact hz)
 refine ⟨.ref s.heap.objs.size,_,I.laid (t':=s.toks) (o :=.tup (xs++ys)) (λb ob q=>C7 _ q) (Dd _) ?_,rfl,q2 (λw=>z (r2.kN.mpr w)) _ (I.hok.fresh (Dd _))⟩
 exact ⟨by rw[C8];exact hz,_,r1.append r2,dS.new _ _⟩
end
def ixN (n:Nat)(i:Int):Option Nat:=if 0<=i then (if i<n then some i.toNat else none) else if -(n:Int)<=i then some (i+n).toNat else none
def atI {α:Type}(xs:List α)(i:Int):Option α:=(ixN xs.length i).bind λj=>xs[j]?
theorem zt {n:Nat}{i:Int}{j:Nat}(h:ixN n i=some j):seqIndex? i n=some j/\j<n /\ -(n:Int)<=i/\i<n:=by
 unfold ixN at h
 by_cases h0:0<=i
 ·rw[if_pos h0] at h
  by_cases h1:i<n
  ·rw[if_pos h1] at h
   have e:i.toNat=j:=DW h
   exact ⟨by rw[Mr h0 h1,e],by lia,by lia,h1⟩
  ·rw[if_neg h1] at h;cases h
 ·rw[if_neg h0] at h
  by_cases h1 : -(n:Int)<=i
  ·rw[if_pos h1] at h
   have e:(i+n).toNat=j:=DW h
   exact ⟨by rw[seqIndex_neg (by lia) h1,e],by lia,h1,by lia⟩
  ·rw[if_neg h1] at h;cases h
theorem pz {α:Type}{xs:List α}{i:Int}{v:α}(h:atI xs i=some v):∃j,seqIndex? i xs.length=some j/\xs[j]? = some v/\j<xs.length /\ -(xs.length:Int)<=i/\i<xs.length:=by
 unfold atI at h
 cases e:ixN xs.length i with
 | none=>rw[e] at h;cases h
 | some j =>
  rw[e] at h
  obtain ⟨h1,h2,h3,h4⟩:=zt e
  exact ⟨j,h1,h,h2,h3,h4⟩
theorem cO {α:Type}{xs:List α}{j:Nat}{v:α}(h:xs[j]? = some v):atI xs (j:Int)=some v:=by
 have hj:j<xs.length:=(Di.mp h).1
 have e:ixN xs.length (j:Int)=some j:=by
  unfold ixN
  rw[if_pos (by lia),if_pos (by lia)];simp
 unfold atI;rw[e];exact h
def zu (b:Expr):Prop:=∀o i,subscripted b false o i=operate [o,i] (getItem o i)
def IxR (X:Cx)(r:R2):Prop :=
 ∀(value slice:Expr) (pins:List (Addr×Obj)) (s:Dg) (σ:St) (H:Hp) (x y:V) (v u:C9) (Q:VK),Inv X pins σ H s->RelV x v->RelV y u->r x y H Q →
  subscripted slice false v u=operate [v,u] (getItem v u)->DI (DS X.prog X.w) X.A (subscriptTail value slice v u) (EP X pins σ Q) X.xe s
def MtR (X:Cx)(id:String)(r:V->List V->Hp->VK->Prop):Prop :=
 ∀(pins:List (Addr×Obj)) (s:Dg) (σ:St) (H:Hp) (x:V) (xs:List V) (v:C9) (us:List C9) (Q:VK),Inv X pins σ H s->RelV x v->Vals xs us->r x xs H Q →
  DI (DS X.prog X.w) X.A (call (.builtin id) (v :: us)) (EP X pins σ Q) X.xe s
section
variable  {X:Cx}{a b:Expr}{ta tb:TE}{pos:Pos}
theorem IxR.or {r r':R2}(h:IxR X r)(h':IxR X r'):IxR X (λx y H Q=>r x y H Q\/r' x y H Q):=by
 intro value slice pins s σ H x y v u Q I rx ry q hs
 rcases q with q | q
 ·exact h value slice pins s σ H x y v u Q I rx ry q hs
 ·exact h' value slice pins s σ H x y v u Q I rx ry q hs
theorem aM {r:R2}(hr:IxR X r)(ha:PE X a ta)(hb:PE X b tb)(hs:zu b):PE X (.Subscript a b pos) (tOp r ta tb):=by
 intro pins s σ H Q I h
 exact Subscript_ (Bi ha hb I h λv u s2 x y H2 I2 rx ry q=>hr a b pins s2 σ H2 x y v u Q I2 rx ry q (hs _ _))
def Bq (K:Df):R2:=λx y H Q=>∃p xs i v,x = .ref p/\y = .int i/\SqL K H p xs/\atI xs i=some v/\Q v H
def Br (K:Df):R2:=λx y H Q=>∃p xs i v,x = .ref p/\y = .int i/\SqT K H p xs/\atI xs i=some v/\Q v H
def Cz:R2:=λx y H Q=>∃z i c,x = .str z/\y = .int i/\z.length<=Dm/\atI z.cps.toList i=some c/\Q (.str ⟨#[c]⟩) H
theorem cC:IxR X (Bq X.K):=by
 intro value slice pins s σ H x y v u Q I rx ry h hs
 obtain ⟨p,xs,i,z,rfl,rfl,hq,he,q⟩:=h
 cases rx
 obtain ⟨t,rfl⟩:=ry
 obtain ⟨its,r,pl,hz⟩:=I.list hq
 obtain ⟨j,h1,h2,h3,h4,h5⟩:=pz he
 obtain ⟨w,ew,rw'⟩:=r.get h2
 have hl:=r.length
 have hn:=lH
 have fin:EP X pins σ Q w s:=⟨z,H,I,rw',q⟩
 by_cases h0:0<=i
 ·have hj:i.toNat=j:=by
   rw[Mr h0 h5] at h1
   exact DW h1
  exact item_listR pl.isList h0 (by lia) (by rw[hj];simpa using ew) fin hs
 ·have hj:(i+(its.toArray.size:Int)).toNat=j:=by
   rw[seqIndex_neg (by lia) h4] at h1
   rw[Dk, <- hl]
   exact DW h1
  exact Kq (x:=w) pl.isList.typeIs slot_list_getitem.lookup
   (wpAny_getItem_list_neg (Q:=λr s'=>r=w/\EP X pins σ Q r s') pl.isList (by lia) (by rw[Dk] <;> lia) (by lia) (by rw[hj];simpa using ew) ⟨rfl,fin⟩) hs
theorem aV:IxR X (Br X.K):=by
 intro value slice pins s σ H x y v u Q I rx ry h hs
 obtain ⟨p,xs,i,z,rfl,rfl,hq,he,q⟩:=h
 cases rx
 obtain ⟨t,rfl⟩:=ry
 obtain ⟨its,r,pl,hz⟩:=I.tuple hq
 obtain ⟨j,h1,h2,h3,h4,h5⟩:=pz he
 obtain ⟨w,ew,rw'⟩:=r.get h2
 have hl:=r.length
 have hn:=lH
 have fin:EP X pins σ Q w s:=⟨z,H,I,rw',q⟩
 exact Kq (x:=w) pl.typeIs slot_tuple_getitem.lookup
  (getItem_tuple (j:=j) (Q:=λr s'=>r=w/\EP X pins σ Q r s') pl (by lia) (by lia) (by rw[Dk, <- hl];exact h1) (by simpa using ew) ⟨rfl,fin⟩) hs
theorem Bs:IxR X Cz:=by
 intro value slice pins s σ H x y v u Q I rx ry h hs
 obtain ⟨z,i,c,rfl,rfl,hz,he,q⟩:=h
 obtain ⟨t,rfl⟩:=rx
 obtain ⟨t',rfl⟩:=ry
 obtain ⟨j,h1,h2,h3,h4,h5⟩:=pz he
 have hl:z.cps.toList.length=z.length:=by simp[Str.length]
 rw[hl] at h1 h4 h5
 have hn:=lH
 exact tail_any (typeIs_str s z t) slot_str_getitem.lookup (getItem_str (c:=c) (by
  have e1:decide (i < -(2 ^ 63:Int))=false:=decide_eq_false (by lia)
  have e2:decide (i≥2 ^ 63)=false:=decide_eq_false (by lia)
  rw[e1,e2,IQ]) (by rw[h1];simpa using h2) ⟨.str ⟨#[c]⟩,H,I.tok _,⟨_,rfl⟩,q⟩) hs
def rIx (K:Df):R2:=λx y H Q=>Bq K x y H Q\/Br K x y H Q\/Cz x y H Q
theorem sH:IxR X (rIx X.K):=cC.or (aV.or Bs)
theorem pB (lo hi:Option Int)(n:Nat):(sliceBounds lo hi none n).1=((HT.sIx n 0 lo:Nat):Int)/\(sliceBounds lo hi none n).2.1=((HT.sIx n n hi:Nat):Int)/\(sliceBounds lo hi none n).2.2=1:=by
 refine ⟨?_,?_,rfl⟩
 ·cases lo with
  | none=>simp[sliceBounds,HT.sIx]
  | some i =>
   simp only[sliceBounds,HT.sIx,LX,show (1:Int)>0 by decide,if_true]
   by_cases h:i<0
   ·simp only[h,if_true] <;> lia
   ·simp only[h,if_false] <;> lia
 ·cases hi with
  | none=>simp[sliceBounds,HT.sIx]
  | some i =>
   simp only[sliceBounds,HT.sIx,LX,show (1:Int)>0 by decide,if_true]
   by_cases h:i<0
   ·simp only[h,if_true] <;> lia
   ·simp only[h,if_false] <;> lia
theorem nk (its:List C9)(lo hi:Option Int):slicePick its.toArray lo hi none=((its.drop (HT.sIx its.length 0 lo)).take (HT.sIx its.length its.length hi-HT.sIx its.length 0 lo)).toArray:=by
 obtain ⟨h1,h2,h3⟩:=pB lo hi its.toArray.size
 unfold slicePick
 rw[h1,h2,h3]
 simp only[sliceRange_one,pick_run,Dk] <;> rfl
def rSlL (K:Df):V->Option Int->Option Int->Hp->VK->Prop:=λx lo hi H Q=>∃a xs,x = .ref a/\SqL K H a xs/\∀p,H p=none->Q (.ref p) (upd H p (.lst (dY xs lo hi)))
theorem bP:SlR X (rSlL X.K):=by
 intro pins s σ H x v vl vu lo hi sl Q I rx hs pl pu h
 obtain ⟨a,xs,rfl,hx,q⟩:=h
 cases rx
 obtain ⟨its,r,ht,hz⟩:=I.list hx
 have hlen:=r.length
 refine ⟨"list",_,slot_list_getitem.lookup,ht.isList.typeIs,?_⟩
 refine wpAny_getItem_list_slice ht.isList hs pl pu .none (by simp) ?_ (by rw[Dk] <;> lia)
 rw[nk, <- hlen]
 refine ⟨.ref s.heap.objs.size,_,I.laid (t':=s.toks) (o :=.lst (dY xs lo hi)) (λb ob q=>C7 _ q) (Dd _) ?_,rfl,q _ (I.hok.fresh (Dd _))⟩
 exact ⟨DU (j6 xs lo hi) hz,_,0,(r.drop (HT.sIx xs.length 0 lo)).take (HT.sIx xs.length xs.length hi-HT.sIx xs.length 0 lo),Dn _ rfl⟩
def iP:V->Bool
 | .non=>true
 | .bl _=>true
 | .int _=>true
 | .str _=>true
 | _=>false
def eqV:V->V->Bool
 | .non,.non=>true
 | .bl a,.bl b=>a == b
 | .bl a,.int b=>(if a then 1 else 0) == b
 | .int a,.bl b=>a == (if b then 1 else 0)
 | .int a,.int b=>a == b
 | .str a,.str b=>a == b
 | _,_=>false
theorem Bt {A:Ep}{s:Dg}{y x:V}{u v:C9}(ry:RelV y u)(rx:RelV x v)(fy:iP y=true)(fx:iP x=true):HW A s u v (eqV y x):=by
 cases y with
 | non =>
  cases ry
  cases x with
  | non=>cases rx;exact IX _
  | bl b=>cases rx;exact SeqAt.EqAt.none_bool b
  | int b=>obtain ⟨t,rfl⟩:=rx;exact SeqAt.EqAt.none_int b t
  | str b=>obtain ⟨t,rfl⟩:=rx;exact SeqAt.EqAt.none_str b t
  | _=>exact absurd (show false=true from fx) Dv
 | bl a =>
  cases ry
  cases x with
  | non=>cases rx;exact SeqAt.EqAt.bool_none a
  | bl b=>cases rx;exact SeqAt.EqAt.bool_bool a b
  | int b=>obtain ⟨t,rfl⟩:=rx;exact SeqAt.EqAt.bool_int a b t
  | str b=>obtain ⟨t,rfl⟩:=rx;exact SeqAt.EqAt.bool_str a b t
  | _=>exact absurd (show false=true from fx) Dv
 | int a =>
  obtain ⟨t',rfl⟩:=ry
  cases x with
  | non=>cases rx;exact SeqAt.EqAt.int_none a t'
  | bl b=>cases rx;exact SeqAt.EqAt.int_bool a t' b
  | int b=>obtain ⟨t,rfl⟩:=rx;exact Gx a t' b t
  | str b=>obtain ⟨t,rfl⟩:=rx;exact Ll a t' b t
  | _=>exact absurd (show false=true from fx) Dv
 | str a =>
  obtain ⟨t',rfl⟩:=ry
  cases x with
  | non=>cases rx;exact SeqAt.EqAt.str_none a t'
  | bl b=>cases rx;exact SeqAt.EqAt.str_bool a t' b
  | int b=>obtain ⟨t,rfl⟩:=rx;exact Lm a t' b t
  | str b=>obtain ⟨t,rfl⟩:=rx;exact SeqAt.EqAt.str_str a t' b t
  | _=>exact absurd (show false=true from fx) Dv
 | _=>exact absurd (show false=true from fy) Dv
def eqU (x:V)(u:C9):Bool:=match u with
 | .none=>eqV .non x
 | .bool b=>eqV (.bl b) x
 | .int i _=>eqV (.int i) x
 | .str z _=>eqV (.str z) x
 | _=>false
theorem xh {x y:V}{u:C9}(r:RelV y u)(f:iP y=true):eqU x u=eqV y x:=by
 cases y with
 | non=>cases r;rfl
 | bl b=>cases r;rfl
 | int i=>obtain ⟨t,rfl⟩:=r;rfl
 | str z=>obtain ⟨t,rfl⟩:=r;rfl
 | _=>exact absurd (show false=true from f) Dv
theorem iQ {x:V}:∀{xs:List V} {us:List C9},Vals xs us->xs.all iP=true->us.any (eqU x)=xs.any λy=>eqV y x
 | _,_,.nil,_=>rfl
 | y :: xs,u :: us,.cons r t,f=>by
  rw[JU,EC] at f
  rw[Ia,Ia,xh r f.1,iQ t f.2]
theorem fZ {A:Ep}{s:Dg}{x:V}{v:C9}(rx:RelV x v)(fx:iP x=true):∀{xs:List V} {us:List C9},Vals xs us->xs.all iP=true->∀u∈us,HW A s u v (eqU x u)
 | _,_,.nil,_=>λu hu=>by cases hu
 | y :: xs,u :: us,.cons r t,f=>λu' hu=>by
  rw[JU,EC] at f
  rcases Dx.mp hu with rfl | hu
  ·rw[xh r f.1];exact Bt r rx f.1 fx
  ·exact fZ rx fx t f.2 u' hu
def inV (x:V)(xs:List V):Bool:=xs.any λy=>eqV y x
def rIn (K:Df)(neg:Bool):R2:=λx y H Q=>∃p xs,y = .ref p/\(SqL K H p xs\/SqT K H p xs)/\iP x=true/\xs.all iP=true/\Q (.bl (if neg then !inV x xs else inV x xs)) H
theorem vv:OpR X (Fj .In) (rIn X.K false):=by
 intro pins s σ H x y v u Q I rx ry h
 obtain ⟨p,xs,rfl,hq,fx,fs,q⟩:=h
 cases ry
 rcases hq with hq | hq
 ·obtain ⟨its,r,pl,hz⟩:=I.list hq
  refine SeqAt.in_listAt (eqU x) pl.isList (λw hw=>fZ rx fx r fs w (by simpa using hw)) ⟨.bl _,H,I,rfl,?_⟩
  rw[show its.toArray.any (eqU x)=its.any (eqU x) by simp,iQ r fs]
  exact q
 ·obtain ⟨its,r,pl,hz⟩:=I.tuple hq
  refine SeqAt.in_tupleAt (eqU x) pl (λw hw=>fZ rx fx r fs w (by simpa using hw)) ⟨.bl _,H,I,rfl,?_⟩
  rw[show its.toArray.any (eqU x)=its.any (eqU x) by simp,iQ r fs]
  exact q
theorem iR:OpR X (Fj .NotIn) (rIn X.K true):=by
 intro pins s σ H x y v u Q I rx ry h
 obtain ⟨p,xs,rfl,hq,fx,fs,q⟩:=h
 cases ry
 rcases hq with hq | hq
 ·obtain ⟨its,r,pl,hz⟩:=I.list hq
  refine SeqAt.notIn_listAt (eqU x) pl.isList (λw hw=>fZ rx fx r fs w (by simpa using hw)) ⟨.bl _,H,I,rfl,?_⟩
  rw[show its.toArray.any (eqU x)=its.any (eqU x) by simp,iQ r fs]
  exact q
 ·obtain ⟨its,r,pl,hz⟩:=I.tuple hq
  refine SeqAt.notIn_tupleAt (eqU x) pl (λw hw=>fZ rx fx r fs w (by simpa using hw)) ⟨.bl _,H,I,rfl,?_⟩
  rw[show its.toArray.any (eqU x)=its.any (eqU x) by simp,iQ r fs]
  exact q
theorem aI:bL X (.builtin "len") (λxs H Q=>∃p ys,xs=[.ref p]/\(SqL X.K H p ys\/SqT X.K H p ys)/\Q (.int ys.length) H):=by
 intro pins s σ H xs us Q I r h
 obtain ⟨p,ys,rfl,hq,q⟩:=h
 obtain ⟨u,rfl,rx⟩:=vals1 r
 cases rx
 have hn:=lH
 rcases hq with hq | hq
 ·obtain ⟨its,r',pl,hz⟩:=I.list hq
  have hlen:=r'.length
  exact Calls.call_len_list pl.isList (by simp only[Dk] <;> lia) ⟨.int ys.length,H,I.tok _,⟨s.toks+1,by rw[Dk,hlen]⟩,q⟩
 ·obtain ⟨its,r',pl,hz⟩:=I.tuple hq
  have hlen:=r'.length
  exact len_tuple pl (by simp only[Dk] <;> lia) ⟨.int ys.length,H,I.tok _,⟨s.toks+1,by rw[Dk,hlen]⟩,q⟩
theorem fu:bL X (.type "list") (λxs H Q=>∃p ys,xs=[.ref p]/\(SqL X.K H p ys\/SqT X.K H p ys)/\∀l,H l=none->Q (.ref l) (upd H l (.lst ys))):=by
 intro pins s σ H xs us Q I r h
 obtain ⟨p,ys,rfl,hq,q⟩:=h
 obtain ⟨u,rfl,rx⟩:=vals1 r
 cases rx
 have fin:∀(its:List C9),Vals ys its->ys.length<=Dm->∀(h':Heap) (c':Nat),(∀b o',s.heap.get? b=some o'->h'.get? b=some o') →
   h'.get? s.heap.objs.size=some { cls :=.type "list",dict:=none,data :=.seq its.toArray c',slots := #[] }->EP X pins σ Q (.ref s.heap.objs.size) { s with heap:=h' }:=λits r' hz h' c' kp e =>
  ⟨.ref s.heap.objs.size,_,I.laid (t':=s.toks) kp (Dd _) (show bB X.prog X.w _ h' _ (.lst ys) from ⟨hz,its,c',r',e⟩),rfl,q _ (I.hok.fresh (Dd _))⟩
 rcases hq with hq | hq
 ·obtain ⟨its,r',pl,hz⟩:=I.list hq
  have hlen:=r'.length
  obtain ⟨o,ho,hc,n,hd⟩:=pl.isList
  exact call_list_seq p (.inl rfl) ho hc hd (λh' c' kp e=>fin its r' hz h' c' kp e) (by simp only[Dk] <;> lia)
 ·obtain ⟨its,r',pl,hz⟩:=I.tuple hq
  have hlen:=r'.length
  obtain ⟨o,ho,hc,n,hd⟩:=pl
  exact call_list_seq p (.inr rfl) ho hc hd (λh' c' kp e=>fin its r' hz h' c' kp e) (by simp only[Dk] <;> lia)
theorem bV:bL X (.type "tuple") (λxs H Q=>∃p ys,xs=[.ref p]/\((SqL X.K H p ys/\∀l,H l=none->Q (.ref l) (upd H l (.tup ys)))\/(SqT X.K H p ys/\Q (.ref p) H))):=by
 intro pins s σ H xs us Q I r h
 obtain ⟨p,ys,rfl,h⟩:=h
 obtain ⟨u,rfl,rx⟩:=vals1 r
 cases rx
 rcases h with ⟨hq,q⟩ | ⟨hq,q⟩
 ·obtain ⟨its,r',pl,hz⟩:=I.list hq
  have hlen:=r'.length
  refine call_tuple_list pl.isList (λh' kp =>?_) (by simp only[Dk] <;> lia)
  have I1:Inv X pins σ H { s with heap:=h' }:=I.kept (t':=s.toks) kp
  have I2:Inv X pins σ (upd H h'.objs.size (.tup ys)) { s with heap:=h'.push { cls :=.type "tuple",data :=.seq its.toArray } } :=
   I1.laid (t':=s.toks) (λb o e=>C7 _ e) (Dd _) (show bB X.prog X.w _ _ _ (.tup ys) from ⟨hz,its,r',dS.new _ _⟩)
  exact ⟨.ref h'.objs.size,_,I2,rfl,q _ (I1.hok.fresh (Dd _))⟩
 ·obtain ⟨its,r',pl,hz⟩:=I.tuple hq
  exact call_tuple_same pl ⟨.ref p,H,I,rfl,q⟩
def tyV (K:Df)(T:String)(x:V)(H:Hp):Prop:=match x with
 | .str _=>T = "str"
 | .int _=>T = "int"
 | .ref p=>(T = "list" /\ ∃xs,SqL K H p xs)\/(T = "tuple" /\ ∃o,K.lookup p=some o/\o.cls = .type "tuple" /\ o.dict=none) ∨
   (T = "dict" /\ ((∃kvs,H p=some (.dK kvs))\/∃kvs,H p=some (.dT kvs)))\/(T = "set" /\ ∃S n,H p=some (.set S n))
 | _=>False
theorem xo {pins:List (Addr×Obj)}{σ:St}{H:Hp}{s:Dg}{T:String}{x:V}{v:C9}(I:Inv X pins σ H s)(r:RelV x v)(ty:tyV X.K T x H) :
  s.TypeIs v T/\∀a,v = .ref a->∃ob,s.heap.get? a=some ob/\ob.dict=none:=by
 cases x with
 | str z =>
  obtain ⟨t,rfl⟩:=r
  cases (show T = "str" from ty)
  exact ⟨typeIs_str s z t,λ_ e=>nomatch e⟩
 | int i =>
  obtain ⟨t,rfl⟩:=r
  cases (show T = "int" from ty)
  exact ⟨MJ s i t,λ_ e=>nomatch e⟩
 | ref p =>
  cases r
  rcases ty with ⟨rfl,xs,hq⟩ | ⟨rfl,o,hk,hc,hd⟩ | ⟨rfl,hk⟩ | ⟨rfl,S,n,hk⟩
  ·obtain ⟨its,_,pl,_⟩:=I.list hq
   refine ⟨pl.isList.typeIs,λa e =>?_⟩
   cases e
   obtain ⟨o,n,e,c,hd,_⟩:=pl
   exact ⟨o,e,hd⟩
  ·refine ⟨⟨o,I.kIn p o hk,hc⟩,λa e =>?_⟩
   cases e
   exact ⟨o,I.kIn _ o hk,hd⟩
  ·have z:∃o,s.heap.get? p=some o/\o.ExactDict:=by
    rcases hk with ⟨kvs,hk⟩ | ⟨kvs,hk⟩
    ·obtain ⟨_,_,_,_,o,_,_,e,ex,_⟩:=I.hok p _ hk
     exact ⟨o,e,ex⟩
    ·obtain ⟨_,_,_,_,o,_,_,e,ex,_⟩:=I.hok p _ hk
     exact ⟨o,e,ex⟩
   obtain ⟨o,e,ex⟩:=z
   refine ⟨⟨o,e,ex.1⟩,λa e2 =>?_⟩
   cases e2
   exact ⟨o,e,ex.2.1⟩
  ·obtain ⟨o,_,_,_,e,ex,_⟩:=I.hok p _ hk
   refine ⟨⟨o,e,ex.1⟩,λa e2 =>?_⟩
   cases e2
   exact ⟨o,e,ex.2.1⟩
 | _=>exact False.elim ty
def tBM0 (K:Df)(T:String)(r:V->List V->Hp->VK->Prop)(to:TE):TE:=λσ H Q=>to σ H λx H1=>tyV K T x H1/\r x [] H1 Q
def tBM (K:Df)(T:String)(r:V->List V->Hp->VK->Prop)(to:TE)(t:TA):TE:=λσ H Q=>to σ H λx H1=>tyV K T x H1/\t σ H1 λxs H2=>r x xs H2 Q
variable  {o e:Expr}{es:List Expr}{to:TE}{t:TA}{name:Str}{apos cpos:Pos}{T id:String}{r:V->List V->Hp->VK->Prop}
theorem xp (pa:PlainAttrs T)(slot:Slot T name id)(hty:typeOf (.builtin id)=pure (.type "method_descriptor"))(hm:MtR X id r)(ho:PE X o to)
  (hbase:attributeBase o name X.env (eval o X.env)=eval o X.env:=by rfl) (hline:(apos.endLine == cpos.line)=true:=by rfl):PE X (.Call (.Attribute o name apos) [] [] cpos) (tBM0 X.K T r to):=by
 intro pins s σ H Q I h
 refine wpAny_Call_method0_late hbase hline (thn (ho pins s σ H _ I h) λv s1 ⟨x,H1,I1,r1,ty,q1⟩ =>?_)
 obtain ⟨h1,h2⟩:=xo I1 r1 ty
 exact ⟨T,id,pa,slot,hty,h1,h2,Gr rfl (PySem.evalArgs_none (hm pins s1 σ H1 x [] v [] Q I1 r1 .nil q1))⟩
theorem eB (pa:PlainAttrs T)(slot:Slot T name id)(hty:typeOf (.builtin id)=pure (.type "method_descriptor"))(hm:MtR X id r)(ho:PE X o to)(ha:PA X (e :: es) t)
  (hbase:attributeBase o name X.env (eval o X.env)=eval o X.env:=by rfl)
  (hfew:((Ih cpos (Em (e :: es) X.env)).all (λx => !x.1) && (backToKw cpos (keywordEach [] X.env)).all (λx=>x.1.isSome)
   && decide ((e :: es).length+([]:List Keyword).length+(if ([]:List Keyword).isEmpty then 0 else 1)<30))=true:=by rfl)
  (hline:(apos.endLine == cpos.line)=true:=by rfl) (hs:Em (e :: es) X.env=(false,eval e X.env) :: Em es X.env:=by rfl) (hplain:(Ih cpos (Em es X.env)).any (·.1)=false:=by rfl) :
  PE X (.Call (.Attribute o name apos) (e :: es) [] cpos) (tBM X.K T r to t):=by
 intro pins s σ H Q I h
 refine Kr hbase hfew hline rfl (thn (ho pins s σ H _ I h) λv s1 ⟨x,H1,I1,r1,ty,q1⟩ =>?_)
 obtain ⟨h1,h2⟩:=xo I1 r1 ty
 refine ⟨T,id,pa,slot,hty,h1,h2,?_⟩
 have hA:=ha cpos pins s1 σ H1 _ I1 q1
 rw[hs] at hA ⊢
 refine Gr (by show (false || (Ih cpos (Em es X.env)).any (·.1))=false;rw[hplain] <;> rfl) (Hy ?_)
 exact thn hA λus s2 ⟨vs,H2,I2,r2,q2⟩=>hm pins s2 σ H2 x vs v us Q I2 r1 r2 q2
end
def MtM (X:Cx)(id:String)(r:V->List V->Hp->VK->Prop):Prop :=
 ∀(pins:List (Addr×Obj)) (s:Dg) (σ:St) (H:Hp) (x:V) (xs:List V) (v:C9) (us:List C9) (Q:VK),Inv X pins σ H s->RelV x v->Vals xs us->r x xs H Q →
  DI (DS X.prog X.w) X.A (call (.builtin id) (v :: us)) (EP X pins σ Q) X.xe s
theorem Vals.one:∀{x:V} {us:List C9},Vals [x] us->∃u,us=[u]/\RelV x u
 | _,_,.cons r .nil=>⟨_,rfl,r⟩
theorem Vals.zero:∀{us:List C9},Vals [] us->us=[]
 | _,.nil=>rfl
theorem Vals.dropLast {xs:List V}{us:List C9}(h:Vals xs us):Vals xs.dropLast us.dropLast:=by
 induction h with
 | nil=>exact .nil
 | cons r t ih =>
  cases t with
  | nil=>exact .nil
  | cons q t'=>exact .cons r ih
theorem Vals.eraseIdx:∀{xs:List V} {us:List C9} (i:Nat),Vals xs us->Vals (xs.eraseIdx i) (us.eraseIdx i)
 | _,_,_,.nil =>.nil
 | _,_,0,.cons _ t=>t
 | _,_,i+1,.cons r t =>.cons r (Vals.eraseIdx i t)
theorem Vals.rep {xs:List V}{us:List C9}(h:Vals xs us):∀k:Nat,Vals (Ej k xs).flatten (Ej k us).flatten
 | 0 =>.nil
 | k+1=>by
  rw[FN,FN,FO,FO]
  exact Vals.append h (Vals.rep h k)
theorem sI {α:Type}(l:List α):l.eraseIdx (l.length-1)=l.dropLast:=by
 induction l with
 | nil=>rfl
 | cons a r ih =>
  cases r with
  | nil=>rfl
  | cons b r =>
   have e:(a :: b :: r).length-1=((b :: r).length-1)+1:=by
    have h1:(a :: b :: r).length=r.length+2:=rfl
    have h2:(b :: r).length=r.length+1:=rfl
    lia
   rw[e,Ib,ih]
   all_goals rfl
theorem nU {α:Type}:∀(l:List α) (i:Nat),(l.eraseIdx i).length<=l.length
 | [],_=>Dd _
 | _ :: _,0=>GQ _
 | _ :: r,i+1=>Ka (nU r i)
theorem foldl_rep (its:List C9):∀(k:Nat) (acc:List C9),
  List.foldl (λx1 x2=>x1++x2) acc.toArray (Ej k its.toArray)=(acc++(Ej k its).flatten).toArray
 | 0,acc=>by simp
 | k+1,acc=>by
  have e:acc.toArray++its.toArray=(acc++its).toArray:=by simp
  have e2:(acc++its)++(Ej k its).flatten=acc++(Ej (k+1) its).flatten:=by
   rw[FN,FO,DQ]
  rw[<- e2, <- foldl_rep its k (acc++its), <- e,FN,Ku]
section
variable  {X:Cx}{pins:List (Addr×Obj)}{σ:St}{H:Hp}{s:Dg}{l b:Addr}{xs ys zs:List V}
theorem Inv.zv {its its':List C9}{n:Nat}{f:Array C9->Array C9}{t':Nat}(I:Inv X pins σ H s)(hH:H l=some (.lst xs))
  (e:s.heap.get? l=some { cls :=.type "list",data :=.seq its.toArray n }) (hf:f its.toArray=its'.toArray) (hv:Vals ys its') (hz:ys.length<=Dm) :
  Inv X pins σ (upd H l (.lst ys)) { s with heap:=s.heap.update l (Fh f),toks:=t' }:=by
 have q:=PySem.IsL.update e f
 rw[hf] at q
 refine I.write (x:=l) (e:=l) (by rw[hH];exact trivial) (.inl rfl) (λb' u hb hu=>(Eh s.heap (Fh f) (EB hb)).trans hu) ⟨_,q⟩ ?_
 exact ⟨hz,its',_,hv,q⟩
theorem Inv.CA {its:List C9}{t':Nat}(I:Inv X pins σ H s)(hv:Vals ys its)(hz:ys.length<=Dm) :
  Inv X pins σ (upd H s.heap.objs.size (.lst ys)) { s with heap:=s.heap.push { cls :=.type "list",data :=.seq its.toArray },toks:=t' } :=
 I.laid (λ_ _ q=>C7 _ q) (Dd _) ⟨hz,its,0,hv,Dn _ rfl⟩
theorem Inv.fresh (I:Inv X pins σ H s):H s.heap.objs.size=none:=I.hok.fresh (Dd _)
theorem Inv.vw (I:Inv X pins σ H s)(hH:H l=some (.lst xs)):xs.length<=Dm/\∃(its:List C9) (n:Nat),Vals xs its/\xs.length=its.length/\s.heap.get? l=some { cls :=.type "list",data :=.seq its.toArray n }:=by
 obtain ⟨z,its,n,r,e⟩:=I.hok l _ hH
 exact ⟨z,its,n,r,r.length,e⟩
theorem lO {n:Nat}(h:n<=Dm):Builtin.List.listTooLong n=false:=by
 unfold Builtin.List.listTooLong
 exact decide_eq_false (by lia)
end
section
variable  {X:Cx}
def zw:V->List V->Hp->VK->Prop:=λx vs H Q=>∃l xs y,x = .ref l/\vs=[y]/\H l=some (.lst xs)/\xs.length<Dm/\Q .non (upd H l (.lst (xs++[y])))
theorem bZ:MtM X "list.append" zw:=by
 intro pins s σ H x vs v us Q I rx rv h
 obtain ⟨l,xs,y,rfl,rfl,hH,hz,q⟩:=h
 cases rx
 obtain ⟨u,rfl,ru⟩:=rv.one
 obtain ⟨z,its,n,r,hl,e⟩:=I.vw hH
 refine IV F.slot_list_append ⟨_,e,rfl⟩ F.entry_list_append (F.args_list_append_2 _ _) (PySem.list_append l its.toArray n u (by rw[Dk];lia)) ⟨e,?_⟩
 refine ⟨.non,_,I.zv (its':=its++[u]) hH e (by simp) (r.append (.cons ru .nil)) ?_,rfl,q⟩
 rw[C8,D9]
 lia
def zx:V->List V->Hp->VK->Prop:=λx vs H Q=>∃l b xs zs,x = .ref l/\vs=[.ref b]/\H l=some (.lst xs)/\H b=some (.lst zs)/\xs.length+zs.length<=Dm/\Q .non (upd H l (.lst (xs++zs)))
theorem nV:MtM X "list.extend" zx:=by
 intro pins s σ H x vs v us Q I rx rv h
 obtain ⟨l,b,xs,zs,rfl,rfl,hH,hB,hz,q⟩:=h
 cases rx
 obtain ⟨u,rfl,ru⟩:=rv.one
 cases ru
 obtain ⟨z,its,n,r,hl,e⟩:=I.vw hH
 obtain ⟨z2,its2,n2,r2,hl2,e2⟩:=I.vw hB
 have hsz:its.toArray.size+its2.toArray.size<=Dm:=by rw[Dk,Dk];lia
 have hlong:¬ (!its.toArray.isEmpty && Builtin.List.listTooLong (its.toArray.size+its2.toArray.size))=true:=by
  rw[lO hsz,K5]
  exact Dv
 refine IV F.slot_list_extend ⟨_,e,rfl⟩ F.entry_list_extend (F.args_list_extend_2 _ _)
  (AutoSeq1.list_extend_list_list_0 l its.toArray n b its2.toArray n2 hlong (by rw[Dk];lia) (by lia)) ⟨e,e2,?_⟩
 refine ⟨.non,_,I.zv (its':=its++its2) hH e (by simp) (r.append r2) ?_,rfl,q⟩
 rw[C8]
 lia
def rPop:V->List V->Hp->VK->Prop:=λx vs H Q=>∃l xs y,x = .ref l/\vs=[]/\H l=some (.lst xs)/\xs[xs.length-1]? = some y/\Q y (upd H l (.lst xs.dropLast))
theorem xq:MtM X "list.pop" rPop:=by
 intro pins s σ H x vs v us Q I rx rv h
 obtain ⟨l,xs,y,rfl,rfl,hH,hy,q⟩:=h
 cases rx
 have hus:=rv.zero
 subst hus
 obtain ⟨z,its,n,r,hl,e⟩:=I.vw hH
 obtain ⟨u,hu,ru⟩:=r.get hy
 have hy':its.toArray[its.toArray.size-1]? = some u:=by
  show its.toArray[its.length-1]? = some u
  rw[<- Dt, <- hl]
  exact hu
 refine IV Mf ⟨_,e,rfl⟩ LY (F.args_list_pop_1 _) (MeetsSeq.list_pop_last l its.toArray n u hy' (by rw[Dk];lia)) ⟨e,?_⟩
 refine ⟨y,_,I.zv (its':=its.dropLast) hH e ?_ r.dropLast ?_,ru,q⟩
 ·show its.toArray.eraseIdxIfInBounds (its.toArray.size-1)=its.dropLast.toArray
  rw[Dk,Il,sI]
 ·rw[List.length_dropLast]
  lia
def Bu:V->List V->Hp->VK->Prop:=λx vs H Q=>∃l xs i k y,x = .ref l/\vs=[.int i]/\H l=some (.lst xs) /\ -(2 ^ 63)<=i/\i<2 ^ 63/\seqIndex? i xs.length=some k/\xs[k]? = some y/\Q y (upd H l (.lst (xs.eraseIdx k)))
theorem xt:MtM X "list.pop" Bu:=by
 intro pins s σ H x vs v us Q I rx rv h
 obtain ⟨l,xs,i,k,y,rfl,rfl,hH,h1,h2,hk,hy,q⟩:=h
 cases rx
 obtain ⟨u,rfl,ru⟩:=rv.one
 obtain ⟨t,rfl⟩:=ru
 obtain ⟨z,its,n,r,hl,e⟩:=I.vw hH
 obtain ⟨w,hw,rw'⟩:=r.get hy
 refine IV Mf ⟨_,e,rfl⟩ LY (F.args_list_pop_2 _ _)
  (MeetsSeq.list_pop_at l its.toArray n i t k w (fitsIndex_both h1 h2) (by rw[Dk, <- hl];exact hk) (by rw[<- Dt];exact hw) (by rw[Dk];lia)) ⟨e,?_⟩
 refine ⟨y,_,I.zv (its':=its.eraseIdx k) hH e ?_ (r.eraseIdx k) ?_,rw',q⟩
 ·show its.toArray.eraseIdxIfInBounds k=(its.eraseIdx k).toArray
  rw[Il]
 ·have:=nU xs k
  lia
def rRep:R2:=λx y H Q=>∃l k xs,x = .ref l/\y = .int k/\H l=some (.lst xs) /\ -(2 ^ 63)<=k/\k<2 ^ 63/\xs.length*k.toNat<=Dm ∧
 ∀p,H p=none->Q (.ref p) (upd H p (.lst (Ej k.toNat xs).flatten))
theorem len_rep {α:Type}(xs:List α)(k:Nat):(Ej k xs).flatten.length=k*xs.length:=by
 induction k with
 | zero=>simp
 | succ k ih=>rw[FN,FO,C8,ih,Nat.succ_mul,Nat.add_comm]
theorem Bv:OpR X (binaryOp .Mult) rRep:=by
 intro pins s σ H x y v u Q I rx ry h
 obtain ⟨l,k,xs,rfl,rfl,hH,h1,h2,hz,q⟩:=h
 cases rx
 obtain ⟨t,rfl⟩:=ry
 obtain ⟨z,its,n,r,hl,e⟩:=I.vw hH
 have hlen:its.toArray.size*k.toNat<=Dm:=by rw[Dk, <- hl];exact hz
 have hcap:¬ its.toArray.size*k.toNat>(2 ^ 63-1)/8:=by
  have:(Dm:Nat)<=(2 ^ 63-1)/8:=by decide
  lia
 have hfit:¬ (!Builtin.List.listFitsIndex k)=true:=by
  rw[fitsIndex_both h1 h2]
  exact Dv
 have hlong:¬ Builtin.List.listTooLong (its.toArray.size*k.toNat)=true:=by
  rw[lO hlen]
  exact Dv
 have hnew:List.foldl (λx1 x2=>x1++x2) #[] (Ej (if its.toArray.isEmpty=true then 0 else k.toNat) its.toArray)=(Ej k.toNat its).flatten.toArray:=by
  have f0:∀m:Nat,List.foldl (λx1 x2=>x1++x2) #[] (Ej m its.toArray)=(Ej m its).flatten.toArray:=λm=>by
   have:=foldl_rep its m []
   rw[G8] at this
   exact this
  rw[f0]
  cases its with
  | nil=>simp
  | cons a r'=>rw[if_neg (by simp)]
 refine wpAny_binaryOp_repeat_ref (T := "list") (U := "int") (by decide) ⟨_,e,rfl⟩ (λs'=>MJ s' k t) noFill_list_mul F.fills_int_mul Mg repeat_list F.slot_int_index.lookup
  (IV Mg (MJ s k t) F.entry_int_rmul (F.args_int_rmul_2 _ _) (int___rmul___int_list k t l its.toArray n)
   ⟨e,rfl,⟨_,e,rfl⟩,IV F.slot_list_mul ⟨_,e,rfl⟩ F.entry_list_mul (F.args_list_mul_2 _ _) (AutoListH.list___mul___list_int_3 l its.toArray n k t hfit hcap hlong) ⟨e,?_⟩⟩)
 rw[hnew]
 exact ⟨.ref _,_,I.CA (t':=s.toks) (r.rep k.toNat) (by rw[len_rep,LR];exact hz),rfl,q _ I.fresh⟩
end
section
variable  {prog:DH}{w:Eb}{A:Ep}{E:C9->Dg->Prop}{s:Dg}
end
section
variable  {X:Cx}
end
end L2
namespace Att
open PySem PySem.W PySem.Calls PyProof.Rows
theorem kJ {P:Params}{h:Heap}:∀(ns:List Int) (vs:List C9),WellAll P h vs (ns.map WData.int)->Gq vs ns:=by
 intro ns
 induction ns with
 | nil =>
  intro vs w
  rw[Kt] at w
  cases w
  exact .nil
 | cons n ns ih =>
  intro vs w
  rw[DV] at w
  cases w with
  | cons a b =>
   cases a
   exact .cons _ _ (ih _ b)
theorem vx {l:OpenLaw}{n:Nat}(hn:l.most=some n){P:Params}{h:Heap}{args:List WData}{vals:List C9}
  (hpre:l.row.toRowW.claim.pre args=true) (hwl:WellAll P h vals args) :
  ∃a vs ns,vals=[DG a]/\args=[WData.list (ns.map WData.int)]/\h.get? a=some { cls :=.type "list",data :=.seq vs.toArray }/\Gq vs ns/\ns.length<=n:=by
 have hsh:WShape.hasAll [] args [.list .int]=true:=(pre_splitW hpre).1
 have hc:l.pre.holds [] { args:=args }=true:=(pre_splitW hpre).2
 obtain ⟨d,r,rfl,h1,h2⟩:=hasAllW_cons hsh
 obtain rfl:=hasAllW_nil h2
 obtain ⟨xs,rfl,h3⟩:=hasW_list h1
 obtain ⟨ns,rfl⟩:=items_int h3
 have hlen:ns.length<=n:=by
  unfold OpenLaw.pre at hc
  have h4:(WTm.not (.lt (.lit (.int (n:Int))) (.len (.arg 0)))).holds [] { args:=[.list (ns.map .int)] }=true:=by
   have h4:=(holds_andW hc).1
   rw[hn] at h4
   exact h4
  have h5:=condW_of h4 (w_not (w_lt w_lit (w_len_list (w_arg rfl))))
  rw[C6] at h5
  refine IE λq =>?_
  have q':(n:Int)<((ns.length:Nat):Int):=by omega
  first
   | (rw[decide_eq_true q'] at h5;exact absurd h5 (by decide))
   | (simp at h5;omega)
 cases hwl with
 | cons w1 w2 =>
  cases w2
  cases w1 with
  | list ho hall=>exact ⟨_,_,ns,rfl,rfl,ho,kJ ns _ hall,hlen⟩
theorem vz (l:OpenLaw)(args:List WData):l.row.toRowW.claim.post args (.bool true) args=true :=
 postW_of (r:=l.row.toRowW) (X:=(true == true))
  (show WShape.has [] (.bool true) .bool=true by first | rfl | decide | simp[WShape.has,WShape.arms,WShape.armsAll])
  (show (WTm.eq .res (.lit (.bool true))).value [] { args:=args,res:=some (.bool true),after:=args }=some (.bool (true == true)) from w_eq_bool (w_res rfl) w_lit) rfl
theorem qF {l:OpenLaw}{n:Nat}{q:DH}{loose:List Str}{XP:(Str->Option C9)->Heap->Prop}{YP:Eb->Heap->Prop}{d:DefRec}
  (hn:l.most=some n) (hdf:d.params.defaults=[])
  (call:∀(w:Eb) (s₀ s₁:Dg) (mg mb:Str->Option C9) (fa:Addr) (o:Obj) (pm cd doc:C9) (a:Addr) (vs:List C9) (ns:List Int),
   Ground q loose [] XP w s₀ mg mb s₁.heap->YP w s₁.heap →
   s₁.heap.get? fa=some o->o.data = .func (docDef d.name d.params d.body d.scope pm cd doc)->s₁.heap.CodeRec cd d.name->mg d.name=some (.ref fa) →
   s₁.heap.get? a=some { cls :=.type "list",data :=.seq vs.toArray }->Gq vs ns->ns.length<=n->s₁.gens = #[] →
   Ji (DS l.prog w) callerA (.call (.ref fa) ⟨[.ref a],[]⟩) (λr s'=>r = .ok (.ret (.bool true))/\OldK s₁.heap s'.heap/\s'.os=s₁.os/\AllBare s'.gens) s₁) :
  WalkO q loose XP YP l.row.toRowW d [] (λf vs=>PySem.call f vs):=by
 intro w s₀ s₁ mg mb G Y fa o pm cd doc dV kV ho hd hcd hD hmg hg args vals as hpre hlay hrd hwl hlo
 obtain rfl:dV = .none:=Dflts.none hD hdf
 obtain rfl:kV = .none:=Dflts.noKw hD
 obtain ⟨a,vs,ns,rfl,rfl,hobj,hints,hlen⟩:=vx hn hpre hwl
 refine enter_call (HV (call w s₀ s₁ mg mb fa o pm cd doc a vs ns G Y ho (fd_plain hd) hcd hmg hobj hints hlen hg) λr s' hq =>?_)
 obtain ⟨rfl,h2,h3,h4⟩:=hq
 exact ⟨.inl ⟨.bool true,.bool true,[],rfl,λ_=>rfl,.bool true,vz l _,λ_=>⟨List.Pairwise.nil,λ_ hm=>(nomatch hm)⟩⟩,h2,h3,h4⟩
section
variable  {prog:DH}{w:Eb}{A:Ep}{E:C9->Dg->Prop}{s:Dg}{K:Frag}
def ledger (h:Heap)(L d:Addr):List (Addr×Obj):=(Eo h.objs.size).filterMap λa=>if a=L\/a=d then none else (h.get? a).map λo=>(a,o)
end
end Att
namespace L2
open PySem PySem.Spec PyProof.Rows
theorem jK:∀{vs:List C9} {ns:List Int},Gq vs ns->Vals (ns.map V.int) vs
 | _,_,.nil =>.nil
 | _,_,.cons n t h =>.cons ⟨t,rfl⟩ (jK h)
def Bw (H:Hp):Prop:=∀b,H b=none\/∃o xs,H b=some (.frz o (.lst xs))
theorem xu {P:DH}{w:Eb}{K:Df}{mg mb:Str->Option C9}{CX:CXT}{k:Nat}{fa a:Addr}{fd:EK}{x:Str}{sp:Sp}{s₁:Dg}{vs:List C9}{ns:List Int}
  (KX:K.In s₁.heap) (hns:s₁.heap.Ns En mg) (hb:s₁.heap.Ns builtinsNs mb) (hbb:∀x:Str,x ≠ "__name__" -> mb x=ED x) (hlim:s₁.heap.NoLimit) (hg:s₁.gens = #[])
  (ha:s₁.heap.get? a=some { cls :=.type "list",data :=.seq vs.toArray }) (hi:Gq vs ns) (hl:ns.length<=Dm) (hr:dG k callerA)
  (F:∀base:Heap,K.In base->base.Ns En mg->cy P w K mg base CX k fa fd [x] sp) (hbind:∀(s:Dg) (u:C9),BindsTo s fd ⟨[u],[]⟩ [(x,u)])
  (hsp:∀H:Hp,Bw H->SqL K H a (ns.map V.int)->sp [.ref a] H (λv _=>v = .bl true) λ_ _ _=>False)
  (hCX:∀H e s',CX [] H s₁ (λ_ _ _=>False) e s'->False) :
  Ji (DS P w) callerA (.call (.ref fa) ⟨[.ref a],[]⟩) (λr s'=>r = .ok (.ret (.bool true))/\OldK s₁.heap s'.heap/\s'.os=s₁.os/\AllBare s'.gens) s₁:=by
 have rv:=jK hi
 have lenV:=hi.length
 have core:∀H:Hp,Bw H->SqL K H a (ns.map V.int)->HOk P w H s₁.heap->(∀b,H b≠none->b=a)->(H a≠none->K.lookup a=none) →
   Ji (DS P w) callerA (.call (.ref fa) ⟨[.ref a],[]⟩) (λr s'=>r = .ok (.ret (.bool true))/\OldK s₁.heap s'.heap/\s'.os=s₁.os/\AllBare s'.gens) s₁:=by
  intro H hO hS hok hA hK
  have base_of:∀{b:Addr} {o:Obj},s₁.heap.get? b=some o->H b=none->(pk s₁.heap H).get? b=some o:=λe n=>wQ e n
  have noA:∀{b:Addr} {o:Obj} {es:Array DictEntry} {ep:Nat},s₁.heap.get? b=some o->o.data = .dict es ep->H b=none:=λ{b o es ep} e d=>by
   cases q:H b with
   | none=>rfl
   | some u =>
    have e':b=a:=hA b (by rw[q];simp)
    subst e'
    rw[ha] at e;cases e
    have d':Data.seq vs.toArray _=Data.dict es ep:=d
    cases d'
  have nsK:∀{b:Addr} {m:Str->Option C9},s₁.heap.Ns b m->(pk s₁.heap H).Ns b m:=λ{b m} ⟨o,es,ep,e,d,r⟩=>⟨o,es,ep,base_of e (noA e d),d,r⟩
  have hKb:K.In (pk s₁.heap H):=λb o e=>base_of (KX b o e) (by
   cases q:H b with
   | none=>rfl
   | some u =>
    have e':b=a:=hA b (by rw[q];simp)
    subst e'
    rw[hK (by rw[q];simp)] at e;cases e)
  have hM:Mod K mg (pk s₁.heap H):=⟨hKb,nsK hns,⟨mb,nsK hb,hbb⟩,let ⟨mc,h1,h2⟩:=hlim;⟨mc,nsK h1,h2⟩⟩
  have e0:zi P w K mg (pk s₁.heap H) callerA [] s₁ H:=⟨rfl,hM,λb o e=>y9 e,Nat.le_of_eq (vk _ _),trivial,λb hb=>absurd (show b∈([]:List Addr) from hb) (by simp),hok,.of_eq hg⟩
  refine HV ((F _ hKb (nsK hns)).run callerA [] s₁ H ⟨[.ref a],[]⟩ [.ref a] [.ref a] _ _ hr e0 (hbind s₁ (.ref a)) (.cons rfl .nil) (hsp H hO hS)) λr s' h =>?_
  cases r with
  | error e=>exact (hCX H e s' h).elim
  | ok fl =>
   cases fl with
   | next=>exact False.elim h
   | brk=>exact False.elim h
   | cont=>exact False.elim h
   | ret u =>
    obtain ⟨v,H',os,bare,un,hok',r',q⟩:=h
    have q':v = .bl true:=q
    subst q'
    obtain rfl:u=Value.bool true:=r'
    refine ⟨rfl,OldK.of_keep λb o e =>?_,os,bare⟩
    cases q:H b with
    | none=>exact un.keep b o e q (by intro z;exact absurd (show b∈([]:List Addr) from z) (by simp)) (by simp)
    | some u =>
     rcases hO b with z | ⟨ob,xs,z⟩
     ·rw[q] at z;cases z
     ·have z2:=un.frzs b ob _ z
      obtain ⟨e1,_⟩:=hok b _ z
      obtain ⟨e2,_⟩:=hok' b _ z2
      rw[e] at e1;cases e1
      exact e2
 cases hk:K.lookup a with
 | some o =>
  have e:=KX a o hk
  rw[ha] at e
  cases e
  refine core (λ_=>none) (λ_ =>.inl rfl) (.inr ⟨_,vs.toArray,_,hk,rfl,rfl,rfl,by rw[Dk,lenV];exact hl,by simpa using rv⟩) (λb u z=>by have z':(none:Option HO)=some u:=z;cases z') (λb z=>absurd rfl z) λz=>absurd rfl z
 | none =>
  refine core (λb=>if b=a then some (.frz { cls :=.type "list",data :=.seq vs.toArray } (.lst (ns.map V.int))) else none) (λb =>?_) (.inl (.inr ⟨{ cls :=.type "list",data :=.seq vs.toArray },if_pos rfl⟩)) (λb u z =>?_) (λb z =>?_) λ_=>hk
  ·by_cases hb:b=a
   ·exact .inr ⟨_,_,if_pos hb⟩
   ·exact .inl (if_neg hb)
  ·by_cases hb:b=a
   ·have z':=(if_pos hb).symm.trans z
    cases z'
    subst hb
    exact ⟨ha,by rw[C6];exact hl,vs,_,rv,ha⟩
   ·have z':=(if_neg hb).symm.trans z
    cases z'
  ·by_cases hb:b=a
   ·exact hb
   ·exact absurd (if_neg hb) z
theorem zy {l:PySem.W.OpenLaw}{n k:Nat}{q:DH}{loose:List Str}{XP:(Str->Option C9)->Heap->Prop}{YP:Eb->Heap->Prop}{d:DefRec}{K:Params->Df}{CX:Eb->CXT}{sp:Eb->Sp}{x:Str}
  (hn:l.most=some n) (hn2:n<=Dm) (hdf:d.params.defaults=[]) (hr:dG k callerA)
  (hY:∀(w:Eb) (h:Heap),YP w h->(K w.params).In h)
  (F:∀(w:Eb) (mg:Str->Option C9) (fa:Addr) (h:Heap),(K w.params).In h->h.Ns En mg->mg d.name=some (.ref fa) →
   ∃fd:EK,(∀(s:Dg) (u:C9),BindsTo s fd ⟨[u],[]⟩ [(x,u)]) ∧
    ∀base:Heap,(K w.params).In base->base.Ns En mg->cy l.prog w (K w.params) mg base (CX w) k fa fd [x] (sp w))
  (hsp:∀(w:Eb) (H:Hp) (a:Addr) (ns:List Int),ns.length<=n->Bw H->SqL (K w.params) H a (ns.map V.int)->sp w [.ref a] H (λv _=>v = .bl true) λ_ _ _=>False)
  (hCX:∀(w:Eb) (H:Hp) (s:Dg) (e:C9) (s':Dg),CX w [] H s (λ_ _ _=>False) e s'->False) :
  PySem.W.WalkO q loose XP YP l.row.toRowW d [] (λf vs=>PySem.call f vs):=by
 refine Att.qF hn hdf λw s₀ s₁ mg mb fa o pm cd doc a vs ns G Y ho hd hcd hmg hobj hints hlen hg =>?_
 have KX:=hY w _ Y
 obtain ⟨fd,hb,hF⟩:=F w mg fa _ KX G.T.g hmg
 exact xu KX G.T.g G.T.b G.T.builtins G.T.nolimit hg hobj hints (DU hlen hn2) hr hF hb (λH hO hS=>hsp w H a ns hlen hO hS) λH e s'=>hCX w H s₁ e s'
def eC (s:Stmt):Arguments:=match s with
 | .FunctionDef _ a _ _ _ _ _ _ _ _=>a
 | _=>{ posonlyargs:=[],args:=[],vararg:=none,kwonlyargs:=[],kw_defaults:=[],kwarg:=none,defaults:=[] }
def cD (s:Stmt):List Stmt:=match s with
 | .FunctionDef _ _ b _ _ _ _ _ _ _=>b
 | _=>[]
def aG (s:Stmt):Scope:=match s with
 | .FunctionDef _ _ _ _ _ _ sc _ _ _=>sc
 | _=>{ kind :=.function,names:=[],isGenerator:=false,isCoroutine:=false }
abbrev CX0:CXT:=λ_ _ _ _ _ _=>False
abbrev E0:XK:=λ_ _ _=>False
theorem CB {X:Cx}:Passes CX0 X E0:=λ_ _ _ _ _ _ _ h=>h.elim
structure Fun (K:Df)(x qual:Str)(st:Stmt)(f:Addr)(fd:EK):Prop where
 ex:∃(oc:C9) (od:Option Addr) (kV doc pm:C9) (an:Option Addr) (cdv ct:C9) (osl:Array (Option C9)),
  fd=PySem.W.fnOf x qual (eC st) (cD st) (aG st) .none kV doc pm an cdv ct/\K.lookup f=some ⟨oc,od,.func fd,osl⟩/\PySem.W.codeIn K cdv qual=true
 kp:PySem.W.keepIn K (.ref f)=true
section
variable  {P:DH}{w:Eb}{K:Df}{mg:Str->Option C9}{base:Heap}
theorem Fun.ok {x qual:Str}{st:Stmt}{f:Addr}{fd:EK}{N ps:List Str}{k:Nat}{sp:Sp}(F:Fun K x qual st f fd)(S:aU N ps (aG st))(len:∀vs H Q E,sp vs H Q E->vs.length=ps.length)
  (hbody:∀(cdv:C9) (A:Ep) (outer:List Env) (s:Dg) (H:Hp) (vs:List V) (Q:VK) (E:XK),dG k (A.deeper (envOfC qual (aG st) s.heap.objs.size f cdv))->sp vs H Q E →
   ∃t,PSs (qC CX0 P w K mg base N qual (aG st) f cdv A outer s H E).nox (cD st) t/\t { nx:=λ_ H'=>Q .non H',rt:=Q } (start N vs) H):cy P w K mg base CX0 (k+1) f fd ps sp:=by
 obtain ⟨oc,od,kV,doc,pm,an,cdv,ct,osl,rfl,lk,hcd⟩:=F.ex
 refine Cv lk hcd S len λA outer s H vs Q E hr hsp =>?_
 obtain ⟨t,h,q⟩:=hbody cdv A outer s H vs Q E hr hsp
 exact ⟨t,h.nox,q⟩
theorem Fun.binds {x qual:Str}{st:Stmt}{f:Addr}{fd:EK}{ps:List Str}(F:Fun K x qual st f fd)
  (h:∀(kV doc pm:C9) (an:Option Addr) (cdv ct:C9) (us:List C9),us.length=ps.length->bindArgs (PySem.W.fnOf x qual (eC st) (cD st) (aG st) .none kV doc pm an cdv ct) ⟨us,[]⟩=pure (ps.zip us)):Binds K fd ps []:=by
 obtain ⟨oc,od,kV,doc,pm,an,cdv,ct,osl,rfl,lk,hcd⟩:=F.ex
 exact .all (h kV doc pm an cdv ct)
theorem xv {x qual:Str}{st:Stmt}{f:Addr}{oc:C9}{od an:Option Addr}{osl:Array (Option C9)}{kV doc pm cdv ct:C9}(l:K.lookup f=some ⟨oc,od,.func (PySem.W.fnOf x qual (eC st) (cD st) (aG st) .none kV doc pm an cdv ct),osl⟩)
  (c:PySem.W.codeIn K cdv qual=true) (k:PySem.W.keepIn K (.ref f)=true):Fun K x qual st f (PySem.W.fnOf x qual (eC st) (cD st) (aG st) .none kV doc pm an cdv ct):=⟨⟨oc,od,kV,doc,pm,an,cdv,ct,osl,rfl,l,c⟩,k⟩
end
theorem xw {A:Ep}{k:Nat}(hr:dG k A):A.units+1<cLine:=G4 (HL (by decide:1<=64) _) hr.units
theorem cx {n:Nat}(h:n<=1000):n<Dm:=G4 h (by decide)
section
variable  {X:Cx}
theorem pv (i:Nat){x:Str}{pos:Pos}(hN:X.N[i]? = some x:=by rfl)(hv:Vis X.env.scope x:=by first | exact Or.inl rfl | exact Or.inr (Or.inl rfl) | exact Or.inr (Or.inr rfl))(hd:(x == ("__debug__" : Str))=false:=by decide)
  (hcd:(x == ("__classdict__" : Str))=false:=by decide):PE X (.Name x pos) (wR i):=Bf hN hv hd hcd
end
theorem cz {A B:Prop}(h:B):if false=true then A else B:=by
 rw[if_neg Dv]
 exact h
theorem bC {A B:Prop}(h:A):if true=true then A else B:=by
 rw[if_pos rfl]
 exact h
theorem cv {c A B:Prop}[Decidable c](h1:c->A)(h2:¬ c->B):if c then A else B:=by
 by_cases h:c
 ·rw[if_pos h]
  exact h1 h
 ·rw[if_neg h]
  exact h2 h
theorem iT {c A B:Prop}[Decidable c](hc:c)(h:B):if (!decide c)=true then A else B:=by
 rw[decide_eq_true hc]
 exact cz h
def aB (H H':Hp):Prop:=∀b o,H b=some o->H' b=some o
theorem aB.refl (H:Hp):aB H H:=λ_ _ h=>h
theorem aB.trans {H H1 H2:Hp}(a:aB H H1)(b:aB H1 H2):aB H H2:=λc o h=>b c o (a c o h)
theorem aB.free {H H':Hp}(e:aB H H'){l:Addr}(h:H' l=Option.none):H l=Option.none:=by
 cases q:H l with
 | none=>rfl
 | some o =>
  rw[e l o q] at h
  cases h
theorem aB.seq {K:Df}{H H':Hp}{a:Addr}{xs:List V}(e:aB H H')(h:SqL K H a xs):SqL K H' a xs:=by
 rcases h with (h | ⟨o,h⟩) | h
 ·exact .inl (.inl (e _ _ h))
 ·exact .inl (.inr ⟨o,e _ _ h⟩)
 ·exact .inr h
set_option maxHeartbeats 4000000
def qG (on:List (Str×NameKind))(N:List Str)(sc:Scope)(N':List Str)(ix:List (Option Nat)):Bool :=
 decide (sc.kind = .function) &&
 sc.names.all (λy=>match y.2 with
  | .local=>decide (sc.names.lookup y.1=some .local)
  | .cell=>false
  | .free=>decide (on.lookup y.1=some .cell) || decide (on.lookup y.1=some .free)
  | _=>true) &&
 decide (ix.length=N'.length) &&
 (ix.zip N').all (λp=>match p.1 with
  | none=>true
  | some j=>decide (N[j]? = some p.2) && decide (sc.names.lookup p.2=some .free))
theorem j7 {ns:List (Str×NameKind)}{y:Str}{k:NameKind}(h:ns.lookup y=some k):(y,k)∈ns:=Gk h
structure lP (on:List (Str×NameKind))(N:List Str)(sc:Scope)(N':List Str)(ix:List (Option Nat)):Prop where
 kind:sc.kind = .function
 locs:∀y∈sc.names,y.2 = .local->sc.names.lookup y.1=some .local
 nocell:∀y∈sc.names,y.2 ≠ .cell
 frees:∀y∈sc.names,y.2 = .free->on.lookup y.1=some .cell\/on.lookup y.1=some .free
 len:ix.length=N'.length
 slot:∀(i j:Nat) (y:Str),ix[i]? = some (some j)->N'[i]? = some y->N[j]? = some y/\sc.names.lookup y=some .free
theorem lP.of {on:List (Str×NameKind)}{N:List Str}{sc:Scope}{N':List Str}{ix:List (Option Nat)}(h:qG on N sc N' ix=true):lP on N sc N' ix:=by
 unfold qG at h
 rw[EC,EC,EC] at h
 obtain ⟨⟨⟨h1,h2⟩,h3⟩,h4⟩:=h
 rw[F2] at h2 h4
 refine ⟨of_decide_eq_true h1,λy hy e =>?_,λy hy e =>?_,λy hy e =>?_,of_decide_eq_true h3,λi j y e1 e2 =>?_⟩
 ·have q:=h2 y hy
  rw[e] at q
  exact of_decide_eq_true q
 ·have q:=h2 y hy
  rw[e] at q
  cases q
 ·have q:=h2 y hy
  rw[e] at q
  exact ((Bool.or_eq_true _ _).mp q).imp of_decide_eq_true of_decide_eq_true
 ·have q:=h4 (some j,y) (Dp (i:=i) (by rw[Jy];exact ⟨e1,e2⟩))
  dsimp only at q
  rw[EC] at q
  exact ⟨of_decide_eq_true q.1,of_decide_eq_true q.2⟩
theorem j8 {α β:Type}(f:α -> β -> β)(b:α -> β -> Sem (ForInStep β)):∀(l:List α) (c:β),(∀x∈l,∀d,b x d=pure (.yield (f x d)))->forIn l c b=pure (l.foldl (λd x=>f x d) c)
 | [],c,_=>rfl
 | x :: l,c,h=>by
  rw[Kv,h x DA,pure_bind]
  exact j8 f b l (f x c) λy hy=>h y (DB _ hy)
def ba (env:Env)(l:List (Str×NameKind))(c:List (Str×Addr)):List (Str×Addr) :=
 l.foldl (λd y=>if y.2 = .free then (y.1,(env.cells.lookup y.1).getD 0) :: d else d) c
theorem sJ {sc:Scope}{env:Env}(h:∀y∈sc.names,y.2 = .free->∃c,env.cells.lookup y.1=some c):closureFor sc env=pure (ba env sc.names []):=by
 simp only[closureFor]
 unfold ba
 rw[j8 (λy d=>if y.2 = .free then (y.1,(env.cells.lookup y.1).getD 0) :: d else d)]
 ·rfl
 ·rintro ⟨n,k⟩ hy d
  by_cases hk:k = .free
  ·subst hk
   obtain ⟨c,e⟩:=h _ hy rfl
   have e':env.cells.lookup n=some c:=e
   simp only[beq_self_eq_true,if_true,cellOf,e',Option.getD_some]
   rfl
  ·have hb:(k == NameKind.free)=false:=by simpa using hk
   simp only[hb,DJ,if_false,hk]
theorem dH {env:Env}{y:Str}{c:Addr}:∀(l:List (Str×NameKind)) (d:List (Str×Addr)),(∀z∈l,z.2 = .free->∃c,env.cells.lookup z.1=some c)->(ba env l d).lookup y=some c →
  d.lookup y=some c\/env.cells.lookup y=some c
 | [],d,_,h =>.inl h
 | (n,k) :: l,d,hf,h=>by
  have h':(ba env l (if k = .free then (n,(env.cells.lookup n).getD 0) :: d else d)).lookup y=some c:=h
  have ih:=dH l _ (λz hz=>hf z (DB _ hz)) h'
  by_cases hk:k = .free
  ·subst hk
   rw[if_pos rfl] at ih
   rcases ih with q | q
   ·rw[HJ] at q
    cases hx:(y == n) with
    | true =>
     rw[hx] at q
     obtain ⟨c',e⟩:=hf (n,.free) DA rfl
     have e':env.cells.lookup n=some c':=e
     have q':some ((env.cells.lookup n).getD 0)=some c:=q
     rw[e'] at q'
     have en:y=n:=eq_of_beq hx
     rw[en,e']
     exact .inr q'
    | false =>
     rw[hx] at q
     exact .inl q
   ·exact .inr q
  ·rw[if_neg hk] at ih
   exact ih
theorem fw {env:Env}{y:Str}:∀(l:List (Str×NameKind)) (d:List (Str×Addr)),((y,NameKind.free)∈l\/∃c,d.lookup y=some c)->∃c,(ba env l d).lookup y=some c
 | [],d,h=>by
  rcases h with h | h
  ·cases h
  ·exact h
 | (n,k) :: l,d,h=>by
  show ∃c,(ba env l (if k = .free then (n,(env.cells.lookup n).getD 0) :: d else d)).lookup y=some c
  refine fw l _ ?_
  have old:(∃c,d.lookup y=some c)->∃c,(if k = .free then (n,(env.cells.lookup n).getD 0) :: d else d).lookup y=some c:=λ⟨c,e⟩=>by
   by_cases hk:k = .free
   ·rw[if_pos hk,HJ]
    cases hx:(y == n) with
    | true=>exact ⟨_,rfl⟩
    | false=>exact ⟨c,e⟩
   ·rw[if_neg hk];exact ⟨c,e⟩
  rcases h with h | h
  ·rcases Dx.mp h with q | q
   ·cases q
    rw[if_pos rfl,HJ,beq_self_eq_true]
    exact .inr ⟨_,rfl⟩
   ·exact .inl q
  ·exact .inr (old h)
theorem lQ {c:Str->NameKind->Bool}{y:Str}:∀l:List (Str×NameKind),(l.map λz=>if c z.1 z.2=true then (z.1,NameKind.cell) else (z.1,z.2)).lookup y=(l.lookup y).map λk=>if c y k=true then NameKind.cell else k
 | []=>rfl
 | (n,k) :: l=>by
  have ih:=lQ (c:=c) (y:=y) l
  rw[DV]
  have e:(if c n k=true then (n,NameKind.cell) else (n,k))=(n,if c n k=true then NameKind.cell else k):=by split <;> rfl
  show List.lookup y ((if c n k=true then (n,NameKind.cell) else (n,k)) :: _)=_
  rw[e,HJ,HJ]
  cases hx:(y == n) with
  | true =>
   have en:y=n:=eq_of_beq hx
   subst en
   rfl
  | false=>exact ih
def blk (X:Cx)(sc:Scope)(cl:List (Str×Addr))(C:Addr)(N':List Str)(s:Dg)(H:Hp)(fp:List Addr):Cx :=
 { X with N:=N',s₀:=s,H₀:=H,env:=compEnvC sc cl C X.env,outer:=X.stack,ex:=fp,fn:=λ_=>false,pn:=[],xe:=λ_ _=>False }
def PF (X:Cx)(ifs:List Expr)(t:TT):Prop :=
  ∀(pins:List (Addr×Obj)) (s:Dg) (σ:St) (H:Hp) (Q:Bool->Hp->Prop),Inv X pins σ H s->t σ H Q →
    DI (DS X.prog X.w) X.A (forIn ifs true λc r=>if r=true then do let ok ← isTrue c X.env (eval c X.env);pure (ForInStep.yield ok) else pure (ForInStep.yield r)) (TP X pins σ Q) X.xe s
theorem de {X:Cx}:PF X [] (λ_ H Q=>Q true H):=λ_ _ _ H _ I h=>wpAny_tests_nil ⟨H,I,h⟩
theorem fA {X:Cx}{c:Expr}{t:TT}(h:PT X c t):PF X [c] t:=λpins s σ H Q I q=>wpAny_tests_one (h pins s σ H Q I q)
def inner (ix:List (Option Nat))(σ:St):St:=ix.map λo=>match o with | none=>none | some j=>(σ[j]?).join
def iU (J:It)(g:TG)(tc:TT)(te:TE)(τ:St)(Q:VK)(H1:Hp):Prop:=∃W:Nat->Nat->St->List V->Hp->Prop,(∃m,W 0 m τ [] H1)/\∀i m τ ys H,W i m τ ys H →
 (J.stop i H/\ys.length<=Dm/\∀l,H l=none->Q (.ref l) (upd H l (.lst ys))) ∨
 (J.go i H/\∀x H',J.yld i H x H'->g x τ H' λτ2 H2=>tc τ2 H2 λb H3=>if b=true then te τ2 H3 λy H4=>ys.length<Dm/\∃m',m'<m/\W (i+1) m' τ2 (ys++[y]) H4 else ∃m',m'<m/\W (i+1) m' τ2 ys H3)
def xA (ix:List (Option Nat))(wi:TI)(g:TG)(tc:TT)(te:TE):TE:=λσ H Q=>wi σ H λJ H1=>iU J g tc te (inner ix σ) Q H1
section
variable  {X:Cx}{sc:Scope}{N':List Str}{ix:List (Option Nat)}{pins:List (Addr×Obj)}{σ:St}{H:Hp}{s:Dg}
theorem Bx (I:Inv X pins σ H s)(K:lP X.env.scope.names X.N sc N' ix){C:Addr}{fp:List Addr}(hC:s.heap.objs.size<=C)(f:∀b∈fp,iM X pins H b)(fl:∀b∈fp,b<s.heap.objs.size) :
  (blk X sc (ba X.env sc.names []) C N' s H fp).Ok:=by
 have hcl:∀y∈sc.names,y.2 = .free->∃c,X.env.cells.lookup y.1=some c:=λy hy e=>I.ok.has y.1 (K.frees y hy e)
 have up:∀y c,(ba X.env sc.names []).lookup y=some c->X.env.cells.lookup y=some c:=λy c e=>by
  rcases dH sc.names [] hcl e with q | q
  ·cases q
  ·exact q
 have nfs:∀b∈fp,b∉frs X.stack:=λb hb z=>by
  rcases Dx.mp (I.pq b z) with q | q
  ·exact (f b hb).2.1 q
  ·exact (f b hb).2.2.1 q
 refine ⟨I.ok.mod,K.kind,I.ok.glob,I.ok.blt,hC,λy z c h1 h2=>I.ok.inj y z c (up _ _ h1) (up _ _ h2),λy hy =>?_,(λy c h=>nomatch h),I.ok.hd,I.ok.frames,.inl rfl,λb hb =>?_,λb o e=>I.bs b o e,DU I.ok.bsz I.sz,λb o e hb =>?_,nfs,I.stack,I.t7⟩
 ·have hy':(relabel sc X.env).names.lookup y=some .cell\/(relabel sc X.env).names.lookup y=some .free:=hy
  have em:=lQ (c:=λn k=>k == .free && X.env.scope.kind == .function && X.env.kindOf n == some .cell) (y:=y) sc.names
  have em':(relabel sc X.env).names.lookup y=_:=em
  rw[em'] at hy'
  cases hq:sc.names.lookup y with
  | none=>rw[hq] at hy';rcases hy' with q | q <;> cases q
  | some k =>
   have km:=j7 hq
   have hk:k = .free:=by
    rw[hq] at hy'
    simp only[GH,Option.some.injEq] at hy'
    by_cases hc:(k == .free && X.env.scope.kind == .function && X.env.kindOf y == some .cell)=true
    ·rw[EC,EC] at hc
     exact by simpa using hc.1.1
    ·rw[if_neg hc] at hy'
     rcases hy' with q | q
     ·exact absurd q (K.nocell _ km)
     ·exact q
   subst hk
   exact fw sc.names [] (.inl km)
 ·exact ⟨Dw (DC (fl b hb) hC),λy c e=>(f b hb).2.2.2.2.1 y c (up y c e)⟩
 ·rcases (f b hb).2.2.2.1 with q | q
  ·exact I.ok.noex b o e q
  ·exact absurd (DC (Ds e) (DU I.ok.bsz q)) (Fe _)
theorem zz (I:Inv X pins σ H s)(K:lP X.env.scope.names X.N sc N' ix){C:Addr}{fp:List Addr}(hC:s.heap.objs.size<=C)(f:∀b∈fp,iM X pins H b)(fl:∀b∈fp,b<s.heap.objs.size)
  {h1:Heap} {t:Nat} {m:Str->Option C9} (k:∀b o,s.heap.get? b=some o->h1.get? b=some o) (ns:h1.Ns C m) :
  Inv (blk X sc (ba X.env sc.names []) C N' s H fp) [] (inner ix σ) H { s with heap:=h1,toks:=t }:=by
 have hcl:∀y∈sc.names,y.2 = .free->∃c,X.env.cells.lookup y.1=some c:=λy hy e=>I.ok.has y.1 (K.frees y hy e)
 have up:∀y c,(ba X.env sc.names []).lookup y=some c->X.env.cells.lookup y=some c:=λy c e=>by
  rcases dH sc.names [] hcl e with q | q
  ·cases q
  ·exact q
 refine ⟨Bx I K hC f fl,rfl,I.bare,Un.kept k,⟨m,ns,λi y v e1 e2 e3 =>?_⟩,λy c e =>?_,I.hok.fresh hC,λy c e=>I.freeC y c (up y c e),(λp hp=>nomatch hp),I.hok.kept k,?_⟩
 ·have e2':(ix.map λo=>match o with | none=>none | some j=>(σ[j]?).join)[i]? = some (some v):=e2
  rw[Dq] at e2'
  cases hi:ix[i]? with
  | none=>rw[hi] at e2';cases e2'
  | some o =>
   cases o with
   | none=>rw[hi] at e2';cases e2'
   | some j =>
    rw[hi] at e2'
    have e4:(σ[j]?).join=some v:=DW e2'
    have e5:σ[j]? = some (some v):=by
     cases hj:σ[j]? with
     | none=>rw[hj] at e4;cases e4
     | some z=>rw[hj] at e4;rw[show z=some v from e4]
    obtain ⟨n1,n2⟩:=K.slot i j y hi e1
    have mem:=j7 n2
    have kc:X.env.kindOf y=some .cell\/X.env.kindOf y=some .free:=K.frees _ mem rfl
    obtain ⟨m',_,hl⟩:=I.loc
    obtain ⟨u,r,l⟩:=hl j y v n1 e5 (.inr kc)
    refine ⟨u,r,?_⟩
    rcases l with ⟨q,_⟩ | ⟨_,c,q,z⟩
    ·rcases kc with kc | kc <;> (rw[kc] at q;cases q)
    ·obtain ⟨c',hc'⟩:=fw (env:=X.env) (y:=y) sc.names [] (.inl mem)
     have:=up y c' hc'
     rw[q] at this
     cases this
     refine .inr ⟨?_,c,hc',z.keeps k⟩
     have em:=lQ (c:=λn k=>k == .free && X.env.scope.kind == .function && X.env.kindOf n == some .cell) (y:=y) sc.names
     have em':(relabel sc X.env).names.lookup y=_:=em
     rcases kc with kc | kc
     ·left
      show (relabel sc X.env).names.lookup y=some .cell
      rw[em',n2]
      simp only[GH,kc,I.ok.kind]
      rfl
     ·right
      show (relabel sc X.env).names.lookup y=some .free
      rw[em',n2]
      simp only[GH,kc,I.ok.kind]
      rfl
 ·obtain ⟨v,z⟩:=I.cell y c (up y c e)
  exact ⟨v,z.keeps k⟩
 ·show (ix.map _).length=N'.length
  rw[C6]
  exact K.len
end
theorem sL {prog:DH}{w:Eb}{A:Ep}{R:Result->Dg->Prop}{s:Dg}{elt target iter:Expr}{ifs:List Expr}{sc:Scope}{pos:Pos}{it acc:C9}{env:Env}(J:Nat->Dg->Prop)
    (turn:∀n s,J n s->DI (DS prog w) A (pyNext it) (λr s1=>match r with
      | none=>R (.ok .next) s1
      | some v=>DI (DS prog w) A (letOwnedTupleGo target it v) (λ_ s2=>DI (DS prog w) A (assign target env v) (λ_ s3 =>
          DI (DS prog w) A (forIn ifs true λc r=>if r=true then do let ok ← isTrue c env (eval c env);pure (ForInStep.yield ok) else pure (ForInStep.yield r)) (λok s4 =>
            if ok=true then DI (DS prog w) A (eval elt env) (λx s5=>DI (DS prog w) A (call (.builtin "list.append") [acc,x]) (λ_ s6=>∃m,m<n/\J m s6) (λ_ _=>False) s5) (λ_ _=>False) s4
            else ∃m,m<n/\J m s4) (λ_ _=>False) s3) (λ_ _=>False) s2) (λ_ _=>False) s1) (λ_ _=>False) s)
    (n:Nat) (h:J n s):Ji (DS prog w) A (.compLoop (.ListComp elt [⟨target,iter,ifs,0⟩] sc pos) 0 it acc env) R s:=by
  refine codeAny_loop rfl J (λk t q =>?_) n h
  show DI _ A (Sem.onRaise (compTurn (.ListComp elt [⟨target,iter,ifs,0⟩] sc pos) 0 it acc env) (λx=>do noteFrame x env;theTreesLotGoes x)) _ _ t
  refine wpAny_noted ?_
  rw[compTurn_list]
  have no:∀{E:C9->Dg->Prop} (x:C9) (t:Dg),False->E x t:=λ_ _ z=>z.elim
  refine C5 (wpAny_standAt (C5 (Gi (turn k t q) (λr s1 h1 =>?_) no)))
  cases r with
  | none=>exact De h1
  | some v =>
    refine C5 (Gi h1 (λ_ s2 h2=>C5 (Gi h2 (λ_ s3 h3=>C5 (Gi h3 (λok s4 h4 =>?_) no)) no)) no)
    cases ok with
    | false=>exact De ⟨rfl,h4⟩
    | true=>exact C5 (C5 (Gi h4 (λx s5 h5=>C5 (Gi h5 (λ_ s6 h6=>De (De ⟨rfl,h6⟩)) no)) no))
section
variable  {X:Cx}
def zA (X:Cx)(pins:List (Addr×Obj))(σ:St)(Q:VK)(use:Option (C9->Sem Unit))(Q2:C9->Dg->Prop):Prop :=
 ∀(s4:Dg) (H3:Hp) (acc C:Addr) (ys:List V) (oC:Obj),Inv X (pins++[(C,oC)]) σ (upd H3 acc (.lst ys)) s4->(∃m,s4.heap.Ns C m)->X.s₀.heap.objs.size<=C->(∀x c,X.env.cells.lookup x=some c->c≠C)->(∀p∈X.pn++pins,p.1≠C)->Q (.ref acc) (upd H3 acc (.lst ys)) →
  compPost (DS X.prog X.w) X.A X.xe use Q2 (.ref acc) C (.ok .next) s4
theorem nW {elt target iter:Expr}{ifs:List Expr}{sc:Scope}{pos ps:Pos}{wi:TI}{g:TG}{tc:TT}{te:TE}{N':List Str}{ix:List (Option Nat)}{use:Option (C9->Sem Unit)}{Q2:C9->Dg->Prop}
  {pins:List (Addr×Obj)} {s:Dg} {σ:St} {H:Hp} {Q:VK}
  (hcalm:X.calm=true) (hi:PI X target iter wi) (hk:qG X.env.scope.names X.N sc N' ix=true)
  (hg:∀cl C s H fp,PG (blk X sc cl C N' s H fp) target g) (hc:∀cl C s H fp,PF (blk X sc cl C N' s H fp) ifs tc) (he:∀cl C s H fp,PE (blk X sc cl C N' s H fp) elt te)
  (hs:∀x,foldedSetIterable iter X.env x=pure x) (fin:zA X pins σ Q use Q2) (I:Inv X pins σ H s) (h:xA ix wi g tc te σ H Q) :
  DI (DS X.prog X.w) X.A (comprehension (.ListComp elt [⟨target,iter,ifs,0⟩] sc pos) sc X.env ps (newList []) false (eval iter X.env) use) Q2 X.xe s:=by
 have K:=lP.of hk
 have hcl:∀y∈sc.names,y.2 = .free->∃c,X.env.cells.lookup y.1=some c:=λy hy e=>I.ok.has y.1 (K.frees y hy e)
 refine wpAny_comprehension_free rfl hs (sJ hcl) K.kind K.locs (thn (hi pins s σ H _ I h) λv s1 h1=>thn h1 λitv s2 h2 =>?_)
 obtain ⟨it,fp,tn,J,H2,e,I2,T,st2,f2,W,⟨m0,w0⟩,turn⟩:=h2
 subst e
 refine Ec (wpAny_newFunctionEnv K.nocell (by intro y hy;simp at hy) (λh1 ns1 sb1 =>?_) K.kind)
 dsimp only at ns1 sb1 ⊢
 generalize hP:s2.heap.push { cls :=.type "list",dict:=none,data :=.seq ([]:List C9).toArray }=G at ns1 sb1 ⊢
 have sG:G.objs.size=s2.heap.objs.size+1:=by rw[<- hP,E5]
 have fl:∀b∈fp,b<s2.heap.objs.size:=λb hb=>by
  obtain ⟨o,e,_⟩:=T.obj _ _ st2 b hb
  exact Ds e
 have hC:s2.heap.objs.size<=G.objs.size:=by rw[sG];exact GQ _
 have aC:s2.heap.objs.size≠G.objs.size:=by rw[sG];exact Dw (Fc _)
 have old:∀b o,s2.heap.get? b=some o->h1.get? b=some o:=λb o e=>by
  have lt:=Ds e
  have ne:b≠G.objs.size:=Dw (DC lt hC)
  rw[sb1.2 b ne]
  exact C7 _ (hP ▸ C7 _ e)
 have accO:h1.PlainList s2.heap.objs.size #[]:=⟨_,by
  rw[sb1.2 _ aC]
  exact C7 _ (hP ▸ Dn _ rfl)⟩
 have IB:=zz (t:=s2.toks+([]:List (Str×C9)).length) I2 K hC f2 fl old ns1
 have up:∀y c,(ba X.env sc.names []).lookup y=some c->X.env.cells.lookup y=some c:=λy c e=>by
  rcases dH sc.names [] hcl e with q | q
  ·cases q
  ·exact q
 have accNotCell:∀y c,(ba X.env sc.names []).lookup y=some c->c≠s2.heap.objs.size:=λy c e z=>by
  obtain ⟨v,q⟩:=I2.cell y c (up y c e)
  exact absurd q.lt (by rw[z];exact Fe _)
 have accFs:s2.heap.objs.size∉frs X.stack:=λz=>by
  rcases Dx.mp (I2.pq _ z) with q | q
  ·exact absurd I2.lt (by rw[<- q];exact Fe _)
  ·exact I2.Be (Dd _) q
 have accFp:s2.heap.objs.size∉fp:=λz=>absurd (fl _ z) (Fe _)
 have stat:∀{H':Hp} {ob:Obj},(∀b∈fp,H' b=none)->∀b∈fp,iM (blk X sc (ba X.env sc.names []) G.objs.size N' s2 H2 fp) [(s2.heap.objs.size,ob)] H' b:=λ{H' ob} hn b hb=>by
  refine ⟨hn b hb,Dw (DC (fl b hb) hC),IB.ok.exfs b hb,.inl hb,λy c e=>(f2 b hb).2.2.2.2.1 y c (up y c e),λp hp z =>?_⟩
  have ep:p=(s2.heap.objs.size,ob):=by simpa [blk] using hp
  subst ep
  exact accFp (by rw[show s2.heap.objs.size=b from z];exact hb)
 have accPin:∀{pl:List (Addr×Obj)} {σ':St} {H':Hp} {s':Dg} {its:Array C9} {n:Nat},Inv (blk X sc (ba X.env sc.names []) G.objs.size N' s2 H2 fp) pl σ' H' s'->s'.heap.get? s2.heap.objs.size=some { cls :=.type "list",data :=.seq its n } →
   H' s2.heap.objs.size=none->Inv (blk X sc (ba X.env sc.names []) G.objs.size N' s2 H2 fp) [(s2.heap.objs.size,{ cls :=.type "list",data :=.seq its n })] σ' H' s':=λ{pl σ' H' s' its n} J' e nn=>J'.iL λp hp=>by
  have ep:p=(s2.heap.objs.size,({ cls :=.type "list",data :=.seq its n }:Obj)):=by simpa [blk] using hp
  subst ep
  exact ⟨e,nn,aC,accFs,λv z=>nomatch z⟩
 have loop:Ji (DS X.prog X.w) X.A (.compLoop (.ListComp elt [⟨target,iter,ifs,0⟩] sc pos) 0 (.ref it) (.ref s2.heap.objs.size) (compEnvC sc (ba X.env sc.names []) G.objs.size X.env))
   (compPost (DS X.prog X.w) X.A X.xe use Q2 (.ref s2.heap.objs.size) G.objs.size) { s2 with heap:=h1,toks:=s2.toks+([]:List (Str×C9)).length }:=by
  refine sL (λn s'=>∃i ys its nn σ' H',Inv (blk X sc (ba X.env sc.names []) G.objs.size N' s2 H2 fp) [(s2.heap.objs.size,{ cls :=.type "list",data :=.seq its nn })] σ' H' s'/\Vals ys its.toList/\tn i s'.heap/\(∀b∈fp,H' b=none)/\W i n σ' ys H')
   (λn s3 h3 =>?_) m0 ?_
  ·obtain ⟨i,ys,its,nn,σ3,H3,I3,r3,st3,fr3,w3⟩:=h3
   obtain ⟨e3,a3,_,_,_⟩:=I3.pin (s2.heap.objs.size,{ cls :=.type "list",data :=.seq its nn }) (by simp[blk])
   rcases turn i n σ3 ys H3 w3 with ⟨stop,zl,q3⟩ | ⟨go,step⟩
   ·refine thn (T.done (blk X sc (ba X.env sc.names []) G.objs.size N' s2 H2 fp) rfl rfl rfl hcalm i _ s3 σ3 H3 _ I3 (stat fr3) st3 stop) λr s4 ⟨hr,I4⟩ =>?_
    subst hr
    obtain ⟨e4,a4,_,_,_⟩:=I4.pin (s2.heap.objs.size,{ cls :=.type "list",data :=.seq its nn }) (by simp[blk])
    obtain ⟨m4,n4,_⟩:=I4.loc
    obtain ⟨oC,es4,ep4,c4,d4,r4⟩:=id n4
    have ltA:∀b o,s2.heap.get? b=some o->b≠s2.heap.objs.size:=λb o e=>Dw (Ds e)
    have B:=I4.base
    have hok:HOk X.prog X.w (upd H3 s2.heap.objs.size (.lst ys)) s4.heap:=λb o e=>by
     by_cases hb:b=s2.heap.objs.size
     ·subst hb
      rw[ag] at e
      cases e
      exact ⟨zl,its.toList,nn,r3,e4⟩
     ·rw[az hb] at e
      refine (I4.hok b o e).stay (λc u hc q=>q) (λc q =>?_) (λc xs q =>?_)
      ·rw[az (aA q a4)];exact q
      ·rw[az (aA q a4)];exact q
    have I5:Inv X pins σ (upd H3 s2.heap.objs.size (.lst ys)) s4:=by
     refine I2.Ce (ch:=fp) I4.os ⟨λb o e n hb hx=>B.keep b o e n hb hx,λb o e n hb hx=>B.slot b o e n hb hx,λb o e n hx =>?_,λb o e hx=>B.there b o e hx,λb xs e =>?_,λb o u e =>?_,λb ps e =>?_⟩ hok I4.bare (λb hb =>?_)
     ·rw[az (ltA b o e)];exact B.free b o e n hx
     ·have q:=B.tups b xs e
      rw[az (aA q a4)];exact q
     ·have q:=B.frzs b o u e
      rw[az (aA q a4)];exact q
     ·obtain ⟨more,q⟩:=B.tbls b ps e
      exact ⟨more,by rw[az (aA q a4)];exact q⟩
     ·obtain ⟨g0,g1,g2,g3,g4,g5⟩:=f2 b hb
      exact ⟨g3,g1,g4,g5⟩
    have cL:G.objs.size≠X.env.locals:=FV (DC I2.lt hC)
    have I6:Inv X (pins++[(G.objs.size,oC)]) σ (upd H3 s2.heap.objs.size (.lst ys)) s4:=I5.iL λp hp=>by
     rcases Dh.mp hp with q | q
     ·exact I5.pin p (DE _ q)
     ·have ep:p=(G.objs.size,oC):=by simpa using q
      subst ep
      exact ⟨c4,by rw[az (EB aC)];exact I4.free,cL,I2.Be hC,λv z=>by rw[d4] at z;cases z⟩
    refine fin s4 H3 s2.heap.objs.size G.objs.size ys oC I6 ⟨m4,n4⟩ (DU I2.sz hC) (λy c e z =>?_) (λp hp z =>?_) (q3 _ a4)
    ·obtain ⟨v,q⟩:=I2.cell y c e
     exact absurd (DC q.lt hC) (by rw[z];exact Fe _)
    ·exact absurd (DC (Ds (I2.pin p hp).1) hC) (by rw[z];exact Fe _)
   ·refine thn (T.item (blk X sc (ba X.env sc.names []) G.objs.size N' s2 H2 fp) rfl rfl rfl hcalm i _ s3 σ3 H3 _ I3 (stat fr3) st3 go) λr s4 ⟨u,hr,h4⟩ =>?_
    subst hr
    refine thn h4 λ_ s5 ⟨x,H5,I5,r5,y5,st5,fr5⟩ =>?_
    have I5':=I5.pinned (stat fr5) (T.obj _ _ st5)
    refine thn (hg _ _ _ _ _ _ s5 σ3 H5 x u _ I5' r5 (step x H5 y5)) λ_ s6 ⟨σ6,H6,I6,q6⟩ =>?_
    refine thn (hc _ _ _ _ _ _ s6 σ6 H6 _ I6 q6) λok s7 ⟨H7,I7,q7⟩ =>?_
    have back:∀{σ7:St} {H7:Hp} {s7:Dg},Inv (blk X sc (ba X.env sc.names []) G.objs.size N' s2 H2 fp) ([(s2.heap.objs.size,{ cls :=.type "list",data :=.seq its nn })]++il fp s5.heap) σ7 H7 s7->tn (i+1) s7.heap/\∀b∈fp,H7 b=none:=λJ7 =>
     ⟨T.keep _ _ _ st5 λb hb o e=>(J7.pin (b,o) (DE _ (DE _ (dX hb e)))).1,λb hb=>by
      obtain ⟨o,e,d⟩:=T.obj _ _ st5 b hb
      exact (J7.pin (b,o) (DE _ (DE _ (dX hb e)))).2.1⟩
    cases ok with
    | false =>
     rw[if_neg (by decide)] at q7
     obtain ⟨m',lm,w7⟩:=q7
     show ∃m,m<n/\_
     exact ⟨m',lm,i+1,ys,its,nn,σ6,H7,I7.eJ,r3,(back I7).1,(back I7).2,w7⟩
    | true =>
     rw[if_pos rfl] at q7
     refine thn (he _ _ _ _ _ _ s7 σ6 H7 _ I7 q7) λz s8 ⟨y,H8,I8,r8,lz,m',lm,w8⟩ =>?_
     obtain ⟨e8,a8,_,_,_⟩:=I8.pin (s2.heap.objs.size,{ cls :=.type "list",data :=.seq its nn }) (by simp[blk])
     have sz:its.size<=Dm:=by
      have l:ys.length=its.size:=r3.length.trans Dl
      rw[<- l]
      exact Gv lz
     refine wpAny_list_append_plain ⟨nn,e8⟩ (λh' pl' sb' =>?_) sz
     obtain ⟨n9,e9⟩:=pl'
     have I8p:Inv (blk X sc (ba X.env sc.names []) G.objs.size N' s2 H2 fp) (il fp s5.heap) σ6 H8 s8:=I8.iL λp hp=>I8.pin p (DE _ (DE _ hp))
     have I9:=I8p.turned (it:=s2.heap.objs.size) (h':=h') (t':=s8.toks) (λb o ne e=>by rw[sb'.2 b ne];exact e) a8 aC (.inr (Dd _)) (λy c e=>accNotCell y c e) (λp hp z=>by
      have hp':p∈il fp s5.heap:=by simpa [blk] using hp
      exact accFp (by rw[<- z];exact (nM hp').1))
     have b9:tn (i+1) h'/\∀b∈fp,H8 b=none :=
      ⟨T.keep _ _ _ st5 λb hb o e=>(I9.pin (b,o) (DE _ (dX hb e))).1,(back I8).2⟩
     exact ⟨m',lm,i+1,ys++[y],its.push z,n9,σ6,H8,accPin I9 e9 a8,by rw[FP];exact r3.append (.cons r8 .nil),b9.1,b9.2,w8⟩
  ·obtain ⟨n0,e0⟩:=accO
   exact ⟨0,[], #[],n0,_,H2,accPin IB e0 (I2.hok.fresh (Dd _)),.nil,T.keep _ _ _ st2 λb hb o e=>old b o e,λb hb=>(f2 b hb).1,w0⟩
 exact codeAny_compStart_list loop (T.self _ 0 _ _ _ (T.keep _ _ _ st2 λb hb o e=>old b o e) loop)
theorem bY {elt target iter:Expr}{ifs:List Expr}{sc:Scope}{pos:Pos}{wi:TI}{g:TG}{tc:TT}{te:TE}(N':List Str)(ix:List (Option Nat))
  (hcalm:X.calm=true) (hi:PI X target iter wi) (hk:qG X.env.scope.names X.N sc N' ix=true)
  (hg:∀cl C s H fp,PG (blk X sc cl C N' s H fp) target g) (hc:∀cl C s H fp,PF (blk X sc cl C N' s H fp) ifs tc) (he:∀cl C s H fp,PE (blk X sc cl C N' s H fp) elt te)
  (hs:∀x,foldedSetIterable iter X.env x=pure x:=by intro _;rfl):PE X (.ListComp elt [⟨target,iter,ifs,0⟩] sc pos) (xA ix wi g tc te):=by
 intro pins s σ H Q I h
 rw[eval_ListComp]
 refine nW hcalm hi hk hg hc he hs (λs4 H3 acc C ys oC I4 ns hC hc hp q =>?_) I h
 obtain ⟨m,ns⟩:=ns
 refine ⟨m,ns,λh' sb=>⟨.ref acc,_,?_,rfl,q⟩⟩
 obtain ⟨_,n0,n1,n2,_⟩:=I4.pin (C,oC) (by simp)
 exact (I4.eJ).turned (it:=C) (h':=h') (t':=s4.toks) (λb o ne e=>by rw[sb.2 b ne];exact e) n0 n1 (.inr hC) hc hp
theorem cG {elt target iter:Expr}{ifs:List Expr}{sc:Scope}{pos pos' spos:Pos}{wi:TI}{g:TG}{tc:TT}{te:TE}{i:Nat}{x:Str}(N':List Str)(ix:List (Option Nat))
    (hcalm:X.calm=true) (hN:X.N.Nodup) (hx:X.N[i]? = some x) (hl:X.env.scope.names.lookup x=some .local)
    (hi:PI X target iter wi) (hk:qG X.env.scope.names X.N sc N' ix=true)
    (hg:∀cl C s H fp,PG (blk X sc cl C N' s H fp) target g) (hc:∀cl C s H fp,PF (blk X sc cl C N' s H fp) ifs tc) (he:∀cl C s H fp,PE (blk X sc cl C N' s H fp) elt te)
    (hsw:swapsWith (.ListComp elt [⟨target,iter,ifs,0⟩] sc pos) (some (.Name x pos')) spos.line X.env=pure true:=by rfl)
    (hs:∀x,foldedSetIterable iter X.env x=pure x:=by intro _;rfl):PS X (.Assign [.Name x pos'] (.ListComp elt [⟨target,iter,ifs,0⟩] sc pos) spos) (Bh (xA ix wi g tc te) (eA i)):=by
  intro pins s σ H D I h
  rw[exec_Assign_Name_used _ _ _ _ hsw]
  refine C5 (wpAny_standAt (C5 ?_))
  show DI _ X.A (do let _ ← comprehension (.ListComp elt [⟨target,iter,ifs,0⟩] sc pos) sc X.env _ (newList []) false (eval iter X.env) (some (assign (.Name x pos') X.env))) _ _ s
  refine C5 (Gi (nW (Q:=λv H1=>D.nx (σ.set i (some v)) H1) (Q2:=λ_ s'=>SP X pins D .next s') hcalm hi hk hg hc he hs (λs4 H3 acc C ys oC I4 ns hC hc hp q =>?_) I h) (λ_ s' q=>De (De q)) λ_ _ e=>e)
  obtain ⟨m,ns⟩:=ns
  obtain ⟨e0,n0,n1,n2,_⟩:=I4.pin (C,oC) (by simp)
  show DI _ X.A (assign (.Name x pos') X.env (.ref acc)) _ _ s4
  refine thn ((ao (i:=i) hN hx (.inl hl) (.inr hl)) (pins++[(C,oC)]) s4 σ _ (.ref acc) (.ref acc) _ I4 rfl q) λ_ s5 ⟨σ5,H5,I5,q5⟩ =>?_
  obtain ⟨e5,k0,k1,k2,_⟩:=I5.pin (C,oC) (by simp)
  obtain ⟨o',es',ep',c',r'⟩:=ns
  have e':=e0.symm.trans c'
  cases e'
  refine ⟨m,⟨_,es',ep',e5,r'⟩,λh' sb=>⟨σ5,H5,?_,q5⟩⟩
  exact (I5.eJ).turned (it:=C) (h':=h') (t':=s5.toks) (λb o ne e=>by rw[sb.2 b ne];exact e) k0 k1 (.inr hC) hc hp
end
section
variable  {X:Cx}
theorem pD {j:Int}(h0:0<j)(h:j<2 ^ 200):j.natAbs.log2<9000:=by
 have h1:j.natAbs<2 ^ 200:=by lia
 have h2:j.natAbs.log2<200:=(Nat.log2_lt (by lia)).mpr h1
 lia
def CC (_ j:Int):Prop:=0<j/\j<2 ^ 200
theorem aF:bL X (.builtin "divmod") (λxs H Q=>∃i j,xs=[.int i,.int j]/\CC i j/\∀p,H p=none->Q (.ref p) (upd H p (.tup [.int (i/j),.int (i%j)]))):=by
 intro pins s σ H xs us Q I r h
 obtain ⟨i,j,rfl,⟨h1,h2⟩,q⟩:=h
 obtain ⟨u,w',rfl,⟨t,rfl⟩,⟨t',rfl⟩⟩:=vals2 r
 refine divmod_int (by lia) ?_ (.inl (PyProof.noPylong_of_log2 (pD h1 h2)))
 rw[Jk i (by lia),Jl i (by lia)]
 refine ⟨.ref s.heap.objs.size,_,?_,rfl,q _ I.fresh⟩
 refine I.laid (λb o e=>C7 _ e) (Dd _) ⟨by simp only[Dz,ER];rw[F8];decide,[.int (i/j) s.toks,.int (i%j) (s.toks+1)],.cons ⟨_,rfl⟩ (.cons ⟨_,rfl⟩ .nil),?_⟩
 exact ⟨_,Dn s.heap rfl,⟨rfl,rfl⟩,0,rfl⟩
def CD (K:Df):R2:=λx y H Q=>∃l b xs zs,x = .ref l/\y = .ref b/\SqL K H l xs/\SqL K H b zs/\xs.length+zs.length<=Dm/\∀p,H p=none->Q (.ref p) (upd H p (.lst (xs++zs)))
theorem bQ:OpR X (binaryOp .Add) (CD X.K):=by
 intro pins s σ H x y v u Q I rx ry h
 obtain ⟨l,b,xs,zs,rfl,rfl,hH,hB,hz,q⟩:=h
 cases rx
 cases ry
 obtain ⟨its,r,e,z⟩:=I.list hH
 obtain ⟨its2,r2,e2,z2⟩:=I.list hB
 obtain ⟨⟨c1,d1,da1,sl1⟩,n,e,k1,k2,k3⟩:=e
 obtain ⟨⟨c2,d2,da2,sl2⟩,n2,e2,g1,g2,g3⟩:=e2
 simp only at k1 k3 g1 g3
 subst k1 k3 g1 g3
 have l1:=r.length
 have l2:=r2.length
 have ea:its.toArray++its2.toArray=(its++its2).toArray:=by simp
 refine KI ⟨_,e,rfl⟩ ⟨_,e2,rfl⟩ noFill_list_add seq_list_add PySem.F.slot_list_add PySem.F.entry_list_add
  (PySem.F.args_list_add_2 _ _) (list_addW l b its.toArray its2.toArray n n2 d1 d2 sl1 sl2 (by rw[Dk,Dk];omega)) ⟨e,e2,?_⟩
 rw[ea]
 exact ⟨.ref _,_,I.CA (t':=s.toks) (r.append r2) (by rw[C8];omega),rfl,q _ I.fresh⟩
theorem qH:bL X (.builtin "isinstance") (λxs H Q=>∃x T t b,xs=[x,.ty T]/\jJ X.K H x t/\PySem.W.kitOne X.K t (.type T)=some b/\Q (.bl b) H):=by
 intro pins s σ H xs us Q I r h
 obtain ⟨x,T,t,b,rfl,ty,e,q⟩:=h
 obtain ⟨u,w',rfl,ru,rw'⟩:=vals2 r
 cases (show w'=E1 T from rw')
 exact vq I ru ty e λtk=>⟨.bl b,H,I.tok tk,rfl,q⟩
end
def qI (k:Nat)(tc:TT)(te:TE)(τ:St)(Pv:Nat->List V->Hp->Prop)(i:Nat)(x:V)(ys:List V)(H:Hp):Prop :=
 ∀(R1:V->Hp->Prop) (R0:Hp->Prop),(∀y H4,Pv (i+1) (ys++[y]) H4->R1 y H4)->(∀H3,Pv (i+1) ys H3->R0 H3)->tc (τ.set k (some x)) H λb H3=>if b=true then te (τ.set k (some x)) H3 R1 else R0 H3
theorem bW {K:Df}{a:Addr}{xs:List V}{k:Nat}{tc:TT}{te:TE}{τ:St}{H:Hp}{Q:VK}(Pv:Nat->List V->Hp->Prop)(h0:Pv 0 [] H)(hz:xs.length<=Dm)
  (hl:∀i ys H,i<=xs.length->Pv i ys H->SqL K H a xs) (hs:∀i x ys H,xs[i]? = some x->ys.length<=i->Pv i ys H->qI k tc te τ Pv i x ys H)
  (hd:∀ys H,ys.length<=xs.length->Pv xs.length ys H->∀l,H l=none->Q (.ref l) (upd H l (.lst ys))) :
  iU (Itl K a) (eA k) tc te τ Q H:=by
 refine ⟨λi m σ ys H=>m=xs.length-i/\i<=xs.length/\(∀x,σ.set k (some x)=τ.set k (some x))/\ys.length<=i/\Pv i ys H,⟨xs.length,by simp,D5 _,λ_=>rfl,Dd _,h0⟩,?_⟩
 rintro i m σ ys H ⟨rfl,hi,hτ,hy,p⟩
 have q:=hl i ys H hi p
 by_cases hlt:i<xs.length
 ·refine .inr ⟨⟨xs,xs[i],q,by simp[hlt]⟩,λx H' y =>?_⟩
  obtain ⟨e,y⟩:=y
  subst e
  show tc (σ.set k (some x)) _ _
  rw[hτ x]
  have hσ:∀z,(τ.set k (some x)).set k (some z)=τ.set k (some z):=λz=>by rw[G9]
  refine hs i x ys _ (y xs q) hy p _ _ (λy4 H4 p4=>⟨by lia,xs.length-(i+1),by lia,rfl,hlt,hσ,by rw[C8,D9];lia,p4⟩) λH3 p3=>⟨xs.length-(i+1),by lia,rfl,hlt,hσ,by lia,p3⟩
 ·have e:i=xs.length:=by lia
  subst e
  exact .inl ⟨⟨xs,q,Dd _⟩,by lia,hd ys H hy p⟩
theorem dA {K:Df}{a:Addr}{xs:List V}{k:Nat}{tc:TT}{te:TE}{τ:St}{H:Hp}{Q:VK}(Pv:Nat->List V->Hp->Prop)(h0:Pv 0 [] H)(hz:xs.length<=Dm)
  (hl:∀i ys H,i<=xs.length->Pv i ys H->SqT K H a xs) (hs:∀i x ys H,xs[i]? = some x->ys.length<=i->Pv i ys H->qI k tc te τ Pv i x ys H)
  (hd:∀ys H,ys.length<=xs.length->Pv xs.length ys H->∀l,H l=none->Q (.ref l) (upd H l (.lst ys))) :
  iU (Itt K a) (eA k) tc te τ Q H:=by
 refine ⟨λi m σ ys H=>m=xs.length-i/\i<=xs.length/\(∀x,σ.set k (some x)=τ.set k (some x))/\ys.length<=i/\Pv i ys H,⟨xs.length,by simp,D5 _,λ_=>rfl,Dd _,h0⟩,?_⟩
 rintro i m σ ys H ⟨rfl,hi,hτ,hy,p⟩
 have q:=hl i ys H hi p
 by_cases hlt:i<xs.length
 ·refine .inr ⟨⟨xs,xs[i],q,by simp[hlt]⟩,λx H' y =>?_⟩
  obtain ⟨e,y⟩:=y
  subst e
  show tc (σ.set k (some x)) _ _
  rw[hτ x]
  have hσ:∀z,(τ.set k (some x)).set k (some z)=τ.set k (some z):=λz=>by rw[G9]
  refine hs i x ys _ (y xs q) hy p _ _ (λy4 H4 p4=>⟨by lia,xs.length-(i+1),by lia,rfl,hlt,hσ,by rw[C8,D9];lia,p4⟩) λH3 p3=>⟨xs.length-(i+1),by lia,rfl,hlt,hσ,by lia,p3⟩
 ·have e:i=xs.length:=by lia
  subst e
  exact .inl ⟨⟨xs,q,Dd _⟩,by lia,hd ys H hy p⟩
theorem j9 {lo:Int}{n:Nat}{k:Nat}{tc:TT}{te:TE}{τ:St}{H:Hp}{Q:VK}(Pv:Nat->List V->Hp->Prop)(h0:Pv 0 [] H)(hz:n<=Dm)
  (hs:∀i ys H,i<n->ys.length<=i->Pv i ys H->qI k tc te τ Pv i (.int (lo+i)) ys H)
  (hd:∀ys H,ys.length<=n->Pv n ys H->∀l,H l=none->Q (.ref l) (upd H l (.lst ys))) :
  iU (Itr lo n) (eA k) tc te τ Q H:=by
 refine ⟨λi m σ ys H=>m=n-i/\i<=n/\(∀x,σ.set k (some x)=τ.set k (some x))/\ys.length<=i/\Pv i ys H,⟨n,by simp,D5 _,λ_=>rfl,Dd _,h0⟩,?_⟩
 rintro i m σ ys H ⟨rfl,hi,hτ,hy,p⟩
 by_cases hlt:i<n
 ·refine .inr ⟨hlt,λx H' y =>?_⟩
  obtain ⟨e,y⟩:=y
  subst e y
  show tc (σ.set k (some (.int (lo+i)))) _ _
  rw[hτ]
  have hσ:∀z,(τ.set k (some (.int (lo+i)))).set k (some z)=τ.set k (some z):=λz=>by rw[G9]
  refine hs i ys _ hlt hy p _ _ (λy4 H4 p4=>⟨by lia,n-(i+1),by lia,rfl,hlt,hσ,by rw[C8,D9];lia,p4⟩) λH3 p3=>⟨n-(i+1),by lia,rfl,hlt,hσ,by lia,p3⟩
 ·have e:i=n:=by lia
  subst e
  exact .inl ⟨Dd _,by lia,hd ys H hy p⟩
structure Cal (P:DH)(w:Eb)(K:Df)(mg:Str->Option C9)(base:Heap)(k:Nat)(x:Str)(ps:List Str)(sp:Sp):Prop where
 ex:∃f fd,cy P w K mg base CX0 k f fd ps sp/\mg x=some (.ref f)/\PySem.W.keepIn K (.ref f)=true/\Binds K fd ps []
theorem aY {X:Cx}{j k:Nat}{x:Str}{ps:List Str}{sp:Sp}{e:Expr}{es:List Expr}{t:TA}{p pos:Pos}(C:Cal X.prog X.w X.K X.mg X.base k x ps sp)(hr:dG j X.A)(hj:k<=j)(hg:Gl X x)(ha:PA X (e :: es) t)
  (hdb:(x == ("__debug__" : Str))=false:=by decide) (he:Em (e :: es) X.env=(false,eval e X.env) :: Em es X.env:=by rfl) (hpl:(Ih pos (Em es X.env)).any (·.1)=false:=by rfl) :
  PE X (.Call (.Name x p) (e :: es) [] pos) (AK sp [] E0 t):=by
 obtain ⟨f,fd,F,m,kp,b⟩:=C.ex
 exact zj F (hr.mono hj) hg m kp b .nil CB ha hdb he hpl
theorem ae {H:Hp}{p:Addr}(h:H p=none)(o:HO):aB H (upd H p o):=λb u q=>by rw[az (aA q h)];exact q
theorem nwZ {H:Hp}{x:Addr}(h:H x=none)(o:HO):∃ H',upd H x o=H'∧aB H H'∧H' x=some o:=⟨_,rfl,ae h o,ag⟩
theorem small {n:Nat}(h:n<=1000):n<=Dm:=Gv (cx h)
section
variable  {X:Cx}
theorem qJ {its:List C9}{bs:List Bool}(h:Vals (bs.map V.bl) its){prog:DH}{w:Eb}{A:Ep}:TruthOf prog w A (λi v=>its.toArray[i]? = some v) (λi=>bs.getD i false):=by
 intro i v s Q E hv q
 have l:=h.length
 rw[C6] at l
 have hi:i<its.length:=by
  rw[DX] at hv
  exact (Di.mp hv).1
 have e:(bs.map V.bl)[i]? = some (.bl (bs.getD i false)):=by
  rw[Dq,Du,Dc (by lia)]
  rfl
 obtain ⟨u,e1,e2⟩:=h.get e
 rw[DX,e1] at hv
 have ev:u=v:=DW hv
 subst ev
 cases (show u=Value.bool _ from e2)
 exact FQ q
theorem all_range (bs:List Bool):((Eo bs.length).all λi=>bs.getD i false)=bs.all id:=by
 rw[FW,F2,F2]
 constructor
 ·intro h x hx
  obtain ⟨i,e⟩:=EG.mp hx
  have hi:i<bs.length:=(Di.mp e).1
  have q:=h i (ET.mpr hi)
  rw[Du,e] at q
  exact q
 ·intro h i hi
  have hi':=ET.mp hi
  rw[Du,Dc hi']
  exact h _ (HK hi')
theorem gf (hc:X.calm=true):bL X (.builtin "all") (λxs H Q=>∃(p:Addr) (bs:List Bool),xs=[.ref p]/\SqL X.K H p (bs.map V.bl)/\Q (.bl (bs.all id)) H):=by
 intro pins s σ H xs us Q I r h
 obtain ⟨p,bs,rfl,hs,q⟩:=h
 obtain ⟨u,rfl,ru⟩:=vals1 r
 cases (show u=DG p from ru)
 obtain ⟨its,rv,pl,hz⟩:=I.list hs
 have l:=rv.length
 rw[C6] at l
 have hpl:p<s.heap.objs.size:=by obtain ⟨o,_,e,_⟩:=pl;exact Ds e
 refine call_all_walk (Hv pl.isList ?_)
 have hd:X.A.in1.handled=none:=I.ok.hd hc
 refine ⟨s.heap.objs.size,_,_,_,_,_,_,rfl,Walks.list hd s.heap.objs.size p (Dw hpl) its.toArray,⟨⟨_,Dn _ rfl,rfl,rfl⟩,?_⟩,qJ rv,λh' tk k =>?_⟩
 ·exact pl.isList.at λo e=>C7 _ e
 ·have e:((Eo its.toArray.size).all λi=>bs.getD i false)=bs.all id:=by rw[Dk, <- l,all_range]
  rw[e]
  refine ⟨.bl (bs.all id),H,I.kept (t':=tk) (λb o eb=>k b o ?_ (C7 _ eb)),rfl,q⟩
  intro hb
  have:b=s.heap.objs.size:=by simpa using hb
  exact absurd (Ds eb) (by rw[this];exact Fe _)
def ip (K:Df)(H:Hp):Nat->V->V->Prop
 | 0,x,y=>(∃i,x = .int i/\y = .int i)\/∃a,x = .ref a/\y = .ref a
 | n+1,x,y=>(∃i,x = .int i/\y = .int i)\/(∃a,x = .ref a/\y = .ref a)\/∃a b xs ys,x = .ref a/\y = .ref b/\((SqT K H a xs/\SqT K H b ys)\/(SqL K H a xs/\SqL K H b ys))/\Paired (ip K H n) xs ys
theorem nX {α β:Type}{F:α -> β -> Prop}:∀{l:List α} {m:List β} {i:Nat} {x:α} {y:β},Paired F l m->l[i]? = some x->m[i]? = some y->F x y
 | _,_,0,_,_,.cons h _,e1,e2=>by simp at e1 e2;subst e1 e2;exact h
 | _,_,i+1,_,_,.cons _ t,e1,e2=>nX (i:=i) t (by simpa using e1) (by simpa using e2)
 | _,_,_,_,_,.nil,e1,_=>by simp at e1
theorem all_true (n:Nat):((Eo n).all λ_=>true)=true:=by simp
theorem fB {K:Df}{H:Hp}{n:Nat}{s:Dg}{A:Ep}{xs ys:List V}{us vs:List C9}(p:Paired (ip K H n) xs ys)(r1:Vals xs us)(r2:Vals ys vs)
  (ih:∀x y u v,ip K H n x y->RelV x u->RelV y v->HW A s u v true):∀j (h1:j<us.toArray.size) (h2:j<vs.toArray.size),HW A s us.toArray[j] vs.toArray[j] true:=λj h1 h2=>by
 rw[Dk] at h1 h2
 have l1:=r1.length
 have l2:=r2.length
 have e1:xs[j]? = some xs[j]:=Dc (by omega)
 have e2:ys[j]? = some ys[j]:=Dc (by omega)
 obtain ⟨u,g1,q1⟩:=r1.get e1
 obtain ⟨v,g2,q2⟩:=r2.get e2
 have f1:us.toArray[j]=u:=by simp[Di] at g1;obtain ⟨_,g⟩:=g1;simpa using g
 have f2:vs.toArray[j]=v:=by simp[Di] at g2;obtain ⟨_,g⟩:=g2;simpa using g
 rw[f1,f2]
 exact ih _ _ u v (nX p e1 e2) q1 q2
theorem nY {pins:List (Addr×Obj)}{σ:St}{H:Hp}{s:Dg}(I:Inv X pins σ H s):∀(n:Nat) (A:Ep) (x y:V) (u v:C9),A.units+n<cLine->ip X.K H n x y->RelV x u->RelV y v->HW A s u v true
 | 0,A,x,y,u,v,_,h,ru,rv=>by
  rcases h with ⟨i,rfl,rfl⟩ | ⟨a,rfl,rfl⟩
  ·obtain ⟨t,rfl⟩:=(show ∃t,u=EL i t from ru)
   obtain ⟨t',rfl⟩:=(show ∃t,v=EL i t from rv)
   have:=Gx (A:=A) (s:=s) i t i t'
   rw[beq_self_eq_true] at this
   exact this
  ·cases (show u=DG a from ru)
   cases (show v=DG a from rv)
   exact IX _
 | n+1,A,x,y,u,v,hA,h,ru,rv=>by
  rcases h with ⟨i,rfl,rfl⟩ | ⟨a,rfl,rfl⟩ | ⟨a,b,xs,ys,rfl,rfl,hs,p⟩
  ·obtain ⟨t,rfl⟩:=(show ∃t,u=EL i t from ru)
   obtain ⟨t',rfl⟩:=(show ∃t,v=EL i t from rv)
   have:=Gx (A:=A) (s:=s) i t i t'
   rw[beq_self_eq_true] at this
   exact this
  ·cases (show u=DG a from ru)
   cases (show v=DG a from rv)
   exact IX _
  ·cases (show u=DG a from ru)
   cases (show v=DG b from rv)
   by_cases hab:a=b
   ·subst hab;exact IX _
   refine SeqAt.EqAt.of_refs hab ?_
   have ih:∀x y u v,ip X.K H n x y->RelV x u->RelV y v->HW A.in1 s u v true:=λx y u v h1 h2 h3=>nY I n A.in1 x y u v (by show A.units+1+n<cLine;lia) h1 h2 h3
   have pl:=Hn p
   rcases hs with ⟨h1,h2⟩ | ⟨h1,h2⟩
   ·obtain ⟨its,r1,p1,_⟩:=I.tuple h1
    obtain ⟨its2,r2,p2,_⟩:=I.tuple h2
    have q:=SeqAt.RcAt.tuples (e:=λ_=>true) (show s.heap.IsTuple a its.toArray from p1) (show s.heap.IsTuple b its2.toArray from p2) (by lia) (fB p r1 r2 ih)
    have ez:its.toArray.size=its2.toArray.size:=by rw[Dk,Dk, <- r1.length, <- r2.length,pl]
    rw[all_true,ez,beq_self_eq_true] at q
    exact q
   ·obtain ⟨its,r1,p1,_⟩:=I.list h1
    obtain ⟨its2,r2,p2,_⟩:=I.list h2
    have q:=SeqAt.RcAt.lists (e:=λ_=>true) p1.isList p2.isList (by rw[Dk,Dk, <- r1.length, <- r2.length,pl]) (by lia) (fB p r1 r2 ih)
    rw[all_true] at q
    exact q
theorem By {k:Nat}(hr:dG k X.A):OpR X (Fj .NotEq) (λx y H Q=>∃a b xs ys,x = .ref a/\y = .ref b/\SqL X.K H a xs/\SqL X.K H b ys/\((xs.length≠ys.length/\Q (.bl true) H)\/(Paired (ip X.K H 20) xs ys/\Q (.bl false) H))):=by
 intro pins s σ H x y v u Q I rx ry h
 obtain ⟨a,b,xs,ys,rfl,rfl,h1,h2,h3⟩:=h
 cases (show v=DG a from rx)
 cases (show u=DG b from ry)
 obtain ⟨its,r1,⟨⟨c1,d1,da1,sl1⟩,n1,e1,k1,_,k3⟩,_⟩:=I.list h1
 obtain ⟨its2,r2,⟨⟨c2,d2,da2,sl2⟩,n2,e2,g1,_,g3⟩,_⟩:=I.list h2
 simp only at k1 k3 g1 g3
 subst k1 k3 g1 g3
 have l1:=r1.length
 have l2:=r2.length
 have hu:=hr.un
 have hu1:X.A.units<cLine:=by lia
 rcases h3 with ⟨ne,q⟩ | ⟨p,q⟩
 ·refine Fq (op :=.NotEq) ⟨_,e1,rfl⟩ ⟨_,e2,rfl⟩ Jz IY (IG _ _) (JV a b its.toArray its2.toArray n1 n2 d1 d2 sl1 sl2 (by simp;lia)) ⟨e1,e2,?_⟩ hu1
  exact ⟨(λz=>nomatch z),⟨.bl true,H,I,rfl,q⟩⟩
 ·have pl:=Hn p
  refine Fq (op :=.NotEq) ⟨_,e1,rfl⟩ ⟨_,e2,rfl⟩ Jz IY (IG _ _) (Mh a b its.toArray its2.toArray n1 n2 d1 d2 sl1 sl2 (by rw[Dk,Dk];lia) (λ_=>true)) ⟨e1,e2,?_,?_⟩ hu1
  ·exact fB p r1 r2 λx y u v h1 h2 h3=>nY I 20 _ x y u v (by show X.A.units+1+_<cLine;lia) h1 h2 h3
  ·rw[all_true]
   exact ⟨(λz=>nomatch z),⟨.bl false,H,I,rfl,q⟩⟩
end
def xB (K:Df)(k l:Nat):TG:=Cm K 2 (wY (eA k) (wY (eA l) Ck))
def AL (k l:Nat)(tc:TT)(te:TE)(τ:St)(Pv:Nat->List V->Hp->Prop)(i:Nat)(a b:V)(ys:List V)(H:Hp):Prop :=
 ∀(R1:V->Hp->Prop) (R0:Hp->Prop),(∀y H4,Pv (i+1) (ys++[y]) H4->R1 y H4)->(∀H3,Pv (i+1) ys H3->R0 H3)->tc ((τ.set k (some a)).set l (some b)) H λc H3=>if c=true then te ((τ.set k (some a)).set l (some b)) H3 R1 else R0 H3
theorem iq {K:Df}{p:Addr}{ts:List (Addr×V×V)}{k l:Nat}{tc:TT}{te:TE}{τ:St}{H:Hp}{Q:VK}(Pv:Nat->List V->Hp->Prop)(hkl:k≠l)(h0:Pv 0 [] H)(hz:ts.length<=Dm)
  (hl:∀i ys H,i<=ts.length->Pv i ys H->SqL K H p (ts.map λt =>.ref t.1)/\∀t∈ts,SqT K H t.1 [t.2.1,t.2.2])
  (hs:∀i t ys H,ts[i]? = some t->ys.length<=i->Pv i ys H->AL k l tc te τ Pv i t.2.1 t.2.2 ys H)
  (hd:∀ys H,ys.length<=ts.length->Pv ts.length ys H->∀r,H r=none->Q (.ref r) (upd H r (.lst ys))):iU (Itl K p) (xB K k l) tc te τ Q H:=by
 refine ⟨λi m σ ys H=>m=ts.length-i/\i<=ts.length/\(∀a b,(σ.set k (some a)).set l (some b)=(τ.set k (some a)).set l (some b))/\ys.length<=i/\Pv i ys H,⟨ts.length,by simp,D5 _,λ_ _=>rfl,Dd _,h0⟩,?_⟩
 rintro i m σ ys H ⟨rfl,hi,hτ,hy,pv⟩
 obtain ⟨q,qt⟩:=hl i ys H hi pv
 have ln:(ts.map λt:Addr×V×V=>V.ref t.1).length=ts.length:=C6 _
 by_cases hlt:i<ts.length
 ·have et:ts[i]? = some ts[i]:=Dc hlt
  have em:(ts.map λt:Addr×V×V=>V.ref t.1)[i]? = some (.ref ts[i].1):=by rw[Dq,et];rfl
  refine .inr ⟨⟨_,_,q,em⟩,λx H' y =>?_⟩
  obtain ⟨e,y⟩:=y
  subst e
  have ex:=y _ q
  rw[em] at ex
  cases ex
  have st:=qt ts[i] (HK hlt)
  refine ⟨ts[i].1,_,rfl,st,rfl,_,_,rfl,_,_,rfl,rfl,?_⟩
  rw[hτ]
  have hσ:∀a b,((((τ.set k (some ts[i].2.1)).set l (some ts[i].2.2)).set k (some a)).set l (some b))=(τ.set k (some a)).set l (some b):=λa b=>by
   rw[MK _ _ (EB hkl),G9,G9]
  refine hs i ts[i] ys _ et hy pv _ _ (λy4 H4 p4=>⟨by lia,ts.length-(i+1),by lia,rfl,hlt,hσ,by rw[C8,D9];lia,p4⟩) λH3 p3=>⟨ts.length-(i+1),by lia,rfl,hlt,hσ,by lia,p3⟩
 ·have e:i=ts.length:=by lia
  subst e
  exact .inl ⟨⟨_,q,by rw[ln];exact Dd _⟩,by lia,hd ys H hy pv⟩
section
variable  {X:Cx}{K:Df}
theorem qK (h:X.K=K:=by rfl):IxR X (Bq K):=by subst h;exact cC
theorem dq (h:X.K=K:=by rfl):IxR X (Br K):=by subst h;exact aV
theorem sM (h:X.K=K:=by rfl):OpR X (Fj .In) (rIn K false):=by subst h;exact vv
theorem gM (h:X.K=K:=by rfl):OpR X (Fj .NotIn) (rIn K true):=by subst h;exact iR
end
theorem Inv.ir {X:Cx}{pins:List (Addr×Obj)}{σ:St}{H:Hp}{s:Dg}{h':Heap}{t':Nat}{ch:List Addr}{T:Addr}{o:HO}(I:Inv X pins σ H s)(f:∀b∈ch,iM X pins H b)
  (k:∀b ob,b∉ch->s.heap.get? b=some ob->h'.get? b=some ob) (th:∀b∈ch,∃ob,h'.get? b=some ob) (hT:s.heap.objs.size<=T) (new:bB X.prog X.w (upd H T o) h' T o):Inv X pins σ (upd H T o) { s with heap:=h',toks:=t' }:=by
 have hn:H T=none:=I.hok.fresh hT
 have nT:∀b ob,s.heap.get? b=some ob->b≠T:=λb ob e=>Dw (DC (Ds e) hT)
 refine I.step (g':=s.gens) (d':=s.drawn) (ch:=ch) (λb hb =>?_) (λb ob _ _ hc e _=>k b ob hc e) (λb ob _ _ hc e _=>⟨ob.slots,k b ob hc e⟩) (λb ob _ e n=>by rw[az (nT b ob e)];exact n)
  (λb ob hc e=>⟨ob,k b ob hc e⟩) (λb xs e=>by rw[az (aA e hn)];exact e) (λb ob u e=>by rw[az (aA e hn)];exact e) (λb ps e=>⟨#[],by rw[az (aA e hn),e];simp⟩) (λm hm =>?_) (λb u e =>?_) I.bare
 ·obtain ⟨g0,g1,g2,g3,g4,g5⟩:=f b hb
  exact ⟨g3,g1,g4,g5⟩
 ·obtain ⟨ob,es,ep,ho,r⟩:=hm
  exact ⟨ob,es,ep,k _ ob (λz=>(f _ z).2.1 rfl) ho,r⟩
 ·by_cases hb:b=T
  ·subst hb
   rw[ag] at e
   cases e
   exact new
  ·rw[az hb] at e
   refine (I.hok b u e).stay (λc v hc q=>k c v ?_ q) (λc q=>by rw[az (aA q hn)];exact q) λc xs q=>by rw[az (aA q hn)];exact q
   intro z
   have n0:=(f c z).1
   rcases hc with hc | hc
   ·rw[hc,e] at n0;cases n0
   ·rw[hc] at n0;cases n0
def Ite (K:Df)(a:Addr):It :=
 ⟨λi H=>∃xs v,SqL K H a xs/\xs[i]? = some v,λi H x H'=>∃T v,H T=none/\x = .ref T/\H'=upd H T (.tup [.int i,v])/\∀xs,SqL K H a xs->xs[i]? = some v,λi H=>∃xs,SqL K H a xs/\xs.length<=i⟩
theorem vA {P:DH}{w:Eb}{K:Df}{elts:List Expr}{k:Nat}{pos:Pos}(a e it:Addr)(hne:e≠it):Turn P w K (.Tuple elts k pos) (Ite K a) [e,it] e (λi h=>(∃old,IsEnum h e it i old)/\h.IsListIter it a i) where
 mem:=by simp
 obj:=λi h ⟨⟨old,h1⟩,h2⟩ b hb=>by
  rcases Dx.mp hb with q | q
  ·subst q
   exact ⟨_,h1,λv z=>nomatch z⟩
  ·have q':b=it:=by simpa using q
   subst q'
   obtain ⟨o,ho,_,hd⟩:=h2
   exact ⟨o,ho,λv z=>by rw[hd] at z;cases z⟩
 keep:=λi h h' ⟨⟨old,h1⟩,h2⟩ kp=>⟨⟨old,kp e (by simp) _ h1⟩,h2.at λo x=>kp it (by simp) o x⟩
 item:=λX eP eW eK hcalm i pins s σ H E I f ⟨⟨old,h1⟩,h2⟩ go=>by
  subst eP eW eK
  obtain ⟨xs,v,hs,hv⟩:=go
  obtain ⟨its,r,pl,hz⟩:=I.list hs
  obtain ⟨u,eu,ru⟩:=r.get hv
  refine wpAny_pyNext_enum_item h1 h2 pl.isList (x:=u) (by rw[DX];exact eu) hne λh' o1 o2 o3 o4 kp =>?_
  refine ⟨_,rfl,?_⟩
  refine Jp o1 λh2' e2 sb =>?_
  have eT:e≠s.heap.objs.size:=Dw (Ds h1)
  have kp2:∀b ob,b∉[e,it]->s.heap.get? b=some ob->h2'.get? b=some ob:=λb ob hb eb=>by
   have n1:b≠e:=λz=>hb (by simp[z])
   have n2:b≠it:=λz=>hb (by simp[z])
   rw[sb.2 b n1]
   exact kp b ob n1 n2 eb
  have li:h2'.IsListIter it a (i+1):=o2.at λob eb=>by rw[sb.2 it (EB hne)];exact eb
  have tp:h2'.get? s.heap.objs.size=some { cls :=.type "tuple",data :=.seq #[.int i s.toks,u] }:=by rw[sb.2 _ (EB eT)];exact o3
  refine ⟨.ref s.heap.objs.size,upd H s.heap.objs.size (.tup [.int i,v]),I.ir (ch:=[e,it]) f kp2 (λb hb =>?_) (Dd _) ?_,rfl,⟨s.heap.objs.size,v,I.hok.fresh (Dd _),rfl,rfl,λys hy =>?_⟩,⟨⟨_,e2⟩,li⟩,λb hb =>?_⟩
  ·rcases Dx.mp hb with q | q
   ·subst q;exact ⟨_,e2⟩
   ·have q':b=it:=by simpa using q
    subst q'
    obtain ⟨ob,ho,_⟩:=li
    exact ⟨ob,ho⟩
  ·refine ⟨(by show 2<=Dm;decide),[.int i s.toks,u],.cons ⟨_,rfl⟩ (.cons ru .nil),_,tp,⟨rfl,rfl⟩,_,rfl⟩
  ·rw[I.lA hy hs];exact hv
  ·have ne:b≠s.heap.objs.size:=by
    rcases Dx.mp hb with q | q
    ·rw[q];exact eT
    ·have q':b=it:=by simpa using q
     rw[q']
     obtain ⟨ob,ho,_⟩:=h2
     exact Dw (Ds ho)
   rw[az ne]
   exact (f b hb).1
 done:=λX eP eW eK hcalm i pins s σ H E I f ⟨⟨old,h1⟩,h2⟩ stop=>by
  subst eP eW eK
  obtain ⟨xs,hs,hl⟩:=stop
  obtain ⟨its,r,pl,hz⟩:=I.list hs
  have l:=r.length
  refine wpAny_pyNext_enum_end (I.ok.hd hcalm) h1 h2 pl.isList (by rw[DX];exact Ft.mpr (by lia)) λh' ex=>⟨rfl,?_⟩
  obtain ⟨g0,g1,g2,g3,g4,g5⟩:=f it (by simp)
  exact I.turned (it:=it) (h':=h') (t':=s.toks) (λb o ne eb=>ex b o ne eb) g0 g1 g3 g4 g5
 self:=λA i s Q E ⟨⟨old,h1⟩,_⟩ q=>by
  refine Ir ⟨_,h1,rfl⟩ Hg (Ei Hg ⟨_,h1,rfl⟩ Kk ?_ (JW _))
  show DI _ _ (ret (.ref e)) _ _ s
  exact De ⟨_,rfl, "enumerate",_,⟨_,h1,rfl⟩,Hh.lookup,q⟩
open PySem.AutoSeq1 (wpAny_loadPart')
section
variable  {prog:DH}{w:Eb}{A:Ep}{E:C9->Dg->Prop}{s:Dg}
theorem lR {it t:Addr}{i:Nat}{items:Array C9}{x:C9}{Q:C9->Dg->Prop}(hi:s.heap.IsTupleIter it t i)(hl:s.heap.IsTuple t items)(hx:items[i]? = some x)
  (q:∀h',h'.IsTupleIter it t (i+1)->Heap.SameBut it s.heap h'->Q x { s with heap:=h' }):DI (DS prog w) A (Builtin.SmallTypes.nextOf (.ref it)) Q E s:=by
 obtain ⟨o,eo,oc,od⟩:=id hi
 obtain ⟨ol,el,_,nl,dl⟩:=hl
 unfold Builtin.SmallTypes.nextOf
 refine C5 (EF (name:=Str.ofString "__next__") hi.typeIs Gu (Ei Gu hi.typeIs IZ ?_ (IS _)))
 show DI _ _ (field (.ref it) 0 >>= _) _ _ s;refine C5 (EM eo od (x :=.ref t) rfl ?_)
 show DI _ _ (if (DG t == E9)=true then _ else _) _ _ s;rw[if_neg (show ¬ ((DG t == E9)=true) from Dv)]
 show DI _ _ (field (.ref it) 1 >>= _) _ _ s;refine C5 (EM eo od (x :=.int i 0) rfl ?_)
 show DI _ _ (seqItems? (.ref t) >>= _) _ _ s;refine C5 (FD el dl ?_)
 simp only[Fx,hx];refine C5 (Iv eo od (by simp) (De ⟨x,rfl,De (q _ ?_ (HM ..))⟩))
 exact ⟨_,EA _ eo (Iw (Gy od _)),(LF ..).trans oc,by rw[Gy od];simp[GN]⟩
theorem dZ {it t:Addr}{i:Nat}{items:Array C9}{Q:C9->Dg->Prop}(hh:A.handled=none)(hi:s.heap.IsTupleIter it t i)(hl:s.heap.IsTuple t items)(hx:items[i]? = none)
  (q:∀h' e,Heap.ExtBut it s.heap h'->(∃o,h'.get? e=some o/\o.cls = .type "StopIteration")->E (.ref e) { s with heap:=h' }):DI (DS prog w) A (Builtin.SmallTypes.nextOf (.ref it)) Q E s:=by
 obtain ⟨o,eo,oc,od⟩:=id hi
 obtain ⟨ol,el,_,nl,dl⟩:=hl
 unfold Builtin.SmallTypes.nextOf
 refine C5 (EF (name:=Str.ofString "__next__") hi.typeIs Gu (Ei Gu hi.typeIs IZ ?_ (IS _)))
 show DI _ _ (field (.ref it) 0 >>= _) _ _ s;refine C5 (EM eo od (x :=.ref t) rfl ?_)
 show DI _ _ (if (DG t == E9)=true then _ else _) _ _ s;rw[if_neg (show ¬ ((DG t == E9)=true) from Dv)]
 show DI _ _ (field (.ref it) 1 >>= _) _ _ s;refine C5 (EM eo od (x :=.int i 0) rfl ?_)
 show DI _ _ (seqItems? (.ref t) >>= _) _ _ s;refine C5 (FD el dl ?_)
 simp only[Fx,hx];refine C5 (FI (C5 (Iv eo od (by simp) ?_)))
 show DI _ _ (newExc (.type "StopIteration") [] >>= _) _ _ _;refine C5 ?_
 simp only[newExc,newTuple];refine C5 (Ec ?_ (by size_fits))
 refine C5 (m:=firstArgMember _ _) (Ga (a:=E9) (by first | rfl | (simp only[firstArgMember];rfl)) ?_);refine Ec ?_ (by size_fits)
 simp only[raiseNew];refine C5 (Lz ?_)
 first | (rw[show A.in1.handled=none from hh]) | (rw[hh])
 refine C5 (De (Ms ?_));exact q _ _ (((HM ..).extBut.push _).push _) ⟨_,Dn _ rfl,rfl⟩
theorem vB (hh:A.handled=none)(it l:Addr)(hne:l≠it)(items:Array C9) :
  Draws prog w A it [it,l] items.size (λi v=>items[i]? = some v) (λi h=>h.IsTupleIter it l i/\h.IsTuple l items) where
 live:=λ_ _ st=>by obtain ⟨o,ho,_⟩:=st.1;exact ⟨o,ho⟩
 frame:=λ_ _ _ st hk=>⟨st.1.at λo e=>hk it (by simp) o e,by obtain ⟨o,e,r⟩:=st.2;exact ⟨o,hk l (by simp) o e,r⟩⟩
 item:=λi s Q E hi st hQ=>by
  refine lR st.1 st.2 (x:=items[i]) (by simp[hi]) λh' hit' hs' =>?_
  obtain ⟨o,e,r⟩:=st.2
  exact hQ _ h' s.toks (by simp[hi]) ⟨hit',o,by rw[hs'.2 l hne];exact e,r⟩ hs'
 done:=λs Q E st hE=>dZ hh st.1 st.2 (by simp) hE
theorem pE (l:Addr)(items:Array C9)(n:Nat)(dct:Option Addr)(sl:Array (Option C9)) :
  Meets (Builtin.«enumerate.__new__» ⟨[.type "enumerate",.ref l],[]⟩) (λ_ R s=>s.heap.get? l=some { cls :=.type "tuple",dict:=dct,data :=.seq items n,slots:=sl } ∧
   R (.ok (.ret (.ref (s.heap.push { cls :=.type "tuple_iterator",data :=.fields #[.ref l,.int 0 0] }).objs.size)))
    { s with heap:=(s.heap.push { cls :=.type "tuple_iterator",data :=.fields #[.ref l,.int 0 0] }).push { cls :=.type "enumerate",data :=.fields #[.none,.bool false,.ref s.heap.objs.size,GN 0,.none,.none] } }) :=
 .of_wp λprog w A R s h=>by
  obtain ⟨hp,g,d,tk,os⟩:=s;obtain ⟨hl,h⟩:=h
  have hsub:=sub_enumerate
  have hT:Heap.IsTuple (Shared.heap ⟨hp,g,d,tk,os⟩) l items:=⟨_,hl,rfl,n,rfl⟩
  wp_walk using wpAny_loadPart' hl
  refine wpAny_stack_any λst=>De ?_
  split
  ·rename_i c _ _ _ _ _
   cases (c == E1 "enumerate") <;> (wp_walk using wpAny_loadPart' hl,F0 hT;exact ⟨_,rfl,h⟩)
  ·wp_walk using wpAny_loadPart' hl,F0 hT;exact ⟨_,rfl,h⟩
theorem nq {l:Addr}{items:Array C9}{Q:C9->Dg->Prop}(hL:s.heap.IsTuple l items)
  (h:∀h',IsEnum h' (s.heap.objs.size+1) s.heap.objs.size 0 .none->h'.IsTupleIter s.heap.objs.size l 0->h'.objs.size=s.heap.objs.size+2->(∀b o,s.heap.get? b=some o->h'.get? b=some o)->Q (.ref (s.heap.objs.size+1)) { s with heap:=h' }) :
  DI (DS prog w) A (call (.type "enumerate") [.ref l]) Q E s:=by
 obtain ⟨⟨c,dct,dt,sl⟩,hl,hc,n,hd⟩:=hL
 replace hc:c = .type "tuple" := hc
 replace hd:dt = .seq items n:=hd
 subst hc hd
 refine Jv F.called_enumerate (by decide) (F.typeCall_enumerate_1 _) (F.newCall_enumerate_1 _) (λobj=>F.args_object_init_2 obj _) F.entry_enumerate_new (pE l items n dct sl) ⟨hl,?_⟩
 have hz:(s.heap.push { cls :=.type "tuple_iterator",data :=.fields #[.ref l,.int 0 0] }).objs.size=s.heap.objs.size+1:=E5 ..
 show _/\_
 rw[hz]
 have he:IsEnum ((s.heap.push { cls :=.type "tuple_iterator",data :=.fields #[.ref l,.int 0 0] }).push { cls :=.type "enumerate",data :=.fields #[.none,.bool false,.ref s.heap.objs.size,GN 0,.none,.none] }) (s.heap.objs.size+1) s.heap.objs.size 0 .none:=by
  have:=Dn (s.heap.push { cls :=.type "tuple_iterator",data :=.fields #[.ref l,.int 0 0] }) (o:={ cls :=.type "enumerate",data :=.fields #[.none,.bool false,.ref s.heap.objs.size,GN 0,.none,.none] }) rfl
  rw[hz] at this;exact this
 exact ⟨⟨_,he,rfl⟩,h _ he ⟨_,C7 _ (Dn _ rfl),rfl,rfl⟩ (by rw[E5,hz]) λb o x=>C7 _ (C7 _ x)⟩
end
theorem fC {prog:DH}{w:Eb}{A:Ep}{E:C9->Dg->Prop}{s:Dg}{e it t:Addr}{i:Nat}{items:Array C9}{old:C9}{Q:Option C9->Dg->Prop}(hh:A.in1.handled=none)(he:IsEnum s.heap e it i old)(hi:s.heap.IsTupleIter it t i)
  (hl:s.heap.IsTuple t items) (hx:items[i]? = none) (q:∀h',Heap.ExtBut it s.heap h'->Q none { s with heap:=h' }):DI (DS prog w) A (pyNext (.ref e)) Q E s:=by
 have hT:s.TypeIs (.ref e) "enumerate" :=⟨_,he,rfl⟩
 unfold pyNext
 refine C5 (FT (EF (name:=Str.ofString "__next__") hT Hh (Ei Hh hT F.entry_enumerate_next ?_ (F.args_enumerate_next_1 _))))
 show DI _ _ (field (.ref e) 2 >>= _) _ _ _;refine C5 (EM he rfl (x :=.ref it) rfl ?_)
 refine C5 (dZ hh hi hl hx λh' x he' hx' =>?_)
 obtain ⟨o,ho,hc⟩:=hx'
 refine C5 (FJ (T := "StopIteration") (b:=true) ⟨o,ho,hc⟩ JF ?_);exact De (q _ he')
def ItE (K:Df)(a:Addr):It :=
 ⟨λi H=>∃xs v,SqT K H a xs/\xs[i]? = some v,λi H x H'=>∃T v,H T=none/\x = .ref T/\H'=upd H T (.tup [.int i,v])/\∀xs,SqT K H a xs->xs[i]? = some v,λi H=>∃xs,SqT K H a xs/\xs.length<=i⟩
theorem sO {P:DH}{w:Eb}{K:Df}{elts:List Expr}{k:Nat}{pos:Pos}(a e it:Addr)(hne:e≠it)(hai:a≠it)(hae:a≠e):Turn P w K (.Tuple elts k pos) (ItE K a) [e,it] e (λi h=>(∃old,IsEnum h e it i old)/\h.IsTupleIter it a i) where
 mem:=by simp
 obj:=λi h ⟨⟨old,h1⟩,h2⟩ b hb=>by
  rcases Dx.mp hb with q | q
  ·subst q
   exact ⟨_,h1,λv z=>nomatch z⟩
  ·have q':b=it:=by simpa using q
   subst q'
   obtain ⟨o,ho,_,hd⟩:=h2
   exact ⟨o,ho,λv z=>by rw[hd] at z;cases z⟩
 keep:=λi h h' ⟨⟨old,h1⟩,h2⟩ kp=>⟨⟨old,kp e (by simp) _ h1⟩,h2.at λo x=>kp it (by simp) o x⟩
 item:=λX eP eW eK hcalm i pins s σ H E I f ⟨⟨old,h1⟩,h2⟩ go=>by
  subst eP eW eK
  obtain ⟨xs,v,hs,hv⟩:=go
  obtain ⟨its,r,pl,hz⟩:=I.tuple hs
  obtain ⟨u,eu,ru⟩:=r.get hv
  have hi:i<its.toArray.size:=by rw[Dk];exact (Di.mp eu).1
  have hd:X.A.in1.handled=none:=I.ok.hd hcalm
  refine wpAny_pyNext_enum_itemD (vB hd it a hai its.toArray) h1 ⟨h2,(show s.heap.IsTuple a its.toArray from pl)⟩ hi hne (by simp[hne,EB hae]) λx h' tk px o1 o2 o3 o4 kp =>?_
  rw[DX,eu] at px
  have px':u=x:=DW px
  subst px'
  refine ⟨_,rfl,?_⟩
  refine Jp o1 λh2' e2 sb =>?_
  have eT:e≠s.heap.objs.size:=Dw (Ds h1)
  have kp2:∀b ob,b∉[e,it]->s.heap.get? b=some ob->h2'.get? b=some ob:=λb ob hb eb=>by
   have n1:b≠e:=λz=>hb (by simp[z])
   have n2:b≠it:=λz=>hb (by simp[z])
   rw[sb.2 b n1]
   exact kp b ob n1 n2 eb
  have li:h2'.IsTupleIter it a (i+1):=o2.1.at λob eb=>by rw[sb.2 it (EB hne)];exact eb
  have tp:h2'.get? s.heap.objs.size=some { cls :=.type "tuple",data :=.seq #[.int i tk,u] }:=by rw[sb.2 _ (EB eT)];exact o3
  refine ⟨.ref s.heap.objs.size,upd H s.heap.objs.size (.tup [.int i,v]),I.ir (ch:=[e,it]) f kp2 (λb hb =>?_) (Dd _) ?_,rfl,⟨s.heap.objs.size,v,I.hok.fresh (Dd _),rfl,rfl,λys hy =>?_⟩,⟨⟨_,e2⟩,li⟩,λb hb =>?_⟩
  ·rcases Dx.mp hb with q | q
   ·subst q;exact ⟨_,e2⟩
   ·have q':b=it:=by simpa using q
    subst q'
    obtain ⟨ob,ho,_⟩:=li
    exact ⟨ob,ho⟩
  ·refine ⟨(by show 2<=Dm;decide),[.int i tk,u],.cons ⟨_,rfl⟩ (.cons ru .nil),_,tp,⟨rfl,rfl⟩,_,rfl⟩
  ·rw[I.gK hy hs];exact hv
  ·have ne:b≠s.heap.objs.size:=by
    rcases Dx.mp hb with q | q
    ·rw[q];exact eT
    ·have q':b=it:=by simpa using q
     rw[q']
     obtain ⟨ob,ho,_⟩:=h2
     exact Dw (Ds ho)
   rw[az ne]
   exact (f b hb).1
 done:=λX eP eW eK hcalm i pins s σ H E I f ⟨⟨old,h1⟩,h2⟩ stop=>by
  subst eP eW eK
  obtain ⟨xs,hs,hl⟩:=stop
  obtain ⟨its,r,pl,hz⟩:=I.tuple hs
  have l:=r.length
  have hd:X.A.in1.handled=none:=I.ok.hd hcalm
  refine fC (A:=X.A) hd h1 h2 (show s.heap.IsTuple a its.toArray from pl) (by rw[DX];exact Ft.mpr (by lia)) λh' ex=>⟨rfl,?_⟩
  obtain ⟨g0,g1,g2,g3,g4,g5⟩:=f it (by simp)
  exact I.turned (it:=it) (h':=h') (t':=s.toks) (λb o ne eb=>ex b o ne eb) g0 g1 g3 g4 g5
 self:=λA i s Q E ⟨⟨old,h1⟩,_⟩ q=>by
  refine Ir ⟨_,h1,rfl⟩ Hg (Ei Hg ⟨_,h1,rfl⟩ Kk ?_ (JW _))
  show DI _ _ (ret (.ref e)) _ _ s
  exact De ⟨_,rfl, "enumerate",_,⟨_,h1,rfl⟩,Hh.lookup,q⟩
def CF (K:Df)(ta:TA):TI:=λσ H R=>ta σ H λvs H1=>∃a,vs=[.ref a]/\(((∃xs,SqL K H1 a xs)/\R (Ite K a) H1)\/((∃xs,SqT K H1 a xs)/\R (ItE K a) H1))
section
variable  {X:Cx}
theorem uo {a:Expr}{ta:TA}{p pos pos':Pos}{elts:List Expr}{k:Nat}(hg:Gl X "enumerate")(hm:X.mg "enumerate" = none)(ha:PA X [a] ta)(hs:Em [a] X.env=[(false,eval a X.env)]:=by rfl) :
  PI X (.Tuple elts k pos') (.Call (.Name "enumerate" p) [a] [] pos) (CF X.K ta):=by
 intro pins s σ H R I h
 refine Call_ (dW I hg hm boot_enumerate (Ez (thn (ha pos pins s σ H _ I h) λus s1 ⟨vs,H1,I1,r1,q1⟩ =>?_) hs rfl))
 obtain ⟨l,e,q1⟩:=q1
 subst e
 obtain ⟨u,rfl,ru⟩:=vals1 r1
 cases (show u=DG l from ru)
 have fp:∀b∈[s1.heap.objs.size+1,s1.heap.objs.size],iM X pins H1 b:=λb hb=>by
  have ge:s1.heap.objs.size<=b:=by
   rcases Dx.mp hb with q | q
   ·rw[q];exact GQ _
   ·have q':b=s1.heap.objs.size:=by simpa using q
    rw[q'];exact Dd _
  exact I1.sr ge (I1.hok.fresh ge)
 have ne:s1.heap.objs.size+1≠s1.heap.objs.size:=FV (Fc _)
 rcases q1 with ⟨⟨xs,hq⟩,q⟩ | ⟨⟨xs,hq⟩,q⟩
 ·obtain ⟨its,rv,pl,hz⟩:=I1.list hq
  refine call_enumerate_list pl.isList λh' he li _ kp =>?_
  have T:=vA (P:=X.prog) (w:=X.w) (K:=X.K) (elts:=elts) (k:=k) (pos:=pos') l _ _ ne
  refine T.self _ 0 _ _ _ ⟨⟨_,he⟩,li⟩ ?_
  exact ⟨_,_,_,_,H1,rfl,I1.kept (t':=s1.toks) kp,T,⟨⟨_,he⟩,li⟩,fp,q⟩
 ·obtain ⟨its,rv,pl,hz⟩:=I1.tuple hq
  have lt:l<s1.heap.objs.size:=by obtain ⟨o,e,_⟩:=pl;exact Ds e
  refine nq (show s1.heap.IsTuple l its.toArray from pl) λh' he li _ kp =>?_
  have T:=sO (P:=X.prog) (w:=X.w) (K:=X.K) (elts:=elts) (k:=k) (pos:=pos') l _ _ ne (Dw lt) (Dw (EH lt))
  refine T.self _ 0 _ _ _ ⟨⟨_,he⟩,li⟩ ?_
  exact ⟨_,_,_,_,H1,rfl,I1.kept (t':=s1.toks) kp,T,⟨⟨_,he⟩,li⟩,fp,q⟩
end
def Bz (J:It)(g:TG)(tb:TS)(D:Ends)(σ:St)(H:Hp):Prop:=∃W:Nat->Nat->St->Hp->Prop,(∃m,W 0 m σ H)/\∀i m σ H,W i m σ H →
 (J.stop i H/\D.nx σ H)\/(J.go i H/\∃N:St->Hp->Prop,(∀σ' H',N σ' H'->∃m',m'<m/\W (i+1) m' σ' H')/\∀x H',J.yld i H x H'->g x σ H' λσ2 H2=>tb { D with nx:=N,ct:=N,bk:=D.nx } σ2 H2)
theorem nZ {K:Df}{a:Addr}{xs:List V}{g:TG}{tb:TS}{D:Ends}{σ:St}{H:Hp}(Pv:Nat->St->Hp->Prop)(h0:Pv 0 σ H)(hl:∀i σ H,i<=xs.length->Pv i σ H->SqL K H a xs)
  (hs:∀i x σ H T,xs[i]? = some x->H T=none->Pv i σ H->g (.ref T) σ (upd H T (.tup [.int i,x])) λσ2 H2=>tb { D with nx:=Pv (i+1),ct:=Pv (i+1),bk:=D.nx } σ2 H2) (hd:∀σ H,Pv xs.length σ H->D.nx σ H):Bz (Ite K a) g tb D σ H:=by
 refine ⟨λi m σ H=>m=xs.length-i/\i<=xs.length/\Pv i σ H,⟨xs.length,by simp,D5 _,h0⟩,?_⟩
 rintro i m σ H ⟨rfl,hi,p⟩
 have q:=hl i σ H hi p
 by_cases hlt:i<xs.length
 ·refine .inr ⟨⟨xs,xs[i],q,by simp[hlt]⟩,Pv (i+1),λσ' H' p'=>⟨xs.length-(i+1),by lia,rfl,hlt,p'⟩,λx H' y =>?_⟩
  obtain ⟨T,v,hT,ex,eH,hv⟩:=y
  subst ex eH
  exact hs i v σ H T (hv xs q) hT p
 ·have e:i=xs.length:=by lia
  subst e
  exact .inl ⟨⟨xs,q,Dd _⟩,hd σ H p⟩
theorem vC {K:Df}{a:Addr}{xs:List V}{g:TG}{tb:TS}{D:Ends}{σ:St}{H:Hp}(Pv:Nat->St->Hp->Prop)(h0:Pv 0 σ H)(hl:∀i σ H,i<=xs.length->Pv i σ H->SqT K H a xs)
  (hs:∀i x σ H T,xs[i]? = some x->H T=none->Pv i σ H->g (.ref T) σ (upd H T (.tup [.int i,x])) λσ2 H2=>tb { D with nx:=Pv (i+1),ct:=Pv (i+1),bk:=D.nx } σ2 H2) (hd:∀σ H,Pv xs.length σ H->D.nx σ H):Bz (ItE K a) g tb D σ H:=by
 refine ⟨λi m σ H=>m=xs.length-i/\i<=xs.length/\Pv i σ H,⟨xs.length,by simp,D5 _,h0⟩,?_⟩
 rintro i m σ H ⟨rfl,hi,p⟩
 have q:=hl i σ H hi p
 by_cases hlt:i<xs.length
 ·refine .inr ⟨⟨xs,xs[i],q,by simp[hlt]⟩,Pv (i+1),λσ' H' p'=>⟨xs.length-(i+1),by lia,rfl,hlt,p'⟩,λx H' y =>?_⟩
  obtain ⟨T,v,hT,ex,eH,hv⟩:=y
  subst ex eH
  exact hs i v σ H T (hv xs q) hT p
 ·have e:i=xs.length:=by lia
  subst e
  exact .inl ⟨⟨xs,q,Dd _⟩,hd σ H p⟩
end L2
namespace Srt
open PySem PyProof.Rows
def gal:Bool->DL->Array DL->Nat->Nat->Nat->StateT D8 Sem (Option Nat):=sortPriv% PySem.Builtin.gallop
def mLo:Array DL->Array DL->StateT D8 Sem (Array DL):=sortPriv% PySem.Builtin.mergeLo
def mHi:Array DL->Array DL->StateT D8 Sem (Array DL):=sortPriv% PySem.Builtin.mergeHi
def mAt:Nat->StateT D8 Sem Bool:=sortPriv% PySem.Builtin.mergeAt
def AM:StateT D8 Sem Unit:=sortPriv% PySem.Builtin.sortRuns
def BA:Nat->Nat->StateT D8 Sem (Option Nat):=sortPriv% PySem.Builtin.countRun
def xC:Nat->Nat->Nat->StateT D8 Sem Bool:=sortPriv% PySem.Builtin.binarySort
theorem BB (lf:Bool)(ky:DL)(ar:Array DL)(bs n ht:Nat):gal lf ky ar bs n ht=(do
    let far (i:Nat):StateT D8 Sem (Option Bool):=do
      let z ← elem' ar (bs+i)
      if lf then lt' z ky else return (← lt' ky z).map (!·)
    let mut la:=0;let mut of:=1
    let mut lo:=0;let mut hi:=0
    let some rt ← far ht | return none
    if rt then
      let mx:=n-ht
      for _ in [0:n] do
        if of≥mx then break
        let some mo ← far (ht+of)
          | return none
        if !mo then break
        la:=of;of:=2*of+1
      lo:=ht+la+1;hi:=ht+min of mx
    else
      let mx:=ht+1
      for _ in [0:n] do
        if of≥mx then break
        let some fd ← far (ht-of)
          | return none
        if fd then break
        la:=of;of:=2*of+1
      lo:=ht+1-min of mx;hi:=ht-la
    for _ in [0:n] do
      if lo≥hi then break
      let md:=lo+(hi-lo)/2
      let some mo ← far md | return none
      if mo then lo:=md+1 else hi:=md
    return some hi):=rfl
section
variable  {prog:DH}{w:Eb}{A:Ep}{E:C9->Dg->Prop}{s:Dg}
theorem xD {lf:Bool}{ky:DL}{ar:Array DL}{bs n ht:Nat}{st:D8}{Q:Option Nat->D8->Prop}(p:Nat->Bool)
    (hf:∀i,i<n->∀(Q:Option Bool->D8->Prop),Q (some (p i)) st->wpS (DS prog w) A E s (do let z ← elem' ar (bs+i);if lf then lt' z ky else return (← lt' ky z).map (!·)) Q st)
    (hp:∀i j,i<=j->j<n->p j=true->p i=true) (hh:ht<n)
    (h:∀k,k<=n->(∀i,i<k->p i=true)->(∀i,k<=i->i<n->p i=false)->Q (some k) st):wpS (DS prog w) A E s (gal lf ky ar bs n ht) Q st:=by
  rw[BB]
  dsimp only
  refine DF (hf ht hh _ ?_)
  dsimp only
  cases hr:p ht with
  | true =>
    rw[if_pos rfl]
    refine DF (FU (EX (I:=λx c st'=>st=st'/\∃la of,c=(none,la,of)/\la<of/\x+1<=of/\ht+la<n/\p (ht+la)=true)
      (Q:=λc st'=>st=st'/\∃la of,c=(none,la,of)/\la<of/\ht+la<n/\p (ht+la)=true/\(n-ht<=of\/(ht+of<n/\p (ht+of)=false))) ?step ?fin ⟨rfl,0,1,rfl,by lia,by lia,by lia,by simpa using hr⟩) ?post)
    case fin =>
      rintro c st' ⟨rfl,la,of,rfl,b1,b2,b3,b4⟩
      exact ⟨rfl,la,of,rfl,b1,b3,b4,.inl (by lia)⟩
    case step =>
      rintro x c st' _ hx ⟨rfl,la,of,rfl,b1,b2,b3,b4⟩
      dsimp only
      by_cases hge:of≥n-ht
      · rw[if_pos hge]
        exact DK ⟨rfl,la,of,rfl,b1,b3,b4,.inl hge⟩
      · rw[if_neg hge]
        refine DF (hf _ (by lia) _ ?_)
        dsimp only
        cases hm:p (ht+of) with
        | true =>
          simp only[E8,DJ,if_false]
          exact DK ⟨rfl,of,2*of+1,rfl,by lia,by lia,by lia,hm⟩
        | false =>
          simp only[K6,if_true]
          exact DK ⟨rfl,la,of,rfl,b1,b3,b4,.inr ⟨by lia,hm⟩⟩
    case post =>
      rintro c st' ⟨rfl,la,of,rfl,b1,b3,b4,b5⟩
      have h1:(ht+la+1)<=(ht+min of (n-ht)):=by lia
      have h2:(ht+min of (n-ht))<=n:=by lia
      have h3:∀i,i<(ht+la+1)->p i=true:=λi hi=>hp i (ht+la) (by lia) b3 b4
      have h4:∀i,(ht+min of (n-ht))<=i->i<n->p i=false:=λi hi hn=>by
        rcases b5 with b5 | ⟨b5,b6⟩
        · lia
        · cases hpi:p i with
          | false=>rfl
          | true=>rw[hp (ht+of) i (by lia) hn hpi] at b6;cases b6
      dsimp only
      refine DF (FU (EX (I:=λx c st'=>st=st'/\∃lo hi,c=(none,lo,hi)/\lo<=hi/\hi<=n/\hi-lo<=n-x/\(∀i,i<lo->p i=true)/\(∀i,hi<=i->i<n->p i=false))
        (Q:=λc st'=>st=st'/\∃k,c=(none,k,k)/\k<=n/\(∀i,i<k->p i=true)/\(∀i,k<=i->i<n->p i=false)) ?step ?fin ⟨rfl,(ht+la+1),(ht+min of (n-ht)),rfl,h1,h2,by lia,h3,h4⟩) ?post)
      case fin =>
        rintro c st' ⟨rfl,lo,hi,rfl,a1,a2,a3,a4,a5⟩
        have e:lo=hi:=by lia
        subst e
        exact ⟨rfl,lo,rfl,a2,a4,a5⟩
      case post =>
        rintro c st' ⟨rfl,k,rfl,a2,a4,a5⟩
        exact DK (h k a2 a4 a5)
      case step =>
        rintro x c st' _ hx ⟨rfl,lo,hi,rfl,a1,a2,a3,a4,a5⟩
        dsimp only
        by_cases hge:lo≥hi
        · rw[if_pos hge]
          have e:lo=hi:=by lia
          subst e
          exact DK ⟨rfl,lo,rfl,a2,a4,a5⟩
        · rw[if_neg hge]
          refine DF (hf _ (by lia) _ ?_)
          dsimp only
          cases hm:p (lo+(hi-lo)/2) with
          | true =>
            rw[if_pos rfl]
            exact DK ⟨rfl,_,_,rfl,by lia,a2,by lia,λi hi'=>hp i _ (by lia) (by lia) hm,a5⟩
          | false =>
            rw[if_neg (by simp)]
            refine DK ⟨rfl,_,_,rfl,by lia,by lia,by lia,a4,λi hi' hn =>?_⟩
            cases hpi:p i with
            | false=>rfl
            | true=>rw[hp _ i hi' hn hpi] at hm;cases hm
  | false =>
    rw[if_neg (by simp)]
    refine DF (FU (EX (I:=λx c st'=>st=st'/\∃la of,c=(none,la,of)/\la<of/\x+1<=of/\la<=ht/\p (ht-la)=false)
      (Q:=λc st'=>st=st'/\∃la of,c=(none,la,of)/\la<of/\la<=ht/\p (ht-la)=false/\(ht+1<=of\/(of<=ht/\p (ht-of)=true))) ?step ?fin ⟨rfl,0,1,rfl,by lia,by lia,by lia,by simpa using hr⟩) ?post)
    case fin =>
      rintro c st' ⟨rfl,la,of,rfl,b1,b2,b3,b4⟩
      exact ⟨rfl,la,of,rfl,b1,b3,b4,.inl (by lia)⟩
    case step =>
      rintro x c st' _ hx ⟨rfl,la,of,rfl,b1,b2,b3,b4⟩
      dsimp only
      by_cases hge:of≥ht+1
      · rw[if_pos hge]
        exact DK ⟨rfl,la,of,rfl,b1,b3,b4,.inl hge⟩
      · rw[if_neg hge]
        refine DF (hf _ (by lia) _ ?_)
        dsimp only
        cases hm:p (ht-of) with
        | true =>
          rw[if_pos rfl]
          exact DK ⟨rfl,la,of,rfl,b1,b3,b4,.inr ⟨by lia,hm⟩⟩
        | false =>
          rw[if_neg (by simp)]
          exact DK ⟨rfl,of,2*of+1,rfl,by lia,by lia,by lia,hm⟩
    case post =>
      rintro c st' ⟨rfl,la,of,rfl,b1,b3,b4,b5⟩
      have h1:(ht+1-min of (ht+1))<=(ht-la):=by lia
      have h2:(ht-la)<=n:=by lia
      have h3:∀i,i<(ht+1-min of (ht+1))->p i=true:=λi hi=>by
        rcases b5 with b5 | ⟨b5,b6⟩
        · lia
        · exact hp i (ht-of) (by lia) (by lia) b6
      have h4:∀i,(ht-la)<=i->i<n->p i=false:=λi hi hn=>by
        cases hpi:p i with
        | false=>rfl
        | true=>rw[hp (ht-la) i hi hn hpi] at b4;cases b4
      dsimp only
      refine DF (FU (EX (I:=λx c st'=>st=st'/\∃lo hi,c=(none,lo,hi)/\lo<=hi/\hi<=n/\hi-lo<=n-x/\(∀i,i<lo->p i=true)/\(∀i,hi<=i->i<n->p i=false))
        (Q:=λc st'=>st=st'/\∃k,c=(none,k,k)/\k<=n/\(∀i,i<k->p i=true)/\(∀i,k<=i->i<n->p i=false)) ?step ?fin ⟨rfl,(ht+1-min of (ht+1)),(ht-la),rfl,h1,h2,by lia,h3,h4⟩) ?post)
      case fin =>
        rintro c st' ⟨rfl,lo,hi,rfl,a1,a2,a3,a4,a5⟩
        have e:lo=hi:=by lia
        subst e
        exact ⟨rfl,lo,rfl,a2,a4,a5⟩
      case post =>
        rintro c st' ⟨rfl,k,rfl,a2,a4,a5⟩
        exact DK (h k a2 a4 a5)
      case step =>
        rintro x c st' _ hx ⟨rfl,lo,hi,rfl,a1,a2,a3,a4,a5⟩
        dsimp only
        by_cases hge:lo≥hi
        · rw[if_pos hge]
          have e:lo=hi:=by lia
          subst e
          exact DK ⟨rfl,lo,rfl,a2,a4,a5⟩
        · rw[if_neg hge]
          refine DF (hf _ (by lia) _ ?_)
          dsimp only
          cases hm:p (lo+(hi-lo)/2) with
          | true =>
            rw[if_pos rfl]
            exact DK ⟨rfl,_,_,rfl,by lia,a2,by lia,λi hi'=>hp i _ (by lia) (by lia) hm,a5⟩
          | false =>
            rw[if_neg (by simp)]
            refine DK ⟨rfl,_,_,rfl,by lia,by lia,by lia,a4,λi hi' hn =>?_⟩
            cases hpi:p i with
            | false=>rfl
            | true=>rw[hp _ i hi' hn hpi] at hm;cases hm
end
structure Cmp (prog:DH)(w:Eb)(A:Ep)(s:Dg)(O:ID)(key:DL->O.α)(U:DL->Prop)(κ:SortKind):Prop where
 lt:∀(E:C9->Dg->Prop) (st:D8) (x y:DL) (Q:Option Bool->D8->Prop),kindOf st=κ -> U x->U y->Q (some (O.blt (key x) (key y))) st->wpS (DS prog w) A E s (lt' x y) Q st
section
variable  {prog:DH}{w:Eb}{A:Ep}{E:C9->Dg->Prop}{s:Dg}{O:ID}{key:DL->O.α}{U:DL->Prop}{κ:SortKind}
theorem bp {ar:Array DL}{i:Nat}{z:DL}{st:D8}{Q:DL->D8->Prop}(h:ar[i]? = some z)(hq:Q z st):wpS (DS prog w) A E s (elem' ar i) Q st:=by
 rw[elem'_eq,h]
 exact DK hq
theorem BC (C:Cmp prog w A s O key U κ){ky:DL}{ar:Array DL}{bs n ht:Nat}{st:D8}{Q:Option Nat->D8->Prop}(g:Nat->DL)(hk:kindOf st=κ)(uk:U ky)
  (hg:∀i,i<n->ar[bs+i]? = some (g i)) (hu:∀i,i<n->U (g i)) (hs:∀i j,i<=j->j<n->O.kle (key (g i)) (key (g j))) (hh:ht<n)
  (h:∀k,k<=n->(∀i,i<k->O.kle (key (g i)) (key ky))->(∀i,k<=i->i<n->O.klt (key ky) (key (g i)))->Q (some k) st):wpS (DS prog w) A E s (gal false ky ar bs n ht) Q st:=by
 refine xD (λi => !O.blt (key ky) (key (g i))) (λi hi R hr =>?_) (λi j hij hj hp =>?_) hh (λk hk' h1 h2=>h k hk' (λi hi =>?_) λi hi hn =>?_)
 ·refine DF (bp (hg i hi) ?_)
  rw[if_neg (by simp)]
  exact DF (C.lt _ st ky (g i) _ hk uk (hu i hi) (DK hr))
 ·have a1:O.blt (key ky) (key (g j))=false:=by simpa using hp
  have a2:O.kle (key (g i)) (key ky):=Ee (hs i j hij hj) a1
  have a3:O.blt (key ky) (key (g i))=false:=a2
  simp[a3]
 ·have a1:=h1 i hi
  exact (by simpa using a1:O.blt (key ky) (key (g i))=false)
 ·have a1:=h2 i hi hn
  exact (by simpa using a1:O.blt (key ky) (key (g i))=true)
theorem BD (C:Cmp prog w A s O key U κ){ky:DL}{ar:Array DL}{bs n ht:Nat}{st:D8}{Q:Option Nat->D8->Prop}(g:Nat->DL)(hk:kindOf st=κ)(uk:U ky)
  (hg:∀i,i<n->ar[bs+i]? = some (g i)) (hu:∀i,i<n->U (g i)) (hs:∀i j,i<=j->j<n->O.kle (key (g i)) (key (g j))) (hh:ht<n)
  (h:∀k,k<=n->(∀i,i<k->O.klt (key (g i)) (key ky))->(∀i,k<=i->i<n->O.kle (key ky) (key (g i)))->Q (some k) st):wpS (DS prog w) A E s (gal true ky ar bs n ht) Q st:=by
 refine xD (λi=>O.blt (key (g i)) (key ky)) (λi hi R hr =>?_) (λi j hij hj hp =>?_) hh (λk hk' h1 h2=>h k hk' (λi hi=>h1 i hi) λi hi hn=>h2 i hi hn)
 ·refine DF (bp (hg i hi) ?_)
  rw[if_pos rfl]
  exact C.lt _ st (g i) ky _ hk (hu i hi) uk hr
 ·exact KeyOrd.klt_of_kle_of_klt (hs i j hij hj) hp
end
section
variable  {O:ID}(key:DL->O.α)
def Le (p q:DL):Prop:=O.kle (key p) (key q)
structure MW (a b o:Array DL)(x y:Nat):Prop where
 hx:x<=a.size
 hy:y<=b.size
 perm:(o.toList++(a.toList.drop x++b.toList.drop y)).Perm (a.toList++b.toList)
 sorted:o.toList.Pairwise (Le key)
 below:∀p∈o.toList,∀z∈a.toList.drop x++b.toList.drop y,Le key p z
def eI (a b r:Array DL):Prop:=r.toList.Perm (a.toList++b.toList)/\r.toList.Pairwise (Le key)
variable  {key}
theorem MW.fin {a b o:Array DL}{x y:Nat}(m:MW key a b o x y){t:List DL}{r:Array DL}(hr:r.toList=o.toList++t)(ht:t.Perm (a.toList.drop x++b.toList.drop y))(hs:t.Pairwise (Le key)):eI key a b r:=by
 unfold eI
 rw[hr]
 exact ⟨(Fy _ ht).trans m.perm,E7.mpr ⟨m.sorted,hs,λp hp q hq=>m.below p hp q (ht.mem_iff.mp hq)⟩⟩
theorem MW.take {a b o:Array DL}{x y x' y':Nat}(m:MW key a b o x y){t:List DL}{r:Array DL}(hr:r.toList=o.toList++t)(hx:x'<=a.size)(hy:y'<=b.size)
  (ht:(t++(a.toList.drop x'++b.toList.drop y')).Perm (a.toList.drop x++b.toList.drop y)) (hs:t.Pairwise (Le key)) (hb:∀p∈t,∀z∈a.toList.drop x'++b.toList.drop y',Le key p z):MW key a b r x' y':=by
 have sub:∀z,z∈t\/z∈a.toList.drop x'++b.toList.drop y'->z∈a.toList.drop x++b.toList.drop y:=λz hz=>ht.mem_iff.mp (Dh.mpr hz)
 refine ⟨hx,hy,?_,?_,?_⟩
 ·rw[hr,DQ]
  exact (Fy _ ht).trans m.perm
 ·rw[hr]
  exact E7.mpr ⟨m.sorted,hs,λp hp q hq=>m.below p hp q (sub q (.inl hq))⟩
 ·rw[hr]
  intro p hp z hz
  rcases Dh.mp hp with h | h
  ·exact m.below p h z (sub z (.inr hz))
  ·exact hb p h z hz
theorem drop_cons {α:Type}{l:List α}{i:Nat}{z:α}(h:l[i]? = some z):l.drop i=z :: l.drop (i+1):=by
 obtain ⟨hi,e⟩:=Di.mp h
 rw[JA hi,e]
theorem drop_take {α:Type}(l:List α)(i k:Nat):l.drop i=(l.drop i).take k++l.drop (i+k):=by
 rw[<- Mz,Fz]
theorem aN {a:Array DL}{i:Nat}{z:DL}(h:a[i]? = some z):a.toList[i]? = some z:=by rw[Dt];exact h
theorem MW.kg {a b o:Array DL}{x y:Nat}{z:DL}(m:MW key a b o x y)(h:a[x]? = some z)(ha:a.toList.Pairwise (Le key))(hb:∀t∈b.toList.drop y,Le key z t):MW key a b (o.push z) (x+1) y:=by
 have e:=drop_cons (aN h)
 have hx:x<a.size:=(Fi.mp h).1
 have pa:(z :: a.toList.drop (x+1)).Pairwise (Le key):=by rw[<- e];exact ha.sublist (EV _ _)
 refine m.take (t:=[z]) (by rw[FP]) hx m.hy (by rw[e];exact HH _) (Gg _ _) λp hp t ht =>?_
 have ep:p=z:=by simpa using hp
 subst ep
 rcases Dh.mp ht with q | q
 ·exact (Gz.mp pa).1 t q
 ·exact hb t q
theorem MW.oa {a b o:Array DL}{x y:Nat}{z:DL}(m:MW key a b o x y)(h:b[y]? = some z)(hb:b.toList.Pairwise (Le key))(ha:∀t∈a.toList.drop x,Le key z t):MW key a b (o.push z) x (y+1):=by
 have e:=drop_cons (aN h)
 have hy:y<b.size:=(Fi.mp h).1
 have pb:(z :: b.toList.drop (y+1)).Pairwise (Le key):=by rw[<- e];exact hb.sublist (EV _ _)
 refine m.take (t:=[z]) (by rw[FP]) m.hx hy (by rw[e,List.singleton_append];exact LZ.symm) (Gg _ _) λp hp t ht =>?_
 have ep:p=z:=by simpa using hp
 subst ep
 rcases Dh.mp ht with q | q
 ·exact ha t q
 ·exact (Gz.mp pb).1 t q
theorem ext_toList (a:Array DL)(x k:Nat):(a.extract x (x+k)).toList=(a.toList.drop x).take k:=by
 rw[Ge,Fu,GR]
theorem gO (a:Array DL)(x:Nat):(a.extract x a.size).toList=a.toList.drop x:=by
 rw[Ge,Fu]
 exact Dr (by rw[EO,Dl];exact Dd _)
theorem aO {l:List DL}(h:l.Pairwise (Le key)){i j:Nat}{p q:DL}(hi:l[i]? = some p)(hj:l[j]? = some q)(hij:i<=j):Le key p q:=by
 by_cases e:i=j
 ·subst e
  rw[hi] at hj
  cases hj
  exact FF _
 ·obtain ⟨h1,e1⟩:=Di.mp hi
  obtain ⟨h2,e2⟩:=Di.mp hj
  have:=HI.mp h i j h1 h2 (by lia)
  rw[e1,e2] at this
  exact this
theorem bj {l:List DL}{i:Nat}{t:DL}(h:t∈l.drop i):∃j,i<=j/\l[j]? = some t:=by
 obtain ⟨n,e⟩:=EG.mp h
 rw[G5] at e
 exact ⟨i+n,by lia,e⟩
theorem kh {l:List DL}{i k:Nat}{t:DL}(h:t∈(l.drop i).take k):∃j,j<k/\l[i+j]? = some t:=by
 obtain ⟨n,e⟩:=EG.mp h
 rw[Fm] at e
 split at e
 ·rw[G5] at e
  exact ⟨n,by omega,e⟩
 ·cases e
theorem MW.xE {a b o:Array DL}{x y k:Nat}(m:MW key a b o x y)(hk:x+k<=a.size)(ha:a.toList.Pairwise (Le key))(hb:∀j p,j<k->a.toList[x+j]? = some p->∀t∈b.toList.drop y,Le key p t):MW key a b (o++a.extract x (x+k)) (x+k) y:=by
 refine m.take (t:=(a.toList.drop x).take k) (by rw[Ef,ext_toList]) hk m.hy ?_ ?_ λp hp t ht =>?_
 ·rw[<- DQ, <- drop_take]
 ·exact ha.sublist ((EN _ _).trans (EV _ _))
 ·obtain ⟨j,hj,e⟩:=kh hp
  rcases Dh.mp ht with q | q
  ·obtain ⟨i,hi,e2⟩:=bj q
   exact aO ha e e2 (by lia)
  ·exact hb j p hj e t q
theorem MW.xF {a b o:Array DL}{x y k:Nat}(m:MW key a b o x y)(hk:y+k<=b.size)(hb:b.toList.Pairwise (Le key))(ha:∀j p,j<k->b.toList[y+j]? = some p->∀t∈a.toList.drop x,Le key p t):MW key a b (o++b.extract y (y+k)) x (y+k):=by
 refine m.take (t:=(b.toList.drop y).take k) (by rw[Ef,ext_toList]) m.hx hk ?_ ?_ λp hp t ht =>?_
 ·rw[drop_take b.toList y k]
  have e:((b.toList.drop y).take k++b.toList.drop (y+k)).take k=(b.toList.drop y).take k:=by rw[<- drop_take]
  rw[e]
  refine (List.perm_append_comm_assoc _ _ _)
 ·exact hb.sublist ((EN _ _).trans (EV _ _))
 ·obtain ⟨j,hj,e⟩:=kh hp
  rcases Dh.mp ht with q | q
  ·exact ha j p hj e t q
  ·obtain ⟨i,hi,e2⟩:=bj q
   exact aO hb e e2 (by lia)
theorem MW.vD {a b o:Array DL}{x y:Nat}(m:MW key a b o x y)(ha:a.toList.Pairwise (Le key))(hy:y=b.size):eI key a b (o++a.extract x a.size++b.extract y b.size):=by
 subst hy
 have e:b.toList.drop b.size=[]:=Kl (by rw[Dl];exact Dd _)
 refine m.fin (t:=a.toList.drop x) (by rw[Ef,Ef,gO,gO,e,DZ]) (by rw[e,DZ]) (ha.sublist (EV _ _))
theorem MW.vE {a b o:Array DL}{x y:Nat}(m:MW key a b o x y)(hb:b.toList.Pairwise (Le key))(hx:x=a.size):eI key a b (o++a.extract x a.size++b.extract y b.size):=by
 subst hx
 have e:a.toList.drop a.size=[]:=Kl (by rw[Dl];exact Dd _)
 refine m.fin (t:=b.toList.drop y) (by rw[Ef,Ef,gO,gO,e,DZ]) (by rw[e,G8]) (hb.sublist (EV _ _))
theorem MW.last {a b o:Array DL}{x y:Nat}(m:MW key a b o x y)(ha:a.toList.Pairwise (Le key))(hb:b.toList.Pairwise (Le key))(hx:x+1=a.size)(hl:∀p q,p∈b.toList->a[a.size-1]? = some q->Le key p q):eI key a b (o++b.extract y b.size++a.extract x a.size):=by
 refine m.fin (t:=b.toList.drop y++a.toList.drop x) (by rw[Ef,Ef,gO,gO,DQ]) GA ?_
 refine E7.mpr ⟨hb.sublist (EV _ _),ha.sublist (EV _ _),λp hp q hq=>hl p q (GD hp) ?_⟩
 obtain ⟨i,hi,e⟩:=bj hq
 rw[Dt] at e
 have hi2:i<a.size:=(Fi.mp e).1
 rw[show a.size-1=i by lia]
 exact e
theorem MW.size {a b o:Array DL}{x y:Nat}(m:MW key a b o x y):o.size+(a.size-x)+(b.size-y)=a.size+b.size:=by
 have e:=m.perm.length_eq
 simp only[C8,EO,Dl] at e
 lia
end
structure Sm (st st':D8):Prop where
 k:kindOf st'=kindOf st
 a:DP st'=DP st
 p:D1 st'=D1 st
 f:failedOf st'=failedOf st
theorem Sm.refl (st:D8):Sm st st:=⟨rfl,rfl,rfl,rfl⟩
theorem Sm.mg {st st':D8}(h:Sm st st')(n:Nat):Sm st (SortSt.mk' (kindOf st') (DP st') (D1 st') n (failedOf st')):=⟨h.k,h.a,h.p,h.f⟩
section
variable  {prog:DH}{w:Eb}{A:Ep}{E:C9->Dg->Prop}{s:Dg}{O:ID}{key:DL->O.α}{U:DL->Prop}{κ:SortKind}
theorem bz {a:Array DL}{i:Nat}(h:i<a.size):∃z,a[i]? = some z:=⟨a[i],by simp[h]⟩
theorem ck {a:Array DL}{i:Nat}{z:DL}(h:a[i]? = some z):z∈a.toList:=EG.mpr ⟨i,by rw[Dt];exact h⟩
theorem ltq {x n:Nat}(h:x<=n)(c:¬ (x == n)=true):x<n:=Ln h λz=>c (beq_iff_eq.mpr z)
abbrev LoC:=Option (Array DL)×Array DL×Nat×Nat×Nat×Nat×Nat
def zB (a b o:Array DL)(x y mg ac bc:Nat):StateT D8 Sem (ForInStep LoC):=do
  let z ← elem' a x
  if (x+1+1 == a.size)=true then pure (.done (some (o.push z++b.extract y b.size++a.extract (x+1) a.size),o.push z,x+1,y,mg,ac,bc))
  else if (decide (ac<7) && decide (bc<7))=true then pure (.done (none,o.push z,x+1,y,mg,ac,bc))
  else pure (.yield (none,o.push z,x+1,y,mg,ac,bc))
def zC (a b o:Array DL)(x y mg ac bc:Nat):StateT D8 Sem (ForInStep LoC):=do
  let z ← elem' b y
  if (y+1 == b.size)=true then pure (.done (some (o.push z++a.extract x a.size++b.extract (y+1) b.size),o.push z,x,y+1,mg,ac,bc))
  else do
    let z2 ← elem' a x
    let __x ← gal true z2 b (y+1) (b.size-(y+1)) 0
    match __x with
    | some k =>
      if k>0 then
        if (y+1+k == b.size)=true then pure (.done (some (o.push z++b.extract (y+1) (y+1+k)++a.extract x a.size++b.extract (y+1+k) b.size),o.push z++b.extract (y+1) (y+1+k),x,y+1+k,mg,ac,k))
        else zB a b (o.push z++b.extract (y+1) (y+1+k)) x (y+1+k) mg ac k
      else zB a b (o.push z) x (y+1) mg ac k
    | _=>pure (.done (some (o.push z++a.extract x a.size++b.extract (y+1) b.size),o.push z,x,y+1,mg,ac,bc))
def vF (a b p:Array DL)(x y ac bc mg:Nat):StateT D8 Sem (ForInStep LoC):=do
  modify (λs=>SortSt.mk' (kindOf s) (DP s) (D1 s) mg (failedOf s))
  let z ← elem' b y
  let __x ← gal false z a x (a.size-x) 0
  match __x with
  | some k =>
    if k>0 then
      if (x+k+1 == a.size)=true then pure (.done (some (p++a.extract x (x+k)++b.extract y b.size++a.extract (x+k) a.size),p++a.extract x (x+k),x+k,y,mg,k,bc))
      else if (x+k == a.size)=true then pure (.done (some (p++a.extract x (x+k)++a.extract (x+k) a.size++b.extract y b.size),p++a.extract x (x+k),x+k,y,mg,k,bc))
      else zC a b (p++a.extract x (x+k)) (x+k) y mg k bc
    else zC a b p x y mg k bc
  | _=>pure (.done (some (p++a.extract x a.size++b.extract y b.size),p,x,y,mg,ac,bc))
def LoQ (key:DL->O.α)(a b:Array DL)(st:D8)(n:Nat)(r:ForInStep LoC)(st':D8):Prop:=match r with
 | .done c=>Sm st st'/\((∃r p x y mg ac bc,c=(some r,p,x,y,mg,ac,bc)/\eI key a b r)\/∃p x y mg ac bc,c=(none,p,x,y,mg,ac,bc)/\MW key a b p x y/\x+1<a.size/\y<b.size/\n<=p.size)
 | .yield c=>Sm st st'/\∃p x y mg ac bc,c=(none,p,x,y,mg,ac,bc)/\MW key a b p x y/\x+1<a.size/\y<b.size/\n<=p.size
theorem LoQ.out {a b:Array DL}{st st':D8}{n:Nat}{r:Array DL}{c:Array DL×Nat×Nat×Nat×Nat×Nat}(sm:Sm st st')(f:eI key a b r):LoQ key a b st n (.done (some r,c)) st':=by
 obtain ⟨p,x,y,mg,ac,bc⟩:=c
 exact ⟨sm,.inl ⟨_,_,_,_,_,_,_,rfl,f⟩⟩
theorem uq {a b:Array DL}{st st':D8}(ha:a.toList.Pairwise (Le key))(hb:b.toList.Pairwise (Le key))(hl:∀p q,p∈b.toList->a[a.size-1]? = some q->Le key p q)
  {o:Array DL} {x y mg ac bc n:Nat} {za:DL} (sm:Sm st st') (ea:a[x]? = some za) (m4:MW key a b (o.push za) (x+1) y) (hx:x+1<a.size) (hy:y<b.size) (hn:n<=o.size):wpS (DS prog w) A E s (zB a b o x y mg ac bc) (LoQ key a b st n) st':=by
 unfold zB
 refine DF (bp ea ?_)
 by_cases d5:(x+1+1 == a.size)=true
 ·rw[if_pos d5]
  exact DK (LoQ.out sm (m4.last ha hb (beq_iff_eq.mp d5) hl))
 rw[if_neg d5]
 have hx2:x+1+1<a.size:=ltq hx d5
 have hn':n<=(o.push za).size:=by rw[GI];exact Im hn
 split
 ·exact DK ⟨sm,.inr ⟨_,_,_,_,_,_,rfl,m4,hx2,hy,hn'⟩⟩
 ·exact DK ⟨sm,_,_,_,_,_,_,rfl,m4,hx2,hy,hn'⟩
theorem ur (C:Cmp prog w A s O key U κ){a b:Array DL}{st st':D8}(hκ:kindOf st=κ)(ua:∀p∈a.toList,U p)(ub:∀p∈b.toList,U p)
  (ha:a.toList.Pairwise (Le key)) (hb:b.toList.Pairwise (Le key)) (hl:∀p q,p∈b.toList->a[a.size-1]? = some q->Le key p q)
  {o:Array DL} {x y mg ac bc n:Nat} {zb:DL} (sm:Sm st st') (eb:b[y]? = some zb) (mk:MW key a b o x y) (bl:∀t∈a.toList.drop x,Le key zb t) (hx1:x+1<a.size) (hy:y<b.size) (hn:n<=o.size):wpS (DS prog w) A E s (zC a b o x y mg ac bc) (LoQ key a b st n) st':=by
 unfold zC
 refine DF (bp eb ?_)
 have m2:=mk.oa eb hb bl
 by_cases d3:(y+1 == b.size)=true
 ·rw[if_pos d3]
  exact DK (LoQ.out sm (m2.vD ha (beq_iff_eq.mp d3)))
 rw[if_neg d3]
 have hy1:y+1<b.size:=ltq hy d3
 have hxa:x<a.size:=JI hx1
 obtain ⟨za,ea⟩:=bz hxa
 refine DF (bp ea ?_)
 refine DF (BD C (λi=>(b[y+1+i]?).getD za) (sm.k.trans hκ) (ua _ (ck ea)) (λi hi =>?_) (λi hi =>?_) (λi j hij hj =>?_) (LG hy1) λk1 hk1 g1 g2 =>?_)
 ·obtain ⟨z,e⟩:=bz (show y+1+i<b.size by omega)
  rw[e];rfl
 ·obtain ⟨z,e⟩:=bz (show y+1+i<b.size by omega)
  rw[e];exact ub _ (ck e)
 ·obtain ⟨z,e⟩:=bz (show y+1+i<b.size by omega)
  obtain ⟨z',e'⟩:=bz (show y+1+j<b.size by omega)
  rw[e,e'];exact aO hb (aN e) (aN e') (HL hij _)
 dsimp only at g1 g2 ⊢
 have tb:∀j q,j<k1->b.toList[y+1+j]? = some q->∀t∈a.toList.drop x,Le key q t:=λj q hj e t ht=>by
  have z:=g1 j hj
  rw[Dt] at e
  rw[e] at z
  obtain ⟨n,hn,e2⟩:=bj ht
  exact Ee (E6 z) (aO ha (aN ea) e2 hn)
 have hk1':y+1+k1<=b.size:=by omega
 have m3:=m2.xF (k:=k1) hk1' hb tb
 have bl2:∀t∈b.toList.drop (y+1+k1),Le key za t:=λt ht=>by
  obtain ⟨n,hn,e2⟩:=bj ht
  rw[Dt] at e2
  have hn2:n<b.size:=(Fi.mp e2).1
  have z:=g2 (n-(y+1)) (by omega) (by omega)
  rw[show y+1+(n-(y+1))=n by omega,e2] at z
  exact z
 have hn1:n<=(o.push zb).size:=by rw[GI];exact Im hn
 by_cases k2:k1>0
 ·rw[if_pos k2]
  by_cases d4:(y+1+k1 == b.size)=true
  ·rw[if_pos d4]
   exact DK (LoQ.out sm (m3.vD ha (beq_iff_eq.mp d4)))
  rw[if_neg d4]
  exact uq ha hb hl sm ea (m3.kg ea ha bl2) hx1 (ltq hk1' d4) (DU hn1 (by rw[Hr];exact F3 _ _))
 ·rw[if_neg k2]
  obtain rfl:k1=0:=G3 k2
  exact uq ha hb hl sm ea (m2.kg ea ha bl2) hx1 hy1 hn1
theorem uv (C:Cmp prog w A s O key U κ){a b:Array DL}{st st':D8}(hκ:kindOf st=κ)(ua:∀p∈a.toList,U p)(ub:∀p∈b.toList,U p)
  (ha:a.toList.Pairwise (Le key)) (hb:b.toList.Pairwise (Le key)) (hl:∀p q,p∈b.toList->a[a.size-1]? = some q->Le key p q)
  {p:Array DL} {x y ac bc n:Nat} (mg:Nat) (sm:Sm st st') (m:MW key a b p x y) (hx:x+1<a.size) (hy:y<b.size) (hn:n<=p.size):wpS (DS prog w) A E s (vF a b p x y ac bc mg) (LoQ key a b st n) st':=by
 unfold vF
 obtain ⟨zb,eb⟩:=bz hy
 refine DF (Gj ?_)
 refine DF (bp eb ?_)
 refine DF (BC C (λi=>(a[x+i]?).getD zb) ((sm.mg _).k.trans hκ) (ub _ (ck eb)) (λi hi =>?_) (λi hi =>?_) (λi j hij hj =>?_) (LG (JI hx)) λk hk h1 h2 =>?_)
 ·obtain ⟨z,e⟩:=bz (show x+i<a.size by lia)
  rw[e];rfl
 ·obtain ⟨z,e⟩:=bz (show x+i<a.size by lia)
  rw[e];exact ua _ (ck e)
 ·obtain ⟨z,e⟩:=bz (show x+i<a.size by lia)
  obtain ⟨z',e'⟩:=bz (show x+j<a.size by lia)
  rw[e,e'];exact aO ha (aN e) (aN e') (HL hij _)
 dsimp only at h1 h2 ⊢
 have ta:∀j q,j<k->a.toList[x+j]? = some q->∀t∈b.toList.drop y,Le key q t:=λj q hj e t ht=>by
  have z:=h1 j hj
  rw[Dt] at e
  rw[e] at z
  obtain ⟨n,hn,e2⟩:=bj ht
  exact Ee (show O.kle (key q) (key zb) from z) (aO hb (aN eb) e2 hn)
 have hk':x+k<=a.size:=by lia
 have mk:=m.xE (k:=k) hk' ha ta
 have bl:∀t∈a.toList.drop (x+k),Le key zb t:=λt ht=>by
  obtain ⟨n,hn,e2⟩:=bj ht
  rw[Dt] at e2
  have hn2:n<a.size:=(Fi.mp e2).1
  have z:=h2 (n-x) (by lia) (by lia)
  rw[show x+(n-x)=n by lia,e2] at z
  exact E6 z
 by_cases k0:k>0
 ·rw[if_pos k0]
  by_cases d1:(x+k+1 == a.size)=true
  ·rw[if_pos d1]
   exact DK (LoQ.out (sm.mg _) (mk.last ha hb (beq_iff_eq.mp d1) hl))
  rw[if_neg d1]
  by_cases d2:(x+k == a.size)=true
  ·rw[if_pos d2]
   exact DK (LoQ.out (sm.mg _) (mk.vE hb (beq_iff_eq.mp d2)))
  rw[if_neg d2]
  exact ur C hκ ua ub ha hb hl (sm.mg _) eb mk bl (ltq (ltq hk' d2) d1) hy (DU hn (by rw[Hr];exact F3 _ _))
 ·rw[if_neg k0]
  obtain rfl:k=0:=G3 k0
  exact ur C hκ ua ub ha hb hl (sm.mg _) eb m bl hx hy hn
theorem zD (C:Cmp prog w A s O key U κ){a b:Array DL}{st st':D8}(hκ:kindOf st=κ)(ua:∀p∈a.toList,U p)(ub:∀p∈b.toList,U p)
  (ha:a.toList.Pairwise (Le key)) (hb:b.toList.Pairwise (Le key)) (hl:∀p q,p∈b.toList->a[a.size-1]? = some q->Le key p q)
  {p:Array DL} {x y ac bc n mg:Nat} (sm:Sm st st') (m:MW key a b p x y) (hx:x+1<a.size) (hy:y<b.size) (hn:n<=p.size):wpS (DS prog w) A E s (if mg>1 then vF a b p x y ac bc (mg-1) else vF a b p x y ac bc mg) (LoQ key a b st n) st':=by
 split
 ·exact uv C hκ ua ub ha hb hl (mg-1) sm m hx hy hn
 ·exact uv C hκ ua ub ha hb hl mg sm m hx hy hn
abbrev LoD:=Option (Array DL)×Array DL×Nat×Nat×Nat×Nat
abbrev LoE:=Option (Array DL)×Array DL×Nat×Nat×Nat
def xG (a b:Array DL)(mg:Nat)(c:LoD):StateT D8 Sem (ForInStep LoD):=do
  let u ← elem' b c.2.2.2.1
  let v ← elem' a c.2.2.1
  let __x ← lt' u v
  match __x with
  | some bw =>
    if bw=true then do
      let z ← elem' b c.2.2.2.1
      if (c.2.2.2.1+1 == b.size)=true then pure (.done (some (c.2.1.push z++a.extract c.2.2.1 a.size++b.extract (c.2.2.2.1+1) b.size),c.2.1.push z,c.2.2.1,c.2.2.2.1+1,0,c.2.2.2.2.2+1))
      else if c.2.2.2.2.2+1≥mg then pure (.done (none,c.2.1.push z,c.2.2.1,c.2.2.2.1+1,0,c.2.2.2.2.2+1))
      else pure (.yield (none,c.2.1.push z,c.2.2.1,c.2.2.2.1+1,0,c.2.2.2.2.2+1))
    else do
      let z ← elem' a c.2.2.1
      if (c.2.2.1+1+1 == a.size)=true then pure (.done (some (c.2.1.push z++b.extract c.2.2.2.1 b.size++a.extract (c.2.2.1+1) a.size),c.2.1.push z,c.2.2.1+1,c.2.2.2.1,c.2.2.2.2.1+1,0))
      else if c.2.2.2.2.1+1≥mg then pure (.done (none,c.2.1.push z,c.2.2.1+1,c.2.2.2.1,c.2.2.2.2.1+1,0))
      else pure (.yield (none,c.2.1.push z,c.2.2.1+1,c.2.2.2.1,c.2.2.2.2.1+1,0))
  | _=>pure (.done (some (c.2.1++a.extract c.2.2.1 a.size++b.extract c.2.2.2.1 b.size),c.2.1,c.2.2.1,c.2.2.2.1,c.2.2.2.2.1,c.2.2.2.2.2))
def BE (a b:Array DL)(c:LoC):StateT D8 Sem (ForInStep LoC) :=
 if c.2.2.2.2.1>1 then vF a b c.2.1 c.2.2.1 c.2.2.2.1 c.2.2.2.2.2.1 c.2.2.2.2.2.2 (c.2.2.2.2.1-1) else vF a b c.2.1 c.2.2.1 c.2.2.2.1 c.2.2.2.2.2.1 c.2.2.2.2.2.2 c.2.2.2.2.1
def sP (a b:Array DL)(c:LoE):StateT D8 Sem (ForInStep LoE):=do
  let d ← forIn [0:a.size+b.size] ((none,c.2.1,c.2.2.1,c.2.2.2.1,0,0):LoD) λ_ d=>xG a b c.2.2.2.2 d
  match d.1 with
  | some r=>pure (.done (some r,d.2.1,d.2.2.1,d.2.2.2.1,c.2.2.2.2))
  | none=>do
    rule "list.sort.gallop"
    let e ← forIn [0:a.size+b.size] ((none,d.2.1,d.2.2.1,d.2.2.2.1,c.2.2.2.2+1,d.2.2.2.2.1,d.2.2.2.2.2):LoC) λ_ e=>BE a b e
    match e.1 with
    | some r=>pure (.done (some r,e.2.1,e.2.2.1,e.2.2.2.1,e.2.2.2.2.1))
    | none=>do
      modify (λs=>SortSt.mk' (kindOf s) (DP s) (D1 s) (e.2.2.2.2.1+1) (failedOf s))
      pure (.yield (none,e.2.1,e.2.2.1,e.2.2.2.1,e.2.2.2.2.1+1))
theorem zE (a b:Array DL):mLo a b=(do
    rule "list.sort.merge-lo"
    let z ← elem' b 0
    if (1 == b.size)=true then pure (#[z]++a.extract 0 a.size++b.extract 1 b.size)
    else if (0+1 == a.size)=true then pure (#[z]++b.extract 1 b.size++a.extract 0 a.size)
    else do
      let g ← get
      let c ← forIn [0:a.size+b.size] ((none, #[z],0,1,gallopOf g):LoE) λ_ c=>sP a b c
      match c.1 with
      | some r=>pure r
      | none=>unsupported "internal:list.sort.merge-bound"):=by
  kernel_rfl
def LdI (key:DL->O.α)(a b:Array DL)(st:D8)(n:Nat)(c:LoD)(st':D8):Prop:=Sm st st'/\∃o' x y ac bc,c=(none,o',x,y,ac,bc)/\MW key a b o' x y/\x+1<a.size/\y<b.size/\n<=o'.size
def LdQ (key:DL->O.α)(a b:Array DL)(st:D8)(n:Nat)(c:LoD)(st':D8):Prop:=Sm st st'/\((∃r o x y ac bc,c=(some r,o,x,y,ac,bc)/\eI key a b r)\/∃o' x y ac bc,c=(none,o',x,y,ac,bc)/\MW key a b o' x y/\x+1<a.size/\y<b.size/\n<=o'.size)
theorem xH (C:Cmp prog w A s O key U κ){a b:Array DL}{st st':D8}(hκ:kindOf st=κ)(ua:∀p∈a.toList,U p)(ub:∀p∈b.toList,U p)
  (ha:a.toList.Pairwise (Le key)) (hb:b.toList.Pairwise (Le key)) (hl:∀p q,p∈b.toList->a[a.size-1]? = some q->Le key p q)
  {mg n m':Nat} {c:LoD} (I:LdI key a b st n c st') (hm:m'<=n+1) {Q:ForInStep LoD->D8->Prop} (h:∀r st',(match r with | .done c'=>LdQ key a b st (n+1) c' st' | .yield c'=>LdI key a b st m' c' st')->Q r st'):wpS (DS prog w) A E s (xG a b mg c) Q st':=by
 obtain ⟨sm2,o',x,y,ac,bc,rfl,m,hx,hy,hz⟩:=I
 unfold xG
 obtain ⟨za,ea⟩:=bz (JI hx)
 obtain ⟨zb,eb⟩:=bz hy
 refine DF (bp eb (DF (bp ea (DF (C.lt _ st' zb za _ (sm2.k.trans hκ) (ub _ (ck eb)) (ua _ (ck ea)) ?_)))))
 dsimp only
 have sz:∀z,n+1<=(o'.push z).size:=λz=>by rw[GI];exact Ka hz
 cases hlt:O.blt (key zb) (key za) with
 | true =>
  rw[if_pos rfl]
  refine DF (bp eb ?_)
  have m1:=m.oa eb hb λt ht=>by
   obtain ⟨n,hn,e⟩:=bj ht
   exact Ee (E6 hlt) (aO ha (aN ea) e hn)
  by_cases c3:(y+1 == b.size)=true
  ·rw[if_pos c3]
   exact DK (h _ _ ⟨sm2,.inl ⟨_,_,_,_,_,_,rfl,m1.vD ha (beq_iff_eq.mp c3)⟩⟩)
  ·rw[if_neg c3]
   have c3':=ltq hy c3
   split
   ·exact DK (h _ _ ⟨sm2,.inr ⟨_,_,_,_,_,rfl,m1,hx,c3',sz _⟩⟩)
   ·exact DK (h _ _ ⟨sm2,_,_,_,_,_,rfl,m1,hx,c3',DU hm (sz _)⟩)
 | false =>
  rw[if_neg Dv]
  refine DF (bp ea ?_)
  have m1:=m.kg ea ha λt ht=>by
   obtain ⟨n,hn,e⟩:=bj ht
   exact Ee (show O.kle (key za) (key zb) from hlt) (aO hb (aN eb) e hn)
  by_cases c3:(x+1+1 == a.size)=true
  ·rw[if_pos c3]
   exact DK (h _ _ ⟨sm2,.inl ⟨_,_,_,_,_,_,rfl,m1.last ha hb (beq_iff_eq.mp c3) hl⟩⟩)
  ·rw[if_neg c3]
   have c3':=ltq hx c3
   split
   ·exact DK (h _ _ ⟨sm2,.inr ⟨_,_,_,_,_,rfl,m1,c3',hy,sz _⟩⟩)
   ·exact DK (h _ _ ⟨sm2,_,_,_,_,_,rfl,m1,c3',hy,DU hm (sz _)⟩)
def LeI (key:DL->O.α)(a b:Array DL)(st:D8)(n:Nat)(c:LoE)(st':D8):Prop:=Sm st st'/\∃o x y mg,c=(none,o,x,y,mg)/\MW key a b o x y/\x+1<a.size/\y<b.size/\n+1<=o.size
def LeQ (key:DL->O.α)(a b:Array DL)(st:D8)(c:LoE)(st':D8):Prop:=Sm st st'/\((∃r o x y mg,c=(some r,o,x,y,mg)/\eI key a b r)\/∃o x y mg,c=(none,o,x,y,mg)/\MW key a b o x y/\x+1<a.size/\y<b.size/\a.size+b.size+1<=o.size)
theorem vG (C:Cmp prog w A s O key U κ){a b:Array DL}{st st':D8}(hκ:kindOf st=κ)(ua:∀p∈a.toList,U p)(ub:∀p∈b.toList,U p)
  (ha:a.toList.Pairwise (Le key)) (hb:b.toList.Pairwise (Le key)) (na:0<a.size) (hl:∀p q,p∈b.toList->a[a.size-1]? = some q->Le key p q)
  {n:Nat} {c:LoE} (I:LeI key a b st n c st'):wpS (DS prog w) A E s (sP a b c) (λr st'=>match r with | .done c'=>LeQ key a b st c' st' | .yield c'=>LeI key a b st (n+1) c' st') st':=by
 obtain ⟨sm1,o,x,y,mg,rfl,m,hx,hy,hz⟩:=I
 unfold sP
 have q1:1<=a.size+b.size:=DU na (F3 _ _)
 refine DF (FU (EX (I:=λj c st'=>LdI key a b st (o.size+min j 1) c st') (Q:=LdQ key a b st (o.size+1)) (λj c st2 _ hj J=>xH (n:=o.size+min j 1) (m':=o.size+min (j+1) 1) C hκ ua ub ha hb hl J (by lia) λr st' k =>?_) (λc st' J =>?_) ⟨sm1,o,x,y,0,0,rfl,m,hx,hy,Dd _⟩) ?_)
 ·cases r with
  | done c'=>exact k.imp id λz=>z.imp id λ⟨o',x,y,ac,bc,e,m,hx,hy,hz⟩=>⟨o',x,y,ac,bc,e,m,hx,hy,by lia⟩
  | yield c'=>exact k
 ·obtain ⟨sm,o',x,y,ac,bc,e,m,hx,hy,hz⟩:=J
  exact ⟨sm,.inr ⟨o',x,y,ac,bc,e,m,hx,hy,by lia⟩⟩
 rintro c st2 ⟨sm2,⟨r,o',x,y,ac,bc,rfl,fr⟩ | ⟨o',x,y,ac,bc,rfl,m,hx,hy,hz2⟩⟩
 ·exact DK ⟨sm2,.inl ⟨_,_,_,_,_,rfl,fr⟩⟩
 dsimp only
 refine DF (Jw (FI ⟨rfl,?_⟩))
 refine DF (FU (EX (I:=λ_ c st'=>LoQ key a b st o'.size (.yield c) st') (Q:=λc st'=>LoQ key a b st o'.size (.done c) st') (λj c st3 _ hj J =>?_) (λc st' J=>⟨J.1,.inr J.2⟩) ⟨sm2,o',x,y,_,ac,bc,rfl,m,hx,hy,Dd _⟩) ?_)
 ·obtain ⟨sm3,p,x,y,mg,ac,bc,rfl,m,hx,hy,hz3⟩:=J
  refine FU (zD C hκ ua ub ha hb hl sm3 m hx hy hz3) ?_
  intro r st' h
  cases r <;> exact h
 rintro c st3 ⟨sm3,⟨r,p,x,y,mg,ac,bc,rfl,fr⟩ | ⟨p,x,y,mg,ac,bc,rfl,m,hx,hy,hz3⟩⟩
 ·exact DK ⟨sm3,.inl ⟨_,_,_,_,_,rfl,fr⟩⟩
 ·dsimp only
  exact DF (Gj (DK ⟨sm3.mg _,p,x,y,_,rfl,m,hx,hy,by lia⟩))
theorem BF (C:Cmp prog w A s O key U κ){a b:Array DL}{st:D8}{Q:Array DL->D8->Prop}(hκ:kindOf st=κ)(ua:∀p∈a.toList,U p)(ub:∀p∈b.toList,U p)
  (ha:a.toList.Pairwise (Le key)) (hb:b.toList.Pairwise (Le key)) (na:0<a.size) (nb:0<b.size) (h0:∀p q,b[0]? = some p->a[0]? = some q->Le key p q) (hl:∀p q,p∈b.toList->a[a.size-1]? = some q->Le key p q)
  (h:∀r st',Sm st st'->eI key a b r->Q r st'):wpS (DS prog w) A E s (mLo a b) Q st:=by
 rw[zE]
 refine DF (Jw (FI ⟨rfl,?_⟩))
 obtain ⟨b0,eb0⟩:=bz nb
 obtain ⟨a0,ea0⟩:=bz na
 have a0le:∀t∈a.toList,Le key a0 t:=λt ht=>by
  obtain ⟨i,e⟩:=EG.mp ht
  exact aO ha (aN ea0) e (D5 _)
 have m0:MW key a b #[] 0 0:=⟨D5 _,D5 _,HH _,List.Pairwise.nil,λp hp=>by cases hp⟩
 have m1:MW key a b #[b0] 0 1:=m0.oa eb0 hb λt ht=>Ee (h0 _ _ eb0 ea0) (a0le t ht)
 refine DF (bp eb0 ?_)
 by_cases c1:(1 == b.size)=true
 ·rw[if_pos c1]
  exact DK (h _ st (Sm.refl st) (m1.vD ha (beq_iff_eq.mp c1)))
 rw[if_neg c1]
 by_cases c2:(0+1 == a.size)=true
 ·rw[if_pos c2]
  exact DK (h _ st (Sm.refl st) (m1.last ha hb (beq_iff_eq.mp c2) hl))
 rw[if_neg c2]
 refine DF (Jh ?_)
 refine DF (FU (EX (I:=λi c st'=>LeI key a b st i c st') (Q:=LeQ key a b st) (λi c st1 _ _ J=>FU (vG C hκ ua ub ha hb na hl J) λr st' h=>by cases r <;> exact h) (λc st' J =>?_) ⟨Sm.refl st,_,_,_,_,rfl,m1,ltq na c2,ltq nb c1,Dd _⟩) ?_)
 ·obtain ⟨sm,o,x,y,mg,e,m,hx,hy,hz⟩:=J
  exact ⟨sm,.inr ⟨o,x,y,mg,e,m,hx,hy,by lia⟩⟩
 rintro c st' ⟨sm,⟨r,o,x,y,mg,rfl,fr⟩ | ⟨o,x,y,mg,rfl,m,hx,hy,hz⟩⟩
 ·exact DK (h r st' sm fr)
 ·have:=m.size
  lia
end
section
variable  {O:ID}(key:DL->O.α)
structure MV (a b o:Array DL)(x y:Nat):Prop where
 hx:x<=a.size
 hy:y<=b.size
 perm:((a.toList.take x++b.toList.take y)++o.toList.reverse).Perm (a.toList++b.toList)
 sorted:o.toList.reverse.Pairwise (Le key)
 above:∀p∈a.toList.take x++b.toList.take y,∀q∈o.toList.reverse,Le key p q
variable  {key}
theorem MV.fin {a b o:Array DL}{x y:Nat}(m:MV key a b o x y){t:List DL}{r:Array DL}(hr:r.toList=t++o.toList.reverse)(ht:t.Perm (a.toList.take x++b.toList.take y))(hs:t.Pairwise (Le key)):eI key a b r:=by
 unfold eI
 rw[hr]
 exact ⟨(Gs _ ht).trans m.perm,E7.mpr ⟨hs,m.sorted,λp hp q hq=>m.above p (ht.mem_iff.mp hp) q hq⟩⟩
theorem MV.take {a b o:Array DL}{x y x' y':Nat}(m:MV key a b o x y){t:List DL}{r:Array DL}(hr:r.toList.reverse=t++o.toList.reverse)(hx:x'<=a.size)(hy:y'<=b.size)
  (ht:((a.toList.take x'++b.toList.take y')++t).Perm (a.toList.take x++b.toList.take y)) (hs:t.Pairwise (Le key)) (hb:∀p∈a.toList.take x'++b.toList.take y',∀q∈t,Le key p q):MV key a b r x' y':=by
 have sub:∀z,z∈a.toList.take x'++b.toList.take y'\/z∈t->z∈a.toList.take x++b.toList.take y:=λz hz=>ht.mem_iff.mp (Dh.mpr hz)
 refine ⟨hx,hy,?_,?_,?_⟩
 ·rw[hr, <- DQ]
  exact (Gs _ ht).trans m.perm
 ·rw[hr]
  exact E7.mpr ⟨hs,m.sorted,λp hp q hq=>m.above p (sub p (.inr hp)) q hq⟩
 ·rw[hr]
  intro p hp z hz
  rcases Dh.mp hz with h | h
  ·exact hb p hp z h
  ·exact m.above p (sub p (.inl hp)) z h
theorem bA {l:List DL}{k:Nat}{t:DL}(h:t∈l.take k):∃j,j<k/\l[j]? = some t:=by
 obtain ⟨n,e⟩:=EG.mp h
 rw[Fm] at e
 split at e
 ·exact ⟨n,by omega,e⟩
 ·cases e
theorem og {l:List DL}{x:Nat}{z:DL}(hx:1<=x)(h:l[x-1]? = some z):l.take x=l.take (x-1)++[z]:=by
 obtain ⟨n,rfl⟩:∃n,x=n+1:=⟨x-1,by lia⟩
 rw[Nat.add_sub_cancel] at h ⊢
 rw[D3,h]
 rfl
theorem uw (a:Array DL)(c x:Nat)(hx:x<=a.size):(a.extract c x).toList=(a.toList.take x).drop c:=by
 rw[Ge,Fu,List.drop_take]
theorem gP (a:Array DL)(x:Nat):(a.extract 0 x).toList=a.toList.take x:=by
 rw[Ge,Fu,JB,LS]
theorem MV.kg {a b o:Array DL}{x y:Nat}{z:DL}(m:MV key a b o x y)(h1:1<=x)(h:a[x-1]? = some z)(ha:a.toList.Pairwise (Le key))(hb:∀t∈b.toList.take y,Le key t z):MV key a b (o.push z) (x-1) y:=by
 have e:=og h1 (aN h)
 refine m.take (t:=[z]) (by rw[FP,GS];rfl) (by have:=m.hx;lia) m.hy ?_ (Gg _ _) λp hp q hq =>?_
 ·rw[e,DQ,DQ]
  exact Fy _ GA
 ·have eq:q=z:=by simpa using hq
  subst eq
  rcases Dh.mp hp with r | r
  ·obtain ⟨j,hj,e2⟩:=bA r
   exact aO ha e2 (aN h) (by lia)
  ·exact hb p r
theorem MV.oa {a b o:Array DL}{x y:Nat}{z:DL}(m:MV key a b o x y)(h1:1<=y)(h:b[y-1]? = some z)(hb:b.toList.Pairwise (Le key))(ha:∀t∈a.toList.take x,Le key t z):MV key a b (o.push z) x (y-1):=by
 have e:=og h1 (aN h)
 refine m.take (t:=[z]) (by rw[FP,GS];rfl) m.hx (by have:=m.hy;lia) ?_ (Gg _ _) λp hp q hq =>?_
 ·rw[e,DQ]
 ·have eq:q=z:=by simpa using hq
  subst eq
  rcases Dh.mp hp with r | r
  ·exact ha p r
  ·obtain ⟨j,hj,e2⟩:=bA r
   exact aO hb e2 (aN h) (by lia)
theorem ux (l:List DL){c x:Nat}(h:c<=x):l.take x=l.take c++(l.take x).drop c:=by
 have e:(l.take x).take c=l.take c:=by rw[List.take_take,Nat.min_eq_left h]
 rw[<- e,Fz]
theorem lS {l:List DL}{c x:Nat}{t:DL}(h:t∈(l.take x).drop c):∃j,c<=j/\j<x/\l[j]? = some t:=by
 obtain ⟨j,hj,e⟩:=bj h
 rw[Fm] at e
 split at e
 ·exact ⟨j,hj,by omega,e⟩
 ·cases e
theorem MV.xE {a b o:Array DL}{x y c:Nat}(m:MV key a b o x y)(hc:c<=x)(ha:a.toList.Pairwise (Le key))(hb:∀j p,c<=j->j<x->a.toList[j]? = some p->∀t∈b.toList.take y,Le key t p):MV key a b (o++(a.extract c x).reverse) c y:=by
 refine m.take (t:=(a.toList.take x).drop c) (by rw[Ef,GS,GF,KS,uw _ _ _ m.hx]) (DU hc m.hx) m.hy ?_ ?_ λp hp q hq =>?_
 ·refine List.Perm.trans ?_ (Gs _ (List.Perm.of_eq (ux a.toList hc).symm))
  rw[DQ,DQ]
  exact Fy _ GA
 ·exact ha.sublist ((EV _ _).trans (EN _ _))
 ·obtain ⟨j,h1,h2,e⟩:=lS hq
  rcases Dh.mp hp with r | r
  ·obtain ⟨i,hi,e2⟩:=bA r
   exact aO ha e2 e (by lia)
  ·exact hb j q h1 h2 e p r
theorem MV.xF {a b o:Array DL}{x y c:Nat}(m:MV key a b o x y)(hc:c<=y)(hb:b.toList.Pairwise (Le key))(ha:∀j p,c<=j->j<y->b.toList[j]? = some p->∀t∈a.toList.take x,Le key t p):MV key a b (o++(b.extract c y).reverse) x c:=by
 refine m.take (t:=(b.toList.take y).drop c) (by rw[Ef,GS,GF,KS,uw _ _ _ m.hy]) m.hx (DU hc m.hy) ?_ ?_ λp hp q hq =>?_
 ·rw[DQ, <- ux b.toList hc]
 ·exact hb.sublist ((EV _ _).trans (EN _ _))
 ·obtain ⟨j,h1,h2,e⟩:=lS hq
  rcases Dh.mp hp with r | r
  ·exact ha j q h1 h2 e p r
  ·obtain ⟨i,hi,e2⟩:=bA r
   exact aO hb e2 e (by lia)
theorem MV.vE {a b o:Array DL}{x y:Nat}(m:MV key a b o x y)(hb:b.toList.Pairwise (Le key))(hx:x=0):eI key a b (a.extract 0 x++b.extract 0 y++o.reverse):=by
 subst hx
 refine m.fin (t:=b.toList.take y) (by rw[Ef,Ef,gP,gP,GF,Iu,G8]) (by rw[Iu,G8]) (hb.sublist (EN _ _))
theorem MV.vD {a b o:Array DL}{x y:Nat}(m:MV key a b o x y)(ha:a.toList.Pairwise (Le key))(hy:y=0):eI key a b (a.extract 0 x++b.extract 0 y++o.reverse):=by
 subst hy
 refine m.fin (t:=a.toList.take x) (by rw[Ef,Ef,gP,gP,GF,Iu,DZ]) (by rw[Iu,DZ]) (ha.sublist (EN _ _))
theorem MV.first {a b o:Array DL}{x y:Nat}(m:MV key a b o x y)(ha:a.toList.Pairwise (Le key))(hb:b.toList.Pairwise (Le key))(hy:y=1)(hl:∀p q,b[0]? = some p->q∈a.toList->Le key p q):eI key a b (b.extract 0 y++a.extract 0 x++o.reverse):=by
 refine m.fin (t:=b.toList.take y++a.toList.take x) (by rw[Ef,Ef,gP,gP,GF]) GA ?_
 refine E7.mpr ⟨hb.sublist (EN _ _),ha.sublist (EN _ _),λp hp q hq=>hl p q ?_ (Fl hq)⟩
 obtain ⟨i,hi,e⟩:=bA hp
 rw[Dt] at e
 rw[show i=0 by lia] at e
 exact e
theorem MV.size {a b o:Array DL}{x y:Nat}(m:MV key a b o x y):o.size+x+y=a.size+b.size:=by
 have e:=m.perm.length_eq
 have h1:=m.hx
 have h2:=m.hy
 simp only[C8,Ew,Dl,E2] at e
 lia
end
section
variable  {prog:DH}{w:Eb}{A:Ep}{E:C9->Dg->Prop}{s:Dg}{O:ID}{key:DL->O.α}{U:DL->Prop}{κ:SortKind}
abbrev HiC:=Option (Array DL)×Nat×Nat×Array DL×Nat×Nat×Nat
def zF (a b:Array DL)(x y:Nat)(o:Array DL)(mg ac bc:Nat):StateT D8 Sem (ForInStep HiC):=do
  let z ← elem' a (x-1)
  if (x-1 == 0)=true then pure (.done (some (a.extract 0 (x-1)++b.extract 0 y++(o.push z).reverse),x-1,y,o.push z,mg,ac,bc))
  else if (decide (ac<7) && decide (bc<7))=true then pure (.done (none,x-1,y,o.push z,mg,ac,bc))
  else pure (.yield (none,x-1,y,o.push z,mg,ac,bc))
def zG (a b:Array DL)(x y:Nat)(o:Array DL)(mg ac bc:Nat):StateT D8 Sem (ForInStep HiC):=do
  let z ← elem' b (y-1)
  if (y-1 == 1)=true then pure (.done (some (b.extract 0 (y-1)++a.extract 0 x++(o.push z).reverse),x,y-1,o.push z,mg,ac,bc))
  else do
    let z2 ← elem' a (x-1)
    let __x ← gal true z2 b 0 (y-1) (y-1-1)
    match __x with
    | some c =>
      if y-1-c>0 then
        if (c == 1)=true then pure (.done (some (b.extract 0 c++a.extract 0 x++(o.push z++(b.extract c (y-1)).reverse).reverse),x,c,o.push z++(b.extract c (y-1)).reverse,mg,ac,y-1-c))
        else if (c == 0)=true then pure (.done (some (a.extract 0 x++b.extract 0 c++(o.push z++(b.extract c (y-1)).reverse).reverse),x,c,o.push z++(b.extract c (y-1)).reverse,mg,ac,y-1-c))
        else zF a b x c (o.push z++(b.extract c (y-1)).reverse) mg ac (y-1-c)
      else zF a b x (y-1) (o.push z) mg ac (y-1-c)
    | _=>pure (.done (some (a.extract 0 x++b.extract 0 (y-1)++(o.push z).reverse),x,y-1,o.push z,mg,ac,bc))
def vH (a b:Array DL)(x y:Nat)(p:Array DL)(ac bc mg:Nat):StateT D8 Sem (ForInStep HiC):=do
  modify (λs=>SortSt.mk' (kindOf s) (DP s) (D1 s) mg (failedOf s))
  let z ← elem' b (y-1)
  let __x ← gal false z a 0 x (x-1)
  match __x with
  | some c =>
    if x-c>0 then
      if (c == 0)=true then pure (.done (some (a.extract 0 c++b.extract 0 y++(p++(a.extract c x).reverse).reverse),c,y,p++(a.extract c x).reverse,mg,x-c,bc))
      else zG a b c y (p++(a.extract c x).reverse) mg (x-c) bc
    else zG a b x y p mg (x-c) bc
  | _=>pure (.done (some (a.extract 0 x++b.extract 0 y++p.reverse),x,y,p,mg,ac,bc))
def HiQ (key:DL->O.α)(a b:Array DL)(st:D8)(n:Nat)(r:ForInStep HiC)(st':D8):Prop:=match r with
 | .done c=>Sm st st'/\((∃r x y p mg ac bc,c=(some r,x,y,p,mg,ac,bc)/\eI key a b r)\/∃x y p mg ac bc,c=(none,x,y,p,mg,ac,bc)/\MV key a b p x y/\1<=x/\2<=y/\n<=p.size)
 | .yield c=>Sm st st'/\∃x y p mg ac bc,c=(none,x,y,p,mg,ac,bc)/\MV key a b p x y/\1<=x/\2<=y/\n<=p.size
theorem HiQ.out {a b:Array DL}{st st':D8}{n:Nat}{r:Array DL}{c:Nat×Nat×Array DL×Nat×Nat×Nat}(sm:Sm st st')(f:eI key a b r):HiQ key a b st n (.done (some r,c)) st':=by
 obtain ⟨p,x,y,mg,ac,bc⟩:=c
 exact ⟨sm,.inl ⟨_,_,_,_,_,_,_,rfl,f⟩⟩
theorem xI {x:Nat}(c:¬ (x == 0)=true):1<=x:=Nat.pos_of_ne_zero λz=>c (beq_iff_eq.mpr z)
theorem zI {y:Nat}(h:1<=y)(c:¬ (y == 1)=true):2<=y:=Ln h λz=>c (beq_iff_eq.mpr z.symm)
theorem uy {a b:Array DL}{st st':D8}(hb:b.toList.Pairwise (Le key))
  {o:Array DL} {x y mg ac bc n:Nat} {za:DL} (sm:Sm st st') (ea:a[x-1]? = some za) (m4:MV key a b (o.push za) (x-1) y) (hy:2<=y) (hn:n<=o.size):wpS (DS prog w) A E s (zF a b x y o mg ac bc) (HiQ key a b st n) st':=by
 unfold zF
 refine DF (bp ea ?_)
 by_cases d5:(x-1 == 0)=true
 ·rw[if_pos d5]
  exact DK (HiQ.out sm (m4.vE hb (beq_iff_eq.mp d5)))
 rw[if_neg d5]
 have hx2:=xI d5
 have hn':n<=(o.push za).size:=by rw[GI];exact Im hn
 split
 ·exact DK ⟨sm,.inr ⟨_,_,_,_,_,_,rfl,m4,hx2,hy,hn'⟩⟩
 ·exact DK ⟨sm,_,_,_,_,_,_,rfl,m4,hx2,hy,hn'⟩
theorem uz (C:Cmp prog w A s O key U κ){a b:Array DL}{st st':D8}(hκ:kindOf st=κ)(ua:∀p∈a.toList,U p)(ub:∀p∈b.toList,U p)
  (ha:a.toList.Pairwise (Le key)) (hb:b.toList.Pairwise (Le key)) (h0:∀p q,b[0]? = some p->q∈a.toList->Le key p q)
  {o:Array DL} {x y mg ac bc n:Nat} {zb:DL} (sm:Sm st st') (eb:b[y-1]? = some zb) (mk:MV key a b o x y) (bl:∀t∈a.toList.take x,Le key t zb) (hx1:1<=x) (hy:2<=y) (hn:n<=o.size):wpS (DS prog w) A E s (zG a b x y o mg ac bc) (HiQ key a b st n) st':=by
 unfold zG
 refine DF (bp eb ?_)
 have m2:=mk.oa (LH hy) eb hb bl
 have y1:1<=y-1:=Gf hy
 have bx1:=mk.hx
 have by1:=mk.hy
 by_cases d3:(y-1 == 1)=true
 ·rw[if_pos d3]
  exact DK (HiQ.out sm (m2.first ha hb (beq_iff_eq.mp d3) h0))
 rw[if_neg d3]
 have hy1:=zI y1 d3
 obtain ⟨za,ea⟩:=bz (show x-1<a.size by lia)
 refine DF (bp ea ?_)
 refine DF (BD C (λi=>(b[i]?).getD za) (sm.k.trans hκ) (ua _ (ck ea)) (λi hi =>?_) (λi hi =>?_) (λi j hij hj =>?_) (IM y1) λc2 hc2 g1 g2 =>?_)
 ·obtain ⟨z,e⟩:=bz (show i<b.size by lia)
  rw[GO,e];rfl
 ·obtain ⟨z,e⟩:=bz (show i<b.size by lia)
  rw[e];exact ub _ (ck e)
 ·obtain ⟨z,e⟩:=bz (show i<b.size by lia)
  obtain ⟨z',e'⟩:=bz (show j<b.size by lia)
  rw[e,e'];exact aO hb (aN e) (aN e') hij
 dsimp only at g1 g2 ⊢
 have tb:∀j q,c2<=j->j<y-1->b.toList[j]? = some q->∀t∈a.toList.take x,Le key t q:=λj q hj hj2 e t ht=>by
  have z:=g2 j hj hj2
  rw[Dt] at e
  rw[e] at z
  obtain ⟨n,hn,e2⟩:=bA ht
  exact Ee (aO ha e2 (aN ea) (Gf hn)) z
 have m3:=m2.xF hc2 hb tb
 have bl2:∀t∈b.toList.take c2,Le key t za:=λt ht=>by
  obtain ⟨n,hn,e2⟩:=bA ht
  rw[Dt] at e2
  have z:=g1 n hn
  rw[e2] at z
  exact E6 z
 have hn1:n<=(o.push zb).size:=by rw[GI];exact Im hn
 by_cases k2:y-1-c2>0
 ·rw[if_pos k2]
  by_cases d4:(c2 == 1)=true
  ·rw[if_pos d4]
   exact DK (HiQ.out sm (m3.first ha hb (beq_iff_eq.mp d4) h0))
  rw[if_neg d4]
  by_cases d6:(c2 == 0)=true
  ·rw[if_pos d6]
   exact DK (HiQ.out sm (m3.vD ha (beq_iff_eq.mp d6)))
  rw[if_neg d6]
  exact uy hb sm ea (m3.kg hx1 ea ha bl2) (zI (xI d6) d4) (DU hn1 (by rw[Hr];exact F3 _ _))
 ·rw[if_neg k2]
  have ec2:c2=y-1:=Ic hc2 (Kw (G3 k2))
  rw[ec2] at bl2
  exact uy hb sm ea (m2.kg hx1 ea ha bl2) hy1 hn1
theorem uA (C:Cmp prog w A s O key U κ){a b:Array DL}{st st':D8}(hκ:kindOf st=κ)(ua:∀p∈a.toList,U p)(ub:∀p∈b.toList,U p)
  (ha:a.toList.Pairwise (Le key)) (hb:b.toList.Pairwise (Le key)) (h0:∀p q,b[0]? = some p->q∈a.toList->Le key p q)
  {p:Array DL} {x y ac bc n:Nat} (mg:Nat) (sm:Sm st st') (m:MV key a b p x y) (hx:1<=x) (hy:2<=y) (hn:n<=p.size):wpS (DS prog w) A E s (vH a b x y p ac bc mg) (HiQ key a b st n) st':=by
 unfold vH
 have bx:=m.hx
 have by':=m.hy
 obtain ⟨zb,eb⟩:=bz (show y-1<b.size by lia)
 refine DF (Gj ?_)
 refine DF (bp eb ?_)
 refine DF (BC C (λi=>(a[i]?).getD zb) ((sm.mg _).k.trans hκ) (ub _ (ck eb)) (λi hi =>?_) (λi hi =>?_) (λi j hij hj =>?_) (IM hx) λc hc h1 h2 =>?_)
 ·obtain ⟨z,e⟩:=bz (DC hi bx)
  rw[GO,e];rfl
 ·obtain ⟨z,e⟩:=bz (DC hi bx)
  rw[e];exact ua _ (ck e)
 ·obtain ⟨z,e⟩:=bz (show i<a.size by lia)
  obtain ⟨z',e'⟩:=bz (show j<a.size by lia)
  rw[e,e'];exact aO ha (aN e) (aN e') hij
 dsimp only at h1 h2 ⊢
 have ta:∀j q,c<=j->j<x->a.toList[j]? = some q->∀t∈b.toList.take y,Le key t q:=λj q hj hj2 e t ht=>by
  have z:=h2 j hj hj2
  rw[Dt] at e
  rw[e] at z
  obtain ⟨n,hn,e2⟩:=bA ht
  exact Ee (aO hb e2 (aN eb) (Gf hn)) (E6 z)
 have mk:=m.xE hc ha ta
 have bl:∀t∈a.toList.take c,Le key t zb:=λt ht=>by
  obtain ⟨n,hn,e2⟩:=bA ht
  rw[Dt] at e2
  have z:=h1 n hn
  rw[e2] at z
  exact z
 by_cases k0:x-c>0
 ·rw[if_pos k0]
  by_cases d1:(c == 0)=true
  ·rw[if_pos d1]
   exact DK (HiQ.out (sm.mg _) (mk.vE hb (beq_iff_eq.mp d1)))
  rw[if_neg d1]
  exact uz C hκ ua ub ha hb h0 (sm.mg _) eb mk bl (xI d1) hy (DU hn (by rw[Hr];exact F3 _ _))
 ·rw[if_neg k0]
  have ec:c=x:=Ic hc (Kw (G3 k0))
  rw[ec] at bl
  exact uz C hκ ua ub ha hb h0 (sm.mg _) eb m bl hx hy hn
theorem zJ (C:Cmp prog w A s O key U κ){a b:Array DL}{st st':D8}(hκ:kindOf st=κ)(ua:∀p∈a.toList,U p)(ub:∀p∈b.toList,U p)
  (ha:a.toList.Pairwise (Le key)) (hb:b.toList.Pairwise (Le key)) (h0:∀p q,b[0]? = some p->q∈a.toList->Le key p q)
  {p:Array DL} {x y ac bc n mg:Nat} (sm:Sm st st') (m:MV key a b p x y) (hx:1<=x) (hy:2<=y) (hn:n<=p.size):wpS (DS prog w) A E s (if mg>1 then vH a b x y p ac bc (mg-1) else vH a b x y p ac bc mg) (HiQ key a b st n) st':=by
 split
 ·exact uA C hκ ua ub ha hb h0 (mg-1) sm m hx hy hn
 ·exact uA C hκ ua ub ha hb h0 mg sm m hx hy hn
abbrev HiD:=Option (Array DL)×Nat×Nat×Array DL×Nat×Nat
abbrev HiE:=Option (Array DL)×Nat×Nat×Array DL×Nat
def xJ (a b:Array DL)(mg:Nat)(c:HiD):StateT D8 Sem (ForInStep HiD):=do
  let u ← elem' b (c.2.2.1-1)
  let v ← elem' a (c.2.1-1)
  let __x ← lt' u v
  match __x with
  | some aw =>
    if aw=true then do
      let z ← elem' a (c.2.1-1)
      if (c.2.1-1 == 0)=true then pure (.done (some (a.extract 0 (c.2.1-1)++b.extract 0 c.2.2.1++(c.2.2.2.1.push z).reverse),c.2.1-1,c.2.2.1,c.2.2.2.1.push z,c.2.2.2.2.1+1,0))
      else if c.2.2.2.2.1+1≥mg then pure (.done (none,c.2.1-1,c.2.2.1,c.2.2.2.1.push z,c.2.2.2.2.1+1,0))
      else pure (.yield (none,c.2.1-1,c.2.2.1,c.2.2.2.1.push z,c.2.2.2.2.1+1,0))
    else do
      let z ← elem' b (c.2.2.1-1)
      if (c.2.2.1-1 == 1)=true then pure (.done (some (b.extract 0 (c.2.2.1-1)++a.extract 0 c.2.1++(c.2.2.2.1.push z).reverse),c.2.1,c.2.2.1-1,c.2.2.2.1.push z,0,c.2.2.2.2.2+1))
      else if c.2.2.2.2.2+1≥mg then pure (.done (none,c.2.1,c.2.2.1-1,c.2.2.2.1.push z,0,c.2.2.2.2.2+1))
      else pure (.yield (none,c.2.1,c.2.2.1-1,c.2.2.2.1.push z,0,c.2.2.2.2.2+1))
  | _=>pure (.done (some (a.extract 0 c.2.1++b.extract 0 c.2.2.1++c.2.2.2.1.reverse),c.2.1,c.2.2.1,c.2.2.2.1,c.2.2.2.2.1,c.2.2.2.2.2))
def BG (a b:Array DL)(c:HiC):StateT D8 Sem (ForInStep HiC) :=
 if c.2.2.2.2.1>1 then vH a b c.2.1 c.2.2.1 c.2.2.2.1 c.2.2.2.2.2.1 c.2.2.2.2.2.2 (c.2.2.2.2.1-1) else vH a b c.2.1 c.2.2.1 c.2.2.2.1 c.2.2.2.2.2.1 c.2.2.2.2.2.2 c.2.2.2.2.1
def sQ (a b:Array DL)(c:HiE):StateT D8 Sem (ForInStep HiE):=do
  let d ← forIn [0:a.size+b.size] ((none,c.2.1,c.2.2.1,c.2.2.2.1,0,0):HiD) λ_ d=>xJ a b c.2.2.2.2 d
  match d.1 with
  | some r=>pure (.done (some r,d.2.1,d.2.2.1,d.2.2.2.1,c.2.2.2.2))
  | none=>do
    rule "list.sort.gallop"
    let e ← forIn [0:a.size+b.size] ((none,d.2.1,d.2.2.1,d.2.2.2.1,c.2.2.2.2+1,d.2.2.2.2.1,d.2.2.2.2.2):HiC) λ_ e=>BG a b e
    match e.1 with
    | some r=>pure (.done (some r,e.2.1,e.2.2.1,e.2.2.2.1,e.2.2.2.2.1))
    | none=>do
      modify (λs=>SortSt.mk' (kindOf s) (DP s) (D1 s) (e.2.2.2.2.1+1) (failedOf s))
      pure (.yield (none,e.2.1,e.2.2.1,e.2.2.2.1,e.2.2.2.2.1+1))
theorem zK (a b:Array DL):mHi a b=(do
    rule "list.sort.merge-hi"
    let z ← elem' a (a.size-1)
    if (a.size-1 == 0)=true then pure (a.extract 0 (a.size-1)++b.extract 0 b.size++(#[z]:Array DL).reverse)
    else if (b.size == 1)=true then pure (b.extract 0 b.size++a.extract 0 (a.size-1)++(#[z]:Array DL).reverse)
    else do
      let g ← get
      let c ← forIn [0:a.size+b.size] ((none,a.size-1,b.size, #[z],gallopOf g):HiE) λ_ c=>sQ a b c
      match c.1 with
      | some r=>pure r
      | none=>unsupported "internal:list.sort.merge-bound"):=by
  kernel_rfl
def HdI (key:DL->O.α)(a b:Array DL)(st:D8)(n:Nat)(c:HiD)(st':D8):Prop:=Sm st st'/\∃x y o' ac bc,c=(none,x,y,o',ac,bc)/\MV key a b o' x y/\1<=x/\2<=y/\n<=o'.size
def HdQ (key:DL->O.α)(a b:Array DL)(st:D8)(n:Nat)(c:HiD)(st':D8):Prop:=Sm st st'/\((∃r x y o ac bc,c=(some r,x,y,o,ac,bc)/\eI key a b r)\/∃x y o' ac bc,c=(none,x,y,o',ac,bc)/\MV key a b o' x y/\1<=x/\2<=y/\n<=o'.size)
theorem xK (C:Cmp prog w A s O key U κ){a b:Array DL}{st st':D8}(hκ:kindOf st=κ)(ua:∀p∈a.toList,U p)(ub:∀p∈b.toList,U p)
  (ha:a.toList.Pairwise (Le key)) (hb:b.toList.Pairwise (Le key)) (h0:∀p q,b[0]? = some p->q∈a.toList->Le key p q)
  {mg n m':Nat} {c:HiD} (I:HdI key a b st n c st') (hm:m'<=n+1) {Q:ForInStep HiD->D8->Prop} (h:∀r st',(match r with | .done c'=>HdQ key a b st (n+1) c' st' | .yield c'=>HdI key a b st m' c' st')->Q r st'):wpS (DS prog w) A E s (xJ a b mg c) Q st':=by
 obtain ⟨sm2,x,y,o',ac,bc,rfl,m,hx,hy,hz⟩:=I
 unfold xJ
 have bx:=m.hx
 have by':=m.hy
 obtain ⟨za,ea⟩:=bz (show x-1<a.size by omega)
 obtain ⟨zb,eb⟩:=bz (show y-1<b.size by omega)
 refine DF (bp eb (DF (bp ea (DF (C.lt _ st' zb za _ (sm2.k.trans hκ) (ub _ (ck eb)) (ua _ (ck ea)) ?_)))))
 dsimp only
 have sz:∀z,n+1<=(o'.push z).size:=λz=>by rw[GI];exact Ka hz
 cases hlt:O.blt (key zb) (key za) with
 | true =>
  rw[if_pos rfl]
  refine DF (bp ea ?_)
  have m1:=m.kg hx ea ha λt ht=>by
   obtain ⟨n,hn,e⟩:=bA ht
   exact Ee (aO hb e (aN eb) (Gf hn)) (E6 hlt)
  by_cases c3:(x-1 == 0)=true
  ·rw[if_pos c3]
   exact DK (h _ _ ⟨sm2,.inl ⟨_,_,_,_,_,_,rfl,m1.vE hb (beq_iff_eq.mp c3)⟩⟩)
  ·rw[if_neg c3]
   have c3':=xI c3
   split
   ·exact DK (h _ _ ⟨sm2,.inr ⟨_,_,_,_,_,rfl,m1,c3',hy,sz _⟩⟩)
   ·exact DK (h _ _ ⟨sm2,_,_,_,_,_,rfl,m1,c3',hy,DU hm (sz _)⟩)
 | false =>
  rw[if_neg Dv]
  refine DF (bp eb ?_)
  have m1:=m.oa (LH hy) eb hb λt ht=>by
   obtain ⟨n,hn,e⟩:=bA ht
   exact Ee (aO ha e (aN ea) (Gf hn)) (show O.kle (key za) (key zb) from hlt)
  by_cases c3:(y-1 == 1)=true
  ·rw[if_pos c3]
   exact DK (h _ _ ⟨sm2,.inl ⟨_,_,_,_,_,_,rfl,m1.first ha hb (beq_iff_eq.mp c3) h0⟩⟩)
  ·rw[if_neg c3]
   have c3':=zI (Gf hy) c3
   split
   ·exact DK (h _ _ ⟨sm2,.inr ⟨_,_,_,_,_,rfl,m1,hx,c3',sz _⟩⟩)
   ·exact DK (h _ _ ⟨sm2,_,_,_,_,_,rfl,m1,hx,c3',DU hm (sz _)⟩)
def HeI (key:DL->O.α)(a b:Array DL)(st:D8)(n:Nat)(c:HiE)(st':D8):Prop:=Sm st st'/\∃x y o mg,c=(none,x,y,o,mg)/\MV key a b o x y/\1<=x/\2<=y/\n+1<=o.size
def HeQ (key:DL->O.α)(a b:Array DL)(st:D8)(c:HiE)(st':D8):Prop:=Sm st st'/\((∃r x y o mg,c=(some r,x,y,o,mg)/\eI key a b r)\/∃x y o mg,c=(none,x,y,o,mg)/\MV key a b o x y/\1<=x/\2<=y/\a.size+b.size+1<=o.size)
theorem vI (C:Cmp prog w A s O key U κ){a b:Array DL}{st st':D8}(hκ:kindOf st=κ)(ua:∀p∈a.toList,U p)(ub:∀p∈b.toList,U p)
  (ha:a.toList.Pairwise (Le key)) (hb:b.toList.Pairwise (Le key)) (h0:∀p q,b[0]? = some p->q∈a.toList->Le key p q) (na:0<a.size)
  {n:Nat} {c:HiE} (I:HeI key a b st n c st'):wpS (DS prog w) A E s (sQ a b c) (λr st'=>match r with | .done c'=>HeQ key a b st c' st' | .yield c'=>HeI key a b st (n+1) c' st') st':=by
 obtain ⟨sm1,x,y,o,mg,rfl,m,hx,hy,hz⟩:=I
 unfold sQ
 have q1:1<=a.size+b.size:=DU na (F3 _ _)
 refine DF (FU (EX (I:=λj c st'=>HdI key a b st (o.size+min j 1) c st') (Q:=HdQ key a b st (o.size+1)) (λj c st2 _ hj J=>xK (n:=o.size+min j 1) (m':=o.size+min (j+1) 1) C hκ ua ub ha hb h0 J (by lia) λr st' k =>?_) (λc st' J =>?_) ⟨sm1,x,y,o,0,0,rfl,m,hx,hy,Dd _⟩) ?_)
 ·cases r with
  | done c'=>exact k.imp id λz=>z.imp id λ⟨x,y,o',ac,bc,e,m,hx,hy,hz⟩=>⟨x,y,o',ac,bc,e,m,hx,hy,by lia⟩
  | yield c'=>exact k
 ·obtain ⟨sm,x,y,o',ac,bc,e,m,hx,hy,hz⟩:=J
  exact ⟨sm,.inr ⟨x,y,o',ac,bc,e,m,hx,hy,by lia⟩⟩
 rintro c st2 ⟨sm2,⟨r,x,y,o',ac,bc,rfl,fr⟩ | ⟨x,y,o',ac,bc,rfl,m,hx,hy,hz2⟩⟩
 ·exact DK ⟨sm2,.inl ⟨_,_,_,_,_,rfl,fr⟩⟩
 dsimp only
 refine DF (Jw (FI ⟨rfl,?_⟩))
 refine DF (FU (EX (I:=λ_ c st'=>HiQ key a b st o'.size (.yield c) st') (Q:=λc st'=>HiQ key a b st o'.size (.done c) st') (λj c st3 _ hj J =>?_) (λc st' J=>⟨J.1,.inr J.2⟩) ⟨sm2,x,y,o',_,ac,bc,rfl,m,hx,hy,Dd _⟩) ?_)
 ·obtain ⟨sm3,x,y,p,mg,ac,bc,rfl,m,hx,hy,hz3⟩:=J
  refine FU (zJ C hκ ua ub ha hb h0 sm3 m hx hy hz3) ?_
  intro r st' h
  cases r <;> exact h
 rintro c st3 ⟨sm3,⟨r,x,y,p,mg,ac,bc,rfl,fr⟩ | ⟨x,y,p,mg,ac,bc,rfl,m,hx,hy,hz3⟩⟩
 ·exact DK ⟨sm3,.inl ⟨_,_,_,_,_,rfl,fr⟩⟩
 ·dsimp only
  exact DF (Gj (DK ⟨sm3.mg _,x,y,p,_,rfl,m,hx,hy,by lia⟩))
theorem BH (C:Cmp prog w A s O key U κ){a b:Array DL}{st:D8}{Q:Array DL->D8->Prop}(hκ:kindOf st=κ)(ua:∀p∈a.toList,U p)(ub:∀p∈b.toList,U p)
  (ha:a.toList.Pairwise (Le key)) (hb:b.toList.Pairwise (Le key)) (na:0<a.size) (nb:0<b.size) (h0:∀p q,b[0]? = some p->q∈a.toList->Le key p q) (hl:∀p q,p∈b.toList->a[a.size-1]? = some q->Le key p q)
  (h:∀r st',Sm st st'->eI key a b r->Q r st'):wpS (DS prog w) A E s (mHi a b) Q st:=by
 rw[zK]
 refine DF (Jw (FI ⟨rfl,?_⟩))
 obtain ⟨a0,ea0⟩:=bz (IM na)
 have m0:MV key a b #[] a.size b.size:=by
  refine ⟨Dd _,Dd _,?_,List.Pairwise.nil,λp _ q hq=>by cases hq⟩
  rw[Dr (by rw[Dl];exact Dd _),Dr (by rw[Dl];exact Dd _)]
  show (a.toList++b.toList++[]).Perm _
  rw[DZ]
 have m1:MV key a b #[a0] (a.size-1) b.size:=m0.kg na ea0 ha λt ht=>hl t a0 (Fl ht) ea0
 refine DF (bp ea0 ?_)
 by_cases c1:(a.size-1 == 0)=true
 ·rw[if_pos c1]
  exact DK (h _ st (Sm.refl st) (m1.vE hb (beq_iff_eq.mp c1)))
 rw[if_neg c1]
 by_cases c2:(b.size == 1)=true
 ·rw[if_pos c2]
  exact DK (h _ st (Sm.refl st) (m1.first ha hb (beq_iff_eq.mp c2) h0))
 rw[if_neg c2]
 refine DF (Jh ?_)
 refine DF (FU (EX (I:=λi c st'=>HeI key a b st i c st') (Q:=HeQ key a b st) (λi c st1 _ _ J=>FU (vI C hκ ua ub ha hb h0 na J) λr st' h=>by cases r <;> exact h) (λc st' J =>?_) ⟨Sm.refl st,_,_,_,_,rfl,m1,xI c1,zI nb c2,Dd _⟩) ?_)
 ·obtain ⟨sm,x,y,o,mg,e,m,hx,hy,hz⟩:=J
  exact ⟨sm,.inr ⟨x,y,o,mg,e,m,hx,hy,by lia⟩⟩
 rintro c st' ⟨sm,⟨r,x,y,o,mg,rfl,fr⟩ | ⟨x,y,o,mg,rfl,m,hx,hy,hz⟩⟩
 ·exact DK (h r st' sm fr)
 ·have:=m.size
  lia
end
theorem BI (i:Nat):mAt i=(do
    let s ← get
    let (some (sa,na,pw),some (sb,nb,_)):=((D1 s)[i]?,(D1 s)[i+1]?) | unsupported "internal:list.sort.pending"
    set (SortSt.mk' (kindOf s) (DP s) (((D1 s).setIfInBounds i (sa,na+nb,pw)).eraseIdxIfInBounds (i+1)) (gallopOf s) (failedOf s))
    let some k ← gal false (← elem' (DP s) sb) (DP s) sa na 0 | return false
    let (sa,na):=(sa+k,na-k)
    if na == 0 then return true
    let some nb ← gal true (← elem' (DP s) (sa+na-1)) (DP s) sb nb (nb-1) | return false
    if nb == 0 then return true
    let x:=(DP s).extract sa sb
    let y:=(DP s).extract sb (sb+nb)
    let mm ← if na<=nb then mLo x y else mHi x y
    modify λs=>setArr s (mm.toList.zipIdx.foldl (λa (p,j)=>a.setIfInBounds (sa+j) p) (DP s))
    return (failedOf (← get)).isNone):=rfl
theorem iV {α:Type}(p r:List α)(k:Nat):(p++r).drop (p.length+k)=r.drop k:=by
 rw[<- Mz,JC]
theorem sR {α:Type}(p r:List α)(k:Nat):(p++r)[p.length+k]? = r[k]? := by
 rw[Eg (by lia),GR]
theorem AN {α:Type}(p a r:List α){k:Nat}(h:k<a.length):(p++(a++r))[p.length+k]? = a[k]? := by
 rw[sR,Ed h]
theorem written (l:List DL):∀(c n:Nat) (a:Array DL),c+n+l.length<=a.size->((l.zipIdx n).foldl (λ(a:Array DL) (pj:DL×Nat)=>a.setIfInBounds (c+pj.2) pj.1) a).toList=a.toList.take (c+n)++l++a.toList.drop (c+n+l.length):=by
 induction l with
 | nil=>intro c n a _;simp
 | cons z l ih =>
  intro c n a h
  rw[Dz] at h
  rw[Kb,Ku,ih c (n+1) _ (by rw[JJ];lia)]
  have e:(a.setIfInBounds (c+n) z).toList=a.toList.set (c+n) z:=Jm ..
  rw[e]
  have lt:c+n<a.toList.length:=by rw[Dl];lia
  have t1:(a.toList.set (c+n) z).take (c+(n+1))=a.toList.take (c+n)++[z]:=by
   rw[show c+(n+1)=c+n+1 by lia,D3,List.take_set_of_le (Dd _),FK lt]
   rfl
  have t2:(a.toList.set (c+n) z).drop (c+(n+1)+l.length)=a.toList.drop (c+n+(l.length+1)):=by
   rw[List.drop_set_of_lt (by lia),show c+(n+1)+l.length=c+n+(l.length+1) by lia]
  rw[t1,t2,Dz]
  simp
section
variable  {prog:DH}{w:Eb}{A:Ep}{E:C9->Dg->Prop}{s:Dg}{O:ID}{key:DL->O.α}{U:DL->Prop}{κ:SortKind}
theorem BJ (C:Cmp prog w A s O key U κ){i pw pw2:Nat}{st:D8}{Q:Bool->D8->Prop}{P X Y S:List DL}(hκ:kindOf st=κ)(hf:failedOf st=none)
    (ha:(DP st).toList=P++(X++(Y++S))) (hu:∀p∈(DP st).toList,U p) (h1:(D1 st)[i]? = some (P.length,X.length,pw)) (h2:(D1 st)[i+1]? = some (P.length+X.length,Y.length,pw2))
    (nx:0<X.length) (ny:0<Y.length) (sx:X.Pairwise (Le key)) (sy:Y.Pairwise (Le key))
    (h:∀st' M,M.Perm (X++Y)->M.Pairwise (Le key)->(DP st').toList=P++(M++S)->D1 st'=((D1 st).setIfInBounds i (P.length,X.length+Y.length,pw)).eraseIdxIfInBounds (i+1)->kindOf st'=κ -> failedOf st'=none->Q true st') :
    wpS (DS prog w) A E s (mAt i) Q st:=by
  rw[BI]
  refine DF (Jh ?_)
  rw[h1,h2]
  dsimp only
  refine DF (show wpS (DS prog w) A E s (modify λ_=>SortSt.mk' (kindOf st) (DP st) (((D1 st).setIfInBounds i (P.length,X.length+Y.length,pw)).eraseIdxIfInBounds (i+1)) (gallopOf st) (failedOf st)) _ st from Gj ?_)
  generalize hst1:SortSt.mk' (kindOf st) (DP st) (((D1 st).setIfInBounds i (P.length,X.length+Y.length,pw)).eraseIdxIfInBounds (i+1)) (gallopOf st) (failedOf st)=st1
  have k1:kindOf st1=κ:=by rw[<- hst1];exact hκ
  have a1:DP st1=DP st:=by rw[<- hst1]
  have p1:D1 st1=((D1 st).setIfInBounds i (P.length,X.length+Y.length,pw)).eraseIdxIfInBounds (i+1):=by rw[<- hst1]
  have f1:failedOf st1=none:=by rw[<- hst1];exact hf
  have sz:(DP st).size=P.length+X.length+Y.length+S.length:=by
    rw[<- Dl,ha];simp only[C8];lia
  have atX:∀j,j<X.length->(DP st)[P.length+j]? = X[j]? := λj hj=>by
    rw[<- Dt,ha,AN _ _ _ hj]
  have atY:∀j,j<Y.length->(DP st)[P.length+X.length+j]? = Y[j]? := λj hj=>by
    rw[<- Dt,ha, <- DQ,show P.length+X.length+j=(P++X).length+j by rw[C8],AN _ _ _ hj]
  have uX:∀p∈X,U p:=λp hp=>hu p (by rw[ha];simp[hp])
  have uY:∀p∈Y,U p:=λp hp=>hu p (by rw[ha];simp[hp])
  have xget:∀j,j<X.length->∃z,X[j]? = some z:=λj hj=>⟨X[j],by simp[hj]⟩
  have yget:∀j,j<Y.length->∃z,Y[j]? = some z:=λj hj=>⟨Y[j],by simp[hj]⟩
  obtain ⟨y0,ey0⟩:=yget 0 ny
  have plain:(∀p∈X,∀q∈Y,Le key p q)->Q true st1:=λhle=>h st1 (X++Y) (HH _) (E7.mpr ⟨sx,sy,hle⟩) (by rw[a1,ha,DQ]) p1 k1 f1
  refine DF (bp (z:=y0) (by rw[show P.length+X.length=P.length+X.length+0 by lia,atY 0 ny];exact ey0) ?_)
  refine DF (BC C (λj=>(X[j]?).getD y0) k1 (uY _ (Dp ey0)) (λj hj =>?_) (λj hj =>?_) (λi j hij hj =>?_) nx λk hk g1 g2 =>?_)
  · obtain ⟨z,e⟩:=xget j hj
    rw[atX j hj,e];rfl
  · obtain ⟨z,e⟩:=xget j hj
    rw[e];exact uX _ (Dp e)
  · obtain ⟨z,e⟩:=xget i (by lia)
    obtain ⟨z',e'⟩:=xget j hj
    rw[e,e'];exact aO sx e e' hij
  dsimp only at g1 g2 ⊢
  have y0le:∀q∈Y,Le key y0 q:=λq hq=>by
    obtain ⟨n,e⟩:=EG.mp hq
    exact aO sy ey0 e (D5 _)
  by_cases c1:(X.length-k == 0)=true
  · rw[if_pos c1]
    refine DK (plain λp hp q hq =>?_)
    obtain ⟨n,e⟩:=EG.mp hp
    have hn:n<X.length:=(Di.mp e).1
    have z:=g1 n (by have:=beq_iff_eq.mp c1;lia)
    rw[e] at z
    exact Ee z (y0le q hq)
  rw[if_neg c1]
  have kx:k<X.length:=by have:X.length-k≠0:=λz=>c1 (beq_iff_eq.mpr z);lia
  obtain ⟨xl,exl⟩:=xget (X.length-1) (by lia)
  have xlle:∀p∈X,Le key p xl:=λp hp=>by
    obtain ⟨n,e⟩:=EG.mp hp
    have hn:n<X.length:=(Di.mp e).1
    exact aO sx e exl (by lia)
  refine DF (bp (z:=xl) (by rw[show P.length+k+(X.length-k)-1=P.length+(X.length-1) by lia,atX _ (by lia)];exact exl) ?_)
  refine DF (BD C (λj=>(Y[j]?).getD xl) k1 (uX _ (Dp exl)) (λj hj =>?_) (λj hj =>?_) (λi j hij hj =>?_) (by lia) λm hm e1 e2 =>?_)
  · obtain ⟨z,e⟩:=yget j hj
    rw[atY j hj,e];rfl
  · obtain ⟨z,e⟩:=yget j hj
    rw[e];exact uY _ (Dp e)
  · obtain ⟨z,e⟩:=yget i (by lia)
    obtain ⟨z',e'⟩:=yget j hj
    rw[e,e'];exact aO sy e e' hij
  dsimp only at e1 e2 ⊢
  by_cases c2:(m == 0)=true
  · rw[if_pos c2]
    refine DK (plain λp hp q hq =>?_)
    obtain ⟨n,e⟩:=EG.mp hq
    have hn:n<Y.length:=(Di.mp e).1
    have z:=e2 n (by have:=beq_iff_eq.mp c2;lia) hn
    rw[e] at z
    exact Ee (xlle p hp) z
  rw[if_neg c2]
  have m0:0<m:=by have:m≠0:=λz=>c2 (beq_iff_eq.mpr z);lia
  have ex:((DP st).extract (P.length+k) (P.length+X.length)).toList=X.drop k:=by
    rw[Ge,Fu,ha,iV,IH (by lia)]
    rw[List.take_left' (by rw[EO];lia)]
  have ey:((DP st).extract (P.length+X.length) (P.length+X.length+m)).toList=Y.take m:=by
    have e:=iV (P++X) (Y++S) 0
    rw[C8,Nat.add_zero,JB,DQ] at e
    rw[Ge,Fu,ha,e,GR,F4 hm]
  have sX:((DP st).extract (P.length+k) (P.length+X.length)).size=X.length-k:=by rw[<- Dl,ex,EO]
  have sY:((DP st).extract (P.length+X.length) (P.length+X.length+m)).size=m:=by rw[<- Dl,ey,Ew];lia
  generalize (DP st).extract (P.length+k) (P.length+X.length)=xa at ex sX ⊢
  generalize (DP st).extract (P.length+X.length) (P.length+X.length+m)=ya at ey sY ⊢
  have xa0:∀q∈xa.toList,Le key y0 q:=λq hq=>by
    rw[ex] at hq
    obtain ⟨n,hn,e⟩:=bj hq
    have hn2:n<X.length:=(Di.mp e).1
    have z:=g2 n hn hn2
    rw[e] at z
    exact E6 z
  have yaL:∀p∈ya.toList,Le key p xl:=λp hp=>by
    rw[ey] at hp
    obtain ⟨n,hn,e⟩:=bA hp
    have z:=e1 n hn
    rw[e] at z
    exact E6 z
  have first:∀p q,ya[0]? = some p->q∈xa.toList->Le key p q:=λp q hp hq=>by
    rw[<- Dt,ey,Fm,if_pos m0,ey0] at hp
    cases hp
    exact xa0 q hq
  have lst:∀p q,p∈ya.toList->xa[xa.size-1]? = some q->Le key p q:=λp q hp hq=>by
    rw[<- Dt,ex,G5,sX,show k+(X.length-k-1)=X.length-1 by lia,exl] at hq
    cases hq
    exact yaL p hp
  have sxa:xa.toList.Pairwise (Le key):=by rw[ex];exact sx.sublist (EV _ _)
  have sya:ya.toList.Pairwise (Le key):=by rw[ey];exact sy.sublist (EN _ _)
  have uxa:∀p∈xa.toList,U p:=λp hp=>by rw[ex] at hp;exact uX p (GD hp)
  have uya:∀p∈ya.toList,U p:=λp hp=>by rw[ey] at hp;exact uY p (Fl hp)
  have post:∀r st',Sm st1 st'->eI key xa ya r->wpS (DS prog w) A E s (do modify λs=>setArr s (r.toList.zipIdx.foldl (λa (p,j)=>a.setIfInBounds (P.length+k+j) p) (DP s));return (failedOf (← get)).isNone) Q st':=by
    rintro r st' sm ⟨fp,fs⟩
    refine DF (Gj (DF (Jh (DK ?_))))
    have rl:r.toList.length=X.length-k+m:=by rw[fp.length_eq,C8,Dl,Dl,sX,sY]
    have wr:=written r.toList (P.length+k) 0 (DP st') (by rw[sm.a,a1,sz,rl];lia)
    have e:(failedOf (setArr st' (r.toList.zipIdx.foldl (λa (p,j)=>a.setIfInBounds (P.length+k+j) p) (DP st')))).isNone=true:=by
      show (failedOf st').isNone=true
      rw[sm.f,f1];rfl
    rw[e]
    have t1:(P++(X++(Y++S))).take (P.length+k+0)=P++X.take k:=by
      rw[Nat.add_zero,List.take_append,Dr (by lia),GR,F4 (by lia)]
    have t2:(P++(X++(Y++S))).drop (P.length+k+0+r.toList.length)=Y.drop m++S:=by
      rw[rl,show P.length+k+0+(X.length-k+m)=P.length+(X.length+m) by lia,iV,iV,IH hm]
    have perm:(X.take k++(r.toList++Y.drop m)).Perm (X++Y):=by
      rw[ex,ey] at fp
      have q:(X.take k++(r.toList++Y.drop m)).Perm (X.take k++((X.drop k++Y.take m)++Y.drop m)):=Fy _ (Gs _ fp)
      have e3:X.take k++((X.drop k++Y.take m)++Y.drop m)=X++Y:=by
        rw[DQ (X.drop k),Fz, <- DQ,Fz]
      rw[e3] at q
      exact q
    have inr:∀z∈r.toList,z∈X.drop k\/z∈Y.take m:=λz hz=>by
      have q:=fp.mem_iff.mp hz
      rw[ex,ey] at q
      exact Dh.mp q
    refine h _ (X.take k++(r.toList++Y.drop m)) perm ?_ ?_ ?_ (sm.k.trans k1) (sm.f.trans f1)
    · refine E7.mpr ⟨sx.sublist (EN _ _),E7.mpr ⟨fs,sy.sublist (EV _ _),λp hp q hq =>?_⟩,λp hp q hq =>?_⟩
      · obtain ⟨n,hn,en⟩:=bj hq
        have hn2:n<Y.length:=(Di.mp en).1
        rcases inr p hp with z | z
        · have g:=e2 n hn hn2
          rw[en] at g
          exact Ee (xlle p (GD z)) g
        · obtain ⟨j,hj,ej⟩:=bA z
          exact aO sy ej en (by lia)
      · obtain ⟨n,hn,en⟩:=bA hp
        have g:=g1 n hn
        rw[en] at g
        rcases Dh.mp hq with z | z
        · rcases inr q z with z | z
          · obtain ⟨j,hj,ej⟩:=bj z
            exact aO sx en ej (by lia)
          · exact Ee g (y0le q (Fl z))
        · exact Ee g (y0le q (GD z))
    · show (r.toList.zipIdx.foldl (λa (p,j)=>a.setIfInBounds (P.length+k+j) p) (DP st')).toList=_
      rw[wr,sm.a,a1,ha,t1,t2]
      simp only[DQ]
    · show D1 st'=_
      rw[sm.p,p1]
  by_cases c3:X.length-k<=m
  · rw[if_pos c3]
    exact DF (BF C k1 uxa uya sxa sya (by lia) (by lia) (λp q hp hq=>first p q hp (ck hq)) lst λr st' sm fr=>post r st' sm fr)
  · rw[if_neg c3]
    exact DF (BH C k1 uxa uya sxa sya (by lia) (by lia) first lst λr st' sm fr=>post r st' sm fr)
end
theorem zL (lo m:Nat):BA lo m=(do
    let mut n:=1
    for _ in [1:m] do
      let some sm ← ltAt' (lo+n) (lo+n-1)
        | return none
      if sm then break
      n:=n+1
    if n == m then return some n
    if n>1 then
      let some ro ← ltAt' lo (lo+n-1)
        | return none
      if ro then return some n
      reverseSlice' lo (lo+n)
    rule "list.sort.descending-run"
    n:=n+1
    let mut q:=0
    for _ in [n:m] do
      let some sm ← ltAt' (lo+n) (lo+n-1)
        | return none
      if sm then
        if q>0 then reverseSlice' (lo+n-(q+1)) (lo+n)
        q:=0
      else
        let some lg ← ltAt' (lo+n-1) (lo+n)
          | return none
        if lg then break
        q:=q+1
      n:=n+1
    if q>0 then reverseSlice' (lo+n-(q+1)) (lo+n)
    reverseSlice' lo (lo+n)
    for _ in [n:m] do
      let some sm ← ltAt' (lo+n) (lo+n-1)
        | return none
      if sm then break
      n:=n+1
    return some n):=rfl
theorem xM (lo n ok:Nat):xC lo n ok=(do
    for k in [max ok 1:n] do
      let mut l:=0;let mut r:=k
      for _ in [0:k] do
        if l≥r then break
        let m:=(l+r)/2
        let some le ← ltAt' (lo+k) (lo+m)
          | return false
        if le then r:=m else l:=m+1
      moveDown' (lo+k) (lo+l)
    return true):=rfl
section
variable  {O:ID}(key:DL->O.α)
def kk (xs:Array DL)(i:Nat):O.α:=key ((xs[i]?).getD (E9,E9))
def Up (xs:Array DL)(lo n:Nat):Prop:=∀i j,lo<=i->i<=j->j<lo+n->O.kle (kk key xs i) (kk key xs j)
def Down (xs:Array DL)(lo n:Nat):Prop:=∀i j,lo<=i->i<=j->j<lo+n->O.kle (kk key xs j) (kk key xs i)
variable  {key}
theorem iW {xs ys:Array DL}{i j:Nat}(h:xs[i]? = ys[j]?):kk key xs i=kk key ys j:=by unfold kk;rw[h]
theorem oh {xs:Array DL}{i j:Nat}(hj:j<=xs.size)(k:Nat):kk key (mirror xs i j ((j-i)/2)) k=if i<=k/\k<j then kk key xs (i+j-1-k) else kk key xs k:=by
 have e:=Lh (i:=i) hj k
 by_cases h:i<=k/\k<j
 ·rw[if_pos h] at e ⊢;exact iW e
 ·rw[if_neg h] at e ⊢;exact iW e
theorem fD {xs:Array DL}{i j:Nat}(hj:j<=xs.size)(he:∀k,i<=k->k<j->kk key xs k=kk key xs (j-1))(k:Nat):kk key (mirror xs i j ((j-i)/2)) k=kk key xs k:=by
 rw[oh hj]
 split
 ·rw[he _ (by omega) (by omega),he k (by omega) (by omega)]
 ·rfl
end
structure SA (lo:Nat)(st st':D8):Prop where
 perm:(DP st').Perm (DP st)
 pre:∀k,k<lo->(DP st')[k]? = (DP st)[k]?
 k:kindOf st'=kindOf st
 p:D1 st'=D1 st
 f:failedOf st'=failedOf st
theorem SA.refl (lo:Nat)(st:D8):SA lo st st:=⟨Array.Perm.refl _,λ_ _=>rfl,rfl,rfl,rfl⟩
theorem SA.size {lo:Nat}{st st':D8}(h:SA lo st st'):(DP st').size=(DP st).size:=h.perm.size_eq
theorem SA.mirror {lo:Nat}{st st':D8}(h:SA lo st st'){i j:Nat}(hi:lo<=i)(hj:j<=(DP st').size):SA lo st (setArr st' (mirror (DP st') i j ((j-i)/2))) :=
 ⟨(mirror_perm _ _ _ _).trans h.perm,λk hk=>by
  show (PyProof.Rows.mirror (DP st') i j ((j-i)/2))[k]? = _
  rw[Lh hj,if_neg (by lia)]
  exact h.pre k hk,h.k,h.p,h.f⟩
theorem SA.mem {lo:Nat}{st st':D8}(h:SA lo st st'){p:DL}(hp:p∈(DP st').toList):p∈(DP st).toList:=(Jn.mp h.perm).mem_iff.mp hp
section
variable  {prog:DH}{w:Eb}{A:Ep}{E:C9->Dg->Prop}{s:Dg}{O:ID}{key:DL->O.α}{U:DL->Prop}{κ:SortKind}
theorem gQ (C:Cmp prog w A s O key U κ){st:D8}{i j:Nat}{Q:Option Bool->D8->Prop}(hκ:kindOf st=κ)(hu:∀p∈(DP st).toList,U p)(hi:i<(DP st).size)(hj:j<(DP st).size)
  (h:Q (some (O.blt (kk key (DP st) i) (kk key (DP st) j))) st):wpS (DS prog w) A E s (ltAt' i j) Q st:=by
 rw[ltAt'_eq]
 refine DF (Jh ?_)
 obtain ⟨x,ex⟩:=bz hi
 obtain ⟨y,ey⟩:=bz hj
 dsimp only
 refine DF (bp ex (DF (bp ey (C.lt _ st x y _ hκ (hu _ (ck ex)) (hu _ (ck ey)) ?_))))
 unfold kk at h
 rw[ex,ey] at h
 exact h
theorem zM (C:Cmp prog w A s O key U κ){st:D8}{lo m:Nat}{Q:Option Nat->D8->Prop}(hκ:kindOf st=κ)(hu:∀p∈(DP st).toList,U p)(hm:1<=m)(hz:lo+m=(DP st).size)
  (h:∀n st',1<=n->n<=m->SA lo st st'->Up key (DP st') lo n->Q (some n) st'):wpS (DS prog w) A E s (BA lo m) Q st:=by
 rw[zL]
 dsimp only
 refine DF (FU (EX (I:=λx c st'=>st=st'/\c=(none,x)/\Up key (DP st) lo x)
  (Q:=λc st'=>st=st'/\∃n,c=(none,n)/\1<=n/\n<=m/\Up key (DP st) lo n/\(n<m->O.klt (kk key (DP st) (lo+n)) (kk key (DP st) (lo+n-1)))) ?step ?fin ⟨rfl,rfl,λi j h1 h2 h3=>by rw[show i=j by lia];exact FF _⟩) ?post)
 case fin =>
  rintro c st' ⟨rfl,rfl,up⟩
  exact ⟨rfl,_,rfl,by lia,by lia,by rw[show max 1 m=m by lia] at up ⊢;exact up,by lia⟩
 case step =>
  rintro x c st' h1 h2 ⟨rfl,rfl,up⟩
  dsimp only
  refine DF (gQ C hκ hu (by lia) (by lia) ?_)
  dsimp only
  cases hb:O.blt (kk key (DP st) (lo+x)) (kk key (DP st) (lo+x-1)) with
  | true =>
   rw[if_pos rfl]
   exact DK ⟨rfl,x,rfl,h1,by lia,up,λ_=>hb⟩
  | false =>
   rw[if_neg (by simp)]
   refine DK ⟨rfl,rfl,λi j k1 k2 k3 =>?_⟩
   by_cases hj:j=lo+x
   ·by_cases hi:i=j
    ·rw[hi];exact FF _
    ·rw[hj]
     exact Ee (up i (lo+x-1) k1 (by lia) (by lia)) hb
   ·exact up i j k1 k2 (by lia)
 case post =>
  rintro c st' ⟨rfl,n,rfl,n1,n2,up,br⟩
  dsimp only
  by_cases c1:(n == m)=true
  ·rw[if_pos c1]
   exact DK (h n st n1 n2 (SA.refl _ _) up)
  rw[if_neg c1]
  have nm:n<m:=by have:n≠m:=λz=>c1 (beq_iff_eq.mpr z);lia
  have br:=br nm
  by_cases c2:n>1
  case' pos =>
   rw[if_pos c2]
   refine DF (gQ C hκ hu (by lia) (by lia) ?_)
   dsimp only
   cases hro:O.blt (kk key (DP st) lo) (kk key (DP st) (lo+n-1))
   case' true =>
    rw[if_pos rfl]
    exact DK (h n st n1 n2 (SA.refl _ _) up)
   rw[if_neg (by simp)]
   have eqs:∀k,lo<=k->k<lo+n->kk key (DP st) k=kk key (DP st) (lo+n-1):=λk k1 k2 =>
    K8 (up k (lo+n-1) k1 (by lia) (by lia)) (Ee (show O.kle (kk key (DP st) (lo+n-1)) (kk key (DP st) lo) from hro) (up lo k (Dd _) k1 k2))
   rw[IL]
   refine DF (Gj ?_)
   have sa:=(SA.refl lo st).mirror (i:=lo) (j:=lo+n) (Dd _) (by lia)
   have ke:=fD (key:=key) (xs:=DP st) (i:=lo) (j:=lo+n) (by lia) eqs
   have ka:∀k,kk key (DP (setArr st (mirror (DP st) lo (lo+n) ((lo+n-lo)/2)))) k=kk key (DP st) k:=ke
   generalize setArr st (mirror (DP st) lo (lo+n) ((lo+n-lo)/2))=st1 at sa ka ⊢
   clear ke
  case' neg =>
   rw[if_neg c2]
   have eqs:∀k,lo<=k->k<lo+n->kk key (DP st) k=kk key (DP st) (lo+n-1):=λk k1 k2=>by rw[show k=lo+n-1 by lia]
   obtain ⟨st1,e1⟩:∃st1,st1=st:=⟨_,rfl⟩
   have sa:SA lo st st1:=by rw[e1];exact SA.refl _ _
   have ka:∀k,kk key (DP st1) k=kk key (DP st) k:=λk=>by rw[e1]
   rw[<- e1]
   clear e1
  all_goals
   refine DF (Jw (FI ⟨rfl,?_⟩))
   have dn:Down key (DP st1) lo (n+1):=λi j k1 k2 k3=>by
    rw[ka,ka]
    by_cases hj:j=lo+n
    ·by_cases hi:i=j
     ·rw[hi];exact FF _
     ·rw[hj,eqs i k1 (by lia)]
      exact E6 br
    ·rw[eqs i k1 (by lia),eqs j (by lia) (by lia)]
     exact FF _
   clear eqs up br ka
   refine DF (FU (EX (I:=λx c st'=>∃q,c=(none,x,q)/\x<=m/\SA lo st st'/\Down key (DP st') lo x/\q+1<=x/\∀k,lo+x-(q+1)<=k->k<lo+x->kk key (DP st') k=kk key (DP st') (lo+x-1))
    (Q:=λc st'=>∃x q,c=(none,x,q)/\1<=x/\x<=m/\SA lo st st'/\Down key (DP st') lo x/\q+1<=x/\∀k,lo+x-(q+1)<=k->k<lo+x->kk key (DP st') k=kk key (DP st') (lo+x-1)) ?step ?fin
    ⟨0,rfl,by lia,sa,dn,by lia,λk k1 k2=>by rw[show k=lo+(n+1)-1 by lia]⟩) ?post)
   case fin =>
    rintro c st' ⟨q,rfl,xm,sa,dn,hq,he⟩
    exact ⟨_,q,rfl,by lia,xm,sa,dn,hq,he⟩
   case step =>
    rintro x c st2 h1 h2 ⟨q,rfl,xm,sa2,dn2,hq,he⟩
    dsimp only
    have sz:=sa2.size
    have u2:∀p∈(DP st2).toList,U p:=λp hp=>hu p (sa2.mem hp)
    refine DF (gQ C (sa2.k.trans hκ) u2 (by lia) (by lia) ?_)
    dsimp only
    cases hb:O.blt (kk key (DP st2) (lo+x)) (kk key (DP st2) (lo+x-1)) with
    | true =>
     rw[if_pos rfl]
     have dn3:Down key (DP st2) lo (x+1):=λi j k1 k2 k3=>by
      by_cases hj:j=lo+x
      ·by_cases hi:i=j
       ·rw[hi];exact FF _
       ·rw[hj];exact Ee (E6 hb) (dn2 i (lo+x-1) k1 (by lia) (by lia))
      ·exact dn2 i j k1 k2 (by lia)
     by_cases q0:q>0
     ·rw[if_pos q0,IL]
      refine DF (Gj (DK ?_))
      have ke:=fD (key:=key) (xs:=DP st2) (i:=lo+x-(q+1)) (j:=lo+x) (by lia) he
      refine ⟨0,rfl,by lia,sa2.mirror (by lia) (by lia),λi j k1 k2 k3 =>?_,by lia,λk k1 k2=>by rw[show k=lo+(x+1)-1 by lia]⟩
      show O.kle (kk key (mirror (DP st2) (lo+x-(q+1)) (lo+x) ((lo+x-(lo+x-(q+1)))/2)) j) (kk key (mirror (DP st2) (lo+x-(q+1)) (lo+x) ((lo+x-(lo+x-(q+1)))/2)) i)
      rw[ke,ke]
      exact dn3 i j k1 k2 k3
     ·rw[if_neg q0]
      exact DK ⟨0,rfl,by lia,sa2,dn3,by lia,λk k1 k2=>by rw[show k=lo+(x+1)-1 by lia]⟩
    | false =>
     rw[if_neg (by simp)]
     refine DF (gQ C (sa2.k.trans hκ) u2 (by lia) (by lia) ?_)
     dsimp only
     cases hb2:O.blt (kk key (DP st2) (lo+x-1)) (kk key (DP st2) (lo+x)) with
     | true =>
      rw[if_pos rfl]
      exact DK ⟨x,q,rfl,by lia,xm,sa2,dn2,hq,he⟩
     | false =>
      rw[if_neg (by simp)]
      have eq:=K8 (show O.kle (kk key (DP st2) (lo+x)) (kk key (DP st2) (lo+x-1)) from hb2) hb
      refine DK ⟨q+1,rfl,by lia,sa2,λi j k1 k2 k3 =>?_,by lia,λk k1 k2 =>?_⟩
      ·by_cases hj:j=lo+x
       ·by_cases hi:i=j
        ·rw[hi];exact FF _
        ·rw[hj,eq];exact dn2 i (lo+x-1) k1 (by lia) (by lia)
       ·exact dn2 i j k1 k2 (by lia)
      ·rw[show lo+(x+1)-1=lo+x by lia,eq]
       by_cases hk:k=lo+x
       ·rw[hk,eq]
       ·exact he k (by lia) (by lia)
   case post =>
    rintro c st2 ⟨x,q,rfl,x1,xm,sa2,dn2,hq,he⟩
    dsimp only
    have sz:=sa2.size
    by_cases q0:q>0
    case' pos =>
     rw[if_pos q0,IL]
     refine DF (Gj ?_)
     have ke:=fD (key:=key) (xs:=DP st2) (i:=lo+x-(q+1)) (j:=lo+x) (by lia) he
     have sa3:=sa2.mirror (i:=lo+x-(q+1)) (j:=lo+x) (by lia) (by lia)
     have dn3:Down key (DP (setArr st2 (mirror (DP st2) (lo+x-(q+1)) (lo+x) ((lo+x-(lo+x-(q+1)))/2)))) lo x:=λi j k1 k2 k3=>by
      show O.kle (kk key (mirror (DP st2) (lo+x-(q+1)) (lo+x) ((lo+x-(lo+x-(q+1)))/2)) j) (kk key (mirror (DP st2) (lo+x-(q+1)) (lo+x) ((lo+x-(lo+x-(q+1)))/2)) i)
      rw[ke,ke]
      exact dn2 i j k1 k2 k3
     generalize setArr st2 (mirror (DP st2) (lo+x-(q+1)) (lo+x) ((lo+x-(lo+x-(q+1)))/2))=st3 at sa3 dn3 ⊢
     clear ke
    case' neg =>
     rw[if_neg q0]
     obtain ⟨st3,e3⟩:∃st3,st3=st2:=⟨_,rfl⟩
     have sa3:SA lo st st3:=by rw[e3];exact sa2
     have dn3:Down key (DP st3) lo x:=by rw[e3];exact dn2
     rw[<- e3]
     clear e3
    all_goals
     rw[IL]
     refine DF (Gj ?_)
     have sz3:=sa3.size
     have sa4:=sa3.mirror (i:=lo) (j:=lo+x) (Dd _) (by lia)
     have km:=oh (key:=key) (xs:=DP st3) (i:=lo) (j:=lo+x) (by lia)
     have up4:Up key (DP (setArr st3 (mirror (DP st3) lo (lo+x) ((lo+x-lo)/2)))) lo x:=λi j k1 k2 k3=>by
      show O.kle (kk key (mirror (DP st3) lo (lo+x) ((lo+x-lo)/2)) i) (kk key (mirror (DP st3) lo (lo+x) ((lo+x-lo)/2)) j)
      rw[km,km,if_pos ⟨by lia,by lia⟩,if_pos ⟨by lia,by lia⟩]
      exact dn3 _ _ (by lia) (by lia) (by lia)
     generalize setArr st3 (mirror (DP st3) lo (lo+x) ((lo+x-lo)/2))=st4 at sa4 up4 ⊢
     clear km
     have u4:∀p∈(DP st4).toList,U p:=λp hp=>hu p (sa4.mem hp)
     have sz4:=sa4.size
     refine DF (FU (EX (I:=λz c st'=>st4=st'/\c=(none,z)/\z<=m/\Up key (DP st4) lo z)
      (Q:=λc st'=>st4=st'/\∃z,c=(none,z)/\1<=z/\z<=m/\Up key (DP st4) lo z) ?step ?fin ⟨rfl,rfl,xm,up4⟩) ?post)
     case fin =>
      rintro c st' ⟨rfl,rfl,zm,up⟩
      exact ⟨rfl,_,rfl,by lia,zm,up⟩
     case post =>
      rintro c st' ⟨rfl,z,rfl,z1,zm,up⟩
      exact DK (h z st4 z1 zm sa4 up)
     case step =>
      rintro z c st' h1 h2 ⟨rfl,rfl,zm,up⟩
      dsimp only
      refine DF (gQ C (sa4.k.trans hκ) u4 (by lia) (by lia) ?_)
      dsimp only
      cases hb:O.blt (kk key (DP st4) (lo+z)) (kk key (DP st4) (lo+z-1)) with
      | true =>
       rw[if_pos rfl]
       exact DK ⟨rfl,z,rfl,by lia,zm,up⟩
      | false =>
       rw[if_neg (by simp)]
       refine DK ⟨rfl,rfl,by lia,λi j k1 k2 k3 =>?_⟩
       by_cases hj:j=lo+z
       ·by_cases hi:i=j
        ·rw[hi];exact FF _
        ·rw[hj];exact Ee (up i (lo+z-1) k1 (by lia) (by lia)) hb
       ·exact up i j k1 k2 (by lia)
theorem oj {xs:Array DL}{src d:Nat}(hs:src<xs.size)(hd:d<=src)(k:Nat) :
  kk key (bubble xs src d) k=if k=src-d then kk key xs src else if src-d<k/\k<=src then kk key xs (k-1) else kk key xs k:=by
 have e:=getElem?_bubble hs d hd k
 by_cases h1:k=src-d
 ·rw[if_pos h1] at e ⊢;exact iW e
 ·rw[if_neg h1] at e ⊢
  by_cases h2:src-d<k/\k<=src
  ·rw[if_pos h2] at e ⊢;exact iW e
  ·rw[if_neg h2] at e ⊢;exact iW e
theorem SA.bubble {lo:Nat}{st st':D8}(h:SA lo st st'){src d:Nat}(hs:src<(DP st').size)(hd:lo+d<=src):SA lo st (setArr st' (bubble (DP st') src d)) :=
 ⟨(bubble_perm _ _ _).trans h.perm,λk hk=>by
  show (PyProof.Rows.bubble (DP st') src d)[k]? = _
  rw[getElem?_bubble hs d (by lia),if_neg (by lia),if_neg (by lia)]
  exact h.pre k hk,h.k,h.p,h.f⟩
theorem xN (C:Cmp prog w A s O key U κ){st:D8}{lo n ok:Nat}{Q:Bool->D8->Prop}(hκ:kindOf st=κ)(hu:∀p∈(DP st).toList,U p)(hn:lo+n<=(DP st).size)(hok:ok<=n)(up:Up key (DP st) lo ok)
  (h:∀st',SA lo st st'->Up key (DP st') lo n->Q true st'):wpS (DS prog w) A E s (xC lo n ok) Q st:=by
 rw[xM]
 dsimp only
 refine DF (FU (EX (I:=λx c st'=>c=(none,())/\SA lo st st'/\Up key (DP st') lo (min x n)) (Q:=λc st'=>c=(none,())/\SA lo st st'/\Up key (DP st') lo n) ?step ?fin ⟨rfl,SA.refl _ _,λi j k1 k2 k3 =>?_⟩) ?post)
 case post =>
  rintro c st' ⟨rfl,sa,up⟩
  exact DK (h st' sa up)
 case fin =>
  rintro c st' ⟨rfl,sa,up⟩
  refine ⟨rfl,sa,?_⟩
  rw[show min (max (max ok 1) n) n=n by lia] at up
  exact up
 case step =>
  rintro k c st1 h1 h2 ⟨rfl,sa1,up1⟩
  rw[show min k n=k by lia] at up1
  have sz:=sa1.size
  have u1:∀p∈(DP st1).toList,U p:=λp hp=>hu p (sa1.mem hp)
  refine DF (FU (EX (I:=λx c st'=>st1=st'/\∃l r,c=(none,l,r)/\l<=r/\r<=k/\r-l<=k-x/\(∀i,i<l->O.kle (kk key (DP st1) (lo+i)) (kk key (DP st1) (lo+k)))/\(∀i,r<=i->i<k->O.klt (kk key (DP st1) (lo+k)) (kk key (DP st1) (lo+i))))
   (Q:=λc st'=>st1=st'/\∃l r,c=(none,l,r)/\l<=k/\(∀i,i<l->O.kle (kk key (DP st1) (lo+i)) (kk key (DP st1) (lo+k)))/\(∀i,l<=i->i<k->O.klt (kk key (DP st1) (lo+k)) (kk key (DP st1) (lo+i)))) ?istep ?ifin ⟨rfl,0,k,rfl,by lia,by lia,by lia,λi hi=>by lia,λi a1 a2=>by lia⟩) ?ipost)
  case ifin =>
   rintro c st' ⟨rfl,l,r,rfl,b1,b2,b3,b4,b5⟩
   have e:l=r:=by lia
   subst e
   exact ⟨rfl,l,l,rfl,b2,b4,b5⟩
  case istep =>
   rintro x c st' _ hx ⟨rfl,l,r,rfl,b1,b2,b3,b4,b5⟩
   dsimp only
   by_cases hge:l≥r
   ·rw[if_pos hge]
    have e:l=r:=by lia
    subst e
    exact DK ⟨rfl,l,l,rfl,b2,b4,b5⟩
   ·rw[if_neg hge]
    refine DF (gQ C (sa1.k.trans hκ) u1 (by lia) (by lia) ?_)
    dsimp only
    cases hb:O.blt (kk key (DP st1) (lo+k)) (kk key (DP st1) (lo+(l+r)/2)) with
    | true =>
     rw[if_pos rfl]
     exact DK ⟨rfl,l,(l+r)/2,rfl,by lia,by lia,by lia,b4,λi a1 a2=>KeyOrd.klt_of_klt_of_kle hb (up1 _ _ (by lia) (by lia) (by lia))⟩
    | false =>
     rw[if_neg (by simp)]
     exact DK ⟨rfl,(l+r)/2+1,r,rfl,by lia,by lia,by lia,λi a1=>Ee (up1 (lo+i) (lo+(l+r)/2) (by lia) (by lia) (by lia)) hb,b5⟩
  case ipost =>
   rintro c st' ⟨rfl,l,r,rfl,b2,b4,b5⟩
   dsimp only
   rw[moveDown'_eq]
   have e:lo+k-(lo+l)=k-l:=by lia
   refine DF (Gj (DK ⟨rfl,?_,?_⟩))
   ·rw[e]
    exact sa1.bubble (by lia) (by lia)
   ·rw[show min (k+1) n=k+1 by lia]
    intro i j k1 k2 k3
    show O.kle (kk key (bubble (DP st1) (lo+k) (lo+k-(lo+l))) i) (kk key (bubble (DP st1) (lo+k) (lo+k-(lo+l))) j)
    have lt:lo+k<(DP st1).size:=by lia
    rw[e,oj lt (by lia),oj lt (by lia),show lo+k-(k-l)=lo+l by lia]
    have b4':∀z,lo<=z->z<lo+l->O.kle (kk key (DP st1) z) (kk key (DP st1) (lo+k)):=λz z1 z2=>by
     have:=b4 (z-lo) (by lia)
     rw[show lo+(z-lo)=z by lia] at this
     exact this
    have b5':∀z,lo+l<=z->z<lo+k->O.kle (kk key (DP st1) (lo+k)) (kk key (DP st1) z):=λz z1 z2=>by
     have:=b5 (z-lo) (by lia) (by lia)
     rw[show lo+(z-lo)=z by lia] at this
     exact E6 this
    repeat' split
    all_goals first
     | (exfalso;lia)
     | exact FF _
     | exact b4' _ (by lia) (by lia)
     | exact b5' _ (by lia) (by lia)
     | exact up1 _ _ (by lia) (by lia) (by lia)
 ·by_cases h1:ok=0
  ·rw[show i=j by lia];exact FF _
  ·exact up i j k1 k2 (by lia)
end
def pwr:Nat->Nat->Nat->Nat->Nat:=sortPriv% PySem.Builtin.power
def mrn:Nat->Nat->Nat->Nat:=sortPriv% PySem.Builtin.minRun
theorem xO:AM=(do
    let sz:=(DP (← get)).size
    let mr:=mrn sz sz 0
    let mut lo:=0
    for _ in [0:sz] do
      if lo≥sz then break
      let some fd ← BA lo (sz-lo)
        | return
      let mut n:=fd
      if n<mr then
        rule "list.sort.binary-insertion"
        let fo:=min (sz-lo) mr
        if !(← xC lo fo n) then return
        n:=fo
      if let some (s1,n1,_):=(D1 (← get)).back? then
        let pw:=pwr sz (2*s1+n1) (2*s1+n1+n1+n) sz
        for _ in [0:sz] do
          let p:=D1 (← get)
          let some (_,_,old):=(if p.size>1 then p[p.size-2]? else none)
            | break
          if old<=pw then break
          if !(← mAt (p.size-2)) then return
        modify λs=>SortSt.mk' (kindOf s) (DP s) ((D1 s).modify ((D1 s).size-1) λ(st,len,_)=>(st,len,pw)) (gallopOf s) (failedOf s)
      modify λs=>SortSt.mk' (kindOf s) (DP s) ((D1 s).push (lo,n,0)) (gallopOf s) (failedOf s)
      lo:=lo+n
    for _ in [0:sz] do
      let p:=D1 (← get)
      if p.size<=1 then break
      let i:=p.size-2
      let bf:=if i>0 then p[i-1]?.map (·.2.1) else none
      let i:=if bf.any (· < (p[i+1]?.elim 0 (·.2.1))) then i-1 else i
      if !(← mAt i) then return):=rfl
def Mt:Nat->List (List DL)->List (Nat×Nat×Nat)->Prop
 | _,[],[]=>True
 | off,r :: rs,p :: ps=>p.1=off/\p.2.1=r.length/\Mt (off+r.length) rs ps
 | _,_,_=>False
theorem Mt.length:∀{off:Nat} {rs:List (List DL)} {ps:List (Nat×Nat×Nat)},Mt off rs ps->ps.length=rs.length
 | _,[],[],_=>rfl
 | _,_ :: _,_ :: _,h=>by rw[Dz,Dz,Mt.length h.2.2]
theorem Mt.append:∀{off:Nat} {rs ts:List (List DL)} {ps us:List (Nat×Nat×Nat)},Mt off rs ps->Mt (off+rs.flatten.length) ts us->Mt off (rs++ts) (ps++us)
 | _,[],_,[],_,_,h=>by simpa using h
 | off,r :: rs,ts,p :: ps,us,h,h'=>by
  refine ⟨h.1,h.2.1,Mt.append h.2.2 ?_⟩
  rw[FO,C8, <- ML] at h'
  exact h'
theorem Mt.split:∀{off:Nat} {rs:List (List DL)} {ps:List (Nat×Nat×Nat)} (i:Nat),Mt off rs ps->i+1<ps.length →
  ∃R1 X Y R2 L1 w1 w2 L2,rs=R1++X :: Y :: R2/\ps=L1++(off+R1.flatten.length,X.length,w1) :: (off+R1.flatten.length+X.length,Y.length,w2) :: L2/\L1.length=i/\Mt off R1 L1/\Mt (off+R1.flatten.length+X.length+Y.length) R2 L2
 | off,r :: r2 :: rs,p :: p2 :: ps,0,h,_=>by
  obtain ⟨a,b,w1⟩:=p
  obtain ⟨c,d,w2⟩:=p2
  obtain ⟨h1,h2,h3,h4,h5⟩:=h
  dsimp only at h1 h2 h3 h4
  subst h1 h2 h3 h4
  exact ⟨[],r,r2,rs,[],w1,w2,ps,rfl,rfl,rfl,trivial,h5⟩
 | off,r :: rs,p :: ps,i+1,h,hl=>by
  rw[Dz] at hl
  obtain ⟨R1,X,Y,R2,L1,w1,w2,L2,e1,e2,e3,m1,m2⟩:=Mt.split i h.2.2 (by lia)
  have ea:off+(r :: R1).flatten.length=off+r.length+R1.flatten.length:=by rw[FO,C8];lia
  refine ⟨r :: R1,X,Y,R2,p :: L1,w1,w2,L2,by rw[e1];rfl,?_,by rw[Dz,e3],⟨h.1,h.2.1,m1⟩,?_⟩
  ·rw[ea,e2];rfl
  ·rw[ea];exact m2
 | off,[],[],i,_,hl=>by simp at hl
 | off,[_],[_],0,_,hl=>by simp at hl
theorem Mt.modify (f:Nat×Nat×Nat->Nat×Nat×Nat)(hf:∀p,(f p).1=p.1/\(f p).2.1=p.2.1):∀{off:Nat} {rs:List (List DL)} {ps:List (Nat×Nat×Nat)} (i:Nat),Mt off rs ps->Mt off rs (ps.modify i f)
 | _,[],[],i,_=>by cases i <;> exact trivial
 | off,r :: rs,p :: ps,0,h=>⟨(hf p).1.trans h.1,(hf p).2.trans h.2.1,h.2.2⟩
 | off,r :: rs,p :: ps,i+1,h=>⟨h.1,h.2.1,Mt.modify f hf i h.2.2⟩
theorem vJ {α:Type}(l:List α)(a b c:α)(r:List α):((l++a :: b :: r).set l.length c).eraseIdx (l.length+1)=l++c :: r:=by
 induction l with
 | nil=>rfl
 | cons x l ih=>simp only[Kc,Dz,List.set_cons_succ,Ib,ih]
section
variable  {O:ID}(key:DL->O.α)(U:DL->Prop)(κ:SortKind)
structure Rn (a0:List DL)(lo:Nat)(st:D8):Prop where
 ex:∃runs rest,(DP st).toList=runs.flatten++rest/\runs.flatten.length=lo/\(∀r∈runs,r.Pairwise (Le key)/\0<r.length)/\Mt 0 runs (D1 st).toList
 perm:(DP st).toList.Perm a0
 k:kindOf st=κ
 f:failedOf st=none
end
section
variable  {prog:DH}{w:Eb}{A:Ep}{E:C9->Dg->Prop}{s:Dg}{O:ID}{key:DL->O.α}{U:DL->Prop}{κ:SortKind}
theorem qL (C:Cmp prog w A s O key U κ){a0:List DL}{lo i:Nat}{st:D8}{Q:Bool->D8->Prop}(hu:∀p∈a0,U p)(R:Rn key κ a0 lo st)(hi:i+1<(D1 st).size)
  (h:∀st',Rn key κ a0 lo st'->(D1 st').size+1=(D1 st).size->(DP st').toList.drop lo=(DP st).toList.drop lo->Q true st'):wpS (DS prog w) A E s (mAt i) Q st:=by
 obtain ⟨runs,rest,ea,el,er,em⟩:=R.ex
 obtain ⟨R1,X,Y,R2,L1,w1,w2,L2,e1,e2,e3,m1,m2⟩:=Mt.split i em (by rw[Dl];exact hi)
 subst e1
 rw[GO] at e2 m2
 have hx:=er X (by simp)
 have hy:=er Y (by simp)
 have ga:(D1 st)[i]? = some (R1.flatten.length,X.length,w1):=by
  rw[<- Dt,e2, <- e3,show L1.length=L1.length+0 by lia,sR];rfl
 have gb:(D1 st)[i+1]? = some (R1.flatten.length+X.length,Y.length,w2):=by
  rw[<- Dt,e2, <- e3,sR];rfl
 refine BJ C (P:=R1.flatten) (X:=X) (Y:=Y) (S:=R2.flatten++rest) R.k R.f (by rw[ea];simp) (λp hp=>hu p (R.perm.mem_iff.mp hp)) ga gb hx.2 hy.2 hx.1 hy.1 λst' M pm sm ar pd kd fl =>?_
 have lm:M.length=X.length+Y.length:=by rw[pm.length_eq,C8]
 have ep:(D1 st').toList=L1++(R1.flatten.length,X.length+Y.length,w1) :: L2:=by
  rw[pd,Array.toList_eraseIdxIfInBounds,Jm,e2, <- e3]
  exact vJ _ _ _ _ _
 refine h st' ⟨⟨R1++M :: R2,rest,?_,?_,λr hr =>?_,?_⟩,?_,kd,fl⟩ ?_ ?_
 ·rw[ar];simp
 ·rw[<- el];simp[lm];lia
 ·rcases Dh.mp hr with q | q
  ·exact er r (by simp[q])
  ·rcases Dx.mp q with q | q
   ·rw[q];exact ⟨sm,by have:=hx.2;lia⟩
   ·exact er r (by simp[q])
 ·rw[ep]
  refine Mt.append m1 ⟨by rw[GO],lm.symm,?_⟩
  rw[GO,lm, <- ML]
  exact m2
 ·rw[ar]
  refine List.Perm.trans ?_ R.perm
  rw[ea,show (R1++X :: Y :: R2).flatten++rest=R1.flatten++((X++Y)++(R2.flatten++rest)) by simp]
  exact Fy _ (Gs _ pm)
 ·rw[<- Dl, <- Dl,ep,e2]
  simp only[C8,Dz]
  lia
 ·have l1:(R1++M :: R2).flatten.length=lo:=by rw[<- el];simp[lm];lia
  have q1:(DP st').toList=(R1++M :: R2).flatten++rest:=by rw[ar];simp
  rw[q1,ea, <- l1,JC,l1, <- el,JC]
theorem Rn.sa {a0:List DL}{lo:Nat}{st st':D8}(R:Rn key κ a0 lo st)(sa:SA lo st st'):Rn key κ a0 lo st':=by
 obtain ⟨runs,rest,ea,el,er,em⟩:=R.ex
 have et:(DP st').toList.take lo=runs.flatten:=by
  have e1:(DP st').toList.take lo=(DP st).toList.take lo:=by
   refine Hs λi =>?_
   rw[Fm,Fm]
   split
   ·rw[Dt,Dt];exact sa.pre i (by assumption)
   ·rfl
  rw[e1,ea, <- el,List.take_left]
 refine ⟨⟨runs,(DP st').toList.drop lo,by rw[<- et,Fz],el,er,by rw[sa.p];exact em⟩,(Jn.mp sa.perm).trans R.perm,sa.k.trans R.k,sa.f.trans R.f⟩
theorem vL {xs:Array DL}{lo n:Nat}(h:Up key xs lo n):((xs.toList.drop lo).take n).Pairwise (Le key):=by
 refine HI.mpr λi j hi hj hij =>?_
 have get:∀k (hk:k<((xs.toList.drop lo).take n).length),key ((xs.toList.drop lo).take n)[k]=kk key xs (lo+k)/\k<n:=λk hk=>by
  have hk':=hk
  rw[Ew] at hk'
  refine ⟨?_,by lia⟩
  have e:((xs.toList.drop lo).take n)[k]? = xs[lo+k]? := by
   rw[Fm,if_pos (by lia),G5,Dt]
  rw[Dc hk] at e
  unfold kk
  rw[<- e];rfl
 obtain ⟨e1,l1⟩:=get i hi
 obtain ⟨e2,l2⟩:=get j hj
 show O.kle (key _) (key _)
 rw[e1,e2]
 exact h _ _ (by lia) (by lia) (by lia)
theorem Rn.push {a0:List DL}{lo n:Nat}{st:D8}(R:Rn key κ a0 lo st)(hn:0<n)(hz:lo+n<=(DP st).size)(hs:(((DP st).toList.drop lo).take n).Pairwise (Le key)) :
  Rn key κ a0 (lo+n) (SortSt.mk' (kindOf st) (DP st) ((D1 st).push (lo,n,0)) (gallopOf st) (failedOf st)):=by
 obtain ⟨runs,rest,ea,el,er,em⟩:=R.ex
 have ed:(DP st).toList.drop lo=rest:=by rw[ea, <- el,JC]
 rw[ed] at hs
 have lr:n<=rest.length:=by
  have:=congrArg List.length ea
  rw[Dl,C8,el] at this
  lia
 have lt:(rest.take n).length=n:=by rw[Ew];lia
 refine ⟨⟨runs++[rest.take n],rest.drop n,?_,?_,λr hr =>?_,?_⟩,R.perm,R.k,R.f⟩
 ·show (DP st).toList=_
  rw[ea];simp
 ·simp[lt,el]
 ·rcases Dh.mp hr with q | q
  ·exact er r q
  ·have e:r=rest.take n:=by simpa using q
   rw[e];exact ⟨hs,by lia⟩
 ·show Mt 0 _ ((D1 st).push (lo,n,0)).toList
  rw[FP]
  exact Mt.append em ⟨by show lo=_;lia,lt.symm,trivial⟩
theorem Rn.mod {a0:List DL}{lo:Nat}{st:D8}(R:Rn key κ a0 lo st)(i:Nat)(f:Nat×Nat×Nat->Nat×Nat×Nat)(hf:∀p,(f p).1=p.1/\(f p).2.1=p.2.1):Rn key κ a0 lo (SortSt.mk' (kindOf st) (DP st) ((D1 st).modify i f) (gallopOf st) (failedOf st)):=by
 obtain ⟨runs,rest,ea,el,er,em⟩:=R.ex
 refine ⟨⟨runs,rest,ea,el,er,?_⟩,R.perm,R.k,R.f⟩
 show Mt 0 runs ((D1 st).modify i f).toList
 rw[Array.toList_modify]
 exact Mt.modify f hf i em
theorem BK {c:Prop}[Decidable c]{n:Nat}(h:1<n):(if c then n-2-1 else n-2)+1<n:=by split <;> omega
theorem om:∀{runs:List (List DL)},(∀r∈runs,0<r.length)->runs.length<=runs.flatten.length
 | [],_=>Dd _
 | r :: rs,h=>by
  have h1:=h r DA
  have h2:=om λq hq=>h q (DB _ hq)
  rw[FO,C8,Dz]
  lia
theorem xP (C:Cmp prog w A s O key U κ){a0:List DL}{st:D8}{Q:Unit->D8->Prop}(hu:∀p∈a0,U p)(ha:(DP st).toList=a0)(hp:D1 st = #[])(hk:kindOf st=κ)(hf:failedOf st=none)(h1:1<=a0.length)
  (h:∀st',(DP st').toList.Perm a0->(DP st').toList.Pairwise (Le key)->failedOf st'=none->Q () st'):wpS (DS prog w) A E s AM Q st:=by
 rw[xO]
 refine DF (Jh ?_)
 dsimp only
 have sz0:(DP st).size=a0.length:=by rw[<- Dl,ha]
 have szR:∀{lo:Nat} {st':D8},Rn key κ a0 lo st'->(DP st').size=(DP st).size:=λR=>by rw[<- Dl,R.perm.length_eq,sz0]
 have uR:∀{lo:Nat} {st':D8},Rn key κ a0 lo st'->∀p∈(DP st').toList,U p:=λR p hp=>hu p (R.perm.mem_iff.mp hp)
 have R0:Rn key κ a0 0 st:=⟨⟨[],a0,by rw[ha];rfl,rfl,λr hr=>(by cases hr),by rw[hp];exact trivial⟩,by rw[ha],hk,hf⟩
 refine DF (FU (EX (I:=λx c st'=>∃lo,c=(none,lo)/\x<=lo/\lo<=(DP st).size/\Rn key κ a0 lo st') (Q:=λc st'=>c=(none,(DP st).size)/\Rn key κ a0 (DP st).size st') ?step ?fin ⟨0,rfl,Dd _,D5 _,R0⟩) ?post)
 case fin =>
  rintro c st' ⟨lo,rfl,l1,l2,R⟩
  obtain rfl:lo=(DP st).size:=by lia
  exact ⟨rfl,R⟩
 case post =>
  rintro c st1 ⟨rfl,R⟩
  dsimp only
  have p0:(D1 st1).size<=(DP st).size:=by
   obtain ⟨runs,rest,ea,el,er,em⟩:=R.ex
   have q:=em.length
   rw[Dl] at q
   have:=om λr hr=>(er r hr).2
   lia
  refine DF (FU (EX (I:=λx c st'=>c=(none,())/\Rn key κ a0 (DP st).size st'/\((D1 st').size<=1\/(D1 st').size+x<=(DP st).size)) (Q:=λc st'=>c=(none,())/\Rn key κ a0 (DP st).size st'/\(D1 st').size<=1) ?stepB ?finB ⟨rfl,R,.inr (by lia)⟩) ?postB)
  case finB =>
   rintro c st' ⟨rfl,R,q⟩
   exact ⟨rfl,R,by lia⟩
  case stepB =>
   rintro x c st' _ hx ⟨rfl,R,q⟩
   refine DF (Jh ?_)
   by_cases c1:(D1 st').size<=1
   ·rw[if_pos c1]
    exact DK ⟨rfl,R,c1⟩
   rw[if_neg c1]
   refine DF (qL C hu R (BK (by lia)) λst2 R2 s2 _ =>?_)
   simp only[E8,DJ,if_false]
   exact DK ⟨rfl,R2,by lia⟩
  case postB =>
   rintro c st' ⟨rfl,R,q⟩
   obtain ⟨runs,rest,ea,el,er,em⟩:=R.ex
   have lm:=em.length
   rw[Dl] at lm
   have lr:=congrArg List.length ea
   rw[Dl,szR R,C8,el] at lr
   have er0:rest=[]:=Ff.mp (by lia)
   subst er0
   rw[DZ] at ea
   match runs,er,lm,el,ea with
   | [],_,_,el,_=>simp at el;lia
   | [r],er,_,_,ea =>
    have e:(DP st').toList=r:=by rw[ea];simp
    exact DK (h st' R.perm (by rw[e];exact (er r (by simp)).1) R.f)
   | _ :: _ :: _,_,lm,_,_=>simp at lm;lia
 case step =>
  rintro x c st1 _ hx ⟨lo,rfl,l1,l2,R⟩
  dsimp only
  by_cases cl:lo≥(DP st).size
  ·rw[if_pos cl]
   obtain rfl:lo=(DP st).size:=by lia
   exact DK ⟨rfl,R⟩
  rw[if_neg cl]
  have s1:=szR R
  refine DF (zM C R.k (uR R) (by lia) (by lia) λn st2 n1 n2 sa2 up2 =>?_)
  dsimp only
  have R2:=R.sa sa2
  have s2:=szR R2
  by_cases cm:n<mrn (DP st).size (DP st).size 0
  case' pos =>
   rw[if_pos cm]
   refine DF (Jw (FI ⟨rfl,?_⟩))
   obtain ⟨fo,e⟩:∃fo,fo=min ((DP st).size-lo) (mrn (DP st).size (DP st).size 0):=⟨_,rfl⟩
   rw[<- e]
   refine DF (xN C R2.k (uR R2) (by lia) (by lia) up2 λst3 sa3 up3 =>?_)
   simp only[E8,DJ,if_false]
   have R3:=R2.sa sa3
   have f0:0<fo:=by lia
   have f1:lo+fo<=(DP st).size:=by lia
  case' neg =>
   rw[if_neg cm]
   obtain ⟨fo,e⟩:∃fo,fo=n:=⟨_,rfl⟩
   subst e
   obtain ⟨st3,e3⟩:∃st3,st3=st2:=⟨_,rfl⟩
   subst e3
   have R3:=R2
   have up3:=up2
   have f0:0<fo:=n1
   have f1:lo+fo<=(DP st).size:=by lia
  all_goals
   have srt:=vL up3
   have s3:=szR R3
   refine DF (Jh ?_)
   cases hbk:(D1 st3).back? with
   | none =>
    dsimp only
    exact DF (Gj (DK ⟨lo+fo,rfl,by lia,f1,R3.push f0 (by lia) srt⟩))
   | some t =>
    obtain ⟨t1,t2,t3⟩:=t
    dsimp only
    refine DF (FU (EX (I:=λ_ c st'=>c=(none,())/\Rn key κ a0 lo st'/\(DP st').toList.drop lo=(DP st3).toList.drop lo) (Q:=λc st'=>c=(none,())/\Rn key κ a0 lo st'/\(DP st').toList.drop lo=(DP st3).toList.drop lo) ?stepC ?finC ⟨rfl,R3,rfl⟩) ?postC)
    case finC=>exact λc st' q=>q
    case stepC =>
     rintro z c st4 _ _ ⟨rfl,R4,d4⟩
     refine DF (Jh ?_)
     by_cases p1:(D1 st4).size>1
     ·rw[if_pos p1]
      have lt:(D1 st4).size-2<(D1 st4).size:=by lia
      have e:(D1 st4)[(D1 st4).size-2]? = some (D1 st4)[(D1 st4).size-2]:=by simp[lt]
      rw[e]
      dsimp only
      split
      ·exact DK ⟨rfl,R4,d4⟩
      ·refine DF (qL C hu R4 (by lia) λst5 R5 _ d5 =>?_)
       simp only[E8,DJ,if_false]
       exact DK ⟨rfl,R5,d5.trans d4⟩
     ·rw[if_neg p1]
      exact DK ⟨rfl,R4,d4⟩
    case postC =>
     rintro c st4 ⟨rfl,R4,d4⟩
     dsimp only
     have s4:=szR R4
     refine DF (Gj (DF (Gj (DK ⟨lo+fo,rfl,by lia,f1,?_⟩))))
     refine Rn.push ?_ f0 ?_ ?_
     ·refine Rn.mod R4 _ _ ?_
      exact λp=>⟨rfl,rfl⟩
     ·show lo+fo<=(DP st4).size
      lia
     ·show (((DP st4).toList.drop lo).take fo).Pairwise (Le key)
      rw[d4]
      exact srt
end
structure iX (prog:DH)(w:Eb)(s:Dg)(vs:List C9)(O:ID)(key:C9->O.α):Prop where
 ok:2<=vs.length->∀(A:Ep) (h6:Heap),(∀b o,s.heap.get? b=some o->h6.get? b=some o)->∃κ,(∀(Q:SortKind->Dg->Prop) (E:C9->Dg->Prop),Q κ { s with heap:=h6 }->DI (DS prog w) A (keyKind' vs.toArray) Q E { s with heap:=h6 }) ∧
  Cmp prog w A { s with heap:=h6 } O (λp=>key p.1) (λp=>p.1=p.2/\p.1∈vs) κ
section
variable  {prog:DH}{w:Eb}{A:Ep}{E:C9->Dg->Prop}{s:Dg}{O:ID}{key:C9->O.α}
theorem zs:∀vs:List C9,(vs.zip vs).map (·.2)=vs
 | []=>rfl
 | v :: vs=>by rw[HY,DV,zs vs]
theorem qM {l:List DL}{vs:List C9}(h:l.Perm (vs.zip vs)):(l.map (·.2)).Perm vs/\∀p∈l,p.1=p.2/\p.1∈vs:=by
 have e:=zs vs
 refine ⟨by have:=h.map (·.2);rw[e] at this;exact this,λp hp =>?_⟩
 have m:=h.mem_iff.mp hp
 obtain ⟨i,hi⟩:=EG.mp m
 rw[Jy] at hi
 have e1:=hi.1.symm.trans hi.2
 exact ⟨DW e1,Dp hi.1⟩
theorem dD {a:Addr}{vs:List C9}{n:Nat}{P:Fin->Dg->Prop}(ho:s.heap.get? a=some (seqObj "list" vs.toArray n))(hz:vs.length<=Dm)
    (hc:2<=vs.length->∀h6,(∀b o,b≠a->s.heap.get? b=some o->h6.get? b=some o)->∃κ,(∀(Q:SortKind->Dg->Prop) (E:C9->Dg->Prop),Q κ { s with heap:=h6 }->DI (DS prog w) A (keyKind' vs.toArray) Q E { s with heap:=h6 }) ∧
      Cmp prog w A { s with heap:=h6 } O (λp=>key p.1) (λp=>p.1=p.2/\p.1∈vs) κ)
    (h:∀out:List C9,out.Perm vs->out.Pairwise (λx y=>O.kle (key x) (key y))->P (.done (.ret .none)) { s with heap:=sortedHeap s.heap a vs out.toArray }):DI (DS prog w) A (Builtin.«list.sort» ⟨[.ref a],[]⟩) P E s:=by
  rw[list_sort_plain]
  have ha:a<s.heap.objs.size:=Ds ho
  refine C5 (LV ho rfl ?_)
  refine C5 (LA ho rfl ?_ (by rw[Dk];exact hz) (D5 _))
  obtain ⟨e1,ho1⟩:∃e1,(s.heap.update a (Fh λ_ => #[])).get? a=some (seqObj "list" #[] e1):=⟨_,get?_update_seq ho (λ_ => #[])⟩
  refine C5 (seqEpoch_at ho1 rfl (C5 (wpAny_newTuple ?_ (by exact hz))))
  refine C5 (Ie ?_ (D5 _))
  refine EU ?_
  generalize hH:((s.heap.update a (Fh λ_ => #[])).push (seqObj "tuple" vs.toArray 0)).push (seqObj "list" #[] 0)=h6
  have kp:∀b o,b≠a->s.heap.get? b=some o->h6.get? b=some o:=λb o nb e=>by
    rw[<- hH]
    refine C7 _ (C7 _ ?_)
    rw[K9 _ _ _ _ nb]
    exact e
  have ho6:h6.get? a=some (seqObj "list" #[] e1):=by
    rw[<- hH]
    exact C7 _ (C7 _ ho1)
  have eH:∀out:List C9,sortedHeap s.heap a vs out.toArray=h6.update a (Fh λ_=>out.toArray):=λout=>by rw[<- hH];rfl
  have go:∀st':D8,(DP st').toList.Perm (vs.zip vs)->(DP st').toList.Pairwise (λp q=>O.kle (key p.1) (key q.1))->failedOf st'=none →
      DI (DS prog w) A (do
        let sorted:=(DP st').map (·.2)
        let touched:=(← seqEpoch a) != e1
        Builtin.List.listUpdate (.ref a) λ_=>sorted
        if let some e:=failedOf st' then rule "list.sort.comparison-raised";throw e
        if touched then rule "list.sort.modified";raiseError "ValueError" "list modified during sort"
        ret .none) P E { s with heap:=h6 }:=by
    intro st' pm ps hf
    obtain ⟨z1,z2⟩:=qM pm
    have em:(DP st').map (·.2)=((DP st').toList.map (·.2)).toArray:=by
      apply L0.mp
      rw[II]
    dsimp only
    refine C5 (seqEpoch_at ho6 rfl ?_)
    refine C5 (LA ho6 rfl ?_ (D5 _) (by rw[Ey, <- Dl,pm.length_eq,Mi,Nat.min_self];lia))
    rw[hf]
    simp only[bne_self_eq_false,DJ,if_false]
    refine De ?_
    rw[em, <- eH]
    refine h _ z1 (Eu.mpr (ps.imp_of_mem λ{p q} hp hq le =>?_))
    rw[<- (z2 p hp).1, <- (z2 q hq).1]
    exact le
  by_cases h2:vs.toArray.size<2
  · rw[if_pos h2,if_pos h2]
    refine C5 (De ?_)
    dsimp only
    rw[StateT.run_pure]
    refine C5 (De ?_)
    refine go (SortSt.mk' general' (vs.toArray.zip vs.toArray) #[] 7 none) (by show (vs.toArray.zip vs.toArray).toList.Perm _;simp) ?_ rfl
    rw[Dk] at h2
    have et:(vs.toArray.zip vs.toArray).toList=vs.zip vs:=by simp
    show (vs.toArray.zip vs.toArray).toList.Pairwise (λ(p q:DL)=>O.kle (key p.1) (key q.1))
    rw[et]
    have short:∀us:List C9,us.length<2->(us.zip us).Pairwise (λ(p q:DL)=>O.kle (key p.1) (key q.1)):=λus hu=>by
      match us,hu with
      | [],_=>exact List.Pairwise.nil
      | [v],_=>exact Gg _ _
      | _ :: _ :: _,hu=>simp only[Dz] at hu;lia
    exact short vs h2
  · rw[if_neg h2,if_neg h2]
    rw[Dk] at h2
    obtain ⟨κ,k1,C⟩:=hc (by lia) h6 kp
    refine C5 (k1 _ _ ?_)
    have et:(vs.toArray.zip vs.toArray).toList=vs.zip vs:=by simp
    refine C5 (Gi (xP C (E:=E) (a0:=vs.zip vs) (st:=SortSt.mk' κ (vs.toArray.zip vs.toArray) #[] 7 none)
      (Q:=λ_ st'=>(DP st').toList.Perm (vs.zip vs)/\(DP st').toList.Pairwise (Le λ(p:DL)=>key p.1)/\failedOf st'=none)
      (qM (HH _)).2 et rfl rfl rfl (by rw[Mi,Nat.min_self];lia) λst' a1 a2 a3=>⟨a1,a2,a3⟩) ?_ λ_ _ e=>e)
    rintro ⟨⟨⟩,st'⟩ s' ⟨rfl,hp,hs,hf⟩
    exact go st' hp hs hf
def lU (prog:DH)(w:Eb)(s:Dg)(v:C9)(vs:List C9):Prop :=
 ∀(A:Ep) (E:C9->Dg->Prop) (R:List C9->Dg->Prop),(∀h1,(∀b o,s.heap.get? b=some o->h1.get? b=some o)->s.heap.objs.size<=h1.objs.size->R vs { s with heap:=h1 })->DI (DS prog w) A (collect v) R E s
theorem lV {v:C9}{vs:List C9}{Q:C9->Dg->Prop}(hv:lU prog w s v vs)(hz:vs.length<=Dm)(C:iX prog w s vs O key)
  (h:∀(h':Heap) (p:Addr) (out:List C9) (n:Nat),(∀b o,s.heap.get? b=some o->h'.get? b=some o)->s.heap.objs.size<=p->h'.get? p=some (seqObj "list" out.toArray n)->out.Perm vs->out.Pairwise (λx y=>O.kle (key x) (key y))->Q (.ref p) { s with heap:=h' }) :
  DI (DS prog w) A (call (.builtin "sorted") [v]) Q E s:=by
 refine GB Li KJ KL (KN _) ?_
 unfold Builtin.«sorted»
 refine C5 (m:=checkCount "sorted" 1 1 _) (De ?_)
 refine C5 (hv _ _ _ λh1 k1 z1=>C5 (Ie ?_ hz))
 have hoL:(h1.push (seqObj "list" vs.toArray 0)).get? h1.objs.size=some (seqObj "list" vs.toArray 0):=Dn _ rfl
 have kL:∀b o,s.heap.get? b=some o->(h1.push (seqObj "list" vs.toArray 0)).get? b=some o:=λb o e=>C7 _ (k1 b o e)
 refine C5 (EU (Ei slot_list_sort ⟨_,hoL,rfl⟩ entry_list_sort (dD (key:=key) (O:=O) hoL hz (λh2 h6 k6 =>?_) λout pm ps=>⟨_,rfl,?_⟩) (JG _)))
 ·exact C.ok h2 _ h6 λb o e=>k6 b o (Dw (DC (Ds e) z1)) (kL b o e)
 ·obtain ⟨n,en⟩:=J6 (out:=out.toArray) hoL
  refine De ⟨_,rfl,h _ _ out n (λb o e =>?_) z1 en pm ps⟩
  have lt:=DC (Ds e) z1
  rw[JH (Dw lt) (by rw[KR];exact EH lt)]
  exact kL b o e
theorem fE {l:Addr}{o:Obj}{vs:List C9}{n:Nat}(ho:s.heap.get? l=some o)(hc:o.cls = .type "list" \/ o.cls = .type "tuple")(hd:o.data = .seq vs.toArray n)(hz:vs.length<=Dm):lU prog w s (.ref l) vs:=by
  intro A E R h
  unfold collect
  refine C5 (G2 (EE entry_proto_collect' ?_))
  show DI _ _ (do again (.builtin "list.__iadd__" ⟨[<- newList [],.ref l],[]⟩)) _ _ s
  refine C5 (Ie (De ⟨Js _ (by decide +kernel),EE entry_list_iadd' ?_⟩))
  show DI _ _ (DT (.ref s.heap.objs.size) (.ref l) (.ref s.heap.objs.size)) _ _ { s with heap:=s.heap.push (seqObj "list" #[] 0) }
  unfold DT
  have ho':(s.heap.push (seqObj "list" #[] 0)).get? l=some o:=C7 _ ho
  have cond:∀T,o.cls = .type T->(T = "list" \/ T = "tuple")->DI (DS prog w) A (typeOf (.ref l)) (λt s'=>t = .type T/\s'={ s with heap:=s.heap.push (seqObj "list" #[] 0) }) E { s with heap:=s.heap.push (seqObj "list" #[] 0) }:=λT e _=>FC (T:=T) ⟨o,ho',e⟩ ⟨rfl,rfl⟩
  obtain ⟨T,eT,hT⟩:∃T,o.cls = .type T/\(T = "list" \/ T = "tuple"):=by
    rcases hc with hc | hc
    · exact ⟨_,hc,.inl rfl⟩
    · exact ⟨_,hc,.inr rfl⟩
  refine C5 (FC (T:=T) ⟨o,ho',eT⟩ ?_)
  rw[if_pos (by rcases hT with rfl | rfl <;> simp)]
  refine C5 (LV ho' hd ?_)
  refine C5 (LV (xs := #[]) (n:=0) (Dn _ rfl) rfl ?_)
  rw[if_neg (by simp)]
  refine C5 (LA (xs := #[]) (n:=0) (Dn _ rfl) rfl ?_ (D5 _) (by show (#[]++vs.toArray).size<=Dm+1;simp only[Hr,Dk,ER];lia))
  refine De ?_
  show DI (DS prog w) A (do
      let o ← load s.heap.objs.size
      match o.data with
      | .seq xs _=>pure xs.toList
      | _=>unsupported "internal:collect") R E { s with heap:=(s.heap.push (seqObj "list" #[] 0)).update s.heap.objs.size (Fh (· ++ vs.toArray)) }
  refine C5 (JS (get?_update_seq (Dn _ rfl) _) ?_)
  show DI _ _ (pure ((#[]:Array C9)++vs.toArray).toList) R E _
  rw[show ((#[]:Array C9)++vs.toArray).toList=vs by simp]
  refine De (h _ (λb ob e =>?_) ?_)
  · rw[K9 _ _ _ _ (Dw (Ds e))]
    exact C7 _ e
  · rw[Heap.size_update,KR]
    exact GQ _
end
def pF:ID where
 α:=Int
 blt:=λa b=>decide (a<b)
 irrefl:=λa=>by simp
 trans:=λa b c h1 h2=>by simp at *;lia
 negTrans:=λa b c h=>by simp at *;lia
 total:=λa b h1 h2=>by simp at *;lia
theorem lex_irrefl:∀a,HT.lexLt a a=false
 | []=>rfl
 | x :: xs=>by rw[HT.dz,if_pos rfl];exact lex_irrefl xs
theorem lex_trans:∀a b c,HT.lexLt a b=true->HT.lexLt b c=true->HT.lexLt a c=true
 | [],[],_,h,_=>by cases h
 | [],_ :: _,[],_,h=>by cases h
 | [],_ :: _,_ :: _,_,_=>rfl
 | _ :: _,[],_,h,_=>by cases h
 | _ :: _,_ :: _,[],_,h=>by cases h
 | x :: xs,y :: ys,z :: zs,h1,h2=>by
  rw[HT.dz] at *
  by_cases e1:x=y
  ·subst e1
   rw[if_pos rfl] at h1
   by_cases e2:x=z
   ·rw[if_pos e2] at h2 ⊢
    exact lex_trans xs ys zs h1 h2
   ·rw[if_neg e2] at h2 ⊢
    exact h2
  ·rw[if_neg e1] at h1
   have l1:=of_decide_eq_true h1
   by_cases e2:y=z
   ·subst e2
    rw[if_neg e1]
    exact h1
   ·rw[if_neg e2] at h2
    have l2:=of_decide_eq_true h2
    rw[if_neg (by omega)]
    exact decide_eq_true (by omega)
theorem eQ:∀a b,HT.lexLt a b=false->HT.lexLt b a=false->a=b
 | [],[],_,_=>rfl
 | [],_ :: _,h,_=>by cases h
 | _ :: _,[],_,h=>by cases h
 | x :: xs,y :: ys,h1,h2=>by
  rw[HT.dz] at *
  by_cases e:x=y
  ·subst e
   rw[if_pos rfl] at h1 h2
   rw[eQ xs ys h1 h2]
  ·rw[if_neg e] at h1
   rw[if_neg (EB e)] at h2
   have a1:=of_decide_eq_false h1
   have a2:=of_decide_eq_false h2
   omega
theorem zN (a b c:List Int)(h:HT.lexLt a c=true):HT.lexLt a b=true\/HT.lexLt b c=true:=by
 cases h1:HT.lexLt a b with
 | true=>exact .inl rfl
 | false =>
  right
  cases h2:HT.lexLt b a with
  | true=>exact lex_trans b a c h2 h
  | false=>rw[<- eQ a b h1 h2];exact h
def lexOrd:ID where
 α:=List Int
 blt:=HT.lexLt
 irrefl:=lex_irrefl
 trans:=lex_trans
 negTrans:=zN
 total:=eQ
def intOf:C9->Int
 | .int i _=>i
 | _=>0
section
variable  {prog:DH}{w:Eb}{A:Ep}{E:C9->Dg->Prop}{s:Dg}
theorem gg:∀{vs:List C9} {ns:List Int},Gq vs ns->∀v∈vs,∃i t,v = .int i t
 | _,_,.nil,v,h=>by cases h
 | _,_,.cons n t r,v,h=>by
  rcases Dx.mp h with e | e
  ·exact ⟨n,t,e⟩
  ·exact gg r v e
theorem fF {vs:List C9}{ns:List Int}(hI:Gq vs ns):iX prog w s vs pF intOf:=by
 refine ⟨λh2 A h6 _=>⟨oneType',λQ E q =>?_,⟨λE st x y Q hk hx hy q =>?_⟩⟩⟩
 ·match vs,h2,hI with
  | v1 :: v2 :: rest,_,hI =>
   rw[keyKind_ints hI]
   exact De q
  | [],h2,_=>simp at h2
  | [_],h2,_=>simp at h2
 ·obtain ⟨i,t,e1⟩:=gg hI _ hx.2
  obtain ⟨j,u,e2⟩:=gg hI _ hy.2
  rw[lt'_eq]
  refine DF (Jh ?_)
  rw[hk,keyLt'_oneType,e1,e2]
  refine DF (Jw (FT (oneLt_int ⟨rfl,?_⟩)))
  refine DK ?_
  have q':Q (some (decide (intOf x.1<intOf y.1))) st:=q
  rw[e1,e2] at q'
  exact q'
def du (h:Heap)(v:C9):List Int:=match v with
 | .ref p=>match h.get? p with
  | some o=>match o.data with
   | .seq xs _=>xs.toList.map intOf
   | _=>[]
  | none=>[]
 | _=>[]
def cA (h:Heap)(v:C9)(ns:List Int):Prop:=∃p o xs n,v = .ref p/\h.get? p=some o/\o.cls = .type "tuple" /\ o.data = .seq xs n/\Gq xs.toList ns
theorem ints_map:∀{vs:List C9} {ns:List Int},Gq vs ns->vs.map intOf=ns
 | _,_,.nil=>rfl
 | _,_,.cons n t r=>by rw[DV,ints_map r];rfl
theorem cA.ints {h:Heap}{v:C9}{ns:List Int}(x:cA h v ns):du h v=ns:=by
 obtain ⟨p,o,xs,n,rfl,e,_,d,r⟩:=x
 unfold du
 dsimp only
 rw[e]
 dsimp only
 rw[d]
 exact ints_map r
theorem cA.keeps {h h':Heap}{v:C9}{ns:List Int}(x:cA h v ns)(k:∀b o,h.get? b=some o->h'.get? b=some o):cA h' v ns:=by
 obtain ⟨p,o,xs,n,rfl,e,r⟩:=x
 exact ⟨p,o,xs,n,rfl,k _ _ e,r⟩
theorem qN {fin:Bool}{Q:Bool->Dg->Prop}:∀{us ws:List C9} {ns ms:List Int} (i:Nat),Gq us ns->Gq ws ms->(fin=true↔(decide (ns.length<ms.length)=true))->Q (HT.lexLt ns ms) s →
  PySem.W.KatLex prog w A true fin Q (us.zip ws) i s
 | _,_,_,_,i,.nil,.nil,hf,q=>by
  refine I0 ?_
  have e:fin=false:=by cases fin with
   | false=>rfl
   | true=>have:=hf.mp rfl;simp at this
  rw[e];exact q
 | _,_,_,_,i,.nil,.cons _ _ _,hf,q=>by
  refine I0 ?_
  have e:fin=true:=hf.mpr (by simp)
  rw[e];exact q
 | _,_,_,_,i,.cons _ _ _,.nil,hf,q=>by
  refine I0 ?_
  have e:fin=false:=by cases fin with
   | false=>rfl
   | true=>have:=hf.mp rfl;simp at this
  rw[e];exact q
 | _,_,_,_,i,.cons (ns:=ns) a t r,.cons (ns:=ms) c u r',hf,q=>by
  rw[HY]
  refine Ke (Kf ?_)
  rw[HT.dz] at q
  by_cases e:a=c
  ·rw[if_pos e] at q
   rw[beq_iff_eq.mpr e]
   exact Kx (qN (i+1) r r' (by rw[hf];simp) q)
  ·rw[if_neg e] at q
   rw[beq_eq_false_iff_ne.mpr e]
   refine K7 ?_
   by_cases i0:(true && i == 0)=true
   ·rw[i0]
    exact oneLt_int q
   ·rw[Ht.mpr i0,oneLt'_eq]
    simp only[DJ,if_false]
    refine C5 (HT.qE _ _ a t c u prog w _ _ ?_)
    exact FQ q
theorem lW {h:Heap}:∀{vs:List C9},(∀v∈vs,∃ns,cA h v ns/\ns≠[])->∃fs,PySem.W.KatTups h vs fs/\fs.length=vs.length/\∀f∈fs,∃i t,f = .int i t
 | [],_=>⟨[],trivial,rfl,λf hf=>by cases hf⟩
 | v :: vs,hv=>by
  obtain ⟨fs,t,l,hf⟩:=lW λu hu=>hv u (DB _ hu)
  obtain ⟨ns,⟨p,o,xs,n,rfl,e,c,d,r⟩,ne⟩:=hv v DA
  have hx:∃i t,xs[0]? = some (.int i t):=by
   rw[<- Dt]
   generalize xs.toList=l at r
   cases r with
   | nil=>exact absurd rfl ne
   | cons i t r=>exact ⟨i,t,rfl⟩
  obtain ⟨i,t',hx⟩:=hx
  exact ⟨.int i t' :: fs,KU e c d hx t,by rw[Dz,Dz,l],λf hf'=>by
   rcases Dx.mp hf' with q | q
   ·exact ⟨i,t',q⟩
   ·exact hf f q⟩
theorem iY {vs:List C9}(hv:∀v∈vs,∃ns,cA s.heap v ns/\ns≠[]):iX prog w s vs lexOrd (du s.heap):=by
 refine ⟨λh2 A h6 k6=>⟨tuples' true,λQ E q =>?_,⟨λE st x y Q hk hx hy q =>?_⟩⟩⟩
 ·obtain ⟨fs,t,l,hf⟩:=lW (h:=h6) (vs:=vs) λv hv'=>by
   obtain ⟨ns,i,ne⟩:=hv v hv'
   exact ⟨ns,i.keeps k6,ne⟩
  refine L3 (T :=.type "int") t (by lia) (λf hf' =>?_) rfl q
  obtain ⟨i,t',rfl⟩:=hf f hf'
  exact Ky rfl
 ·obtain ⟨ns,i1,_⟩:=hv _ hx.2
  obtain ⟨ms,i2,_⟩:=hv _ hy.2
  have q':Q (some (HT.lexLt (du s.heap x.1) (du s.heap y.1))) st:=q
  rw[i1.ints,i2.ints] at q'
  obtain ⟨p1,o1,xs1,n1,e1,g1,c1,d1,r1⟩:=i1.keeps k6
  obtain ⟨p2,o2,xs2,n2,e2,g2,c2,d2,r2⟩:=i2.keeps k6
  rw[lt'_eq]
  refine DF (Jh ?_)
  rw[hk,e1,e2]
  have l1:=r1.length
  have l2:=r2.length
  refine DF (Jw (FT (MA g1 d1 g2 d2 (qN 0 r1 r2 ?_ ⟨rfl,?_⟩))))
  ·rw[<- l1, <- l2,Dl,Dl]
  ·exact DK q'
end
end Srt
namespace L2
open PySem PySem.Spec PyProof.Rows
theorem iu {α β:Type}{f:α -> β}:∀{l:List β} {m:List α},l.Perm (m.map f)->∃m':List α,m'.Perm m/\l=m'.map f:=by
 intro l m h
 generalize hk:m.map f=k at h
 induction h generalizing m with
 | nil =>
  have:m=[]:=La.mp hk
  exact ⟨[],by rw[this],rfl⟩
 | cons x _ ih =>
  match m,hk with
  | y :: m,hk =>
   rw[DV] at hk
   injection hk with h1 h2
   obtain ⟨m',p,e⟩:=ih h2
   exact ⟨y :: m',p.cons y,by rw[DV, <- e,h1]⟩
  | [],hk=>cases hk
 | swap x y l =>
  match m,hk with
  | a :: b :: m,hk =>
   rw[DV,DV] at hk
   injection hk with h1 h2
   injection h2 with h2 h3
   exact ⟨b :: a :: m,List.Perm.swap a b m,by rw[DV,DV,h1,h2,h3]⟩
  | [],hk=>cases hk
  | [_],hk=>simp at hk
 | trans _ _ ih1 ih2 =>
  obtain ⟨m',p,e⟩:=ih2 hk
  obtain ⟨m'',p',e'⟩:=ih1 e.symm
  exact ⟨m'',p'.trans p,e'⟩
theorem cp:∀{ns:List Int} {us:List C9},Vals (ns.map V.int) us->Gq us ns:=λr=>intsAre_of r
theorem dI:∀{us:List C9} {ns:List Int},Gq us ns->Vals (ns.map V.int) us:=λr=>jK r
theorem dB:∀{us:List C9},(∀u∈us,∃i t,u=EL i t)->Gq us (us.map Srt.intOf)
 | [],_ =>.nil
 | u :: us,h=>by
  obtain ⟨i,t,e⟩:=h u DA
  subst e
  exact .cons i t (dB λv hv=>h v (DB _ hv))
theorem dQ:∀{α:Type} {f:α -> Addr} {ps:List α} {us:List C9},Vals (ps.map λx=>V.ref (f x)) us->us=ps.map λx=>DG (f x)
 | _,_,[],_,r=>by cases r;rfl
 | _,f,p :: ps,_,r=>by
  cases r with
  | cons h t=>rw[DV, <- dQ t,show _=DG (f p) from h]
theorem eR {α:Type}{f:α -> Addr}:∀{ps:List α},Vals (ps.map λx=>V.ref (f x)) (ps.map λx=>DG (f x))
 | [] =>.nil
 | p :: ps =>.cons rfl eR
section
variable  {X:Cx}
theorem Inv.lX {pins:List (Addr×Obj)}{σ:St}{H:Hp}{s:Dg}{p:Addr}{ys:List V}(I:Inv X pins σ H s)(h:SqL X.K H p ys\/SqT X.K H p ys) :
  ∃(its:List C9) (o:Obj) (n:Nat),Vals ys its/\s.heap.get? p=some o/\(o.cls = .type "list" \/ o.cls = .type "tuple")/\o.data = .seq its.toArray n/\ys.length<=Dm:=by
 rcases h with h | h
 ·obtain ⟨its,r,⟨o,n,e,c,_,d⟩,z⟩:=I.list h
  exact ⟨its,o,n,r,e,.inl c,d,z⟩
 ·obtain ⟨its,r,⟨o,e,c,n,d⟩,z⟩:=I.tuple h
  exact ⟨its,o,n,r,e,.inr c,d,z⟩
theorem Inv.newList {pins:List (Addr×Obj)}{σ:St}{H:Hp}{s:Dg}{h':Heap}{p:Addr}{ys:List V}{its:List C9}{n:Nat}(I:Inv X pins σ H s)(k:∀b o,s.heap.get? b=some o->h'.get? b=some o)(hp:s.heap.objs.size<=p)
  (e:h'.get? p=some { cls :=.type "list",data :=.seq its.toArray n }) (r:Vals ys its) (hz:ys.length<=Dm):Inv X pins σ (upd H p (.lst ys)) { s with heap:=h' } :=
 I.laid (t':=s.toks) k hp ⟨hz,its,n,r,e⟩
theorem pG:bL X (.builtin "sorted") (λxs H Q=>∃(p:Addr) (ns:List Int),xs=[.ref p]/\(SqL X.K H p (ns.map V.int)\/SqT X.K H p (ns.map V.int))/\∀(l:Addr) (out:List Int),H l=none->out.Perm ns->out.Pairwise (· <= ·)->Q (.ref l) (upd H l (.lst (out.map V.int)))):=by
 intro pins s σ H xs us Q I r h
 obtain ⟨p,ns,rfl,hs,q⟩:=h
 obtain ⟨u,rfl,ru⟩:=vals1 r
 cases (show u=DG p from ru)
 obtain ⟨its,o,n,rv,e,c,d,z⟩:=I.lX hs
 have hI:=cp rv
 have lz:its.length<=Dm:=by rw[<- rv.length];exact z
 refine Srt.lV (Srt.fE e c d lz) lz (Srt.fF hI) λh' l out m k hl el pm ps =>?_
 have hm:∀v∈out,∃i t,v=EL i t:=λv hv=>Srt.gg hI v (pm.mem_iff.mp hv)
 have hO:=dB hm
 have pm':(out.map Srt.intOf).Perm ns:=by
  have:=pm.map Srt.intOf
  rw[Srt.ints_map hI] at this
  exact this
 refine ⟨.ref l,_,I.newList k hl el (dI hO) (by rw[C6,pm'.length_eq, <- C6 (f:=V.int)];exact z),rfl,q l _ (I.hok.fresh hl) pm' ?_⟩
 refine Eu.mpr (ps.imp λ{x y} le =>?_)
 have le':decide (Srt.intOf y<Srt.intOf x)=false:=le
 have:=of_decide_eq_false le'
 lia
theorem fG:bL X (.builtin "sorted") (λxs H Q=>∃(p:Addr) (ts:List (Addr×List Int)),xs=[.ref p]/\(SqL X.K H p (ts.map λt =>.ref t.1)\/SqT X.K H p (ts.map λt =>.ref t.1))/\(∀t∈ts,SqT X.K H t.1 (t.2.map V.int)/\t.2≠[]) ∧
  ∀(l:Addr) (out:List (Addr×List Int)),H l=none->out.Perm ts->out.Pairwise (λa b=>HT.lexLt b.2 a.2=false)->Q (.ref l) (upd H l (.lst (out.map λt =>.ref t.1)))):=by
 intro pins s σ H xs us Q I r h
 obtain ⟨p,ts,rfl,hs,ht,q⟩:=h
 obtain ⟨u,rfl,ru⟩:=vals1 r
 cases (show u=DG p from ru)
 obtain ⟨its,o,n,rv,e,c,d,z⟩:=I.lX hs
 have ei:=dQ rv
 have lz:its.length<=Dm:=by rw[<- rv.length];exact z
 have tup:∀t∈ts,Srt.cA s.heap (DG t.1) t.2:=λt hm=>by
  obtain ⟨jts,jr,⟨jo,je,jc,jn,jd⟩,_⟩:=I.tuple (ht t hm).1
  exact ⟨t.1,jo,_,jn,rfl,je,jc,jd,by simpa using cp jr⟩
 have hv:∀v∈its,∃ns,Srt.cA s.heap v ns/\ns≠[]:=λv hv=>by
  rw[ei] at hv
  obtain ⟨t,hm,rfl⟩:=DR.mp hv
  exact ⟨t.2,tup t hm,(ht t hm).2⟩
 refine Srt.lV (Srt.fE e c d lz) lz (Srt.iY hv) λh' l out m k hl el pm ps =>?_
 rw[ei] at pm
 obtain ⟨out',pm',rfl⟩:=iu pm
 refine ⟨.ref l,_,I.newList k hl el eR (by rw[C6,pm'.length_eq, <- C6 (f:=λt:Addr×List Int=>V.ref t.1)];exact z),rfl,q l _ (I.hok.fresh hl) pm' ?_⟩
 refine (Eu.mp ps).imp_of_mem λ{a b} ha hb le =>?_
 have le':HT.lexLt (Srt.du s.heap (DG b.1)) (Srt.du s.heap (DG a.1))=false:=le
 rw[(tup a (pm'.mem_iff.mp ha)).ints,(tup b (pm'.mem_iff.mp hb)).ints] at le'
 exact le'
end
def SB (r:Addr)(H H':Hp):Prop:=∀b u,b≠r->H b=some u->H' b=some u
theorem SB.refl (r:Addr)(H:Hp):SB r H H:=λ_ _ _ h=>h
theorem SB.trans {r:Addr}{H H1 H2:Hp}(a:SB r H H1)(b:SB r H1 H2):SB r H H2:=λc u n h=>b c u n (a c u n h)
theorem SB.put {r:Addr}{H:Hp}(o:HO):SB r H (upd H r o):=λc u n h=>by rw[az n];exact h
def Tp (H H':Hp):Prop:=∀b xs,H b=some (.tup xs)->H' b=some (.tup xs)
theorem aB.tp {H H':Hp}(a:aB H H'):Tp H H':=λc u h=>a c _ h
def mnI (a b:Int):Int:=if b<a then b else a
def mxI (a b:Int):Int:=if b>a then b else a
def nrm (a b:Int):List Int:=[mnI a b,mxI a b]
theorem bN (a b:Int):nrm a b=nrm b a:=by
 have h1:mnI a b=mnI b a:=by unfold mnI;split <;> split <;> lia
 have h2:mxI a b=mxI b a:=by unfold mxI;split <;> split <;> lia
 unfold nrm
 rw[h1,h2]
section
variable  {X:Cx}{tg:Expr}
def iSeq (K:Df)(tl:TE):TI:=λσ H R=>tl σ H λx H1=>∃a,x = .ref a/\(((∃xs,SqL K H1 a xs)/\R (Itl K a) H1)\/((∃xs,SqT K H1 a xs)/\R (Itt K a) H1))
theorem xQ {l:Expr}{tl:TE}(hl:PE X l tl):PI X tg l (iSeq X.K tl):=by
 intro pins s σ H R I h;refine thn (hl pins s σ H _ I h) λv s1 ⟨x,H1,I1,r1,q1⟩ =>?_
 obtain ⟨a,e,q1⟩:=q1
 subst e
 cases r1
 have fp:∀b∈[s1.heap.objs.size],iM X pins H1 b:=λb hb=>by
  have e:b=s1.heap.objs.size:=by simpa using hb
  rw[e];exact I1.sr (Dd _) (I1.hok.fresh (Dd _))
 rcases q1 with ⟨⟨xs,hq⟩,q⟩ | ⟨⟨xs,hq⟩,q⟩
 ·obtain ⟨its,rv,p,hz⟩:=I1.list hq;refine Hv p.isList ?_
  exact ⟨s1.heap.objs.size,_,_,_,H1,rfl,I1.kept (t':=s1.toks) (λb o e=>C7 _ e),nK a _,⟨_,Dn _ rfl,rfl,rfl⟩,fp,q⟩
 ·obtain ⟨its,rv,p,hz⟩:=I1.tuple hq;refine F0 (show s1.heap.IsTuple a its.toArray from p) ?_
  exact ⟨s1.heap.objs.size,_,_,_,H1,rfl,I1.kept (t':=s1.toks) (λb o e=>C7 _ e),lB a _,⟨_,Dn _ rfl,rfl,rfl⟩,fp,q⟩
end
theorem oq {K:Df}{a:Addr}{xs:List V}{k:Nat}{tc:TT}{te:TE}{τ:St}{H:Hp}{Q:VK}(Pv:Nat->List V->Hp->Prop)(hp:H a=some (.lst xs)\/H a=some (.tup xs))(h0:Pv 0 [] H)(hz:xs.length<=Dm)
  (hl:∀i ys H',Pv i ys H'->H' a=H a) (hs:∀i x ys H,xs[i]? = some x->ys.length<=i->Pv i ys H->qI k tc te τ Pv i x ys H)
  (hd:∀ys H,ys.length<=xs.length->Pv xs.length ys H->∀l,H l=none->Q (.ref l) (upd H l (.lst ys))) :
  ((∃xs,SqL K H a xs)/\iU (Itl K a) (eA k) tc te τ Q H)\/((∃xs,SqT K H a xs)/\iU (Itt K a) (eA k) tc te τ Q H):=by
 rcases hp with hp | hp
 ·exact .inl ⟨⟨_,SqL.of hp⟩,bW Pv h0 hz (λi ys H' _ z=>SqL.of ((hl i ys H' z).trans hp)) hs hd⟩
 ·exact .inr ⟨⟨_,SqT.of hp⟩,dA Pv h0 hz (λi ys H' _ z=>SqT.of ((hl i ys H' z).trans hp)) hs hd⟩
theorem iZ {X:Cx}{K:Df}{x y:Str}{i j k:Nat}{p p' pos:Pos}(hN:X.N.Nodup)(hi:X.N[i]? = some x)(hj:X.N[j]? = some y)(hx:Loc X.env.scope x)(hy:Loc X.env.scope y)(hc:X.calm=true:=by rfl)(h:X.K=K:=by rfl)
  (hf:X.fn x=true\/X.env.scope.names.lookup x=some .local:=by first | exact .inl rfl | exact .inr rfl) (hg:X.fn y=true\/X.env.scope.names.lookup y=some .local:=by first | exact .inl rfl | exact .inr rfl):PG X (.Tuple [.Name x p,.Name y p'] k pos) (xB K i j):=by
 subst h
 exact aX hc (ax (ao hN hi hx hf) (ax (ao hN hj hy hg) aP))
end L2
namespace STab
open PySem PySem.SetTable
def pH (xs:Array Nat):Prop:=∀i j a b:Nat,xs[i]? = some a->xs[j]? = some b->i<j->a<b
theorem xR {xs:Array Nat}(R:pH xs)(j:Nat):∀(fuel lo hi:Nat),lo<=hi->hi<=xs.size->hi-lo<=fuel →
  (∀i a,i<lo->xs[i]? = some a->a<j)->(∀i a,hi<=i->xs[i]? = some a->j<=a) →
  below.go xs j fuel lo hi<=xs.size/\(∀i a,xs[i]? = some a->(i<below.go xs j fuel lo hi↔a<j)):=by
 intro fuel
 induction fuel with
 | zero =>
  intro lo hi h1 h2 h3 h4 h5
  unfold below.go
  refine ⟨by lia,λi a e=>⟨λq=>h4 i a q e,λq =>?_⟩⟩
  apply GY
  intro q2
  have:=h5 i a (by lia) e
  lia
 | succ fuel ih =>
  intro lo hi h1 h2 h3 h4 h5
  unfold below.go
  by_cases hl:lo<hi
  ·rw[if_pos hl]
   dsimp only
   have hm:(lo+hi)/2<xs.size:=by lia
   have em:xs[(lo+hi)/2]? = some xs[(lo+hi)/2]:=DN hm
   have eg:xs.getD ((lo+hi)/2) j=xs[(lo+hi)/2]:=by simp[Array.getD,hm]
   rw[eg]
   by_cases hc:xs[(lo+hi)/2]<j
   ·rw[if_pos hc]
    refine ih _ _ (by lia) h2 (by lia) (λi a q e =>?_) h5
    by_cases q2:i=(lo+hi)/2
    ·rw[q2,em] at e;cases e;exact hc
    ·exact Nat.lt_trans (R i _ _ _ e em (by lia)) hc
   ·rw[if_neg hc]
    refine ih _ _ (by lia) (by lia) (by lia) h4 (λi a q e =>?_)
    by_cases q2:i=(lo+hi)/2
    ·rw[q2,em] at e;cases e;lia
    ·have:=R _ i _ _ em e (by lia)
     lia
  ·rw[if_neg hl]
   refine ⟨by lia,λi a e=>⟨λq=>h4 i a q e,λq =>?_⟩⟩
   apply GY
   intro q2
   have:=h5 i a (by lia) e
   lia
theorem d7 {xs:Array Nat}(R:pH xs)(j:Nat):below xs j<=xs.size/\∀i a,xs[i]? = some a->(i<below xs j↔a<j) :=
 xR R j _ _ _ (D5 _) (Dd _) (by lia) (λi a h=>by lia) λi a h e=>by
  rw[FL (by lia)] at e;cases e
theorem below_at {xs:Array Nat}(R:pH xs){i j:Nat}(h:xs[i]? = some j):below xs j=i:=by
 obtain ⟨h1,h2⟩:=d7 R j
 have hi:i<xs.size:=by
  apply GY;intro q;rw[FL q] at h;cases h
 have a1:¬ i<below xs j:=λq=>by have:=(h2 i j h).mp q;lia
 apply Ic (by lia)
 apply IE
 intro q
 have e:=DN (xs:=xs) (i:=below xs j) (by lia)
 have l1:=R _ _ _ _ e h q
 have:=(h2 _ _ e).mpr l1
 lia
theorem sT {xs:Array Nat}(R:pH xs){i j:Nat}(h:xs[i]? = some j):below xs (j+1)=i+1:=by
 obtain ⟨h1,h2⟩:=d7 R (j+1)
 have a1:i<below xs (j+1):=(h2 i j h).mpr (by lia)
 apply Ic _ a1
 apply IE
 intro q
 have hk:i+1<xs.size:=by lia
 have e:=DN (xs:=xs) hk
 have l1:=R _ _ _ _ h e (by lia)
 have:=(h2 _ _ e).mp q
 lia
theorem sU {xs:Array Nat}(R:pH xs):below xs 0=0:=by
 obtain ⟨h1,h2⟩:=d7 R 0
 apply Ic _ (D5 _)
 apply IE
 intro q
 have:=(h2 0 _ (DN (by lia))).mp q
 lia
theorem cw {α:Type}(xs:Array α)(p:Nat)(x:α):(insertAt xs p x).toList=xs.toList.take p++x :: xs.toList.drop p:=by
 unfold insertAt
 simp
 rw[Dr (by simp)]
theorem cP {α:Type}(xs:Array α){p:Nat}(hp:p<=xs.size)(x:α)(i:Nat) :
  (insertAt xs p x)[i]? = if i<p then xs[i]? else if i=p then some x else xs[i-1]? := by
 rw[<- Dt,cw]
 have hl:(xs.toList.take p).length=p:=by rw[Ew,Dl];lia
 by_cases h1:i<p
 ·rw[if_pos h1,Ed (by lia),Fm,if_pos h1,Dt]
 ·rw[if_neg h1,Eg (by lia),hl]
  by_cases h2:i=p
  ·rw[if_pos h2,h2,LU];rfl
  ·rw[if_neg h2]
   obtain ⟨d,hd⟩:∃d,i-p=d+1:=⟨i-p-1,by lia⟩
   rw[hd,Gh,G5,Dt]
   congr 1;lia
theorem cW {α:Type}(xs:Array α)(p:Nat)(x:α):(insertAt xs p x).size=xs.size+1:=by
 rw[<- Dl,cw,C8,Dz,Ew,EO,Dl]
 lia
theorem insertAt_perm {α:Type}(xs:Array α)(p:Nat)(x:α):(insertAt xs p x).toList.Perm (x :: xs.toList):=by
 rw[cw]
 exact LZ.trans (by rw[Fz])
theorem fH {α β:Type}(xs:Array α)(p:Nat)(x:α)(f:α -> β):(insertAt xs p x).map f=insertAt (xs.map f) p (f x):=by
 apply L0.mp
 rw[II,cw,cw,II,Dj,DV,JX,IT]
theorem nA {xs:Array Nat}(R:pH xs){j:Nat}(hj:∀i:Nat,xs[i]? ≠ some j):pH (insertAt xs (below xs j) j):=by
 obtain ⟨h1,h2⟩:=d7 R j
 intro a b x y ea eb hab
 rw[cP _ h1] at ea eb
 by_cases a1:a<below xs j
 ·rw[if_pos a1] at ea
  have:=(h2 _ _ ea).mp a1
  by_cases b1:b<below xs j
  ·rw[if_pos b1] at eb;exact R _ _ _ _ ea eb hab
  ·rw[if_neg b1] at eb
   by_cases b2:b=below xs j
   ·rw[if_pos b2] at eb;cases eb;exact this
   ·rw[if_neg b2] at eb
    exact R _ _ _ _ ea eb (by lia)
 ·rw[if_neg a1] at ea
  rw[if_neg (by lia),if_neg (by lia)] at eb
  have l1:¬ y<j:=λq=>by have:=(h2 _ _ eb).mpr q;lia
  by_cases a2:a=below xs j
  ·rw[if_pos a2] at ea;cases ea
   have:y≠j:=λq=>hj _ (q ▸ eb)
   lia
  ·rw[if_neg a2] at ea
   exact R _ _ _ _ ea eb (by lia)
def occ (t:SetTable)(j:Nat):Prop:=∃i:Nat,t.place[i]? = some j
theorem jL {t:SetTable}(R:pH t.place){i j:Nat}(h:t.place[i]? = some j):t.slot j = .live i:=by
 unfold SetTable.slot
 dsimp only
 rw[below_at R h,h]
 simp
theorem sV {t:SetTable}(D:t.dummies = #[]){j:Nat}(h:¬ occ t j):t.slot j = .empty:=by
 unfold SetTable.slot
 dsimp only
 have h1:(t.place[below t.place j]? == some j)=false:=by
  rw[beq_eq_false_iff_ne];exact λq=>h ⟨_,q⟩
 rw[h1,D]
 simp[has]
def adv (mask:Nat)(p:Probe):Probe :=
 if p.more>0 then { p with j:=p.j+1,more:=p.more-1 } else
 let (i,perturb):=leap mask p.i p.perturb
 { p with j:=i,more:=runEnd mask i-i,i,perturb }
def dE (mask i perturb:Nat):Probe:={ j:=i,more:=runEnd mask i-i,i,perturb,dummy:=none }
def start (mask:Nat)(h:Int):Probe:=dE mask (bits h%(mask+1)) (bits h)
inductive Way (oc:Nat->Prop)(mask:Nat):Nat->Probe->Probe->Prop
 | here (p:Probe):Way oc mask 0 p p
 | step {n:Nat} {p q:Probe}:oc p.j->Way oc mask n (adv mask p) q->Way oc mask (n+1) p q
theorem Way.mono {oc oc':Nat->Prop}{mask n:Nat}{p q:Probe}(m:∀j,oc j->oc' j)(h:Way oc mask n p q):Way oc' mask n p q:=by
 induction h with
 | here p=>exact .here p
 | step a _ ih=>exact .step (m _ a) ih
theorem Way.dummy {oc:Nat->Prop}{mask n:Nat}{p q:Probe}(h:Way oc mask n p q):q.dummy=p.dummy:=by
 induction h with
 | here p=>rfl
 | @step n p q _ _ ih =>
  rw[ih];unfold adv;split <;> rfl
theorem BL {mask:Nat}{p:Probe}(h:p.j+p.more<=mask):(adv mask p).j+(adv mask p).more<=mask:=by
 unfold adv
 split
 ·dsimp only;lia
 ·dsimp only[leap]
  have:(p.i*5+1+p.perturb/32)%(mask+1)<mask+1:=Io _ (HQ mask)
  unfold runEnd
  split <;> lia
theorem qO (mask:Nat)(h:Int):(start mask h).j+(start mask h).more<=mask:=by
 unfold start dE
 dsimp only
 have:bits h%(mask+1)<mask+1:=Io _ (HQ mask)
 unfold runEnd
 split <;> lia
theorem Way.le {oc:Nat->Prop}{mask n:Nat}{p q:Probe}(h:Way oc mask n p q):p.j+p.more<=mask->q.j<=mask:=by
 induction h with
 | here p=>intro;lia
 | step _ _ ih=>intro h;exact ih (BL h)
def pI (mask:Nat):Nat->Probe->Probe
 | 0,p=>p
 | n+1,p=>pI mask n (adv mask p)
theorem qP (mask:Nat):∀(a b:Nat) (p:Probe),pI mask (a+b) p=pI mask b (pI mask a p)
 | 0,b,p=>by rw[GO];rfl
 | a+1,b,p=>by rw[show a+1+b=(a+b)+1 by lia];exact qP mask a b (adv mask p)
theorem vM (oc:Nat->Prop)(mask:Nat):∀(n:Nat) (p:Probe),¬ oc (pI mask n p).j->∃k q,k<=n/\Way oc mask k p q/\¬ oc q.j:=by
 intro n
 induction n with
 | zero=>intro p h;exact ⟨0,p,Dd _,.here p,h⟩
 | succ n ih =>
  intro p h
  by_cases hp:oc p.j
  ·obtain ⟨k,q,a,b,c⟩:=ih (adv mask p) h
   exact ⟨k+1,q,by lia,.step hp b,c⟩
  ·exact ⟨0,p,D5 _,.here p,hp⟩
theorem zO (mask:Nat):∀(m:Nat) (p:Probe),p.more=m->p.dummy=none->pI mask (m+1) p=dE mask (leap mask p.i p.perturb).1 (leap mask p.i p.perturb).2:=by
 intro m
 induction m with
 | zero =>
  intro p h d
  show adv mask p=_
  unfold adv
  rw[if_neg (by lia)]
  obtain ⟨j,mo,i,pe,dm⟩:=p
  cases d
  rfl
 | succ m ih =>
  intro p h d
  show pI mask (m+1) (adv mask p)=_
  have e:adv mask p={ p with j:=p.j+1,more:=p.more-1 }:=by unfold adv;rw[if_pos (by lia)]
  rw[e]
  exact ih _ (by dsimp only;lia) d
def dh (mask:Nat):Nat->Nat×Nat->Nat×Nat
 | 0,x=>x
 | k+1,x=>dh mask k (leap mask x.1 x.2)
theorem ou (mask:Nat):∀(a b:Nat) (x:Nat×Nat),dh mask (a+b) x=dh mask b (dh mask a x)
 | 0,b,x=>by rw[GO];rfl
 | a+1,b,x=>by rw[show a+1+b=(a+b)+1 by lia];exact ou mask a b _
theorem more_le (mask i:Nat):runEnd mask i-i<=9:=by unfold runEnd;split <;> lia
theorem sW (mask:Nat):∀(k i pe:Nat),∃n,n<=10*k/\pI mask n (dE mask i pe)=dE mask (dh mask k (i,pe)).1 (dh mask k (i,pe)).2:=by
 intro k
 induction k with
 | zero=>intro i pe;exact ⟨0,by lia,rfl⟩
 | succ k ih =>
  intro i pe
  obtain ⟨n,h1,h2⟩:=ih (leap mask i pe).1 (leap mask i pe).2
  refine ⟨(runEnd mask i-i+1)+n,by have:=more_le mask i;lia,?_⟩
  rw[qP,zO mask (runEnd mask i-i) (dE mask i pe) rfl rfl]
  exact h2
theorem ic (mask:Nat):∀(k i pe:Nat),(dh mask k (i,pe)).2=pe/32 ^ k
 | 0,i,pe=>by simp[dh]
 | k+1,i,pe=>by
  show (dh mask k (leap mask i pe)).2=_
  rw[show leap mask i pe=((leap mask i pe).1,pe/32) from rfl,ic mask k,Nat.div_div_eq_div_mul,Nat.pow_succ,LR 32]
theorem qQ (mask:Nat):∀(k i pe:Nat),i<=mask->(dh mask k (i,pe)).1<=mask
 | 0,i,pe,h=>h
 | k+1,i,pe,h=>by
  show (dh mask k (leap mask i pe)).1<=mask
  rw[show leap mask i pe=((leap mask i pe).1,pe/32) from rfl]
  exact qQ mask k _ _ (Hu (Io _ (HQ mask)))
def ste (m i:Nat):Nat:=(i*5+1)%m
def its (m:Nat):Nat->Nat->Nat
 | 0,i=>i
 | n+1,i=>its m n (ste m i)
theorem kO (m:Nat):∀(a b i:Nat),its m (a+b) i=its m b (its m a i)
 | 0,b,i=>by rw[GO];rfl
 | a+1,b,i=>by rw[show a+1+b=(a+b)+1 by lia];exact kO m a b _
def orb (m:Nat):Nat->Nat->List Nat
 | 0,_=>[]
 | n+1,i=>i :: orb m n (ste m i)
theorem pJ (m:Nat):∀(n i j:Nat),j∈orb m n i->∃r,r<n/\its m r i=j
 | 0,i,j,h=>by cases h
 | n+1,i,j,h=>by
  rcases Dx.mp h with h | h
  ·exact ⟨0,by lia,h.symm⟩
  ·obtain ⟨r,a,b⟩:=pJ m n _ _ h
   exact ⟨r+1,by lia,b⟩
def whole (m:Nat):Bool:=((Eo m).all λj=>(orb m m 0).contains j) && (its m m 0 == 0)
theorem vN {m:Nat}(h:whole m=true){i j:Nat}(hi:i<m)(hj:j<m):∃r,r<m/\its m r i=j:=by
 unfold whole at h
 rw[EC,F2,beq_iff_eq] at h
 obtain ⟨h1,h2⟩:=h
 obtain ⟨a,a1,a2⟩:=pJ m m 0 i (Kz.mp (h1 i (ET.mpr hi)))
 obtain ⟨b,b1,b2⟩:=pJ m m 0 j (Kz.mp (h1 j (ET.mpr hj)))
 by_cases hab:a<=b
 ·refine ⟨b-a,by lia,?_⟩
  rw[<- a2, <- kO,show a+(b-a)=b by lia]
  exact b2
 ·refine ⟨m+b-a,by lia,?_⟩
  rw[<- a2, <- kO,show a+(m+b-a)=m+b by lia,kO,h2]
  exact b2
theorem BM:whole 8=true:=by decide +kernel
theorem zP:whole 32=true:=by decide +kernel
theorem xS:whole 128=true:=by decide +kernel
theorem xT:whole 512=true:=by decide +kernel
def Msk (mask:Nat):Prop:=mask=7\/mask=31\/mask=127\/mask=511
theorem Msk.whole {mask:Nat}(h:Msk mask):whole (mask+1)=true:=by
 rcases h with rfl | rfl | rfl | rfl
 ·exact BM
 ·exact zP
 ·exact xS
 ·exact xT
theorem ow (mask:Nat):∀(r i:Nat),dh mask r (i,0)=(its (mask+1) r i,0)
 | 0,i=>rfl
 | r+1,i=>by
  show dh mask r (leap mask i 0)=_
  rw[show leap mask i 0=(ste (mask+1) i,0) from rfl,ow mask r];rfl
theorem zQ (h:Int):bits h<2 ^ 64:=by
 unfold bits
 have h1:=Fn h (show (0:Int)<2 ^ 64 by decide)
 have h0:=FG h (show (2 ^ 64:Int)≠0 by decide)
 have:((2 ^ 64:Nat):Int)=2 ^ 64:=by decide
 lia
theorem lZ {mask:Nat}(hm:Msk mask){h:Int}{j:Nat}(hj:j<=mask):∃k,k<turns mask/\(dh mask k (bits h%(mask+1),bits h)).1=j:=by
 have p0:(dh mask 13 (bits h%(mask+1),bits h)).2=0:=by
  rw[ic]
  exact Nat.div_eq_of_lt (DC (zQ h) (by decide))
 have i0:=qQ mask 13 (bits h%(mask+1)) (bits h) (Hu (Io _ (HQ mask)))
 obtain ⟨r,r1,r2⟩:=vN hm.whole (i:=(dh mask 13 (bits h%(mask+1),bits h)).1) (j:=j) (by lia) (by lia)
 refine ⟨13+r,by unfold turns;lia,?_⟩
 rw[ou,show dh mask 13 (bits h%(mask+1),bits h)=((dh mask 13 (bits h%(mask+1),bits h)).1,0) from Jr rfl p0,ow]
 exact r2
theorem xU {mask:Nat}(hm:Msk mask)(oc:Nat->Prop)(h:Int){j:Nat}(hj:j<=mask)(he:¬ oc j):∃n q,n<10*turns mask/\Way oc mask n (start mask h) q/\¬ oc q.j/\q.j<=mask/\q.dummy=none:=by
 obtain ⟨k,k1,k2⟩:=lZ hm (h:=h) hj
 obtain ⟨n,n1,n2⟩:=sW mask k (bits h%(mask+1)) (bits h)
 obtain ⟨n',q,a,b,c⟩:=vM oc mask n (start mask h) (by
  show ¬ oc (pI mask n (dE mask _ _)).j
  rw[n2]
  show ¬ oc (dh mask k (bits h%(mask+1),bits h)).1
  rw[k2]
  exact he)
 exact ⟨n',q,by lia,b,c,b.le (qO mask h),b.dummy⟩
theorem ox {mask n:Nat}(oc:Nat->Prop)(f:Nat->Nat)(hf:∀j,j<=mask->oc j->f j<n)(inj:∀i j,i<=mask->j<=mask->oc i->oc j->f i=f j->i=j)(hn:n<=mask):∃j,j<=mask/\¬ oc j:=by
 by_cases q:∃j,j<=mask/\¬ oc j
 ·exact q
 ·exfalso
  have all:∀j,j<=mask->oc j:=λj hj=>by
   by_cases o:oc j
   ·exact o
   ·exact absurd ⟨j,hj,o⟩ q
  have nd:((Eo (mask+1)).map f).Nodup:=by
   unfold List.Nodup
   rw[Eu]
   refine HR (λ{a b} ha hb hab e=>hab (inj a b ?_ ?_ (all _ ?_) (all _ ?_) e)) (L4)
   all_goals (rw[ET] at ha hb;lia)
  have:=GP nd (l₂:=Eo n) (λx hx=>by
   obtain ⟨j,hj,e⟩:=DR.mp hx
   rw[ET] at hj ⊢
   rw[<- e]
   exact hf j (by lia) (all j (by lia)))
  rw[C6,Fg,Fg] at this
  lia
structure Tab (t:SetTable)(hs:Array Int):Prop where
 dm:t.dummies = #[]
 rise:pH t.place
 size:t.place.size=hs.size
 le:∀i j:Nat,t.place[i]? = some j->j<=t.mask
 msk:Msk t.mask
 fit:hs.size<=t.mask
 reach:∀(i j:Nat) (h:Int),t.place[i]? = some j->hs[i]? = some h->∃n q,Way (occ t) t.mask n (start t.mask h) q/\q.j=j
theorem eU {α:Type}{xs:Array α}{i:Nat}{a:α}(h:xs[i]? = some a):i<xs.size:=by
 apply GY;intro q;rw[FL q] at h;cases h
theorem Tab.fill {t:SetTable}{hs:Array Int}(T:Tab t hs):t.fill=hs.size:=by
 unfold SetTable.fill;rw[T.dm,T.size];rfl
theorem Tab.fits {t:SetTable}{hs:Array Int}(T:Tab t hs):t.fits hs.size=true:=by
 unfold SetTable.fits
 rw[T.fill,T.size]
 simp[T.fit]
theorem Tab.ends {t:SetTable}{hs:Array Int}(T:Tab t hs)(h:Int):∃n q,n<10*turns t.mask/\Way (occ t) t.mask n (start t.mask h) q/\¬ occ t q.j/\q.j<=t.mask/\q.dummy=none:=by
 obtain ⟨j,hj,he⟩:=ox (mask:=t.mask) (n:=hs.size) (occ t) (λj=>below t.place j)
  (λj _ ⟨i,e⟩=>by show below t.place j<hs.size;rw[below_at T.rise e, <- T.size];exact eU e)
  (λi j _ _ ⟨a,ea⟩ ⟨b,eb⟩ e=>by
   have e':below t.place i=below t.place j:=e
   rw[below_at T.rise ea,below_at T.rise eb] at e'
   subst e'
   exact DW (ea.symm.trans eb)) T.fit
 exact xU T.msk (occ t) h hj he
theorem xV {t:SetTable}{hs:Array Int}(T:Tab t hs){H:Nat->Int}{h:Int}:∀(n:Nat) (p q:Probe) (fuel:Nat),Way (occ t) t.mask n p q->¬ occ t q.j->n<fuel->p.dummy=none →
  (SetTable.probe.go t H h fuel p=some (.empty q.j none)/\∀k r i,Way (occ t) t.mask k p r->t.place[i]? = some r.j->H i≠h) ∨
  (∃k r i,k<n/\Way (occ t) t.mask k p r/\t.place[i]? = some r.j/\H i=h/\SetTable.probe.go t H h fuel p=some (.candidate r.j i (adv t.mask r))/\Way (occ t) t.mask (n-k-1) (adv t.mask r) q/\(adv t.mask r).dummy=none
   /\ ∀k' r' i',k'<k->Way (occ t) t.mask k' p r'->t.place[i']? = some r'.j->H i'≠h):=by
 intro n
 induction n with
 | zero =>
  intro p q fuel W he hf hd
  cases W
  obtain ⟨fuel,rfl⟩:∃f,fuel=f+1:=⟨fuel-1,by lia⟩
  refine .inl ⟨?_,λk r i Wr er =>?_⟩
  ·unfold SetTable.probe.go
   rw[sV T.dm he]
   dsimp only
   rw[hd]
  ·cases Wr with
   | here=>exact absurd ⟨i,er⟩ he
   | step a _=>exact absurd a he
 | succ n ih =>
  intro p q fuel W he hf hd
  obtain ⟨fuel,rfl⟩:∃f,fuel=f+1:=⟨fuel-1,by lia⟩
  cases W with
  | step a W =>
   obtain ⟨i,ei⟩:=a
   have hd':(adv t.mask p).dummy=none:=by rw[<- hd];unfold adv;split <;> rfl
   by_cases hh:H i=h
   ·refine .inr ⟨0,p,i,by lia,.here p,ei,hh,?_,W,hd',λk' r' i' hk=>by lia⟩
    unfold SetTable.probe.go
    rw[jL T.rise ei]
    dsimp only
    rw[if_pos (by rw[hh];exact beq_self_eq_true h)]
    rfl
   ·have e0:SetTable.probe.go t H h (fuel+1) p=SetTable.probe.go t H h fuel (adv t.mask p):=by
     conv=>lhs;unfold SetTable.probe.go
     rw[jL T.rise ei]
     dsimp only
     rw[if_neg (by rw[beq_iff_eq];exact hh)]
     rfl
    rcases ih (adv t.mask p) q fuel W he (by lia) hd' with ⟨r1,r2⟩ | ⟨k,r,i',k1,w1,e1,h1,g1,w2,d2,no⟩
    ·refine .inl ⟨e0.trans r1,λk r j Wr er =>?_⟩
     cases Wr with
     | here =>
      obtain rfl:i=j:=by
       have x:=below_at T.rise ei
       have y:=below_at T.rise er
       exact x.symm.trans y
      exact hh
     | step _ Wr=>exact r2 _ _ _ Wr er
    ·refine .inr ⟨k+1,r,i',by lia,.step ⟨i,ei⟩ w1,e1,h1,e0.trans g1,by rw[show n+1-(k+1)-1=n-k-1 by lia];exact w2,d2,λk' r' j hk Wr er =>?_⟩
     cases Wr with
     | here =>
      obtain rfl:i=j:=by
       have x:=below_at T.rise ei
       have y:=below_at T.rise er
       exact x.symm.trans y
      exact hh
     | step _ Wr=>exact no _ _ _ (by lia) Wr er
theorem qR {t:SetTable}{hs:Array Int}(T:Tab t hs){H:Nat->Int}{h:Int}{n:Nat}{p q:Probe}(W:Way (occ t) t.mask n p q)(he:¬ occ t q.j)(hn:n<10*turns t.mask)(hd:p.dummy=none) :
  (t.probe H h p=some (.empty q.j none)/\∀k r i,Way (occ t) t.mask k p r->t.place[i]? = some r.j->H i≠h) ∨
  (∃k r i,k<n/\Way (occ t) t.mask k p r/\t.place[i]? = some r.j/\H i=h/\t.probe H h p=some (.candidate r.j i (adv t.mask r))/\Way (occ t) t.mask (n-k-1) (adv t.mask r) q/\(adv t.mask r).dummy=none
   /\ ∀k' r' i',k'<k->Way (occ t) t.mask k' p r'->t.place[i']? = some r'.j->H i'≠h) :=
 xV T n p q _ W he hn hd
theorem Tab.xW {t:SetTable}{hs:Array Int}(T:Tab t hs)(j:Nat):t.put j=({ t with place:=insertAt t.place (below t.place j) j },below t.place j):=by
 unfold SetTable.put
 dsimp only
 have:has t.dummies j=false:=by rw[T.dm];simp[has]
 rw[this]
 rfl
theorem Tab.put {t:SetTable}{hs:Array Int}(T:Tab t hs){h:Int}{n:Nat}{q:Probe}(W:Way (occ t) t.mask n (start t.mask h) q)(he:¬ occ t q.j)(hq:q.j<=t.mask)(hf:hs.size+1<=t.mask) :
  Tab { t with place:=insertAt t.place (below t.place q.j) q.j } (insertAt hs (below t.place q.j) h):=by
 have hp:=(d7 T.rise q.j).1
 have hp':below t.place q.j<=hs.size:=by rw[<- T.size];exact hp
 have up:∀j,occ t j->occ { t with place:=insertAt t.place (below t.place q.j) q.j } j:=by
  rintro j ⟨i,e⟩
  by_cases l:i<below t.place q.j
  ·exact ⟨i,by show (insertAt _ _ _)[i]? = _;rw[cP _ hp,if_pos l];exact e⟩
  ·exact ⟨i+1,by show (insertAt _ _ _)[i+1]? = _;rw[cP _ hp,if_neg (by lia),if_neg (by lia)];exact e⟩
 refine ⟨T.dm,nA T.rise λi e=>he ⟨i,e⟩,?_,λi j e =>?_,T.msk,by rw[cW];exact hf,λi j h' e eh =>?_⟩
 ·show (insertAt _ _ _).size=_
  rw[cW,cW,T.size]
 ·have e':(insertAt t.place (below t.place q.j) q.j)[i]? = some j:=e
  rw[cP _ hp] at e'
  split at e'
  ·exact T.le _ _ e'
  ·split at e'
   ·cases e';exact hq
   ·exact T.le _ _ e'
 ·have e':(insertAt t.place (below t.place q.j) q.j)[i]? = some j:=e
  rw[cP _ hp] at e'
  rw[cP _ hp'] at eh
  by_cases l1:i<below t.place q.j
  ·rw[if_pos l1] at e' eh
   obtain ⟨n',q',w,eq⟩:=T.reach _ _ _ e' eh
   exact ⟨n',q',w.mono up,eq⟩
  ·rw[if_neg l1] at e' eh
   by_cases l2:i=below t.place q.j
   ·rw[if_pos l2] at e' eh
    cases e';cases eh
    exact ⟨n,q,W.mono up,rfl⟩
   ·rw[if_neg l2] at e' eh
    obtain ⟨n',q',w,eq⟩:=T.reach _ _ _ e' eh
    exact ⟨n',q',w.mono up,eq⟩
def ocw (owner:Array (Option Nat))(j:Nat):Prop:=∃k,owner[j]? = some (some k)
theorem Way.trans {oc:Nat->Prop}{mask n m:Nat}{p q r:Probe}(h:Way oc mask n p q)(h2:Way oc mask m q r):∃k,Way oc mask k p r:=by
 induction h with
 | here=>exact ⟨m,h2⟩
 | step a _ ih=>obtain ⟨k,w⟩:=ih h2;exact ⟨k+1,.step a w⟩
theorem pK (oc:Nat->Prop)(mask:Nat):∀(k:Nat) (p:Probe),k<=p.more->(∀k',k'<k->oc (p.j+k'))->Way oc mask k p { p with j:=p.j+k,more:=p.more-k }
 | 0,p,_,_ =>.here p
 | k+1,p,h,ho=>by
  have e:adv mask p={ p with j:=p.j+1,more:=p.more-1 }:=by unfold adv;rw[if_pos (by lia)]
  refine .step (ho 0 (by lia)) ?_
  rw[e]
  have:=pK oc mask k { p with j:=p.j+1,more:=p.more-1 } (by dsimp only;lia) λk' hk=>by
   have:=ho (k'+1) (by lia)
   rw[show p.j+(k'+1)=p.j+1+k' by lia] at this
   exact this
  dsimp only at this
  rw[show p.j+1+k=p.j+(k+1) by lia,show p.more-1-k=p.more-(k+1) by lia] at this
  exact this
theorem gh {owner:Array (Option Nat)}{mask j:Nat}(hs:owner.size=mask+1)(hj:j<=mask):(owner.getD j (some 0)).isNone=true↔¬ ocw owner j:=by
 have hl:j<owner.size:=by lia
 have e:owner[j]? = some owner[j]:=DN hl
 rw[show owner.getD j (some 0)=owner[j] by simp[Array.getD,hl]]
 unfold ocw
 rw[e]
 cases owner[j] with
 | none=>simp
 | some k=>simp
theorem oy {mask i:Nat}(h:i<=mask):runEnd mask i<=mask/\i<=runEnd mask i:=by
 unfold runEnd;split <;> lia
theorem vO {mask:Nat}{owner:Array (Option Nat)}(hs:owner.size=mask+1):∀(fuel i pe j:Nat),i<=mask->SetTable.layClean.free mask owner fuel i pe=some j →
  ¬ ocw owner j/\∃n q,Way (ocw owner) mask n (dE mask i pe) q/\q.j=j:=by
 intro fuel
 induction fuel with
 | zero=>intro i pe j hi h;unfold SetTable.layClean.free at h;cases h
 | succ fuel ih =>
  intro i pe j hi h
  unfold SetTable.layClean.free at h
  obtain ⟨r1,r2⟩:=oy hi
  have no:∀k,k<runEnd mask i+1-i->((owner.getD (i+k) (some 0)).isNone=false)->ocw owner (i+k):=λk hk e=>by
   by_cases o:ocw owner (i+k)
   ·exact o
   ·rw[(gh hs (by lia)).mpr o] at e;cases e
  cases hf:(Eo (runEnd mask i+1-i)).find? λk=>(owner.getD (i+k) (some 0)).isNone with
  | some k =>
   rw[hf] at h
   dsimp only at h
   cases h
   rw[List.find?_range_eq_some] at hf
   obtain ⟨f1,f2,f3⟩:=hf
   rw[ET] at f2
   refine ⟨(gh hs (by lia)).mp f1,k,_,pK (ocw owner) mask k (dE mask i pe) (by show k<=runEnd mask i-i;lia) λk' hk =>?_,rfl⟩
   refine no k' (by lia) ?_
   have:=f3 k' hk
   simpa using this
  | none =>
   rw[hf] at h
   dsimp only at h
   rw[JK] at hf
   have all:∀k,k<runEnd mask i+1-i->ocw owner (i+k):=λk hk=>no k hk (by simpa using hf k hk)
   obtain ⟨g1,n,q,w,eq⟩:=ih _ _ _ (Hu (Io _ (HQ mask))) h
   refine ⟨g1,?_⟩
   have w0:=pK (ocw owner) mask (runEnd mask i-i) (dE mask i pe) (Dd _) λk' hk=>all k' (by lia)
   have w1:Way (ocw owner) mask (n+1) { (dE mask i pe) with j:=(dE mask i pe).j+(runEnd mask i-i),more:=(dE mask i pe).more-(runEnd mask i-i) } q:=by
    refine .step (all (runEnd mask i-i) (by lia)) ?_
    have e:adv mask { (dE mask i pe) with j:=(dE mask i pe).j+(runEnd mask i-i),more:=(dE mask i pe).more-(runEnd mask i-i) }=dE mask (leap mask i pe).1 (leap mask i pe).2:=by
     unfold adv
     rw[if_neg (by show ¬ (runEnd mask i-i-(runEnd mask i-i))>0;lia)]
     rfl
    rw[e]
    exact w
   obtain ⟨k,w2⟩:=w0.trans w1
   exact ⟨k,q,w2,eq⟩
theorem vP {mask:Nat}{owner:Array (Option Nat)}(hs:owner.size=mask+1):∀(fuel i pe k:Nat),i<=mask->k<fuel->¬ ocw owner (dh mask k (i,pe)).1->∃j,SetTable.layClean.free mask owner fuel i pe=some j:=by
 intro fuel
 induction fuel with
 | zero=>intro i pe k _ h;lia
 | succ fuel ih =>
  intro i pe k hi hk he
  unfold SetTable.layClean.free
  obtain ⟨r1,r2⟩:=oy hi
  cases hf:(Eo (runEnd mask i+1-i)).find? λk=>(owner.getD (i+k) (some 0)).isNone with
  | some k=>exact ⟨_,rfl⟩
  | none =>
   dsimp only
   rw[JK] at hf
   cases k with
   | zero =>
    have h0:=hf 0 (by lia)
    have:(owner.getD (i+0) (some 0)).isNone=true:=(gh hs (by lia)).mpr he
    rw[this] at h0
    cases h0
   | succ k=>exact ih _ _ k (Hu (Io _ (HQ mask))) (by lia) he
structure Own (mask:Nat)(owner:Array (Option Nat))(hs:List Int):Prop where
 size:owner.size=mask+1
 cov:∀(k:Nat) (h:Int),hs[k]? = some h->∃j n q,owner[j]? = some (some k)/\Way (ocw owner) mask n (start mask h) q/\q.j=j
 bnd:∀j k:Nat,owner[j]? = some (some k)->k<hs.length
 inj:∀i j k:Nat,owner[i]? = some (some k)->owner[j]? = some (some k)->i=j
theorem Own.step {mask:Nat}(hm:Msk mask){owner:Array (Option Nat)}{hs:List Int}(O:Own mask owner hs)(h:Int)(hl:hs.length<=mask) :
  ∃j,SetTable.layClean.free mask owner (turns mask) (bits h%(mask+1)) (bits h)=some j/\Own mask (owner.setIfInBounds j (some hs.length)) (hs++[h]):=by
 obtain ⟨e,he,hne⟩:=ox (mask:=mask) (n:=hs.length) (ocw owner) (λj=>(owner.getD j none).getD 0)
  (λj _ ⟨k,ek⟩=>by
   have:=eU ek
   show (owner.getD j none).getD 0<_
   rw[show owner.getD j none=some k by rw[FH,ek];rfl]
   exact O.bnd j k ek)
  (λi j _ _ ⟨a,ea⟩ ⟨b,eb⟩ q=>by
   have q':(owner.getD i none).getD 0=(owner.getD j none).getD 0:=q
   rw[show owner.getD i none=some a by rw[FH,ea];rfl,show owner.getD j none=some b by rw[FH,eb];rfl] at q'
   have q'':a=b:=q'
   subst q''
   exact O.inj i j a ea eb) hl
 have i0:bits h%(mask+1)<=mask:=Hu (Io _ (HQ mask))
 obtain ⟨k,k1,k2⟩:=lZ hm (h:=h) he
 obtain ⟨j,hj⟩:=vP O.size (turns mask) _ _ k i0 k1 (by rw[k2];exact hne)
 obtain ⟨hno,n,q,w,eq⟩:=vO O.size _ _ _ _ i0 hj
 have hjm:j<=mask:=by rw[<- eq];exact w.le (qO mask h)
 have hjs:j<owner.size:=by rw[O.size];lia
 have ej:owner[j]? = some none:=by
  rw[DN hjs]
  cases ho:owner[j] with
  | none=>rfl
  | some k=>exact absurd ⟨k,by rw[DN hjs,ho]⟩ hno
 have get:∀i:Nat,(owner.setIfInBounds j (some hs.length))[i]? = if i=j then some (some hs.length) else owner[i]? := λi=>by
  rw[Array.getElem?_setIfInBounds]
  by_cases q:j=i
  ·rw[if_pos q,if_pos q.symm,if_pos hjs]
  ·rw[if_neg q,if_neg (EB q)]
 have up:∀i,ocw owner i->ocw (owner.setIfInBounds j (some hs.length)) i:=by
  rintro i ⟨k,ek⟩
  refine ⟨k,?_⟩
  rw[get,if_neg (λq=>by rw[q,ej] at ek;cases ek)]
  exact ek
 refine ⟨j,hj,by rw[JJ];exact O.size,λk h' eh =>?_,λi k ek =>?_,λi i' k ei ei' =>?_⟩
 ·by_cases lk:k<hs.length
  ·rw[Ed lk] at eh
   obtain ⟨j',n',q',a,b,c⟩:=O.cov k h' eh
   refine ⟨j',n',q',?_,b.mono up,c⟩
   rw[get,if_neg (λq=>by rw[q,ej] at a;cases a)]
   exact a
  ·rw[Eg (by lia)] at eh
   have:k-hs.length=0:=by
    cases hk:k-hs.length with
    | zero=>rfl
    | succ m=>rw[hk] at eh;cases eh
   rw[this] at eh
   cases eh
   obtain rfl:k=hs.length:=by lia
   exact ⟨j,n,q,by rw[get,if_pos rfl],w.mono up,eq⟩
 ·rw[C8,D9]
  rw[get] at ek
  split at ek
  ·cases ek;lia
  ·have:=O.bnd _ _ ek;lia
 ·rw[get] at ei ei'
  by_cases q1:i=j
  ·by_cases q2:i'=j
   ·rw[q1,q2]
   ·rw[if_pos q1] at ei;rw[if_neg q2] at ei'
    cases ei
    have:=O.bnd _ _ ei';lia
  ·rw[if_neg q1] at ei
   by_cases q2:i'=j
   ·rw[if_pos q2] at ei'
    cases ei'
    have:=O.bnd _ _ ei;lia
   ·rw[if_neg q2] at ei'
    exact O.inj _ _ _ ei ei'
theorem qS {mask:Nat}(hm:Msk mask):∀(l:List Int) (owner:Array (Option Nat)) (hs:List Int),Own mask owner hs->hs.length+l.length<=mask+1 →
    ∃owner',l.foldl (λacc h=>do
      let (owner,k) ← acc
      let j ← SetTable.layClean.free mask owner (turns mask) (bits h%(mask+1)) (bits h)
      pure (owner.setIfInBounds j (some k),k+1)) (some (owner,hs.length))=some (owner',hs.length+l.length)/\Own mask owner' (hs++l)
  | [],owner,hs,O,_=>⟨owner,rfl,by rw[DZ];exact O⟩
  | h :: l,owner,hs,O,hl=>by
    rw[Dz] at hl
    obtain ⟨j,hj,O'⟩:=O.step hm h (by lia)
    obtain ⟨owner',e,O''⟩:=qS hm l _ _ O' (by rw[C8,D9];lia)
    refine ⟨owner',?_,by rw[DQ] at O'';exact O''⟩
    rw[Ku]
    have:(do
      let (owner,k) ← some (owner,hs.length)
      let j ← SetTable.layClean.free mask owner (turns mask) (bits h%(mask+1)) (bits h)
      pure (owner.setIfInBounds j (some k),k+1):Option (Array (Option Nat)×Nat))=some (owner.setIfInBounds j (some hs.length),(hs++[h]).length):=by
      show (SetTable.layClean.free mask owner (turns mask) (bits h%(mask+1)) (bits h)).bind _=_
      rw[hj,C8]
      rfl
    rw[this,e]
    rw[C8,D9,Dz]
    congr 2
    lia
theorem qT {mask:Nat}(hm:Msk mask)(hs:Array Int)(hl:hs.size<=mask+1):∃owner,SetTable.layClean mask hs=some owner/\Own mask owner hs.toList:=by
  have O0:Own mask (Array.replicate (mask+1) none) []:=by
    refine ⟨by simp,λk h e=>by simp at e,λj k e =>?_,λi j k e =>?_⟩
    · rw[JL] at e;split at e <;> cases e
    · rw[JL] at e;split at e <;> cases e
  obtain ⟨owner,e,O⟩:=qS hm hs.toList _ [] O0 (by rw[ER,Dl];lia)
  refine ⟨owner,?_,by rw[G8] at O;exact O⟩
  unfold SetTable.layClean
  rw[<- Array.foldl_toList]
  have e':hs.toList.foldl (λacc h=>do
      let (owner,k) ← acc
      let j ← SetTable.layClean.free mask owner (turns mask) (bits h%(mask+1)) (bits h)
      pure (owner.setIfInBounds j (some k),k+1)) (some (Array.replicate (mask+1) none,0))=some (owner,0+hs.toList.length):=e
  rw[e']
  rfl
theorem filterMap_get {α β:Type}{f:α -> Option β}:∀(l:List α),(∀x∈l,(f x).isSome=true)->∀i:Nat,(l.filterMap f)[i]? = l[i]?.bind f
 | [],_,i=>by simp
 | x :: l,h,i=>by
  obtain ⟨y,hy⟩:=GG.mp (h x DA)
  rw[List.filterMap_cons_some hy]
  cases i with
  | zero=>simp[hy]
  | succ i =>
   rw[Gh,Gh]
   exact filterMap_get l (λz hz=>h z (DB _ hz)) i
theorem zR {mask:Nat}(hm:Msk mask)(finger moves:Nat)(led plain:Bool)(es:Array (Int×C9))(hl:es.size<=mask) :
  ∃t order,SetTable.laid mask finger moves led plain (es.map (·.1))=some (t,order)/\order.toList.Perm (Eo es.size)/\Tab t ((order.filterMap (es[·]?)).map (·.1))/\(order.filterMap (es[·]?)).toList.Perm es.toList/\t.led=led/\t.plain=plain/\t.mask=mask:=by
 obtain ⟨owner,e,O⟩:=qT hm (es.map (·.1)) (by rw[Ey];lia)
 refine ⟨_,_,by unfold SetTable.laid;rw[e];rfl,?_⟩
 generalize hlive:((Eo (mask+1)).filterMap λj=>(owner.getD j none).map (j, ·))=live
 have mem:∀j k,(j,k)∈live↔owner[j]? = some (some k):=λj k=>by
  rw[<- hlive,Jq]
  constructor
  ·rintro ⟨a,ha,ea⟩
   rw[FH] at ea
   cases ho:owner[a]? with
   | none=>rw[ho] at ea;cases ea
   | some x =>
    rw[ho] at ea
    cases x with
    | none=>cases ea
    | some k'=>cases ea;exact ho
  ·intro ho
   refine ⟨j,?_,?_⟩
   ·rw[ET, <- O.size];exact eU ho
   ·rw[FH,ho];rfl
 have pw:live.Pairwise (λa b=>a.1<b.1):=by
  rw[<- hlive,List.pairwise_filterMap]
  refine MX (λ{a b} hab x hx y hy =>?_) Ij
  have hx':x.1=a:=by cases ho:owner.getD a none with
   | none=>rw[ho] at hx;cases hx
   | some k=>rw[ho] at hx;cases hx;rfl
  have hy':y.1=b:=by cases ho:owner.getD b none with
   | none=>rw[ho] at hy;cases hy
   | some k=>rw[ho] at hy;cases hy;rfl
  rw[hx',hy'];exact hab
 have nd:(live.map (·.2)).Nodup:=by
  unfold List.Nodup
  rw[Eu]
  refine HR (λ{a b} ha hb hab q =>?_) pw
  have:=O.inj a.1 b.1 a.2 ((mem _ _).mp ha) (by rw[q];exact (mem _ _).mp hb)
  lia
 have hlen:(es.map (·.1)).toList.length=es.size:=by rw[Dl,Ey]
 have perm:(live.map (·.2)).Perm (Eo es.size):=by
  rw[Hw nd L4]
  intro k
  rw[ET,DR]
  constructor
  ·rintro ⟨⟨j,k'⟩,hm',rfl⟩
   have:=O.bnd _ _ ((mem _ _).mp hm')
   rw[hlen] at this
   exact this
  ·intro hk
   obtain ⟨j,_,_,ej,_⟩:=O.cov k _ (Dc (by rw[hlen];exact hk))
   exact ⟨(j,k),(mem _ _).mpr ej,rfl⟩
 have all:∀x∈live.map (·.2),(es[x]?).isSome=true:=λx hx=>by
  have:=(perm.mem_iff).mp hx
  rw[ET] at this
  rw[DN this];rfl
 have tl:(live.map (·.2)).toArray.toList=live.map (·.2):=rfl
 have ll:live.length=es.size:=by have:=perm.length_eq;rw[C6,Fg] at this;exact this
 have fm:((live.map (·.2)).toArray.filterMap (es[·]?)).toList=(live.map (·.2)).filterMap (es[·]?):=by simp
 have fl:((live.map (·.2)).filterMap (es[·]?)).Perm es.toList:=by
  have p1:=perm.filterMap (es[·]?)
  have:(Eo es.size).filterMap (es[·]?)=es.toList:=by
   apply Hs
   intro i
   rw[filterMap_get _ (λx hx=>by rw[ET] at hx;rw[DN hx];rfl)]
   by_cases hi:i<es.size
   ·rw[Lb hi,Dt];rfl
   ·rw[FX (by rw[Fg];lia),FX (by rw[Dl];lia)];rfl
  rw[this] at p1
  exact p1
 refine ⟨perm,?_,by rw[fm];exact fl,rfl,rfl,rfl⟩
 have sz:(((live.map (·.2)).toArray.filterMap (es[·]?)).map (·.1)).size=es.size:=by
  rw[Ey, <- Dl,fm,fl.length_eq,Dl]
 have occ_of:∀j,ocw owner j->occ { mask:=mask,place:=(live.map (·.1)).toArray,dummies := #[],finger:=finger,led:=led,moves:=moves,plain:=plain } j:=by
  rintro j ⟨k,ek⟩
  obtain ⟨i,hi,ei⟩:=Ja ((mem j k).mpr ek)
  refine ⟨i,?_⟩
  show (live.map (·.1)).toArray[i]? = some j
  rw[DX,Dq,Dc hi,ei]
  rfl
 refine ⟨rfl,λi j a b ea eb hij =>?_,?_,λi j ej =>?_,hm,by rw[sz];exact hl,λi j h ej eh =>?_⟩
 ·have ea':(live.map (·.1)).toArray[i]? = some a:=ea
  have eb':(live.map (·.1)).toArray[j]? = some b:=eb
  rw[DX] at ea' eb'
  have pw':(live.map (·.1)).Pairwise (· < ·):=by rw[Eu];exact pw
  obtain ⟨hi,xi⟩:=Di.mp ea'
  obtain ⟨hj,xj⟩:=Di.mp eb'
  rw[<- xi, <- xj]
  exact HI.mp pw' i j hi hj hij
 ·show (live.map (·.1)).toArray.size=_
  rw[sz,Dk,C6,ll]
 ·have ej':(live.map (·.1)).toArray[i]? = some j:=ej
  rw[DX,Dq] at ej'
  cases hx:live[i]? with
  | none=>rw[hx] at ej';cases ej'
  | some x =>
   rw[hx] at ej'
   cases ej'
   have:=eU ((mem x.1 x.2).mp (Dp hx))
   show x.1<=mask
   rw[O.size] at this
   lia
 ·have ej':(live.map (·.1)).toArray[i]? = some j:=ej
  rw[DX,Dq] at ej'
  cases hx:live[i]? with
  | none=>rw[hx] at ej';cases ej'
  | some x =>
   rw[hx] at ej'
   cases ej'
   have ho:=(mem x.1 x.2).mp (Dp hx)
   have hk:=O.bnd _ _ ho
   rw[Lo, <- Dt,fm,filterMap_get _ all,Dq,hx] at eh
   have eh':(es[x.2]?).map (·.1)=some h:=eh
   obtain ⟨j',n,q,a,b,c⟩:=O.cov x.2 h (by rw[II,Dq,Dt];exact eh')
   obtain rfl:=O.inj _ _ _ ho a
   exact ⟨n,q,b.mono occ_of,c⟩
open PySem PySem.SetTable PyProof.Rows
section
variable  {prog:DH}{w:Eb}{A:Ep}{E:C9->Dg->Prop}{s:Dg}
abbrev TK (prog:DH)(w:Eb):=IsTupleKey (prog:=prog) (w:=w) (intKind prog w)
def cX (prog:DH)(w:Eb)(ks:List Int):Int:=tupleKeyHash (intKind prog w) ks
def aZ (es:Array (Int×C9))(ep:Nat)(t:SetTable):Obj:={ cls :=.type "set",dict:=none,data :=.set es ep t }
def ElT (prog:DH)(w:Eb)(h:Heap)(e:Int×C9)(ks:List Int):Prop:=∃b,e=(cX prog w ks,.ref b)/\TK prog w h ks b
theorem pL (d:Nat){v:C9}(h:carriedByValue v=true):ofAClassStatement d v=pure false:=by
 cases v with
 | ref a=>simp[carriedByValue] at h
 | _=>cases d <;> rfl
theorem i3 {ks:List Int}{b:Addr}{Q:Bool->Dg->Prop}(hk:TK prog w s.heap ks b)(h:Q false s):DI (DS prog w) A (ofAClassStatement 8 (.ref b)) Q E s:=by
 have hT:=hk.typeIs
 obtain ⟨o,items,n,ho,_,hd,hi⟩:=hk
 unfold ofAClassStatement
 refine C5 (FC hT ?_)
 dsimp only
 rw[if_pos (by decide)]
 refine C5 (De ?_)
 simp only[E8,DJ,if_false]
 refine C5 (FD ho hd ?_)
 dsimp only
 refine C5 ?_
 rw[<- Lp]
 refine IK _ (λrest r s'=>r.1=none/\s'=s/\∀v∈rest,carriedByValue v=true) _ ?_ ?_ _ _ ⟨rfl,rfl,hi.byValue⟩
 ·rintro v rest r s' ⟨hr,rfl,hall⟩
  rw[pL _ (hall v DA)]
  refine C5 (De ?_)
  simp only[DJ,if_false]
  exact De ⟨rfl,rfl,λu hu'=>hall u (DB _ hu')⟩
 ·rintro ⟨r1,r2⟩ s' ⟨hr,rfl,_⟩
  simp only at hr
  subst hr
  exact De h
theorem BN {ks:List Int}{b:Addr}{vs:List C9}{Q:Bool->Dg->Prop}(hk:TK prog w s.heap ks b)(hv:∀v∈vs,∃ks' b',v = .ref b'/\TK prog w s.heap ks' b')(h:Q false s) :
  DI (DS prog w) A (searchCouldBeSeen (.ref b) vs) Q E s:=by
 unfold searchCouldBeSeen
 refine C5 ?_
 refine IK _ (λrest r s'=>r.1=none/\s'=s/\∀v∈rest,∃ks' b',v = .ref b'/\TK prog w s.heap ks' b') _ ?_ ?_ _ _ ⟨rfl,rfl,hv⟩
 ·rintro v rest r s' ⟨hr,rfl,hall⟩
  obtain ⟨ks',b',rfl,hk'⟩:=hall v DA
  have go:∀u∈rest,∃ks' b',u = .ref b'/\TK prog w s'.heap ks' b':=λu hu'=>hall u (DB _ hu')
  dsimp only
  split
  ·exact De ⟨rfl,rfl,go⟩
  ·refine C5 (KO hk ?_)
   simp only[E8,DJ,if_false]
   refine C5 (KO hk' ?_)
   simp only[E8,DJ,if_false]
   refine C5 (i3 hk ?_)
   simp only[DJ,if_false]
   refine C5 (i3 hk' ?_)
   simp only[DJ,if_false]
   exact De ⟨rfl,rfl,go⟩
 ·rintro ⟨r1,r2⟩ s' ⟨hr,rfl,_⟩
  simp only at hr
  subst hr
  exact De h
theorem zS {m:Nat}(h:Msk m):(m%2 == 0)=false:=by rcases h with rfl | rfl | rfl | rfl <;> rfl
theorem bU {a:Addr}{es:Array (Int×C9)}{ep:Nat}{t:SetTable}{Q:(Array (Int×C9)×Nat×SetTable)->Dg->Prop}(ho:s.heap.get? a=some (aZ es ep t))(T:Tab t (es.map (·.1)))(h:Q (es,ep,t) s) :
  DI (DS prog w) A (setState a) Q E s:=wpAny_setState_of ho rfl (by have:=T.fits;rwa [Ey] at this) h
theorem ti (es:Array (Int×C9))(i:Nat)(e:Int×C9)(h:es[i]? = some e):(es.map (·.1))[i]? = some e.1:=by rw[Lo,h];rfl
theorem Way.split {oc:Nat->Prop}{mask k:Nat}{p r:Probe}(h:Way oc mask k p r):∀{k':Nat} {r':Probe},Way oc mask k' p r'->k<=k'->Way oc mask (k'-k) r r':=by
 induction h with
 | here p=>intro k' r' h2 _;exact h2
 | @step n p q a _ ih =>
  intro k' r' h2 l
  cases h2 with
  | here=>lia
  | @step m _ _ _ h2=>rw[show m+1-(n+1)=m-n by lia];exact ih h2 (by lia)
theorem tj {a b:Addr}{es:Array (Int×C9)}{ep:Nat}{t:SetTable}{ks:List Int}{Q:SetFound->Dg->Prop}(hu:A.units<cLine)(ho:s.heap.get? a=some (aZ es ep t))(T:Tab t (es.map (·.1)))
    (els:∀e∈es,∃ks',ElT prog w s.heap e ks') (hk:TK prog w s.heap ks b) {q:Probe} (he:¬ occ t q.j) :
    ∀(fuel n:Nat) (st:Option Probe) (p:Probe),st.getD (start t.mask (cX prog w ks))=p->Way (occ t) t.mask n p q->n<fuel->n<10*turns t.mask->p.dummy=none →
      ((∃(k:Nat) (r:Probe) (i:Nat) (e:Int×C9),Way (occ t) t.mask k p r/\t.place[i]? = some r.j/\es[i]? = some e/\ElT prog w s.heap e ks)->Q (.there none) s) →
      ((¬ ∃(k:Nat) (r:Probe) (i:Nat) (e:Int×C9),Way (occ t) t.mask k p r/\t.place[i]? = some r.j/\es[i]? = some e/\ElT prog w s.heap e ks)->Q (.free q.j false) s) →
      DI (DS prog w) A (setSearchFrom a (.ref b) (cX prog w ks) true fuel st) Q E s:=by
  intro fuel
  induction fuel with
  | zero=>intro n st p _ _ h;omega
  | succ fuel ih =>
    intro n st p hst W hn hn2 hd hit mis
    unfold setSearchFrom
    refine C5 (bU ho T ?_)
    dsimp only
    rw[show t.gaveWay=false from zS T.msk]
    simp only[DJ,if_false]
    rw[show st.getD (t.probeStart (cX prog w ks))=p from hst]
    rcases qR T (H:=λi=>(es[i]?.map (·.1)).getD 0) (h:=cX prog w ks) W he hn2 hd with ⟨g,no⟩ | ⟨k,r,i,k1,w1,e1,h1,g,w2,d2,no⟩
    · erw [g]
      dsimp only
      refine De (mis ?_)
      rintro ⟨k,r,i,e,wr,er,ee,eb,rfl,_⟩
      refine no k r i wr er ?_
      show (es[i]?.map (·.1)).getD 0=_
      rw[ee]
      rfl
    · erw [g]
      dsimp only
      have hi:i<es.size:=by have:=eU e1;rw[T.size,Ey] at this;exact this
      have ee:es[i]? = some es[i]:=DN hi
      obtain ⟨ks',b',eq,hk'⟩:=els es[i] (Array.getElem_mem hi)
      rw[eq] at ee
      have hh:cX prog w ks'=cX prog w ks:=by
        have h1':(es[i]?.map (·.1)).getD 0=cX prog w ks:=h1
        rw[ee] at h1'
        exact h1'
      have tail:DI (DS prog w) A (do
          let equal ← Mu [DG b'] (eqBool (.ref b') (.ref b))
          let (es',_,t') ← setState a
          if (true && equal)=true then return .there none
          let some same:=t'.sameMemory t.moves t.mask | unsupported "set.changed-during-lookup:is-the-new-block-at-the-old-address"
          let still ← match (if same then t'.slot r.j else .empty) with
            | .live i'=>match es'[i']? with
              | some (_,y')=>do pure (if ← isSame y' (.ref b') then some i' else none)
              | none=>pure none
            | _=>pure none
          match still with
          | none=>rule "set.search.anew";setSearchFrom a (.ref b) (cX prog w ks) true fuel none
          | some i'=>if equal then return .there (some i') else setSearchFrom a (.ref b) (cX prog w ks) true fuel (some (adv t.mask r))) Q E s:=by
        refine C5 (EU (Jx hu hk' hk ?_))
        refine C5 (bU ho T ?_)
        dsimp only
        by_cases hks:ks'=ks
        · subst hks
          rw[decide_eq_true rfl]
          simp only[Bool.and_self,if_true]
          exact De (hit ⟨k,r,i,_,w1,e1,ee,b',rfl,hk'⟩)
        · rw[decide_eq_false hks]
          simp only[K5,DJ,if_false]
          rw[show t.sameMemory t.moves t.mask=some true by unfold SetTable.sameMemory;simp]
          dsimp only
          simp only[if_true]
          rw[jL T.rise e1]
          dsimp only
          rw[ee]
          dsimp only
          refine C5 (wpAny_isSame_ref_self (C5 (De ?_)))
          simp only[if_true]
          refine ih (n-k-1) _ _ rfl w2 (by omega) (by omega) d2 (λx=>hit ?_) λx=>mis λy=>x ?_
          · obtain ⟨k',r',i',e',a1,a2,a3,a4⟩:=x
            obtain ⟨k'',w''⟩:=w1.trans (.step ⟨i,e1⟩ a1)
            exact ⟨k'',r',i',e',w'',a2,a3,a4⟩
          · obtain ⟨k',r',i',e',a1,a2,a3,a4⟩:=y
            have hx:(es[i']?.map (·.1)).getD 0=cX prog w ks:=by
              obtain ⟨bb,rfl,_⟩:=a4
              rw[a3];rfl
            by_cases lt:k'<k
            · exact absurd hx (no k' r' i' lt a1 a2)
            · have w3:=w1.split a1 (by omega)
              cases hd3:k'-k with
              | zero =>
                rw[hd3] at w3
                cases w3
                obtain rfl:i=i':=(below_at T.rise e1).symm.trans (below_at T.rise a2)
                obtain ⟨bb,rfl,hbb⟩:=a4
                rw[ee] at a3
                injection a3 with a3
                injection a3 with a31 a32
                injection a32 with a32
                subst a32
                exact absurd (hk'.inj hbb) hks
              | succ m =>
                rw[hd3] at w3
                cases w3 with
                | step _ w3=>exact ⟨m,r',i',e',w3,a2,a3,a4⟩
      cases hl:t.led with
      | true =>
        simp only[E8,DJ,if_false]
        rw[ee]
        exact tail
      | false =>
        simp only[K6,if_true]
        refine C5 (BN hk (λv hv =>?_) ?_)
        · obtain ⟨e',he',rfl⟩:=DR.mp hv
          obtain ⟨ks2,b2,e2,hk2⟩:=els e' (Array.mem_of_mem_filter (D4.mp he'))
          exact ⟨ks2,b2,by rw[e2],hk2⟩
        · simp only[DJ,if_false]
          rw[ee]
          exact tail
end
section
variable  {prog:DH}{w:Eb}{A:Ep}{E:C9->Dg->Prop}{s:Dg}
def dJ (w:Eb)(h:Heap)(a:Addr)(es:Array (Int×C9)):Prop :=
 ∃ep t,h.get? a=some (aZ es ep t)/\Tab t (es.map (·.1))/\es.size*5<t.mask*3/\t.led = !w.params.followText "set-order" /\ t.plain=true
theorem dJ.at {h h':Heap}{a:Addr}{es:Array (Int×C9)}(x:dJ w h a es)(e:∀o,h.get? a=some o->h'.get? a=some o):dJ w h' a es :=
 let ⟨ep,t,ho,r⟩:=x;⟨ep,t,e _ ho,r⟩
theorem qU {m n:Nat}(hm:Msk m)(h1:n*5<m*3)(h2:(n+1)*5≥m*3)(h3:n<300):Msk (sizeAbove (grown (n+1))-1)/\n+1<=sizeAbove (grown (n+1))-1/\(n+1)*5<(sizeAbove (grown (n+1))-1)*3/\sizeAbove (grown (n+1))<=512:=by
 have c:n=4\/n=18\/n=76:=by
  rcases hm with rfl | rfl | rfl | rfl <;> lia
 unfold Msk
 rcases c with rfl | rfl | rfl <;> decide
theorem oz:512<=Dm:=by rw[F8];lia
theorem i4 {a:Addr}{es es':Array (Int×C9)}{ep:Nat}{t t':SetTable}{Q:Unit->Dg->Prop}(ho:s.heap.get? a=some (aZ es ep t))(hz:es'.size<=512)
  (h:∀h',Heap.SameBut a s.heap h'->h'.get? a=some (aZ es' (ep+1) t')->Q () { s with heap:=h' }):DI (DS prog w) A (storeSet a es' t') Q E s:=by
 refine wpAny_storeSet_of (o:=aZ es ep t) ho rfl ?_ (DU hz oz)
 refine h _ (HM s.heap a _) ?_
 have:=EA (Obj.putSet es' t') ho (by rw[putSet_of es' t' (o:=aZ es ep t) rfl];rfl)
 rw[putSet_of es' t' (o:=aZ es ep t) rfl] at this
 exact this
theorem Tab.tooFull {t:SetTable}{hs:Array Int}(T:Tab t hs):t.tooFull=decide (hs.size*5≥t.mask*3):=by
 unfold SetTable.tooFull;rw[T.fill]
theorem oB {t:SetTable}{es:Array (Int×C9)}(T:Tab t (es.map (·.1))){n:Nat}(hn:es.size=n+1)(h1:n*5<t.mask*3)(h2:(n+1)*5≥t.mask*3)(h3:n<300) :
  ∃t' order,t.relaid (es.map (·.1)) (grown (n+1))=some (t',order)/\order.toList.Perm (Eo es.size)/\Tab t' ((order.filterMap (es[·]?)).map (·.1))/\(order.filterMap (es[·]?)).toList.Perm es.toList/\t'.led=t.led/\t'.plain=t.plain/\(n+1)*5<t'.mask*3:=by
 obtain ⟨k1,k2,k3,k4⟩:=qU T.msk h1 h2 h3
 obtain ⟨t',order,e,pm,T',pe,l,p,m⟩:=zR k1 t.finger (t.movedTo (sizeAbove (grown (n+1))-1)) t.led t.plain es (by lia)
 exact ⟨t',order,e,pm,T',pe,l,p,by rw[m];exact k3⟩
theorem tm {ks:List Int}{b:Addr}{Q:Bool->Dg->Prop}(hk:TK prog w s.heap ks b)(h:Q true s):DI (DS prog w) A (hashByValue 8 (.ref b)) Q E s:=by
 have hT:=hk.typeIs
 obtain ⟨o,items,n,ho,_,hd,hi⟩:=hk
 unfold hashByValue
 refine C5 (Fv hT F.slot_tuple_hash.lookup ?_)
 dsimp only
 refine C5 (FD ho hd ?_)
 refine C5 ?_
 show DI _ _ (forIn items _ _) _ _ s
 rw[<- Lp]
 have hall0:∀v∈items.toList,∃k t,v = .int k t:=by
  clear hd ho
  generalize items.toList=l at hi
  induction hi with
  | nil=>intro v hv;cases hv
  | cons h1 _ ih =>
   intro v hv
   rcases Dx.mp hv with rfl | hv
   ·obtain ⟨t,e⟩:=Hl h1;exact ⟨_,t,e⟩
   ·exact ih v hv
 refine IK _ (λrest r s'=>r.1=none/\s'=s/\∀v∈rest,∃k t,v=EL k t) _ ?_ ?_ _ _ ⟨rfl,rfl,hall0⟩
 ·rintro v rest r s' ⟨hr,rfl,hall⟩
  obtain ⟨k,t,rfl⟩:=hall v DA
  rw[show hashByValue 7 (.int k t)=pure true from rfl]
  refine C5 (De ?_)
  simp only[E8,DJ,if_false]
  exact De ⟨rfl,rfl,λu hu'=>hall u (DB _ hu')⟩
 ·rintro ⟨r1,r2⟩ s' ⟨hr,rfl,_⟩
  simp only at hr
  subst hr
  exact De h
theorem zT {a b:Addr}{es:Array (Int×C9)}{ks:List Int}{Q:Bool->Dg->Prop}(hu:A.units<cLine)(I:dJ w s.heap a es)(els:∀e∈es,∃ks',ElT prog w s.heap e ks')(hk:TK prog w s.heap ks b)(hz:es.size<300)
  (hin:(∃e∈es,ElT prog w s.heap e ks)->Q false s)
  (hnew:(¬ ∃e∈es,ElT prog w s.heap e ks)->∀h' es',Heap.SameBut a s.heap h'->dJ w h' a es'->es'.toList.Perm ((cX prog w ks,.ref b) :: es.toList)->Q true { s with heap:=h' }) :
  DI (DS prog w) A (setAddHashed a (.ref b) (cX prog w ks)) Q E s:=by
 obtain ⟨ep,t,ho,T,rm,hl,hp⟩:=I
 unfold setAddHashed setAddHashedIn
 refine EU (C5 (bU ho T ?_))
 dsimp only
 rw[show byScan (.ref b) es=false from rfl]
 simp only[DJ,if_false]
 obtain ⟨n,q,hn,W,he,hq,hd⟩:=T.ends (cX prog w ks)
 have hn':n<100000:=by
  have:t.mask<=511:=by rcases T.msk with e | e | e | e <;> lia
  unfold turns at hn
  lia
 unfold setSearch
 refine C5 (tj hu ho T els hk he 100000 n none _ rfl W hn' hn rfl (λx =>?_) λx =>?_)
 ·obtain ⟨k,r,i,e,_,_,ee,el⟩:=x
  exact De (hin ⟨e,Array.mem_of_getElem? ee,el⟩)
 ·have nx:¬ ∃e∈es,ElT prog w s.heap e ks:=by
   rintro ⟨e,he',el⟩
   obtain ⟨i,hi,ei⟩:=Array.getElem_of_mem he'
   have ee:es[i]? = some e:=by rw[DN hi,ei]
   have hpl:i<t.place.size:=by rw[T.size,Ey];exact hi
   obtain ⟨bb,rfl,hbb⟩:=el
   obtain ⟨k,r,w1,er⟩:=T.reach i _ _ (DN hpl) (ti es i _ ee)
   exact x ⟨k,r,i,_,w1,by rw[er];exact DN hpl,ee,bb,rfl,hbb⟩
  dsimp only
  refine C5 (bU ho T ?_)
  dsimp only
  rw[T.xW]
  dsimp only
  rw[hp]
  simp only[if_true]
  have hz':(es.map (·.1)).size+1<=t.mask:=by
   rw[Ey];have:=T.fit;rw[Ey] at this
   rcases T.msk with e | e | e | e <;> rw[e] at rm ⊢ <;> lia
  have T':=T.put W he hq hz'
  rw[<- fH es (below t.place q.j) (cX prog w ks,DG b) (·.1),hp] at T'
  have sz:(insertAt es (below t.place q.j) (cX prog w ks,DG b)).size=es.size+1:=cW _ _ _
  refine C5 (tm hk ?_)
  simp only[if_true]
  refine C5 (i4 ho (by rw[sz];lia) λh1 sb1 ho1 =>?_)
  have pm1:=insertAt_perm es (below t.place q.j) (cX prog w ks,DG b)
  rw[T'.tooFull,Ey,sz]
  by_cases full:(es.size+1)*5≥t.mask*3
  ·rw[if_pos (by simpa using full)]
   unfold setRelay
   obtain ⟨t2,order,e2,pm2,T2,pe2,l2,p2,rm2⟩:=oB T' sz (n:=es.size) (by simpa using rm) full hz
   obtain ⟨_,_,_,sa⟩:=qU T.msk rm full hz
   refine C5 (C5 (bU (s:={ s with heap:=h1 }) ho1 T' ?_))
   dsimp only
   rw[if_neg (Nat.not_lt.mpr (DU sa oz))]
   rw[e2]
   have z2:(order.filterMap ((insertAt es (below t.place q.j) (cX prog w ks,DG b))[·]?)).size=es.size+1:=by
    rw[<- Dl,pe2.length_eq,Dl,sz]
   refine C5 ?_
   show DI _ _ (if ((order.filterMap ((insertAt es (below t.place q.j) (cX prog w ks,DG b))[·]?)).size != (insertAt es (below t.place q.j) (cX prog w ks,DG b)).size)=true then _ else _) _ _ _
   rw[if_neg (by rw[z2,sz];simp)]
   refine De ?_
   dsimp only
   refine i4 (s:={ s with heap:=h1 }) ho1 (by rw[z2];lia) λh2 sb2 ho2 =>?_
   refine De (hnew nx h2 _ (sb1.trans sb2) ⟨_,_,ho2,T2,by rw[z2];exact rm2,by rw[l2];exact hl,by rw[p2]⟩ (pe2.trans pm1))
  ·rw[if_neg (by simpa using full)]
   refine De (hnew nx h1 _ sb1 ⟨_,_,ho1,T',?_,hl,rfl⟩ pm1)
   rw[sz]
   exact GY full
end
section
variable  {prog:DH}{w:Eb}{A:Ep}{E:C9->Dg->Prop}{s:Dg}
def ElI (e:Int×C9)(k:Int):Prop:=∃t,e=(hashInt k,EL k t)
theorem vQ {es:Array (Int×C9)}(els:∀e∈es,∃k,ElI e k):ElemsOf (intKind prog w) es.toList:=by
 intro e he
 obtain ⟨k,t,rfl⟩:=els e (D4.mp he)
 exact ⟨⟨k,JT _ _ _ _,rfl⟩,rfl⟩
theorem vR {t:SetTable}{es:Array (Int×C9)}(T:Tab t (es.map (·.1)))(h:Int)(x:C9){n:Nat}{q:Probe}(hn:n<10*turns t.mask)(W:Way (occ t) t.mask n (start t.mask h) q)(he:¬ occ t q.j)(hq:q.j<=t.mask)(hz:es.size+1<=t.mask) :
  layNew t es h x=(insertAt es (below t.place q.j) (h,x),{ t with place:=insertAt t.place (below t.place q.j) q.j },false,false):=by
 have hf:t.freeSlot h=some (q.j,false):=by
  unfold SetTable.freeSlot
  rcases qR T (H:=λ_=>h+1) (h:=h) W he hn rfl with ⟨g,_⟩ | ⟨_,_,i,_,_,_,h1,_⟩
  ·rw[show t.probe (λ_=>h+1) h (t.probeStart h)=some (.empty q.j none) from g]
   rfl
  ·have:h+1=h:=h1
   lia
 have T':=T.put W he hq (by rw[Ey];exact hz)
 rw[<- fH es (below t.place q.j) (h,x) (·.1)] at T'
 have ft:=T'.fits
 rw[Ey] at ft
 unfold layNew
 rw[hf]
 dsimp only
 rw[T.xW]
 dsimp only
 unfold SetTable.orStandIn
 rw[if_pos ft,ft]
 rfl
theorem qV {t:SetTable}{es:Array (Int×C9)}{n:Nat}{t':SetTable}{order:Array Nat}(e:t.relaid (es.map (·.1)) n=some (t',order))(pm:order.toList.Perm (Eo es.size))(T':Tab t' ((order.filterMap (es[·]?)).map (·.1))) :
  relayAll t es n=(order.filterMap (es[·]?),t',false):=by
 unfold relayAll
 rw[e]
 dsimp only
 have c:coversAll order es.size=true:=by unfold coversAll;rw[List.isPerm_iff];exact pm
 have f:=T'.fits
 rw[Ey] at f
 rw[c,f]
 rfl
theorem add_int {a:Addr}{es:Array (Int×C9)}{k:Int}{tok:Tok}{Q:Bool->Dg->Prop}(I:dJ w s.heap a es)(els:∀e∈es,∃k',ElI e k')(hz:es.size<300)
  (hin:(∃e∈es,ElI e k)->Q false s)
  (hnew:(¬ ∃e∈es,ElI e k)->∀h' es',Heap.SameBut a s.heap h'->dJ w h' a es'->es'.toList.Perm ((hashInt k,.int k tok) :: es.toList)->Q true { s with heap:=h' }) :
  DI (DS prog w) A (setAddHashed a (.int k tok) (hashInt k)) Q E s:=by
 obtain ⟨ep,t,ho,T,rm,hl,hp⟩:=I
 have hel:=vQ (prog:=prog) (w:=w) els
 have hb:es.size<scanBound:=by unfold scanBound;lia
 have hf:t.fits es.size=true:=by have:=T.fits;rwa [Ey] at this
 unfold setAddHashed setAddHashedIn
 refine EU (C5 (bU ho T ?_))
 dsimp only
 rw[byScan_of (knd:=intKind prog w) rfl hb hel]
 simp only[↓reduceIte]
 unfold setAddByScan
 refine C5 ?_
 refine C5 (FI ?_)
 refine C5 (wpAny_setScan_of (knd:=intKind prog w) (k:=k) (JT _ _ _ _) ho rfl hf hel ?_)
 cases hr:List.findIdx? (λe=>(intKind prog w).is k e.2) es.toList with
 | some j =>
  dsimp only
  obtain ⟨hj,hpj,_⟩:=List.findIdx?_eq_some_iff_getElem.mp hr
  refine De (De (hin ⟨es.toList[j],D4.mp (HK hj),?_⟩))
  obtain ⟨k',t',e'⟩:=els es.toList[j] (D4.mp (HK hj))
  obtain ⟨u,e2⟩:=Hl hpj
  rw[e'] at e2
  cases e2
  exact ⟨_,e'⟩
 | none =>
  dsimp only
  have nx:¬ ∃e∈es,ElI e k:=by
   rintro ⟨e,he,t',rfl⟩
   have:=List.findIdx?_eq_none_iff.mp hr _ (D4.mpr he)
   rw[JT] at this
   cases this
  have hgw:∀(b:Bool) {s₁:Dg} {Q':Unit->Dg->Prop},Q' () s₁->DI (DS prog w) A (match b with | true=>rule "set.scan.the-table-gave-way" | false=>pure ()) Q' E s₁ :=
   λb s₁ Q' hq=>by cases b <;> first | exact De hq | exact FI hq
  obtain ⟨n,q,hn,W,he,hq,hd⟩:=T.ends (hashInt k)
  have hz':es.size+1<=t.mask:=by
   rcases T.msk with e | e | e | e <;> rw[e] at rm ⊢ <;> lia
  rw[vR T (hashInt k) (.int k tok) hn W he hq hz']
  dsimp only
  refine C5 (De (a:=()) ?_)
  have T':=T.put W he hq (by rw[Ey];exact hz')
  rw[<- fH es (below t.place q.j) (hashInt k,EL k tok) (·.1),hp] at T'
  rw[hp]
  simp only[↓reduceIte]
  refine C5 ?_
  rw[show hashByValue 8 (.int k tok)=pure true from rfl]
  refine De ?_
  simp only[↓reduceIte]
  have sz:(insertAt es (below t.place q.j) (hashInt k,EL k tok)).size=es.size+1:=cW _ _ _
  refine C5 (i4 ho (by rw[sz];lia) λh1 sb1 ho1 =>?_)
  have pm1:=insertAt_perm es (below t.place q.j) (hashInt k,EL k tok)
  rw[T'.tooFull,Ey,sz]
  by_cases full:(es.size+1)*5≥t.mask*3
  ·rw[if_pos (by simpa using full)]
   obtain ⟨t2,order,e2,pm2,T2,pe2,l2,p2,rm2⟩:=oB T' sz (n:=es.size) (by simpa using rm) full hz
   rw[qV e2 pm2 T2]
   dsimp only
   have z2:(order.filterMap ((insertAt es (below t.place q.j) (hashInt k,EL k tok))[·]?)).size=es.size+1:=by
    rw[<- Dl,pe2.length_eq,Dl,sz]
   refine C5 (De (a:=()) ?_)
   refine C5 (i4 (s:={ s with heap:=h1 }) ho1 (by rw[z2];lia) λh2 sb2 ho2 =>?_)
   refine De (De (hnew nx h2 _ (sb1.trans sb2) ⟨_,_,ho2,T2,by rw[z2];exact rm2,by rw[l2];exact hl,by rw[p2]⟩ (pe2.trans pm1)))
  ·rw[if_neg (by simpa using full)]
   refine De (De (hnew nx h1 _ sb1 ⟨_,_,ho1,T',?_,hl,rfl⟩ pm1))
   rw[sz]
   exact GY full
end
open PySem PySem.SetTable PyProof.Rows PySem.Spec
def TS (h h':Heap):Prop:=∀b o,o.cls = .type "tuple" -> h.get? b=some o->h'.get? b=some o
structure Kd (prog:DH)(w:Eb)(κ:Type) where
 El:Heap->C9 -> κ -> Prop
 hash:κ -> Int
 room:Ep->Prop
 keeps:∀{h h':Heap} {v:C9} {k:κ},El h v k->TS h h'->El h' v k
 inj:∀{h:Heap} {v:C9} {k k':κ},El h v k->El h v k'->k=k'
 add:∀{A:Ep} {E:C9->Dg->Prop} {s:Dg} {a:Addr} {es:Array (Int×C9)} {v:C9} {k:κ} {Q:Bool->Dg->Prop},room A->dJ w s.heap a es->(∀e∈es,∃k',e.1=hash k'/\El s.heap e.2 k')->El s.heap v k->es.size<300 →
  ((∃e∈es,El s.heap e.2 k)->∀tk,s.toks<=tk->Q false { s with toks:=tk }) →
  ((¬ ∃e∈es,El s.heap e.2 k)->∀h' es' tk,s.toks<=tk->Heap.SameBut a s.heap h'->dJ w h' a es'->es'.toList.Perm ((hash k,v) :: es.toList)->Q true { s with heap:=h',toks:=tk }) →
  DI (DS prog w) A (setAdd a v) Q E s
theorem TK.keep {prog:DH}{w:Eb}{h h':Heap}{ks:List Int}{b:Addr}(x:TK prog w h ks b)(t:TS h h'):TK prog w h' ks b :=
 let ⟨o,items,n,ho,hc,r⟩:=x;⟨o,items,n,t b o hc ho,hc,r⟩
def ki (prog:DH)(w:Eb):Kd prog w (List Int) where
 El:=λh v ks=>∃b,v = .ref b/\TK prog w h ks b
 hash:=cX prog w
 room:=λA=>A.units<cLine
 keeps:=λ⟨b,e,x⟩ t=>⟨b,e,x.keep t⟩
 inj:=λ⟨b,e,x⟩ ⟨b',e',x'⟩=>by
  rw[e] at e';injection e' with e';subst e';exact x.inj x'
 add:=by
  intro A E s a es v k Q hu I els hv hz hin hnew
  obtain ⟨b,rfl,hk⟩:=hv
  unfold setAdd
  refine EU (C5 (wpAny_pyHash_tuple hu hk ?_))
  have els':∀e∈es,∃ks',ElT prog w s.heap e ks':=λe he=>by
   obtain ⟨k',e1,b',e2,x⟩:=els e he
   exact ⟨k',b',Jr e1 e2,x⟩
  have conv:∀e∈es,(ElT prog w s.heap e k↔∃b,e.2 = .ref b/\TK prog w s.heap k b):=λe he=>by
   constructor
   ·rintro ⟨b',rfl,x⟩;exact ⟨b',rfl,x⟩
   ·rintro ⟨b',e2,x⟩
    obtain ⟨k',e1,b2,e3,x2⟩:=els e he
    rw[e2] at e3;injection e3 with e3;subst e3
    obtain rfl:=x.inj x2
    exact ⟨b',Jr e1 e2,x⟩
  refine zT (s:={ s with toks:=s.toks+(k.length+1) }) hu I els' hk hz (λx=>hin ?_ _ (F3 _ _)) λx h' es' sb I' pm=>hnew ?_ h' es' _ (F3 _ _) sb I' pm
  ·obtain ⟨e,he,x⟩:=x;exact ⟨e,he,(conv e he).mp x⟩
  ·rintro ⟨e,he,y⟩;exact x ⟨e,he,(conv e he).mpr y⟩
def uB (prog:DH)(w:Eb):Kd prog w Int where
 El:=λ_ v k=>∃t,v = .int k t
 hash:=hashInt
 room:=λ_=>True
 keeps:=λx _=>x
 inj:=λ⟨t,e⟩ ⟨t',e'⟩=>by rw[e] at e';injection e'
 add:=by
  intro A E s a es v k Q _ I els hv hz hin hnew
  obtain ⟨t,rfl⟩:=hv
  unfold setAdd
  refine EU (C5 ((intKind prog w).pyHash (k:=k) (JT _ _ _ _) ?_))
  have els':∀e∈es,∃k',ElI e k':=λe he=>by
   obtain ⟨k',e1,t',e2⟩:=els e he
   exact ⟨k',t',Jr e1 e2⟩
  have conv:∀e∈es,(ElI e k↔∃t,e.2=EL k t):=λe he=>by
   constructor
   ·rintro ⟨t',rfl⟩;exact ⟨t',rfl⟩
   ·rintro ⟨t',e2⟩
    obtain ⟨k',e1,t2,e3⟩:=els e he
    rw[e2] at e3;injection e3 with e3 e4;subst e3
    exact ⟨t',Jr e1 e2⟩
  refine add_int (s:={ s with toks:=s.toks+1 }) I els' hz (λx=>hin ?_ _ (GQ _)) λx h' es' sb I' pm=>hnew ?_ h' es' _ (GQ _) sb I' pm
  ·obtain ⟨e,he,x⟩:=x;exact ⟨e,he,(conv e he).mp x⟩
  ·rintro ⟨e,he,y⟩;exact x ⟨e,he,(conv e he).mpr y⟩
section
variable  {prog:DH}{w:Eb}{κ:Type}(kd:Kd prog w κ)
structure Good (h:Heap)(es:Array (Int×C9))(l:List κ):Prop where
 el:∀e∈es,∃k,k∈l/\e.1=kd.hash k/\kd.El h e.2 k
 all:∀k∈l,∃e∈es,kd.El h e.2 k
 dis:es.toList.Pairwise (λe e'=>∀k,kd.El h e.2 k->¬ kd.El h e'.2 k)
 len:es.size<=l.length
variable  {kd}
theorem Good.keeps {h h':Heap}{es:Array (Int×C9)}{l:List κ}(G:Good kd h es l)(t:TS h h'):Good kd h' es l:=by
 refine ⟨λe he =>?_,λk hk =>?_,?_,G.len⟩
 ·obtain ⟨k,a,b,c⟩:=G.el e he;exact ⟨k,a,b,kd.keeps c t⟩
 ·obtain ⟨e,a,b⟩:=G.all k hk;exact ⟨e,a,kd.keeps b t⟩
 ·refine HR (λ{e e'} he he' x k y z =>?_) G.dis
  obtain ⟨k1,_,_,c1⟩:=G.el e (D4.mp he)
  obtain ⟨k2,_,_,c2⟩:=G.el e' (D4.mp he')
  obtain rfl:=kd.inj y (kd.keeps c1 t)
  obtain rfl:=kd.inj z (kd.keeps c2 t)
  exact x _ c1 c2
theorem Good.nil (h:Heap):Good kd h #[] []:=⟨λe he=>(by simp at he),λk hk=>(by cases hk),(by simp),Dd _⟩
theorem Good.same {h:Heap}{es:Array (Int×C9)}{l:List κ}(G:Good kd h es l){k:κ}(x:∃e∈es,kd.El h e.2 k):Good kd h es (l++[k]):=by
 refine ⟨λe he =>?_,λk' hk =>?_,G.dis,by rw[C8];have:=G.len;lia⟩
 ·obtain ⟨k,a,b⟩:=G.el e he;exact ⟨k,DM _ a,b⟩
 ·rcases Dh.mp hk with hk | hk
  ·exact G.all k' hk
  ·rw[DD] at hk;subst hk;exact x
theorem Good.more {h:Heap}{es es':Array (Int×C9)}{l:List κ}(G:Good kd h es l){k:κ}{v:C9}(hv:kd.El h v k)(x:¬ ∃e∈es,kd.El h e.2 k)(pm:es'.toList.Perm ((kd.hash k,v) :: es.toList)):Good kd h es' (l++[k]):=by
 have mem:∀e,e∈es'↔e=(kd.hash k,v)\/e∈es:=λe=>by
  rw[<- D4,pm.mem_iff,Dx,D4]
 refine ⟨λe he =>?_,λk' hk =>?_,?_,?_⟩
 ·rcases (mem e).mp he with rfl | he
  ·exact ⟨k,DE _ (DD.mpr rfl),rfl,hv⟩
  ·obtain ⟨k,a,b⟩:=G.el e he;exact ⟨k,DM _ a,b⟩
 ·rcases Dh.mp hk with hk | hk
  ·obtain ⟨e,a,b⟩:=G.all k' hk;exact ⟨e,(mem e).mpr (.inr a),b⟩
  ·rw[DD] at hk;subst hk;exact ⟨_,(mem _).mpr (.inl rfl),hv⟩
 ·rw[pm.pairwise_iff (λ{a b} z k y1 y2=>z k y2 y1)]
  refine List.Pairwise.cons (λe he k' y1 y2 =>?_) G.dis
  obtain rfl:=kd.inj y1 hv
  exact x ⟨e,D4.mp he,y2⟩
 ·have:=pm.length_eq
  rw[Dz,Dl,Dl] at this
  rw[C8,D9]
  have:=G.len
  lia
end
section
variable  {prog:DH}{w:Eb}{A:Ep}{R:Result->Dg->Prop}{I:Addr}{fp:List Addr}{G:Array GenState->Array GenState->Prop}{n:Nat}{P:Nat->C9->Prop}{St:Nat->Dg->Prop}{κ:Type}{kd:Kd prog w κ}
theorem qW (W:WalksS prog w A.in1 I fp [I] G n P St)(hrm:kd.room A.in1)(hI:∀i s,St i s->∃o,s.heap.get? I=some o/\o.cls ≠ .type "tuple")(S:Addr)(hSf:S∉fp)(hIf:I∈fp)(ks:List κ)(hn:n=ks.length)(hb:n<300) :
  ∀(k i:Nat) (s:Dg) (es:Array (Int×C9)),n-i=k->i<=n->St i s->(∀j v,P j v->∃q,ks[j]? = some q/\kd.El s.heap v q) →
   dJ w s.heap S es->Good kd s.heap es (ks.take i) →
   (∀s' es',Moved [S,I] G s s'->dJ w s'.heap S es'->Good kd s'.heap es' ks->R (.ok (.ret .none)) s') →
   Ji (DS prog w) A (.builtin "set.update.loop" ⟨[.ref S,.ref I],[]⟩) R s:=by
 have hSI:S≠I:=λe=>hSf (e ▸ hIf)
 have ts:∀i s s',St i s->Moved [I] G s s'->TS s.heap s'.heap:=λi s s' hst hm b o hc e=>by
  refine hm.heap b o (λhb =>?_) e
  rw[DD] at hb
  obtain ⟨o',e',c'⟩:=hI i s hst
  rw[hb,e'] at e;cases e;exact c' hc
 intro k
 induction k with
 | zero =>
  intro i s es hk hi hst hv hS hG hR
  have hin:i=n:=by omega
  subst hin
  refine EE JY ?_
  rw[Ex GU _]
  show DI _ A.in1 (pyNext (.ref I) >>= _) _ _ s
  refine C5 (W.done s _ _ hst λs' hm =>?_)
  show DI _ A.in1 (ret E9) _ _ s'
  rw[Dr (by omega)] at hG
  exact De (hR s' es (hm.mono λb hb=>by rw[DD] at hb;simp[hb]) (hS.at λo e=>hm.heap S o (by rw[DD];exact hSI) e) (hG.keeps (ts _ _ _ hst hm)))
 | succ k ih =>
  intro i s es hk hi hst hv hS hG hR
  have hlt:i<n:=by omega
  refine EE JY ?_
  rw[Ex GU _]
  show DI _ A.in1 (pyNext (.ref I) >>= _) _ _ s
  refine C5 (W.item i s _ _ hlt hst λv s' hP hst' hm =>?_)
  have t0:=ts _ _ _ hst hm
  obtain ⟨q,eq,hq⟩:=hv i v hP
  have hS':dJ w s'.heap S es:=hS.at λo e=>hm.heap S o (by rw[DD];exact hSI) e
  have hG':=hG.keeps t0
  have tk:ks.take (i+1)=ks.take i++[q]:=by rw[MB,eq];rfl
  show DI _ A.in1 (Mu [v] (setAdd S v) >>= _) _ _ s'
  have hm2:Moved [S,I] G s s':=hm.mono λb hb=>by rw[DD] at hb;simp[hb]
  refine C5 (EU (kd.add hrm hS' (λe he =>?_) (kd.keeps hq t0) ?_ (λx tk' htk =>?_) λx h' es' tk' htk sb I' pm =>?_))
  ·obtain ⟨k',_,a,b⟩:=hG'.el e he;exact ⟨k',a,b⟩
  ·have:=hG'.len;rw[Ew] at this;omega
  ·refine De ⟨Fw GU _,ih (i+1) _ es (by omega) hlt (W.frame _ s' _ _ hst' htk λb _ o e=>e) (λj v' p =>?_) hS' (by rw[tk];exact hG'.same x) λs'' es'' hm'' a b =>?_⟩
   ·obtain ⟨q',a,b⟩:=hv j v' p;exact ⟨q',a,kd.keeps b t0⟩
   ·exact hR s'' es'' (MR W.gtrans (hm2.then_heap htk λb o _ e=>e) hm'') a b
  ·have t1:TS s'.heap h':=λb o hc e=>by
    rw[sb.2 b (λhb=>by
     obtain ⟨ep,t,ho,_⟩:=hS'
     rw[hb,ho] at e;cases e;simp[aZ] at hc)]
    exact e
   refine De ⟨Fw GU _,ih (i+1) _ es' (by omega) hlt (W.frame _ s' _ _ hst' htk λb hb o e =>?_) (λj v' p =>?_) I' (by rw[tk];exact (hG'.more (kd.keeps hq t0) x pm).keeps t1) λs'' es'' hm'' a b =>?_⟩
   ·rw[sb.2 b (λh:b=S=>hSf (h ▸ hb))];exact e
   ·obtain ⟨q',a,b⟩:=hv j v' p;exact ⟨q',a,kd.keeps (kd.keeps b t0) t1⟩
   ·refine hR s'' es'' (MR W.gtrans (hm2.then_heap htk λb o hb e =>?_) hm'') a b
    rw[sb.2 b (λh:b=S=>hb (by rw[h];exact DA))];exact e
end
section
variable  {prog:DH}{w:Eb}{A:Ep}{E:C9->Dg->Prop}{s:Dg}
theorem uC (a:C9){Q₁:C9->Dg->Prop}
    (h:Q₁ (.ref s.heap.objs.size) { s with heap:=s.heap.push (aZ #[] 0 (.fresh 0 0 (!w.params.followText "set-order"))) }) :
    Ji (DS prog w) A (.call (.builtin "set.__new__") ⟨[.type "set",a],[]⟩) (wants Q₁ E) s:=by
  refine KP ?_
  show DI _ A.in1 (do checkBuiltinCall "set.__new__" ⟨[.type "set",a],[]⟩;again (.builtin "set.__new__" ⟨[.type "set",a],[]⟩)) _ _ s
  refine C5 (Ga (PySem.F.newCall_set_1 a) (De ⟨Fw Mj _,EE F.entry_set_new ?_⟩))
  rw[Ex Mj _]
  unfold Builtin.«set.__new__» Builtin.Frozenset.newClass
  have hsub:=sub_set_self
  obtain ⟨hp,g,d,tk,os⟩:=s
  dsimp only
  wp_walk
  refine Kh (De ?_)
  dsimp only
  simp only[newObj]
  refine C5 (wpAny_alloc (De ?_))
  exact De h
theorem vS (led:Bool):Tab (.fresh 0 0 led) #[]:=by
 refine ⟨rfl,λi j a b e =>?_,rfl,λi j e =>?_,.inl rfl,D5 _,λi j h e =>?_⟩ <;> (simp[SetTable.fresh] at e)
theorem ma {h:Heap}{a:Addr}(ho:h.get? a=some (aZ #[] 0 (.fresh 0 0 (!w.params.followText "set-order")))):dJ w h a #[] :=
 ⟨0,_,ho,(by rw[Array.map_empty];exact vS _),(by show 0*5<7*3;decide),rfl,rfl⟩
theorem sub_tuple_set:isSubtype (.type "tuple") (.type "set")=pure false:=by rw[FE];kernel_rfl
theorem sub_tuple_frozenset:isSubtype (.type "tuple") (.type "frozenset")=pure false:=by rw[FE];kernel_rfl
end
section
variable  {prog:DH}{w:Eb}{A:Ep}{E:C9->Dg->Prop}{s:Dg}
set_option maxHeartbeats 3200000 in
theorem gm {κ:Type}{kd:Kd prog w κ}{l:Addr}{items:Array C9}{ks:List κ}{Q:C9->Dg->Prop}
  (hh:A.handled=none) (hrm:kd.room A.in1.in1.in1) (hl:s.heap.IsTuple l items) (hz:items.size=ks.length) (hi:∀(i:Nat) v,items[i]? = some v->∃q,ks[i]? = some q/\kd.El s.heap v q) (hb:items.size<300)
  (h:∀(h':Heap) (es:Array (Int×C9)) (tk:Nat),s.toks<=tk->dJ w h' s.heap.objs.size es->Good kd h' es ks →
   (∀b o,s.heap.get? b=some o->h'.get? b=some o)->Q (.ref s.heap.objs.size) { s with heap:=h',toks:=tk }) :
  DI (DS prog w) A (call (.type "set") [.ref l]) Q E s:=by
 obtain ⟨c,tl,hmro⟩:=Fb.mro
 have hmade:=Fb.made
 have hsub:=Fb.sub
 refine MI (KP ?_)
 show DI _ _ (callAny (.type "set") _) _ _ _
 refine De ⟨Js _ (by decide +kernel),EE LI ?_⟩
 rw[Lq (KQ "set" [.ref l] []) rfl]
 have h1:=Fb.notType
 have h2:=Fb.canCreate
 have hct:=Km (.ref l)
 repeat (any_goals (first | assumption | wp_step))
 have gd:(s.heap.push (aZ #[] 0 (.fresh 0 0 (!w.params.followText "set-order")))).objs.size=s.heap.objs.size+1:=E5 _ _
 refine HV (uC (w:=w) (.ref l) (E:=E) (Q₁:=λobj s₁=>obj = .ref s.heap.objs.size/\s₁={ s with heap:=s.heap.push (aZ #[] 0 (.fresh 0 0 (!w.params.followText "set-order"))) }) ⟨rfl,rfl⟩) λr s₁ hr =>?_
 cases r with
 | error e=>exact hr
 | ok fl =>
  cases fl with
  | ret obj =>
   obtain ⟨rfl,rfl⟩:=hr
   generalize hled:(!w.params.followText "set-order")=led at gd ⊢
   have hS:(s.heap.push (aZ #[] 0 (.fresh 0 0 led))).get? s.heap.objs.size=some (aZ #[] 0 (.fresh 0 0 led)):=Dn _ rfl
   have hT:Shared.TypeIs { s with heap:=s.heap.push (aZ #[] 0 (.fresh 0 0 led)) } (.ref s.heap.objs.size) "set" :=⟨_,hS,rfl⟩
   have hli:=Fb.init.lookup
   have hbi:=Fb.init.bind (.ref s.heap.objs.size)
   repeat (any_goals (first | assumption | wp_step))
   refine HV (K3 (R:=wants (λr s₂=>r = .none/\∃h' es tk,s₂={ s with heap:=h',toks:=tk }/\s.toks<=tk ∧
     dJ w h' s.heap.objs.size es/\Good kd h' es ks ∧
     (∀b o,s.heap.get? b=some o->h'.get? b=some o)) E) Fb.init.plain L5 (check_set_init_1 hT ?_)) λr₂ s₂ hr₂ =>?_
   ·obtain ⟨ol,hol,hcl,nl,hdl⟩:=id hl
    obtain ⟨ocls,odict,odata,oslots⟩:=ol
    simp only at hcl hdl
    subst hcl;subst hdl
    have hol':(s.heap.push (aZ #[] 0 (.fresh 0 0 led))).get? l=some { cls :=.type "tuple",dict:=odict,data :=.seq items nl,slots:=oslots }:=C7 _ hol
    have hsls:=sub_tuple_set
    have hslf:=sub_tuple_frozenset
    have hne:(E1 "tuple" == E1 "dict")=false:=by decide
    have hl1:(s.heap.push (aZ #[] 0 (.fresh 0 0 led))).IsTuple l items:=⟨_,hol',rfl,nl,rfl⟩
    unfold Builtin.«set.__init__» noKeywords Builtin.Frozenset.updateFrom
    generalize hPI:pyIter=PI
    wp_walk
    subst hPI
    refine F0 hl1 ?_
    refine C5 (G2 ?_)
    have hlS:l<s.heap.objs.size:=Ds hol
    have hh3:A.in1.in1.in1.handled=none:=by simp[hh]
    have hneI:l≠(s.heap.push (aZ #[] 0 (.fresh 0 0 led))).objs.size:=by
     rw[gd];exact Dw (EH hlS)
    have hSf:s.heap.objs.size∉[(s.heap.push (aZ #[] 0 (.fresh 0 0 led))).objs.size,l]:=by
     rw[gd];simp only[Dx,DD,GZ,or_false,not_or]
     exact ⟨Dw (Fc _),FV hlS⟩
    refine qW (kd:=kd) ((Mk hh3 _ l hneI items).toS) hrm (λi s' st =>?hI) s.heap.objs.size hSf DA ks hz hb (items.size-0) 0 _ #[] (by lia) (D5 _)
     ⟨⟨_,Dn _ rfl,rfl,rfl⟩,(hl1.push _)⟩ ?hv (by subst hled;exact ma (C7 _ hS)) (Good.nil _) ?hR
    case hI =>
     obtain ⟨o,ho,hc,_⟩:=st.1
     exact ⟨o,ho,by rw[hc];decide⟩
    case hv =>
     intro j v hv
     obtain ⟨q,e,x⟩:=hi j v hv
     exact ⟨q,e,kd.keeps x λb o _ e=>C7 _ (C7 _ e)⟩
    case hR =>
     intro s' es' hm hS' hG'
     obtain ⟨h',g',d',tk',os'⟩:=s'
     have eg:g'=s.gens:=hm.gens
     have ed:d'=s.drawn:=hm.drawn
     have eo:os'=s.os:=hm.os
     subst eg;subst ed;subst eo
     show DI _ _ _ _ _ _
     refine De ?_
     show DI _ _ (ret E9) _ _ _
     refine De ⟨rfl,h',es',tk',rfl,hm.toks,hS',hG',λb o e =>?_⟩
     have hbb:=Ds e
     have hb1:b≠s.heap.objs.size:=Dw hbb
     have hb2:b≠(s.heap.push (aZ #[] 0 (.fresh 0 0 led))).objs.size:=by
      rw[gd];exact Dw (EH hbb)
     exact hm.heap b o (by simp only[Dx,DD,GZ,or_false,not_or];exact ⟨hb1,hb2⟩) (C7 _ (C7 _ e))
   ·cases r₂ with
    | error e=>exact hr₂
    | ok fl₂ =>
     cases fl₂ with
     | ret r =>
      obtain ⟨rfl,h',es,tk,rfl,htk,hS',hG',hk'⟩:=hr₂
      repeat (any_goals (first | assumption | wp_step))
      exact h _ _ _ htk hS' hG' hk'
     | _=>exact hr₂.elim
  | _=>exact hr.elim
end
section
variable  {prog:DH}{w:Eb}{A:Ep}{E:C9->Dg->Prop}{s:Dg}
set_option maxHeartbeats 3200000 in
theorem call_set_list {κ:Type}{kd:Kd prog w κ}{l:Addr}{items:Array C9}{ks:List κ}{Q:C9->Dg->Prop}
  (hh:A.handled=none) (hrm:kd.room A.in1.in1.in1) (hl:s.heap.IsList l items) (hz:items.size=ks.length) (hi:∀(i:Nat) v,items[i]? = some v->∃q,ks[i]? = some q/\kd.El s.heap v q) (hb:items.size<300)
  (h:∀(h':Heap) (es:Array (Int×C9)) (tk:Nat),s.toks<=tk->dJ w h' s.heap.objs.size es->Good kd h' es ks →
   (∀b o,s.heap.get? b=some o->h'.get? b=some o)->Q (.ref s.heap.objs.size) { s with heap:=h',toks:=tk }) :
  DI (DS prog w) A (call (.type "set") [.ref l]) Q E s:=by
 obtain ⟨c,tl,hmro⟩:=Fb.mro
 have hmade:=Fb.made
 have hsub:=Fb.sub
 refine MI (KP ?_)
 show DI _ _ (callAny (.type "set") _) _ _ _
 refine De ⟨Js _ (by decide +kernel),EE LI ?_⟩
 rw[Lq (KQ "set" [.ref l] []) rfl]
 have h1:=Fb.notType
 have h2:=Fb.canCreate
 have hct:=Km (.ref l)
 repeat (any_goals (first | assumption | wp_step))
 have gd:(s.heap.push (aZ #[] 0 (.fresh 0 0 (!w.params.followText "set-order")))).objs.size=s.heap.objs.size+1:=E5 _ _
 refine HV (uC (w:=w) (.ref l) (E:=E) (Q₁:=λobj s₁=>obj = .ref s.heap.objs.size/\s₁={ s with heap:=s.heap.push (aZ #[] 0 (.fresh 0 0 (!w.params.followText "set-order"))) }) ⟨rfl,rfl⟩) λr s₁ hr =>?_
 cases r with
 | error e=>exact hr
 | ok fl =>
  cases fl with
  | ret obj =>
   obtain ⟨rfl,rfl⟩:=hr
   generalize hled:(!w.params.followText "set-order")=led at gd ⊢
   have hS:(s.heap.push (aZ #[] 0 (.fresh 0 0 led))).get? s.heap.objs.size=some (aZ #[] 0 (.fresh 0 0 led)):=Dn _ rfl
   have hT:Shared.TypeIs { s with heap:=s.heap.push (aZ #[] 0 (.fresh 0 0 led)) } (.ref s.heap.objs.size) "set" :=⟨_,hS,rfl⟩
   have hli:=Fb.init.lookup
   have hbi:=Fb.init.bind (.ref s.heap.objs.size)
   repeat (any_goals (first | assumption | wp_step))
   refine HV (K3 (R:=wants (λr s₂=>r = .none/\∃h' es tk,s₂={ s with heap:=h',toks:=tk }/\s.toks<=tk ∧
     dJ w h' s.heap.objs.size es/\Good kd h' es ks ∧
     (∀b o,s.heap.get? b=some o->h'.get? b=some o)) E) Fb.init.plain L5 (check_set_init_1 hT ?_)) λr₂ s₂ hr₂ =>?_
   ·obtain ⟨ol,hol,hcl,nl,hdl⟩:=id hl
    obtain ⟨ocls,odict,odata,oslots⟩:=ol
    simp only at hcl hdl
    subst hcl;subst hdl
    have hol':(s.heap.push (aZ #[] 0 (.fresh 0 0 led))).get? l=some { cls :=.type "list",dict:=odict,data :=.seq items nl,slots:=oslots }:=C7 _ hol
    have hsls:=PySem.F.sub_list_set
    have hslf:=PySem.F.sub_list_frozenset
    have hne:(E1 "list" == E1 "dict")=false:=by decide
    have hl1:(s.heap.push (aZ #[] 0 (.fresh 0 0 led))).IsList l items:=⟨_,hol',rfl,nl,rfl⟩
    unfold Builtin.«set.__init__» noKeywords Builtin.Frozenset.updateFrom
    generalize hPI:pyIter=PI
    wp_walk
    subst hPI
    refine Hv hl1 ?_
    refine C5 (G2 ?_)
    have hlS:l<s.heap.objs.size:=Ds hol
    have hh3:A.in1.in1.in1.handled=none:=by simp[hh]
    have hneI:l≠(s.heap.push (aZ #[] 0 (.fresh 0 0 led))).objs.size:=by
     rw[gd];exact Dw (EH hlS)
    have hSf:s.heap.objs.size∉[(s.heap.push (aZ #[] 0 (.fresh 0 0 led))).objs.size,l]:=by
     rw[gd];simp only[Dx,DD,GZ,or_false,not_or]
     exact ⟨Dw (Fc _),FV hlS⟩
    refine qW (kd:=kd) ((Walks.list hh3 _ l hneI items).toS) hrm (λi s' st =>?hI) s.heap.objs.size hSf DA ks hz hb (items.size-0) 0 _ #[] (by lia) (D5 _)
     ⟨⟨_,Dn _ rfl,rfl,rfl⟩,(hl1.push _)⟩ ?hv (by subst hled;exact ma (C7 _ hS)) (Good.nil _) ?hR
    case hI =>
     obtain ⟨o,ho,hc,_⟩:=st.1
     exact ⟨o,ho,by rw[hc];decide⟩
    case hv =>
     intro j v hv
     obtain ⟨q,e,x⟩:=hi j v hv
     exact ⟨q,e,kd.keeps x λb o _ e=>C7 _ (C7 _ e)⟩
    case hR =>
     intro s' es' hm hS' hG'
     obtain ⟨h',g',d',tk',os'⟩:=s'
     have eg:g'=s.gens:=hm.gens
     have ed:d'=s.drawn:=hm.drawn
     have eo:os'=s.os:=hm.os
     subst eg;subst ed;subst eo
     show DI _ _ _ _ _ _
     refine De ?_
     show DI _ _ (ret E9) _ _ _
     refine De ⟨rfl,h',es',tk',rfl,hm.toks,hS',hG',λb o e =>?_⟩
     have hbb:=Ds e
     have hb1:b≠s.heap.objs.size:=Dw hbb
     have hb2:b≠(s.heap.push (aZ #[] 0 (.fresh 0 0 led))).objs.size:=by
      rw[gd];exact Dw (EH hbb)
     exact hm.heap b o (by simp only[Dx,DD,GZ,or_false,not_or];exact ⟨hb1,hb2⟩) (C7 _ (C7 _ e))
   ·cases r₂ with
    | error e=>exact hr₂
    | ok fl₂ =>
     cases fl₂ with
     | ret r =>
      obtain ⟨rfl,h',es,tk,rfl,htk,hS',hG',hk'⟩:=hr₂
      repeat (any_goals (first | assumption | wp_step))
      exact h _ _ _ htk hS' hG' hk'
     | _=>exact hr₂.elim
  | _=>exact hr.elim
end
namespace F9
theorem fI:Slot "set_iterator" "__next__" "set_iterator.__next__" :=
 .of (owner := "set_iterator") (n := "__next__") (by rw[FY,EY];kernel_rfl) (by decide +kernel) (by decide +kernel) (by decide +kernel)
  (by first | exact .inl (by decide +kernel) | exact .inr (by decide +kernel)) (by rw[FE];kernel_rfl)
theorem nB:entryFor table "set_iterator.__next__" = some Builtin.«set_iterator.__next__» := Ki (by kernel_rfl)
theorem pM (a:C9):argsOk "set_iterator.__next__" ⟨[a],[]⟩:=by
 unfold argsOk;kernel_rfl
theorem me:entryFor table "set.__iter__" = some Builtin.«frozenset.__iter__» :=
 entryFor_alias (id' := "frozenset.__iter__") (by kernel_rfl) rfl (by decide +kernel) (by kernel_rfl)
end F9
theorem mf {α:Type}:∀(l:List α) (i:Nat) (x:α),l[i]? = some x->(x :: l.eraseIdx i).Perm l
 | [],i,x,h=>by simp at h
 | y :: l,0,x,h=>by simp at h;subst h;exact HH _
 | y :: l,i+1,x,h=>by
  rw[Gh] at h
  rw[Ib]
  exact (List.Perm.swap y x _).trans (List.Perm.cons y (mf l i x h))
theorem uD {α:Type}(next:Nat->Nat):∀(fuel k:Nat) (left:List α) (out:Array α),left.length=fuel->(pickOrder.go next fuel k left out).toList.Perm (out.toList++left)
 | 0,k,left,out,h=>by
  have:left=[]:=Ff.mp h
  subst this
  unfold pickOrder.go
  rw[DZ]
 | fuel+1,k,left,out,h=>by
  unfold pickOrder.go
  have hl:next k%left.length<left.length:=Io _ (by lia)
  have e:=Dc hl
  rw[e]
  dsimp only
  have ih:=uD next fuel (k+1) (left.eraseIdx (next k%left.length)) (out.push left[next k%left.length]) (by rw[KW,if_pos hl];lia)
  refine ih.trans ?_
  rw[FP,DQ]
  exact Fy _ (mf _ _ _ e)
theorem vT {α:Type}(next:Nat->Nat)(xs:Array α):(pickOrder next xs).toList.Perm xs.toList:=by
 unfold pickOrder
 have:=uD next xs.size 0 xs.toList #[] (by simp)
 simpa using this
section
variable  {prog:DH}{w:Eb}{A:Ep}{E:C9->Dg->Prop}{s:Dg}
def walkVals (w:Eb)(a:Addr)(es:Array (Int×C9))(ep:Nat):List C9 :=
 if w.params.followText "set-order" = true then (pickOrder (w.params.setOrder a ep) es).toList.map (·.2) else es.toList.map (·.2)
theorem oD (w:Eb)(a:Addr)(es:Array (Int×C9))(ep:Nat):(walkVals w a es ep).Perm (es.toList.map (·.2)):=by
 unfold walkVals
 split
 ·exact (vT _ _).map _
 ·exact HH _
theorem jM {Q:Bool->Dg->Prop}(h:Q (w.params.followText "set-order") s):DI (DS prog w) A setsByText Q E s:=by
 unfold setsByText
 exact C5 (Kh (De h))
theorem tw {a:Addr}{es:Array (Int×C9)}{ep:Nat}{t:SetTable}{Q:Option (C9×Nat)->Dg->Prop}(ho:s.heap.get? a=some (aZ es ep t))(T:Tab t (es.map (·.1)))(hl:t.led = !w.params.followText "set-order")(hp:t.plain=true){slot i:Nat}
  (hs:w.params.followText "set-order" = false->below t.place slot=i)
  (hy:∀x slot',(walkVals w a es ep)[i]? = some x->(w.params.followText "set-order" = false->below t.place slot'=i+1)->Q (some (x,slot')) s)
  (hn:(walkVals w a es ep)[i]? = none->Q none s):DI (DS prog w) A (setNext a slot i ep) Q E s:=by
 unfold setNext
 refine C5 (bU ho T ?_)
 dsimp only
 refine C5 (jM ?_)
 cases hb:w.params.followText "set-order" with
 | true =>
  rw[hb] at hs hy
  simp only[bne_self_eq_false,DJ,if_true,if_false]
  refine C5 ?_
  unfold setWalk
  refine C5 (bU ho T ?_)
  dsimp only
  refine C5 (jM ?_)
  rw[hb]
  simp only[if_true]
  refine C5 (Kh (De ?_))
  refine De ?_
  have ew:(walkVals w a es ep)[i]? = ((pickOrder (w.params.setOrder a ep) es)[i]?).map (·.2):=by
   unfold walkVals
   rw[if_pos hb,Dq,Dt]
  show Q (((pickOrder (w.params.setOrder a ep) es)[i]?).map λe=>(e.2,slot)) s
  cases hx:(pickOrder (w.params.setOrder a ep) es)[i]? with
  | none=>rw[hx] at ew;exact hn ew
  | some e=>rw[hx] at ew;exact hy _ _ ew (λq=>by cases q)
 | false =>
  have hs':=hs hb
  simp only[DJ,if_false]
  have ew:(walkVals w a es ep)[i]? = (es[i]?).map (·.2):=by
   unfold walkVals
   rw[if_neg (by rw[hb];exact Dv),Dq,Dt]
  show DI _ _ (if (!t.plain && decide (es.size>1))=true then _ else _) _ _ _
  rw[hp]
  simp only[E8,HG,DJ,if_false]
  refine C5 ?_
  show DI _ _ (if (!t.led && !es.isEmpty)=true then _ else _) _ _ _
  rw[hl,hb]
  simp only[K6,E8,HG,DJ,if_false]
  refine De ?_
  rw[hs']
  by_cases hi:i<es.size
  ·have ee:es[i]? = some es[i]:=DN hi
   have hpl:i<t.place.size:=by rw[T.size,Ey];exact hi
   have ep':t.place[i]? = some t.place[i]:=DN hpl
   rw[ee,ep']
   rw[ee] at ew
   exact De (hy _ _ ew λ_=>sT T.rise ep')
  ·have ee:es[i]? = none:=FL (by lia)
   rw[ee]
   rw[ee] at ew
   exact De (hn ew)
def jN (h:Heap)(it a:Addr)(slot i n ep:Nat):Prop:=h.get? it=some { cls :=.type "set_iterator",data :=.fields #[.int slot 0,.int i 0,.ref a,.int n 0,.int ep 0] }
theorem jN.typeIs {it a:Addr}{slot i n ep:Nat}(x:jN s.heap it a slot i n ep):s.TypeIs (.ref it) "set_iterator" :=⟨_,x,rfl⟩
end
open PySem PySem.SetTable PyProof.Rows
section
variable  {prog:DH}{w:Eb}{A:Ep}{E:C9->Dg->Prop}{s:Dg}
structure tD (w:Eb)(h:Heap)(it a:Addr)(es:Array (Int×C9))(ep i:Nat):Prop where
 st:∃t slot,h.get? a=some (aZ es ep t)/\Tab t (es.map (·.1))/\t.led=(!w.params.followText "set-order")/\t.plain=true/\(w.params.followText "set-order" = false->below t.place slot=i)/\jN h it a slot i es.size ep
theorem uE {it a:Addr}{es:Array (Int×C9)}{ep i:Nat}{Q:Option C9->Dg->Prop}(hh:A.handled=none)(hne:it≠a)(O:tD w s.heap it a es ep i)
  (hy:∀x h',(walkVals w a es ep)[i]? = some x->tD w h' it a es ep (i+1)->Heap.SameBut it s.heap h'->Q (some x) { s with heap:=h' })
  (hn:(walkVals w a es ep)[i]? = none->∀h',Heap.ExtBut it s.heap h'->Q none { s with heap:=h' }) :
  DI (DS prog w) A (pyNext (.ref it)) Q E s:=by
 obtain ⟨t,slot,ho,T,hl,hp,hs,hit⟩:=O.st
 have hf:t.fits es.size=true:=by have:=T.fits;rwa [Ey] at this
 unfold pyNext
 refine C5 (FT (EF (name:=Str.ofString "__next__") hit.typeIs F9.fI
  (Ei F9.fI hit.typeIs F9.nB ?_ (F9.pM _))))
 show DI _ _ (fieldsOf (.ref it) >>= _) _ _ s
 refine C5 (wpAny_fieldsOf hit rfl ?_)
 show DI _ _ (setEntries a >>= _) _ _ s
 refine C5 (Lj ho rfl hf ?_)
 rw[if_neg (by simp)]
 show DI _ _ (setNext a ((slot:Int).toNat) ((i:Int).toNat) ((ep:Int).toNat) >>= _) _ _ s
 rw[Fx,Fx,Fx]
 refine C5 (tw ho T hl hp hs (λx slot' ex hs' =>?_) λex =>?_)
 ·dsimp only
  refine C5 (Fp hit (by simp) λh1 e1 sb1 =>?_)
  refine C5 (Fp e1 (by simp) λh2 e2 sb2 =>?_)
  refine De ⟨x,rfl,De (hy x h2 ex ⟨t,slot',?_,T,hl,hp,hs',?_⟩ (sb1.trans sb2))⟩
  ·rw[(sb1.trans sb2).2 a (EB hne)];exact ho
  ·unfold jN
   rw[e2]
   simp[GN]
 ·dsimp only
  refine C5 (Fp hit (by simp) λh1 e1 sb1 =>?_)
  show DI _ _ (newExc (.type "StopIteration") [] >>= _) _ _ _
  refine C5 ?_
  simp only[newExc,newTuple]
  refine C5 (Ec ?_ (by size_fits))
  refine C5 (m:=firstArgMember _ _) (Ga (a:=E9) (by first | rfl | (simp only[firstArgMember];rfl)) ?_)
  refine Ec ?_ (by size_fits)
  simp only[raiseNew]
  refine C5 (Lz ?_)
  first | rw[show A.in1.handled=none from hh] | rw[hh]
  refine C5 (De (Ms ?_))
  refine C5 (FJ (T := "StopIteration") (b:=true) ⟨_,Dn _ rfl,rfl⟩ JF ?_)
  exact De (hn ex _ ((sb1.extBut.push _).push _))
theorem qX {it a S:Addr}{es:Array (Int×C9)}{ep:Nat}{res:C9}{R:Result->Dg->Prop}(hh:A.in1.handled=none)(hne:it≠a)(hSI:S≠it)(hSa:S≠a)(hz:es.size<300) :
  ∀(k i:Nat) (h:Heap) (acc:Array C9) (c:Nat),es.size-i=k->i<=es.size->tD w h it a es ep i->h.get? S=some { cls :=.type "list",dict:=none,data :=.seq acc c,slots := #[] }->acc.toList=(walkVals w a es ep).take i →
  (∀h' acc' c',(∀b o,b≠S->b≠it->h.get? b=some o->h'.get? b=some o)->h'.get? S=some { cls :=.type "list",dict:=none,data :=.seq acc' c',slots := #[] }->acc'.toList=walkVals w a es ep->R (.ok (.ret res)) { s with heap:=h' }) →
  Ji (DS prog w) A (.builtin "list.extend.loop" ⟨[.ref S,.ref it,res],[]⟩) R { s with heap:=h }:=by
 have lw:(walkVals w a es ep).length=es.size:=by rw[(oD w a es ep).length_eq,C6,Dl]
 have zl:300<=Dm:=by rw[F8];lia
 intro k
 induction k with
 | zero =>
  intro i h acc c hk hi O hS ha hR
  have hin:i=es.size:=by lia
  subst hin
  refine EE Lc ?_
  rw[Ex Gm _]
  show DI _ A.in1 (pyNext (.ref it) >>= _) _ _ { s with heap:=h }
  refine C5 (uE hh hne O (λx h' ex =>?_) λex h' xb =>?_)
  ·rw[FX (by lia)] at ex;cases ex
  ·refine De (hR h' acc c (λb o _ hb e=>xb b o hb e) (xb S _ hSI hS) ?_)
   rw[ha,Dr (by lia)]
 | succ k ih =>
  intro i h acc c hk hi O hS ha hR
  have hlt:i<es.size:=by lia
  refine EE Lc ?_
  rw[Ex Gm _]
  show DI _ A.in1 (pyNext (.ref it) >>= _) _ _ { s with heap:=h }
  refine C5 (uE hh hne O (λx h' ex O' sb =>?_) λex =>?_)
  ·have hS':h'.get? S=some { cls :=.type "list",dict:=none,data :=.seq acc c,slots := #[] }:=by rw[sb.2 S hSI];exact hS
   have hal:acc.size=i:=by rw[<- Dl,ha,Ew];lia
   show DI _ A.in1 (updateSeq S (·.push x) >>= _) _ _ _
   refine C5 ?_
   refine Gp (s:={ s with heap:=h' }) hS' rfl (De ⟨Fw Gm _,ih (i+1) _ (acc.push x) _ (by lia) hlt ?_ (EA _ hS' rfl) ?_ λh'' acc' c' kk hS'' ha' =>?_⟩)
    (by rw[hal];lia) (by show (acc.push x).size<=Dm+1;rw[GI,hal];lia)
   ·obtain ⟨t,slot,ho,T,hl,hp,hs,hit⟩:=O'.st
    exact ⟨t,slot,(Eh _ _ hSa).trans ho,T,hl,hp,hs,(Eh _ _ hSI).trans hit⟩
   ·rw[FP,ha,MB,ex];rfl
   ·refine hR h'' acc' c' (λb o hb hb2 e=>kk b o hb hb2 ?_) hS'' ha'
    refine (Eh _ _ (EB hb)).trans ?_
    rw[sb.2 b hb2];exact e
  ·rw[Dc (by lia)] at ex;cases ex
theorem qY {a:Addr}{es:Array (Int×C9)}{R:List C9->Dg->Prop}(hh:A.handled=none)(I:dJ w s.heap a es)(hz:es.size<300)
  (h:∀h1 vs,vs.Perm (es.toList.map (·.2))->(∀b o,s.heap.get? b=some o->h1.get? b=some o)->s.heap.objs.size<=h1.objs.size->R vs { s with heap:=h1 }) :
  DI (DS prog w) A (collect (.ref a)) R E s:=by
 obtain ⟨ep,t,ho,T,rm,hl,hp⟩:=I
 have hf:t.fits es.size=true:=by have:=T.fits;rwa [Ey] at this
 have hlt:=Ds ho
 unfold collect
 refine C5 (G2 (EE KA ?_))
 rw[Ex KC _]
 show DI _ A.in1 (newList [] >>= λl=>again (.builtin "list.__iadd__" ⟨[l,.ref a],[]⟩)) _ _ s
 refine C5 (Ec ?_)
 refine De ⟨Fw Ip _,EE LJ ?_⟩
 rw[Ex Ip _]
 show DI _ A.in1 (DT (.ref s.heap.objs.size) (.ref a) (.ref s.heap.objs.size)) _ _ _
 unfold DT
 have hSa:s.heap.objs.size≠a:=FV hlt
 have z1:(s.heap.push { cls :=.type "list",data :=.seq ([]:List C9).toArray }).objs.size=s.heap.objs.size+1:=E5 _ _
 have ho1:(s.heap.push { cls :=.type "list",data :=.seq ([]:List C9).toArray }).get? a=some (aZ es ep t):=C7 _ ho
 have hT1:Shared.TypeIs { s with heap:=s.heap.push { cls :=.type "list",data :=.seq ([]:List C9).toArray } } (.ref a) "set" :=⟨_,ho1,rfl⟩
 refine C5 (FC hT1 ?_)
 have h1:EW (.ref s.heap.objs.size) (.ref a)=false:=by simp[EW,hSa]
 have h2:(E1 "set" == E1 "list")=false:=by decide
 have h3:(E1 "set" == E1 "tuple")=false:=by decide
 simp only[h1,h2,h3,IQ,DJ,if_false]
 refine C5 (Ir hT1 Ml (Ei Ml hT1 F9.me ?_ (F.args_set_iter_1 _)))
 unfold Builtin.«frozenset.__iter__» Builtin.Frozenset.slot0 slotArgs
 simp only[List.isEmpty_nil,E8,DJ, ↓reduceIte,bind_assoc,ER,bne_self_eq_false]
 unfold Builtin.Frozenset.addrOf Builtin.Frozenset.sizeOf
 refine C5 (De ?_)
 try dsimp only
 refine C5 (De ?_)
 refine C5 (C5 (Lj ho1 rfl hf (De ?_)))
 refine C5 ?_
 unfold setDrawn
 refine C5 (bU ho1 T ?_)
 dsimp only
 refine C5 (jM ?_)
 show DI _ _ (pure (!w.params.followText "set-order" && (!t.plain && decide (es.size>1)))) _ _ _
 rw[hp]
 simp only[E8,HG,K5]
 refine De ?_
 simp only[DJ,if_false]
 refine C5 (De ?_)
 refine C5 (wpAny_setEpoch_of ho1 rfl hf ?_)
 refine C5 (Ec (De ⟨_,rfl, "set_iterator",_,⟨_,Dn _ rfl,rfl⟩,F9.fI.lookup,?_⟩))
 have zit:(s.heap.push { cls :=.type "list",data :=.seq ([]:List C9).toArray }).objs.size=s.heap.objs.size+1:=z1
 show DI _ A.in1 (Mu [.ref (s.heap.push { cls :=.type "list",data :=.seq ([]:List C9).toArray }).objs.size] (EJ (.ref a)) >>= _) _ _ { s with heap:=(s.heap.push { cls :=.type "list",data :=.seq ([]:List C9).toArray }).push { cls :=.type "set_iterator",data :=.fields #[GN 0,GN 0,.ref a,GN es.size,GN ep] } }
 rw[zit]
 generalize hH:(s.heap.push { cls :=.type "list",data :=.seq ([]:List C9).toArray }).push { cls :=.type "set_iterator",data :=.fields #[GN 0,GN 0,.ref a,GN es.size,GN ep] }=H
 have kH:∀b o,(s.heap.push { cls :=.type "list",data :=.seq ([]:List C9).toArray }).get? b=some o->H.get? b=some o:=λb o e=>by rw[<- hH];exact C7 _ e
 have zH:H.objs.size=s.heap.objs.size+2:=by rw[<- hH,E5,z1]
 have hit:jN H (s.heap.objs.size+1) a 0 0 es.size ep:=by
  unfold jN
  rw[<- hH, <- z1]
  exact Dn _ rfl
 have hT2:Shared.TypeIs { s with heap:=H } (.ref a) "set" :=⟨_,kH _ _ ho1,rfl⟩
 refine C5 (EU ?_)
 unfold EJ
 refine C5 (Fv hT2 F.slot_set_len.lookup ?_)
 dsimp only
 rw[show splitId "set.__len__" = some ("set", "__len__") by kernel_rfl]
 dsimp only
 refine C5 (FJ hT2 sub_set_self ?_)
 simp only[E8,DJ,if_false]
 show DI _ _ (typeOf (.ref a) >>= _) _ _ _
 refine C5 (FC hT2 ?_)
 refine De ?_
 show DI _ A.in1 (rule "list.extend.makes-room" >>= λ_=>Builtin.List.listTouch (.ref s.heap.objs.size) >>= λ_ =>
  again (.builtin "list.extend.loop" ⟨[.ref s.heap.objs.size,.ref (s.heap.objs.size+1),.ref s.heap.objs.size],[]⟩)) _ _ _
 refine C5 (FI ?_)
 have hS₁:H.get? s.heap.objs.size=some { cls :=.type "list",data :=.seq ([]:List C9).toArray }:=kH _ _ (Dn _ rfl)
 refine C5 ?_
 show DI _ A.in1 (updateSeq s.heap.objs.size (·.push .none) >>= λ_=>updateSeq s.heap.objs.size (·.pop)) _ _ _
 refine C5 (Gp (s:={ s with heap:=H }) hS₁ rfl ?_)
 have hS₂:=EA (Fh (·.push E9)) hS₁ rfl
 refine Gp hS₂ rfl ?_
 have hS₃:=EA (Fh (·.pop)) hS₂ rfl
 have oth:∀b o,b≠s.heap.objs.size->H.get? b=some o->((H.update s.heap.objs.size (Fh (·.push E9))).update s.heap.objs.size (Fh (·.pop))).get? b=some o :=
  λb o hb e=>(Eh _ _ (EB hb)).trans ((Eh _ _ (EB hb)).trans e)
 refine De ⟨Fw Gm _,qX (it:=s.heap.objs.size+1) (a:=a) (es:=es) (ep:=ep) (s:=s) hh (FV (EH hlt)) (Dw (Fc _)) hSa hz es.size 0 _ _ _ rfl (D5 _)
  ⟨t,0,oth a _ (EB hSa) (kH _ _ ho1),T,hl,hp,λ_=>sU T.rise,oth _ _ (FV (Fc _)) hit⟩ hS₃ rfl λh' acc' c' kk hS' ha =>?_⟩
 show DI _ A (load s.heap.objs.size >>= _) _ _ { s with heap:=h' }
 refine C5 (JS hS' ?_)
 have kf:∀b o,s.heap.get? b=some o->h'.get? b=some o:=λb o e=>by
  have:=Ds e
  exact kk b o (Dw this) (Dw (EH this)) (oth b o (Dw this) (kH b o (C7 _ e)))
 refine De ?_
 rw[ha]
 exact h h' _ (oD w a es ep) kf (Gv (Ds hS'))
end
open PySem PySem.SetTable PyProof.Rows Srt
def Kd.sub {prog:DH}{w:Eb}{κ:Type}(kd:Kd prog w κ)(M:C9->Prop):Kd prog w κ where
 El:=λh v k=>kd.El h v k/\M v
 hash:=kd.hash
 room:=kd.room
 keeps:=λx t=>⟨kd.keeps x.1 t,x.2⟩
 inj:=λx y=>kd.inj x.1 y.1
 add:=by
  intro A E s a es v k Q hr I els hv hz hin hnew
  refine kd.add hr I (λe he =>?_) hv.1 hz (λx tk htk=>hin ?_ tk htk) λx h' es' tk htk sb I' pm=>hnew ?_ h' es' tk htk sb I' pm
  ·obtain ⟨k',a1,a2,a3⟩:=els e he;exact ⟨k',a1,a2⟩
  ·obtain ⟨e,he,y⟩:=x
   obtain ⟨k',a1,a2,a3⟩:=els e he
   exact ⟨e,he,y,a3⟩
  ·rintro ⟨e,he,y,_⟩;exact x ⟨e,he,y⟩
section
variable  {prog:DH}{w:Eb}{A:Ep}{E:C9->Dg->Prop}{s:Dg}{O:ID}{key:C9->O.α}
theorem mh {a:Addr}{es:Array (Int×C9)}{Q:C9->Dg->Prop}(hh:A.handled=none)(I:dJ w s.heap a es)(hz:es.size<300)(C:∀vs:List C9,vs.Perm (es.toList.map (·.2))->iX prog w s vs O key)
  (h:∀(h':Heap) (p:Addr) (out:List C9) (n:Nat),(∀b o,s.heap.get? b=some o->h'.get? b=some o)->s.heap.objs.size<=p->h'.get? p=some (seqObj "list" out.toArray n)->out.Perm (es.toList.map (·.2))->out.Pairwise (λx y=>O.kle (key x) (key y))->Q (.ref p) { s with heap:=h' }) :
  DI (DS prog w) A (call (.builtin "sorted") [.ref a]) Q E s:=by
 refine GB Li KJ KL (KN _) ?_
 unfold Builtin.«sorted»
 refine C5 (m:=checkCount "sorted" 1 1 _) (De ?_)
 refine C5 (qY (by simpa using hh) I hz λh1 vs pv k1 z1 =>?_)
 have hz':vs.length<=Dm:=by
  rw[pv.length_eq,C6,Dl]
  have:300<=Dm:=by rw[F8];lia
  lia
 refine C5 (Ie ?_ hz')
 have hoL:(h1.push (seqObj "list" vs.toArray 0)).get? h1.objs.size=some (seqObj "list" vs.toArray 0):=Dn _ rfl
 have kL:∀b o,s.heap.get? b=some o->(h1.push (seqObj "list" vs.toArray 0)).get? b=some o:=λb o e=>C7 _ (k1 b o e)
 refine C5 (EU (Ei slot_list_sort ⟨_,hoL,rfl⟩ entry_list_sort (dD (key:=key) (O:=O) hoL hz' (λh2 h6 k6 =>?_) λout pm ps=>⟨_,rfl,?_⟩) (JG _)))
 ·exact (C vs pv).ok h2 _ h6 λb o e=>k6 b o (Dw (DC (Ds e) z1)) (kL b o e)
 ·obtain ⟨n,en⟩:=J6 (out:=out.toArray) hoL
  refine De ⟨_,rfl,h _ _ out n (λb o e =>?_) z1 en (pm.trans pv) ps⟩
  have lt:=DC (Ds e) z1
  rw[JH (Dw lt) (by rw[KR];exact EH lt)]
  exact kL b o e
end
end STab
namespace L2
open PySem PySem.Spec PyProof.Rows
section
variable  {X:Cx}
def dv (w:Eb)(a:Addr)(ys:List V):HO :=.ext λh=>∃es,STab.dJ w h a es/\Vals ys (es.toList.map (·.2))
theorem uF {prog:DH}{w:Eb}{H:Hp}{h:Heap}{a:Addr}{ys:List V}{es:Array (Int×C9)}(I:STab.dJ w h a es)(r:Vals ys (es.toList.map (·.2))):bB prog w (upd H a (dv w a ys)) h a (dv w a ys):=by
 refine ⟨⟨es,I,r⟩,?_,λh1 h2 ⟨es',I',r'⟩ k=>⟨es',I'.at k,r'⟩⟩
 obtain ⟨ep,t,ho,_⟩:=I
 exact ⟨_,ho⟩
theorem qZ:∀{ns:List Int} {xs:List C9} {prog:DH} {w:Eb},Gq xs ns->ItemsAre (intKind prog w) ns xs
 | _,_,_,_,.nil =>.nil
 | _,_,_,_,.cons n t r =>.cons (JT _ _ _ _) (qZ r)
theorem Inv.tk {pins:List (Addr×Obj)}{σ:St}{H:Hp}{s:Dg}(I:Inv X pins σ H s){b:Addr}{ns:List Int}(h:SqT X.K H b (ns.map V.int)):STab.TK X.prog X.w s.heap ns b:=by
 obtain ⟨its,r,⟨o,e,c,n,d⟩,_⟩:=I.tuple h
 exact ⟨o,_,n,e,c,d,qZ (by simpa using cp r)⟩
theorem pull {α β:Type}{f:α -> β}{ts:List α}:∀{l:List β},(∀v∈l,∃t∈ts,v=f t)->∃us:List α,l=us.map f/\∀t∈us,t∈ts
 | [],_=>⟨[],rfl,λt h=>by cases h⟩
 | v :: l,h=>by
  obtain ⟨t,ht,e⟩:=h v DA
  obtain ⟨us,e2,m⟩:=pull (l:=l) λv' hv=>h v' (DB _ hv)
  refine ⟨t :: us,by rw[DV, <- e, <- e2],λt' ht' =>?_⟩
  rcases Dx.mp ht' with rfl | h'
  ·exact ht
  ·exact m _ h'
theorem vU (hh:X.A.handled=none)(hu:X.A.units+64<cLine):bL X (.type "set") (λxs H Q=>∃(p:Addr) (ts:List (Addr×List Int)),xs=[.ref p]/\(SqL X.K H p (ts.map λt =>.ref t.1)\/SqT X.K H p (ts.map λt =>.ref t.1))/\(∀t∈ts,SqT X.K H t.1 (t.2.map V.int))/\ts.length<300 ∧
  ∀(a:Addr) (us:List (Addr×List Int)),H a=none->(∀t∈us,t∈ts)->(us.map (·.2)).Nodup->(∀t∈ts,t.2∈us.map (·.2))->us.length<=ts.length->Q (.ref a) (upd H a (dv X.w a (us.map λt =>.ref t.1)))):=by
 intro pins s σ H xs vs Q I r h
 obtain ⟨p,ts,rfl,hs,ht,hl,q⟩:=h
 obtain ⟨u,rfl,ru⟩:=vals1 r
 cases (show u=DG p from ru)
 have goal:∀(items:Array C9),items.toList=(ts.map λt=>DG t.1)->∀(h':Heap) (es:Array (Int×C9)) (tk:Nat),s.toks<=tk->STab.dJ X.w h' s.heap.objs.size es->STab.Good ((STab.ki X.prog X.w).sub (· ∈ items.toList)) h' es (ts.map (·.2)) →
   (∀b o,s.heap.get? b=some o->h'.get? b=some o)->EP X pins σ Q (.ref s.heap.objs.size) { s with heap:=h',toks:=tk }:=by
  intro items ei h' es tk _ S G k
  obtain ⟨us,eu,mu⟩:=pull (f:=λt:Addr×List Int=>DG t.1) (ts:=ts) (l:=es.toList.map (·.2)) (λv hv=>by
   obtain ⟨e,he,rfl⟩:=DR.mp hv
   obtain ⟨_,_,_,_,m⟩:=G.el e (D4.mp he)
   rw[ei] at m
   obtain ⟨t,ht',e'⟩:=DR.mp m
   exact ⟨t,ht',e'.symm⟩)
  have tk':∀t∈us,STab.TK X.prog X.w h' t.2 t.1:=λt m=>(I.tk (ht t (mu t m))).keep λb o _ e=>k b o e
  have elu:∀t∈us,((STab.ki X.prog X.w).sub (· ∈ items.toList)).El h' (.ref t.1) t.2:=λt m=>⟨⟨t.1,rfl,tk' t m⟩,by
   rw[ei];exact DR.mpr ⟨t,mu t m,rfl⟩⟩
  have nd:(us.map (·.2)).Nodup:=by
   have d:=G.dis
   have d2:(es.toList.map (·.2)).Pairwise (λv v'=>∀k,((STab.ki X.prog X.w).sub (· ∈ items.toList)).El h' v k->¬ ((STab.ki X.prog X.w).sub (· ∈ items.toList)).El h' v' k):=by
    rw[Eu];exact d
   rw[eu,Eu] at d2
   unfold List.Nodup
   rw[Eu]
   refine d2.imp_of_mem λ{t t'} m m' x e=>x t.2 (elu t m) ?_
   have:=elu t' m'
   rw[<- e] at this
   exact this
  have cov:∀t∈ts,t.2∈us.map (·.2):=λt m=>by
   obtain ⟨e,he,x,_⟩:=G.all t.2 (DR.mpr ⟨t,m,rfl⟩)
   have:e.2∈us.map λt=>DG t.1:=by rw[<- eu];exact DR.mpr ⟨e,D4.mpr he,rfl⟩
   obtain ⟨u,hu',e'⟩:=DR.mp this
   obtain ⟨b,eb,x⟩:=x
   rw[<- e'] at eb
   injection eb with eb
   subst eb
   exact DR.mpr ⟨u,hu',(tk' u hu').inj x⟩
  have hlen:us.length<=ts.length:=by
   have:=G.len
   rw[C6] at this
   have e2:=congrArg List.length eu
   rw[C6,C6,Dl] at e2
   lia
  refine ⟨.ref s.heap.objs.size,_,I.laid k (Dd _) (uF (ys:=us.map λt=>V.ref t.1) S (by rw[eu];exact eR)),rfl,q _ us (I.hok.fresh (Dd _)) mu nd cov hlen⟩
 have rm:((STab.ki X.prog X.w).sub (λv=>True)).room X.A.in1.in1.in1:=by show X.A.units+1+1+1<cLine;lia
 have itm:∀(its:List C9),its=(ts.map λt=>DG t.1)->∀(i:Nat) (v:C9),its.toArray[i]? = some v->∃q,(ts.map (·.2))[i]? = some q/\((STab.ki X.prog X.w).sub (· ∈ its.toArray.toList)).El s.heap v q:=by
  intro its ei i v hv
  rw[DX,ei,Dq] at hv
  cases ht':ts[i]? with
  | none=>rw[ht'] at hv;cases hv
  | some t =>
   rw[ht'] at hv
   cases hv
   have m:=Dp ht'
   refine ⟨t.2,by rw[Dq,ht'];rfl,⟨t.1,rfl,I.tk (ht t m)⟩,?_⟩
   show DG t.1∈its
   rw[ei]
   exact DR.mpr ⟨t,m,rfl⟩
 rcases hs with hs | hs
 ·obtain ⟨its,rv,⟨o,n,e,c,dn,d⟩,z⟩:=I.list hs
  have ei:=dQ rv
  have lz:its.length=ts.length:=by rw[ei,C6]
  refine STab.call_set_list (kd:=(STab.ki X.prog X.w).sub (· ∈ its.toArray.toList)) (items:=its.toArray) (ks:=ts.map (·.2)) hh rm ⟨o,e,c,n,d⟩ (by simp[lz]) (λi v hv =>?_) (by simpa [lz] using hl) (goal its.toArray (by simpa using ei))
  exact itm its ei i v hv
 ·obtain ⟨its,rv,⟨o,e,c,n,d⟩,z⟩:=I.tuple hs
  have ei:=dQ rv
  have lz:its.length=ts.length:=by rw[ei,C6]
  refine STab.gm (kd:=(STab.ki X.prog X.w).sub (· ∈ its.toArray.toList)) (items:=its.toArray) (ks:=ts.map (·.2)) hh rm ⟨o,e,c,n,d⟩ (by simp[lz]) (λi v hv =>?_) (by simpa [lz] using hl) (goal its.toArray (by simpa using ei))
  exact itm its ei i v hv
theorem vV (hh:X.A.handled=none):bL X (.type "set") (λxs H Q=>∃(p:Addr) (ns:List Int),xs=[.ref p]/\(SqL X.K H p (ns.map V.int)\/SqT X.K H p (ns.map V.int))/\ns.length<300 ∧
  ∀(a:Addr) (us:List Int),H a=none->(∀k,k∈us↔k∈ns)->us.Nodup->us.length<=ns.length->Q (.ref a) (upd H a (dv X.w a (us.map V.int)))):=by
 intro pins s σ H xs vs Q I r h
 obtain ⟨p,ns,rfl,hs,hl,q⟩:=h
 obtain ⟨u,rfl,ru⟩:=vals1 r
 cases (show u=DG p from ru)
 have goal:∀(h':Heap) (es:Array (Int×C9)) (tk:Nat),s.toks<=tk->STab.dJ X.w h' s.heap.objs.size es->STab.Good (STab.uB X.prog X.w) h' es ns →
   (∀b o,s.heap.get? b=some o->h'.get? b=some o)->EP X pins σ Q (.ref s.heap.objs.size) { s with heap:=h',toks:=tk }:=by
  intro h' es tk _ S G k
  have sh:∀v∈es.toList.map (·.2),∃k t,v=EL k t:=λv hv=>by
   obtain ⟨e,he,rfl⟩:=DR.mp hv
   obtain ⟨k',_,_,t,e'⟩:=G.el e (D4.mp he)
   exact ⟨k',t,e'⟩
  have ru:=dI (dB sh)
  have mem:∀k,k∈(es.toList.map (·.2)).map Srt.intOf↔k∈ns:=λk=>by
   constructor
   ·intro m
    obtain ⟨v,hv,rfl⟩:=DR.mp m
    obtain ⟨e,he,rfl⟩:=DR.mp hv
    obtain ⟨k',mk,_,t,e'⟩:=G.el e (D4.mp he)
    rw[e'];exact mk
   ·intro m
    obtain ⟨e,he,t,e'⟩:=G.all k m
    exact DR.mpr ⟨e.2,DR.mpr ⟨e,D4.mpr he,rfl⟩,by rw[e'];rfl⟩
  have nd:((es.toList.map (·.2)).map Srt.intOf).Nodup:=by
   unfold List.Nodup
   rw[Eu,Eu]
   refine G.dis.imp_of_mem λ{e e'} m m' x y =>?_
   obtain ⟨k1,_,_,t1,e1⟩:=G.el e (D4.mp m)
   obtain ⟨k2,_,_,t2,e2⟩:=G.el e' (D4.mp m')
   rw[e1,e2] at y
   have y':k1=k2:=y
   subst y'
   exact x k1 ⟨t1,e1⟩ ⟨t2,e2⟩
  refine ⟨.ref s.heap.objs.size,_,I.laid k (Dd _) (uF S ru),rfl,q _ _ (I.hok.fresh (Dd _)) mem nd (by rw[C6,C6,Dl];exact G.len)⟩
 have itm:∀(its:List C9),Vals (ns.map V.int) its->∀(i:Nat) (v:C9),its.toArray[i]? = some v->∃q,ns[i]? = some q/\(STab.uB X.prog X.w).El s.heap v q:=by
  intro its rv i v hv
  have hI:=cp rv
  obtain ⟨t,e⟩:=IntsAre.int_at hI i v (by rw[DX] at hv;exact hv)
  have hlt:i<ns.length:=by
   have:=hI.length
   rw[DX] at hv
   have:=(Di.mp hv).1
   lia
  refine ⟨ns.getD i 0,?_,t,e⟩
  rw[Du,Dc hlt]
  rfl
 rcases hs with hs | hs
 ·obtain ⟨its,rv,⟨o,n,e,c,dn,d⟩,z⟩:=I.list hs
  have lz:its.length=ns.length:=by have:=rv.length;rw[C6] at this;exact this.symm
  exact STab.call_set_list (kd:=STab.uB X.prog X.w) (items:=its.toArray) (ks:=ns) hh trivial ⟨o,e,c,n,d⟩ (by simp[lz]) (itm its rv) (by simpa [lz] using hl) goal
 ·obtain ⟨its,rv,⟨o,e,c,n,d⟩,z⟩:=I.tuple hs
  have lz:its.length=ns.length:=by have:=rv.length;rw[C6] at this;exact this.symm
  exact STab.gm (kd:=STab.uB X.prog X.w) (items:=its.toArray) (ks:=ns) hh trivial ⟨o,e,c,n,d⟩ (by simp[lz]) (itm its rv) (by simpa [lz] using hl) goal
theorem Inv.dv {pins:List (Addr×Obj)}{σ:St}{H:Hp}{s:Dg}(I:Inv X pins σ H s){a:Addr}{ys:List V}(h:H a=some (dv X.w a ys)):∃es,STab.dJ X.w s.heap a es/\Vals ys (es.toList.map (·.2)):=by
 exact (I.hok a _ h).1
theorem nC (hh:X.A.handled=none):bL X (.builtin "sorted") (λxs H Q=>∃(a:Addr) (ns:List Int),xs=[.ref a]/\H a=some (dv X.w a (ns.map V.int))/\ns.length<300/\∀(l:Addr) (out:List Int),H l=none->out.Perm ns->out.Pairwise (· <= ·)->Q (.ref l) (upd H l (.lst (out.map V.int)))):=by
 intro pins s σ H xs us Q I r h
 obtain ⟨a,ns,rfl,hs,hl,q⟩:=h
 obtain ⟨u,rfl,ru⟩:=vals1 r
 cases (show u=DG a from ru)
 obtain ⟨es,S,rv⟩:=I.dv hs
 have hI:=cp rv
 have lz:es.size=ns.length:=by have:=rv.length;simp at this;lia
 have sh:∀v∈es.toList.map (·.2),∃i t,v=EL i t:=λv hv=>Srt.gg hI v hv
 refine STab.mh (O:=Srt.pF) (key:=Srt.intOf) hh S (by lia) (λvs pv=>Srt.fF (dB λv hv=>sh v (pv.mem_iff.mp hv))) λh' l out m k hl' el pm ps =>?_
 have hO:=dB λv hv=>sh v (pm.mem_iff.mp hv)
 have pm':(out.map Srt.intOf).Perm ns:=by
  have:=pm.map Srt.intOf
  rw[Srt.ints_map hI] at this
  exact this
 have z:ns.length<=Dm:=by have:300<=Dm:=(by rw[F8];lia);lia
 refine ⟨.ref l,_,I.newList k hl' el (dI hO) (by rw[C6,pm'.length_eq];exact z),rfl,q l _ (I.hok.fresh hl') pm' ?_⟩
 refine Eu.mpr (ps.imp λ{x y} le =>?_)
 have le':decide (Srt.intOf y<Srt.intOf x)=false:=le
 have:=of_decide_eq_false le'
 lia
theorem nD (hh:X.A.handled=none):bL X (.builtin "sorted") (λxs H Q=>∃(a:Addr) (ts:List (Addr×List Int)),xs=[.ref a]/\H a=some (dv X.w a (ts.map λt =>.ref t.1))/\(∀t∈ts,SqT X.K H t.1 (t.2.map V.int)/\t.2≠[])/\ts.length<300 ∧
  ∀(l:Addr) (out:List (Addr×List Int)),H l=none->out.Perm ts->out.Pairwise (λa b=>HT.lexLt b.2 a.2=false)->Q (.ref l) (upd H l (.lst (out.map λt =>.ref t.1)))):=by
 intro pins s σ H xs us Q I r h
 obtain ⟨a,ts,rfl,hs,ht,hl,q⟩:=h
 obtain ⟨u,rfl,ru⟩:=vals1 r
 cases (show u=DG a from ru)
 obtain ⟨es,S,rv⟩:=I.dv hs
 have ei:=dQ rv
 have lz:es.size=ts.length:=by have:=rv.length;simp at this;lia
 have tup:∀t∈ts,Srt.cA s.heap (DG t.1) t.2:=λt hm=>by
  obtain ⟨jts,jr,⟨jo,je,jc,jn,jd⟩,_⟩:=I.tuple (ht t hm).1
  exact ⟨t.1,jo,_,jn,rfl,je,jc,jd,by simpa using cp jr⟩
 have hv:∀v∈es.toList.map (·.2),∃ns,Srt.cA s.heap v ns/\ns≠[]:=λv hv=>by
  rw[ei] at hv
  obtain ⟨t,hm,rfl⟩:=DR.mp hv
  exact ⟨t.2,tup t hm,(ht t hm).2⟩
 refine STab.mh (O:=Srt.lexOrd) (key:=Srt.du s.heap) hh S (by lia) (λvs pv=>Srt.iY λv hm=>hv v (pv.mem_iff.mp hm)) λh' l out m k hl' el pm ps =>?_
 rw[ei] at pm
 obtain ⟨out',pm',rfl⟩:=iu pm
 have z:ts.length<=Dm:=by have:300<=Dm:=(by rw[F8];lia);lia
 refine ⟨.ref l,_,I.newList k hl' el eR (by rw[C6,pm'.length_eq];exact z),rfl,q l _ (I.hok.fresh hl') pm' ?_⟩
 refine (Eu.mp ps).imp_of_mem λ{a b} ha hb le =>?_
 have le':HT.lexLt (Srt.du s.heap (DG b.1)) (Srt.du s.heap (DG a.1))=false:=le
 rw[(tup a (pm'.mem_iff.mp ha)).ints,(tup b (pm'.mem_iff.mp hb)).ints] at le'
 exact le'
end
section
variable  {X:Cx}{w:Eb}
theorem tE (hw:X.w=w)(hh:X.A.handled=none)(hu:X.A.units+64<cLine):bL X (.type "set") (λxs H Q=>∃(p:Addr) (ts:List (Addr×List Int)),xs=[.ref p]/\(SqL X.K H p (ts.map λt =>.ref t.1)\/SqT X.K H p (ts.map λt =>.ref t.1))/\(∀t∈ts,SqT X.K H t.1 (t.2.map V.int))/\ts.length<300 ∧
  ∀(a:Addr) (us:List (Addr×List Int)),H a=none->(∀t∈us,t∈ts)->(us.map (·.2)).Nodup->(∀t∈ts,t.2∈us.map (·.2))->us.length<=ts.length->Q (.ref a) (upd H a (dv w a (us.map λt =>.ref t.1)))):=by
 subst hw
 exact vU hh hu
theorem iw (hw:X.w=w)(hh:X.A.handled=none):bL X (.type "set") (λxs H Q=>∃(p:Addr) (ns:List Int),xs=[.ref p]/\(SqL X.K H p (ns.map V.int)\/SqT X.K H p (ns.map V.int))/\ns.length<300 ∧
  ∀(a:Addr) (us:List Int),H a=none->(∀k,k∈us↔k∈ns)->us.Nodup->us.length<=ns.length->Q (.ref a) (upd H a (dv w a (us.map V.int)))):=by
 subst hw
 exact vV hh
theorem mi (hw:X.w=w)(hh:X.A.handled=none):bL X (.builtin "sorted") (λxs H Q=>∃(a:Addr) (ns:List Int),xs=[.ref a]/\H a=some (dv w a (ns.map V.int))/\ns.length<300/\∀(l:Addr) (out:List Int),H l=none->out.Perm ns->out.Pairwise (· <= ·)->Q (.ref l) (upd H l (.lst (out.map V.int)))):=by
 subst hw
 exact nC hh
theorem mj (hw:X.w=w)(hh:X.A.handled=none):bL X (.builtin "sorted") (λxs H Q=>∃(a:Addr) (ts:List (Addr×List Int)),xs=[.ref a]/\H a=some (dv w a (ts.map λt =>.ref t.1))/\(∀t∈ts,SqT X.K H t.1 (t.2.map V.int)/\t.2≠[])/\ts.length<300 ∧
  ∀(l:Addr) (out:List (Addr×List Int)),H l=none->out.Perm ts->out.Pairwise (λa b=>HT.lexLt b.2 a.2=false)->Q (.ref l) (upd H l (.lst (out.map λt =>.ref t.1)))):=by
 subst hw
 exact nD hh
end
section
variable  {X:Cx}
def tBMT (r:V->List V->Hp->VK->Prop)(to:TE)(t:TA):TE:=λσ H Q=>to σ H λx H1=>(∃p xs,x = .ref p/\H1 p=some (.tup xs))/\t σ H1 λxs H2=>r x xs H2 Q
theorem xX {o e:Expr}{es:List Expr}{to:TE}{t:TA}{name:Str}{apos cpos:Pos}{id:String}{r:V->List V->Hp->VK->Prop}(slot:Slot "tuple" name id)(hty:typeOf (.builtin id)=pure (.type "method_descriptor"))(hm:MtR X id r)(ho:PE X o to)(ha:PA X (e :: es) t)
  (hbase:attributeBase o name X.env (eval o X.env)=eval o X.env:=by rfl)
  (hfew:((Ih cpos (Em (e :: es) X.env)).all (λx => !x.1) && (backToKw cpos (keywordEach [] X.env)).all (λx=>x.1.isSome)
   && decide ((e :: es).length+([]:List Keyword).length+(if ([]:List Keyword).isEmpty then 0 else 1)<30))=true:=by rfl)
  (hline:(apos.endLine == cpos.line)=true:=by rfl) (hs:Em (e :: es) X.env=(false,eval e X.env) :: Em es X.env:=by rfl) (hplain:(Ih cpos (Em es X.env)).any (·.1)=false:=by rfl) :
  PE X (.Call (.Attribute o name apos) (e :: es) [] cpos) (tBMT r to t):=by
 intro pins s σ H Q I h
 refine Kr hbase hfew hline rfl (thn (ho pins s σ H _ I h) λv s1 ⟨x,H1,I1,r1,ty,q1⟩ =>?_)
 obtain ⟨p,xs,rfl,hp⟩:=ty
 cases (show v=DG p from r1)
 obtain ⟨_,its,_,ob,e1,⟨c1,d1⟩,n,s1'⟩:=(show bB X.prog X.w H1 s1.heap p (.tup xs) from I1.hok p _ hp)
 refine ⟨"tuple",id,PySem.F.plainAttrs_tuple,slot,hty,⟨ob,e1,c1⟩,λa e=>by cases e;exact ⟨ob,e1,d1⟩,?_⟩
 have hA:=ha cpos pins s1 σ H1 _ I1 q1
 rw[hs] at hA ⊢
 refine Gr (by show (false || (Ih cpos (Em es X.env)).any (·.1))=false;rw[hplain] <;> rfl) (Hy ?_)
 exact thn hA λus s2 ⟨vs,H2,I2,r2,q2⟩=>hm pins s2 σ H2 (.ref p) vs _ us Q I2 rfl r2 q2
theorem gR:∀{ns:List Int} {xs:List C9} {prog:DH} {w:Eb},Gq xs ns->ItemsAre (intKind prog w) ns xs
 | _,_,_,_,.nil =>.nil
 | _,_,_,_,.cons n t r =>.cons (JT _ _ _ _) (gR r)
theorem Inv.tkA {pins:List (Addr×Obj)}{σ:St}{H:Hp}{s:Dg}(I:Inv X pins σ H s){b:Addr}{ns:List Int}(h:SqT X.K H b (ns.map V.int))(prog:DH)(w:Eb):IsTupleKey (intKind prog w) s.heap ns b:=by
 obtain ⟨its,r,⟨o,e,c,n,d⟩,_⟩:=I.tuple h
 exact ⟨o,_,n,e,c,d,gR (by simpa using intsAre_of r)⟩
theorem Inv.eqT {pins:List (Addr×Obj)}{σ:St}{H:Hp}{s:Dg}(I:Inv X pins σ H s){A:Ep}(hu:A.units<cLine){a b:Addr}{ns ms:List Int}(h1:SqT X.K H a (ns.map V.int))(h2:SqT X.K H b (ms.map V.int)):HW A s (.ref a) (.ref b) (decide (ns=ms)) :=
 λprog w E Q q=>Jx hu (I.tkA h1 prog w) (I.tkA h2 prog w) q
theorem iy:∀{ps:List (Addr×List Int)} {us:List C9},Vals (ps.map λx=>V.ref x.1) us->us=ps.map λx=>DG x.1
 | [],_,r=>by cases r;rfl
 | p :: ps,_,r=>by
  cases r with
  | cons h t=>rw[DV, <- iy t,show _=DG p.1 from h]
noncomputable def pN (ts:List (Addr×List Int))(m:List Int):C9->Bool:=λv=>decide (∃t∈ts,v = .ref t.1/\t.2=m)
theorem oE {pins:List (Addr×Obj)}{σ:St}{H:Hp}{s:Dg}(I:Inv X pins σ H s){ts:List (Addr×List Int)}(ht:∀t∈ts,SqT X.K H t.1 (t.2.map V.int)){m:List Int}{t:Addr×List Int}(hm:t∈ts):pN ts m (.ref t.1)=decide (t.2=m):=by
 unfold pN
 by_cases e:t.2=m
 ·rw[decide_eq_true e,decide_eq_true ⟨t,hm,rfl,e⟩]
 ·rw[decide_eq_false e,decide_eq_false]
  rintro ⟨t',m',e1,e2⟩
  injection e1 with e1
  have:=I.gK (ht t hm) (by rw[e1];exact ht t' m')
  have inj:Function.Injective V.int:=λa b h=>by injection h
  have:t.2=t'.2:=(List.map_inj_right (λx y h=>inj h)).mp this
  exact e (this.trans e2)
theorem ml {pins:List (Addr×Obj)}{σ:St}{H:Hp}{s:Dg}(I:Inv X pins σ H s){ts:List (Addr×List Int)}(ht:∀t∈ts,SqT X.K H t.1 (t.2.map V.int)){m:List Int}:∀us:List (Addr×List Int),(∀t∈us,t∈ts)->(us.map λt=>DG t.1).countP (pN ts m)=(us.map (·.2)).count m
 | [],_=>rfl
 | u :: us,h=>by
  rw[DV,DV,List.countP_cons,Jb,ml I ht us (λt hm=>h t (DB _ hm)),oE I ht (h u DA)]
  by_cases e:u.2=m
  ·rw[decide_eq_true e,e];simp
  ·rw[decide_eq_false e];simp[e]
theorem mq (hu:X.A.units+8<cLine):MtR X "tuple.count" (λx vs H Q=>∃(p b:Addr) (ts:List (Addr×List Int)) (m:List Int),x = .ref p/\vs=[.ref b]/\H p=some (.tup (ts.map λt =>.ref t.1))/\(∀t∈ts,H t.1=some (.tup (t.2.map V.int)))/\H b=some (.tup (m.map V.int))/\Q (.int ((ts.map (·.2)).count m:Nat)) H):=by
 intro pins s σ H x vs v us Q I rx rv h
 obtain ⟨p,b,ts,m,rfl,rfl,hp,ht,hb,q⟩:=h
 cases rx
 obtain ⟨u,rfl,ru⟩:=vals1 rv
 cases (show u=DG b from ru)
 have ht':∀t∈ts,SqT X.K H t.1 (t.2.map V.int):=λt hm=>SqT.of (ht t hm)
 obtain ⟨z,its,r,ob,e1,⟨c1,d1⟩,n,s1⟩:=(show bB X.prog X.w H s.heap p (.tup _) from I.hok p _ hp)
 have ei:=iy r
 obtain ⟨cls,dd,data,sl⟩:=ob
 simp only at c1 s1
 subst c1 s1
 refine IV HS ⟨_,e1,rfl⟩ PySem.F.entry_tuple_count (PySem.F.args_tuple_count_2 _ _) (SeqAt.tuple_countAt p its.toArray n dd sl (.ref b) (pN ts m)) ⟨e1,λy hy =>?_,?_⟩
 ·have hy':y∈its:=by simpa using hy
  rw[ei] at hy'
  obtain ⟨t,hm,rfl⟩:=DR.mp hy'
  rw[oE I ht' hm]
  exact I.eqT (by show X.A.units+1<cLine;lia) (ht' t hm) (SqT.of hb)
 ·rw[show its.toArray.toList=its from rfl,ei,ml I ht' ts (λt h=>h)]
  exact ⟨.int _,H,I.tok _,⟨_,rfl⟩,q⟩
end
end L2
namespace HT
open PySem PySem.Spec PyProof.Rows
section
variable  {prog:DH}{w:Eb}{A:Ep}{E:C9->Dg->Prop}{s:Dg}
theorem hJ {t sl:Addr}{items:Array C9}{vl vu:C9}{lo hi:Option Int}{Q:C9->Dg->Prop}(ht:IsTup s.heap t items)(hs:s.heap.IsSliceOf sl vl vu .none)(pl:IsPart vl lo)(pu:IsPart vu hi)
  (hw:sIx items.size 0 lo=0/\sIx items.size items.size hi=items.size) (h:Q (.ref t) s):DI (DS prog w) A (getItem (.ref t) (.ref sl)) Q E s:=by
 obtain ⟨os,hos,hcs,hds⟩:=id hs
 have hTs:s.TypeIs (.ref sl) "slice" :=⟨os,hos,hcs⟩
 unfold getItem
 try with_reducible refine EU ?_
 first | refine C5 (De ?_) | skip
 refine C5 (LN ht.typeIs (by decide) ?_)
 refine C5 (EF (name:=Str.ofString "__getitem__") ht.typeIs Et
  (Ei Et ht.typeIs entry_tuple_getitem ?_ (Ly _ _)))
 show DI _ _ (Builtin.Tuple.tupleItemsOf (.ref t) >>= _) _ _ s
 refine C5 (tupleItemsOf_ ht ?_)
 refine C5 (FC hTs ?_)
 rw[if_pos (by decide)]
 refine C5 (eO hs pl pu ?_)
 show DI _ _ (if (((sIx items.size 0 lo:Nat):Int) == 0 && (1:Int) == 1 && (sIx items.size items.size hi-sIx items.size 0 lo) == items.size)=true then _ else _) _ _ s
 rw[hw.1,hw.2,if_pos (by simp)]
 unfold Builtin.Tuple.tupleIsExact
 refine C5 (C5 (FC ht.typeIs (De ?_)))
 rw[if_pos (by decide)]
 exact C5 (FI (De ⟨_,rfl,De h⟩))
end
end HT
namespace L2
open PySem PySem.Spec PyProof.Rows
section
variable  {X:Cx}
theorem zU:SlR X (λx lo hi H Q=>∃a xs,x = .ref a/\SqT X.K H a xs/\((HT.sIx xs.length 0 lo=0/\HT.sIx xs.length xs.length hi=xs.length)->Q (.ref a) H) ∧
  (¬ (HT.sIx xs.length 0 lo=0/\HT.sIx xs.length xs.length hi=xs.length)->∀p,H p=none->Q (.ref p) (upd H p (.tup (dY xs lo hi))))):=by
 intro pins s σ H x v vl vu lo hi sl Q I rx hs pl pu h
 obtain ⟨a,xs,rfl,hx,q1,q2⟩:=h
 by_cases hw:HT.sIx xs.length 0 lo=0/\HT.sIx xs.length xs.length hi=xs.length
 ·cases rx
  obtain ⟨its,r,ht,hz⟩:=I.tuple hx
  have hlen:its.toArray.size=xs.length:=by rw[Dk];exact r.length.symm
  refine ⟨"tuple",_,Et.lookup,ht.typeIs,?_⟩
  exact HT.hJ ht hs pl pu (by rw[hlen];exact hw) ⟨.ref a,H,I,rfl,q1 hw⟩
 ·exact Bp pins s σ H _ v vl vu lo hi sl Q I rx hs pl pu ⟨a,xs,rfl,hx,hw,q2 hw⟩
theorem gp:bL X (.type "range") (λxs H Q=>∃n:Int,xs=[.int n]/\∀a,H a=none->Q (.ref a) (upd H a (.rng 0 n))):=by
 intro pins s σ H xs us Q I r h
 obtain ⟨n,rfl,q⟩:=h
 obtain ⟨u,rfl,⟨t,rfl⟩⟩:=vals1 r
 refine call_range_1 ?_
 exact ⟨.ref s.heap.objs.size,_,I.laid (o :=.rng 0 n) (λb ob q=>C7 _ q) (Dd _) ⟨_,_,_,Dn _ rfl⟩,rfl,q _ (I.hok.fresh (Dd _))⟩
end
section
variable  {prog:DH}{w:Eb}{A:Ep}{E:C9->Dg->Prop}{s:Dg}
theorem nE {R:List C9->Dg->Prop}{r:Addr}{n:Nat}{t u v:Tok}(hh:A.handled=none)(hr:IsRange s.heap r 0 n 1 t u v)(hn:n<=2 ^ 24)
    (h:∀(h1:Heap) (tk:Nat) (vs:List C9),vs.length=n->(∀(i:Nat) (x:C9),vs[i]? = some x->∃t,x = .int i t)->(∀b o,s.heap.get? b=some o->h1.get? b=some o)->R vs { s with heap:=h1,toks:=tk }) :
    DI (DS prog w) A (collect (.ref r)) R E s:=by
  have hlt:r<s.heap.objs.size:=Ds (show s.heap.get? r=some _ from hr)
  unfold collect
  refine C5 (G2 (EE Jc ?_))
  rw[Ex Jd _]
  show DI _ A.in1 (newList [] >>= λl=>again (.builtin "list.__iadd__" ⟨[l,.ref r],[]⟩)) _ _ s
  refine C5 (Ec ?_)
  refine De ⟨Fw GV _,EE JZ ?_⟩
  rw[Ex GV _]
  show DI _ A.in1 (DT (.ref s.heap.objs.size) (.ref r) (.ref s.heap.objs.size)) _ _ { s with heap:=s.heap.push { cls :=.type "list",data :=.seq ([]:List C9).toArray } }
  have hr1:IsRange (s.heap.push { cls :=.type "list",data :=.seq ([]:List C9).toArray }) r 0 n 1 t u v:=C7 _ hr
  have rs:Builtin.Range.rangeSize 0 (n:Int) 1=(n:Int):=by
    rw[Lw]
    split <;> lia
  have hlen24:n<=16777216:=hn
  have hS0:(s.heap.push { cls :=.type "list",data :=.seq ([]:List C9).toArray }).get? s.heap.objs.size=some { cls :=.type "list",data :=.seq #[] 0 }:=Dn _ rfl
  refine wpAny_extend_range (A:=A) (R:=λres s'=>match res with
      | .ok (.ret v)=>DI (DS prog w) A (match v with | .ref a=>(do match (← load a).data with | .seq xs _=>pure xs.toList | _=>unsupported "internal:collect") | _=>unsupported "internal:collect") R E s'
      | .ok _=>False
      | .error e=>E e s') (s:={ s with heap:=s.heap.push { cls :=.type "list",data :=.seq ([]:List C9).toArray } }) hh hr1 (small_one (by lia) (by lia) (by lia) (by lia)) rs hn s.heap.objs.size (.ref s.heap.objs.size) 0 hS0 λh' tk acc' c' kk hS' hacc =>?_
  show DI _ A (load s.heap.objs.size >>= _) _ _ { s with heap:=h',toks:=tk }
  refine C5 (JS hS' ?_)
  refine De (h h' tk acc'.toList (by rw[Dl];exact hacc.1) (λi x hx =>?_) λb o e=>kk b o (Dw (Ds e)) (C7 _ e))
  rw[Dt] at hx
  obtain ⟨t',e⟩:=hacc.2 i x hx
  exact ⟨t',by rw[e];simp⟩
theorem fT (r:Addr)(n:Nat)(t u v:Tok)(hn:n<=1000) :
  Meets (Builtin.«tuple.__new__» ⟨[.type "tuple",.ref r],[]⟩)
   (λA R s=>A.handled=none/\IsRange s.heap r 0 n 1 t u v/\∀(h':Heap) (tk:Nat) (vs:List C9),vs.length=n->(∀(i:Nat) (x:C9),vs[i]? = some x->∃t,x = .int i t)->(∀b o',s.heap.get? b=some o'->h'.get? b=some o')->R (.ok (.ret (.ref h'.objs.size))) { s with heap:=h'.push { cls :=.type "tuple",data :=.seq vs.toArray },toks:=tk }) :=
 .of_wp λprog w A R s h=>by
  obtain ⟨hp,g,d,tk,os⟩:=s;obtain ⟨hh,ht,h⟩:=h
  have hsub:=sub_tuple_self
  have hinit:=LO
  have hmh:=madeHere_tuple
  have hT:Shared.TypeIs ⟨hp,g,d,tk,os⟩ (.ref r) "range" :=⟨_,ht,rfl⟩
  wp_walk using FC hT,nE (by simpa using hh) ht (by lia)
  intro h' tk' vs lv hv hk
  show DI _ _ (Builtin.Tuple.tupleExact vs.toArray >>= λv=>ret v) _ _ _
  unfold Builtin.Tuple.tupleExact
  refine C5 (Ec ?_ (by show vs.toArray.size<=Dm;rw[Dk,lv];exact small hn))
  exact De ⟨_,rfl,h h' tk' vs lv hv hk⟩
end
section
variable  {X:Cx}
theorem mv:∀{vs:List C9},(∀(i:Nat) (x:C9),vs[i]? = some x->∃t,x=EL i t)->Vals ((Eo vs.length).map λi=>V.int (i:Nat)) vs:=by
 suffices h:∀(vs:List C9) (k:Nat),(∀(i:Nat) (x:C9),vs[i]? = some x->∃t,x=EL ((i+k:Nat):Int) t)->Vals ((List.range' k vs.length).map λi=>V.int (i:Nat)) vs by
  intro vs hv
  have:=h vs 0 hv
  rw[List.range_eq_range']
  exact this
 intro vs
 induction vs with
 | nil=>intro k _;exact .nil
 | cons x vs ih =>
  intro k hv
  rw[Dz,List.range'_succ,DV]
  refine .cons ?_ (ih (k+1) λi y hy =>?_)
  ·obtain ⟨t,e⟩:=hv 0 x rfl
   exact ⟨t,by rw[e,GO]⟩
  ·obtain ⟨t,e⟩:=hv (i+1) y (by rw[Gh];exact hy)
   exact ⟨t,by rw[e,show i+1+k=i+(k+1) by lia]⟩
theorem rf (hh:X.A.handled=none):bL X (.type "tuple") (λxs H Q=>∃(a:Addr) (n:Nat),xs=[.ref a]/\H a=some (.rng 0 n)/\n<=1000/\∀l,H l=none->Q (.ref l) (upd H l (.tup ((Eo n).map λi=>V.int (i:Nat))))):=by
 intro pins s σ H xs us Q I r h
 obtain ⟨a,n,rfl,ha,hn,q⟩:=h
 obtain ⟨u,rfl,ru⟩:=vals1 r
 cases (show u=DG a from ru)
 obtain ⟨t,u,v,e⟩:=(show bB X.prog X.w H s.heap a (.rng 0 n) from I.hok a _ ha)
 refine Jv KY (by decide) (JM _) (J0 _) (λobj=>Hx obj _) J1
  (fT a n t u v hn) ⟨by simpa using hh,e,λh' tk vs lv hv k=>⟨⟨_,Dn _ rfl,rfl⟩,?_⟩⟩
 have I1:Inv X pins σ H { s with heap:=h',toks:=tk }:=I.kept k
 have rv:=mv hv
 rw[lv] at rv
 exact ⟨.ref h'.objs.size,_,I1.laid (o :=.tup ((Eo n).map λi=>V.int (i:Nat))) (λb ob q=>C7 _ q) (Dd _) ⟨by rw[C6,Fg];exact small hn,vs,rv,dS.new _ _⟩,rfl,q _ (I1.hok.fresh (Dd _))⟩
end
section
variable  {κ:Type}[DecidableEq κ]
def bG (kvs:List (κ×V))(k:κ):Option V:=(kvs.find? λkv=>decide (kv.1=k)).map (·.2)
def putK (kvs:List (κ×V))(k:κ)(v:V):List (κ×V) :=
 if (kvs.any λkv=>decide (kv.1=k))=true then kvs.map (λkv=>if kv.1=k then (kv.1,v) else kv) else kvs++[(k,v)]
theorem b7 {p:κ×V}{r:List (κ×V)}{k:κ}(e:p.1=k):bG (p :: r) k=some p.2:=by simp[bG,Hi,e]
theorem b8 {p:κ×V}{r:List (κ×V)}{k:κ}(e:¬ p.1=k):bG (p :: r) k=bG r k:=by simp[bG,Hi,e]
theorem eV (k:κ):∀kvs:List (κ×V),(kvs.any λkv=>decide (kv.1=k))=(bG kvs k).isSome
 | []=>rfl
 | p :: r=>by
  rw[Ia]
  by_cases e:p.1=k
  ·simp only[b7 e,decide_eq_true e,Bool.true_or,Option.isSome_some]
  ·rw[b8 e,decide_eq_false e,MM];exact eV k r
theorem rh (k j:κ)(y:V):∀kvs:List (κ×V),bG (kvs.map λkv=>if kv.1=k then (kv.1,y) else kv) j=(bG kvs j).map λx=>if j=k then y else x
 | []=>rfl
 | p :: r=>by
  have ih:=rh k j y r
  rw[DV]
  by_cases h:p.1=k
  ·rw[if_pos h]
   by_cases e:p.1=j
   ·rw[b7 (p:=(p.1,y)) e,b7 e,GH,if_pos (e.symm.trans h)]
   ·rw[b8 (p:=(p.1,y)) e,b8 e,ih]
  ·rw[if_neg h]
   by_cases e:p.1=j
   ·rw[b7 (p:=p) e,b7 e,GH,if_neg (λz=>h (e.trans z))]
   ·rw[b8 (p:=p) e,b8 e,ih]
theorem oF (k j:κ)(y:V):∀kvs:List (κ×V),bG kvs k=none->bG (kvs++[(k,y)]) j=if j=k then some y else bG kvs j
 | [],_=>by
  by_cases e:k=j
  ·rw[if_pos e.symm];exact b7 (p:=(k,y)) e
  ·rw[if_neg (λz=>e z.symm)];exact b8 (p:=(k,y)) e
 | p :: r,hn=>by
  rw[Kc]
  have hk:¬ p.1=k:=λz=>by rw[b7 z] at hn;cases hn
  rw[b8 hk] at hn
  have ih:=oF k j y r hn
  by_cases e:p.1=j
  ·rw[b7 e,b7 e,if_neg (λz=>hk (e.trans z))]
  ·rw[b8 e,b8 e,ih]
theorem xY (kvs:List (κ×V))(k j:κ)(y:V):bG (putK kvs k y) j=if j=k then some y else bG kvs j:=by
 unfold putK
 by_cases a:(kvs.any λkv=>decide (kv.1=k))=true
 ·rw[if_pos a,rh]
  rw[eV] at a
  by_cases e:j=k
  ·obtain ⟨x,hx⟩:=GG.mp a
   rw[if_pos e,e,hx,GH,if_pos rfl]
  ·rw[if_neg e]
   cases bG kvs j with
   | none=>rfl
   | some x=>rw[GH,if_neg e]
 ·rw[if_neg a]
  refine oF k j y kvs ?_
  rw[eV] at a
  cases q:bG kvs k with
  | none=>rfl
  | some x=>rw[q] at a;exact (a rfl).elim
theorem eD (kvs:List (κ×V))(k:κ)(v:V):(putK kvs k v).length<=kvs.length+1:=by
 unfold putK
 split
 ·rw[C6];lia
 ·rw[C8,Dz,ER];lia
theorem ri {kvs:List (κ×V)}{k:κ}(v:V)(h:bG kvs k=none):putK kvs k v=kvs++[(k,v)]:=by
 unfold putK
 rw[eV,h]
 exact if_neg (by decide)
theorem jE.eX {o:Option V}{u:Option C9}(r:jE o u):o.isSome=u.isSome:=by
 cases o with
 | none=>cases u with
  | none=>rfl
  | some _=>exact (show False from r).elim
 | some _=>cases u with
  | none=>exact (show False from r).elim
  | some _=>rfl
theorem jE.getD {o:Option V}{u:Option C9}{d:V}{d':C9}(r:jE o u)(rd:RelV d d'):RelV (o.getD d) (u.getD d'):=by
 cases o with
 | none=>cases u with
  | none=>exact rd
  | some _=>exact (show False from r).elim
 | some _=>cases u with
  | none=>exact (show False from r).elim
  | some _=>exact r
theorem KV.val {kvs:List (κ×V)}{vs:List (κ×C9)}(r:KV kvs vs)(k:κ):jE (bG kvs k) (valueAt vs k):=by
 unfold KV at r
 induction r with
 | nil=>exact True.intro
 | @cons p q ps qs h t ih =>
  obtain ⟨h1,h2⟩:=h
  by_cases e:p.1=k
  ·have e':q.1=k:=h1.symm.trans e
   have b:valueAt (q :: qs) k=some q.2:=by simp[valueAt,Hi,e']
   rw[b7 e,b];exact h2
  ·have e':¬ q.1=k:=λz=>e (h1.trans z)
   have b:valueAt (q :: qs) k=valueAt qs k:=by simp[valueAt,Hi,e']
   rw[b8 e,b];exact ih
theorem KV.any {kvs:List (κ×V)}{vs:List (κ×C9)}(r:KV kvs vs)(k:κ):(kvs.any λkv=>decide (kv.1=k))=vs.any λkv=>decide (kv.1=k):=by
 unfold KV at r
 induction r with
 | nil=>rfl
 | cons h t ih=>rw[Ia,Ia,ih,h.1]
theorem KV.BO {kvs:List (κ×V)}{vs:List (κ×C9)}(r:KV kvs vs)(k:κ){y:V}{u:C9}(ry:RelV y u) :
  KV (kvs.map λkv=>if kv.1=k then (kv.1,y) else kv) (vs.map λkv=>if kv.1=k then (kv.1,u) else kv):=by
 unfold KV at r ⊢
 induction r with
 | nil=>exact .nil
 | @cons p q ps qs h t ih =>
  rw[DV,DV]
  refine .cons ?_ ih
  obtain ⟨h1,h2⟩:=h
  by_cases e:p.1=k
  ·rw[if_pos e,if_pos (h1.symm.trans e)];exact ⟨h1,ry⟩
  ·rw[if_neg e,if_neg (λz=>e (h1.trans z))];exact ⟨h1,h2⟩
theorem KV.put {kvs:List (κ×V)}{vs:List (κ×C9)}(r:KV kvs vs)(k:κ){y:V}{u:C9}(ry:RelV y u):KV (putK kvs k y) (stored vs k u):=by
 unfold putK stored
 rw[r.any k]
 by_cases e:(vs.any λkv=>decide (kv.1=k))=true
 ·rw[if_pos e,if_pos e];exact r.BO k ry
 ·rw[if_neg e,if_neg e];exact MS r ⟨rfl,ry⟩
theorem KV.length {kvs:List (κ×V)}{vs:List (κ×C9)}(r:KV kvs vs):kvs.length=vs.length:=Hn r
end
theorem kj {P:DH}{w:Eb}{k:Key}{u:C9}(r:RelV (kV k) u):(bD P w).is k u=true:=by
 cases k with
 | inl i=>obtain ⟨t,e⟩:=(show ∃t,u=EL i t from r);subst e;exact qv P w i t
 | inr x=>obtain ⟨t,e⟩:=(show ∃t,u=Value.str x t from r);subst e;exact qw P w x t
theorem oG {P:DH}{w:Eb}:∀{ks:List Key} {us:List C9},Vals (ks.map kV) us->ItemsAre (bD P w) ks us
 | [],_,r=>by rw[Kt] at r;cases r;exact .nil
 | k :: ks,_,r=>by
  rw[DV] at r
  cases r with
  | cons h t=>exact .cons (kj h) (oG t)
abbrev KT (H:Hp):List (List Key×V)->List (List Key×Addr×C9)->Prop:=Paired λp q=>p.1=q.1/\H q.2.1=some (.tup (p.1.map kV))/\RelV p.2 q.2.2
theorem KT.val {H:Hp}{kvs:List (List Key×V)}{xs:List (List Key×Addr×C9)}(r:KT H kvs xs)(k:List Key):jE (bG kvs k) ((atKey xs k).map (·.2)):=by
 induction r with
 | nil=>exact True.intro
 | @cons p q ps qs h t ih =>
  obtain ⟨h1,_,h2⟩:=h
  by_cases e:p.1=k
  ·have e':q.1=k:=h1.symm.trans e
   have b:atKey (q :: qs) k=some q.2:=by simp[atKey,Hi,e']
   rw[b7 e,b];exact h2
  ·have e':¬ q.1=k:=λz=>e (h1.trans z)
   have b:atKey (q :: qs) k=atKey qs k:=by simp[atKey,Hi,e']
   rw[b8 e,b];exact ih
theorem KT.BO {H:Hp}{kvs:List (List Key×V)}{xs:List (List Key×Addr×C9)}(r:KT H kvs xs)(k:List Key){y:V}{u:C9}(ry:RelV y u) :
  KT H (kvs.map λkv=>if kv.1=k then (kv.1,y) else kv) (xs.map (putAt k u)):=by
 induction r with
 | nil=>exact .nil
 | @cons p q ps qs h t ih =>
  rw[DV,DV]
  refine .cons ?_ ih
  obtain ⟨h1,h2,h3⟩:=h
  unfold putAt
  by_cases e:p.1=k
  ·rw[if_pos e,if_pos (h1.symm.trans e)];exact ⟨h1,h2,ry⟩
  ·rw[if_neg e,if_neg (λz=>e (h1.trans z))];exact ⟨h1,h2,h3⟩
theorem KT.put {H:Hp}{kvs:List (List Key×V)}{xs:List (List Key×Addr×C9)}(r:KT H kvs xs)(k:List Key){b:Addr}{y:V}{u:C9}(hb:H b=some (.tup (k.map kV)))(ry:RelV y u) :
  KT H (putK kvs k y) (storedH xs k b u):=by
 have e:(kvs.any λkv=>decide (kv.1=k))=(atKey xs k).isSome:=by
  rw[eV,(r.val k).eX,GJ]
 unfold putK storedH
 rw[e]
 by_cases q:(atKey xs k).isSome=true
 ·rw[if_pos q,if_pos q];exact r.BO k ry
 ·rw[if_neg q,if_neg q];exact MS r ⟨rfl,hb,ry⟩
theorem KT.keeps {H H':Hp}{kvs:List (List Key×V)}{xs:List (List Key×Addr×C9)}(r:KT H kvs xs)(ht:∀b ys,H b=some (.tup ys)->H' b=some (.tup ys)):KT H' kvs xs :=
 Paired.Bd r λ_ _ z=>⟨z.1,ht _ _ z.2.1,z.2.2⟩
section
variable  {P:DH}{w:Eb}{H:Hp}{h:Heap}{a:Addr}
theorem AO {u:HO}(ok:HOk P w H h)(e:Rd H a u):bB P w H h a u:=e.ok ok
theorem kq {kvs:List (Key×V)}(ok:HOk P w H h)(e:Rd H a (.dK kvs)):kvs.length<=Dm/\(a == sysModules)=false/\∃vs,KV kvs vs/\h.DictOf (bD P w) a vs :=
 show bB P w H h a (.dK kvs) from AO ok e
theorem uG {kvs:List (Key×V)}(ok:HOk P w H h)(e:H a=some (.dK kvs)):kvs.length<=Dm/\(a == sysModules)=false/\∃vs,KV kvs vs/\h.DictOf (bD P w) a vs:=kq ok (.inl e)
theorem jP {ks:List Key}(ok:HOk P w H h)(e:H a=some (.tup (ks.map kV))):(tupleKind (bD P w)).is h ks a:=by
 obtain ⟨_,its,r,o,h1,h2,n,h3⟩:=(show bB P w H h a (.tup (ks.map kV)) from ok a _ e)
 exact ⟨o,its.toArray,n,h1,h2.1,h3,by simpa using oG r⟩
theorem mw {kvs:List (List Key×V)}(ok:HOk P w H h)(e:Rd H a (.dT kvs)):kvs.length<=Dm/\(a == sysModules)=false ∧
  ∃xs,KT H kvs xs/\h.DictOfH (tupleKind (bD P w)) a xs:=by
 obtain ⟨z,y,xs,r,o,es,ep,h1,h2,h3,h4,h5⟩:=(show bB P w H h a (.dT kvs) from AO ok e)
 refine ⟨z,y,xs,r,o,es,ep,h1,h2,h3,h4,λx hx =>?_,h5⟩
 have all:∀{l:List (List Key×V)} {m:List (List Key×Addr×C9)},KT H l m->∀x∈m,(tupleKind (bD P w)).is h x.1 x.2.1:=by
  intro l m q
  induction q with
  | nil=>intro x hx;exact nomatch hx
  | @cons p q ps qs hq t ih =>
   intro x hx
   rcases Dx.mp hx with e | hx
   ·subst e
    exact jP ok (by rw[<- hq.1];exact hq.2.1)
   ·exact ih x hx
 exact all r x hx
theorem CG {kvs:List (List Key×V)}(ok:HOk P w H h)(e:H a=some (.dT kvs)):kvs.length<=Dm/\(a == sysModules)=false ∧
  ∃xs,KT H kvs xs/\h.DictOfH (tupleKind (bD P w)) a xs:=mw ok (.inl e)
end
def fJ (H:Hp)(a:Addr)(y:V)(r:Option V):Prop :=
 (∃kvs k,Rd H a (.dK kvs)/\y=kV k/\r=bG kvs k)\/∃kvs k b,Rd H a (.dT kvs)/\y = .ref b/\H b=some (.tup (k.map kV))/\r=bG kvs k
def rj (H:Hp)(a:Addr)(y v:V)(H':Hp):Prop :=
 (∃kvs k,H a=some (.dK kvs)/\y=kV k/\kvs.length<Dm/\H'=upd H a (.dK (putK kvs k v))) ∨
 ∃kvs k b,H a=some (.dT kvs)/\y = .ref b/\H b=some (.tup (k.map kV))/\kvs.length<Dm/\H'=upd H a (.dT (putK kvs k v))
theorem fJ.k {H:Hp}{a:Addr}{kvs:List (Key×V)}{k:Key}(e:H a=some (.dK kvs)):fJ H a (kV k) (bG kvs k) :=.inl ⟨kvs,k,.inl e,rfl,rfl⟩
theorem rj.k {H:Hp}{a:Addr}{kvs:List (Key×V)}{k:Key}{v:V}(e:H a=some (.dK kvs))(hl:kvs.length<Dm):rj H a (kV k) v (upd H a (.dK (putK kvs k v))) :=.inl ⟨kvs,k,e,rfl,hl,rfl⟩
section
variable  {X:Cx}{pins:List (Addr×Obj)}{σ:St}{H:Hp}{s:Dg}{a:Addr}{y v:V}{u r:C9}{o:Option V}{A:Ep}{E:C9->Dg->Prop}
theorem Inv.big (I:Inv X pins σ H s):sysModules<s.heap.objs.size:=by
 have h:En<s.heap.objs.size:=(I.mod.glob.keeps I.bk).lt
 exact Nat.lt_trans (by decide) h
theorem vW {Q:C9->Dg->Prop}(hu:A.units+1<cLine)(I:Inv X pins σ H s)(g:fJ H a y (some v))(ry:RelV y u)(h:∀w' s',Inv X pins σ H s'->RelV v w'->Q w' s') :
  DI (DS X.prog X.w) A (getItem (.ref a) u) Q E s:=by
 rcases g with ⟨kvs,k,e,ey,l⟩ | ⟨kvs,k,b,e,ey,eb,l⟩
 ·subst ey
  obtain ⟨z,hd,vs,rel,dd⟩:=kq I.hok e
  obtain ⟨w',hw,rw'⟩:=jE.some_of (v:=v) (o:=valueAt vs k) (by rw[l];exact rel.val k)
  exact wpAny_getItem_of (kj ry) dd.mapOf hw (h w' _ (I.tok _) rw')
 ·subst ey
  cases (show u=DG b from ry)
  obtain ⟨z,hd,xs,rel,dd⟩:=mw I.hok e
  obtain ⟨w',hw,rw'⟩:=jE.some_of (v:=v) (o:=(atKey xs k).map (·.2)) (by rw[l];exact rel.val k)
  obtain ⟨p,hp,hp2⟩:=Ik.mp hw
  refine wpAny_getItem_heap (G7 hu) (jP I.hok eb) dd hp ?_
  rw[hp2]
  exact h w' _ (I.tok _) rw'
theorem d_in {Q:C9->Dg->Prop}(hu:A.units+1<cLine)(I:Inv X pins σ H s)(g:fJ H a y o)(ry:RelV y u)(h:∀s',Inv X pins σ H s'->Q (.bool o.isSome) s') :
  DI (DS X.prog X.w) A (Fj .In u (.ref a)) Q E s:=by
 rcases g with ⟨kvs,k,e,ey,l⟩ | ⟨kvs,k,b,e,ey,eb,l⟩
 ·subst ey
  obtain ⟨z,hd,vs,rel,dd⟩:=kq I.hok e
  refine wpAny_in_of (kj ry) hd dd.mapOf ?_
  rw[<- (rel.val k).eX, <- l]
  exact h _ (I.tok _)
 ·subst ey
  cases (show u=DG b from ry)
  obtain ⟨z,hd,xs,rel,dd⟩:=mw I.hok e
  refine wpAny_in_heap (G7 hu) (jP I.hok eb) hd dd ?_
  have q:=(rel.val k).eX
  rw[GJ] at q
  rw[<- q, <- l]
  exact h _ (I.tok _)
theorem zV {Q:C9->Dg->Prop}(hu:A.units+1<cLine)(I:Inv X pins σ H s)(g:fJ H a y o)(ry:RelV y u)(h:∀s',Inv X pins σ H s'->Q (.bool (!o.isSome)) s') :
  DI (DS X.prog X.w) A (Fj .NotIn u (.ref a)) Q E s:=by
 rcases g with ⟨kvs,k,e,ey,l⟩ | ⟨kvs,k,b,e,ey,eb,l⟩
 ·subst ey
  obtain ⟨z,hd,vs,rel,dd⟩:=kq I.hok e
  refine wpAny_notIn_of (kj ry) hd dd.mapOf ?_
  rw[<- (rel.val k).eX, <- l]
  exact h _ (I.tok _)
 ·subst ey
  cases (show u=DG b from ry)
  obtain ⟨z,hd,xs,rel,dd⟩:=mw I.hok e
  refine wpAny_notIn_heap (G7 hu) (jP I.hok eb) hd dd ?_
  have q:=(rel.val k).eX
  rw[GJ] at q
  rw[<- q, <- l]
  exact h _ (I.tok _)
theorem kP {h':Heap}{t':Nat}{ob:HO}(I:Inv X pins σ H s)(mu:Mut (H a))(hs:Heap.SameBut a s.heap h')(he:∃q,h'.get? a=some q)(new:bB X.prog X.w (upd H a ob) h' a ob) :
  Inv X pins σ (upd H a ob) { s with heap:=h',toks:=t' } :=
 I.write (x:=a) (e:=a) mu (.inl rfl) (λb q hb z=>(hs.2 b hb).trans z) he new
theorem tF {P:DH}{w:Eb}{H':Hp}{h':Heap}{kvs:List (Key×V)}{vs:List (Key×C9)}(z:kvs.length<=Dm)(hd:(a == sysModules)=false)(rel:KV kvs vs)(dd:h'.DictOf (bD P w) a vs) :
  bB P w H' h' a (.dK kvs):=⟨z,hd,vs,rel,dd⟩
theorem vX {H':Hp}{Q:Unit->Dg->Prop}(hu:A.units+1<cLine)(I:Inv X pins σ H s)(g:rj H a y v H')(ry:RelV y u)(rv:RelV v r)(h:∀s',Inv X pins σ H' s'->Q () s') :
  DI (DS X.prog X.w) A (setItem (.ref a) u r) Q E s:=by
 rcases g with ⟨kvs,k,e,ey,l,eH⟩ | ⟨kvs,k,b,e,ey,eb,l,eH⟩
 ·subst ey eH
  obtain ⟨z,hd,vs,rel,dd⟩:=uG I.hok e
  have hz:vs.length<=Dm:=by rw[<- rel.length];exact z
  have hl:(putK kvs k v).length<=Dm:=by have:=eD kvs k v;lia
  refine wpAny_setItem_pairs (hsz:=hz) (kj ry) dd λh' dd' hs=>h _ ?_
  have he:∃q,h'.get? a=some q:=let ⟨q,_,_,hq,_⟩:=dd';⟨q,hq⟩
  exact kP I (by rw[e];exact True.intro) hs he (tF hl hd (rel.put k rv) dd')
 ·subst ey eH
  cases (show u=DG b from ry)
  obtain ⟨z,hd,xs,rel,dd⟩:=CG I.hok e
  have hz:xs.length<=Dm:=by rw[<- Hn rel];exact z
  have hl:(putK kvs k v).length<=Dm:=by have:=eD kvs k v;lia
  refine wpAny_setItem_heap (hsz:=hz) (G7 hu) (jP I.hok eb) dd λh' dd' hs=>h _ ?_
  obtain ⟨q,es,ep,hq,h2,h3,h4,_,h5⟩:=dd'
  refine kP I (by rw[e];exact True.intro) hs ⟨q,hq⟩ ⟨hl,hd,_,(rel.put k eb rv).keeps λc ys ec =>?_,q,es,ep,hq,h2,h3,h4,h5⟩
  rw[az (cF ec e (λz=>nomatch z))]
  exact ec
end
section
variable  {X:Cx}{pins:List (Addr×Obj)}{σ:St}{H:Hp}{s:Dg}{a:Addr}{kvs:List (Key×V)}{k:Key}{u:C9}{A:Ep}{E:C9->Dg->Prop}
end
def CH (i:Expr):Prop:=∀ov iv,subscripted i false ov iv=operate [ov,iv] (getItem ov iv)
theorem zW {prog:DH}{w:Eb}{A:Ep}{E:C9->Dg->Prop}{s:Dg}{env:Env}{value slice:Expr}{pos:Pos}{T id:String}{Q:C9->Dg->Prop}
  (hl:typeLookup (.type T) "__getitem__" = pure (some (.builtin id))) (hs:CH slice)
  (h:DI (DS prog w) A (eval value env) (λo s₁=>DI (DS prog w) A (eval slice env) (λi s₂=>s₂.TypeIs o T/\DI (DS prog w) A (getItem o i) Q E s₂) E s₁) E s) :
  DI (DS prog w) A (eval (.Subscript value slice pos) env) Q E s:=by
 refine Subscript_ (Gi h (λo s₁ h₁=>Gi h₁ (λi s₂ h₂ =>?_) λ_ _ x=>x) λ_ _ x=>x)
 obtain ⟨hT,h₂⟩:=h₂
 unfold subscriptTail
 refine C5 ?_
 rw[getitemInPython_of_ne hT.not_modules]
 refine C5 (Fv hT hl ?_)
 have fin:DI (DS prog w) A (subscripted slice false o i) (λr s₃=>DI (DS prog w) A (letTemporaryGo value o r >>= λ_=>pure r) Q E s₃) E s₂:=by
  rw[hs o i]
  exact wpAny_operating (Gi h₂ (λr s₃ h₃=>C5 (wpAny_letTemporaryGo (De h₃))) λ_ _ x=>x)
 first
  | exact De (C5 fin)
  | exact C5 (De (C5 fin))
  | exact C5 fin
theorem rp {X:Cx}{pins:List (Addr×Obj)}{σ:St}{H:Hp}{s:Dg}{a:Addr}{y:V}{o:Option V}(I:Inv X pins σ H s)(g:fJ H a y o):s.TypeIs (.ref a) "dict" := by
 rcases g with ⟨kvs,k,e,_,_⟩ | ⟨kvs,k,b,e,_,_,_⟩
 ·obtain ⟨_,_,vs,_,dd⟩:=kq I.hok e
  exact dd.typeIs
 ·obtain ⟨_,_,xs,_,dd⟩:=mw I.hok e
  exact dd.typeIs
def CI (td ty:TE):TE:=λσ H Q=>td σ H λx H1=>ty σ H1 λy H2=>∃a v,x = .ref a/\fJ H2 a y (some v)/\Q v H2
def tDIn (ty td:TE):TE:=λσ H Q=>ty σ H λy H1=>td σ H1 λx H2=>∃a o,x = .ref a/\fJ H2 a y o/\Q (.bl o.isSome) H2
def zX (ty td:TE):TE:=λσ H Q=>ty σ H λy H1=>td σ H1 λx H2=>∃a o,x = .ref a/\fJ H2 a y o/\Q (.bl (!o.isSome)) H2
def CJ (td ty tv:TE):TS:=λD σ H=>tv σ H λv H1=>td σ H1 λx H2=>ty σ H2 λy H3=>∃a H4,x = .ref a/\rj H3 a y v H4/\D.nx σ H4
section
variable  {X:Cx}{o i e value:Expr}{pos pos' tpos:Pos}{td ty tv:TE}
theorem dM (hu:X.A.units+1<cLine)(ho:PE X o td)(hi:PE X i ty)(hs:CH i):PE X (.Subscript o i pos) (CI td ty):=by
 intro pins s σ H Q I h
 refine zW PySem.F.slot_dict_getitem.lookup hs (thn (ho pins s σ H _ I h) λu s1 ⟨x,H1,I1,rx,q1⟩=>thn (hi pins s1 σ H1 _ I1 q1) λiv s2 ⟨y,H2,I2,ry,a,v,ex,g,q2⟩ =>?_)
 subst ex
 obtain rfl:u=DG a:=rx
 exact ⟨rp I2 g,vW hu I2 g ry λw' s3 I3 rw'=>⟨v,H2,I3,rw',q2⟩⟩
theorem BP (hu:X.A.units+1<cLine)(hi:PE X i ty)(ho:PE X o td):PC X .In i o (tDIn ty td):=by
 intro pins s σ H Q I h
 refine thn (hi pins s σ H _ I h) λiv s1 ⟨y,H1,I1,ry,q1⟩=>thn (ho pins s1 σ H1 _ I1 q1) λu s2 ⟨x,H2,I2,rx,a,ov,ex,g,q2⟩ =>?_
 subst ex
 obtain rfl:u=DG a:=rx
 exact d_in hu I2 g ry λs3 I3=>⟨.bl ov.isSome,H2,I3,rfl,q2⟩
theorem oH (hu:X.A.units+1<cLine)(hi:PE X i ty)(ho:PE X o td):PC X .NotIn i o (zX ty td):=by
 intro pins s σ H Q I h
 refine thn (hi pins s σ H _ I h) λiv s1 ⟨y,H1,I1,ry,q1⟩=>thn (ho pins s1 σ H1 _ I1 q1) λu s2 ⟨x,H2,I2,rx,a,ov,ex,g,q2⟩ =>?_
 subst ex
 obtain rfl:u=DG a:=rx
 exact zV hu I2 g ry λs3 I3=>⟨.bl (!ov.isSome),H2,I3,rfl,q2⟩
theorem pO (hu:X.A.units+1<cLine)(ho:PE X o td)(hi:PE X i ty)(hv:PE X value tv)(hs:swapsWith value (some (.Subscript o i pos')) pos.line X.env=pure false) :
  PS X (.Assign [.Subscript o i pos'] value pos) (CJ td ty tv):=by
 intro pins s σ H D I h
 refine wpAny_Assign_Subscript (thn (hv pins s σ H _ I h) λr s1 ⟨v,H1,I1,rv,q1⟩=>thn (ho pins s1 σ H1 _ I1 q1) λu s2 ⟨x,H2,I2,rx,q2⟩=>thn (hi pins s2 σ H2 _ I2 q2) λiv s3 ⟨y,H3,I3,ry,a,H4,ex,g,q3⟩ =>?_) hs
 subst ex
 obtain rfl:u=DG a:=rx
 exact vX hu I3 g ry rv λs4 I4=>⟨σ,H4,I4,q3⟩
end
theorem rq {P:DH}{w:Eb}{H:Hp}(h:Heap)(hb:sysModules<h.objs.size):bB P w H (h.push { cls :=.type "dict",data :=.dict #[] }) h.objs.size (.dK []) :=
 ⟨D5 _,beq_eq_false_iff_ne.mpr (EB (Dw hb)),[],.nil,Heap.DictOf.new h⟩
def xZ:TE:=λ_ H Q=>∀p,H p=none->Q (.ref p) (upd H p (.dK []))
section
variable  {X:Cx}{pos:Pos}
theorem i5:PE X (.Dict [] [] pos) xZ:=λpins s σ H Q I h =>
 wpAny_Dict_empty ⟨.ref s.heap.objs.size,_,I.laid (a:=s.heap.objs.size) (o :=.dK []) (t':=s.toks) (λ_ _ q=>C7 _ q) (Dd _) (rq s.heap I.big),rfl,h _ (I.hok.fresh (Dd _))⟩
end
def tG:List (TE×TE)->St->Hp->(List (V×V)->Hp->Prop)->Prop
 | [],_,H,Q=>Q [] H
 | (tk,tv) :: r,σ,H,Q=>tk σ H λx H1=>tv σ H1 λy H2=>tG r σ H2 λps H3=>Q ((x,y) :: ps) H3
abbrev VV:List (V×V)->List (C9×C9)->Prop:=Paired λp q=>RelV p.1 q.1/\RelV p.2 q.2
def PPs (X:Cx)(pos:Pos)(keys:List (Option Expr))(values:List Expr)(trs:List (TE×TE)):Prop :=
 ∀(pins:List (Addr×Obj)) (s:Dg) (σ:St) (H:Hp) (Q:List (V×V)->Hp->Prop),Inv X pins σ H s->tG trs σ H Q →
  DI (DS X.prog X.w) X.A (evalPairs (pairTrees keys values X.env pos)) (λvs s'=>∃ps H',Inv X pins σ H' s'/\VV ps vs/\Q ps H') X.xe s
theorem zY {X:Cx}{pos:Pos}:PPs X pos [] [] []:=λpins s σ H Q I h=>pairTrees_nil_walk ⟨[],H,I,.nil,h⟩
theorem x3 {X:Cx}{pos:Pos}{k v:Expr}{ks:List (Option Expr)}{vs:List Expr}{tk tv:TE}{trs:List (TE×TE)}(hk:PE X k tk)(hv:PE X v tv)(hr:PPs X pos ks vs trs) :
  PPs X pos (some k :: ks) (v :: vs) ((tk,tv) :: trs):=λpins s σ H Q I h =>
 pairTrees_cons_walk (thn (hk pins s σ H _ I h) λu s1 ⟨x,H1,I1,rx,q1⟩=>thn (hv pins s1 σ H1 _ I1 q1) λw2 s2 ⟨y,H2,I2,ry,q2⟩ =>
  thn (hr pins s2 σ H2 _ I2 q2) λws s3 ⟨ps,H3,I3,rel,q3⟩=>⟨(x,y) :: ps,H3,I3,.cons ⟨rx,ry⟩ rel,q3⟩)
def fK (kvs more:List (Key×V)):List (Key×V):=more.foldl (λacc kv=>putK acc kv.1 kv.2) kvs
theorem KV.merge:∀{more:List (Key×V)} {rs:List (Key×C9)} {kvs:List (Key×V)} {vs:List (Key×C9)},KV more rs->KV kvs vs->KV (fK kvs more) (merged vs rs):=by
 intro more rs kvs vs r
 unfold KV at r
 induction r generalizing kvs vs with
 | nil=>intro q;exact q
 | @cons p q ps qs h t ih =>
  intro r0
  have e:KV (putK kvs p.1 p.2) (stored vs q.1 q.2):=by
   have:=r0.put p.1 h.2
   rw[<- h.1];exact this
  exact ih e
theorem ie:∀(more kvs:List (Key×V)),(fK kvs more).length<=kvs.length+more.length
 | [],kvs=>by show kvs.length<=kvs.length+0;lia
 | p :: r,kvs=>by
  have h1:=ie r (putK kvs p.1 p.2)
  have h2:=eD kvs p.1 p.2
  show (fK (putK kvs p.1 p.2) r).length<=_
  rw[Dz];lia
theorem my {P:DH}{w:Eb}:∀{kvs:List (Key×V)} {ws:List (C9×C9)},VV (kvs.map λkv=>(kV kv.1,kv.2)) ws->∃rs,Carries (bD P w) ws rs/\KV kvs rs
 | [],_,r=>by rw[Kt] at r;cases r;exact ⟨[],True.intro,.nil⟩
 | p :: kvs,_,r=>by
  rw[DV] at r
  cases r with
  | @cons a b as bs h t =>
   obtain ⟨rs,c,q⟩:=my (P:=P) (w:=w) t
   obtain ⟨b1,b2⟩:=b
   exact ⟨(p.1,b2) :: rs,⟨kj h.1,rfl,c⟩,.cons ⟨rfl,h.2⟩ q⟩
def CK (trs:List (TE×TE)):TE:=λσ H Q=>∀p,H p=none->tG trs σ (upd H p (.dK [])) λps H2=>H2 p=some (.dK [])/\∃kvs:List (Key×V),ps=kvs.map (λkv=>(kV kv.1,kv.2))/\kvs.length<=15/\Q (.ref p) (upd H2 p (.dK (fK [] kvs)))
theorem zZ {X:Cx}{pos:Pos}{keys:List (Option Expr)}{values:List Expr}{trs:List (TE×TE)}(h:PPs X pos keys values trs)(hall:keys.all (·.isSome)=true)(hl:keys.length=values.length)(h0:keys≠[])
  (h15:keys.length<=15):PE X (.Dict keys values pos) (CK trs):=by
 intro pins s σ H Q I q
 have hn:=I.hok.fresh (Dd s.heap.objs.size)
 have I1:=I.laid (a:=s.heap.objs.size) (o :=.dK []) (h':=s.heap.push { cls :=.type "dict",data :=.dict #[] }) (t':=s.toks) (λ_ _ q=>C7 _ q) (Dd _) (rq s.heap I.big)
 refine wpAny_Dict_walk (knd:=bD X.prog X.w) hall hl h0 h15 (thn (h pins _ σ _ _ I1 (q _ hn)) λws s2 ⟨ps,H2,I2,rel,e,kvs,ep,lk,q2⟩ =>?_)
 subst ep
 obtain ⟨rs,c,rk⟩:=my (P:=X.prog) (w:=X.w) rel
 obtain ⟨z,hd,vs0,r0,dd⟩:=uG I2.hok e
 cases r0
 refine ⟨rs,c,dd,λh' dd' hs=>⟨.ref s.heap.objs.size,_,?_,rfl,q2⟩⟩
 have hz:(fK [] kvs).length<=Dm:=by
  have h1:=ie kvs []
  rw[ER] at h1
  rw[F8];lia
 have he:∃q,h'.get? s.heap.objs.size=some q:=let ⟨q,_,_,hq,_⟩:=dd';⟨q,hq⟩
 exact kP I2 (by rw[e];exact True.intro) hs he (tF hz hd (rk.merge .nil) dd')
structure M2 (X:Cx)(o:Expr)(m:Str)(apos:Pos)(e f:Expr)(cpos:Pos):Prop where
 base:attributeBase o m X.env (eval o X.env)=eval o X.env
 few:((Ih cpos (Em [e,f] X.env)).all (λx => !x.1) && (backToKw cpos (keywordEach [] X.env)).all (λx=>x.1.isSome)
  && decide (([e,f]:List Expr).length+([]:List Keyword).length+(if ([]:List Keyword).isEmpty then 0 else 1)<30))=true
 line:(apos.endLine == cpos.line)=true
 trees:Ih cpos (Em [e,f] X.env)=[(false,eval e X.env),(false,eval f X.env)]
def IsD (H:Hp)(a:Addr):Prop:=(∃kvs,Rd H a (.dK kvs))\/∃kvs,Rd H a (.dT kvs)
theorem x4 {X:Cx}{pins:List (Addr×Obj)}{σ:St}{H:Hp}{s:Dg}{a:Addr}(I:Inv X pins σ H s)(d:IsD H a) :
  s.TypeIs (.ref a) "dict" /\ (∀b,DG a = .ref b->∃ob,s.heap.get? b=some ob/\ob.dict=none)/\(a == sysModules)=false:=by
 rcases d with ⟨kvs,e⟩ | ⟨kvs,e⟩
 ·obtain ⟨_,hd,vs,_,dd⟩:=kq I.hok e
  refine ⟨dd.typeIs,λb q =>?_,hd⟩
  cases q
  obtain ⟨ob,_,_,h1,h2,_⟩:=dd
  exact ⟨ob,h1,h2.2.1⟩
 ·obtain ⟨_,hd,xs,_,dd⟩:=mw I.hok e
  refine ⟨dd.typeIs,λb q =>?_,hd⟩
  cases q
  obtain ⟨ob,_,_,h1,h2,_⟩:=dd
  exact ⟨ob,h1,h2.2.1⟩
section
variable  {X:Cx}{pins:List (Addr×Obj)}{σ:St}{H:Hp}{s:Dg}{a:Addr}{y d:V}{u r:C9}{o:Option V}{A:Ep}{E:C9->Dg->Prop}
theorem BQ {Q:C9->Dg->Prop}(hu:A.units+1<cLine)(I:Inv X pins σ H s)(g:fJ H a y o)(ry:RelV y u)(rd:RelV d r)(h:∀w' s',Inv X pins σ H s'->RelV (o.getD d) w'->Q w' s') :
  DI (DS X.prog X.w) A (call (.builtin "dict.get") [.ref a,u,r]) Q E s:=by
 rcases g with ⟨kvs,k,e,ey,l⟩ | ⟨kvs,k,b,e,ey,eb,l⟩
 ·subst ey
  obtain ⟨z,hd,vs,rel,dd⟩:=kq I.hok e
  refine LW Iy dd.typeIs Kn (J2 _ _ _) (meets_dict_get_default (bD X.prog X.w) a (kj ry) hd r) ⟨_,dd.mapOf,h _ _ (I.tok _) ?_⟩
  rw[l]
  exact (rel.val k).getD rd
 ·subst ey
  cases (show u=DG b from ry)
  obtain ⟨z,hd,xs,rel,dd⟩:=mw I.hok e
  refine LW Iy dd.typeIs Kn (J2 _ _ _) (meetsH_dict_get_default (tupleKind (bD X.prog X.w)) a b hd r) ⟨G7 hu,k,xs,jP I.hok eb,dd,h _ _ (I.tok _) ?_⟩
  rw[l]
  exact (rel.val k).getD rd
end
def BR (td ty tx:TE):TE:=λσ H Q=>td σ H λx H1=>∃a,x = .ref a/\IsD H1 a/\ty σ H1 λy H2=>tx σ H2 λz H3=>∃o,fJ H3 a y o/\Q (o.getD z) H3
section
variable  {X:Cx}{o e f:Expr}{apos cpos:Pos}{td ty tx:TE}
theorem x5 (hu:X.A.units+1<cLine)(ho:PE X o td)(he:PE X e ty)(hf:PE X f tx)(m:M2 X o "get" apos e f cpos):PE X (.Call (.Attribute o "get" apos) [e,f] [] cpos) (BR td ty tx):=by
 intro pins s σ H Q I h
 refine LP m.base m.few m.line J3 Iy PySem.F.type_dict_get (thn (ho pins s σ H _ I h) λu s1 ⟨x,H1,I1,rx,a,ex,d,q1⟩ =>?_)
 subst ex
 obtain rfl:u=DG a:=rx
 obtain ⟨t1,t2,_⟩:=x4 I1 d
 refine ⟨t1,t2,?_⟩
 rw[m.trees]
 refine Gr rfl (Hy (FZ (thn (he pins s1 σ H1 _ I1 q1) λiv s2 ⟨y,H2,I2,ry,q2⟩ =>
  FZ (thn (hf pins s2 σ H2 _ I2 q2) λfv s3 ⟨z,H3,I3,rz,ov,g,q3⟩=>Ho ?_))))
 exact BQ hu I3 g ry rz λw' s4 I4 rw'=>⟨_,H3,I4,rw',q3⟩
end
section
variable  {X:Cx}{pins:List (Addr×Obj)}{σ:St}{H:Hp}{s:Dg}{a:Addr}{kvs:List (Key×V)}{A:Ep}{E:C9->Dg->Prop}
end
section
variable  {X:Cx}{pins:List (Addr×Obj)}{σ:St}{H:Hp}{s:Dg}{a:Addr}{y:V}{u:C9}{A:Ep}{E:C9->Dg->Prop}
end
section
variable  {X:Cx}
end
section
variable  {κ:Type}[DecidableEq κ]
end
end L2
namespace SDct
open PySem PyProof.Rows Srt
section
variable  {prog:DH}{w:Eb}{K:Type}[DecidableEq K]{knd:KeyKind prog w K}{A:Ep}{E:C9->Dg->Prop}{s:Dg}
theorem pP {d:Addr}{kvs:List (K×C9)}{ep:Nat}{R:List C9->Dg->Prop}(hh:A.handled=none)(hd:(d == sysModules)=false)(hm:s.heap.DictAt knd d kvs ep)(hz:kvs.length<=Dm)
  (h:∀h1 tk vs,vs.length=kvs.length->(∀(i:Nat) v,vs[i]? = some v->∃k x,kvs[i]? = some (k,x)/\knd.is k v=true)->(∀b o,s.heap.get? b=some o->h1.get? b=some o)->s.heap.objs.size<=h1.objs.size->R vs { s with heap:=h1,toks:=tk }) :
  DI (DS prog w) A (collect (.ref d)) R E s:=by
 have hlt:=hm.lt_size
 unfold collect
 refine C5 (G2 (EE KA ?_))
 rw[Ex KC _]
 show DI _ A.in1 (newList [] >>= λl=>again (.builtin "list.__iadd__" ⟨[l,.ref d],[]⟩)) _ _ s
 refine C5 (Ec ?_)
 refine De ⟨Fw Ip _,EE LJ ?_⟩
 rw[Ex Ip _]
 show DI _ A.in1 (DT (.ref s.heap.objs.size) (.ref d) (.ref s.heap.objs.size)) _ _ _
 unfold DT
 have hSa:s.heap.objs.size≠d:=FV hlt
 have z1:(s.heap.push { cls :=.type "list",data :=.seq ([]:List C9).toArray }).objs.size=s.heap.objs.size+1:=E5 _ _
 have hm1:=hm.push { cls :=.type "list",data :=.seq ([]:List C9).toArray }
 have hT1:Shared.TypeIs { s with heap:=s.heap.push { cls :=.type "list",data :=.seq ([]:List C9).toArray } } (.ref d) "dict" := hm1.dictOf.typeIs
 refine C5 (FC hT1 ?_)
 have h1:EW (.ref s.heap.objs.size) (.ref d)=false:=by simp[EW,hSa]
 have h2:(E1 "dict" == E1 "list")=false:=by decide
 have h3:(E1 "dict" == E1 "tuple")=false:=by decide
 simp only[h1,h2,h3,IQ,DJ,if_false]
 refine C5 (LQ hd hm1 ?_)
 show DI _ A.in1 (Mu [.ref (s.heap.push { cls :=.type "list",data :=.seq ([]:List C9).toArray }).objs.size] (EJ (.ref d)) >>= _) _ _ { s with heap:=(s.heap.push { cls :=.type "list",data :=.seq ([]:List C9).toArray }).push { cls :=.type "dict_keyiterator",data :=.fields #[.ref d,.int 0 0,.int kvs.length 0,.int ep 0] } }
 rw[z1]
 generalize hH:(s.heap.push { cls :=.type "list",data :=.seq ([]:List C9).toArray }).push { cls :=.type "dict_keyiterator",data :=.fields #[.ref d,.int 0 0,.int kvs.length 0,.int ep 0] }=H
 have kH:∀b o,(s.heap.push { cls :=.type "list",data :=.seq ([]:List C9).toArray }).get? b=some o->H.get? b=some o:=λb o e=>by rw[<- hH];exact C7 _ e
 have hit:H.IsKeyIter (s.heap.objs.size+1) d 0 kvs.length ep:=by
  refine ⟨{ cls :=.type "dict_keyiterator",data :=.fields #[.ref d,.int 0 0,.int kvs.length 0,.int ep 0] },?_,rfl,rfl⟩
  rw[<- hH, <- z1]
  exact Dn _ rfl
 have hm2:H.DictAt knd d kvs ep:=hm1.keep kH
 have hT2:Shared.TypeIs { s with heap:=H } (.ref d) "dict" := hm2.dictOf.typeIs
 refine C5 (EU ?_)
 unfold EJ
 refine C5 (Fv hT2 F.slot_dict_len.lookup ?_)
 dsimp only
 rw[show splitId "dict.__len__" = some ("dict", "__len__") by kernel_rfl]
 dsimp only
 refine C5 (FJ hT2 (show isSubtype (.type "dict") (.type "dict")=pure true by rw[FE];kernel_rfl) ?_)
 simp only[E8,DJ,if_false]
 show DI _ _ (typeOf (.ref d) >>= _) _ _ _
 refine C5 (FC hT2 ?_)
 refine De ?_
 show DI _ A.in1 (rule "list.extend.makes-room" >>= λ_=>Builtin.List.listTouch (.ref s.heap.objs.size) >>= λ_ =>
  again (.builtin "list.extend.loop" ⟨[.ref s.heap.objs.size,.ref (s.heap.objs.size+1),.ref s.heap.objs.size],[]⟩)) _ _ _
 refine C5 (FI ?_)
 have hS₁:H.get? s.heap.objs.size=some { cls :=.type "list",data :=.seq ([]:List C9).toArray }:=kH _ _ (Dn _ rfl)
 refine C5 ?_
 show DI _ A.in1 (updateSeq s.heap.objs.size (·.push .none) >>= λ_=>updateSeq s.heap.objs.size (·.pop)) _ _ _
 refine C5 (Gp (s:={ s with heap:=H }) hS₁ rfl ?_)
 have hS₂:=EA (Fh (·.push E9)) hS₁ rfl
 refine Gp hS₂ rfl ?_
 have hS₃:=EA (Fh (·.pop)) hS₂ rfl
 have oth:∀b o,b≠s.heap.objs.size->H.get? b=some o->((H.update s.heap.objs.size (Fh (·.push E9))).update s.heap.objs.size (Fh (·.pop))).get? b=some o :=
  λb o hb e=>(Eh _ _ (EB hb)).trans ((Eh _ _ (EB hb)).trans e)
 have W:=(Walks.dictKeys (prog:=prog) (w:=w) (knd:=knd) (A:=A.in1) hh (s.heap.objs.size+1) d (Dw (EH hlt)) kvs ep).toS
 have hSf:s.heap.objs.size∉[s.heap.objs.size+1,d]:=by
  simp only[Dx,GZ,or_false,not_or]
  exact ⟨Dw (Fc _),hSa⟩
 refine De ⟨Fw Gm _,HF W hz _ hSf _ kvs.length 0 _ _ _ rfl (D5 _) ⟨hit.at λo e=>oth _ o (FV (Fc _)) e,hm2.at' λo e=>oth _ o (EB hSa) e⟩ hS₃ (Ld _) λs' acc' c' hmv hS' ha =>?_⟩
 obtain ⟨h',g',d',tk',os'⟩:=s'
 have eg:g'=s.gens:=hmv.gens
 have ed:d'=s.drawn:=hmv.drawn
 have eo:os'=s.os:=hmv.os
 subst eg;subst ed;subst eo
 show DI _ A (load s.heap.objs.size >>= _) _ _ _
 refine C5 (JS hS' ?_)
 refine De (h h' tk' acc'.toList (by rw[Dl];exact ha.1) (λi v hv=>ha.2 i v (by rw[Dt] at hv;exact hv)) (λb o e =>?_) (Gv (Ds hS')))
 have lt:=Ds e
 refine hmv.heap b o ?_ (oth b o (Dw lt) (kH b o (C7 _ e)))
 simp only[Dx,GZ,or_false,not_or]
 exact ⟨Dw lt,Dw (EH lt)⟩
end
end SDct
namespace L2
open PySem PySem.Spec PyProof.Rows Srt
section
variable  {X:Cx}
theorem pQ:∀{kvs:List (Key×V)} {vs:List (Key×C9)},KV kvs vs->vs.map (·.1)=kvs.map (·.1)
 | _,_,.nil=>rfl
 | _,_,.cons h t=>by rw[DV,DV,pQ t,h.1]
theorem pS (hh:X.A.handled=none):bL X (.builtin "sorted") (λxs H Q=>∃(a:Addr) (kvs:List (Key×V)) (ks:List Int),xs=[.ref a]/\H a=some (.dK kvs)/\kvs.map (·.1)=ks.map Sum.inl/\∀(l:Addr) (out:List Int),H l=none->out.Perm ks->out.Pairwise (· <= ·)->Q (.ref l) (upd H l (.lst (out.map V.int)))):=by
 intro pins s σ H xs us Q I r h
 obtain ⟨a,kvs,ks,rfl,ha,ek,q⟩:=h
 obtain ⟨u,rfl,ru⟩:=vals1 r
 cases (show u=DG a from ru)
 obtain ⟨z,hd,vs,rel,dd⟩:=uG I.hok ha
 obtain ⟨ep,dd⟩:=dd.dictAt
 have lv:kvs.length=vs.length:=Hn rel
 have keys:vs.map (·.1)=kvs.map (·.1):=pQ rel
 have lk:ks.length=vs.length:=by
  have:=congrArg List.length ek
  rw[C6,C6] at this
  lia
 refine GB Li KJ KL (KN _) ?_
 unfold Builtin.«sorted»
 refine C5 (m:=checkCount "sorted" 1 1 _) (De ?_)
 refine C5 (SDct.pP (by simpa using hh) hd dd (by lia) λh1 tk ws lw hw k1 z1 =>?_)
 have sh:∀(i:Nat) v,ws[i]? = some v->∃t,ks[i]? = some (intOf v)/\v = .int (intOf v) t:=λi v hv=>by
  obtain ⟨k,x,e1,e2⟩:=hw i v hv
  have e3:(vs.map (·.1))[i]? = some k:=by rw[Dq,e1];rfl
  rw[keys,ek,Dq] at e3
  cases hk:ks[i]? with
  | none=>rw[hk] at e3;cases e3
  | some n =>
   rw[hk] at e3
   cases e3
   obtain ⟨t,rfl⟩:=Hl (show Value.isInt n v=true from e2)
   exact ⟨t,rfl,rfl⟩
 have si:∀v∈ws,∃i t,v=EL i t:=λv hv=>by
  obtain ⟨i,hi,e⟩:=Ja hv
  obtain ⟨t,_,e2⟩:=sh i v (by rw[Dc hi,e])
  exact ⟨_,t,e2⟩
 have ew:ws.map intOf=ks:=by
  apply Hs
  intro i
  rw[Dq]
  cases hv:ws[i]? with
  | some v=>obtain ⟨t,e,_⟩:=sh i v hv;rw[e];rfl
  | none =>
   rw[Ft] at hv
   rw[FX (by lia)]
   rfl
 have hI:=dB si
 rw[ew] at hI
 have hz':ws.length<=Dm:=by lia
 refine C5 (Ie ?_ hz')
 have hoL:(h1.push (seqObj "list" ws.toArray 0)).get? h1.objs.size=some (seqObj "list" ws.toArray 0):=Dn _ rfl
 have kL:∀b o,s.heap.get? b=some o->(h1.push (seqObj "list" ws.toArray 0)).get? b=some o:=λb o e=>C7 _ (k1 b o e)
 have C:iX X.prog X.w { s with heap:=h1,toks:=tk } ws pF intOf:=fF hI
 refine C5 (EU (Ei slot_list_sort ⟨_,hoL,rfl⟩ entry_list_sort (dD (key:=intOf) (O:=pF) hoL hz' (λh2 h6 k6 =>?_) λout pm ps=>⟨_,rfl,?_⟩) (JG _)))
 ·exact C.ok h2 _ h6 λb o e=>k6 b o (Dw (Ds e)) (C7 _ e)
 ·obtain ⟨n,en⟩:=J6 (out:=out.toArray) hoL
  have hm:∀v∈out,∃i t,v=EL i t:=λv hv=>si v (pm.mem_iff.mp hv)
  have hO:=dB hm
  have pm':(out.map intOf).Perm ks:=by
   have:=pm.map intOf
   rw[ew] at this
   exact this
  have kf:∀b o,s.heap.get? b=some o->(sortedHeap (h1.push (seqObj "list" ws.toArray 0)) h1.objs.size ws out.toArray).get? b=some o:=λb o e=>by
   have lt:=DC (Ds e) z1
   rw[JH (Dw lt) (by rw[KR];exact EH lt)]
   exact kL b o e
  have fr:H h1.objs.size=none:=I.hok.fresh z1
  refine De ⟨_,rfl,.ref h1.objs.size,_,I.laid (t':=tk) (o :=.lst ((out.map intOf).map V.int)) kf z1 ⟨?_,out,n,dI hO,en⟩,rfl,q _ _ fr pm' ?_⟩
  ·rw[C6,pm'.length_eq];lia
  ·refine Eu.mpr (ps.imp λ{x y} le =>?_)
   have le':decide (intOf y<intOf x)=false:=le
   have:=of_decide_eq_false le'
   lia
end
end L2
namespace HT
open PySem PySem.Spec PyProof.Rows
section
variable  {prog:DH}{w:Eb}{A:Ep}{E:C9->Dg->Prop}{s:Dg}{l:Addr}{xs:Array (Int×Tok)}
theorem oI {items:Array C9}{Q:C9->Dg->Prop}(hl:s.heap.IsTuple l items)
  (h:∀s₂:Dg,s₂={ s with heap:=s.heap.push { cls :=.type "tuple_iterator",data :=.fields #[.ref l,.int 0 0] } } →
   (s₂.heap.IsTupleIter s.heap.objs.size l 0/\s₂.heap.IsTuple l items)->(∀b∈[s.heap.objs.size,l],b<s₂.heap.objs.size)->l≠s.heap.objs.size->Q (.ref s.heap.objs.size) s₂) :
  DI (DS prog w) A (pyIter (.ref l)) Q E s:=by
 have hlt:l<s.heap.objs.size:=by obtain ⟨_,e,_⟩:=hl;exact Ds e
 refine F0 hl (h _ rfl ⟨⟨_,Dn _ rfl,rfl,rfl⟩,?_⟩ (λb hb =>?_) (Dw hlt))
 ·obtain ⟨o,e,c,d⟩:=hl
  exact ⟨o,C7 _ e,c,d⟩
 show b<(s.heap.push _).objs.size
 rw[E5]
 rcases Dx.mp hb with rfl | hb
 ·exact Fc _
 ·rcases Dx.mp hb with rfl | hb
  ·exact EH hlt
  ·cases hb
theorem oJ {h':Heap}(hk:∀b o,b∉[s.heap.objs.size]->(s.heap.push { cls :=.type "tuple_iterator",data :=.fields #[.ref l,.int 0 0] }).get? b=some o->h'.get? b=some o) :
  ∀b o,s.heap.get? b=some o->h'.get? b=some o:=λb o e=>by
 refine hk b o (λhm =>?_) (C7 _ e)
 rcases Dx.mp hm with e1 | hm
 ·exact absurd (e1 ▸ Ds e) (Fe _)
 ·cases hm
theorem Aa {Q:C9->Dg->Prop}(hh:A.handled=none)(hl:s.heap.IsTuple l (Ig xs))(hne:0<xs.size)
  (h:∀v h' tk,(Ig xs)[argBest (λi j=>decide (numAt xs i>numAt xs j)) (xs.size-1)]? = some v->(∀b o,s.heap.get? b=some o->h'.get? b=some o)->Q v { s with heap:=h',toks:=tk }) :
  DI (DS prog w) A (call (.builtin "max") [.ref l]) Q E s:=by
 refine call_max_walk (oI hl λs₂ e st hfp hlI =>?_)
 subst e
 refine ⟨_,_,_,_,_,_,_,rfl,Mk (A:=A.in1) hh _ l hlI (Ig xs),st,hfp,by simpa [Ig] using hne,CmpOf.ints_gt (numAt xs) (λ_ _=>intItems_at),λv h' tk hP hk =>?_⟩
 exact h v h' tk (by simpa [Ig] using hP) (oJ hk)
theorem Ab {Q:C9->Dg->Prop}(hh:A.handled=none)(hl:s.heap.IsTuple l (Ig xs))(hne:0<xs.size)
  (h:∀v h' tk,(Ig xs)[argBest (λi j=>decide (numAt xs i<numAt xs j)) (xs.size-1)]? = some v->(∀b o,s.heap.get? b=some o->h'.get? b=some o)->Q v { s with heap:=h',toks:=tk }) :
  DI (DS prog w) A (call (.builtin "min") [.ref l]) Q E s:=by
 refine call_min_walk (oI hl λs₂ e st hfp hlI =>?_)
 subst e
 refine ⟨_,_,_,_,_,_,_,rfl,Mk (A:=A.in1) hh _ l hlI (Ig xs),st,hfp,by simpa [Ig] using hne,CmpOf.ints_lt (numAt xs) (λ_ _=>intItems_at),λv h' tk hP hk =>?_⟩
 exact h v h' tk (by simpa [Ig] using hP) (oJ hk)
end
end HT
namespace L2
open PySem PyProof.Rows
section
variable  {X:Cx}{K:Df}
theorem ii2 {i j:Int}{t1 t2:Tok}:Ig #[(i,t1),(j,t2)] = #[EL i t1,EL j t2]:=by simp[Ig]
theorem vY (hc:X.calm=true)(hk:X.K=K:=by rfl):bL X (.builtin "min") (λxs H Q=>∃(p:Addr) (i j:Int),xs=[.ref p]/\SqT K H p [.int i,.int j]/\Q (.int (if j<i then j else i)) H):=by
 subst hk
 intro pins s σ H xs us Q I r h
 obtain ⟨p,i,j,rfl,hq,q⟩:=h
 obtain ⟨u,rfl,ru⟩:=vals1 r
 cases (show u=DG p from ru)
 obtain ⟨its,rv,ht,_⟩:=I.tuple hq
 obtain ⟨x,y,rfl,⟨t1,rfl⟩,⟨t2,rfl⟩⟩:=vals2 rv
 refine HT.Ab (I.ok.hd hc) (xs := #[(i,t1),(j,t2)]) (by rw[ii2];exact ht) (by simp) λv h' tk hv k =>?_
 have ev:∃t,v = .int (if j<i then j else i) t:=by
  have hb:argBest (λa b=>decide (numAt #[(i,t1),(j,t2)] a<numAt #[(i,t1),(j,t2)] b)) (#[(i,t1),(j,t2)].size-1)=if j<i then 1 else 0:=by
   show (if decide (j<i)=true then 1 else 0)=_
   by_cases h:j<i
   ·rw[decide_eq_true h,if_pos h,if_pos rfl]
   ·rw[decide_eq_false h,if_neg h,if_neg Dv]
  rw[hb,ii2] at hv
  by_cases h:j<i
  ·rw[if_pos h] at hv ⊢
   exact ⟨t2,(DW (show some (EL j t2)=some v from hv)).symm⟩
  ·rw[if_neg h] at hv ⊢
   exact ⟨t1,(DW (show some (EL i t1)=some v from hv)).symm⟩
 obtain ⟨t,rfl⟩:=ev
 exact ⟨.int _,H,I.kept k,⟨_,rfl⟩,q⟩
theorem v5 (hc:X.calm=true)(hk:X.K=K:=by rfl):bL X (.builtin "max") (λxs H Q=>∃(p:Addr) (i j:Int),xs=[.ref p]/\SqT K H p [.int i,.int j]/\Q (.int (if j>i then j else i)) H):=by
 subst hk
 intro pins s σ H xs us Q I r h
 obtain ⟨p,i,j,rfl,hq,q⟩:=h
 obtain ⟨u,rfl,ru⟩:=vals1 r
 cases (show u=DG p from ru)
 obtain ⟨its,rv,ht,_⟩:=I.tuple hq
 obtain ⟨x,y,rfl,⟨t1,rfl⟩,⟨t2,rfl⟩⟩:=vals2 rv
 refine HT.Aa (I.ok.hd hc) (xs := #[(i,t1),(j,t2)]) (by rw[ii2];exact ht) (by simp) λv h' tk hv k =>?_
 have ev:∃t,v = .int (if j>i then j else i) t:=by
  have hb:argBest (λa b=>decide (numAt #[(i,t1),(j,t2)] a>numAt #[(i,t1),(j,t2)] b)) (#[(i,t1),(j,t2)].size-1)=if j>i then 1 else 0:=by
   show (if decide (j>i)=true then 1 else 0)=_
   by_cases h:j>i
   ·rw[decide_eq_true h,if_pos h,if_pos rfl]
   ·rw[decide_eq_false h,if_neg h,if_neg Dv]
  rw[hb,ii2] at hv
  by_cases h:j>i
  ·rw[if_pos h] at hv ⊢
   exact ⟨t2,(DW (show some (EL j t2)=some v from hv)).symm⟩
  ·rw[if_neg h] at hv ⊢
   exact ⟨t1,(DW (show some (EL i t1)=some v from hv)).symm⟩
 obtain ⟨t,rfl⟩:=ev
 exact ⟨.int _,H,I.kept k,⟨_,rfl⟩,q⟩
end
section
variable  {X:Cx}
def Ac (ns ms:List Int)(j:Nat):Bool:=ns.getD j 0 == ms.getD j 0
theorem rA {ns ms:List Int}(h:ns.length=ms.length):((Eo ns.length).all λj=>Ac ns ms j)=decide (ns=ms):=by
 rw[FW,decide_eq_true_iff,F2]
 constructor
 ·intro hh
  refine L6 h λj h1 h2 =>?_
  have:=hh j (ET.mpr h1)
  unfold Ac at this
  rw[Du,Du,Dc h1,Dc h2] at this
  exact of_decide_eq_true (by simpa using this)
 ·rintro rfl j _
  exact beq_self_eq_true _
theorem intAt {ns:List Int}{us:List C9}(r:Vals (ns.map V.int) us){j:Nat}(h:j<us.toArray.size):∃t,us.toArray[j] = .int (ns.getD j 0) t:=by
 have l:=r.length
 rw[C6] at l
 rw[Dk] at h
 have e1:(ns.map V.int)[j]? = some (.int (ns.getD j 0)):=by
  rw[Dq,Du,Dc (by lia)]
  rfl
 obtain ⟨u,g1,q1⟩:=r.get e1
 have f1:us.toArray[j]=u:=by simp[Di] at g1;obtain ⟨_,g⟩:=g1;simpa using g
 rw[f1]
 exact q1
theorem uH {k:Nat}(hr:dG k X.A):OpR X (Fj .NotEq) (λx y H Q=>∃(a b:Addr) (ns ms:List Int),x = .ref a/\y = .ref b/\SqL X.K H a (ns.map V.int)/\SqL X.K H b (ms.map V.int)/\Q (.bl (!decide (ns=ms))) H):=by
 intro pins s σ H x y v u Q I rx ry h
 obtain ⟨a,b,ns,ms,rfl,rfl,h1,h2,q⟩:=h
 cases (show v=DG a from rx)
 cases (show u=DG b from ry)
 obtain ⟨its,r1,⟨⟨c1,d1,da1,sl1⟩,n1,e1,k1,_,k3⟩,_⟩:=I.list h1
 obtain ⟨its2,r2,⟨⟨c2,d2,da2,sl2⟩,n2,e2,g1,_,g3⟩,_⟩:=I.list h2
 simp only at k1 k3 g1 g3
 subst k1 k3 g1 g3
 have l1:=r1.length
 have l2:=r2.length
 rw[C6] at l1 l2
 have hu:=hr.un
 have hu1:X.A.units<cLine:=by lia
 by_cases hl:ns.length=ms.length
 ·refine Fq (op :=.NotEq) ⟨_,e1,rfl⟩ ⟨_,e2,rfl⟩ Jz IY (IG _ _) (Mh a b its.toArray its2.toArray n1 n2 d1 d2 sl1 sl2 (by rw[Dk,Dk];lia) (Ac ns ms)) ⟨e1,e2,?_,?_⟩ hu1
  ·intro j h1 h2
   obtain ⟨t1,g1⟩:=intAt r1 h1
   obtain ⟨t2,g2⟩:=intAt r2 h2
   rw[g1,g2]
   exact Gx _ t1 _ t2
  ·have ez:its.toArray.size=ns.length:=by rw[Dk];lia
   rw[ez,rA hl]
   exact ⟨(λz=>nomatch z),⟨.bl _,H,I,rfl,q⟩⟩
 ·have ne:ns≠ms:=λz=>hl (by rw[z])
  rw[decide_eq_false ne] at q
  refine Fq (op :=.NotEq) ⟨_,e1,rfl⟩ ⟨_,e2,rfl⟩ Jz IY (IG _ _) (JV a b its.toArray its2.toArray n1 n2 d1 d2 sl1 sl2 (by simp;lia)) ⟨e1,e2,?_⟩ hu1
  exact ⟨(λz=>nomatch z),⟨.bl true,H,I,rfl,q⟩⟩
end
end L2
namespace L2.Rev
open PySem
open Sem (wp)
section
variable  {prog:DH}{w:Eb}{A:Ep}{E:C9->Dg->Prop}{s:Dg}
theorem tH:typeLookup (.type "list_reverseiterator") "__len__" = pure none:=by rw[FY,EY];kernel_rfl
theorem i6:typeLookup (.type "list_reverseiterator") "__length_hint__" = pure (some (.builtin "list_reverseiterator.__length_hint__")):=by rw[FY,EY];kernel_rfl
theorem x6 {I l:Addr}{i:Int}{Q:Bool->Dg->Prop}(hit:s.heap.IsRevIter I l i)(h:Q false s):DI (DS prog w) A (EJ (.ref I)) Q E s:=by
 unfold EJ
 refine C5 (Fv hit.typeIs tH ?_)
 wp_delta
 refine C5 (Fv hit.typeIs i6 ?_)
 generalize hid:("list_reverseiterator.__length_hint__" : String)=id0
 wp_delta
 rw[show splitId id0=some ("list_reverseiterator", "__length_hint__") from by subst hid;decide +kernel]
 subst hid
 refine C5 (FJ (T := "list_reverseiterator") (b:=true) hit.typeIs (by rw[FE];kernel_rfl) ?_)
 refine ES (λhab=>absurd hab (by decide)) (λ_ =>?_)
 refine ES (λ_ =>?_) (λhab=>absurd (by decide +kernel) hab)
 refine ES (λhab=>absurd hab (by decide +kernel)) (λ_ =>?_)
 exact De h
theorem tI {R:Result->Dg->Prop}{I l:Addr}{items:Array C9}(hh:A.handled=none)(hit:s.heap.IsRevIter I l ((items.size:Int)-1))(hl:s.heap.IsList l items)(hne:l≠I)(hlen:items.size<=2 ^ 24)
  (S:Addr) (hSI:S≠I) (hSl:S≠l) (res:C9) (c₀:Nat) (hS:s.heap.get? S=some { cls :=.type "list",data :=.seq #[] c₀ })
  (hR:∀h' tk acc' c',(∀b o,b≠S->b≠I->s.heap.get? b=some o->h'.get? b=some o)->h'.get? S=some { cls :=.type "list",dict:=none,data :=.seq acc' c',slots := #[] } →
   ItemsOf (λi v=>items[items.size-1-i]? = some v) acc' items.size->R (.ok (.ret res)) { s with heap:=h',toks:=tk }) :
  DI (DS prog w) A.in1 (DT (.ref S) (.ref I) res)
   (λfin s'=>match fin with | .done f=>R (.ok f) s' | .again c'=>c'.quiet=true/\Ji (DS prog w) A c' R s') (λe s'=>R (.error e) s') s:=by
 have hSf:S∉[I,l]:=λhm=>by
  rcases Dx.mp hm with e | hm
  ·exact hSI e
  ·exact hSl (DD.mp hm)
 have W:=(Walks.listRev (prog:=prog) (w:=w) (A:=A.in1) hh I l hne items).toS
 unfold DT
 refine C5 (FC (T := "list_reverseiterator") hit.typeIs ?_)
 have h1:EW (.ref S) (.ref I)=false:=by simp[EW,hSI]
 have h2:(E1 "list_reverseiterator" == E1 "list")=false:=by decide +kernel
 have h3:(E1 "list_reverseiterator" == E1 "tuple")=false:=by decide +kernel
 simp only[h1,h2,h3,IQ,DJ,if_false]
 refine C5 (wpAny_pyIter_revIter hit ?_)
 refine C5 (EU (x6 hit ?_))
 refine ES (λhab=>absurd hab (by decide +kernel)) (λ_=>De ⟨Fw Gm _,?_⟩)
 refine HF W (by rw[F8];omega) S hSf res items.size 0 _ #[] c₀ rfl (D5 _) ⟨D5 _,by simpa using hit,hl⟩ hS (Ld _) λs' acc' c' hm hS' hacc =>?_
 rw[Lr hm]
 refine hR s'.heap s'.toks acc' c' (λb o hb hbI e=>hm.heap b o (λhmem =>?_) e) hS' hacc
 rcases Dx.mp hmem with e' | hmem
 ·exact hb e'
 ·exact hbI (DD.mp hmem)
theorem x8 {R:Result->Dg->Prop}{I l:Addr}{items:Array C9}(hh:A.handled=none)(hit:s.heap.IsRevIter I l ((items.size:Int)-1))(hl:s.heap.IsList l items)(hne:l≠I)(hlen:items.size<=2 ^ 24)
    (S:Addr) (hSI:S≠I) (hSl:S≠l) (hS:s.heap.get? S=some { cls :=.type "list",data :=.seq #[] })
    (hR:∀h' tk acc' c',(∀b o,b≠S->b≠I->s.heap.get? b=some o->h'.get? b=some o)->h'.get? S=some { cls :=.type "list",dict:=none,data :=.seq acc' c',slots := #[] } →
      ItemsOf (λi v=>items[items.size-1-i]? = some v) acc' items.size->R (.ok (.ret .none)) { s with heap:=h',toks:=tk }) :
    DI (DS prog w) A.in1 (Builtin.«list.__init__» ⟨[.ref S,.ref I],[]⟩)
      (λfin s'=>match fin with | .done f=>R (.ok f) s' | .again c'=>c'.quiet=true/\Ji (DS prog w) A c' R s') (λe s'=>R (.error e) s') s:=by
  show DI _ _ (do let old ← Builtin.List.listItems (.ref S);Builtin.List.listUpdate (.ref S) (λ_ => #[]);letGo old.toList.reverse;DT (.ref S) (.ref I) .none) _ _ s
  refine C5 ?_
  unfold Builtin.List.listItems
  refine C5 (FD hS rfl (De ?_))
  show DI _ _ (updateSeq S (λ_ => #[]) >>= λ_=>letGo (#[]:Array C9).toList.reverse >>= λ_=>DT (.ref S) (.ref I) .none) _ _ s
  refine C5 (Gp hS rfl ?_)
  have hS₂:=EA (Fh (λ_=>(#[]:Array C9))) hS rfl
  have oth:∀b o,b≠S->s.heap.get? b=some o->(s.heap.update S (Fh (λ_=>(#[]:Array C9)))).get? b=some o :=
    λb o hb e=>(Eh _ _ (EB hb)).trans e
  refine C5 (Lk ?_)
  refine tI hh (hit.at λo e=>oth I o (EB hSI) e) (hl.at λo e=>oth l o (EB hSl) e) hne hlen S hSI hSl .none _ hS₂ λh' tk acc' c' hk hS' hacc =>?_
  exact hR h' tk acc' c' (λb o hb hbI e=>hk b o hb hbI (oth b o hb e)) hS' hacc
theorem x9 {Q:C9->Dg->Prop}{I l:Addr}{items:Array C9}(hh:A.handled=none)(hit:s.heap.IsRevIter I l ((items.size:Int)-1))(hl:s.heap.IsList l items)(hne:l≠I)(hlen:items.size<=2 ^ 24)
  (hQ:∀h' tk acc' c',(∀b o,b≠I->s.heap.get? b=some o->h'.get? b=some o) →
   h'.get? s.heap.objs.size=some { cls :=.type "list",dict:=none,data :=.seq acc' c',slots := #[] }->ItemsOf (λi v=>items[items.size-1-i]? = some v) acc' items.size->Q (.ref s.heap.objs.size) { s with heap:=h',toks:=tk }) :
  DI (DS prog w) A (call (.type "list") [.ref I]) Q E s:=by
 refine callType_codes (Q₁:=λobj s₁=>obj = .ref s.heap.objs.size/\s₁={ s with heap:=s.heap.push { cls :=.type "list",data :=.seq #[] } }) F.called_list (F.typeCall_list_1 _) F.entry_list_init
  (code_list_new _ ⟨rfl,rfl⟩) λobj s₁ h₁ =>?_
 obtain ⟨rfl,rfl⟩:=h₁
 have hS:(s.heap.push { cls :=.type "list",data :=.seq #[] }).get? s.heap.objs.size=some { cls :=.type "list",data :=.seq #[] }:=Dn _ rfl
 obtain ⟨oi,hoi,_⟩:=id hit
 obtain ⟨ol,hol,_⟩:=id hl
 refine ⟨⟨_,hS,rfl⟩,F.args_list_init_2 _ _,x8 (A:=A.in1) hh (hit.at λo e=>C7 _ e) (hl.at λo e=>C7 _ e) hne hlen _ (EB (Dw (Ds hoi))) (EB (Dw (Ds hol))) hS λh' tk acc' c' hk hS' hacc =>?_⟩
 exact ⟨rfl,hQ h' tk acc' c' (λb o hbI e=>hk b o (Dw (Ds e)) hbI (C7 _ e)) hS' hacc⟩
end
end L2.Rev
namespace L2
open PySem PySem.Spec PyProof.Rows
section
variable  {X:Cx}
theorem kz:ED "reversed" = some (.type "reversed"):=by decide +kernel
theorem yb:ED "list" = some (.type "list"):=by decide +kernel
theorem mz:∀{xs:List V} {us:List C9},Vals xs us->Vals xs.reverse us.reverse
 | [],[],_ =>.nil
 | x :: xs,u :: us,.cons h t=>by
  rw[Iq,Iq]
  exact (mz t).append (.cons h .nil)
def yc (K:Df)(te:TE):TE:=λσ H Q=>te σ H λx H1=>∃l xs,x = .ref l/\SqL K H1 l xs/\xs.length<=1000/\∀p,H1 p=none->Q (.ref p) (upd H1 p (.lst xs.reverse))
theorem tJ {e:Expr}{te:TE}{p1 p2 pos1 pos2:Pos}(hh:X.A.handled=none)(hg1:Gl X "list")(hm1:X.mg "list" = none)(hg2:Gl X "reversed")(hm2:X.mg "reversed" = none)(he:PE X e te)
  (hs1:Em [Expr.Call (.Name "reversed" p2) [e] [] pos2] X.env=(false,eval (.Call (.Name "reversed" p2) [e] [] pos2) X.env) :: Em [] X.env:=by rfl) (hp1:(Ih pos1 (Em [] X.env)).any (·.1)=false:=by rfl)
  (hs2:Em [e] X.env=(false,eval e X.env) :: Em [] X.env:=by rfl) (hp2:(Ih pos2 (Em [] X.env)).any (·.1)=false:=by rfl) :
  PE X (.Call (.Name "list" p1) [.Call (.Name "reversed" p2) [e] [] pos2] [] pos1) (yc X.K te):=by
 intro pins s σ H Q I h
 refine F1 (dW I hg1 hm1 yb ?_ (by decide) (by decide))
 refine Ez ?_ hs1 hp1
 rw[hs1]
 show DI _ _ (spliced ((false,eval (.Call (.Name "reversed" p2) [e] [] pos2) X.env) :: Ih pos1 (Em [] X.env))) _ _ s
 refine FZ ?_
 refine F1 (dW I hg2 hm2 kz ?_ (by decide) (by decide))
 refine Ez (thn ((aa he ah hs2) pos2 pins s σ H (λvs H1=>match vs with | [x]=>∃l xs,x = .ref l/\SqL X.K H1 l xs/\xs.length<=1000/\∀p,H1 p=none->Q (.ref p) (upd H1 p (.lst xs.reverse)) | _=>False) I ?_) λus s1 ⟨vs,H1,I1,r1,q1⟩ =>?_) hs2 hp2
 ·exact h
 ·match vs,q1 with
  | [x],q1 =>
  obtain ⟨l,xs,rfl,hx,h1000,q⟩:=q1
  obtain ⟨u,rfl,ru⟩:=vals1 r1
  cases (show u=DG l from ru)
  obtain ⟨its,r,hl,hz⟩:=I1.list hx
  have hL:s1.heap.IsList l its.toArray:=hl.isList
  refine call_reversed_list hL ?_
  refine Ho ?_
  have ll:=r.length
  obtain ⟨ol,hol,_⟩:=id hL
  refine Rev.x9 hh (I:=s1.heap.objs.size) (l:=l) (items:=its.toArray) ⟨_,Dn _ rfl,rfl,rfl⟩ (hL.at λo e=>C7 _ e) (Dw (Ds hol)) (by rw[Dk];omega) λh' tk acc' c' k e' it =>?_
  have ea:acc'.toList=its.reverse:=by
   refine Hs λj =>?_
   rw[Dt]
   have h1:acc'.size=its.length:=by rw[it.1,Dk]
   by_cases hj:j<its.length
   ·obtain ⟨v,hv⟩:∃v,acc'[j]? = some v:=⟨acc'[j]'(by omega),DN _⟩
    have:=it.2 j v hv
    dsimp only at this
    rw[DX,Dk] at this
    rw[hv,KD hj,this]
   ·rw[FL (by omega),FX (by rw[E2];omega)]
  have rv:=mz r
  rw[<- ea] at rv
  have L1:(s1.heap.push (revObj l (((its.toArray).size:Int)-1))).objs.size=s1.heap.objs.size+1:=by
   simp[Heap.push]
  refine ⟨.ref (s1.heap.push (revObj l (((its.toArray).size:Int)-1))).objs.size,_,I1.laid (o :=.lst xs.reverse) (λb u eb=>k b u (Dw (Ds eb)) (C7 _ eb)) (by rw[L1];omega) ⟨by rw[E2];exact hz,acc'.toList,c',rv,by simpa using e'⟩,rfl,q _ (I1.hok.fresh (by rw[L1];omega))⟩
end
section
variable  {X:Cx}
theorem kA:bL X (.builtin "len") (λxs H Q=>∃(a:Addr) (ys:List V),xs=[.ref a]/\H a=some (dv X.w a ys)/\ys.length<1000/\Q (.int ys.length) H):=by
 intro pins s σ H xs us Q I r h
 obtain ⟨a,ys,rfl,ha,hl,q⟩:=h
 obtain ⟨u,rfl,ru⟩:=vals1 r
 cases (show u=DG a from ru)
 obtain ⟨⟨es,⟨ep,t,ho,T,_⟩,rv⟩,_⟩:=(show bB X.prog X.w H s.heap a (dv X.w a ys) from I.hok a _ ha)
 have l:=rv.length
 have l2:es.size=ys.length:=by simpa using l.symm
 refine call_len_set ho ⟨rfl,rfl,rfl⟩ rfl (by have:=T.fits;rwa [Ey] at this) (by lia) ?_
 rw[l2]
 exact ⟨.int ys.length,H,I.tok _,⟨_,rfl⟩,q⟩
end
theorem Inv.v7 {X:Cx}{pins:List (Addr×Obj)}{σ:St}{H:Hp}{s:Dg}{h':Heap}{t':Nat}{ch:List Addr}(I:Inv X pins σ H s)(f:∀b∈ch,iM X pins H b)
  (k:∀b ob,b∉ch->s.heap.get? b=some ob->h'.get? b=some ob):Inv X pins σ H { s with heap:=h',toks:=t' }:=by
 have nit:∀b u,H b=some u->b∉ch:=λb u e z=>by have:=(f b z).1;rw[this] at e;cases e
 refine I.step (g':=s.gens) (d':=s.drawn) (ch:=ch) (λb hb =>?_) (λb o _ _ hc e _=>k b o hc e) (λb o _ _ hc e _=>⟨o.slots,k b o hc e⟩) (λ_ _ _ _ n=>n)
  (λb o hc e=>⟨o,k b o hc e⟩) (λ_ _ e=>e) (λ_ _ _ e=>e) (λb ps e=>⟨#[],by rw[e];simp⟩) (λm hm =>?_) (λb u e =>?_) I.bare
 ·obtain ⟨g0,g1,g2,g3,g4,g5⟩:=f b hb
  exact ⟨g3,g1,g4,g5⟩
 ·obtain ⟨o,es,ep,ho,r⟩:=hm
  exact ⟨o,es,ep,k _ o (λz=>(f _ z).2.1 rfl) ho,r⟩
 ·refine (I.hok b u e).stay (λc v hc q=>k c v ?_ q) (λ_ q=>q) λ_ _ q=>q
  rcases hc with z | z
  ·rw[z];exact nit b u e
  ·exact nit c _ z
theorem BS (n a b:Nat)(h1:a<n)(h2:b<n):ZipApart (n+4) (n+2) (n+3) n (n+1) a b :=
  ⟨λz=>absurd (show n+2=n+4 from z) (by lia),λz=>absurd (show n+3=n+4 from z) (by lia),λz=>absurd (show n=n+4 from z) (by lia),λz=>absurd (show n+1=n+4 from z) (by lia),λz=>absurd (show n+2=n+3 from z) (by lia),λz=>absurd (show n+2=n from z) (by lia),λz=>absurd (show n+2=n+1 from z) (by lia),λz=>absurd (show n+3=n from z) (by lia),λz=>absurd (show n+3=n+1 from z) (by lia),λz=>absurd (show n=n+1 from z) (by lia),
   λz=>absurd (show a=n+4 from z) (by lia),λz=>absurd (show a=n+3 from z) (by lia),λz=>absurd (show a=n from z) (by lia),λz=>absurd (show a=n+1 from z) (by lia),λz=>absurd (show b=n+4 from z) (by lia),λz=>absurd (show b=n+3 from z) (by lia),λz=>absurd (show b=n from z) (by lia),λz=>absurd (show b=n+1 from z) (by lia)⟩
theorem boot_zip:ED "zip" = some (.type "zip"):=by decide +kernel
section
variable  {X:Cx}
end
def Itd (d:Addr)(ob:Obj)(kvs:List (Key×V))(ks:List Int):It :=
 ⟨λi H=>H d=some (.frz ob (.dK kvs))/\∃k,ks[i]? = some k,λi H x H'=>H'=H/\∃k,ks[i]? = some k/\x = .int k,λi H=>H d=some (.frz ob (.dK kvs))/\ks.length<=i⟩
theorem v8 {P:DH}{w:Eb}{K:Df}{tg:Expr}{kvs:List (Key×V)}{ks:List Int}{vs:List (Key×C9)}{ep:Nat}{ob:Obj}{h0:Heap}(d it:Addr)(hm:h0.DictAt (bD P w) d vs ep)(ho:h0.get? d=some ob)(keys:vs.map (·.1)=ks.map Sum.inl) :
  Turn P w K tg (Itd d ob kvs ks) [it] it (λi h=>h.IsKeyIter it d i vs.length ep) where
 mem:=by simp
 obj:=λi h st b hb=>by
  have e:b=it:=by simpa using hb
  subst e
  obtain ⟨o,e,c,d⟩:=st
  exact ⟨o,e,λv z=>by rw[d] at z;cases z⟩
 keep:=λi h h' st k=>by
  obtain ⟨o,e,r⟩:=st
  exact ⟨o,k it (by simp) o e,r⟩
 item:=by
  intro X hP hw hK hc i pins s σ H E I hf st hg
  subst hP hw hK
  obtain ⟨hd,k,hk⟩:=hg
  have e1:s.heap.get? d=some ob:=(show bB X.prog X.w H s.heap d (.frz ob (.dK kvs)) from I.hok d _ hd).1
  have hm1:s.heap.DictAt (bD X.prog X.w) d vs ep:=by
   obtain ⟨o,es,h1,r⟩:=hm
   rw[ho] at h1
   cases h1
   exact ⟨ob,es,e1,r⟩
  obtain ⟨f0,f1,f2,f3,f4,f5⟩:=hf it (by simp)
  obtain ⟨kv,hx,hkv⟩:∃kv,vs[i]? = some kv/\kv.1=Sum.inl k:=by
   have e3:(vs.map (·.1))[i]? = some (Sum.inl k):=by rw[keys,Dq,hk];rfl
   rw[Dq] at e3
   cases hv:vs[i]? with
   | none=>rw[hv] at e3;cases e3
   | some kv=>rw[hv] at e3;exact ⟨kv,rfl,by injection e3⟩
  obtain ⟨k',x⟩:=kv
  have hkv':k'=Sum.inl k:=hkv
  subst hkv'
  refine wpAny_pyNext_dict_item st hm1 hx λkey h' ik st' sb =>?_
  obtain ⟨t,rfl⟩:=Hl (show Value.isInt k key=true from ik)
  have I1:Inv X pins σ H { s with heap:=h' }:=I.turned (t':=s.toks) (λb o hb e=>(sb.2 b hb).trans e) f0 f1 f3 f4 f5
  obtain ⟨o,e,c,dd⟩:=id st'
  exact ⟨_,rfl,t8 (s:={ s with heap:=h' }) e c dd (by decide) ⟨.int k,H,I1,⟨_,rfl⟩,⟨rfl,k,hk,rfl⟩,st',λb hb=>(hf b hb).1⟩⟩
 done:=by
  intro X hP hw hK hc i pins s σ H E I hf st hg
  subst hP hw hK
  obtain ⟨hd,hl⟩:=hg
  have e1:s.heap.get? d=some ob:=(show bB X.prog X.w H s.heap d (.frz ob (.dK kvs)) from I.hok d _ hd).1
  have hm1:s.heap.DictAt (bD X.prog X.w) d vs ep:=by
   obtain ⟨o,es,h1,r⟩:=hm
   rw[ho] at h1
   cases h1
   exact ⟨ob,es,e1,r⟩
  obtain ⟨f0,f1,f2,f3,f4,f5⟩:=hf it (by simp)
  have lv:vs.length=ks.length:=by have:=congrArg List.length keys;simpa using this
  exact wpAny_pyNext_dict_end (I.ok.hd hc) st hm1 (Ft.mpr (by lia)) λh' eb=>⟨rfl,I.turned (t':=s.toks) (λb o hb e=>eb b o hb e) f0 f1 f3 f4 f5⟩
 self:=λ_ _ _ _ _ st h=>wpAny_pyIter_keyiter st h
theorem Inv.freeze {X:Cx}{pins:List (Addr×Obj)}{σ:St}{H:Hp}{s:Dg}{d:Addr}{ob:Obj}{kvs:List (Key×V)}(I:Inv X pins σ H s)(hd:H d=some (.dK kvs))(ho:s.heap.get? d=some ob):Inv X pins σ (upd H d (.frz ob (.dK kvs))) s:=by
 have tt:∀b xs,H b=some (.tup xs)->upd H d (.frz ob (.dK kvs)) b=some (.tup xs):=λb xs e=>by rw[az (cF e hd (by intro z;cases z))];exact e
 have oo:∀b,H b=none->upd H d (.frz ob (.dK kvs)) b=none:=λb e=>by
  rw[az (λz=>by rw[z,hd] at e;cases e)];exact e
 refine I.step (g':=s.gens) (d':=s.drawn) (t':=s.toks) (h':=s.heap) (ch:=[]) (λ_ z=>nomatch z) (λb o _ _ _ e _=>e) (λb o _ _ _ e _=>⟨o.slots,e⟩) (λb o _ _ n=>oo b n) (λb o _ e=>⟨o,e⟩) tt (λb o u e=>by rw[az (cF e hd (by intro z;cases z))];exact e)
  (λb ps e=>⟨#[],by rw[az (cF e hd (by intro z;cases z)),e];simp⟩) (λ_ m=>m) (λb u e =>?_) I.bare
 by_cases hb:b=d
 ·subst hb
  rw[ag] at e
  cases e
  exact ⟨ho,(show bB X.prog X.w H s.heap b (.dK kvs) from I.hok b _ hd)⟩
 ·rw[az hb] at e
  refine (I.hok b u e).stay (λc v _ q=>q) (λc q =>?_) λc xs q=>tt c xs q
  rw[az (cF q hd (by intro z;cases z))];exact q
theorem tK {d:Addr}{ob:Obj}{kvs:List (Key×V)}{ks:List Int}{k:Nat}{tc:TT}{te:TE}{τ:St}{H:Hp}{Q:VK}(Pv:Nat->List V->Hp->Prop)(h0:Pv 0 [] H)(hz:ks.length<=Dm)
  (hl:∀i ys H,i<=ks.length->Pv i ys H->H d=some (.frz ob (.dK kvs))) (hs:∀i x ys H,ks[i]? = some x->ys.length<=i->Pv i ys H->qI k tc te τ Pv i (.int x) ys H)
  (hd:∀ys H,ys.length<=ks.length->Pv ks.length ys H->∀l,H l=none->Q (.ref l) (upd H l (.lst ys))) :
  iU (Itd d ob kvs ks) (eA k) tc te τ Q H:=by
 refine ⟨λi m σ ys H=>m=ks.length-i/\i<=ks.length/\(∀x,σ.set k (some x)=τ.set k (some x))/\ys.length<=i/\Pv i ys H,⟨ks.length,by simp,D5 _,λ_=>rfl,Dd _,h0⟩,?_⟩
 rintro i m σ ys H ⟨rfl,hi,hτ,hy,p⟩
 have q:=hl i ys H hi p
 by_cases hlt:i<ks.length
 ·refine .inr ⟨⟨q,ks[i],by simp[hlt]⟩,λx H' y =>?_⟩
  obtain ⟨e,n,hn,rfl⟩:=y
  subst e
  show tc (σ.set k (some _)) _ _
  rw[hτ (.int n)]
  have hσ:∀z,(τ.set k (some (.int n))).set k (some z)=τ.set k (some z):=λz=>by rw[G9]
  refine hs i n ys _ hn hy p _ _ (λy4 H4 p4=>⟨by lia,ks.length-(i+1),by lia,rfl,hlt,hσ,by rw[C8,D9];lia,p4⟩) λH3 p3=>⟨ks.length-(i+1),by lia,rfl,hlt,hσ,by lia,p3⟩
 ·have e:i=ks.length:=by lia
  subst e
  exact .inl ⟨⟨q,Dd _⟩,by lia,hd ys H hy p⟩
def Ad:Stmt->List Stmt
 | .For _ _ body _ _=>body
 | _=>[]
variable  {X:Cx}
section
variable  {X:Cx}
def uI (K:Df):R2:=λx y H Q=>∃a b xs ys,x = .ref a/\y = .ref b/\SqT K H a xs/\SqT K H b ys/\xs.length+ys.length<=Dm/\(xs=[]->Q (.ref b) H)/\(ys=[]->Q (.ref a) H)/\(xs≠[]->ys≠[]->∀p,H p=none->Q (.ref p) (upd H p (.tup (xs++ys))))
theorem yd:OpR X (binaryOp .Add) (uI X.K):=by
 intro pins s σ H x y v u Q I rx ry h
 obtain ⟨a,b,xs,ys,rfl,rfl,ha,hb,hz,q1,q2,q3⟩:=h
 by_cases hx:xs=[]
 ·cases rx
  cases ry
  obtain ⟨its,r1,p1,_⟩:=I.tuple ha
  obtain ⟨its2,r2,p2,_⟩:=I.tuple hb
  obtain ⟨⟨c1,d1,da1,s1⟩,o1,k1,n1,g1⟩:=id p1
  obtain ⟨⟨c2,d2,da2,s2⟩,o2,k2,n2,g2⟩:=id p2
  simp only at k1 g1 k2 g2
  subst k1 g1 k2 g2
  have e0:its=[]:=r1.kN.mpr hx
  exact KI ⟨_,o1,rfl⟩ ⟨_,o2,rfl⟩ Kg Lx Ii HZ (HP _ _)
   (tuple_addW0 a b its.toArray its2.toArray n1 n2 d1 d2 s1 s2 (by simp[e0])) ⟨o1,o2,⟨.ref b,H,I,rfl,q1 hx⟩⟩
 ·exact zr pins s σ H _ _ v u Q I rx ry ⟨a,b,xs,ys,rfl,rfl,ha,hb,hx,hz,q2,λhy=>q3 hx hy⟩
theorem uI.one {K:Df}{H:Hp}{Q:VK}{a b:Addr}{xs ys:List V}(ha:H a=some (.tup xs))(hb:H b=some (.tup ys))(hz:xs.length+ys.length<=Dm)(q:∀p H',aB H H'->H' p=some (.tup (xs++ys))->Q (.ref p) H'):uI K (.ref a) (.ref b) H Q:=by
 refine ⟨a,b,xs,ys,rfl,rfl,SqT.of ha,SqT.of hb,hz,λz =>?_,λz =>?_,λ_ _ p hp=>q p _ (ae hp _) ag⟩
 ·subst z;exact q b H (aB.refl _) hb
 ·subst z;exact q a H (aB.refl _) (by rw[DZ];exact ha)
end
def ItB:Bool->Heap->Addr->Addr->Nat->Prop
 | true,h,it,l,i=>h.IsListIter it l i
 | false,h,it,l,i=>h.IsTupleIter it l i
def SB':Bool->Heap->Addr->Array C9->Prop
 | true,h,l,xs=>h.IsList l xs
 | false,h,l,xs=>h.IsTuple l xs
theorem ItB.to {b:Bool}{h h':Heap}{it l:Addr}{i:Nat}(x:ItB b h it l i)(k:∀o,h.get? it=some o->h'.get? it=some o):ItB b h' it l i:=by
 cases b
 ·exact Heap.IsTupleIter.at (show h.IsTupleIter it l i from x) k
 ·exact Heap.IsListIter.at (show h.IsListIter it l i from x) k
theorem SB'.to {b:Bool}{h h':Heap}{l:Addr}{xs:Array C9}(x:SB' b h l xs)(k:∀o,h.get? l=some o->h'.get? l=some o):SB' b h' l xs:=by
 cases b
 ·obtain ⟨o,e,r⟩:=(show h.IsTuple l xs from x);exact ⟨o,k o e,r⟩
 ·obtain ⟨o,e,r⟩:=(show h.IsList l xs from x);exact ⟨o,k o e,r⟩
theorem ItB.lt {b:Bool}{h:Heap}{it l:Addr}{i:Nat}(x:ItB b h it l i):it<h.objs.size:=by
 cases b
 ·obtain ⟨o,e,_⟩:=(show h.IsTupleIter it l i from x);exact Ds e
 ·obtain ⟨o,e,_⟩:=(show h.IsListIter it l i from x);exact Ds e
theorem ItB.obj {b:Bool}{h:Heap}{it l:Addr}{i:Nat}(x:ItB b h it l i):∃o,h.get? it=some o/\∀v,o.data ≠ .cell v:=by
 cases b
 ·obtain ⟨o,e,_,d⟩:=(show h.IsTupleIter it l i from x);exact ⟨o,e,λv z=>by rw[d] at z;cases z⟩
 ·obtain ⟨o,e,_,d⟩:=(show h.IsListIter it l i from x);exact ⟨o,e,λv z=>by rw[d] at z;cases z⟩
section
variable  {prog:DH}{w:Eb}{A:Ep}{E:C9->Dg->Prop}{s:Dg}
theorem ye {b:Bool}{it l:Addr}{i:Nat}{xs:Array C9}{x:C9}{Q:C9->Dg->Prop}(hi:ItB b s.heap it l i)(hl:SB' b s.heap l xs)(hx:xs[i]? = some x)
  (q:∀h',ItB b h' it l (i+1)->Heap.SameBut it s.heap h'->Q x { s with heap:=h' }):DI (DS prog w) A (Builtin.SmallTypes.nextOf (.ref it)) Q E s:=by
 cases b
 ·exact lR hi hl hx q
 ·exact wpAny_nextOf_list_item hi hl hx q
theorem oK {b:Bool}{it l:Addr}{i:Nat}{xs:Array C9}{Q:C9->Dg->Prop}(hh:A.handled=none)(hi:ItB b s.heap it l i)(hl:SB' b s.heap l xs)(hx:xs[i]? = none)
  (q:∀h' e,Heap.ExtBut it s.heap h'->(∃o,h'.get? e=some o/\o.cls = .type "StopIteration")->E (.ref e) { s with heap:=h' }):DI (DS prog w) A (Builtin.SmallTypes.nextOf (.ref it)) Q E s:=by
 cases b
 ·exact dZ hh hi hl hx q
 ·exact wpAny_nextOf_list_end hh hi hl hx q
theorem v9 {c d:Bool}{z TI TO i1 i2 l1 l2:Addr}{k1 k2:Nat}{xs ys:Array C9}{x y a b:C9}{Q:C9->Dg->Prop}(D:ZipApart z TI TO i1 i2 l1 l2)
  (hz:IsZip s.heap z TI TO .none) (hTI:IsPair s.heap TI (.ref i1) (.ref i2)) (hTO:IsPair s.heap TO a b)
  (j1:ItB c s.heap i1 l1 k1) (j2:ItB d s.heap i2 l2 k2) (m1:SB' c s.heap l1 xs) (m2:SB' d s.heap l2 ys) (hx:xs[k1]? = some x) (hy:ys[k2]? = some y)
  (hQ:∀h',IsZip h' z TI TO (GN s.heap.objs.size)->IsPair h' TO x y->ItB c h' i1 l1 (k1+1)->ItB d h' i2 l2 (k2+1)->IsPair h' s.heap.objs.size x y->h'.objs.size=s.heap.objs.size+1 →
   (∀c o,c≠z->c≠TO->c≠i1->c≠i2->s.heap.get? c=some o->h'.get? c=some o)->Q (.ref s.heap.objs.size) { s with heap:=h' }) :
  DI (DS prog w) A (Builtin.«zip.__next__» ⟨[.ref z],[]⟩) (λfin s'=>∃v,fin = .done (.ret v)/\Q v s') E s:=by
 show DI _ _ (field (.ref z) 2 >>= _) _ _ _;refine C5 (EM hz rfl (x :=.bool false) rfl ?_)
 show DI _ _ (field (.ref z) 3 >>= _) _ _ _;refine C5 (EM hz rfl (x :=.ref TI) rfl ?_)
 refine C5 (FD hTI rfl ?_);show DI _ _ (Builtin.SmallTypes.ownedTupleIsFree (.ref z) >>= _) _ _ _
 refine C5 ?_;unfold Builtin.SmallTypes.ownedTupleIsFree
 refine C5 (EM hz rfl (x :=.none) rfl (De ?_));simp only[if_true]
 refine C5 (FI ?_);refine C5 (EM hz rfl (x :=.ref TO) rfl ?_)
 refine C5 (Fp hz (by simp) λg1 hz1 s1 =>?_);replace hz1:IsZip g1 z TI TO .ellipsis:=hz1
 refine C5 ?_;simp only[Kb,Mm,Kv,MC]
 refine C5 (C5 (J8 ?_));show DI _ _ (Builtin.SmallTypes.nextOf (.ref i1) >>= _) _ _ _
 refine C5 (ye (j1.to λo e=>s1.extBut _ _ D.i1z e) (m1.to λo e=>s1.extBut _ _ D.l1z e) hx λg2 j1' s2=>De ?_)
 have t2:IsPair g2 TO a b:=s2.extBut _ _ D.TOi1 (s1.extBut _ _ D.TOz hTO)
 refine C5 (FD t2 rfl ?_);refine C5 (IP t2 λg3 t3 s3 =>?_)
 replace t3:IsPair g3 TO x b:=t3;refine C5 (Lk (De ?_))
 refine C5 (C5 (J8 ?_));show DI _ _ (Builtin.SmallTypes.nextOf (.ref i2) >>= _) _ _ _
 refine C5 (ye (((j2.to λo e=>s1.extBut _ _ D.i2z e).to λo e=>s2.extBut _ _ D.i12.symm e).to λo e=>s3.extBut _ _ D.TOi2.symm e) (((m2.to λo e=>s1.extBut _ _ D.l2z e).to λo e=>s2.extBut _ _ D.l2i1 e).to λo e=>s3.extBut _ _ D.l2TO e) hy λg4 j2' s4=>De ?_)
 have t4:IsPair g4 TO x b:=s4.extBut _ _ D.TOi2 t3
 refine C5 (FD t4 rfl ?_);refine C5 (IP t4 λg5 t5 s5 =>?_)
 replace t5:IsPair g5 TO x y:=t5;refine C5 (Lk (De (De ?_)))
 refine C5 (FD t5 rfl ?_);refine C5 (wpAny_newTuple ?_)
 have sz:g5.objs.size=s.heap.objs.size:=by rw[s5.1,s4.1,s3.1,s2.1,s1.1]
 have z5:IsZip g5 z TI TO .ellipsis:=s5.extBut _ _ D.TOz.symm (s4.extBut _ _ D.i2z.symm (s3.extBut _ _ D.TOz.symm (s2.extBut _ _ D.i1z.symm hz1)))
 have k5:∀c o,c≠z->c≠TO->c≠i1->c≠i2->s.heap.get? c=some o->g5.get? c=some o:=λc o c1 c2 c3 c4 e=>s5.extBut _ _ c2 (s4.extBut _ _ c4 (s3.extBut _ _ c2 (s2.extBut _ _ c3 (s1.extBut _ _ c1 e))))
 have n1:ItB c g5 i1 l1 (k1+1):=((j1'.to λo e=>s3.extBut _ _ D.TOi1.symm e).to λo e=>s4.extBut _ _ D.i12 e).to λo e=>s5.extBut _ _ D.TOi1.symm e
 have n2:ItB d g5 i2 l2 (k2+1):=j2'.to λo e=>s5.extBut _ _ D.TOi2.symm e
 have zl:z<g5.objs.size:=Ds z5
 show DI _ _ (Builtin.SmallTypes.ownedTupleHandOut (.ref z) (.ref g5.objs.size) >>= _) _ _ _;refine C5 ?_
 unfold Builtin.SmallTypes.ownedTupleHandOut
 have z6:IsZip (g5.push { cls :=.type "tuple",data :=.seq #[x,y] }) z TI TO .ellipsis:=C7 _ z5
 refine C5 (Fp z6 (by simp) λg7 z7 s7 =>?_);replace z7:IsZip g7 z TI TO (GN g5.objs.size):=z7
 refine Fp z7 (by simp) λg8 z8 s8 =>?_;replace z8:IsZip g8 z TI TO (GN g5.objs.size):=z8
 have up:∀c o,c≠z->g5.get? c=some o->g8.get? c=some o:=λc o c1 e=>s8.extBut _ _ c1 (s7.extBut _ _ c1 (C7 _ e))
 have p8:IsPair g8 g5.objs.size x y:=s8.extBut _ _ (FV zl) (s7.extBut _ _ (FV zl) (Dn _ rfl))
 have e8:g8.objs.size=g5.objs.size+1:=by rw[s8.1,s7.1,E5]
 rw[sz] at z8 p8 e8
 refine De ⟨_,rfl,?_⟩;show Q (.ref g5.objs.size) _;rw[sz]
 exact hQ g8 z8 (up _ _ D.TOz t5) (n1.to λo e=>up _ o D.i1z e) (n2.to λo e=>up _ o D.i2z e) p8 e8 λc o c1 c2 c3 c4 e=>up c o c1 (k5 c o c1 c2 c3 c4 e)
theorem yf {c d:Bool}{z TI TO i1 i2 l1 l2:Addr}{k1 k2:Nat}{xs ys:Array C9}{a b:C9}{Q:Fin->Dg->Prop}(hh:A.handled=none)(D:ZipApart z TI TO i1 i2 l1 l2)
  (hz:IsZip s.heap z TI TO .none) (hTI:IsPair s.heap TI (.ref i1) (.ref i2)) (hTO:IsPair s.heap TO a b)
  (j1:ItB c s.heap i1 l1 k1) (j2:ItB d s.heap i2 l2 k2) (m1:SB' c s.heap l1 xs) (m2:SB' d s.heap l2 ys) (hend:xs[k1]? = none\/ys[k2]? = none)
  (hE:∀h' e,(∀c o,c≠z->c≠TO->c≠i1->c≠i2->s.heap.get? c=some o->h'.get? c=some o)->(∃o,h'.get? e=some o/\o.cls = .type "StopIteration")->E (.ref e) { s with heap:=h' }) :
  DI (DS prog w) A (Builtin.«zip.__next__» ⟨[.ref z],[]⟩) Q E s:=by
 show DI _ _ (field (.ref z) 2 >>= _) _ _ _;refine C5 (EM hz rfl (x :=.bool false) rfl ?_)
 show DI _ _ (field (.ref z) 3 >>= _) _ _ _;refine C5 (EM hz rfl (x :=.ref TI) rfl ?_)
 refine C5 (FD hTI rfl ?_);show DI _ _ (Builtin.SmallTypes.ownedTupleIsFree (.ref z) >>= _) _ _ _
 refine C5 ?_;unfold Builtin.SmallTypes.ownedTupleIsFree
 refine C5 (EM hz rfl (x :=.none) rfl (De ?_));simp only[if_true]
 refine C5 (FI ?_);refine C5 (EM hz rfl (x :=.ref TO) rfl ?_)
 refine C5 (Fp hz (by simp) λg1 hz1 s1 =>?_);replace hz1:IsZip g1 z TI TO .ellipsis:=hz1
 refine C5 ?_;simp only[Kb,Mm,Kv,MC]
 refine C5 (C5 (J8 ?_));show DI _ _ (Builtin.SmallTypes.nextOf (.ref i1) >>= _) _ _ _
 cases hx:xs[k1]? with
 | none =>
  refine C5 (oK hh (j1.to λo e=>s1.extBut _ _ D.i1z e) (m1.to λo e=>s1.extBut _ _ D.l1z e) hx λg2 e s2 he =>?_)
  obtain ⟨oe,hoe,hce⟩:=he
  have z2:IsZip g2 z TI TO .ellipsis:=s2 _ _ D.i1z.symm hz1
  have hez:e≠z:=λx=>by subst x;rw[z2] at hoe;cases hoe;simp at hce
  refine Fp z2 (by simp) λg3 _ s3=>hE g3 e (λc o c1 _ c3 _ x=>s3.extBut _ _ c1 (s2 _ _ c3 (s1.extBut _ _ c1 x))) ⟨oe,s3.extBut _ _ hez hoe,hce⟩
 | some x =>
  have hy:ys[k2]? = none:=by rcases hend with h | h;rw[hx] at h;cases h;exact h
  refine C5 (ye (j1.to λo e=>s1.extBut _ _ D.i1z e) (m1.to λo e=>s1.extBut _ _ D.l1z e) hx λg2 j1' s2=>De ?_)
  have t2:IsPair g2 TO a b:=s2.extBut _ _ D.TOi1 (s1.extBut _ _ D.TOz hTO)
  refine C5 (FD t2 rfl ?_);refine C5 (IP t2 λg3 t3 s3 =>?_)
  refine C5 (Lk (De ?_));refine C5 (C5 (J8 ?_))
  show DI _ _ (Builtin.SmallTypes.nextOf (.ref i2) >>= _) _ _ _;refine C5 (oK hh (((j2.to λo e=>s1.extBut _ _ D.i2z e).to λo e=>s2.extBut _ _ D.i12.symm e).to λo e=>s3.extBut _ _ D.TOi2.symm e) (((m2.to λo e=>s1.extBut _ _ D.l2z e).to λo e=>s2.extBut _ _ D.l2i1 e).to λo e=>s3.extBut _ _ D.l2TO e) hy λg4 e s4 he =>?_)
  obtain ⟨oe,hoe,hce⟩:=he
  have z4:IsZip g4 z TI TO .ellipsis:=s4 _ _ D.i2z.symm (s3.extBut _ _ D.TOz.symm (s2.extBut _ _ D.i1z.symm hz1))
  have hez:e≠z:=λx=>by subst x;rw[z4] at hoe;cases hoe;simp at hce
  refine Fp z4 (by simp) λg5 _ s5=>hE g5 e (λc o c1 c2 c3 c4 x=>s5.extBut _ _ c1 (s4 _ _ c4 (s3.extBut _ _ c2 (s2.extBut _ _ c3 (s1.extBut _ _ c1 x))))) ⟨oe,s5.extBut _ _ hez hoe,hce⟩
theorem rB {c d:Bool}{z TI TO i1 i2 l1 l2:Addr}{k1 k2:Nat}{xs ys:Array C9}{x y a b:C9}{Q:Option C9->Dg->Prop}(D:ZipApart z TI TO i1 i2 l1 l2)
  (hz:IsZip s.heap z TI TO .none) (hTI:IsPair s.heap TI (.ref i1) (.ref i2)) (hTO:IsPair s.heap TO a b)
  (j1:ItB c s.heap i1 l1 k1) (j2:ItB d s.heap i2 l2 k2) (m1:SB' c s.heap l1 xs) (m2:SB' d s.heap l2 ys) (hx:xs[k1]? = some x) (hy:ys[k2]? = some y)
  (hQ:∀h',IsZip h' z TI TO (GN s.heap.objs.size)->IsPair h' TO x y->ItB c h' i1 l1 (k1+1)->ItB d h' i2 l2 (k2+1)->IsPair h' s.heap.objs.size x y->h'.objs.size=s.heap.objs.size+1 →
   (∀c o,c≠z->c≠TO->c≠i1->c≠i2->s.heap.get? c=some o->h'.get? c=some o)->Q (some (.ref s.heap.objs.size)) { s with heap:=h' }):DI (DS prog w) A (pyNext (.ref z)) Q E s:=by
 have hT:s.TypeIs (.ref z) "zip" :=⟨_,hz,rfl⟩
 unfold pyNext;exact C5 (FT (EF (name:=Str.ofString "__next__") hT Je (Ei Je hT L7 (v9 D hz hTI hTO j1 j2 m1 m2 hx hy λh' a1 a2 a3 a4 a5 a6 a7=>De (hQ h' a1 a2 a3 a4 a5 a6 a7)) (LK _))))
theorem kK {c d:Bool}{z TI TO i1 i2 l1 l2:Addr}{k1 k2:Nat}{xs ys:Array C9}{a b:C9}{Q:Option C9->Dg->Prop}(hh:A.handled=none)(D:ZipApart z TI TO i1 i2 l1 l2)
  (hz:IsZip s.heap z TI TO .none) (hTI:IsPair s.heap TI (.ref i1) (.ref i2)) (hTO:IsPair s.heap TO a b)
  (j1:ItB c s.heap i1 l1 k1) (j2:ItB d s.heap i2 l2 k2) (m1:SB' c s.heap l1 xs) (m2:SB' d s.heap l2 ys) (hend:xs[k1]? = none\/ys[k2]? = none)
  (hQ:∀h',(∀c o,c≠z->c≠TO->c≠i1->c≠i2->s.heap.get? c=some o->h'.get? c=some o)->Q none { s with heap:=h' }):DI (DS prog w) A (pyNext (.ref z)) Q E s:=by
 have hT:s.TypeIs (.ref z) "zip" :=⟨_,hz,rfl⟩
 unfold pyNext;refine C5 (FT (EF (name:=Str.ofString "__next__") hT Je (Ei Je hT L7 (yf hh D hz hTI hTO j1 j2 m1 m2 hend λh' e hk he =>?_) (LK _))))
 obtain ⟨o,ho,hc⟩:=he
 refine C5 (FJ (T := "StopIteration") (b:=true) ⟨o,ho,hc⟩ JF ?_);exact De (hQ _ hk)
def uJ:Bool->String
 | true => "list_iterator"
 | false => "tuple_iterator"
def zB1 (c:Bool)(h:Heap)(l1:Addr):Heap:=h.push { cls :=.type (uJ c),data :=.fields #[.ref l1,.int 0 0] }
def zB2 (c d:Bool)(h:Heap)(l1 l2:Addr):Heap:=(zB1 c h l1).push { cls :=.type (uJ d),data :=.fields #[.ref l2,.int 0 0] }
def zB3 (c d:Bool)(h:Heap)(l1 l2:Addr):Heap:=(zB2 c d h l1 l2).push { cls :=.type "tuple",data :=.seq #[.ref h.objs.size,.ref (zB1 c h l1).objs.size] }
def zB4 (c d:Bool)(h:Heap)(l1 l2:Addr):Heap:=(zB3 c d h l1 l2).push { cls :=.type "tuple",data :=.seq #[.none,.none] }
def zB5 (c d:Bool)(h:Heap)(l1 l2:Addr):Heap:=(zB4 c d h l1 l2).push { cls :=.type "zip",data :=.fields #[.none,.bool false,.bool false,.ref (zB2 c d h l1 l2).objs.size,.ref (zB3 c d h l1 l2).objs.size] }
theorem AQ {c:Bool}{l:Addr}{xs:Array C9}{Q:C9->Dg->Prop}(hl:SB' c s.heap l xs)(q:Q (.ref s.heap.objs.size) { s with heap:=zB1 c s.heap l }):DI (DS prog w) A (pyIter (.ref l)) Q E s:=by
 cases c
 ·exact F0 hl q
 ·exact Hv hl q
theorem yg (c d:Bool)(l1 l2:Addr)(xs ys:Array C9):Meets (Builtin.«zip.__new__» ⟨[.type "zip",.ref l1,.ref l2],[]⟩) (λ_ R s=>SB' c s.heap l1 xs/\SB' d s.heap l2 ys ∧
   R (.ok (.ret (.ref (zB4 c d s.heap l1 l2).objs.size))) { s with heap:=zB5 c d s.heap l1 l2 }) :=
 .of_wp λprog w A R s h=>by
  obtain ⟨hp,g,dr,tk,os⟩:=s;obtain ⟨hl1,hl2,h⟩:=h
  have hsub:=sub_zip
  have m1:SB' c (Shared.heap ⟨hp,g,dr,tk,os⟩) l1 xs:=hl1
  have m2:SB' d (Shared.heap ⟨zB1 c hp l1,g,dr,tk,os⟩) l2 ys:=hl2.to λo e=>C7 _ e
  wp_walk using AQ m1,AQ m2
  exact ⟨_,rfl,h⟩
theorem wa {c d:Bool}{l1 l2:Addr}{xs ys:Array C9}{Q:C9->Dg->Prop}(m1:SB' c s.heap l1 xs)(m2:SB' d s.heap l2 ys)
  (h:∀h',IsZip h' (s.heap.objs.size+4) (s.heap.objs.size+2) (s.heap.objs.size+3) .none->IsPair h' (s.heap.objs.size+2) (.ref s.heap.objs.size) (.ref (s.heap.objs.size+1)) →
   IsPair h' (s.heap.objs.size+3) .none .none->ItB c h' s.heap.objs.size l1 0->ItB d h' (s.heap.objs.size+1) l2 0 →
   (∀c o,s.heap.get? c=some o->h'.get? c=some o)->Q (.ref (s.heap.objs.size+4)) { s with heap:=h' }):DI (DS prog w) A (call (.type "zip") [.ref l1,.ref l2]) Q E s:=by
 refine Jv F.called_zip (by decide) (F.typeCall_zip_2 _ _) (F.newCall_zip_2 _ _) (λobj=>F.args_object_init_3 obj _ _) F.entry_zip_new (yg c d l1 l2 xs ys) ⟨m1,m2,?_⟩
 have z1:(zB1 c s.heap l1).objs.size=s.heap.objs.size+1:=E5 ..
 have z2:(zB2 c d s.heap l1 l2).objs.size=s.heap.objs.size+2:=(E5 ..).trans (by rw[z1])
 have z3:(zB3 c d s.heap l1 l2).objs.size=s.heap.objs.size+3:=(E5 ..).trans (by rw[z2])
 have z4:(zB4 c d s.heap l1 l2).objs.size=s.heap.objs.size+4:=(E5 ..).trans (by rw[z3])
 have g5:(zB5 c d s.heap l1 l2).get? (zB4 c d s.heap l1 l2).objs.size=some { cls :=.type "zip",data :=.fields #[.none,.bool false,.bool false,.ref (zB2 c d s.heap l1 l2).objs.size,.ref (zB3 c d s.heap l1 l2).objs.size] }:=Dn _ rfl
 have g4:(zB5 c d s.heap l1 l2).get? (zB3 c d s.heap l1 l2).objs.size=some { cls :=.type "tuple",data :=.seq #[.none,.none] }:=C7 _ (Dn _ rfl)
 have g3:(zB5 c d s.heap l1 l2).get? (zB2 c d s.heap l1 l2).objs.size=some { cls :=.type "tuple",data :=.seq #[.ref s.heap.objs.size,.ref (zB1 c s.heap l1).objs.size] }:=C7 _ (C7 _ (Dn _ rfl))
 have g2:(zB5 c d s.heap l1 l2).get? (zB1 c s.heap l1).objs.size=some { cls :=.type (uJ d),data :=.fields #[.ref l2,.int 0 0] }:=C7 _ (C7 _ (C7 _ (Dn _ rfl)))
 have g1:(zB5 c d s.heap l1 l2).get? s.heap.objs.size=some { cls :=.type (uJ c),data :=.fields #[.ref l1,.int 0 0] }:=C7 _ (C7 _ (C7 _ (C7 _ (Dn _ rfl))))
 show _/\_
 rw[z2,z3,z4] at g5
 rw[z1,z2] at g3
 rw[z3] at g4
 rw[z1] at g2
 rw[z4]
 refine ⟨⟨_,g5,rfl⟩,h _ g5 g3 g4 ?_ ?_ λc' o x=>C7 _ (C7 _ (C7 _ (C7 _ (C7 _ x))))⟩
 ·cases c
  ·exact ⟨_,g1,rfl,rfl⟩
  ·exact ⟨_,g1,rfl,rfl⟩
 ·cases d
  ·exact ⟨_,g2,rfl,rfl⟩
  ·exact ⟨_,g2,rfl,rfl⟩
end
def SqB (K:Df):Bool->Hp->Addr->List V->Prop
 | true,H,a,xs=>SqL K H a xs
 | false,H,a,xs=>SqT K H a xs
theorem SqB.row {X:Cx}{c:Bool}{pins:List (Addr×Obj)}{σ:St}{H:Hp}{s:Dg}(I:Inv X pins σ H s){a:Addr}{xs:List V}(h:SqB X.K c H a xs):∃its:List C9,Vals xs its/\SB' c s.heap a its.toArray:=by
 cases c
 ·obtain ⟨its,r,p,_⟩:=I.tuple (show SqT X.K H a xs from h);exact ⟨its,r,p⟩
 ·obtain ⟨its,r,p,_⟩:=I.list (show SqL X.K H a xs from h);exact ⟨its,r,p.isList⟩
theorem SB'.lt {c:Bool}{h:Heap}{l:Addr}{xs:Array C9}(x:SB' c h l xs):l<h.objs.size:=by
 cases c
 ·obtain ⟨o,e,_⟩:=(show h.IsTuple l xs from x);exact Ds e
 ·obtain ⟨o,e,_⟩:=(show h.IsList l xs from x);exact Ds e
theorem SqB.inj {X:Cx}{c:Bool}{pins:List (Addr×Obj)}{σ:St}{H:Hp}{s:Dg}(I:Inv X pins σ H s){a:Addr}{xs ys:List V}(h:SqB X.K c H a xs)(g:SqB X.K c H a ys):xs=ys:=by
 cases c
 ·exact I.gK h g
 ·exact I.lA h g
def ItZ (K:Df)(c d:Bool)(a b:Addr):It :=
 ⟨λi H=>∃xs ys u v,SqB K c H a xs/\SqB K d H b ys/\xs[i]? = some u/\ys[i]? = some v,λi H x H'=>∃T u v,H T=none/\x = .ref T/\H'=upd H T (.tup [u,v])/\(∀xs,SqB K c H a xs->xs[i]? = some u)/\∀ys,SqB K d H b ys->ys[i]? = some v,λi H=>∃xs ys,SqB K c H a xs/\SqB K d H b ys/\(xs.length<=i\/ys.length<=i)⟩
theorem wb {P:DH}{w:Eb}{K:Df}{elts:List Expr}{k:Nat}{pos:Pos}(c d:Bool)(a b z TI TO i1 i2:Addr)(D:ZipApart z TI TO i1 i2 a b):Turn P w K (.Tuple elts k pos) (ItZ K c d a b) [z,TI,TO,i1,i2] z (λi h=>IsZip h z TI TO .none/\IsPair h TI (.ref i1) (.ref i2)/\(∃x y,IsPair h TO x y)/\ItB c h i1 a i/\ItB d h i2 b i) where
 mem:=by simp
 obj:=λi h ⟨hz,hI,⟨x,y,hO⟩,h1,h2⟩ e he=>by
  have he':e=z\/e=TI\/e=TO\/e=i1\/e=i2:=by simpa using he
  rcases he' with q | q | q | q | q
  ·subst q;exact ⟨_,hz,λv z=>nomatch z⟩
  ·subst q;exact ⟨_,hI,λv z=>nomatch z⟩
  ·subst q;exact ⟨_,hO,λv z=>nomatch z⟩
  ·subst q;exact h1.obj
  ·subst q;exact h2.obj
 keep:=λi h h' ⟨hz,hI,⟨x,y,hO⟩,h1,h2⟩ kp=>⟨kp z (by simp) _ hz,kp TI (by simp) _ hI,⟨x,y,kp TO (by simp) _ hO⟩,h1.to λo e=>kp i1 (by simp) o e,h2.to λo e=>kp i2 (by simp) o e⟩
 item:=λX eP eW eK hcalm i pins s σ H E I f ⟨hz,hI,⟨x,y,hO⟩,h1,h2⟩ go=>by
  subst eP eW eK
  obtain ⟨xs,ys,u,v,ha,hb,hu,hv⟩:=go
  obtain ⟨its,r,pl⟩:=SqB.row I ha
  obtain ⟨jts,r',pl'⟩:=SqB.row I hb
  obtain ⟨u',eu,ru⟩:=r.get hu
  obtain ⟨v',ev,rv⟩:=r'.get hv
  refine rB D hz hI hO h1 h2 pl pl' (x:=u') (y:=v') (by rw[DX];exact eu) (by rw[DX];exact ev) λh' o1 o2 o3 o4 o5 o6 kp =>?_
  refine ⟨_,rfl,?_⟩
  refine wpAny_letOwnedTupleGo_zip o1 λh2' e2 sb =>?_
  have ez:z≠s.heap.objs.size:=Dw (Ds hz)
  have lt:∀e∈[z,TI,TO,i1,i2],e≠s.heap.objs.size:=λe he=>by
   have he':e=z\/e=TI\/e=TO\/e=i1\/e=i2:=by simpa using he
   rcases he' with q | q | q | q | q
   ·rw[q];exact ez
   ·rw[q];exact Dw (Ds hI)
   ·rw[q];exact Dw (Ds hO)
   ·rw[q];exact Dw h1.lt
   ·rw[q];exact Dw h2.lt
  have kp2:∀e ob,e∉[z,TI,TO,i1,i2]->s.heap.get? e=some ob->h2'.get? e=some ob:=λe ob he eb=>by
   have n1:e≠z:=λq=>he (by simp[q])
   have n2:e≠TO:=λq=>he (by simp[q])
   have n3:e≠i1:=λq=>he (by simp[q])
   have n4:e≠i2:=λq=>he (by simp[q])
   rw[sb.2 e n1];exact kp e ob n1 n2 n3 n4 eb
  have j1:ItB c h2' i1 a (i+1):=o3.to λob eb=>by rw[sb.2 i1 D.i1z];exact eb
  have j2:ItB d h2' i2 b (i+1):=o4.to λob eb=>by rw[sb.2 i2 D.i2z];exact eb
  have jI:IsPair h2' TI (.ref i1) (.ref i2):=by
   show h2'.get? TI=_
   rw[sb.2 TI D.TIz]
   exact kp TI _ D.TIz D.TITO D.TIi1 D.TIi2 hI
  have jO:IsPair h2' TO u' v':=by
   show h2'.get? TO=_
   rw[sb.2 TO D.TOz]
   exact o2
  have tp:h2'.get? s.heap.objs.size=some { cls :=.type "tuple",data :=.seq #[u',v'] }:=by rw[sb.2 _ (EB ez)];exact o5
  refine ⟨.ref s.heap.objs.size,upd H s.heap.objs.size (.tup [u,v]),I.ir (ch:=[z,TI,TO,i1,i2]) f kp2 (λe he =>?_) (Dd _) ?_,rfl,⟨s.heap.objs.size,u,v,I.hok.fresh (Dd _),rfl,rfl,λzs hy =>?_,λzs hy =>?_⟩,⟨e2,jI,⟨_,_,jO⟩,j1,j2⟩,λe he =>?_⟩
  ·have he':e=z\/e=TI\/e=TO\/e=i1\/e=i2:=by simpa using he
   rcases he' with q | q | q | q | q
   ·rw[q];exact ⟨_,e2⟩
   ·rw[q];exact ⟨_,jI⟩
   ·rw[q];exact ⟨_,jO⟩
   ·rw[q];obtain ⟨o,ho,_⟩:=j1.obj;exact ⟨o,ho⟩
   ·rw[q];obtain ⟨o,ho,_⟩:=j2.obj;exact ⟨o,ho⟩
  ·refine ⟨(by show 2<=Dm;decide),[u',v'],.cons ru (.cons rv .nil),_,tp,⟨rfl,rfl⟩,_,rfl⟩
  ·rw[SqB.inj I hy ha];exact hu
  ·rw[SqB.inj I hy hb];exact hv
  ·rw[az (lt e he)];exact (f e he).1
 done:=λX eP eW eK hcalm i pins s σ H E I f ⟨hz,hI,⟨x,y,hO⟩,h1,h2⟩ stop=>by
  subst eP eW eK
  obtain ⟨xs,ys,ha,hb,hl⟩:=stop
  obtain ⟨its,r,pl⟩:=SqB.row I ha
  obtain ⟨jts,r',pl'⟩:=SqB.row I hb
  have l:=r.length
  have l':=r'.length
  refine kK (I.ok.hd hcalm) D hz hI hO h1 h2 pl pl' (hl.imp (λ_=>by rw[DX];exact Ft.mpr (by lia)) (λ_=>by rw[DX];exact Ft.mpr (by lia))) λh' ex=>⟨rfl,?_⟩
  exact I.v7 (ch:=[z,TI,TO,i1,i2]) (h':=h') (t':=s.toks) f λe o he eb=>ex e o (λq=>he (by simp[q])) (λq=>he (by simp[q])) (λq=>he (by simp[q])) (λq=>he (by simp[q])) eb
 self:=λA i s Q E ⟨hz,_⟩ q=>wpAny_pyIter_zip hz q
def CL (K:Df)(c d:Bool)(ta:TA):TI:=λσ H R=>ta σ H λvs H1=>∃a b,vs=[.ref a,.ref b]/\(∃xs,SqB K c H1 a xs)/\(∃ys,SqB K d H1 b ys)/\R (ItZ K c d a b) H1
theorem Ae {X:Cx}(c d:Bool){a b:Expr}{ta:TA}{p pos pos':Pos}{elts:List Expr}{k:Nat}(hg:Gl X "zip")(hm:X.mg "zip" = none)(ha:PA X [a,b] ta)(hs:Em [a,b] X.env=[(false,eval a X.env),(false,eval b X.env)]:=by rfl)(hs2:Em [b] X.env=[(false,eval b X.env)]:=by rfl) :
  PI X (.Tuple elts k pos') (.Call (.Name "zip" p) [a,b] [] pos) (CL X.K c d ta):=by
 intro pins s σ H R I h
 refine Call_ (dW I hg hm boot_zip (Ez (thn (ha pos pins s σ H _ I h) λus s1 ⟨vs,H1,I1,r1,q1⟩ =>?_) (by rw[hs,hs2]) (by rw[hs2];rfl)))
 obtain ⟨l1,l2,e,⟨xs,hx⟩,⟨ys,hy⟩,q⟩:=q1
 subst e
 cases r1 with
 | cons r rr =>
  cases rr with
  | cons r' rr =>
   cases rr
   cases r
   cases r'
   have fp:∀b∈[s1.heap.objs.size+4,s1.heap.objs.size+2,s1.heap.objs.size+3,s1.heap.objs.size,s1.heap.objs.size+1],iM X pins H1 b:=λb hb=>by
    have ge:s1.heap.objs.size<=b:=by
     simp at hb
     lia
    exact I1.sr ge (I1.hok.fresh ge)
   obtain ⟨its,rv,pl⟩:=SqB.row I1 hx
   obtain ⟨jts,rv',pl'⟩:=SqB.row I1 hy
   have D:=BS _ _ _ pl.lt pl'.lt
   refine wa pl pl' λh' hz hI hO h1 h2 kp =>?_
   have T:=wb (P:=X.prog) (w:=X.w) (K:=X.K) (elts:=elts) (k:=k) (pos:=pos') c d l1 l2 _ _ _ _ _ D
   refine T.self _ 0 _ _ _ ⟨hz,hI,⟨_,_,hO⟩,h1,h2⟩ ?_
   exact ⟨_,_,_,_,H1,rfl,I1.kept (t':=s1.toks) kp,T,⟨hz,hI,⟨_,_,hO⟩,h1,h2⟩,fp,q⟩
theorem CM {K:Df}{c d:Bool}{a b:Addr}{xs ys:List V}{g:TG}{tb:TS}{D:Ends}{σ:St}{H:Hp}(n:Nat)(n1:n<=xs.length)(n2:n<=ys.length)(n3:n=xs.length\/n=ys.length)(Pv:Nat->St->Hp->Prop)(h0:Pv 0 σ H)(hl:∀i σ H,i<=n->Pv i σ H->SqB K c H a xs/\SqB K d H b ys)
  (hs:∀i x y σ H T,xs[i]? = some x->ys[i]? = some y->H T=none->Pv i σ H->g (.ref T) σ (upd H T (.tup [x,y])) λσ2 H2=>tb { D with nx:=Pv (i+1),ct:=Pv (i+1),bk:=D.nx } σ2 H2) (hd:∀σ H,Pv n σ H->D.nx σ H):Bz (ItZ K c d a b) g tb D σ H:=by
 refine ⟨λi m σ H=>m=n-i/\i<=n/\Pv i σ H,⟨n,by simp,D5 _,h0⟩,?_⟩
 rintro i m σ H ⟨rfl,hi,p⟩
 obtain ⟨q1,q2⟩:=hl i σ H hi p
 by_cases hlt:i<n
 ·refine .inr ⟨⟨xs,ys,xs[i]'(by lia),ys[i]'(by lia),q1,q2,by simp[show i<xs.length by lia],by simp[show i<ys.length by lia]⟩,Pv (i+1),λσ' H' p'=>⟨n-(i+1),by lia,rfl,hlt,p'⟩,λx H' y =>?_⟩
  obtain ⟨T,u,v,hT,ex,eH,hu,hv⟩:=y
  subst ex eH
  exact hs i u v σ H T (hu xs q1) (hv ys q2) hT p
 ·have e:i=n:=by lia
  subst e
  exact .inl ⟨⟨xs,ys,q1,q2,n3.elim (λz =>.inl (by lia)) (λz =>.inr (by lia))⟩,hd σ H p⟩
theorem CN {K:Df}{c d:Bool}{a b:Addr}{xs ys:List V}{k l:Nat}{tc:TT}{te:TE}{τ:St}{H:Hp}{Q:VK}(n:Nat)(n1:n<=xs.length)(n2:n<=ys.length)(n3:n=xs.length\/n=ys.length)(Pv:Nat->List V->Hp->Prop)(hkl:k≠l)(h0:Pv 0 [] H)(hz:n<=Dm)
  (hl:∀i zs H,i<=n->Pv i zs H->SqB K c H a xs/\SqB K d H b ys)
  (hs:∀i x y zs H T,xs[i]? = some x->ys[i]? = some y->zs.length<=i->H T=none->Pv i zs H->AL k l tc te τ Pv i x y zs (upd H T (.tup [x,y])))
  (hd:∀zs H,zs.length<=n->Pv n zs H->∀r,H r=none->Q (.ref r) (upd H r (.lst zs))):iU (ItZ K c d a b) (xB K k l) tc te τ Q H:=by
 refine ⟨λi m σ zs H=>m=n-i/\i<=n/\(∀a b,(σ.set k (some a)).set l (some b)=(τ.set k (some a)).set l (some b))/\zs.length<=i/\Pv i zs H,⟨n,by simp,D5 _,λ_ _=>rfl,Dd _,h0⟩,?_⟩
 rintro i m σ zs H ⟨rfl,hi,hτ,hy,pv⟩
 obtain ⟨q1,q2⟩:=hl i zs H hi pv
 by_cases hlt:i<n
 ·refine .inr ⟨⟨xs,ys,xs[i]'(by lia),ys[i]'(by lia),q1,q2,by simp[show i<xs.length by lia],by simp[show i<ys.length by lia]⟩,λx H' y =>?_⟩
  obtain ⟨T,u,v,hT,ex,eH,hu,hv⟩:=y
  subst ex eH
  refine ⟨T,_,rfl,SqT.of ag,rfl,_,_,rfl,_,_,rfl,rfl,?_⟩
  rw[hτ]
  have hσ:∀a b,((((τ.set k (some u)).set l (some v)).set k (some a)).set l (some b))=(τ.set k (some a)).set l (some b):=λa b=>by
   rw[MK _ _ (EB hkl),G9,G9]
  refine hs i u v zs _ T (hu xs q1) (hv ys q2) hy hT pv _ _ (λy4 H4 p4=>⟨by lia,n-(i+1),by lia,rfl,hlt,hσ,by rw[C8,D9];lia,p4⟩) λH3 p3=>⟨n-(i+1),by lia,rfl,hlt,hσ,by lia,p3⟩
 ·have e:i=n:=by lia
  subst e
  exact .inl ⟨⟨xs,ys,q1,q2,n3.elim (λz =>.inl (by lia)) (λz =>.inr (by lia))⟩,by lia,hd zs H hy pv⟩
end L2
namespace L2.RvT
open PySem PyProof.Rows
open Sem (wp)
theorem jQ:Manifest.owners.lookup (String.ofList ['d', 'e', 's', 'r', 'e', 'v', 'e', 'r'].reverse)=some Manifest.sig_reversed:=by kernel_rfl
theorem slot_next:Slot "reversed" "__next__" "reversed.__next__" :=
 .of (owner := "reversed") (n := "__next__") (by rw[FY,EY];kernel_rfl) (by decide +kernel) (by decide +kernel) (by decide +kernel)
  (by first | exact .inl (by decide +kernel) | exact .inr (by decide +kernel)) (by rw[FE];kernel_rfl)
theorem entry_next:entryFor table "reversed.__next__" = some Builtin.«reversed.__next__» := Ki (by kernel_rfl)
theorem args_next (a:C9):argsOk "reversed.__next__" ⟨[a],[]⟩:=by
 unfold argsOk;rw[LB (id := "reversed.__next__") (n:=['_', '_', 't', 'x', 'e', 'n', '_', '_']) (o:=['d', 'e', 's', 'r', 'e', 'v', 'e', 'r']) (by kernel_rfl) jQ];kernel_rfl
theorem oM:Slot "reversed" "__iter__" "reversed.__iter__" :=
 .of (owner := "reversed") (n := "__iter__") (by rw[FY,EY];kernel_rfl) (by decide +kernel) (by decide +kernel) (by decide +kernel)
  (by first | exact .inl (by decide +kernel) | exact .inr (by decide +kernel)) (by rw[FE];kernel_rfl)
theorem wc (a:C9):argsOk "reversed.__iter__" ⟨[a],[]⟩:=by
 unfold argsOk;rw[LB (id := "reversed.__iter__") (n:=['_', '_', 'r', 'e', 't', 'i', '_', '_']) (o:=['d', 'e', 's', 'r', 'e', 'v', 'e', 'r']) (by kernel_rfl) jQ];kernel_rfl
theorem tL:entryFor table "reversed.__iter__" = some Builtin.«dict_keyiterator.__iter__» :=
 entryFor_alias (id' := "dict_keyiterator.__iter__") (by kernel_rfl) (by first | rfl | decide +kernel | (unfold String.splitOn;simp +decide [String.splitOnAux])) (by decide +kernel) (by kernel_rfl)
theorem BU:typeLookup (.type "tuple") "__reversed__" = pure none:=by rw[FY,EY];kernel_rfl
theorem tH:typeLookup (.type "reversed") "__len__" = pure none:=by rw[FY,EY];kernel_rfl
theorem i6:typeLookup (.type "reversed") "__length_hint__" = pure (some (.builtin "reversed.__length_hint__")):=by rw[FY,EY];kernel_rfl
theorem sub_self:isSubtype (.type "reversed") (.type "reversed")=pure true:=by rw[FE];kernel_rfl
theorem yh:isSubtype (.type "tuple") (.type "dict")=pure false:=by rw[FE];kernel_rfl
theorem we:Slot "reversed" "__init__" "object.__init__" :=
 .of (owner := "object") (n := "__init__") (by rw[FY,EY];kernel_rfl) (by decide +kernel) (by decide +kernel) (by decide +kernel)
  (by first | exact .inl (by decide +kernel) | exact .inr (by decide +kernel)) (by rw[FE];kernel_rfl)
theorem called:TypeCalled "reversed" "reversed.__new__" "object.__init__" :=
 ⟨by decide +kernel,by decide +kernel,⟨_,_,KZ⟩,madeBy_type KZ PySem.F.lookup_reversed_new (by decide +kernel),by decide +kernel,by rw[FE];kernel_rfl,we⟩
def rvO (t:Addr)(i:Int):Obj:={ cls :=.type "reversed",data :=.fields #[.ref t,GN i] }
def hW (h:Heap)(a t:Addr)(i:Int):Prop:=∃o,h.get? a=some o/\o.cls = .type "reversed" /\ o.data = .fields #[.ref t,GN i]
section
variable  {prog:DH}{w:Eb}{A:Ep}{E:C9->Dg->Prop}{s:Dg}
theorem hW.typeIs {a t:Addr}{i:Int}(x:hW s.heap a t i):s.TypeIs (.ref a) "reversed" := let ⟨o,ho,hc,_⟩:=x;⟨o,ho,hc⟩
theorem hW.at {h h':Heap}{a t:Addr}{i:Int}(x:hW h a t i)(e:∀o,h.get? a=some o->h'.get? a=some o):hW h' a t i:=let ⟨o,ho,r⟩:=x;⟨o,e _ ho,r⟩
theorem rD {h h':Heap}{a:Addr}{its:Array C9}(x:IsTup h a its)(e:∀o,h.get? a=some o->h'.get? a=some o):IsTup h' a its:=let ⟨o,ho,r⟩:=x;⟨o,e _ ho,r⟩
theorem wg (t:Addr)(its:Array C9)(hz:(its.size:Int)<2 ^ 63) :
  Meets (Builtin.«reversed.__new__» ⟨[.type "reversed",.ref t],[]⟩) (λ_ R s=>IsTup s.heap t its/\R (.ok (.ret (.ref s.heap.objs.size))) { s with heap:=s.heap.push (rvO t ((its.size:Int)-1)),toks:=s.toks+1+1 }) :=
 .of_wp λprog w A R s h=>by
  obtain ⟨ht,h⟩:=h
  unfold Builtin.«reversed.__new__»
  refine C5 (Ga (newClass_reversed _) ?_)
  try dsimp only
  refine C5 (Ga (a:=()) (by first | rfl | kernel_rfl) ?_)
  refine C5 (Ga (a:=()) (by first | rfl | kernel_rfl) ?_)
  try dsimp only
  refine C5 (Fv ht.typeIs BU ?_)
  try dsimp only
  refine C5 ?_
  show DI _ _ (isInstance (.ref t) (.type "dict") >>= _) _ _ s
  refine C5 (FJ (T := "tuple") (b:=false) ht.typeIs yh ?_)
  refine ES (λhab=>absurd hab (by decide)) (λ_ =>?_)
  refine C5 (Fv ht.typeIs Et.lookup ?_)
  refine ES (λ_=>De ?_) (λhab=>absurd (by decide +kernel) hab)
  refine ES (λhab=>absurd hab (by decide)) (λ_ =>?_)
  refine C5 (len_tuple ht hz ?_)
  refine C5 (Ga (a:=some (its.size:Int)) rfl ?_)
  refine C5 ?_
  show DI _ _ (newObj (.type "reversed") (.fields #[.ref t,GN ((its.size:Int)-1)])) _ _ _
  exact Ec (De ⟨_,rfl,h⟩)
theorem yi {t:Addr}{its:Array C9}{Q:C9->Dg->Prop}(ht:IsTup s.heap t its)(hz:(its.size:Int)<2 ^ 63)
  (h:Q (.ref s.heap.objs.size) { s with heap:=s.heap.push (rvO t ((its.size:Int)-1)),toks:=s.toks+1+1 }):DI (DS prog w) A (call (.type "reversed") [.ref t]) Q E s:=by
 refine Jv called (by decide) (PySem.F.typeCall_reversed_1 _) (PySem.F.newCall_reversed_1 _) (λobj=>Hx obj _) PySem.F.entry_reversed_new (wg t its hz) ⟨ht,?_⟩
 exact ⟨⟨_,Dn _ rfl,rfl⟩,h⟩
theorem next_item {I t:Addr}{i:Nat}{its:Array C9}{x:C9}{Q:Option C9->Dg->Prop}(hit:hW s.heap I t (i:Int))(ht:IsTup s.heap t its)(hx:its[i]? = some x)(hi:(i:Int)<2 ^ 63)
  (hQ:∀h' tk,hW h' I t ((i:Int)-1)->Heap.SameBut I s.heap h'->Q (some x) { s with heap:=h',toks:=tk }):DI (DS prog w) A (pyNext (.ref I)) Q E s:=by
 obtain ⟨o,ho,hc,hd⟩:=id hit
 unfold pyNext
 refine C5 (FT (EF (name:=Str.ofString "__next__") hit.typeIs slot_next (Ei slot_next hit.typeIs entry_next ?_ (args_next _))))
 unfold Builtin.«reversed.__next__»
 refine C5 (Ga (a:=(DG I,[])) rfl ?_)
 try dsimp only
 refine C5 (EM ho hd (x :=.ref t) rfl ?_)
 refine C5 (EM ho hd (x:=GN (i:Int)) rfl ?_)
 show DI _ _ (if (i:Int)<0 then _ else _) _ _ s
 rw[if_neg (by lia)]
 show DI _ _ (specialOf (.ref t) "__getitem__" >>= _) _ _ s
 refine C5 (Fv ht.typeIs Et.lookup ?_)
 refine ES (λhab=>absurd hab (by decide)) (λ_ =>?_)
 refine C5 (wpAny_mkInt ?_)
 refine C5 (FT ?_)
 refine PyProof.Rows.getItem_tuple (j:=i) ht (by lia) hi (Mr (by lia) (by have:=(Fi.mp hx).1;lia)) hx ?_
 refine C5 (EM ho hd (x:=GN (i:Int)) rfl ?_)
 show DI _ _ (setField (.ref I) 1 (GN ((i:Int)-1)) >>= λ_=>ret x) _ _ _
 refine C5 (Iv ho hd (by simp) ?_)
 refine De ⟨x,rfl,De (hQ _ _ ?_ (HM ..))⟩
 exact ⟨_,EA _ ho (Iw (Gy hd _)),(LF ..).trans hc,by rw[Gy hd];simp⟩
theorem next_end {I t:Addr}{Q:Option C9->Dg->Prop}(hh:A.handled=none)(hit:hW s.heap I t (-1))
  (hQ:∀h',Heap.ExtBut I s.heap h'->Q none { s with heap:=h' }):DI (DS prog w) A (pyNext (.ref I)) Q E s:=by
 obtain ⟨o,ho,hc,hd⟩:=id hit
 unfold pyNext
 refine C5 (FT (EF (name:=Str.ofString "__next__") hit.typeIs slot_next (Ei slot_next hit.typeIs entry_next ?_ (args_next _))))
 unfold Builtin.«reversed.__next__»
 refine C5 (Ga (a:=(DG I,[])) rfl ?_)
 try dsimp only
 refine C5 (EM ho hd (x :=.ref t) rfl ?_)
 refine C5 (EM ho hd (x:=GN (-1)) rfl ?_)
 show DI _ _ (if (-1:Int)<0 then _ else _) _ _ s
 rw[if_pos (by decide)]
 refine C5 (FI ?_)
 refine C5 ?_
 show DI _ _ (setField (.ref I) 1 (GN (-1)) >>= λ_=>setField (.ref I) 0 .none) _ _ s
 refine C5 (Iv ho hd (by simp) ?_)
 have h1:=EA (Obj.mapFields λfs=>fs.setIfInBounds 1 (GN (-1))) ho (Iw (Gy hd _))
 refine Iv h1 (Gy hd _) (by simp) ?_
 refine C5 ?_
 show DI _ _ (newExc (.type "StopIteration") [] >>= _) _ _ _
 refine C5 ?_
 simp only[newExc,newTuple]
 refine C5 (Ec ?_ (by size_fits))
 refine C5 (m:=firstArgMember _ _) (Ga (a:=E9) (by first | rfl | (simp only[firstArgMember];rfl)) ?_)
 refine Ec ?_ (by size_fits)
 simp only[raiseNew]
 refine C5 (Lz ?_)
 first | rw[show A.in1.handled=none from hh] | rw[hh]
 refine C5 (De (Ms ?_))
 refine C5 (FJ (T := "StopIteration") (b:=true) ⟨_,Dn _ rfl,rfl⟩ JF ?_)
 refine De (hQ _ ?_)
 refine L8 (L8 (λb o hb eo =>?_) _) _
 exact (Eh _ _ (EB hb)).trans ((Eh _ _ (EB hb)).trans eo)
theorem uK {I t:Addr}{i:Int}{Q:C9->Dg->Prop}(hit:hW s.heap I t i)(h:Q (.ref I) s):DI (DS prog w) A (pyIter (.ref I)) Q E s:=by
 refine Ir hit.typeIs oM (Ei oM hit.typeIs tL ?_ (wc _))
 show DI _ _ (ret (.ref I)) _ _ s
 exact De ⟨_,rfl, "reversed",_,hit.typeIs,slot_next.lookup,h⟩
theorem oN:Slot "reversed" "__length_hint__" "reversed.__length_hint__" :=
 .of (owner := "reversed") (n := "__length_hint__") i6 (by decide +kernel) (by decide +kernel) (by decide +kernel)
  (by first | exact .inl (by decide +kernel) | exact .inr (by decide +kernel)) sub_self
theorem tM:entryFor table "reversed.__length_hint__" = some Builtin.«reversed.__length_hint__» := Ki (by kernel_rfl)
theorem wj (a:C9):argsOk "reversed.__length_hint__" ⟨[a],[]⟩:=by
 unfold argsOk;rw[LB (id := "reversed.__length_hint__") (n:=['_', '_', 't', 'n', 'i', 'h', '_', 'h', 't', 'g', 'n', 'e', 'l', '_', '_']) (o:=['d', 'e', 's', 'r', 'e', 'v', 'e', 'r']) (by kernel_rfl) jQ];kernel_rfl
theorem wm {I t:Addr}{its:Array C9}{Q:C9->Dg->Prop}(hit:hW s.heap I t ((its.size:Int)-1))(ht:IsTup s.heap t its)(hz:(its.size:Int)<2 ^ 63)
  (h:∀u tk,Q (.int its.size u) { s with toks:=tk }):DI (DS prog w) A (call (.builtin "reversed.__length_hint__") [.ref I]) Q E s:=by
 obtain ⟨o,ho,hc,hd⟩:=id hit
 refine Ei oN hit.typeIs tM ?_ (wj _)
 unfold Builtin.«reversed.__length_hint__»
 refine C5 (Ga (a:=DG I) rfl ?_)
 refine C5 (EM ho hd (x :=.ref t) rfl ?_)
 refine ES (λhab=>absurd hab (show ¬ (false=true) from Dv)) (λ_ =>?_)
 refine C5 (len_tuple ht hz ?_)
 refine C5 (Ga (a:=some (its.size:Int)) rfl ?_)
 refine C5 (EM ho hd (x:=GN ((its.size:Int)-1)) rfl ?_)
 show DI _ _ (if (its.size:Int)<((its.size:Int)-1)+1 then _ else retInt (((its.size:Int)-1)+1)) _ _ _
 rw[if_neg (by lia),show ((its.size:Int)-1)+1=its.size by lia]
 exact C5 (wpAny_mkInt (De ⟨_,rfl,h _ _⟩))
theorem Af {I t:Addr}{its:Array C9}{Q:Bool->Dg->Prop}(hit:hW s.heap I t ((its.size:Int)-1))(ht:IsTup s.heap t its)(hz:its.size<=2 ^ 24)(h:∀b tk,Q b { s with toks:=tk }):DI (DS prog w) A (EJ (.ref I)) Q E s:=by
 unfold EJ
 refine C5 (Fv hit.typeIs tH ?_)
 wp_delta
 refine C5 (Fv hit.typeIs i6 ?_)
 generalize hid:("reversed.__length_hint__" : String)=id0
 wp_delta
 rw[show splitId id0=some ("reversed", "__length_hint__") from by subst hid;decide +kernel]
 subst hid
 refine C5 (FJ (T := "reversed") (b:=true) hit.typeIs sub_self ?_)
 refine ES (λhab=>absurd hab (by decide)) (λ_ =>?_)
 refine ES (λhab=>absurd hab (by decide +kernel)) (λ_ =>?_)
 refine C5 (FI ?_)
 refine C5 (Ga (oN.bind _) ?_)
 refine C5 (FT (wm hit ht (by lia) λu tk =>?_))
 show DI _ A (asInt? (.int (its.size:Int) u) >>= _) Q E _
 have ea:asInt? (EL (its.size:Int) u)=pure (some (its.size:Int)):=rfl
 rw[ea,pure_bind]
 generalize hn:(its.size:Int)=n
 dsimp only
 refine ES (λhab=>absurd hab ?_) (λ_ =>?_)
 ·unfold Builtin.List.listFitsIndex;simp;lia
 refine ES (λhab=>absurd hab (by lia)) (λ_ =>?_)
 refine ES (λhab=>absurd hab ?_) (λ_ =>?_)
 ·rw[L2.lO (by rw[F8];lia)];exact Dv
 exact De (h _ _)
end
theorem walk {prog:DH}{w:Eb}{A:Ep}(hh:A.handled=none)(I t:Addr)(hne:t≠I)(its:Array C9)(hz:(its.size:Int)<2 ^ 63) :
  Walks prog w A I [I,t] [I] its.size (λi v=>its[its.size-1-i]? = some v) (λi h=>i<=its.size/\hW h I t ((its.size:Int)-1-(i:Int))/\IsTup h t its) where
 sub:=λb hb=>by simp at hb;simp[hb]
 frame:=λ_ _ _ x hk=>⟨x.1,x.2.1.at λo e=>hk I (by simp) o e,rD x.2.2 λo e=>hk t (by simp) o e⟩
 item:=λi s Q E hi x hQ=>by
  have e:(its.size:Int)-1-(i:Int)=((its.size-1-i:Nat):Int):=by omega
  have hit:=x.2.1
  rw[e] at hit
  have hx:its[its.size-1-i]? = some (its[its.size-1-i]'(by omega)):=DN (by omega)
  refine next_item hit x.2.2 hx (by omega) λh' tk hit' hs' =>?_
  have e2:((its.size-1-i:Nat):Int)-1=(its.size:Int)-1-((i+1:Nat):Int):=by omega
  rw[e2] at hit'
  exact hQ _ h' tk hx ⟨hi,hit',rD x.2.2 λo eo=>(hs'.2 t hne).trans eo⟩ λb o hb eo=>hs'.extBut b o (λh=>hb (by simp[h])) eo
 done:=λs Q E x hQ=>by
  have e:(its.size:Int)-1-(its.size:Int) = -1:=by omega
  have hit:=x.2.1
  rw[e] at hit
  exact next_end hh hit λh' he'=>hQ h' s.toks λb o hb eo=>he' b o (λh=>hb (by simp[h])) eo
 self:=λ_ _ _ _ x hQ=>uK x.2.1 hQ
section
variable  {prog:DH}{w:Eb}{A:Ep}{E:C9->Dg->Prop}{s:Dg}
theorem wo {R:Result->Dg->Prop}{I t:Addr}{items:Array C9}(hh:A.handled=none)(hit:hW s.heap I t ((items.size:Int)-1))(hl:IsTup s.heap t items)(hne:t≠I)(hlen:items.size<=2 ^ 24)
  (S:Addr) (hSI:S≠I) (hSl:S≠t) (res:C9) (c₀:Nat) (hS:s.heap.get? S=some { cls :=.type "list",data :=.seq #[] c₀ })
  (hR:∀h' tk acc' c',(∀b o,b≠S->b≠I->s.heap.get? b=some o->h'.get? b=some o)->h'.get? S=some { cls :=.type "list",dict:=none,data :=.seq acc' c',slots := #[] } →
   ItemsOf (λi v=>items[items.size-1-i]? = some v) acc' items.size->R (.ok (.ret res)) { s with heap:=h',toks:=tk }) :
  DI (DS prog w) A.in1 (DT (.ref S) (.ref I) res)
   (λfin s'=>match fin with | .done f=>R (.ok f) s' | .again c'=>c'.quiet=true/\Ji (DS prog w) A c' R s') (λe s'=>R (.error e) s') s:=by
 have hSf:S∉[I,t]:=λhm=>by
  rcases Dx.mp hm with e | hm
  ·exact hSI e
  ·exact hSl (DD.mp hm)
 have W:=(walk (prog:=prog) (w:=w) (A:=A.in1) hh I t hne items (by omega)).toS
 unfold DT
 refine C5 (FC (T := "reversed") hit.typeIs ?_)
 have h1:EW (.ref S) (.ref I)=false:=by simp[EW,hSI]
 have h2:(E1 "reversed" == E1 "list")=false:=by decide +kernel
 have h3:(E1 "reversed" == E1 "tuple")=false:=by decide +kernel
 simp only[h1,h2,h3,IQ,DJ,if_false]
 refine C5 (uK hit ?_)
 refine C5 (EU (Af hit hl hlen λb tk =>?_))
 refine ES (λ_ =>?_) (λ_=>De ⟨Fw JD _,?_⟩)
 ·refine C5 (FI ?_)
  refine C5 ?_
  show DI _ A.in1 (updateSeq S (·.push .none) >>= λ_=>updateSeq S (·.pop)) _ _ _
  refine C5 (Gp hS rfl ?_)
  have hS₂:=EA (Fh (·.push E9)) hS rfl
  refine Gp (hz:=by seq_fits) hS₂ rfl ?_
  have hS₃:=EA (Fh (·.pop)) hS₂ rfl
  have oth:∀b o,b≠S->s.heap.get? b=some o->((s.heap.update S (Fh (·.push E9))).update S (Fh (·.pop))).get? b=some o :=
   λb o hb e=>(Eh _ _ (EB hb)).trans ((Eh _ _ (EB hb)).trans e)
  refine De ⟨Fw JD _,HF W (by rw[F8];omega) S hSf res items.size 0 _ _ _ rfl (D5 _) ⟨D5 _,by simpa using hit.at λo e=>oth I o (EB hSI) e,rD hl λo e=>oth t o (EB hSl) e⟩ hS₃ (Ld _) λs' acc' c' hm hS' hacc =>?_⟩
  rw[Lr hm]
  refine hR s'.heap s'.toks acc' c' (λb o hb hbI e=>hm.heap b o (λhmem =>?_) (oth b o hb e)) hS' hacc
  rcases Dx.mp hmem with e' | hmem
  ·exact hb e'
  ·exact hbI (DD.mp hmem)
 refine HF W (by rw[F8];omega) S hSf res items.size 0 _ #[] c₀ rfl (D5 _) ⟨D5 _,by simpa using hit,hl⟩ hS (Ld _) λs' acc' c' hm hS' hacc =>?_
 rw[Lr hm]
 refine hR s'.heap s'.toks acc' c' (λb o hb hbI e=>hm.heap b o (λhmem =>?_) e) hS' hacc
 rcases Dx.mp hmem with e' | hmem
 ·exact hb e'
 ·exact hbI (DD.mp hmem)
theorem tN {R:List C9->Dg->Prop}{I t:Addr}{items:Array C9}(hh:A.handled=none)(hit:hW s.heap I t ((items.size:Int)-1))(hl:IsTup s.heap t items)(hne:t≠I)(hlen:items.size<=2 ^ 24)
    (h:∀(h1:Heap) (tk:Nat) (vs:List C9),vs=items.toList.reverse->(∀b o,b≠I->s.heap.get? b=some o->h1.get? b=some o)->R vs { s with heap:=h1,toks:=tk }) :
    DI (DS prog w) A (collect (.ref I)) R E s:=by
  obtain ⟨oi,hoi,_⟩:=id hit
  obtain ⟨ol,hol,_⟩:=id hl
  unfold collect
  refine C5 (G2 (EE Jc ?_))
  rw[Ex Jd _]
  show DI _ A.in1 (newList [] >>= λl=>again (.builtin "list.__iadd__" ⟨[l,.ref I],[]⟩)) _ _ s
  refine C5 (Ec ?_)
  refine De ⟨Fw GV _,EE JZ ?_⟩
  rw[Ex GV _]
  show DI _ A.in1 (DT (.ref s.heap.objs.size) (.ref I) (.ref s.heap.objs.size)) _ _ { s with heap:=s.heap.push { cls :=.type "list",data :=.seq ([]:List C9).toArray } }
  have hS0:(s.heap.push { cls :=.type "list",data :=.seq ([]:List C9).toArray }).get? s.heap.objs.size=some { cls :=.type "list",data :=.seq #[] 0 }:=Dn _ rfl
  refine wo (A:=A) (R:=λres s'=>match res with
      | .ok (.ret v)=>DI (DS prog w) A (match v with | .ref a=>(do match (← load a).data with | .seq xs _=>pure xs.toList | _=>unsupported "internal:collect") | _=>unsupported "internal:collect") R E s'
      | .ok _=>False
      | .error e=>E e s') (s:={ s with heap:=s.heap.push { cls :=.type "list",data :=.seq ([]:List C9).toArray } }) hh (hit.at λo e=>C7 _ e) (rD hl λo e=>C7 _ e) hne hlen s.heap.objs.size (EB (Dw (Ds hoi))) (EB (Dw (Ds hol))) (.ref s.heap.objs.size) 0 hS0 λh' tk acc' c' kk hS' it =>?_
  show DI _ A (load s.heap.objs.size >>= _) _ _ { s with heap:=h',toks:=tk }
  refine C5 (JS hS' ?_)
  refine De (h h' tk acc'.toList ?_ λb o hb e=>kk b o (Dw (Ds e)) hb (C7 _ e))
  refine Hs λj =>?_
  rw[Dt]
  have h1:acc'.size=items.toList.length:=it.1
  by_cases hj:j<items.toList.length
  · obtain ⟨v,hv⟩:∃v,acc'[j]? = some v:=⟨acc'[j]'(by lia),DN _⟩
    have:=it.2 j v hv
    dsimp only at this
    rw[<- Dt] at this
    rw[hv,KD hj, <- this]
    rfl
  · rw[FL (by lia),FX (by rw[E2];lia)]
theorem kM (I t:Addr)(items:Array C9)(hne:t≠I)(hn:items.size<=1000) :
  Meets (Builtin.«tuple.__new__» ⟨[.type "tuple",.ref I],[]⟩)
   (λA R s=>A.handled=none/\hW s.heap I t ((items.size:Int)-1)/\IsTup s.heap t items/\∀(h':Heap) (tk:Nat),(∀b o',b≠I->s.heap.get? b=some o'->h'.get? b=some o')->R (.ok (.ret (.ref h'.objs.size))) { s with heap:=h'.push { cls :=.type "tuple",data :=.seq items.toList.reverse.toArray },toks:=tk }) :=
 .of_wp λprog w A R s h=>by
  obtain ⟨hp,g,d,tk,os⟩:=s;obtain ⟨hh,hr,ht,h⟩:=h
  have hsub:=sub_tuple_self
  have hinit:=LO
  have hmh:=madeHere_tuple
  have hT:Shared.TypeIs ⟨hp,g,d,tk,os⟩ (.ref I) "reversed" := hW.typeIs (s:=⟨hp,g,d,tk,os⟩) hr
  wp_walk using FC hT,tN (by simpa using hh) hr ht hne (by lia)
  rintro h' tk' vs rfl hk
  show DI _ _ (Builtin.Tuple.tupleExact items.toList.reverse.toArray >>= λv=>ret v) _ _ _
  unfold Builtin.Tuple.tupleExact
  refine C5 (Ec ?_ (by show items.toList.reverse.toArray.size<=Dm;rw[Dk,E2,Dl];exact small hn))
  exact De ⟨_,rfl,h h' tk' hk⟩
end
end L2.RvT
namespace L2
open PySem PySem.Spec PyProof.Rows
section
variable  {X:Cx}
theorem wq:ED "tuple" = some (.type "tuple"):=by decide +kernel
def Ag (K:Df)(te:TE):TE:=λσ H Q=>te σ H λx H1=>∃l xs,x = .ref l/\SqT K H1 l xs/\xs.length<=1000/\∀p,H1 p=none->Q (.ref p) (upd H1 p (.tup xs.reverse))
theorem wt {e:Expr}{te:TE}{p1 p2 pos1 pos2:Pos}(hh:X.A.handled=none)(hg1:Gl X "tuple")(hm1:X.mg "tuple" = none)(hg2:Gl X "reversed")(hm2:X.mg "reversed" = none)(he:PE X e te)
  (hs1:Em [Expr.Call (.Name "reversed" p2) [e] [] pos2] X.env=(false,eval (.Call (.Name "reversed" p2) [e] [] pos2) X.env) :: Em [] X.env:=by rfl) (hp1:(Ih pos1 (Em [] X.env)).any (·.1)=false:=by rfl)
  (hs2:Em [e] X.env=(false,eval e X.env) :: Em [] X.env:=by rfl) (hp2:(Ih pos2 (Em [] X.env)).any (·.1)=false:=by rfl) :
  PE X (.Call (.Name "tuple" p1) [.Call (.Name "reversed" p2) [e] [] pos2] [] pos1) (Ag X.K te):=by
 intro pins s σ H Q I h
 refine F1 (dW I hg1 hm1 wq ?_ (by decide) (by decide))
 refine Ez ?_ hs1 hp1
 rw[hs1]
 show DI _ _ (spliced ((false,eval (.Call (.Name "reversed" p2) [e] [] pos2) X.env) :: Ih pos1 (Em [] X.env))) _ _ s
 refine FZ ?_
 refine F1 (dW I hg2 hm2 kz ?_ (by decide) (by decide))
 refine Ez (thn ((aa he ah hs2) pos2 pins s σ H (λvs H1=>match vs with | [x]=>∃l xs,x = .ref l/\SqT X.K H1 l xs/\xs.length<=1000/\∀p,H1 p=none->Q (.ref p) (upd H1 p (.tup xs.reverse)) | _=>False) I ?_) λus s1 ⟨vs,H1,I1,r1,q1⟩ =>?_) hs2 hp2
 ·exact h
 ·match vs,q1 with
  | [x],q1 =>
  obtain ⟨t,xs,rfl,hx,h1000,q⟩:=q1
  obtain ⟨u,rfl,ru⟩:=vals1 r1
  cases (show u=DG t from ru)
  obtain ⟨its,r,ht,hz⟩:=I1.tuple hx
  have ll:=r.length
  have lz:its.toArray.size=xs.length:=by rw[Dk];exact ll.symm
  refine RvT.yi ht (by rw[lz];omega) ?_
  refine Ho ?_
  obtain ⟨ot,hot,_⟩:=id ht
  refine Jv KY (by decide) (JM _) (J0 _) (λobj=>Hx obj _) J1
   (RvT.kM s1.heap.objs.size t its.toArray (Dw (Ds hot)) (by rw[lz];exact h1000)) ⟨by simpa using hh,⟨_,Dn _ rfl,rfl,rfl⟩,RvT.rD ht (λo e=>C7 _ e),λh' tk k=>⟨⟨_,Dn _ rfl,rfl⟩,?_⟩⟩
  have I2:Inv X pins σ H1 { s1 with heap:=h',toks:=tk }:=I1.kept λb o e=>k b o (Dw (Ds e)) (C7 _ e)
  exact ⟨.ref h'.objs.size,_,I2.laid (o :=.tup xs.reverse) (λb ob q=>C7 _ q) (Dd _) ⟨by rw[E2];exact small h1000,its.reverse,mz r,dS.new _ _⟩,rfl,q _ (I2.hok.fresh (Dd _))⟩
theorem Ah {k:Nat}(hr:dG k X.A):OpR X (Fj .Eq) (λx y H Q=>∃(a b:Addr) (ns ms:List Int),x = .ref a/\y = .ref b/\SqL X.K H a (ns.map V.int)/\SqL X.K H b (ms.map V.int)/\Q (.bl (decide (ns=ms))) H):=by
 intro pins s σ H x y v u Q I rx ry h
 obtain ⟨a,b,ns,ms,rfl,rfl,h1,h2,q⟩:=h
 cases (show v=DG a from rx)
 cases (show u=DG b from ry)
 obtain ⟨its,r1,⟨⟨c1,d1,da1,sl1⟩,n1,e1,k1,_,k3⟩,_⟩:=I.list h1
 obtain ⟨its2,r2,⟨⟨c2,d2,da2,sl2⟩,n2,e2,g1,_,g3⟩,_⟩:=I.list h2
 simp only at k1 k3 g1 g3
 subst k1 k3 g1 g3
 have l1:=r1.length
 have l2:=r2.length
 rw[C6] at l1 l2
 have hu:=hr.un
 have hu1:X.A.units<cLine:=by lia
 by_cases hl:ns.length=ms.length
 ·refine Fq (op :=.Eq) ⟨_,e1,rfl⟩ ⟨_,e2,rfl⟩ F.slot_list_eq Mn (L9 _ _) (SeqAt.list_eqAt a b its.toArray its2.toArray n1 n2 d1 d2 sl1 sl2 (by rw[Dk,Dk];lia) (Ac ns ms)) ⟨e1,e2,?_,?_⟩ hu1
  ·intro j h1 h2
   obtain ⟨t1,g1⟩:=intAt r1 h1
   obtain ⟨t2,g2⟩:=intAt r2 h2
   rw[g1,g2]
   exact Gx _ t1 _ t2
  ·have ez:its.toArray.size=ns.length:=by rw[Dk];lia
   rw[ez,rA hl]
   exact ⟨(λz=>nomatch z),⟨.bl _,H,I,rfl,q⟩⟩
 ·have ne:ns≠ms:=λz=>hl (by rw[z])
  rw[decide_eq_false ne] at q
  refine Fq (op :=.Eq) ⟨_,e1,rfl⟩ ⟨_,e2,rfl⟩ F.slot_list_eq Mn (L9 _ _) (SeqAt.list_eq_lengthsAt a b its.toArray its2.toArray n1 n2 d1 d2 sl1 sl2 (by simp;lia)) ⟨e1,e2,?_⟩ hu1
  exact ⟨(λz=>nomatch z),⟨.bl false,H,I,rfl,q⟩⟩
theorem gW:SlR X (λx lo hi H Q=>∃a xs,x = .ref a/\H a=some (.tup xs)/\∀p2 H2,aB H H2->H2 p2=some (.tup (dY xs lo hi))->Q (.ref p2) H2):=by
 intro pins s σ H x v vl vu lo hi sl Q I rx hs pl pu h
 obtain ⟨a,xs,rfl,ep,key⟩:=h
 refine zU pins s σ H _ v vl vu lo hi sl Q I rx hs pl pu ⟨a,xs,rfl,SqT.of ep,λz=>key a H (aB.refl _) ?_,λ_ p2 hp2=>key p2 _ (ae hp2 _) ag⟩
 unfold dY
 rw[z.1,z.2,JB,LS,Ma]
 exact ep
theorem eZ:OpR X (binaryOp .Add) (λx y H Q=>∃a b xs ys,x = .ref a/\y = .ref b/\H a=some (.tup xs)/\H b=some (.tup ys)/\xs.length+ys.length<=Dm/\∀p H',aB H H'->H' p=some (.tup (xs++ys))->Q (.ref p) H'):=by
 intro pins s σ H x y v u Q I rx ry h
 obtain ⟨a,b,xs,ys,rfl,rfl,ha,hb,hz,q⟩:=h
 exact yd pins s σ H _ _ v u Q I rx ry (uI.one ha hb hz q)
end
section
variable  {X:Cx}
theorem mB (hh:X.A.handled=none):bL X (.type "list") (λxs H Q=>∃(a:Addr) (n:Nat),xs=[.ref a]/\H a=some (.rng 0 n)/\n<=1000/\∀l,H l=none->Q (.ref l) (upd H l (.lst ((Eo n).map λi=>V.int (i:Nat))))):=by
 intro pins s σ H xs us Q I r h
 obtain ⟨a,n,rfl,ha,hn,q⟩:=h
 obtain ⟨u,rfl,ru⟩:=vals1 r
 cases (show u=DG a from ru)
 obtain ⟨t,u,v,e⟩:=(show bB X.prog X.w H s.heap a (.rng 0 n) from I.hok a _ ha)
 have rs:Builtin.Range.rangeSize 0 (n:Int) 1=(n:Int):=by
  rw[Lw]
  split <;> lia
 have n24:n<=2 ^ 24:=by lia
 refine call_list_range hh e (small_one (by lia) (by lia) (by lia) (by lia)) rs n24 λh' tk acc' c' k e' it =>?_
 have hv:∀(i:Nat) (x:C9),acc'.toList[i]? = some x->∃t,x=EL i t:=λi x hx=>by
  rw[Dt] at hx
  obtain ⟨t',e⟩:=it.2 i x hx
  exact ⟨t',by rw[e];simp⟩
 have rv:=mv hv
 rw[Dl,it.1] at rv
 exact ⟨.ref s.heap.objs.size,_,I.laid (o :=.lst ((Eo n).map λi=>V.int (i:Nat))) k (Dd _) ⟨by rw[C6,Fg];exact small hn,acc'.toList,c',rv,by simpa using e'⟩,rfl,q _ (I.hok.fresh (Dd _))⟩
end
end L2
namespace Srt
open PySem PyProof.Rows
section
variable  {prog:DH}{w:Eb}{A:Ep}{E:C9->Dg->Prop}{s:Dg}{O:ID}{key:C9->O.α}
theorem rE {v:C9}{vs:List C9}{Q:C9->Dg->Prop}(hv:lU prog w s v vs)(hz:vs.length<=Dm)
  (C:2<=vs.length->∀(B:Ep) (h6:Heap),B.units<=A.units+6->(∀b o,s.heap.get? b=some o->h6.get? b=some o)->∃κ,(∀(Q:SortKind->Dg->Prop) (E:C9->Dg->Prop),Q κ { s with heap:=h6 }->DI (DS prog w) B (keyKind' vs.toArray) Q E { s with heap:=h6 }) ∧
  Cmp prog w B { s with heap:=h6 } O (λp=>key p.1) (λp=>p.1=p.2/\p.1∈vs) κ)
  (h:∀(h':Heap) (p:Addr) (out:List C9) (n:Nat),(∀b o,s.heap.get? b=some o->h'.get? b=some o)->s.heap.objs.size<=p->h'.get? p=some (seqObj "list" out.toArray n)->out.Perm vs->out.Pairwise (λx y=>O.kle (key x) (key y))->Q (.ref p) { s with heap:=h' }) :
  DI (DS prog w) A (call (.builtin "sorted") [v]) Q E s:=by
 refine GB Li KJ KL (KN _) ?_
 unfold Builtin.«sorted»
 refine C5 (m:=checkCount "sorted" 1 1 _) (De ?_)
 refine C5 (hv _ _ _ λh1 k1 z1=>C5 (Ie ?_ hz))
 have hoL:(h1.push (seqObj "list" vs.toArray 0)).get? h1.objs.size=some (seqObj "list" vs.toArray 0):=Dn _ rfl
 have kL:∀b o,s.heap.get? b=some o->(h1.push (seqObj "list" vs.toArray 0)).get? b=some o:=λb o e=>C7 _ (k1 b o e)
 refine C5 (EU (Ei slot_list_sort ⟨_,hoL,rfl⟩ entry_list_sort (dD (key:=key) (O:=O) hoL hz (λh2 h6 k6 =>?_) λout pm ps=>⟨_,rfl,?_⟩) (JG _)))
 ·refine C h2 _ h6 ?_ λb o e=>k6 b o (Dw (DC (Ds e) z1)) (kL b o e)
  simp only[Mb]
  lia
 ·obtain ⟨n,en⟩:=J6 (out:=out.toArray) hoL
  refine De ⟨_,rfl,h _ _ out n (λb o e =>?_) z1 en pm ps⟩
  have lt:=DC (Ds e) z1
  rw[JH (Dw lt) (by rw[KR];exact EH lt)]
  exact kL b o e
end
def pLt (a b:List Int×List Int):Bool:=if a.1=b.1 then HT.lexLt a.2 b.2 else HT.lexLt a.1 b.1
theorem tO (a:List Int×List Int):pLt a a=false:=by unfold pLt;rw[if_pos rfl];exact lex_irrefl _
theorem oO (a b c:List Int×List Int)(h1:pLt a b=true)(h2:pLt b c=true):pLt a c=true:=by
 unfold pLt at *
 by_cases e1:a.1=b.1
 ·rw[if_pos e1] at h1
  by_cases e2:b.1=c.1
  ·rw[if_pos e2] at h2
   rw[if_pos (e1.trans e2)]
   exact lex_trans _ _ _ h1 h2
  ·rw[if_neg e2] at h2
   rw[if_neg (λz=>e2 (e1.symm.trans z)),e1];exact h2
 ·rw[if_neg e1] at h1
  by_cases e2:b.1=c.1
  ·rw[if_neg (λz=>e1 (z.trans e2.symm)), <- e2];exact h1
  ·rw[if_neg e2] at h2
   have h3:=lex_trans _ _ _ h1 h2
   rw[if_neg (λz =>?_)]
   ·exact h3
   ·rw[z,lex_irrefl] at h3;cases h3
theorem oP (a b:List Int×List Int)(h1:pLt a b=false)(h2:pLt b a=false):a=b:=by
 unfold pLt at *
 by_cases e:a.1=b.1
 ·rw[if_pos e] at h1
  rw[if_pos e.symm] at h2
  exact Jr e (eQ _ _ h1 h2)
 ·rw[if_neg e] at h1
  rw[if_neg (λz=>e z.symm)] at h2
  exact absurd (eQ _ _ h1 h2) e
theorem Ai (a b c:List Int×List Int)(h:pLt a c=true):pLt a b=true\/pLt b c=true:=by
 by_cases h1:pLt a b=true
 ·exact .inl h1
 ·right
  have h1:pLt a b=false:=Ht.mpr h1
  by_cases h2:pLt b a=true
  ·exact oO _ _ _ h2 h
  ·rw[<- oP a b h1 (Ht.mpr h2)];exact h
def Aj:ID where
 α:=List Int×List Int
 blt:=pLt
 irrefl:=tO
 trans:=oO
 negTrans:=Ai
 total:=oP
def IsPair (h:Heap)(v:C9)(k:List Int×List Int):Prop:=∃p o xs n a b,v = .ref p/\h.get? p=some o/\o.cls = .type "tuple" /\ o.data = .seq xs n/\xs.toList=[.ref a,.ref b]/\cA h (.ref a) k.1/\cA h (.ref b) k.2
theorem cA.isTup {h:Heap}{a:Addr}{ns:List Int}(x:cA h (.ref a) ns):∃its:Array C9,IsTup h a its/\Gq its.toList ns:=by
 obtain ⟨p,o,xs,n,e,g,c,d,r⟩:=x
 cases e
 exact ⟨xs,⟨o,g,c,n,d⟩,r⟩
theorem wx {A:Ep}{s:Dg}{a b:Addr}{ns ms:List Int}(hu:A.units<cLine)(x:cA s.heap (.ref a) ns)(y:cA s.heap (.ref b) ms):HW A s (.ref a) (.ref b) (decide (ns=ms)):=by
 obtain ⟨p,o,xs,n,e,g,c,d,r⟩:=x
 cases e
 obtain ⟨p',o',xs',n',e',g',c',d',r'⟩:=y
 cases e'
 exact λprog w E Q q=>Jx (knd:=intKind prog w) hu ⟨o,_,n,g,c,d,L2.gR r⟩ ⟨o',_,n',g',c',d',L2.gR r'⟩ q
section
variable  {prog:DH}{w:Eb}{s:Dg}
end
end Srt
namespace L2
open PySem PySem.Spec PyProof.Rows
section
variable  {X:Cx}
def yj (us ws:List (Addr×List Int))(j:Nat):Bool:=decide ((us.map (·.2)).getD j []=(ws.map (·.2)).getD j [])
theorem wz {us ws:List (Addr×List Int)}(h:us.length=ws.length):((Eo us.length).all λj=>yj us ws j)=decide (us.map (·.2)=ws.map (·.2)):=by
 rw[FW,decide_eq_true_iff,F2]
 constructor
 ·intro hh
  refine L6 (by rw[C6,C6];exact h) λj h1 h2 =>?_
  have:=of_decide_eq_true (hh j (ET.mpr (by rw[C6] at h1;exact h1)))
  rw[Du,Du,Dc h1,Dc h2] at this
  exact this
 ·intro e j _
  exact decide_eq_true (by rw[e])
theorem AS {us:List (Addr×List Int)}{its:List C9}(r:Vals (us.map λu=>V.ref u.1) its){j:Nat}(h:j<its.toArray.size):∃u,us[j]? = some u/\its.toArray[j] = .ref u.1:=by
 have e:=iy r
 subst e
 rw[Dk,C6] at h
 exact ⟨us[j],Dc h,by simp⟩
theorem Ak {k:Nat}(hr:dG k X.A):OpR X (Fj .NotEq) (λx y H Q=>∃(a b:Addr) (us ws:List (Addr×List Int)),x = .ref a/\y = .ref b/\H a=some (.lst (us.map λu =>.ref u.1))/\H b=some (.lst (ws.map λu =>.ref u.1))/\(∀u∈us,H u.1=some (.tup (u.2.map V.int)))/\(∀u∈ws,H u.1=some (.tup (u.2.map V.int)))/\Q (.bl (!decide (us.map (·.2)=ws.map (·.2)))) H):=by
 intro pins s σ H x y v u Q I rx ry h
 obtain ⟨a,b,us,ws,rfl,rfl,h1,h2,t1,t2,q⟩:=h
 cases (show v=DG a from rx)
 cases (show u=DG b from ry)
 obtain ⟨its,r1,p1,_⟩:=I.list (SqL.of (K:=X.K) h1)
 obtain ⟨its2,r2,p2,_⟩:=I.list (SqL.of (K:=X.K) h2)
 have l1:=r1.length
 have l2:=r2.length
 rw[C6] at l1 l2
 have hu:=hr.un
 have hu1:X.A.units<cLine:=by lia
 by_cases hl:us.length=ws.length
 ·have R:=SeqAt.RcNeAt.lists (A:=X.A) (e:=yj us ws) p1.isList p2.isList (by rw[Dk,Dk];lia) hu1 (by
   intro j h1 h2
   obtain ⟨u,eu,g1⟩:=AS r1 h1
   obtain ⟨w,ew,g2⟩:=AS r2 h2
   rw[g1,g2]
   have:=I.eqT (A:=X.A.in1) (by rw[Mb];lia) (SqT.of (t1 u (Dp eu))) (SqT.of (t2 w (Dp ew)))
   unfold yj
   rw[Du,Du,Dq,Dq,eu,ew]
   exact this)
  rw[Dk, <- l1,wz hl] at R
  exact R _ _ _ _ ⟨.bl _,H,I,rfl,q⟩
 ·have ne:us.map (·.2)≠ws.map (·.2):=λz=>hl (by have:=congrArg List.length z;simpa using this)
  rw[decide_eq_false ne] at q
  exact SeqAt.RcNeAt.lists_lengths (A:=X.A) p1.isList p2.isList (by simp;lia) hu1 _ _ _ _ ⟨.bl true,H,I,rfl,q⟩
end
set_option maxHeartbeats 800000
def tP (td ty tx:TE):TE:=λσ H Q=>td σ H λx H1=>∃a,x = .ref a/\IsD H1 a/\ty σ H1 λy H2=>tx σ H2 λz H3=>∃kvs k,H3 a=some (.dK kvs)/\y=kV k ∧
 (∀v,bG kvs k=some v->Q v H3)/\(bG kvs k=none->kvs.length<Dm/\Q z (upd H3 a (.dK (putK kvs k z))))
theorem i7 {X:Cx}{o e f:Expr}{apos cpos:Pos}{td ty tx:TE}(ho:PE X o td)(he:PE X e ty)(hf:PE X f tx)(m:M2 X o "setdefault" apos e f cpos):PE X (.Call (.Attribute o "setdefault" apos) [e,f] [] cpos) (tP td ty tx):=by
 intro pins s σ H Q I h
 refine LP m.base m.few m.line J3 IU PySem.F.type_dict_setdefault (thn (ho pins s σ H _ I h) λu s1 p1 =>?_)
 obtain ⟨_,H1,I1,rx,a,rfl,d,q1⟩:=p1
 cases rx
 have t:=x4 I1 d
 refine ⟨t.1,t.2.1,?_⟩
 rw[m.trees]
 refine Gr rfl (Hy (FZ (thn (he pins s1 σ H1 _ I1 q1) λiv s2 p2 =>?_)))
 obtain ⟨y,H2,I2,ry,q2⟩:=p2
 refine FZ (thn (hf pins s2 σ H2 _ I2 q2) λfv s3 p3=>Ho ?_)
 obtain ⟨z,H3,I3,rz,kvs,k,ea,rfl,q3,q4⟩:=p3
 obtain ⟨zl,hd,vs,rel,dd⟩:=uG I3.hok ea
 have rk:=rel.val k
 refine LW IU dd.typeIs PySem.F.entry_dict_setdefault (PySem.F.args_dict_setdefault_3 _ _ _) (kt_meets_setdefault (bD X.prog X.w) a (kj ry) hd fv) ⟨vs,dd,by rw[<- rel.length];exact zl,λv' hv =>?_,λhn h' dd' hs =>?_⟩
 ·cases l:bG kvs k with
  | none=>rw[l,hv] at rk;exact rk.elim
  | some v =>
   rw[l,hv] at rk
   exact ⟨v,H3,I3.tok _,rk,q3 v l⟩
 ·cases l:bG kvs k with
  | some v=>rw[l,hn] at rk;exact rk.elim
  | none =>
   obtain ⟨hl,q⟩:=q4 l
   have hl2:(putK kvs k z).length<=Dm:=DU (eD kvs k z) hl
   have he:∃q,h'.get? a=some q:=let ⟨q,_,_,hq,_⟩:=dd';⟨q,hq⟩
   exact ⟨z,_,kP I3 (by rw[ea];exact True.intro) hs he (tF hl2 hd (rel.put k rz) dd'),rz,q⟩
def DSt (H1:Hp)(d:Addr)(kvs:List (Key×V))(ks:List Int)(R:It->Hp->Prop):Prop:=(H1 d=some (.dK kvs)/\∀ob,R (Itd d ob kvs ks) (upd H1 d (.frz ob (.dK kvs))))\/∃ob,H1 d=some (.frz ob (.dK kvs))/\R (Itd d ob kvs ks) H1
def CO (tl:TE):TI:=λσ H R=>tl σ H λx H1=>∃d kvs ks,x = .ref d/\kvs.map (·.1)=ks.map Sum.inl/\DSt H1 d kvs ks R
theorem i8 {X:Cx}{tg l:Expr}{tl:TE}(hl:PE X l tl):PI X tg l (CO tl):=by
 intro pins s σ H R I h
 refine thn (hl pins s σ H _ I h) λv s1 p1 =>?_
 obtain ⟨_,H1,I1,r1,d,kvs,ks,rfl,ek,q⟩:=p1
 cases r1
 have rd:Rd H1 d (.dK kvs):=q.elim (λz =>.inl z.1) λ⟨ob,z,_⟩ =>.inr ⟨ob,z⟩
 obtain ⟨z,hsys,vs,rel,dd⟩:=kq I1.hok rd
 obtain ⟨ep,dd⟩:=dd.dictAt
 obtain ⟨ob,es,ho,_⟩:=id dd
 refine LQ hsys dd ?_
 have keys:vs.map (·.1)=ks.map Sum.inl:=by rw[pQ rel,ek]
 obtain ⟨H2,I2,R2⟩:∃H2,Inv X pins σ H2 s1/\R (Itd d ob kvs ks) H2:=by
  rcases q with ⟨hd,q⟩ | ⟨ob',hd,q⟩
  ·exact ⟨_,I1.freeze hd ho,q ob⟩
  ·have e1:s1.heap.get? d=some ob':=(show bB X.prog X.w H1 s1.heap d (.frz ob' (.dK kvs)) from I1.hok d _ hd).1
   rw[ho] at e1
   cases e1
   exact ⟨H1,I1,q⟩
 refine ⟨s1.heap.objs.size,[s1.heap.objs.size],_,_,_,rfl,I2.kept (t':=s1.toks) λb o e=>C7 _ e,v8 (kvs:=kvs) (ob:=ob) d _ dd ho keys,⟨_,Dn _ rfl,rfl,rfl⟩,λb hb =>?_,R2⟩
 obtain rfl:b=s1.heap.objs.size:=by simpa using hb
 exact I2.sr (Dd _) (I2.hok.fresh (Dd _))
theorem mC {d:Addr}{ob:Obj}{kvs:List (Key×V)}{ks:List Int}{g:TG}{tb:TS}{D:Ends}{σ:St}{H:Hp}(Pv:Nat->St->Hp->Prop)(h0:Pv 0 σ H)(hl:∀i σ H,i<=ks.length->Pv i σ H->H d=some (.frz ob (.dK kvs)))
  (hs:∀i x σ H,ks[i]? = some x->Pv i σ H->g (.int x) σ H λσ2 H2=>tb { D with nx:=Pv (i+1),ct:=Pv (i+1),bk:=D.nx } σ2 H2) (hd:∀σ H,Pv ks.length σ H->D.nx σ H) :
  ∃W:Nat->Nat->St->Hp->Prop,(∃m,W 0 m σ H)/\∀i m σ H,W i m σ H →
   ((Itd d ob kvs ks).stop i H/\D.nx σ H)\/((Itd d ob kvs ks).go i H/\∃N:St->Hp->Prop,(∀σ' H',N σ' H'->∃m',m'<m/\W (i+1) m' σ' H')/\∀x H',(Itd d ob kvs ks).yld i H x H'->g x σ H' λσ2 H2=>tb { D with nx:=N,ct:=N,bk:=D.nx } σ2 H2):=by
 refine ⟨λi m σ H=>m+i=ks.length/\Pv i σ H,⟨ks.length,rfl,h0⟩,λi m σ H p =>?_⟩
 have q:=hl i σ H (by lia) p.2
 rcases m with _ | m
 ·have e:i=ks.length:=by lia
  subst e
  exact .inl ⟨⟨q,Dd _⟩,hd σ H p.2⟩
 ·have hi:i<ks.length:=by lia
  refine .inr ⟨⟨q,_,Dc hi⟩,Pv (i+1),λσ' H' p'=>⟨m,Fc m,by lia,p'⟩,λx H' y =>?_⟩
  obtain ⟨rfl,k,hk,rfl⟩:=y
  exact hs i k σ _ hk p.2
end L2
set_option maxHeartbeats 4000000
namespace Srt
open PySem PyProof.Rows
def mD (h:Heap)(v:C9):List Int×List Int:=match v with
 | .ref p=>match h.get? p with
  | some o=>match o.data with
   | .seq xs _=>([intOf (xs.toList.getD 0 .none)],du h (xs.toList.getD 1 .none))
   | _=>([],[])
  | none=>([],[])
 | _=>([],[])
def kB (h:Heap)(v:C9)(i:Int)(ns:List Int):Prop:=∃p o xs n t b,v = .ref p/\h.get? p=some o/\o.cls = .type "tuple" /\ o.data = .seq xs n/\xs.toList=[.int i t,.ref b]/\cA h (.ref b) ns
theorem kB.key {h:Heap}{v:C9}{i:Int}{ns:List Int}(x:kB h v i ns):mD h v=([i],ns):=by
 obtain ⟨p,o,xs,n,t,b,rfl,e,_,d,r,k⟩:=x
 unfold mD
 dsimp only
 rw[e]
 dsimp only
 rw[d]
 dsimp only
 rw[r]
 exact Jr rfl k.ints
theorem kB.keeps {h h':Heap}{v:C9}{i:Int}{ns:List Int}(x:kB h v i ns)(kp:∀b o,h.get? b=some o->h'.get? b=some o):kB h' v i ns:=by
 obtain ⟨p,o,xs,n,t,b,rfl,e,c,d,r,k⟩:=x
 exact ⟨p,o,xs,n,t,b,rfl,kp _ _ e,c,d,r,k.keeps kp⟩
theorem oQ {h:Heap}:∀{vs:List C9},(∀v∈vs,∃i ns,kB h v i ns)->∃fs,PySem.W.KatTups h vs fs/\fs.length=vs.length/\∀f∈fs,∃i t,f = .int i t
 | [],_=>⟨[],trivial,rfl,λf hf=>by cases hf⟩
 | v :: vs,hv=>by
  obtain ⟨fs,t,l,hf⟩:=oQ λu hu=>hv u (DB _ hu)
  obtain ⟨i,ns,p,o,xs,n,t',b,rfl,e,c,d,r,k⟩:=hv v DA
  have hx:xs[0]? = some (.int i t'):=by rw[<- Dt,r];rfl
  refine ⟨.int i t' :: fs,KU e c d hx t,congrArg (· + 1) l,λf hf' =>?_⟩
  cases hf' with
  | head=>exact ⟨i,t',rfl⟩
  | tail _ q=>exact hf f q
section
variable  {prog:DH}{w:Eb}{s:Dg}
theorem pW {vs:List C9}(hv:∀v∈vs,∃i ns,kB s.heap v i ns)(h2:2<=vs.length)(A:Ep)(h6:Heap)(hu:A.units<cLine)(k6:∀b o,s.heap.get? b=some o->h6.get? b=some o):∃κ,(∀(Q:SortKind->Dg->Prop) (E:C9->Dg->Prop),Q κ { s with heap:=h6 }->DI (DS prog w) A (keyKind' vs.toArray) Q E { s with heap:=h6 }) ∧
  Cmp prog w A { s with heap:=h6 } Aj (λp=>mD s.heap p.1) (λp=>p.1=p.2/\p.1∈vs) κ:=by
 refine ⟨tuples' true,λQ E q =>?_,⟨λE st x y Q hk hx hy q =>?_⟩⟩
 ·obtain ⟨fs,t,l,hf⟩:=oQ (h:=h6) (vs:=vs) λv hv'=>by
   obtain ⟨i,ns,k⟩:=hv v hv'
   exact ⟨i,ns,k.keeps k6⟩
  refine L3 (T :=.type "int") t (by lia) (λf hf' =>?_) rfl q
  obtain ⟨i,t',rfl⟩:=hf f hf'
  exact Ky rfl
 ·obtain ⟨i,ns,i1⟩:=hv _ hx.2
  obtain ⟨j,ms,i2⟩:=hv _ hy.2
  have q':Q (some (pLt (mD s.heap x.1) (mD s.heap y.1))) st:=q
  rw[i1.key,i2.key] at q'
  obtain ⟨p1,o1,xs1,n1,t1,b1,e1,g1,c1,d1,r1,v1⟩:=i1.keeps k6
  obtain ⟨p2,o2,xs2,n2,t2,b2,e2,g2,c2,d2,r2,v2⟩:=i2.keeps k6
  rw[lt'_eq]
  refine DF (Jh ?_)
  rw[hk,e1,e2]
  refine DF (Jw (FT (MA g1 d1 g2 d2 ?_)))
  rw[r1,r2]
  obtain ⟨j3,w3,z3⟩:=v1.isTup
  obtain ⟨j4,w4,z4⟩:=v2.isTup
  have sz:decide (xs1.size<xs2.size)=false:=decide_eq_false (by rw[<- Dl, <- Dl,r1,r2];exact Fe _)
  rw[sz]
  refine Ke (Kf ?_)
  unfold pLt at q'
  by_cases e:i=j
  ·subst e
   rw[if_pos rfl] at q'
   rw[beq_iff_eq.mpr rfl]
   refine Kx (Ke (wx hu v1 v2 _ _ _ _ ?_))
   by_cases e':ns=ms
   ·rw[decide_eq_true e']
    refine Kx (I0 ⟨rfl,DK ?_⟩)
    rw[e',lex_irrefl] at q';exact q'
   ·rw[decide_eq_false e']
    exact K7 (PySem.W.kat_one _ _ (HT.sD w3 w4 z3 z4 hu ⟨rfl,DK q'⟩))
  ·rw[if_neg (λz=>e (Ls z).1)] at q'
   rw[beq_eq_false_iff_ne.mpr e]
   refine K7 ?_
   refine oneLt_int ⟨rfl,DK ?_⟩
   rw[HT.dz,if_neg e] at q'
   exact q'
end
end Srt
namespace L2
open PySem PySem.Spec PyProof.Rows
section
variable  {X:Cx}
def wA (H:Hp)(ks:List (Addr×Int×Addr×List Int)):Prop:=∀k∈ks,H k.1=some (.tup [.int k.2.1,.ref k.2.2.1])/\H k.2.2.1=some (.tup (k.2.2.2.map V.int))
theorem ig (hu:X.A.units+8<cLine):bL X (.builtin "sorted") (λxs H Q=>∃(p:Addr) (ks:List (Addr×Int×Addr×List Int)),xs=[.ref p]/\H p=some (.lst (ks.map λk =>.ref k.1))/\wA H ks ∧
  ∀(l:Addr) (out:List (Addr×Int×Addr×List Int)),H l=none->out.Perm ks->Q (.ref l) (upd H l (.lst (out.map λt =>.ref t.1)))):=by
 intro pins s σ H xs us Q I r h
 obtain ⟨p,ks,rfl,hs,ht,q⟩:=h
 obtain ⟨u,rfl,ru⟩:=vals1 r
 cases (show u=DG p from ru)
 obtain ⟨its,o,n,rv,e,c,d,z⟩:=I.lX (.inl (SqL.of hs))
 have ei:=dQ (f:=λk:Addr×Int×Addr×List Int=>k.1) rv
 have lz:its.length<=Dm:=by rw[<- rv.length];exact z
 have hv:∀v∈its,∃i ns,Srt.kB s.heap v i ns:=λv hv=>by
  rw[ei] at hv
  obtain ⟨k,hm,rfl⟩:=DR.mp hv
  obtain ⟨h1,h3⟩:=ht k hm
  obtain ⟨jts,jr,⟨jo,je,jc,jn,jd⟩,_⟩:=I.tuple (SqT.of h1)
  obtain ⟨kts,kr,⟨ko,ke,kc,kn,kd⟩,_⟩:=I.tuple (SqT.of h3)
  cases jr with
  | cons g1 t1 =>
   cases t1 with
   | cons g2 t2 =>
    cases t2
    obtain ⟨t',et⟩:=g1
    refine ⟨k.2.1,k.2.2.2,k.1,jo,_,jn,t',k.2.2.1,rfl,je,jc,jd,?_,k.2.2.1,ko,_,kn,rfl,ke,kc,kd,by simpa using cp kr⟩
    rw[et,show _=DG k.2.2.1 from g2]
 refine Srt.rE (Srt.fE e c d lz) lz (λh2 B h6 hB k6=>Srt.pW hv h2 B h6 (by lia) k6) λh' l out m k hl el pm ps =>?_
 rw[ei] at pm
 obtain ⟨out',pm',rfl⟩:=iu pm
 exact ⟨.ref l,_,I.newList k hl el eR (by rw[C6,pm'.length_eq, <- C6 (f:=λt:Addr×Int×Addr×List Int=>V.ref t.1)];exact z),rfl,q l _ (I.hok.fresh hl) pm'⟩
end
def cY (K:Df)(x:Str)(st:Stmt):Prop:=∃(f:Addr) (od an:Option Addr) (sl:Array (Option C9)) (oc kV dc pm cd ct:C9),EZ K En x=some (some (.ref f))/\K.lookup f=some ⟨oc,od,.func (PySem.W.fnOf x x (eC st) (cD st) (aG st) .none kV dc pm an cd ct),sl⟩/\PySem.W.codeIn K cd x=true/\PySem.W.keepIn K (.ref f)=true
theorem cY.mk {K:Df}{x:Str}{st:Stmt}{f:Addr}{od an:Option Addr}{sl:Array (Option C9)}{oc kV dc pm cd ct:C9}(a:EZ K En x=some (some (.ref f)))(l:K.lookup f=some ⟨oc,od,.func (PySem.W.fnOf x x (eC st) (cD st) (aG st) .none kV dc pm an cd ct),sl⟩)(c:PySem.W.codeIn K cd x=true)(k:PySem.W.keepIn K (.ref f)=true):cY K x st:=⟨_,_,_,_,_,_,_,_,_,_,a,l,c,k⟩
theorem cY.cal {K:Df}{x:Str}{st:Stmt}(hf:cY K x st)(P:DH)(w:Eb)(base:Heap){h:Heap}{mg:Str->Option C9}(X:K.In h)(G:h.Ns En mg){lv:Nat}{ps:List Str}{sp:Sp}(ok:∀{f:Addr} {fd:EK},Fun K x x st f fd->cy P w K mg base CX0 lv f fd ps sp)
  (hb:∀(kV doc pm:C9) (an:Option Addr) (cdv ct:C9) (us:List C9),us.length=ps.length->bindArgs (PySem.W.fnOf x x (eC st) (cD st) (aG st) .none kV doc pm an cdv ct) ⟨us,[]⟩=pure (ps.zip us)):Cal P w K mg base lv x ps sp:=by
 obtain ⟨f,od,an,sl,oc,kV,dc,pm,cd,ct,a,l,c,k⟩:=hf
 have F:=xv l c k
 exact ⟨_,_,ok F,MN X G a,k,F.binds hb⟩
end L2
set_option maxHeartbeats 800000
namespace K16
open PySem L2
abbrev LA:=List (Addr×List Int)
variable  {P:DH}{w:Eb}{K:Df}{mg:Str->Option C9}{base:Heap}{f T:Addr}{fd:EK}
def top (i:Nat):Stmt:=PySem.Challenge.pw_ringfell_k16_least_ones_judged.main.body.getD i (.Pass ⟨0,0,0,0⟩)
abbrev yl:Stmt:=top 1
abbrev mE:Stmt:=top 2
abbrev mF:Stmt:=top 3
abbrev jR:Stmt:=top 4
abbrev mG:Stmt:=top 5
abbrev uL:Stmt:=top 6
abbrev i9:Stmt:=top 7
abbrev ij:Stmt:=top 8
abbrev mH:Stmt:=top 9
abbrev pX:Stmt:=top 11
abbrev iz:Stmt:=top 13
abbrev iA:Stmt:=top 14
abbrev gs:Stmt:=top 15
abbrev yo:Stmt:=top 17
abbrev yp:Stmt:=top 18
abbrev AU:Stmt:=top 19
abbrev yq:Stmt:=top 20
abbrev pY:Stmt:=top 21
abbrev mJ:Stmt:=top 22
abbrev kQ:Stmt:=top 23
abbrev mK:Stmt:=top 24
abbrev yr:Stmt:=top 25
abbrev pZ:Stmt:=top 26
abbrev tQ:Stmt:=top 27
abbrev mL:Stmt:=top 28
abbrev p5:Stmt:=top 29
abbrev rF:Stmt:=top 30
structure Blt (mg:Str->Option C9):Prop where
 b_all:mg "all" = none
 b_bool:mg "bool" = none
 b_divmod:mg "divmod" = none
 b_enumerate:mg "enumerate" = none
 b_int:mg "int" = none
 b_isinstance:mg "isinstance" = none
 b_len:mg "len" = none
 b_list:mg "list" = none
 b_max:mg "max" = none
 b_min:mg "min" = none
 b_range:mg "range" = none
 b_reversed:mg "reversed" = none
 b_set:mg "set" = none
 b_sorted:mg "sorted" = none
 b_tuple:mg "tuple" = none
 b_zip:mg "zip" = none
theorem mM:ED "all" = some (.builtin "all"):=by decide +kernel
theorem Al:ED "bool" = some (.type "bool"):=by decide +kernel
theorem aQ:ED "divmod" = some (.builtin "divmod"):=by decide +kernel
theorem yt:ED "int" = some (.type "int"):=by decide +kernel
theorem nF:ED "isinstance" = some (.builtin "isinstance"):=by decide +kernel
theorem cB:ED "len" = some (.builtin "len"):=by decide +kernel
theorem jf:ED "list" = some (.type "list"):=by decide +kernel
theorem mN:ED "max" = some (.builtin "max"):=by decide +kernel
theorem p7:ED "min" = some (.builtin "min"):=by decide +kernel
theorem mO:ED "range" = some (.type "range"):=by decide +kernel
theorem tR:ED "set" = some (.type "set"):=by decide +kernel
theorem cQ:ED "sorted" = some (.builtin "sorted"):=by decide +kernel
theorem mP:ED "tuple" = some (.type "tuple"):=by decide +kernel
theorem hu8 {A:Ep}{k:Nat}(hr:dG k A):A.units+8<cLine:=G4 (HL (by decide:8<=64) _) hr.units
abbrev AV:Stmt:=yo
abbrev AW:Stmt:=yp
abbrev rG:Stmt:=AU
abbrev yv:Stmt:=yq
abbrev yw:Stmt:=mE
abbrev CP:Stmt:=uL
abbrev CQ:Stmt:=yl
abbrev yx:Stmt:=mF
abbrev yy:Stmt:=i9
abbrev AX:Stmt:=ij
abbrev yz:Stmt:=mH
structure Wb (H:Hp)(r:Addr)(m:Int)(ts:LA):Prop where
 at':∃t,H r=some (.tup [.int m,.ref t])/\H t=some (.tup (ts.map λu =>.ref u.1))
 tup:∀u∈ts,H u.1=some (.tup (u.2.map V.int))
 pr:∀u∈ts,∃a b:Int,u.2=[a,b]/\0<=a/\a<=b/\b<m
 len:ts.length<=200
theorem Wb.tp {H H':Hp}{r:Addr}{m:Int}{ts:LA}(h:Wb H r m ts)(t:Tp H H'):Wb H' r m ts :=
 let ⟨p,e1,e2⟩:=h.at'
 ⟨⟨p,t _ _ e1,t _ _ e2⟩,λu hu=>t _ _ (h.tup u hu),h.pr,h.len⟩
theorem Wb.same {H H':Hp}{r:Addr}{m:Int}{ts:LA}(h:Wb H r m ts)(s:aB H H'):Wb H' r m ts:=h.tp s.tp
theorem item {ts:LA}{i:Nat}{x:V}(e:(ts.map λt:Addr×List Int=>V.ref t.1)[i]? = some x):∃u,ts[i]? = some u/\x = .ref u.1:=by
 rw[Dq] at e
 cases z:ts[i]? with
 | none=>rw[z] at e;cases e
 | some tt=>rw[z] at e;exact ⟨tt,rfl,(DW e).symm⟩
theorem CS {ts:List (Addr×Int×Int)}{i:Nat}{x:V}(e:(ts.map λt:Addr×Int×Int=>V.ref t.1)[i]? = some x):∃u,ts[i]? = some u/\x = .ref u.1:=by
 rw[Dq] at e
 cases z:ts[i]? with
 | none=>rw[z] at e;cases e
 | some tt=>rw[z] at e;exact ⟨tt,rfl,(DW e).symm⟩
theorem take_snoc {α β:Type}{f:α -> β}{l:List α}{i:Nat}{x:α}(e:l[i]? = some x):(l.take (i+1)).map f=(l.take i).map f++[f x]:=by
 rw[D3,e,Dj];rfl
structure df (H:Hp)(l:Addr)(many:Int)(ts:List (Addr×Int×Int)):Prop where
 at':H l=some (.lst (ts.map λt =>.ref t.1))
 tup:∀t∈ts,H t.1=some (.tup [.int t.2.1,.int t.2.2])
 bnd:∀t∈ts,0<=t.2.1/\t.2.1<many/\0<=t.2.2/\t.2.2<many
theorem df.same {H H':Hp}{l:Addr}{many:Int}{ts:List (Addr×Int×Int)}(h:df H l many ts)(s:aB H H'):df H' l many ts:=⟨s _ _ h.at',λt m=>s _ _ (h.tup t m),h.bnd⟩
theorem df.put {H H':Hp}{l:Addr}{many:Int}{ts us:List (Addr×Int×Int)}(h:df H' l many ts)(tu:∀t∈us,H' t.1=some (.tup [.int t.2.1,.int t.2.2]))(b:∀t∈us,0<=t.2.1/\t.2.1<many/\0<=t.2.2/\t.2.2<many) :
  df (upd H' l (.lst (us.map λt =>.ref t.1))) l many us:=by
 refine ⟨ag,λt ht =>?_,b⟩
 rw[az (cF (tu t ht) h.at' (by intro z;cases z))]
 exact tu t ht
theorem aB.cV {H H':Hp}{l:Addr}(s:aB H H')(hl:H l=none)(o:HO):aB H (upd H' l o):=λb u e=>by
 rw[az (aA e hl)];exact s _ _ e
def key (t:Addr×Int×Int):List Int:=nrm t.2.1 t.2.2
def tS (H:Hp)(ys:List V)(us:LA):Prop:=ys=us.map (λu =>.ref u.1)/\∀u∈us,H u.1=some (.tup (u.2.map V.int))
theorem tS.add {H:Hp}{ys:List V}{us:LA}(h:tS H ys us){t:Addr}(ht:H t=none)(ns:List Int):tS (upd H t (.tup (ns.map V.int))) (ys++[.ref t]) (us++[(t,ns)]):=by
 refine ⟨by rw[h.1,Dj];rfl,λu hu =>?_⟩
 rcases Dh.mp hu with z | z
 ·rw[az (aA (h.2 u z) ht)]
  exact h.2 u z
 ·have e:u=(t,ns):=by simpa using z
  rw[e]
  exact ag
theorem tS.same {H H':Hp}{ys:List V}{us:LA}(h:tS H ys us)(s:aB H H'):tS H' ys us:=⟨h.1,λu hu=>s _ _ (h.2 u hu)⟩
theorem BV {a b m:Int}(h:0<=a/\a<m/\0<=b/\b<m):∃x y:Int,nrm a b=[x,y]/\0<=x/\x<=y/\y<m:=by
 refine ⟨mnI a b,mxI a b,rfl,?_,?_,?_⟩ <;> (try unfold mnI) <;> (try unfold mxI) <;> (repeat' split) <;> lia
theorem dmN {n j:Int}(h:0<=n)(hj:0<j):0<=n/j/\0<=n%j/\n%j<j:=⟨Mo h (by lia),FG _ (by lia),Fn _ hj⟩
@[irreducible] def p9 (K:Df):Sp:=λvs H Q _=>∃(a:Addr) (ns:List Int) (k:Int),vs=[.ref a,.int k]/\SqL K H a (ns.map V.int)/\0<=k/\∀c:Int,Q (.int c) H
theorem iB {K:Df}{vs:List V}{H:Hp}{Q:VK}{E:XK}:p9 K vs H Q E↔∃(a:Addr) (ns:List Int) (k:Int),vs=[.ref a,.int k]/\SqL K H a (ns.map V.int)/\0<=k/\∀c:Int,Q (.int c) H:=by
 delta p9
 exact Gn
abbrev uM:Sp:=λvs H Q _=>∃c s:Int,vs=[.int c,.int s]/\0<=s/\s<=1000/\∀n:Int,0<=n->Q (.int n) H
@[irreducible] def qa:Sp:=uM
theorem iC {vs:List V}{H:Hp}{Q:VK}{E:XK}:qa vs H Q E↔uM vs H Q E:=by
 delta qa
 exact Gn
section
variable  {P:DH}{w:Eb}{K:Df}{mg:Str->Option C9}{base:Heap}{f:Addr}{fd:EK}
theorem BW:aU ["script", "k"] ["script", "k"] (aG AV):=⟨rfl,rfl,rfl,by decide +kernel,rfl,by decide +kernel,by decide +kernel⟩
theorem BX (F:Fun K "_law_cell" "_law_cell" AV f fd)(B:Blt mg):cy P w K mg base CX0 1 f fd ["script", "k"] (p9 K):=by
 refine F.ok BW (λvs H Q E h =>?_) (λcdv A outer s H vs Q E hr h =>?_)
 ·obtain ⟨c,k,k',rfl,_⟩:=iB.mp h
  rfl
 obtain ⟨a,ns,k,rfl,hS,k0,q⟩:=iB.mp h
 refine ⟨_,ai (bh (aD iN (pv 1) (ay aI rfl B.b_len JE (aa (pv 0) ah)) (aH _)) (aq (aJ (aM cC (pv 0) (pv 1) (λ_ _=>rfl)))) aL)
  (aq (aJ ak)),?_⟩
 refine ⟨_,rfl,_,rfl,a,_,rfl,.inl hS,_,_,rfl,rfl,_,rfl,cv (λc =>?_) λ_=>q 0⟩
 have c':k<((ns.map V.int).length:Int):=of_decide_eq_true c
 rw[C6] at c'
 obtain ⟨n,rfl⟩:∃n:Nat,k=n:=⟨k.toNat,by lia⟩
 exact ⟨_,rfl,_,rfl,a,_,_,.int (ns[n]'(by lia)),rfl,rfl,hS,cO (by rw[Dq,Dc (by lia)];rfl),q _⟩
theorem iD:aU ["cell", "salt", "one", "number", "j"] ["cell", "salt"] (aG AW):=⟨rfl,rfl,rfl,by decide +kernel,rfl,by decide +kernel,by decide +kernel⟩
theorem BY (F:Fun K "_law_deal" "_law_deal" AW f fd)(B:Blt mg):cy P w K mg base CX0 1 f fd ["cell", "salt"] qa:=by
 refine F.ok iD (λvs H Q E h =>?_) (λcdv A outer s H vs Q E hr h =>?_)
 ·obtain ⟨c,k,rfl,_⟩:=iC.mp h
  rfl
 obtain ⟨c,salt,rfl,s0,s1,q⟩:=iC.mp h
 refine ⟨_,ai (bh (aD w9 (pv 0) (aE lC ak ak) (aH _)) (aq (aJ (aE cg (pv 0) (aE lC ak ak)))) aL)
  (ai (aS (i:=2) iD.nd rfl (Or.inl rfl) (aE eG (pv 0) ak))
  (ai (aS (i:=3) iD.nd rfl (Or.inl rfl) ak)
  (ai (bR Ea rfl (cM rfl B.b_range (aa ak ah)) (ao (i:=4) iD.nd rfl (Or.inl rfl))
   (ai (aS (i:=2) iD.nd rfl (Or.inl rfl) (aE eG (aE fk (aE bM (aE bM (aE bM (pv 2) (aE fk (aE fk ak (pv 4)) (pv 4))) (aE fk ak (pv 1))) ak) ak) ak))
   (ai (aS (i:=2) iD.nd rfl (Or.inl rfl) (aE eG (aE fk (pv 2) (pv 2)) ak))
   (aq (aS (i:=3) iD.nd rfl (Or.inl rfl) (aE bM (aE fk (pv 3) ak) (aE zg (aE eG (aE fk (pv 2) ak) ak) ak)))))))
  (aq (aJ (pv 3)))))),?_⟩
 refine ⟨_,rfl,_,_,rfl,rfl,⟨by decide,by decide,by decide⟩,_,_,rfl,rfl,_,rfl,?_⟩
 refine cv (λc1 =>?_) (λc1 =>?_)
 ·have c':(10:Int) ^ (18:Int).toNat<=c:=of_decide_eq_true c1
  exact ⟨_,rfl,_,_,rfl,rfl,⟨by decide,by decide,by decide⟩,_,_,rfl,rfl,q _ (by lia)⟩
 ·refine ⟨_,rfl,_,_,rfl,rfl,(by show (0:Int)<_;decide),_,rfl,by decide,by decide,cN (λk σ H'=>(∃(o g:Int) (lv:Option V),0<=g/\σ=[some (.int c),some (.int salt),some (.int o),some (.int g),lv])/\H'=H) ⟨⟨_,0,none,by decide,rfl⟩,rfl⟩ ?_ ?_⟩
  ·rintro k σ H' hk ⟨⟨o,g,lv,hg,rfl⟩,rfl⟩
   have hk':k<24:=hk
   refine ⟨_,rfl,_,rfl,_,_,rfl,rfl,.inl ⟨by decide,by decide⟩,_,rfl,_,_,rfl,rfl,.inl ⟨by lia,by lia⟩,_,_,rfl,rfl,_,rfl,_,_,rfl,rfl,.inl ⟨by decide,by decide⟩,_,_,rfl,rfl,_,_,rfl,rfl,_,_,rfl,rfl,.inr ⟨by decide,by decide⟩,_,_,rfl,rfl,(by show (0:Int)<_;decide),?_⟩
   generalize ((o+15*(0+(k:Int))*(0+(k:Int))+31*salt+11)*48271)=z1
   have b1:=FG z1 (b:=2147483647) (by decide)
   have b2:=Fn z1 (b:=2147483647) (by decide)
   refine ⟨_,rfl,_,rfl,_,_,rfl,rfl,.inl ⟨by lia,by lia⟩,_,_,rfl,rfl,(by show (0:Int)<_;decide),?_⟩
   refine ⟨_,rfl,_,_,rfl,rfl,.inr ⟨by decide,by decide⟩,_,rfl,_,_,rfl,rfl,.inr ⟨by decide,by decide⟩,_,_,rfl,rfl,(by show (0:Int)<_;decide),_,_,rfl,rfl,⟨by decide,by decide⟩,_,_,rfl,rfl,⟨_,_,_,?_,rfl⟩,rfl⟩
   generalize (z1%2147483647*(z1%2147483647)%2147483629*69621)=z2
   have a1:0<=g*998244353:=Int.mul_nonneg hg (by decide)
   have a2:0<=z2%2147483587/7:=Mo (FG z2 (by decide)) (by decide)
   lia
  ·rintro σ H' ⟨⟨o,g,lv,hg,rfl⟩,rfl⟩
   exact ⟨_,rfl,q g hg⟩
end
theorem gX {X:Cx}{body:List Stmt}{D0:Ends}{σ0:St}{H0:Hp}(sts:List Stmt)(M:St->Hp->Prop)(h:∃t2,PSs X sts t2/\∀σ H,M σ H->t2 D0 σ H)
  (g:∀t2,PSs X sts t2->(∀σ H,M σ H->t2 D0 σ H)->∃t,PSs X body t/\t D0 σ0 H0):∃t,PSs X body t/\t D0 σ0 H0:=by
 obtain ⟨t2,p2,m2⟩:=h
 exact g t2 p2 m2
def T3 (H:Hp)(ys:List V)(us:List (Addr×Int×Int)):Prop:=ys=us.map (λu =>.ref u.1)/\∀u∈us,H u.1=some (.tup [.int u.2.1,.int u.2.2])
theorem T3.add {H:Hp}{ys:List V}{us:List (Addr×Int×Int)}(h:T3 H ys us){t:Addr}(ht:H t=none)(a b:Int):T3 (upd H t (.tup [.int a,.int b])) (ys++[.ref t]) (us++[(t,a,b)]):=by
 refine ⟨by rw[h.1,Dj];rfl,λu hu =>?_⟩
 rcases Dh.mp hu with z | z
 ·rw[az (aA (h.2 u z) ht)]
  exact h.2 u z
 ·have e:u=(t,a,b):=by simpa using z
  rw[e]
  exact ag
theorem T3.BZ {H:Hp}{ys:List V}{us:List (Addr×Int×Int)}{m:Int}(h:T3 H ys us){l:Addr}(hl:H l=none)(b:∀t∈us,0<=t.2.1/\t.2.1<m/\0<=t.2.2/\t.2.2<m):df (upd H l (.lst ys)) l m us:=by
 refine ⟨by rw[ag,h.1],λu hu =>?_,b⟩
 rw[az (aA (h.2 u hu) hl)]
 exact h.2 u hu
theorem jg {m a b:Int}{t:Addr}{us:List (Addr×Int×Int)}(h:∀t∈us,0<=t.2.1/\t.2.1<m/\0<=t.2.2/\t.2.2<m)(hab:0<=a/\a<m/\0<=b/\b<m):∀x∈us++[(t,a,b)],0<=x.2.1/\x.2.1<m/\0<=x.2.2/\x.2.2<m:=λx hx=>by
 rcases Dh.mp hx with z | z
 ·exact h x z
 ·rw[DD] at z;subst z;exact hab
theorem df.push {H0 H:Hp}{l:Addr}{m:Int}{ts:List (Addr×Int×Int)}(h:df H l m ts){t:Addr}(ht:H t=none){a b:Int}(hab:0<=a/\a<m/\0<=b/\b<m) :
  df (upd (upd H t (.tup [.int a,.int b])) l (.lst ((ts.map λt =>.ref t.1)++[.ref t]))) l m (ts++[(t,a,b)]):=by
 have nt:∀{c:Addr} {xs:List V},H c=some (.tup xs)->c≠l:=λe=>cF e h.at' (by intro z;cases z)
 have ntl:t≠l:=EB (aA h.at' ht)
 refine ⟨by rw[ag,Dj];rfl,λu hu =>?_,jg h.bnd hab⟩
 rcases Dh.mp hu with z | z
 ·rw[az (nt (h.tup u z)),az (aA (h.tup u z) ht)];exact h.tup u z
 ·rw[DD] at z;subst z
  rw[az ntl];exact ag
theorem uN {α:Type}(x:α):∀k:Nat,(Ej k [x]).flatten=Ej k x
 | 0=>rfl
 | k+1=>by rw[FN,FO,uN x k,FN];rfl
abbrev uO:Sp:=λvs H Q _=>∃n most:Int,vs=[.int n,.int most]/\0<=n/\0<=most/\most<=30/\∀(p b:Addr) (n' m:Int) (ts:LA) (H':Hp),aB H H'->H' p=some (.tup [.ref b,.int n'])->Wb H' b m ts->0<=m->m<=most->0<=n'->Q (.ref p) H'
@[irreducible] def qb:Sp:=uO
theorem fL {vs:List V}{H:Hp}{Q:VK}{E:XK}:qb vs H Q E↔uO vs H Q E:=by
 delta qb
 exact Gn
def MT (H:Hp)(most:Int)(k:Nat)(σ:St)(H':Hp):Prop:=∃(n m wy c t:Int) (l:Addr) (ts:List (Addr×Int×Int)) (c7 c8 c9 c10 c11:Option V),
 σ=[some (.int n),some (.int most),some (.int m),some (.int wy),some (.int c),some (.int t),some (.ref l),c7,c8,c9,c10,c11]/\0<=n/\0<=m/\m<=most/\0<=c/\c<=60/\aB H H'/\H l=none/\df H' l m ts/\ts.length<=k
section
variable  {P:DH}{w:Eb}{K:Df}{mg:Str->Option C9}{base:Heap}{f:Addr}{fd:EK}
theorem ndPM:(["place", "many"]:List Str).Nodup:=by decide +kernel
theorem AY:(["one", "other", "many"]:List Str).Nodup:=by decide +kernel
theorem ndP:(["pair"]:List Str).Nodup:=by decide +kernel
theorem bI:aU ["number", "most", "many", "way", "count", "turn", "ties", "place", "other", "k", "one", "again"] ["number", "most"] (aG rG):=⟨rfl,rfl,rfl,by decide +kernel,rfl,by decide +kernel,by decide +kernel⟩
theorem B0 (F:Fun K "_law_web" "_law_web" rG f fd)(B:Blt mg):cy P w K mg base CX0 1 f fd ["number", "most"] qb:=by
 refine F.ok bI (λvs H Q E h =>?_) (λcdv A outer s H vs Q E hr h =>?_)
 ·obtain ⟨c,k,rfl,_⟩:=fL.mp h
  rfl
 obtain ⟨n,most,rfl,n0,h0,h1,q⟩:=fL.mp h
 refine gX ((cD rG).drop 9) (MT H most 200) ?hT λtT pT mT =>?gT
 case hT =>
  refine ⟨_,aq (aJ (aT (aa (aT (aa (pv 2) (aa (aR bV rfl B.b_tuple GW (aa (ay fG rfl B.b_sorted cQ (aa
   (bY ["pair"] [none] rfl (bO (pv 6)) rfl (λ_ _ _ _ _=>ao (i:=0) ndP rfl (Or.inl rfl)) (λ_ _ _ _ _=>de)
    (λ_ _ _ _ _=>aT (aa (ay (vY (K:=K) rfl) rfl B.b_min p7 (aa (pv 0) ah)) (aa (ay (v5 (K:=K) rfl) rfl B.b_max mN (aa (pv 0) ah)) ah)))) ah)) ah)) ah))) (aa (pv 0) ah)))),?_⟩
  rintro σ H8 ⟨n,m,wy,c,t,l,ts,c7,c8,c9,c10,c11,rfl,n0,m0,m1,_,_,s8,hl,tA,lt⟩
  refine ⟨_,rfl,_,rfl,l,rfl,⟨_,SqL.of tA.at'⟩,bW (xs:=ts.map λt =>.ref t.1) (λi ys H'=>aB H8 H'/\∃us,tS H' ys us/\us.map (·.2)=(ts.take i).map key) ⟨aB.refl _,[],⟨rfl,λu hu=>by cases hu⟩,rfl⟩ (by rw[C6];exact small (by lia)) (λi ys H'' _ z=>SqL.of (z.1 _ _ tA.at')) ?_ ?_⟩
  ·rintro i x ys H' hx hy ⟨s',us,tu,eu⟩ R1 R0 r1 r0
   obtain ⟨tt,ht,rfl⟩:=CS hx
   have e2:=s' _ _ (tA.tup tt (Dp ht))
   refine bC ⟨_,rfl,_,_,_,rfl,SqT.of e2,_,rfl,_,_,_,rfl,SqT.of e2,(by show 2<=Dm;decide),λtn htn=>r1 _ _ ⟨s'.trans (ae htn _),us++[(tn,key tt)],tu.add htn _,?_⟩⟩
   rw[Dj,eu,D3,ht,Dj]
   rfl
  rintro ys H9 hy ⟨s9,us,tu,eu⟩ L hL
  have eu':us.map (·.2)=ts.map key:=by rw[eu,C6,Dr (Dd _)]
  have s10:=s9.trans (ae hL (.lst ys))
  have tu10:=tu.same (ae hL (.lst ys))
  have ey:=tu.1
  have keys:∀u∈us,∃x y:Int,u.2=[x,y]/\0<=x/\x<=y/\y<m:=λu hu=>by
   have:u.2∈ts.map key:=by rw[<- eu'];exact E3 hu
   obtain ⟨t,ht,e⟩:=DR.mp this
   rw[<- e]
   exact BV (tA.bnd t ht)
  have nn:∀u∈us,u.2≠[]:=λu hu z=>by
   obtain ⟨a,b,e,_⟩:=keys u hu
   rw[z] at e
   cases e
  refine ⟨L,us,rfl,.inl (SqL.of (by rw[ag,ey])),λu hu=>⟨SqT.of (tu10.2 u hu),nn u hu⟩,λL2 out hL2 po ps =>?_⟩
  have s11:=s10.trans (ae hL2 (.lst (out.map λt =>.ref t.1)))
  have tu11:=tu10.same (ae hL2 (.lst (out.map λt =>.ref t.1)))
  refine ⟨L2,_,rfl,.inl ⟨SqL.of ag,λl3 hl3 =>?_⟩⟩
  have s12:=s11.trans (ae hl3 (.tup (out.map λt =>.ref t.1)))
  have tu12:=tu11.same (ae hl3 (.tup (out.map λt =>.ref t.1)))
  refine ⟨(by show 2<=Dm;decide),λb hb=>⟨_,rfl,(by show 2<=Dm;decide),λp hp =>?_⟩⟩
  have sb:=ae hb (.tup [.int m,.ref l3])
  have sp:=ae hp (.tup [.ref b,.int n])
  have lu:us.length=ts.length:=by have:=congrArg List.length eu';rwa [C6,C6] at this
  refine q p b n m out _ (s8.trans (s12.trans (sb.trans sp))) ag ⟨⟨l3,sp _ _ ag,sp _ _ (sb _ _ ag)⟩,λu hu=>sp _ _ (sb _ _ (tu12.2 u (po.mem_iff.mp hu))),λu hu=>keys u (po.mem_iff.mp hu),?_⟩ m0 m1 n0
  rw[po.length_eq];lia
 refine gX ((cD rG).drop 7) (MT H most 30) ?hU λtU pU mU =>?gU
 case hU =>
  refine ⟨_,ai (bR Ea rfl (cM rfl B.b_range (aa (aE fk (pv 4) (aR nN rfl B.b_int yt (aa (fq j5 (pv 2) ak (aH _)) ah))) ah)) (ao (i:=9) bI.nd rfl (Or.inl rfl))
    (ai (bt (ay aF rfl B.b_divmod aQ (aa (pv 0) (aa (pv 2) ah))) (aX rfl (ax (ao (i:=0) bI.nd rfl (Or.inl rfl)) (ax (ao (i:=10) bI.nd rfl (Or.inl rfl)) aP))))
    (ai (bt (ay aF rfl B.b_divmod aQ (aa (pv 0) (aa (pv 2) ah))) (aX rfl (ax (ao (i:=0) bI.nd rfl (Or.inl rfl)) (ax (ao (i:=8) bI.nd rfl (Or.inl rfl)) aP))))
    (ai (bt (ay aF rfl B.b_divmod aQ (aa (pv 0) (aa ak ah))) (aX rfl (ax (ao (i:=0) bI.nd rfl (Or.inl rfl)) (ax (ao (i:=11) bI.nd rfl (Or.inl rfl)) aP))))
    (aq (bX (eB DY JN JO nV (pv 6) (aa (aE Bv (bH (aa (aT (aa (pv 10) (aa (pv 8) ah))) ah)) (aE bM ak (aR nN rfl B.b_int yt (aa (fq cu (pv 11) ak (aH _)) ah)))) ah))))))))
   (ai (bh (aD cu (pv 5) ak (aH _)) (aq (cG (i:=6) ["one", "other", "many"] [none,none,some 2] rfl bI.nd rfl rfl (bO (pv 6)) rfl (λ_ _ _ _ _=>iZ (K:=K) (i:=0) (j:=1) AY rfl rfl (Or.inl rfl) (Or.inl rfl)) (λ_ _ _ _ _=>de)
     (λ_ _ _ _ _=>aT (aa (aE cg (aE cg (pv 2) ak) (pv 0)) (aa (aE cg (aE cg (pv 2) ak) (pv 1)) ah))))) aL) pT),?_⟩
  rintro σ H2 ⟨n,m,wy,c,t,l,ts,c7,c8,c9,c10,c11,rfl,n0,m0,m1,cc0,cc1,s2,hl,tA,lt⟩
  have hN:∃N:Int,c*(if decide (0<m)=true then 1 else 0)=N/\0<=N/\N<=c/\(0<N->0<m):=by
   by_cases h:0<m
   ·exact ⟨c,by rw[if_pos (decide_eq_true h)];lia,cc0,by lia,λ_=>h⟩
   ·exact ⟨0,by rw[if_neg (by simpa using h)];lia,by lia,by lia,λz=>by lia⟩
  obtain ⟨N,eN,N0,N1,Nm⟩:=hN
  refine ⟨_,rfl,_,rfl,_,_,rfl,rfl,.inr ⟨_,rfl,_,_,rfl,rfl,.inl ⟨by lia,by lia⟩,N,by rw[<- eN],by lia,by lia,?_⟩⟩
  let W0:Nat->St->Hp->Prop:=λi σ H'=>(∃(n:Int) (c8 c9 c10 c11:Option V),0<=n/\σ=[some (.int n),some (.int most),some (.int m),some (.int wy),some (.int c),some (.int t),some (.ref l),c7,c8,c9,c10,c11])/\aB H H'/\∃ts,df H' l m ts/\ts.length<=30+2*i
  refine cN W0 ⟨⟨_,_,_,_,_,n0,rfl⟩,s2,ts,tA,by lia⟩ ?_ ?_
  ·rintro i σ H3 hi ⟨⟨n,c8,c9,c10,c11,n0,rfl⟩,s3,ts,tA,lt⟩
   have hi':(i:Int)<N:=by lia
   have mp:0<m:=Nm (by lia)
   obtain ⟨q0,x0,x1⟩:=dmN n0 mp
   refine ⟨_,rfl,_,rfl,n,m,rfl,⟨mp,by lia⟩,λp hp=>⟨p,_,rfl,SqT.of ag,rfl,_,_,rfl,_,_,rfl,rfl,?_⟩⟩
   have tA1:=tA.same (ae hp (.tup [.int (n/m),.int (n%m)]))
   have s4:=s3.trans (ae hp (.tup [.int (n/m),.int (n%m)]))
   generalize upd H3 p (.tup [.int (n/m),.int (n%m)])=H4 at tA1 s4
   generalize n/m=n1 at q0
   generalize n%m=x at x0 x1
   obtain ⟨q1,y0,y1⟩:=dmN q0 mp
   refine ⟨_,rfl,_,rfl,n1,m,rfl,⟨mp,by lia⟩,λp hp=>⟨p,_,rfl,SqT.of ag,rfl,_,_,rfl,_,_,rfl,rfl,?_⟩⟩
   have tA2:=tA1.same (ae hp (.tup [.int (n1/m),.int (n1%m)]))
   have s5:=s4.trans (ae hp (.tup [.int (n1/m),.int (n1%m)]))
   generalize upd H4 p (.tup [.int (n1/m),.int (n1%m)])=H5 at tA2 s5
   generalize n1/m=n2 at q1
   generalize n1%m=y at y0 y1
   obtain ⟨q2,z0,z1⟩:=dmN (j:=8) q1 (by decide)
   refine ⟨_,rfl,n2,8,rfl,⟨by decide,by decide⟩,λp hp=>⟨p,_,rfl,SqT.of ag,rfl,_,_,rfl,_,_,rfl,rfl,?_⟩⟩
   have tA3:=tA2.same (ae hp (.tup [.int (n2/8),.int (n2%8)]))
   have s6:=s5.trans (ae hp (.tup [.int (n2/8),.int (n2%8)]))
   generalize upd H5 p (.tup [.int (n2/8),.int (n2%8)])=H6 at tA3 s6
   generalize n2/8=n3 at q2
   generalize n2%8=z at z0 z1
   refine ⟨_,rfl,.inl ⟨rfl,_,SqL.of tA3.at'⟩,_,rfl,_,rfl,(by show 2<=Dm;decide),λt1 ht1=>⟨(by show 1<=Dm;decide),λb1 hb1 =>?_⟩⟩
   have hk:∃k:Nat,(1+(if decide (V.int z=V.int 0)=true then 1 else 0):Int)=(k:Int)/\1<=k/\k<=2:=by
    by_cases h:V.int z=V.int 0
    ·exact ⟨2,by rw[if_pos (decide_eq_true h)];rfl,by lia,by lia⟩
    ·exact ⟨1,by rw[if_neg (by simpa using h)];rfl,by lia,by lia⟩
   obtain ⟨k,ek,k1,k2⟩:=hk
   refine ⟨_,rfl,rfl,.inr ⟨_,rfl,_,_,rfl,rfl,b1,(k:Int),[.ref t1],rfl,by rw[<- ek],ag,by lia,by lia,?_,λb2 hb2 =>?_⟩⟩
   ·show 1*(k:Int).toNat<=Dm
    exact small (by lia)
   have g1:=ae ht1 (.tup [.int x,.int y])
   have g2:=ae hb1 (.lst [.ref t1])
   have g3:=ae hb2 (.lst (Ej (k:Int).toNat [V.ref t1]).flatten)
   have tA6:=((tA3.same g1).same g2).same g3
   have et:upd (upd (upd H6 t1 (.tup [.int x,.int y])) b1 (.lst [.ref t1])) b2 (.lst (Ej (k:Int).toNat [V.ref t1]).flatten) t1=some (.tup [.int x,.int y]):=g3 _ _ (g2 _ _ ag)
   have eb2:upd (upd (upd H6 t1 (.tup [.int x,.int y])) b1 (.lst [.ref t1])) b2 (.lst (Ej (k:Int).toNat [V.ref t1]).flatten) b2=some (.lst (((Ej k (t1,x,y))).map λu=>V.ref u.1)):=by
    rw[ag,Fx]
    rw[uN,List.map_replicate]
   have s9:=s6.trans (g1.trans (g2.trans g3))
   generalize upd (upd (upd H6 t1 (.tup [.int x,.int y])) b1 (.lst [.ref t1])) b2 (.lst (Ej (k:Int).toNat [V.ref t1]).flatten)=H9 at tA6 et eb2 s9
   refine ⟨l,b2,_,_,rfl,rfl,tA6.at',eb2,?_,⟨_,_,_,_,_,q2,rfl⟩,aB.cV s9 hl _,ts++Ej k (t1,x,y),?_,?_⟩
   ·rw[C6,C6,Gw];exact small (by lia)
   ·rw[<- Dj]
    refine tA6.put (H:=H) (λu hu =>?_) λu hu =>?_
    ·rcases Dh.mp hu with h | h
     ·exact tA6.tup u h
     ·rw[JP h];exact et
    ·rcases Dh.mp hu with h | h
     ·exact tA6.bnd u h
     ·rw[JP h];exact ⟨x0,x1,y0,y1⟩
   ·rw[C8,Gw];lia
  ·rintro σ H3 ⟨⟨n,c8,c9,c10,c11,n0,rfl⟩,s3,ts,tA,lt⟩
   have lt':ts.length<=150:=by lia
   refine ⟨_,rfl,rfl,_,rfl,cv (λ_ =>?_) λ_=>mT _ _ ⟨n,m,wy,c,t,l,ts,_,_,_,_,_,rfl,n0,m0,m1,cc0,cc1,s3,hl,tA,by lia⟩⟩
   have em:(ts.map λt=>(t.1,V.int t.2.1,V.int t.2.2)).map (λt=>V.ref t.1)=ts.map λt=>V.ref t.1:=by rw[Fo];rfl
   refine ⟨_,rfl,l,rfl,⟨_,SqL.of tA.at'⟩,iq (ts:=ts.map λt=>(t.1,V.int t.2.1,V.int t.2.2)) (λi ys H'=>aB H3 H'/\∃us,T3 H' ys us/\us.length=i/\∀t∈us,0<=t.2.1/\t.2.1<m/\0<=t.2.2/\t.2.2<m) (by decide) ⟨aB.refl _,[],⟨rfl,λu hu=>by cases hu⟩,rfl,λu hu=>by cases hu⟩ (by rw[C6];exact small (by lia)) ?_ ?_ ?_⟩
   ·rintro i ys H' _ ⟨s',_⟩
    rw[em]
    refine ⟨SqL.of (s' _ _ tA.at'),λt ht =>?_⟩
    obtain ⟨tt,htt,rfl⟩:=DR.mp ht
    exact SqT.of (s' _ _ (tA.tup tt htt))
   ·rintro i t ys H' ht hy ⟨s',us,tu,lu,bu⟩ R1 R0 r1 r0
    rw[Dq] at ht
    cases hi:ts[i]? with
    | none=>rw[hi] at ht;cases ht
    | some tt =>
    rw[hi] at ht
    have ht':=DW ht
    subst ht'
    have bb:=tA.bnd tt (Dp hi)
    refine bC ⟨_,rfl,_,_,rfl,rfl,_,rfl,_,_,rfl,rfl,_,rfl,_,_,rfl,rfl,_,rfl,_,_,rfl,rfl,(by show 2<=Dm;decide),λtn htn=>r1 _ _ ⟨s'.trans (ae htn _),us++[(tn,m-1-tt.2.1,m-1-tt.2.2)],tu.add htn _ _,by rw[C8,lu];rfl,jg bu (by lia)⟩⟩
   ·rintro ys H9 hy ⟨s9,us,tu,lu,bu⟩ L hL
    rw[C6] at lu
    exact mT _ _ ⟨n,m,wy,c,t,L,us,_,_,_,_,_,rfl,n0,m0,m1,cc0,cc1,s3.trans (s9.trans (ae hL _)),(s3.trans s9).free hL,tu.BZ hL bu,by lia⟩
 refine gX ((cD rG).drop 6) (MT H most 30) ?hV λtV pV mV =>?gV
 case hV =>
  refine ⟨_,ai (bh (aD cu (pv 3) ak (aH _)) (ai (cG (i:=6) ["place", "many"] [none,some 2] rfl bI.nd rfl rfl (cM rfl B.b_range (aa (pv 2) ah)) rfl (λ_ _ _ _ _=>ao (i:=0) ndPM rfl (Or.inl rfl)) (λ_ _ _ _ _=>de)
    (λ_ _ _ _ _=>aT (aa (pv 0) (aa (aE eG (aE bM (pv 0) ak) (pv 1)) ah))))
   (aq (aS (i:=4) bI.nd rfl (Or.inl rfl) (aE eG (pv 4) ak)))) aL) pU,?_⟩
  rintro σ H2 ⟨n,m,wy,c,t,l,ts,c7,c8,c9,c10,c11,rfl,n0,m0,m1,cc0,cc1,s2,hl,tA,lt⟩
  refine ⟨_,rfl,rfl,_,rfl,cv (λ_ =>?_) λ_=>mU _ _ ⟨n,m,wy,c,t,l,ts,_,_,_,_,_,rfl,n0,m0,m1,cc0,cc1,s2,hl,tA,lt⟩⟩
  let W1:Nat->List V->Hp->Prop:=λi ys H'=>aB H2 H'/\∃us,T3 H' ys us/\us.length=i/\∀t∈us,0<=t.2.1/\t.2.1<m/\0<=t.2.2/\t.2.2<m
  refine ⟨_,rfl,m,rfl,by lia,by lia,j9 W1 ⟨aB.refl _,[],⟨rfl,λu hu=>by cases hu⟩,rfl,λu hu=>by cases hu⟩ (small (by lia)) ?_ ?_⟩
  ·rintro i ys H' hi hy ⟨s',us,tu,lu,bu⟩ R1 R0 r1 r0
   have mp:0<m:=by lia
   have b1:=FG (0+(i:Int)+1) (b:=m) (by lia)
   have b2:=Fn (0+(i:Int)+1) mp
   exact bC ⟨_,rfl,_,rfl,_,_,rfl,rfl,_,rfl,_,_,rfl,rfl,mp,(by show 2<=Dm;decide),λtn htn=>r1 _ _ ⟨s'.trans (ae htn _),us++[(tn,0+(i:Int),(0+(i:Int)+1)%m)],tu.add htn _ _,by rw[C8,lu];rfl,jg bu (by lia)⟩⟩
  ·rintro ys H9 hy ⟨s9,us,tu,lu,bu⟩ L hL
   have z0:=FG c (b:=5) (by decide)
   have z1:=Fn c (b:=5) (by decide)
   exact ⟨_,rfl,_,_,rfl,rfl,(by show (0:Int)<5;decide),mU _ _ ⟨n,m,wy,c%5,t,L,us,_,_,_,_,_,rfl,n0,m0,m1,z0,by lia,s2.trans (s9.trans (ae hL _)),(s2.trans s9).free hL,tu.BZ hL bu,by lia⟩⟩
 refine ⟨_,ai (bt (ay aF rfl B.b_divmod aQ (aa (pv 0) (aa (aE bM (pv 1) ak) ah))) (aX rfl (ax (ao (i:=0) bI.nd rfl (Or.inl rfl)) (ax (ao (i:=2) bI.nd rfl (Or.inr rfl)) aP))))
  (ai (bt (ay aF rfl B.b_divmod aQ (aa (pv 0) (aa ak ah))) (aX rfl (ax (ao (i:=0) bI.nd rfl (Or.inl rfl)) (ax (ao (i:=3) bI.nd rfl (Or.inl rfl)) aP))))
  (ai (bt (ay aF rfl B.b_divmod aQ (aa (pv 0) (aa (aE bM (aE fk ak (pv 1)) ak) ah))) (aX rfl (ax (ao (i:=0) bI.nd rfl (Or.inl rfl)) (ax (ao (i:=4) bI.nd rfl (Or.inl rfl)) aP))))
  (ai (bt (ay aF rfl B.b_divmod aQ (aa (pv 0) (aa ak ah))) (aX rfl (ax (ao (i:=0) bI.nd rfl (Or.inl rfl)) (ax (ao (i:=5) bI.nd rfl (Or.inl rfl)) aP))))
  (ai (aS (i:=6) bI.nd rfl (Or.inl rfl) (bH ah))
  (ai (bh (aD iN (pv 3) ak (aH _))
   (ai (bR Ea rfl (nL rfl B.b_range (aa ak (aa (pv 2) ah))) (ao (i:=7) bI.nd rfl (Or.inl rfl))
    (ai (bt (ay aF rfl B.b_divmod aQ (aa (pv 0) (aa (pv 7) ah))) (aX rfl (ax (ao (i:=0) bI.nd rfl (Or.inl rfl)) (ax (ao (i:=8) bI.nd rfl (Or.inl rfl)) aP))))
    (aq (bX (eB DY Er Es bZ (pv 6) (aa (aT (aa (pv 8) (aa (pv 7) ah))) ah))))))
   (aq (aS (i:=4) bI.nd rfl (Or.inl rfl) (aE eG (pv 4) ak)))) aL) pV))))),?_⟩
 obtain ⟨q0,x0,x1⟩:=dmN n0 (show 0<most+1 by lia)
 refine ⟨_,rfl,_,rfl,_,_,rfl,rfl,n,most+1,rfl,⟨by lia,by lia⟩,λp hp=>⟨p,_,rfl,SqT.of ag,rfl,_,_,rfl,_,_,rfl,rfl,?_⟩⟩
 have s1:=ae hp (.tup [.int (n/(most+1)),.int (n%(most+1))])
 generalize upd H p (.tup [.int (n/(most+1)),.int (n%(most+1))])=H1 at s1
 generalize n/(most+1)=n1 at q0
 generalize n%(most+1)=m at x0 x1
 obtain ⟨q1,y0,y1⟩:=dmN (j:=6) q0 (by decide)
 refine ⟨_,rfl,n1,6,rfl,⟨by decide,by decide⟩,λp hp=>⟨p,_,rfl,SqT.of ag,rfl,_,_,rfl,_,_,rfl,rfl,?_⟩⟩
 have s2:=s1.trans (ae hp (.tup [.int (n1/6),.int (n1%6)]))
 generalize upd H1 p (.tup [.int (n1/6),.int (n1%6)])=H2 at s2
 generalize n1/6=n2 at q1
 generalize n1%6=wy at y0 y1
 obtain ⟨q2,z0,z1⟩:=dmN q1 (show 0<2*most+1 by lia)
 refine ⟨_,rfl,_,rfl,_,_,rfl,rfl,.inl ⟨by decide,by decide⟩,_,_,rfl,rfl,n2,2*most+1,rfl,⟨by lia,by lia⟩,λp hp=>⟨p,_,rfl,SqT.of ag,rfl,_,_,rfl,_,_,rfl,rfl,?_⟩⟩
 have s3:=s2.trans (ae hp (.tup [.int (n2/(2*most+1)),.int (n2%(2*most+1))]))
 generalize upd H2 p (.tup [.int (n2/(2*most+1)),.int (n2%(2*most+1))])=H3 at s3
 generalize n2/(2*most+1)=n3 at q2
 generalize n2%(2*most+1)=c at z0 z1
 obtain ⟨q3,u0,u1⟩:=dmN (j:=2) q2 (by decide)
 refine ⟨_,rfl,n3,2,rfl,⟨by decide,by decide⟩,λp hp=>⟨p,_,rfl,SqT.of ag,rfl,_,_,rfl,_,_,rfl,rfl,?_⟩⟩
 have s4:=s3.trans (ae hp (.tup [.int (n3/2),.int (n3%2)]))
 generalize upd H3 p (.tup [.int (n3/2),.int (n3%2)])=H4 at s4
 generalize n3/2=n4 at q3
 generalize n3%2=t at u0 u1
 refine ⟨(by show 0<=Dm;decide),λl hl4 =>?_⟩
 have hl:=s4.free hl4
 have s5:=s4.trans (ae hl4 (.lst []))
 have tA:df (upd H4 l (.lst [])) l m []:=⟨ag,λt z=>(by cases z),λt z=>(by cases z)⟩
 generalize upd H4 l (.lst [])=H5 at s5 tA
 refine ⟨_,rfl,_,_,rfl,rfl,_,rfl,cv (λ_ =>?_) λ_=>mV _ _ ⟨n4,m,wy,c,t,l,[],_,_,_,_,_,rfl,q3,x0,by lia,z0,by lia,s5,hl,tA,by simp⟩⟩
 let W2:Nat->St->Hp->Prop:=λj σ H4=>(∃(n:Int) (c7 c8:Option V),0<=n/\σ=[some (.int n),some (.int most),some (.int m),some (.int wy),some (.int c),some (.int t),some (.ref l),c7,c8,none,none,none])/\aB H H4/\∃us,df H4 l m us/\us.length=j
 refine ⟨_,rfl,1,_,rfl,⟨by decide,by decide,by lia,by lia⟩,cN W2 ⟨⟨_,_,_,q3,rfl⟩,s5,[],tA,rfl⟩ ?_ ?_⟩
 ·rintro j σ H6 hj ⟨⟨n,c7,c8,n0,rfl⟩,s6,us,tA6,lu⟩
  have hj':1+(j:Int)<m:=by lia
  obtain ⟨q5,v0,v1⟩:=dmN n0 (show 0<1+(j:Int) by lia)
  refine ⟨_,rfl,_,rfl,n,1+(j:Int),rfl,⟨by lia,by lia⟩,λp hp=>⟨p,_,rfl,SqT.of ag,rfl,_,_,rfl,_,_,rfl,rfl,?_⟩⟩
  have s7:=s6.trans (ae hp (.tup [.int (n/(1+(j:Int))),.int (n%(1+(j:Int)))]))
  have tA7:=tA6.same (ae hp (.tup [.int (n/(1+(j:Int))),.int (n%(1+(j:Int)))]))
  generalize upd H6 p (.tup [.int (n/(1+(j:Int))),.int (n%(1+(j:Int)))])=H7 at s7 tA7
  generalize n/(1+(j:Int))=n5 at q5
  generalize n%(1+(j:Int))=o at v0 v1
  refine ⟨_,rfl,.inl ⟨rfl,_,SqL.of tA7.at'⟩,_,rfl,_,rfl,(by show 2<=Dm;decide),λtt htt =>?_⟩
  exact ⟨l,_,_,rfl,rfl,(ae htt _) _ _ tA7.at',(by rw[C6];exact cx (by lia)),⟨_,_,_,q5,rfl⟩,aB.cV (s7.trans (ae htt _)) hl _,us++[(tt,o,1+(j:Int))],tA7.push (H0:=H) htt (by lia),by rw[C8,lu];rfl⟩
 ·rintro σ H6 ⟨⟨n,c7,c8,n0,rfl⟩,s6,us,tA6,lu⟩
  have w0:=FG c (b:=4) (by decide)
  have w1:=Fn c (b:=4) (by decide)
  exact ⟨_,rfl,_,_,rfl,rfl,(by show (0:Int)<4;decide),mV _ _ ⟨n,m,wy,c%4,t,l,us,_,_,_,_,_,rfl,n0,x0,by lia,w0,by lia,s6,hl,tA6,by lia⟩⟩
end
def TO (H:Hp)(l:Addr)(m:Int)(ts:List (Addr×Int×Int)):Prop:=df H l m ts/\∀t∈ts,t.2.1<=t.2.2
theorem TO.same {H H':Hp}{l:Addr}{m:Int}{ts:List (Addr×Int×Int)}(h:TO H l m ts)(s:aB H H'):TO H' l m ts:=⟨h.1.same s,h.2⟩
theorem TO.push {H:Hp}{l:Addr}{m:Int}{ts:List (Addr×Int×Int)}(h:TO H l m ts){t:Addr}(ht:H t=none){a b:Int}(hab:0<=a/\a<=b/\b<m) :
  TO (upd (upd H t (.tup [.int a,.int b])) l (.lst ((ts.map λt =>.ref t.1)++[.ref t]))) l m (ts++[(t,a,b)]):=by
 refine ⟨h.1.push (H0:=H) ht (by lia),λx hx =>?_⟩
 rcases Dh.mp hx with z | z
 ·exact h.2 x z
 ·rw[DD] at z;subst z;exact hab.2.1
theorem oR {α β:Type}(g:α -> β):∀(l:List α) (n:Nat),(l.map g).eraseIdx n=(l.eraseIdx n).map g
 | [],_=>rfl
 | _ :: _,0=>rfl
 | x :: l,n+1=>by
  show g x :: (l.map g).eraseIdx n=g x :: (l.eraseIdx n).map g
  rw[oR g l n]
theorem TO.erase {H:Hp}{l:Addr}{m:Int}{ts:List (Addr×Int×Int)}(h:TO H l m ts)(k:Nat):TO (upd H l (.lst ((ts.map λt=>V.ref t.1).eraseIdx k))) l m (ts.eraseIdx k):=by
 rw[oR]
 exact ⟨h.1.put (H:=H) (λt ht=>h.1.tup t (HU ht)) λt ht=>h.1.bnd t (HU ht),λt ht=>h.2 t (HU ht)⟩
def rw3 (t:Addr×Int×Int):Addr×List Int:=(t.1,[t.2.1,t.2.2])
theorem Am (ts:List (Addr×Int×Int)):(ts.map rw3).map (λu=>V.ref u.1)=ts.map λt=>V.ref t.1:=by rw[Fo];rfl
theorem TO.row {H:Hp}{l:Addr}{m:Int}{ts:List (Addr×Int×Int)}(h:TO H l m ts):∀u∈ts.map rw3,H u.1=some (.tup (u.2.map V.int))/\∃a b:Int,u.2=[a,b]/\0<=a/\a<=b/\b<m:=λu hu=>by
 obtain ⟨t,ht,rfl⟩:=DR.mp hu
 exact ⟨h.1.tup t ht,t.2.1,t.2.2,rfl,(h.1.bnd t ht).1,h.2 t ht,(h.1.bnd t ht).2.2.2⟩
abbrev uP:Sp:=λvs H Q _=>∃n:Int,vs=[.int n]/\0<=n/\∀(p b:Addr) (n' m:Int) (ts:LA) (H':Hp),aB H H'->H' p=some (.tup [.ref b,.int n'])->Wb H' b m ts->0<=m->m<=40->0<=n'->Q (.ref p) H'
@[irreducible] def qc:Sp:=uP
theorem iE {vs:List V}{H:Hp}{Q:VK}{E:XK}:qc vs H Q E↔uP vs H Q E:=by
 delta qc
 exact Gn
def MW (H:Hp)(σ:St)(H':Hp):Prop:=∃(n m:Int) (l:Addr) (ts:List (Addr×Int×Int)) (c2 c4 c5 c6 c7 c8 c9 c10 c11:Option V),
 σ=[some (.int n),some (.int m),c2,some (.ref l),c4,c5,c6,c7,c8,c9,c10,c11]/\0<=n/\0<=m/\m<=40/\aB H H'/\H l=none/\TO H' l m ts/\ts.length<=200
theorem CT {d:Int}(h0:0<=d)(h1:d<3):∃e:Int,0<e/\e<=40/\atI [V.int 2,.int 5,.int 40] d=some (.int e):=by
 have hd:d=0\/d=1\/d=2:=by lia
 rcases hd with e | e | e <;> subst e
 ·exact ⟨2,by decide,by decide,rfl⟩
 ·exact ⟨5,by decide,by decide,rfl⟩
 ·exact ⟨40,by decide,by decide,rfl⟩
section
variable  {P:DH}{w:Eb}{K:Df}{mg:Str->Option C9}{base:Heap}{f:Addr}{fd:EK}
theorem bF:aU ["number", "many", "near", "ties", "place", "other", "gone", "k", "at", "count", "one", "turn"] ["number"] (aG yv):=⟨rfl,rfl,rfl,by decide +kernel,rfl,by decide +kernel,by decide +kernel⟩
theorem B1 (F:Fun K "_law_wide" "_law_wide" yv f fd)(B:Blt mg):cy P w K mg base CX0 1 f fd ["number"] qc:=by
 refine F.ok bF (λvs H Q E h =>?_) (λcdv A outer s H vs Q E hr h =>?_)
 ·obtain ⟨c,rfl,_⟩:=iE.mp h
  rfl
 obtain ⟨n,rfl,n0,q⟩:=iE.mp h
 refine gX ((cD yv).drop 11) (MW H) ?hT λtT pT mT =>?gT
 case hT =>
  refine ⟨_,aq (aJ (aT (aa (aT (aa (pv 1) (aa (aR bV rfl B.b_tuple GW (aa (ay fG rfl B.b_sorted cQ (aa (pv 3) ah)) ah)) ah))) (aa (pv 0) ah)))),?_⟩
  rintro σ H8 ⟨n,m,l,ts,c2,c4,c5,c6,c7,c8,c9,c10,c11,rfl,n0,m0,m1,s8,hl,tA,lt⟩
  have row:=tA.row
  refine ⟨_,rfl,_,rfl,l,ts.map rw3,rfl,.inl (SqL.of (by rw[Am];exact tA.1.at')),λu hu=>⟨SqT.of (row u hu).1,λz =>?_⟩,λL2 out hL2 po ps=>⟨L2,_,rfl,.inl ⟨SqL.of ag,λl3 hl3=>⟨(by show 2<=Dm;decide),λb hb=>⟨_,rfl,(by show 2<=Dm;decide),λp hp =>?_⟩⟩⟩⟩⟩
  ·obtain ⟨_,x,y,e,_⟩:=row u hu
   rw[z] at e;cases e
  have s12:=(ae hL2 (.lst (out.map λt =>.ref t.1))).trans (ae hl3 (.tup (out.map λt =>.ref t.1)))
  have sb:=ae hb (.tup [.int m,.ref l3])
  have sp:=ae hp (.tup [.ref b,.int n])
  refine q p b n m out _ (s8.trans (s12.trans (sb.trans sp))) ag ⟨⟨l3,sp _ _ ag,sp _ _ (sb _ _ ag)⟩,λu hu=>sp _ _ (sb _ _ (s12 _ _ (row u (po.mem_iff.mp hu)).1)),λu hu=>(row u (po.mem_iff.mp hu)).2,?_⟩ m0 m1 n0
  rw[po.length_eq,C6];exact lt
 refine ⟨_,ai (bt (ay aF rfl B.b_divmod aQ (aa (pv 0) (aa ak ah))) (aX rfl (ax (ao (i:=0) bF.nd rfl (Or.inl rfl)) (ax (ao (i:=1) bF.nd rfl (Or.inr rfl)) aP))))
  (ai (aS (i:=1) bF.nd rfl (Or.inr rfl) (aE bM (pv 1) ak))
  (ai (bt (ay aF rfl B.b_divmod aQ (aa (pv 0) (aa ak ah))) (aX rfl (ax (ao (i:=0) bF.nd rfl (Or.inl rfl)) (ax (ao (i:=2) bF.nd rfl (Or.inl rfl)) aP))))
  (ai (aS (i:=3) bF.nd rfl (Or.inl rfl) (bH ah))
  (ai (bR Ea rfl (nL rfl B.b_range (aa ak (aa (pv 1) ah))) (ao (i:=4) bF.nd rfl (Or.inl rfl))
   (ai (bt (ay aF rfl B.b_divmod aQ (aa (pv 0) (aa (aM cC (bH (aa ak (aa ak (aa ak ah)))) (pv 2) (λ_ _=>rfl)) ah))) (aX rfl (ax (ao (i:=0) bF.nd rfl (Or.inl rfl)) (ax (ao (i:=5) bF.nd rfl (Or.inl rfl)) aP))))
   (aq (bX (eB DY Er Es bZ (pv 3) (aa (aT (aa (ay (gL rfl) rfl B.b_max mN (aa ak (aa (aE cg (aE cg (pv 4) ak) (pv 5)) ah))) (aa (pv 4) ah))) ah))))))
  (ai (bt (ay aF rfl B.b_divmod aQ (aa (pv 0) (aa ak ah))) (aX rfl (ax (ao (i:=0) bF.nd rfl (Or.inl rfl)) (ax (ao (i:=6) bF.nd rfl (Or.inl rfl)) aP))))
  (ai (bR Ea rfl (cM rfl B.b_range (aa (pv 6) ah)) (ao (i:=7) bF.nd rfl (Or.inl rfl))
   (ai (bt (ay aF rfl B.b_divmod aQ (aa (pv 0) (aa (ay aI rfl B.b_len JE (aa (pv 3) ah)) ah))) (aX rfl (ax (ao (i:=0) bF.nd rfl (Or.inl rfl)) (ax (ao (i:=8) bF.nd rfl (Or.inl rfl)) aP))))
   (aq (bX (eB DY Iz IA xt (pv 3) (aa (pv 8) ah))))))
  (ai (bt (ay aF rfl B.b_divmod aQ (aa (pv 0) (aa ak ah))) (aX rfl (ax (ao (i:=0) bF.nd rfl (Or.inl rfl)) (ax (ao (i:=9) bF.nd rfl (Or.inl rfl)) aP))))
  (ai (bR Ea rfl (cM rfl B.b_range (aa (pv 9) ah)) (ao (i:=7) bF.nd rfl (Or.inl rfl))
   (ai (bt (ay aF rfl B.b_divmod aQ (aa (pv 0) (aa (pv 1) ah))) (aX rfl (ax (ao (i:=0) bF.nd rfl (Or.inl rfl)) (ax (ao (i:=10) bF.nd rfl (Or.inl rfl)) aP))))
   (ai (bt (ay aF rfl B.b_divmod aQ (aa (pv 0) (aa (pv 1) ah))) (aX rfl (ax (ao (i:=0) bF.nd rfl (Or.inl rfl)) (ax (ao (i:=5) bF.nd rfl (Or.inl rfl)) aP))))
   (aq (bX (eB DY Er Es bZ (pv 3) (aa (aT (aa (ay (jH rfl) rfl B.b_min p7 (aa (pv 10) (aa (pv 5) ah))) (aa (ay (gL rfl) rfl B.b_max mN (aa (pv 10) (aa (pv 5) ah))) ah))) ah)))))))
  (ai (bt (ay aF rfl B.b_divmod aQ (aa (pv 0) (aa ak ah))) (aX rfl (ax (ao (i:=0) bF.nd rfl (Or.inl rfl)) (ax (ao (i:=11) bF.nd rfl (Or.inl rfl)) aP))))
  (ai (bh (aD cu (pv 11) ak (aH _)) (aq (cG (i:=3) ["one", "other", "many"] [none,none,some 1] rfl bF.nd rfl rfl (bO (pv 3)) rfl (λ_ _ _ _ _=>iZ (K:=K) (i:=0) (j:=1) AY rfl rfl (Or.inl rfl) (Or.inl rfl)) (λ_ _ _ _ _=>de)
    (λ_ _ _ _ _=>aT (aa (aE cg (aE cg (pv 2) ak) (pv 1)) (aa (aE cg (aE cg (pv 2) ak) (pv 0)) ah))))) aL)
   pT)))))))))),?_⟩
 obtain ⟨q0,x0,x1⟩:=dmN (j:=11) n0 (by decide)
 refine ⟨_,rfl,n,11,rfl,⟨by decide,by decide⟩,λp hp=>⟨p,_,rfl,SqT.of ag,rfl,_,_,rfl,_,_,rfl,rfl,?_⟩⟩
 have s1:=ae hp (.tup [.int (n/11),.int (n%11)])
 generalize upd H p (.tup [.int (n/11),.int (n%11)])=H1 at s1
 generalize n/11=n1 at q0
 generalize n%11=m' at x0 x1
 refine ⟨_,rfl,_,_,rfl,rfl,?_⟩
 dsimp only
 have m30:30<=m'+30:=by lia
 have m40:m'+30<=40:=by lia
 generalize m'+30=m at m30 m40
 obtain ⟨q1,y0,y1⟩:=dmN (j:=3) q0 (by decide)
 refine ⟨_,rfl,n1,3,rfl,⟨by decide,by decide⟩,λp hp=>⟨p,_,rfl,SqT.of ag,rfl,_,_,rfl,_,_,rfl,rfl,?_⟩⟩
 have s2:=s1.trans (ae hp (.tup [.int (n1/3),.int (n1%3)]))
 generalize upd H1 p (.tup [.int (n1/3),.int (n1%3)])=H2 at s2
 generalize n1/3=n2 at q1
 generalize n1%3=nr at y0 y1
 obtain ⟨e,e0,e1,ee⟩:=CT y0 y1
 refine ⟨(by show 0<=Dm;decide),λl hl4 =>?_⟩
 have hl:=s2.free hl4
 have s5:=s2.trans (ae hl4 (.lst []))
 have tA:TO (upd H2 l (.lst [])) l m []:=⟨⟨ag,λt z=>(by cases z),λt z=>(by cases z)⟩,λt z=>(by cases z)⟩
 generalize upd H2 l (.lst [])=H5 at s5 tA
 let W0:Nat->St->Hp->Prop:=λj σ H4=>(∃(n:Int) (c4 c5:Option V),0<=n/\σ=[some (.int n),some (.int m),some (.int nr),some (.ref l),c4,c5,none,none,none,none,none,none])/\aB H H4/\∃us,TO H4 l m us/\us.length=j
 refine ⟨_,rfl,1,_,rfl,⟨by decide,by decide,by lia,by lia⟩,cN W0 ⟨⟨_,_,_,q1,rfl⟩,s5,[],tA,rfl⟩ ?_ ?_⟩
 ·rintro j σ H6 hj ⟨⟨n,c4,c5,n0,rfl⟩,s6,us,tA6,lu⟩
  have hj':1+(j:Int)<m:=by lia
  obtain ⟨q5,v0,v1⟩:=dmN n0 e0
  refine ⟨_,rfl,(by show 3<=Dm;decide),λb hb=>⟨_,rfl,b,_,nr,_,rfl,rfl,SqL.of ag,ee,n,e,rfl,⟨e0,by lia⟩,λp hp=>⟨p,_,rfl,SqT.of ag,rfl,_,_,rfl,_,_,rfl,rfl,?_⟩⟩⟩
  have g:=(ae hb (.lst [.int 2,.int 5,.int 40])).trans (ae hp (.tup [.int (n/e),.int (n%e)]))
  have s7:=s6.trans g
  have tA7:=tA6.same g
  generalize upd (upd H6 b (.lst [.int 2,.int 5,.int 40])) p (.tup [.int (n/e),.int (n%e)])=H7 at s7 tA7
  generalize n/e=n5 at q5
  generalize n%e=o at v0 v1
  refine ⟨_,rfl,.inl ⟨rfl,_,SqL.of tA7.1.at'⟩,_,rfl,_,_,rfl,rfl,_,rfl,_,_,rfl,rfl,_,_,rfl,_,rfl,(by show 2<=Dm;decide),λtt htt =>?_⟩
  exact ⟨l,_,_,rfl,rfl,(ae htt _) _ _ tA7.1.at',(by rw[C6];exact cx (by lia)),⟨_,_,_,q5,rfl⟩,aB.cV (s7.trans (ae htt _)) hl _,us++[(tt,_,1+(j:Int))],tA7.push htt (by split <;> lia),by rw[C8,lu];rfl⟩
 rintro σ H6 ⟨⟨n,c4,c5,n0,rfl⟩,s6,us,tA6,lu⟩
 obtain ⟨q6,y0,y1⟩:=dmN (j:=4) n0 (by decide)
 refine ⟨_,rfl,n,4,rfl,⟨by decide,by decide⟩,λp hp=>⟨p,_,rfl,SqT.of ag,rfl,_,_,rfl,_,_,rfl,rfl,?_⟩⟩
 have s7:=s6.trans (ae hp (.tup [.int (n/4),.int (n%4)]))
 have tA7:=tA6.same (ae hp (.tup [.int (n/4),.int (n%4)]))
 generalize upd H6 p (.tup [.int (n/4),.int (n%4)])=H7 at s7 tA7
 generalize n/4=n6 at q6
 generalize n%4=g at y0 y1
 let W1:Nat->St->Hp->Prop:=λj σ H4=>(∃(n:Int) (c7 c8:Option V),0<=n/\σ=[some (.int n),some (.int m),some (.int nr),some (.ref l),c4,c5,some (.int g),c7,c8,none,none,none])/\aB H H4/\∃us,TO H4 l m us/\us.length+j=(m-1).toNat
 refine ⟨_,rfl,g,rfl,by lia,by lia,cN W1 ⟨⟨_,_,_,q6,rfl⟩,s7,us,tA7,by lia⟩ ?_ ?_⟩
 ·rintro j σ H8 hj ⟨⟨n,c7,c8,n0,rfl⟩,s8,us,tA8,lu⟩
  have lp:0<us.length:=by lia
  obtain ⟨q8,v0,v1⟩:=dmN n0 (show (0:Int)<((us.map λt=>V.ref t.1).length:Int) by rw[C6];lia)
  refine ⟨_,rfl,_,rfl,l,_,rfl,.inl (SqL.of tA8.1.at'),n,_,rfl,⟨by rw[C6];lia,by rw[C6];lia⟩,λp hp=>⟨p,_,rfl,SqT.of ag,rfl,_,_,rfl,_,_,rfl,rfl,?_⟩⟩
  have g9:=ae hp (.tup [.int (n/((us.map λt=>V.ref t.1).length:Int)),.int (n%((us.map λt=>V.ref t.1).length:Int))])
  have s9:=s8.trans g9
  have tA9:=tA8.same g9
  generalize upd H8 p (.tup [.int (n/((us.map λt=>V.ref t.1).length:Int)),.int (n%((us.map λt=>V.ref t.1).length:Int))])=H9 at s9 tA9
  generalize n/((us.map λt=>V.ref t.1).length:Int)=n8 at q8
  generalize n%((us.map λt=>V.ref t.1).length:Int)=at' at v0 v1
  rw[C6] at v1
  obtain ⟨pn,rfl⟩:∃k:Nat,at'=k:=⟨at'.toNat,by lia⟩
  have ep:us[pn]? = some us[pn]:=Dc (by lia)
  refine ⟨_,rfl,.inl ⟨rfl,_,SqL.of tA9.1.at'⟩,_,rfl,l,_,(pn:Int),pn,.ref us[pn].1,rfl,rfl,tA9.1.at',by lia,by lia,?_,by rw[Dq,ep];rfl,⟨_,_,_,q8,rfl⟩,aB.cV s9 hl _,us.eraseIdx pn,tA9.erase pn,?_⟩
  ·have:=Mc (i:=(pn:Int)) (n:=(us.map λu=>V.ref u.1).length) (by lia) (by rw[C6];lia)
   simpa using this
  ·rw[KW,if_pos (by lia)];lia
 rintro σ H8 ⟨⟨n,c7,c8,n0,rfl⟩,s8,us,tA8,lu⟩
 have lu':us.length<=39:=by lia
 obtain ⟨q9,y0,y1⟩:=dmN (j:=6) n0 (by decide)
 refine ⟨_,rfl,n,6,rfl,⟨by decide,by decide⟩,λp hp=>⟨p,_,rfl,SqT.of ag,rfl,_,_,rfl,_,_,rfl,rfl,?_⟩⟩
 have s9:=s8.trans (ae hp (.tup [.int (n/6),.int (n%6)]))
 have tA9:=tA8.same (ae hp (.tup [.int (n/6),.int (n%6)]))
 generalize upd H8 p (.tup [.int (n/6),.int (n%6)])=H9 at s9 tA9
 generalize n/6=n9 at q9
 generalize n%6=ct at y0 y1
 let W2:Nat->St->Hp->Prop:=λj σ H4=>(∃(n:Int) (c5 c7 c10:Option V),0<=n/\σ=[some (.int n),some (.int m),some (.int nr),some (.ref l),c4,c5,some (.int g),c7,c8,some (.int ct),c10,none])/\aB H H4/\∃us,TO H4 l m us/\us.length<=39+j
 refine ⟨_,rfl,ct,rfl,by lia,by lia,cN W2 ⟨⟨_,_,_,_,q9,rfl⟩,s9,us,tA9,by lia⟩ ?_ ?_⟩
 ·rintro j σ H10 hj ⟨⟨n,c5,c7,c10,n0,rfl⟩,s10,us,tA10,lu⟩
  have mp:0<m:=by lia
  obtain ⟨q0,x0,x1⟩:=dmN n0 mp
  refine ⟨_,rfl,_,rfl,n,m,rfl,⟨mp,by lia⟩,λp hp=>⟨p,_,rfl,SqT.of ag,rfl,_,_,rfl,_,_,rfl,rfl,?_⟩⟩
  have tA1:=tA10.same (ae hp (.tup [.int (n/m),.int (n%m)]))
  have s4:=s10.trans (ae hp (.tup [.int (n/m),.int (n%m)]))
  generalize upd H10 p (.tup [.int (n/m),.int (n%m)])=H4 at tA1 s4
  generalize n/m=n1 at q0
  generalize n%m=x at x0 x1
  obtain ⟨q1,y0,y1⟩:=dmN q0 mp
  refine ⟨_,rfl,_,rfl,n1,m,rfl,⟨mp,by lia⟩,λp hp=>⟨p,_,rfl,SqT.of ag,rfl,_,_,rfl,_,_,rfl,rfl,?_⟩⟩
  have tA2:=tA1.same (ae hp (.tup [.int (n1/m),.int (n1%m)]))
  have s5:=s4.trans (ae hp (.tup [.int (n1/m),.int (n1%m)]))
  generalize upd H4 p (.tup [.int (n1/m),.int (n1%m)])=H5 at tA2 s5
  generalize n1/m=n2 at q1
  generalize n1%m=y at y0 y1
  refine ⟨_,rfl,.inl ⟨rfl,_,SqL.of tA2.1.at'⟩,_,rfl,_,rfl,_,_,rfl,_,rfl,_,rfl,_,_,rfl,(by show 2<=Dm;decide),λtt htt =>?_⟩
  refine ⟨l,_,_,rfl,rfl,(ae htt _) _ _ tA2.1.at',(by rw[C6];exact cx (by lia)),⟨_,_,_,_,q1,rfl⟩,aB.cV (s5.trans (ae htt _)) hl _,us++[(tt,_,_)],tA2.push htt ⟨?_,?_,?_⟩,by rw[C8];show us.length+1<=_;lia⟩
  ·split <;> lia
  ·split <;> split <;> lia
  ·split <;> lia
 rintro σ H10 ⟨⟨n,c5,c7,c10,n0,rfl⟩,s10,us,tA10,lu⟩
 obtain ⟨q9,y0,y1⟩:=dmN (j:=2) n0 (by decide)
 refine ⟨_,rfl,n,2,rfl,⟨by decide,by decide⟩,λp hp=>⟨p,_,rfl,SqT.of ag,rfl,_,_,rfl,_,_,rfl,rfl,?_⟩⟩
 have s11:=s10.trans (ae hp (.tup [.int (n/2),.int (n%2)]))
 have tA11:=tA10.same (ae hp (.tup [.int (n/2),.int (n%2)]))
 generalize upd H10 p (.tup [.int (n/2),.int (n%2)])=H11 at s11 tA11
 generalize n/2=n10 at q9
 generalize n%2=tu at y0 y1
 refine ⟨_,rfl,rfl,_,rfl,cv (λ_ =>?_) λ_=>mT _ _ ⟨n10,m,l,us,_,_,_,_,_,_,_,_,_,rfl,q9,by lia,m40,s11,hl,tA11,by lia⟩⟩
 have em:(us.map λt=>(t.1,V.int t.2.1,V.int t.2.2)).map (λt=>V.ref t.1)=us.map λt=>V.ref t.1:=by rw[Fo];rfl
 refine ⟨_,rfl,l,rfl,⟨_,SqL.of tA11.1.at'⟩,iq (ts:=us.map λt=>(t.1,V.int t.2.1,V.int t.2.2)) (λi ys H'=>aB H11 H'/\∃vs,T3 H' ys vs/\vs.length=i/\(∀t∈vs,0<=t.2.1/\t.2.1<m/\0<=t.2.2/\t.2.2<m)/\∀t∈vs,t.2.1<=t.2.2) (by decide) ⟨aB.refl _,[],⟨rfl,λu hu=>by cases hu⟩,rfl,(λu hu=>by cases hu),λu hu=>by cases hu⟩ (by rw[C6];exact small (by lia)) ?_ ?_ ?_⟩
 ·rintro i ys H' _ ⟨s',_⟩
  rw[em]
  refine ⟨SqL.of (s' _ _ tA11.1.at'),λt ht =>?_⟩
  obtain ⟨tt,htt,rfl⟩:=DR.mp ht
  exact SqT.of (s' _ _ (tA11.1.tup tt htt))
 ·rintro i t ys H' ht hy ⟨s',vs,tv,lv,bv,ov⟩ R1 R0 r1 r0
  rw[Dq] at ht
  cases hi:us[i]? with
  | none=>rw[hi] at ht;cases ht
  | some tt =>
  rw[hi] at ht
  have ht':=DW ht
  subst ht'
  have bb:=tA11.1.bnd tt (Dp hi)
  have oo:=tA11.2 tt (Dp hi)
  refine bC ⟨_,rfl,_,_,rfl,rfl,_,rfl,_,_,rfl,rfl,_,rfl,_,_,rfl,rfl,_,rfl,_,_,rfl,rfl,(by show 2<=Dm;decide),λtn htn=>r1 _ _ ⟨s'.trans (ae htn _),vs++[(tn,m-1-tt.2.2,m-1-tt.2.1)],tv.add htn _ _,by rw[C8,lv];rfl,jg bv (by lia),λx hx =>?_⟩⟩
  rcases Dh.mp hx with z | z
  ·exact ov x z
  ·rw[DD] at z;subst z
   show m-1-tt.2.2<=m-1-tt.2.1
   lia
 ·rintro ys H12 hy ⟨s12,vs,tv,lv,bv,ov⟩ L hL
  rw[C6] at lv
  exact mT _ _ ⟨n10,m,L,vs,_,_,_,_,_,_,_,_,_,rfl,q9,by lia,m40,s11.trans (s12.trans (ae hL _)),(s11.trans s12).free hL,⟨tv.BZ hL bv,ov⟩,by lia⟩
end
def cE (ns:List (List Int))(k:Int):Int:=(ns.map λp=>(p.count k:Int)).sum
def both (ps:List Int)(p:List Int):Bool:=decide (p.getD 0 0∈ps) && decide (p.getD 1 0∈ps)
theorem di (ps:List Int):(ps.map V.int).all iP=true:=by
 rw[MP,F2]
 intro x _
 rfl
theorem dw (k:Int):∀ps:List Int,inV (.int k) (ps.map V.int)=decide (k∈ps)
 | []=>by simp[inV]
 | p :: ps=>by
  have ih:=dw k ps
  unfold inV at ih ⊢
  rw[DV,Ia,ih]
  have e:eqV (.int p) (.int k)=(p == k):=rfl
  rw[e]
  by_cases h:p=k
  ·subst h;simp
  ·rw[beq_eq_false_iff_ne.mpr h,MM]
   apply decide_eq_decide.mpr
   rw[Dx]
   exact ⟨.inr,λx=>x.elim (λy=>absurd y.symm h) id⟩
section
variable  {P:DH}{w:Eb}{K:Df}{mg:Str->Option C9}{base:Heap}{f:Addr}{fd:EK}
theorem AZ:(["tie", "places"]:List Str).Nodup:=by decide +kernel
end
def nb1 (p:List Int)(k:Int):List Int:=if p.getD 0 0=p.getD 1 0 then [] else if p.getD 0 0=k then [p.getD 1 0] else if p.getD 1 0=k then [p.getD 0 0] else []
theorem kR {a b k x:Int}:x∈nb1 [a,b] k↔a≠b/\((a=k/\x=b)\/(b=k/\x=a)):=by
 show x∈(if a=b then [] else if a=k then [b] else if b=k then [a] else [])↔_
 by_cases h1:a=b
 ·rw[if_pos h1];simp[h1]
 ·rw[if_neg h1]
  by_cases h2:a=k
  ·rw[if_pos h2,DD]
   exact ⟨λe=>⟨h1,.inl ⟨h2,e⟩⟩,λ⟨_,h⟩=>h.elim (λz=>z.2) λz=>absurd (h2.trans z.1.symm) h1⟩
  ·rw[if_neg h2]
   by_cases h3:b=k
   ·rw[if_pos h3,DD]
    exact ⟨λe=>⟨h1,.inr ⟨h3,e⟩⟩,λ⟨_,h⟩=>h.elim (λz=>absurd z.1 h2) λz=>z.2⟩
   ·rw[if_neg h3]
    exact ⟨λh=>(by cases h),λ⟨_,h⟩=>h.elim (λz=>absurd z.1 h2) λz=>absurd z.1 h3⟩
def nbs (ns:List (List Int))(k:Int):List Int:=ns.flatMap λp=>nb1 p k
theorem cS {ns:List (List Int)}{k x:Int}:x∈nbs ns k↔∃p∈ns,x∈nb1 p k:=List.mem_flatMap
theorem oS {k:Int}:∀{ns:List (List Int)},ns.Nodup->(∀p∈ns,∃a b:Int,p=[a,b]/\a<=b)->(nbs ns k).Nodup
 | [],_,_=>by simp[nbs]
 | p :: ns,nd,h=>by
  obtain ⟨np,nd'⟩:=EI.mp nd
  have ih:=oS (k:=k) nd' λq hq=>h q (DB _ hq)
  show (nb1 p k++nbs ns k).Nodup
  rw[FA]
  refine ⟨?_,ih,λx hx y hy e =>?_⟩
  ·unfold nb1;(repeat' split) <;> simp
  ·subst e
   obtain ⟨a,b,rfl,ab⟩:=h p DA
   obtain ⟨q,hq,hy⟩:=cS.mp hy
   obtain ⟨c,d,rfl,cd⟩:=h q (DB _ hq)
   rw[kR] at hx hy
   apply np
   obtain ⟨n1,hx⟩:=hx
   obtain ⟨n2,hy⟩:=hy
   have:a=c/\b=d:=by
    rcases hx with ⟨h1,h2⟩ | ⟨h1,h2⟩ <;> rcases hy with ⟨h3,h4⟩ | ⟨h3,h4⟩ <;> lia
   rw[this.1,this.2]
   exact hq
theorem gu {o:List Int}(h:o.Pairwise (· <= ·))(nd:o.Nodup):o.Pairwise (· < ·):=by
 have:o.Pairwise (λa b=>a<=b/\a≠b):=MY h nd
 exact this.imp λ{a b} z=>by lia
theorem oT:∀{l m:List Int},l.Pairwise (· < ·)->m.Pairwise (· < ·)->(∀x,x∈l↔x∈m)->l=m
 | [],[],_,_,_=>rfl
 | [],b :: m,_,_,h=>by have:=(h b).mpr DA;cases this
 | a :: l,[],_,_,h=>by have:=(h a).mp DA;cases this
 | a :: l,b :: m,h1,h2,h=>by
  obtain ⟨a1,l1⟩:=Gz.mp h1
  obtain ⟨b1,m1⟩:=Gz.mp h2
  have e:a=b:=by
   rcases Dx.mp ((h a).mp DA) with z | z
   ·exact z
   rcases Dx.mp ((h b).mpr DA) with y | y
   ·exact y.symm
   have:=a1 b y
   have:=b1 a z
   lia
  subst e
  rw[oT l1 m1 λx=>⟨λhx =>?_,λhx =>?_⟩]
  ·rcases Dx.mp ((h x).mp (DB _ hx)) with z | z
   ·have:=a1 x hx;lia
   ·exact z
  ·rcases Dx.mp ((h x).mpr (DB _ hx)) with z | z
   ·have:=b1 x hx;lia
   ·exact z
structure Rows (H2 H':Hp)(as:List Addr)(vs:List (List Int)):Prop where
 len:vs.length=as.length
 row:∀(j:Nat) a v,as[j]? = some a->vs[j]? = some v->H' a=some (.lst (v.map V.int))
 stay:∀b u,b∉as->H2 b=some u->H' b=some u
theorem Rows.push {H2 H':Hp}{as:List Addr}{vs:List (List Int)}(R:Rows H2 H' as vs)(nd:as.Nodup){j:Nat}{a:Addr}{v:List Int}(ea:as[j]? = some a)(ev:vs[j]? = some v)(x:Int) :
  Rows H2 (upd H' a (.lst ((v.map V.int)++[V.int x]))) as (vs.set j (v++[x])):=by
 have hj:j<vs.length:=(Di.mp ev).1
 refine ⟨by rw[Jf];exact R.len,λi b u eb eu =>?_,λb u hb e =>?_⟩
 ·by_cases h:i=j
  ·subst h
   rw[ea] at eb;cases eb
   rw[FK hj] at eu;cases eu
   rw[ag,Dj];rfl
  ·rw[Gb (EB h)] at eu
   have ne:b≠a:=λz=>by
    subst z
    have hi:i<as.length:=(Di.mp eb).1
    exact h ((LL hi nd).mp (eb.trans ea.symm))
   rw[az ne]
   exact R.row i b u eb eu
 ·have ne:b≠a:=λz=>hb (z ▸ Dp ea)
  rw[az ne]
  exact R.stay b u hb e
def B2 (vs:List (List Int))(m:Nat)(ns:List (List Int)):Prop:=vs.length=m/\∀(j:Nat) v,vs[j]? = some v->v=nbs ns (j:Int)
theorem uQ (k:Int):∀ns:List (List Int),(nbs ns k).length<=ns.length
 | []=>by simp[nbs]
 | p :: ns=>by
  show (nb1 p k++nbs ns k).length<=_
  have:=uQ k ns
  have h1:(nb1 p k).length<=1:=by unfold nb1;(repeat' split) <;> simp
  rw[C8,Dz]
  lia
theorem rH (ns:List (List Int))(p:List Int)(k:Int):nbs (ns++[p]) k=nbs ns k++nb1 p k:=by unfold nbs;simp
abbrev rJ:Sp:=λvs H Q _=>∃(r:Addr) (m:Int) (ts:LA),vs=[.ref r]/\Wb H r m ts/\0<=m/\m<=1000/\∀(l:Addr) (H':Hp) (os:LA),aB H H'->H' l=some (.lst (os.map λu =>.ref u.1))->os.length=m.toNat->(∀u∈os,H' u.1=some (.lst (u.2.map V.int))) →
 (∀(j:Nat) u,os[j]? = some u->u.2.Pairwise (· < ·)/\∀x,x∈u.2↔x∈nbs (ts.map (·.2)) (j:Int))->Q (.ref l) H'
@[irreducible] def kS:Sp:=rJ
theorem gw {vs:List V}{H:Hp}{Q:VK}{E:XK}:kS vs H Q E↔rJ vs H Q E:=by
 delta kS
 exact Gn
theorem nG {X:Cx}{K:Df}(h:X.K=K:=by rfl):bL X (.builtin "sorted") (λxs H Q=>∃(p:Addr) (ns:List Int),xs=[.ref p]/\(SqL K H p (ns.map V.int)\/SqT K H p (ns.map V.int))/\∀(l:Addr) (out:List Int),H l=none->out.Perm ns->out.Pairwise (· <= ·)->Q (.ref l) (upd H l (.lst (out.map V.int)))):=by
 subst h;exact pG
section
variable  {P:DH}{w:Eb}{K:Df}{mg:Str->Option C9}{base:Heap}{f:Addr}{fd:EK}
theorem ndPl:(["place"]:List Str).Nodup:=by decide +kernel
theorem ndRo:(["row"]:List Str).Nodup:=by decide +kernel
theorem qd:aU ["web", "near", "tie"] ["web"] (aG yw):=⟨rfl,rfl,rfl,by decide +kernel,rfl,by decide +kernel,by decide +kernel⟩
theorem An (F:Fun K "near_lists" "near_lists" yw f fd)(mr:mg "range" = none)(mst:mg "set" = none)(mso:mg "sorted" = none):cy P w K mg base CX0 1 f fd ["web"] kS:=by
 refine F.ok qd (λvs H Q E h =>?_) (λcdv A outer s H vs Q E hr h =>?_)
 ·obtain ⟨a,b,c,rfl,_⟩:=gw.mp h
  rfl
 obtain ⟨r,m,ts,rfl,W,m0,m1,q⟩:=gw.mp h
 obtain ⟨t,e1,e2⟩:=W.at'
 refine ⟨_,ai (cG (i:=1) ["place"] [none] rfl qd.nd rfl rfl (cM rfl mr (aa (aM aV (pv 0) ak (λ_ _=>rfl)) ah)) rfl (λ_ _ _ _ _=>ao (i:=0) ndPl rfl (Or.inl rfl)) (λ_ _ _ _ _=>de) (λ_ _ _ _ _=>bH ah))
  (ai (bR Ea rfl (bO (ay (mj (w:=w) rfl hr.hd) rfl mso cQ (aa (aR (tE (w:=w) rfl hr.hd hr.units) rfl mst PySem.Pv.boot_set (aa (aM aV (pv 0) ak (λ_ _=>rfl)) ah)) ah))) (ao (i:=2) qd.nd rfl (Or.inl rfl))
   (aq (bh (aD j0 (aM aV (pv 2) ak (λ_ _=>rfl)) (aM aV (pv 2) ak (λ_ _=>rfl)) (aH _))
    (ai (bX (eB DY Er Es bZ (aM cC (pv 1) (aM aV (pv 2) ak (λ_ _=>rfl)) (λ_ _=>rfl)) (aa (aM aV (pv 2) ak (λ_ _=>rfl)) ah)))
    (aq (bX (eB DY Er Es bZ (aM cC (pv 1) (aM aV (pv 2) ak (λ_ _=>rfl)) (λ_ _=>rfl)) (aa (aM aV (pv 2) ak (λ_ _=>rfl)) ah))))) aL)))
  (aq (aJ (bY ["row"] [none] rfl (bO (pv 1)) rfl (λ_ _ _ _ _=>ao (i:=0) ndRo rfl (Or.inl rfl)) (λ_ _ _ _ _=>de) (λ_ _ _ _ _=>ay (nG (K:=K)) rfl mso cQ (aa (pv 0) ah)))))),?_⟩
 let W0:Nat->List V->Hp->Prop:=λi ys H'=>aB H H'/\∃as:List Addr,ys=as.map V.ref/\as.length=i/\as.Nodup/\∀a∈as,H a=none/\H' a=some (.lst [])
 refine ⟨_,rfl,r,_,0,_,rfl,rfl,SqT.of e1,rfl,m,rfl,by lia,by lia,j9 (lo:=0) (n:=m.toNat) W0 ⟨aB.refl _,[],rfl,rfl,GC,λa ha=>by cases ha⟩ (small (by lia)) ?_ ?_⟩
 ·rintro i ys H3 hi hy ⟨s3,as,rfl,la,nd,ha⟩ R1 R0 r1 r0
  refine bC ⟨(by show 0<=Dm;decide),λp hp=>r1 _ _ ⟨s3.trans (ae hp _),as++[p],by rw[Dj];rfl,by rw[C8,la];rfl,?_,λa m' =>?_⟩⟩
  ·rw[FA]
   refine ⟨nd,EI.mpr ⟨by simp,GC⟩,λx hx y hy e =>?_⟩
   rw[DD] at hy
   subst hy;subst e
   rw[(ha x hx).2] at hp;cases hp
  ·rcases Dh.mp m' with z | z
   ·exact ⟨(ha a z).1,(ae hp _) _ _ (ha a z).2⟩
   ·rw[DD] at z
    subst z
    refine ⟨?_,ag⟩
    cases e:H a with
    | none=>rfl
    | some o=>rw[s3 _ _ e] at hp;cases hp
 rintro ys H3 hy ⟨s3,as,rfl,la,nd,ha⟩ l hl
 have s1:=s3.trans (ae hl (.lst (as.map V.ref)))
 have nl:l∉as:=λz=>by rw[(ha l z).2] at hl;cases hl
 have ha1:∀a∈as,upd H3 l (.lst (as.map V.ref)) a=some (.lst []):=λa z=>(ae hl _) _ _ (ha a z).2
 have hl1:upd H3 l (.lst (as.map V.ref)) l=some (.lst (as.map V.ref)):=ag
 generalize upd H3 l (.lst (as.map V.ref))=H1 at s1 ha1 hl1
 have tsl:=W.len
 refine ⟨_,rfl,r,_,1,_,rfl,rfl,SqT.of (s1 _ _ e1),rfl,t,ts,rfl,.inr (SqT.of (s1 _ _ e2)),λu hu=>SqT.of (s1 _ _ (W.tup u hu)),by lia,λa us hna mu ndu cov hlu =>?_⟩
 have sa:=ae hna (dv w a (us.map λt =>.ref t.1))
 refine ⟨a,us,rfl,ag,λu hu=>⟨SqT.of (sa _ _ (s1 _ _ (W.tup u (mu u hu)))),λz =>?_⟩,by lia,λl2 out hl2 pm ps =>?_⟩
 ·obtain ⟨x,y,e,_⟩:=W.pr u (mu u hu)
  rw[z] at e;cases e
 have s2':=sa.trans (ae hl2 (.lst (out.map λt =>.ref t.1)))
 have s2:=s1.trans s2'
 have nl2:l2∉as:=λz=>by rw[sa _ _ (ha1 l2 z)] at hl2;cases hl2
 have h2l2:upd (upd H1 a (dv w a (us.map λt =>.ref t.1))) l2 (.lst (out.map λt =>.ref t.1)) l2=some (.lst (out.map λt =>.ref t.1)):=ag
 generalize upd (upd H1 a (dv w a (us.map λt =>.ref t.1))) l2 (.lst (out.map λt =>.ref t.1))=H2 at s2 s2' h2l2
 have old:∀{b:Addr} {o:HO},H b=some o->b∉as:=λ{b o} e z=>by rw[(ha b z).1] at e;cases e
 let W1:Nat->St->Hp->Prop:=λi σ H'=>(∃c,σ=[some (.ref r),some (.ref l),c])/\∃vs,Rows H2 H' as vs/\B2 vs m.toNat ((out.take i).map (·.2))
 refine ⟨l2,rfl,⟨_,SqL.of h2l2⟩,eM (xs:=out.map λu =>.ref u.1) W1 ⟨⟨_,rfl⟩,Ej m.toNat [],⟨by rw[Gw,la],λj b v eb ev =>?_,λb u _ e=>e⟩,Gw ..,λj v ev =>?_⟩ (λi σ H' _ z =>?_) ?_ ?_⟩
 ·rw[HX] at ev
  split at ev
  ·cases ev
   exact s2' _ _ (ha1 b (Dp eb))
  ·cases ev
 ·rw[HX] at ev
  split at ev
  ·cases ev;rfl
  ·cases ev
 ·obtain ⟨_,vs,R,_⟩:=z
  exact SqL.of (R.stay l2 _ nl2 h2l2)
 ·rintro i x σ H' hx ⟨⟨c,rfl⟩,vs,R,lv,RO⟩
  obtain ⟨u,eu,rfl⟩:=item hx
  have mts:=mu u (pm.mem_iff.mp (Dp eu))
  obtain ⟨x,y,e3,x0,xy,ym⟩:=W.pr u mts
  have hu0:=W.tup u mts
  have hu':H' u.1=some (.tup [.int x,.int y]):=by
   rw[e3] at hu0
   exact R.stay _ _ (old hu0) (s2 _ _ hu0)
  have tk:(out.take (i+1)).map (·.2)=(out.take i).map (·.2)++[[x,y]]:=by rw[take_snoc (f:=λu:Addr×List Int=>u.2) eu,e3]
  obtain ⟨xn,rfl⟩:∃n:Nat,x=n:=⟨x.toNat,by lia⟩
  obtain ⟨yn,rfl⟩:∃n:Nat,y=n:=⟨y.toNat,by lia⟩
  have hlst:=R.stay l _ nl (s2' _ _ hl1)
  have axn:as[xn]? = some as[xn]:=Dc (by lia)
  have ayn:as[yn]? = some as[yn]:=Dc (by lia)
  have vxn:vs[xn]? = some vs[xn]:=Dc (by lia)
  have vyn:vs[yn]? = some vs[yn]:=Dc (by lia)
  have at1:atI (as.map V.ref) (xn:Int)=some (.ref as[xn]):=cO (by rw[Dq,axn];rfl)
  have at2:atI (as.map V.ref) (yn:Int)=some (.ref as[yn]):=cO (by rw[Dq,ayn];rfl)
  have ll:∀(j:Nat) v,vs[j]? = some v->v.length<=200:=λj v ev=>by
   rw[RO j v ev]
   refine DU (uQ _ _) ?_
   rw[C6,Ew]
   have:=pm.length_eq
   lia
  refine ⟨_,rfl,u.1,_,0,_,rfl,rfl,SqT.of hu',rfl,_,rfl,u.1,_,1,_,rfl,rfl,SqT.of hu',rfl,rfl,_,rfl,?_⟩
  by_cases hxy:xn=yn
  ·subst hxy
   refine iT rfl ⟨⟨_,rfl⟩,vs,R,lv,λj v ev =>?_⟩
   have nil:nb1 [(xn:Int),(xn:Int)] j=[]:=by unfold nb1;simp
   rw[tk,rH,nil,DZ]
   exact RO j v ev
  ·have hd:decide (V.int (xn:Int)=V.int (yn:Int))=false:=decide_eq_false λz=>hxy (by injection z with z;lia)
   rw[hd]
   have rowx:=R.row xn _ _ axn vxn
   have R1:=R.push nd axn vxn (yn:Int)
   have vyn':(vs.set xn (vs[xn]++[(yn:Int)]))[yn]? = some vs[yn]:=by rw[Gb hxy];exact vyn
   have rowy:=R1.row yn _ _ ayn vyn'
   have R2:=R1.push nd ayn vyn' (xn:Int)
   have hu2:=R1.stay _ _ (old hu0) (s2 _ _ hu0)
   rw[e3] at hu2
   have hlst2:=R1.stay l _ nl (s2' _ _ hl1)
   refine bC ⟨_,rfl,_,rfl,u.1,_,0,_,rfl,rfl,SqT.of hu',rfl,l,_,(xn:Int),_,rfl,rfl,SqL.of hlst,at1,.inl ⟨rfl,_,SqL.of rowx⟩,_,rfl,u.1,_,1,_,rfl,rfl,SqT.of hu',rfl,as[xn],_,_,rfl,rfl,rowx,(by rw[C6];exact cx (by have:=ll _ _ vxn;lia)),?_⟩
   refine ⟨_,rfl,_,rfl,u.1,_,1,_,rfl,rfl,SqT.of hu2,rfl,l,_,(yn:Int),_,rfl,rfl,SqL.of hlst2,at2,.inl ⟨rfl,_,SqL.of rowy⟩,_,rfl,u.1,_,0,_,rfl,rfl,SqT.of hu2,rfl,as[yn],_,_,rfl,rfl,rowy,(by rw[C6];exact cx (by have:=ll _ _ vyn;lia)),?_⟩
   refine ⟨⟨_,rfl⟩,_,R2,by rw[Jf,Jf];exact lv,λj v ev =>?_⟩
   rw[tk,rH]
   by_cases jy:yn=j
   ·subst jy
    rw[FK (by rw[Jf];lia)] at ev
    cases ev
    have e4:nb1 [(xn:Int),(yn:Int)] yn=[(xn:Int)]:=by
     show (if (xn:Int)=yn then [] else if (xn:Int)=yn then [(yn:Int)] else if (yn:Int)=yn then [(xn:Int)] else [])=_
     rw[if_neg (by lia),if_neg (by lia),if_pos rfl]
    rw[e4, <- RO yn _ vyn]
   ·rw[Gb jy] at ev
    by_cases jx:xn=j
    ·subst jx
     rw[FK (by lia)] at ev
     cases ev
     have e4:nb1 [(xn:Int),(yn:Int)] xn=[(yn:Int)]:=by
      show (if (xn:Int)=yn then [] else if (xn:Int)=xn then [(yn:Int)] else if (yn:Int)=xn then [(xn:Int)] else [])=_
      rw[if_neg (by lia),if_pos rfl]
     rw[e4, <- RO xn _ vxn]
    ·rw[Gb jx] at ev
     have e4:nb1 [(xn:Int),(yn:Int)] j=[]:=by
      show (if (xn:Int)=yn then [] else if (xn:Int)=j then [(yn:Int)] else if (yn:Int)=j then [(xn:Int)] else [])=_
      rw[if_neg (by lia),if_neg (by lia),if_neg (by lia)]
     rw[e4,DZ]
     exact RO j v ev
 ·rintro σ H' ⟨⟨c,rfl⟩,vs,R,lv,RO⟩
  have hlst:=R.stay l _ nl (s2' _ _ hl1)
  rw[C6,Dr (Dd _)] at RO
  have sH':aB H H':=λb o e=>R.stay b o (old e) (s2 _ _ e)
  have kns:(out.map (·.2)).Nodup:=((pm.map (·.2)).nodup_iff).mpr ndu
  have mns:∀x,x∈out.map (·.2)↔x∈ts.map (·.2):=λx=>by
   rw[(pm.map (·.2)).mem_iff]
   constructor
   ·intro hx
    obtain ⟨u,hu,rfl⟩:=DR.mp hx
    exact DR.mpr ⟨u,mu u hu,rfl⟩
   ·intro hx
    obtain ⟨u,hu,rfl⟩:=DR.mp hx
    exact cov u hu
  have pns:∀p∈out.map (·.2),∃a b:Int,p=[a,b]/\a<=b:=λp hp=>by
   obtain ⟨u,hu,rfl⟩:=DR.mp ((mns p).mp hp)
   obtain ⟨a,b,e,_,ab,_⟩:=W.pr u hu
   exact ⟨a,b,e,ab⟩
  have nbm:∀k x,x∈nbs (out.map (·.2)) k↔x∈nbs (ts.map (·.2)) k:=λk x=>by
   rw[cS,cS]
   exact ⟨λ⟨p,hp,z⟩=>⟨p,(mns p).mp hp,z⟩,λ⟨p,hp,z⟩=>⟨p,(mns p).mpr hp,z⟩⟩
  let W2:Nat->List V->Hp->Prop:=λi ys H5=>aB H' H5/\∃os:LA,ys=(os.map λu=>V.ref u.1)/\os.length=i/\(∀u∈os,H5 u.1=some (.lst (u.2.map V.int)))/\∀(j:Nat) u v,os[j]? = some u->vs[j]? = some v->u.2.Perm v/\u.2.Pairwise (· <= ·)
  refine ⟨_,rfl,l,rfl,⟨_,SqL.of hlst⟩,bW (xs:=as.map V.ref) W2 ⟨aB.refl _,[],rfl,rfl,λu hu=>(by cases hu),λj u v eu=>by simp at eu⟩ (by rw[C6];exact small (by lia)) (λi ys H5 _ z=>SqL.of (z.1 _ _ hlst)) ?_ ?_⟩
  ·rintro i x ys H5 hx hy ⟨s5,os,rfl,lo,ho,po⟩ R1 R0 r1 r0
   rw[Dq] at hx
   cases ea:as[i]? with
   | none=>rw[ea] at hx;cases hx
   | some a5 =>
    rw[ea] at hx
    cases hx
    have hi:i<as.length:=(Di.mp ea).1
    have ev:vs[i]? = some vs[i]:=Dc (by lia)
    have rowa:=s5 _ _ (R.row i _ _ ea ev)
    refine bC ⟨_,rfl,a5,vs[i],rfl,.inl (SqL.of rowa),λl5 o5 hl5 pm5 ps5=>r1 _ _ ⟨s5.trans (ae hl5 _),os++[(l5,o5)],by rw[Dj];rfl,by rw[C8,lo];rfl,λu hu =>?_,λj u v eu ev' =>?_⟩⟩
    ·rcases Dh.mp hu with z | z
     ·exact (ae hl5 _) _ _ (ho u z)
     ·rw[DD] at z;subst z;exact ag
    ·by_cases hj:j<os.length
     ·rw[Ed hj] at eu
      exact po j u v eu ev'
     ·have hj2:j=i:=by
       have:=(Di.mp eu).1
       rw[C8,D9] at this
       lia
      subst hj2
      rw[Eg (by lia),show j-os.length=0 by lia] at eu
      cases eu
      rw[ev] at ev';cases ev'
      exact ⟨pm5,ps5⟩
  ·rintro ys H5 hy ⟨s5,os,rfl,lo,ho,po⟩ l5 hl5
   rw[C6] at lo
   have s6:=ae hl5 (.lst (os.map λu=>V.ref u.1))
   refine q l5 _ os (sH'.trans (s5.trans s6)) ag (by lia) (λu hu=>s6 _ _ (ho u hu)) λj u eu =>?_
   have hj:j<os.length:=(Di.mp eu).1
   have ev:vs[j]? = some vs[j]:=Dc (by lia)
   obtain ⟨p1,p2⟩:=po j u _ eu ev
   have e5:=RO j _ ev
   rw[e5] at p1
   refine ⟨gu p2 (p1.nodup_iff.mpr (oS kns pns)),λx =>?_⟩
   rw[p1.mem_iff]
   exact nbm _ _
end
def Adj (ns:List (List Int))(u v:Int):Prop:=v∈nbs ns u
inductive Con (ns:List (List Int)):Int->Int->Prop
 | refl (u:Int):Con ns u u
 | step {u v w:Int}:Con ns u v->Adj ns v w->Con ns u w
def Ok (m:Nat)(ns:List (List Int)):Prop:=∀p∈ns,∃a b:Int,p=[a,b]/\0<=a/\a<=b/\b<m
theorem dN {m:Nat}{ns:List (List Int)}(O:Ok m ns){u v:Int}:Adj ns u v↔∃a b:Int,[a,b]∈ns/\a≠b/\((a=u/\v=b)\/(b=u/\v=a)):=by
 unfold Adj
 rw[cS]
 constructor
 ·rintro ⟨p,hp,h⟩
  obtain ⟨a,b,rfl,_⟩:=O p hp
  exact ⟨a,b,hp,kR.mp h⟩
 ·rintro ⟨a,b,hp,h⟩
  exact ⟨[a,b],hp,kR.mpr h⟩
theorem yA {m:Nat}{ns:List (List Int)}(O:Ok m ns){u v:Int}(h:Adj ns u v):Adj ns v u:=by
 rw[dN O] at *
 obtain ⟨a,b,hp,ne,h⟩:=h
 refine ⟨a,b,hp,ne,?_⟩
 rcases h with ⟨h1,h2⟩ | ⟨h1,h2⟩
 ·exact .inr ⟨h2.symm,h1.symm⟩
 ·exact .inl ⟨h2.symm,h1.symm⟩
theorem uS {m:Nat}{ns:List (List Int)}(O:Ok m ns){u v:Int}(h:Adj ns u v):(0<=u/\u<m)/\0<=v/\v<m:=by
 rw[dN O] at h
 obtain ⟨a,b,hp,ne,h⟩:=h
 obtain ⟨a',b',e,h1,h2,h3⟩:=O _ hp
 injection e with e1 e2
 injection e2 with e2 _
 subst e1;subst e2
 rcases h with ⟨h4,h5⟩ | ⟨h4,h5⟩ <;> subst h4 <;> subst h5 <;> omega
theorem Con.trans {ns:List (List Int)}{u v w:Int}(h:Con ns u v)(h2:Con ns v w):Con ns u w:=by
 induction h2 with
 | refl=>exact h
 | step _ a ih=>exact .step ih a
theorem Con.one {ns:List (List Int)}{u v:Int}(h:Adj ns u v):Con ns u v :=.step (.refl u) h
theorem Con.symm {m:Nat}{ns:List (List Int)}(O:Ok m ns){u v:Int}(h:Con ns u v):Con ns v u:=by
 induction h with
 | refl=>exact .refl _
 | step _ a ih=>exact (Con.one (yA O a)).trans ih
theorem Con.rng {m:Nat}{ns:List (List Int)}(O:Ok m ns){u v:Int}(h:Con ns u v)(hu:0<=u/\u<m):0<=v/\v<m:=by
 induction h with
 | refl=>exact hu
 | step _ a _=>exact (uS O a).2
theorem Con.closed {ns:List (List Int)}{u v:Int}(h:Con ns u v){R:Int->Prop}(hu:R u)(hc:∀x y,R x->Adj ns x y->R y):R v:=by
 induction h with
 | refl=>exact hu
 | step _ a ih=>exact hc _ _ ih a
def rgI (m:Nat):List Int:=(Eo m).map λi:Nat=>(i:Int)
theorem fM {m:Nat}{v:Int}:v∈rgI m↔0<=v/\v<m:=by
 unfold rgI
 rw[DR]
 constructor
 ·rintro ⟨i,hi,rfl⟩
  rw[ET] at hi
  lia
 ·intro h
  exact ⟨v.toNat,ET.mpr (by lia),by lia⟩
open Classical in
noncomputable def fS (ns:List (List Int))(m:Nat)(u:Int):List Int:=(rgI m).filter λv=>decide (Con ns u v)
open Classical in
theorem oU {m:Nat}{ns:List (List Int)}(O:Ok m ns){u v:Int}(hu:0<=u/\u<m):v∈fS ns m u↔Con ns u v:=by
 unfold fS
 rw[E4]
 constructor
 ·intro h;exact of_decide_eq_true h.2
 ·intro h
  have:=h.rng O hu
  exact ⟨fM.mpr this,decide_eq_true h⟩
theorem mQ (m:Nat):(rgI m).Pairwise (· < ·):=by
 unfold rgI
 rw[Eu]
 exact Ij.imp λh=>by lia
theorem mR (ns:List (List Int))(m:Nat)(u:Int):(fS ns m u).Pairwise (· < ·):=(mQ m).filter _
def Fst (ns:List (List Int))(u:Int):Prop:=∀w:Int,0<=w->w<u->¬ Con ns w u
open Classical in
noncomputable def bg (ns:List (List Int))(m i:Nat):List (List Int):=((rgI i).filter λu=>decide (Fst ns u)).map (fS ns m)
theorem jh (ns:List (List Int))(m i:Nat)[Decidable (Fst ns (i:Int))]:bg ns m (i+1)=bg ns m i++if Fst ns (i:Int) then [fS ns m i] else []:=by
 unfold bg
 have e:rgI (i+1)=rgI i++[(i:Int)]:=by unfold rgI;rw[List.range_succ,Dj];rfl
 rw[e,Jt,Dj]
 congr 1
 by_cases h:Fst ns (i:Int)
 ·rw[if_pos h];simp[h]
 ·rw[if_neg h];simp[h]
def gt (L:List Int)(a:Int):Int:=L.getD a.toNat 0
theorem Ao {m:Nat}{ns:List (List Int)}(O:Ok m ns){a b:Int}(hp:[a,b]∈ns):Con ns a b:=by
 by_cases h:a=b
 ·subst h;exact .refl a
 ·exact .one ((dN O).mpr ⟨a,b,hp,h,.inl ⟨rfl,rfl⟩⟩)
def has (m:Nat)(L:List Int)(c:Int):Nat:=(rgI m).countP λv=>decide (gt L v=c)
theorem yB {m:Nat}{ns:List (List Int)}(O:Ok m ns):∀(n:Nat) (v:Int),0<=v->v<m->v.toNat<=n->∃c,Fst ns c/\0<=c/\c<m/\Con ns c v:=by
 intro n
 induction n with
 | zero =>
  intro v v0 vm hn
  exact ⟨v,λw w0 lt=>by lia,v0,vm,.refl v⟩
 | succ n ih =>
  intro v v0 vm hn
  by_cases hf:Fst ns v
  ·exact ⟨v,hf,v0,vm,.refl v⟩
  ·have:∃w,0<=w/\w<v/\Con ns w v:=FR λz=>hf λw w0 lt hw=>z ⟨w,w0,lt,hw⟩
   obtain ⟨w,w0,lt,hw⟩:=this
   obtain ⟨c,c1,c2,c3,c4⟩:=ih w w0 (by lia) (by lia)
   exact ⟨c,c1,c2,c3,c4.trans hw⟩
theorem rK {m:Nat}{ns:List (List Int)}(O:Ok m ns){c d:Int}(hc:Fst ns c)(hd:Fst ns d)(c0:0<=c)(d0:0<=d)(h:Con ns c d):c=d:=by
 have h1:¬ c<d:=λlt=>hd c c0 lt h
 have h2:¬ d<c:=λlt=>hc d d0 lt (h.symm O)
 lia
def drawn (m:Nat)(L:List Int):List (List Int):=((rgI m).filter λf=>decide (gt L f=f)).map λf=>(rgI m).filter λv=>decide (gt L v=f)
def fc (R:List Int):List (Key×V):=R.map λk=>(Sum.inl k,V.bl true)
theorem mW (v:Int):∀R:List Int,bG (fc R) (Sum.inl v)=if v∈R then some (.bl true) else none
 | []=>by simp[fc,bG]
 | k :: R=>by
  have ih:=mW v R
  unfold fc at *
  rw[DV]
  by_cases h:k=v
  ·subst h
   rw[b7 rfl,if_pos DA]
  ·rw[b8 (λe=>h (by injection e)),ih]
   by_cases hv:v∈R
   ·rw[if_pos hv,if_pos (DB _ hv)]
   ·rw[if_neg hv,if_neg (λz=>(Dx.mp z).elim (λy=>h y.symm) hv)]
theorem oV (v:Int)(R:List Int):(bG (fc R) (Sum.inl v)).isSome=decide (v∈R):=by
 rw[mW]
 by_cases h:v∈R
 ·rw[if_pos h,decide_eq_true h];rfl
 ·rw[if_neg h,decide_eq_false h];rfl
theorem rL {v:Int}{R:List Int}(h:v∉R):putK (fc R) (Sum.inl v) (.bl true)=fc (R++[v]):=by
 rw[ri _ (by rw[mW,if_neg h])]
 unfold fc
 rw[Dj]
 rfl
theorem ji (R:List Int):(fc R).length=R.length:=by unfold fc;rw[C6]
theorem wB (R:List Int):(fc R).map (·.1)=R.map Sum.inl:=by unfold fc;rw[Fo];rfl
theorem d8 {R:List Int}{m:Nat}(nd:R.Nodup)(h:∀v∈R,0<=v/\v<m):R.length<=m:=by
 have:=GP nd (l₂:=rgI m) λv hv=>fM.mpr (h v hv)
 unfold rgI at this
 rw[C6,Fg] at this
 exact this
theorem mX {R:List Int}{v:Int}(nd:R.Nodup)(h:v∉R):(R++[v]).Nodup:=by
 rw[FA]
 exact ⟨nd,EI.mpr ⟨by simp,GC⟩,λx hx y hy e=>h (by rw[DD] at hy;subst hy;subst e;exact hx)⟩
structure mY (H:Hp)(n:Addr)(m:Nat)(ns:List (List Int))(os:LA):Prop where
 at':H n=some (.lst (os.map λu =>.ref u.1))
 len:os.length=m
 row:∀u∈os,H u.1=some (.lst (u.2.map V.int))
 is:∀(j:Nat) u,os[j]? = some u->∀x,x∈u.2↔x∈nbs ns (j:Int)
theorem mY.same {H H':Hp}{n:Addr}{m:Nat}{ns:List (List Int)}{os:LA}(h:mY H n m ns os)(s:aB H H'):mY H' n m ns os:=⟨s _ _ h.at',h.len,λu hu=>s _ _ (h.row u hu),h.is⟩
abbrev rM:Sp:=λvs H Q _=>∃(n:Addr) (m:Nat) (ns:List (List Int)) (os:LA) (s:Int),vs=[.ref n,.int s]/\mY H n m ns os/\Ok m ns/\m<=400/\0<=s/\s<m/\∀(l:Addr) (H':Hp),aB H H'->H' l=some (.lst ((fS ns m s).map V.int))->Q (.ref l) H'
@[irreducible] def kT:Sp:=rM
theorem gx {vs:List V}{H:Hp}{Q:VK}{E:XK}:kT vs H Q E↔rM vs H Q E:=by
 delta kT
 exact Gn
def wC (H:Hp)(d:Addr):Nat:=match H d with | some (.dK kvs)=>kvs.length | _=>0
def wD (H:Hp)(y:Addr):Nat:=match H y with | some (.lst xs)=>xs.length | _=>0
structure RY (ns:List (List Int))(m:Nat)(s:Int)(R Y:List Int):Prop where
 nd:R.Nodup
 st:s∈R
 con:∀v∈R,Con ns s v
 sub:∀v∈Y,v∈R
section
variable  {P:DH}{w:Eb}{K:Df}{mg:Str->Option C9}{base:Heap}{f:Addr}{fd:EK}
theorem jj:aU ["near", "start", "reached", "ready", "place", "other"] ["near", "start"] (aG yy):=⟨rfl,rfl,rfl,by decide +kernel,rfl,by decide +kernel,by decide +kernel⟩
theorem Ap (F:Fun K "reached_from" "reached_from" yy f fd)(mso:mg "sorted" = none):cy P w K mg base CX0 1 f fd ["near", "start"] kT:=by
 refine F.ok jj (λvs H Q E h =>?_) (λcdv A outer s0 H vs Q E hr h =>?_)
 ·obtain ⟨a,b,c,d,e,rfl,_⟩:=gx.mp h
  rfl
 obtain ⟨n,m,ns,os,s,rfl,N,O,m9,s0',sm,q⟩:=gx.mp h
 have hu:=xw hr
 refine ⟨_,ai (aS (i:=2) jj.nd rfl (Or.inl rfl) (zZ (x3 (pv 1) dU zY) rfl rfl (by simp) (by decide)))
  (ai (aS (i:=3) jj.nd rfl (Or.inl rfl) (bH (aa (pv 1) ah)))
  (ai (qz Ea (xc (pv 3) (λ_=>rfl))
   (ai (aS (i:=4) jj.nd rfl (Or.inl rfl) (xp DY Iz IA xq (pv 3)))
   (aq (bR Ea rfl (bO (aM cC (pv 0) (pv 4) (λ_ _=>rfl))) (ao (i:=5) jj.nd rfl (Or.inl rfl))
    (aq (bh (sk (oH hu (pv 5) (pv 2)))
     (ai (pO hu (pv 2) (pv 5) dU rfl) (aq (bX (eB DY Er Es bZ (pv 3) (aa (pv 5) ah))))) aL))))))
  (aq (aJ (ay (pS hr.hd) rfl mso cQ (aa (pv 2) ah)))))),?_⟩
 refine λd hd=>⟨_,rfl,ag,[(Sum.inl s,.bl true)],rfl,(by show 1<=15;decide),_,rfl,(by show 1<=Dm;decide),λy hy =>?_⟩
 have e1d:upd (upd H d (.dK [])) d (.dK (fK [] [(Sum.inl s,V.bl true)])) d=some (.dK (fc [s])):=ag
 have s1:aB H (upd (upd H d (.dK [])) d (.dK (fK [] [(Sum.inl s,V.bl true)]))):=λb o e=>by
  rw[az (aA e hd),az (aA e hd)];exact e
 have hy0:H y=none:=by
  cases e:H y with
  | none=>rfl
  | some o=>rw[s1 _ _ e] at hy;cases hy
 have ndy:d≠y:=aA e1d hy
 have e2d:=(ae hy (.lst [.int s])) _ _ e1d
 have e2y:upd (upd (upd H d (.dK [])) d (.dK (fK [] [(Sum.inl s,V.bl true)]))) y (.lst [.int s]) y=some (.lst (([s]:List Int).map V.int)):=ag
 have s2:=s1.trans (ae hy (.lst [.int s]))
 generalize upd (upd (upd H d (.dK [])) d (.dK (fK [] [(Sum.inl s,V.bl true)]))) y (.lst [.int s])=H2 at e2d e2y s2
 have rngR:∀{R Y:List Int},RY ns m s R Y->∀v∈R,0<=v/\v<m:=λI v hv=>(I.con v hv).rng O ⟨s0',sm⟩
 dsimp only[eA,Ci]
 refine qB (λσ H'=>∃(c4 c5:Option V) (R Y:List Int),σ=[some (.ref n),some (.int s),some (.ref d),some (.ref y),c4,c5]/\aB H H'/\H' d=some (.dK (fc R))/\H' y=some (.lst (Y.map V.int))/\RY ns m s R Y/\2*(m-R.length)+Y.length<=2*m/\(∀u∈R,u∉Y->∀v,Adj ns u v->v∈R))
  (λ_ H'=>2*(m-wC H' d)+wD H' y) ⟨none,none,[s],[s],rfl,s2,e2d,e2y,⟨EI.mpr ⟨by simp,GC⟩,DA,λv hv =>?_,λv hv=>hv⟩,by show 2*(m-1)+1<=2*m;lia,λu hu nu=>absurd hu nu⟩ ?_ (by rintro σ H Q Q' h ⟨v,e,k,t,q⟩;exact ⟨v,e,k,t,h _ _ q⟩)
 ·rw[DD] at hv;subst hv;exact .refl _
 rintro σ H' ⟨c4,c5,R,Y,rfl,s',ed,ey,I,ly,cl⟩
 refine ⟨_,rfl, !(Y.map V.int).isEmpty,.inl ⟨_,SqL.of ey,rfl⟩,?_⟩
 have mu0:2*(m-wC H' d)+wD H' y=2*(m-R.length)+Y.length:=by
  unfold wC wD
  rw[ed,ey]
  dsimp only
  rw[ji,C6]
 rcases Hj Y with hY | ⟨Y',p,hY⟩
 ·subst hY
  refine cz ⟨_,rfl,d,fc R,R,rfl,ed,wB R,λl out hl pm ps =>?_⟩
  have eo:out=fS ns m s:=oT (gu ps (pm.nodup_iff.mpr I.nd)) (mR ns m s) λx=>by
   rw[pm.mem_iff,oU O ⟨s0',sm⟩]
   exact ⟨I.con x,λh=>h.closed I.st λx y hx a=>cl x hx (by simp) y a⟩
  subst eo
  exact q l _ (s'.trans (ae hl _)) ag
 ·rw[Hk] at hY
  subst hY
  have hne:(!(List.map V.int (Y'++[p])).isEmpty)=true:=by simp
  rw[hne]
  have pR:p∈R:=I.sub p (by simp)
  have pr:=rngR I p pR
  obtain ⟨pn,rfl⟩:∃k:Nat,p=k:=⟨p.toNat,by lia⟩
  refine bC ⟨_,rfl,.inl ⟨rfl,_,SqL.of ey⟩,y,_,.int pn,rfl,rfl,ey,?_,?_⟩
  ·rw[Dj,C8];simp
  have dl:(List.map V.int (Y'++[(pn:Int)])).dropLast=Y'.map V.int:=by rw[Dj];exact K0
  rw[dl]
  have s3:aB H (upd H' y (.lst (Y'.map V.int))):=λb o e=>by rw[az (aA e hy0)];exact s' _ _ e
  have ed3:upd H' y (.lst (Y'.map V.int)) d=some (.dK (fc R)):=by rw[az ndy];exact ed
  have ey3:upd H' y (.lst (Y'.map V.int)) y=some (.lst (Y'.map V.int)):=ag
  generalize upd H' y (.lst (Y'.map V.int))=H3 at s3 ed3 ey3
  have N3:=N.same s3
  have pl:pn<os.length:=by rw[N.len];lia
  obtain ⟨uu,eu⟩:∃u,os[pn]? = some u:=⟨_,Dc pl⟩
  have rowu:=N3.row _ (Dp eu)
  have isu:=N.is pn _ eu
  rw[C8,D9] at ly mu0
  refine ⟨_,rfl,_,rfl,n,_,(pn:Int),_,rfl,rfl,SqL.of N3.at',cO (by rw[Dq,eu];rfl),uu.1,rfl,⟨_,SqL.of rowu⟩,eM (xs:=uu.2.map V.int)
   (λi σ H4=>∃(c5:Option V) (R4 Y4:List Int),σ=[some (.ref n),some (.int s),some (.ref d),some (.ref y),some (.int pn),c5]/\aB H H4/\H4 d=some (.dK (fc R4))/\H4 y=some (.lst (Y4.map V.int))/\RY ns m s R4 Y4/\(pn:Int)∈R4/\(∀u∈R4,u∉Y4->u≠pn->∀v,Adj ns u v->v∈R4)/\(∀v∈uu.2.take i,v∈R4)/\R4.length<=m/\2*(m-R4.length)+Y4.length+1<=2*(m-R.length)+(Y'.length+1))
   ⟨_,R,Y',rfl,s3,ed3,ey3,⟨I.nd,I.st,I.con,λv hv=>I.sub v (DM _ hv)⟩,pR,λu hu nu ne=>cl u hu (λz=>(Dh.mp z).elim nu λz=>ne (by simpa using z)),λv hv=>by simp at hv,d8 I.nd (rngR I),by lia⟩ (λi σ H4 _ z =>?_) ?_ ?_⟩
  ·obtain ⟨_,_,_,_,s4,_⟩:=z
   exact SqL.of ((N.same s4).row _ (Dp eu))
  ·rintro i x σ H4 hx ⟨c5,R4,Y4,rfl,s4,ed4,ey4,I4,p4,cl4,tk4,l4,mu4⟩
   rw[Dq] at hx
   cases ho:uu.2[i]? with
   | none=>rw[ho] at hx;cases hx
   | some o =>
   rw[ho] at hx
   cases hx
   have tks:uu.2.take (i+1)=uu.2.take i++[o]:=by rw[D3,ho];rfl
   have oA:Adj ns pn o:=(isu o).mp (Dp ho)
   refine ⟨_,rfl,_,rfl,d,_,rfl,fJ.k (k:=Sum.inl o) ed4,_,rfl,?_⟩
   rw[oV]
   by_cases hR:o∈R4
   ·rw[decide_eq_true hR]
    refine cz ⟨_,R4,Y4,rfl,s4,ed4,ey4,I4,p4,cl4,λv hv =>?_,l4,mu4⟩
    rw[tks] at hv
    rcases Dh.mp hv with z | z
    ·exact tk4 v z
    ·rw[DD] at z;subst z;exact hR
   ·rw[decide_eq_false hR]
    have I5:RY ns m s (R4++[o]) (Y4++[o]):=by
     refine ⟨mX I4.nd hR,DM _ I4.st,λv hv =>?_,λv hv =>?_⟩
     ·rcases Dh.mp hv with z | z
      ·exact I4.con v z
      ·rw[DD] at z;subst z;exact .step (I4.con _ p4) oA
     ·rcases Dh.mp hv with z | z
      ·exact DM _ (I4.sub v z)
      ·exact DE _ z
    have l5:=d8 I5.nd (rngR I5)
    rw[C8,D9] at l5
    refine bC ⟨_,rfl,_,rfl,d,_,rfl,rj.k (k:=Sum.inl o) ed4 (by rw[ji];exact cx (by lia)),?_⟩
    rw[rL hR]
    have ey5:upd H4 d (.dK (fc (R4++[o]))) y=some (.lst (Y4.map V.int)):=by rw[az (EB ndy)];exact ey4
    refine ⟨_,rfl,.inl ⟨rfl,_,SqL.of ey5⟩,_,rfl,y,_,_,rfl,rfl,ey5,(by rw[C6];exact cx (by lia)),_,R4++[o],Y4++[o],rfl,λb ob e =>?_,?_,?_,I5,DM _ p4,λu hu nu ne v a =>?_,λv hv =>?_,by rw[C8,D9];exact l5,?_⟩
    ·rw[az (aA e hy0),az (aA e hd)];exact s4 _ _ e
    ·rw[az ndy];exact ag
    ·rw[ag,Dj];rfl
    ·rcases Dh.mp hu with z | z
     ·exact DM _ (cl4 u z (λy=>nu (DM _ y)) ne v a)
     ·exact absurd (DE _ z) nu
    ·rw[tks] at hv
     rcases Dh.mp hv with z | z
     ·exact DM _ (tk4 v z)
     ·exact DE _ z
    ·rw[C8,C8,D9];lia
  ·rintro σ H4 ⟨c5,R4,Y4,rfl,s4,ed4,ey4,I4,p4,cl4,tk4,l4,mu4⟩
   rw[C6,Dr (Dd _)] at tk4
   have lr:=d8 I.nd (rngR I)
   refine ⟨⟨_,_,R4,Y4,rfl,s4,ed4,ey4,I4,?_,λu hu nu v a =>?_⟩,?_⟩
   ·lia
   ·by_cases e:u=pn
    ·subst e
     exact tk4 v ((isu v).mpr a)
    ·exact cl4 u hu nu e v a
   ·show 2*(m-wC H4 d)+wD H4 y<2*(m-wC H' d)+wD H' y
    rw[mu0]
    unfold wC wD
    rw[ed4,ey4]
    dsimp only
    rw[ji,C6]
    lia
end
end K16
namespace L2
open PySem PySem.Spec PyProof.Rows
section
variable  {X:Cx}
end
end L2
namespace K16
open PySem L2
theorem Wb.ok {H:Hp}{r:Addr}{m:Nat}{ts:LA}(W:Wb H r (m:Int) ts):Ok m (ts.map (·.2)):=λp hp=>by
 obtain ⟨u,hu,rfl⟩:=DR.mp hp
 exact W.pr u hu
abbrev uT:Sp:=λvs H Q _=>∃(r:Addr) (m:Nat) (ts:LA),vs=[.ref r]/\Wb H r m ts/\m<=400/\∀(l:Addr) (H':Hp) (os:LA),aB H H'->H l=none->H' l=some (.lst (os.map λu =>.ref u.1))->(∀u∈os,H' u.1=some (.tup (u.2.map V.int)))->os.map (·.2)=bg (ts.map (·.2)) m m->Q (.ref l) H'
@[irreducible] def qe:Sp:=uT
theorem iF {vs:List V}{H:Hp}{Q:VK}{E:XK}:qe vs H Q E↔uT vs H Q E:=by
 delta qe
 exact Gn
abbrev rN:Sp:=λvs H Q _=>∃(r:Addr) (m:Nat) (ts:LA),vs=[.ref r]/\Wb H r m ts/\m<=400/\∀H',aB H H'->Q (.int ((ts.length:Int)-m+((bg (ts.map (·.2)) m m).length:Nat))) H'
@[irreducible] def kU:Sp:=rN
theorem gy {vs:List V}{H:Hp}{Q:VK}{E:XK}:kU vs H Q E↔rN vs H Q E:=by
 delta kU
 exact Gn
theorem kC (ns:List (List Int))(m i:Nat):(bg ns m i).length<=i:=by
 unfold bg
 rw[C6]
 refine DU (IC _ _) ?_
 unfold rgI
 rw[C6,Fg]
 exact Dd _
section
variable  {P:DH}{w:Eb}{K:Df}{mg:Str->Option C9}{base:Heap}{f:Addr}{fd:EK}
theorem iG:aU ["web", "near", "seen", "parts", "place", "part", "other"] ["web"] (aG AX):=⟨rfl,rfl,rfl,by decide +kernel,rfl,by decide +kernel,by decide +kernel⟩
theorem B3 (F:Fun K "hanging_parts" "hanging_parts" AX f fd)(B:Blt mg)(cL:Cal P w K mg base 1 "near_lists" ["web"] kS)(cR:Cal P w K mg base 1 "reached_from" ["near", "start"] kT):cy P w K mg base CX0 2 f fd ["web"] qe:=by
 refine F.ok iG (λvs H Q E h =>?_) (λcdv A outer s0 H vs Q E hr h =>?_)
 ·obtain ⟨a,b,c,rfl,_⟩:=iF.mp h
  rfl
 obtain ⟨r,m,ts,rfl,W,m4,q⟩:=iF.mp h
 have O:=W.ok
 have hu:=xw hr
 obtain ⟨t,e1,e2⟩:=W.at'
 refine ⟨_,ai (aS (i:=1) iG.nd rfl (Or.inl rfl) (aY cL hr (by decide) rfl (aa (pv 0) ah)))
  (ai (aS (i:=2) iG.nd rfl (Or.inl rfl) i5)
  (ai (aS (i:=3) iG.nd rfl (Or.inl rfl) (bH ah))
  (ai (bR Ea rfl (cM rfl B.b_range (aa (aM aV (pv 0) ak (λ_ _=>rfl)) ah)) (ao (i:=4) iG.nd rfl (Or.inl rfl))
   (aq (bh (sk (oH hu (pv 4) (pv 2)))
    (ai (aS (i:=5) iG.nd rfl (Or.inl rfl) (aY cR hr (by decide) rfl (aa (pv 1) (aa (pv 4) ah))))
    (ai (bR Ea rfl (bO (pv 5)) (ao (i:=6) iG.nd rfl (Or.inl rfl)) (aq (pO hu (pv 2) (pv 6) dU rfl)))
    (aq (bX (eB DY Er Es bZ (pv 3) (aa (aR bV rfl B.b_tuple GW (aa (pv 5) ah)) ah)))))) aL)))
  (aq (aJ (pv 3)))))),?_⟩
 refine ⟨_,rfl,gw.mpr ⟨r,m,ts,rfl,W,by lia,by lia,λn H1 os s1 en lo ho po =>?_⟩⟩
 have N:mY H1 n m (ts.map (·.2)) os:=⟨en,by rw[lo];simp,ho,λj u eu=>(po j u eu).2⟩
 refine λd hd=>⟨(by show 0<=Dm;decide),λpl hpl =>?_⟩
 have hd0:upd H1 d (.dK []) d=some (.dK (fc [])):=ag
 have ndp:d≠pl:=aA hd0 hpl
 have hpl1:H1 pl=none:=by
  cases e:H1 pl with
  | none=>rfl
  | some o=>rw[(ae hd (.dK [])) _ _ e] at hpl;cases hpl
 have hpl0:H pl=none:=by
  cases e:H pl with
  | none=>rfl
  | some o=>rw[s1 _ _ e] at hpl1;cases hpl1
 have e3d:=(ae hpl (.lst [])) _ _ hd0
 have e3p:upd (upd H1 d (.dK [])) pl (.lst []) pl=some (.lst []):=ag
 have s3:=(ae hd (.dK [])).trans (ae hpl (.lst []))
 generalize upd (upd H1 d (.dK [])) pl (.lst [])=H3 at e3d e3p s3
 let W0:Nat->St->Hp->Prop:=λi σ H'=>∃(c4 c5 c6:Option V) (S:List Int) (ps:LA),σ=[some (.ref r),some (.ref n),some (.ref d),some (.ref pl),c4,c5,c6]/\aB H1 H'/\H' d=some (.dK (fc S))/\H' pl=some (.lst (ps.map λu =>.ref u.1))/\(∀u∈ps,H' u.1=some (.tup (u.2.map V.int)))/\ps.map (·.2)=bg (ts.map (·.2)) m i/\S.Nodup/\(∀v,v∈S↔∃u:Nat,u<i/\Con (ts.map (·.2)) (u:Int) v)
 refine ⟨_,rfl,r,_,0,_,rfl,rfl,SqT.of (s3 _ _ (s1 _ _ e1)),rfl,m,rfl,by lia,by lia,cN W0
  ⟨_,_,_,[],[],rfl,s3,e3d,e3p,λu hu=>(by cases hu),rfl,GC,λv=>⟨λz=>(by cases z),λ⟨u,z,_⟩=>by lia⟩⟩ ?_ ?_⟩
 ·rintro i σ H' hi ⟨c4,c5,c6,S,ps,rfl,s',ed,ep,hp,epp,nS,mS⟩
  have hi':i<m:=by simpa using hi
  refine ⟨_,rfl,_,rfl,d,_,rfl,fJ.k (k:=Sum.inl (0+(i:Int))) ed,_,rfl,?_⟩
  rw[oV,Int.zero_add]
  by_cases hS:(i:Int)∈S
  ·rw[decide_eq_true hS]
   obtain ⟨u,ui,hu⟩:=(mS _).mp hS
   refine cz ⟨_,_,_,S,ps,rfl,s',ed,ep,hp,?_,nS,λv =>?_⟩
   ·have:=Classical.propDecidable (Fst (ts.map (·.2)) (i:Int))
    rw[jh,if_neg (λz=>z (u:Int) (by lia) (by lia) hu),DZ]
    exact epp
   ·rw[mS v]
    constructor
    ·rintro ⟨x,xi,hx⟩;exact ⟨x,by lia,hx⟩
    ·rintro ⟨x,xi,hx⟩
     by_cases e:x=i
     ·subst e;exact ⟨u,ui,hu.trans hx⟩
     ·exact ⟨x,by lia,hx⟩
  ·rw[decide_eq_false hS]
   have fi:Fst (ts.map (·.2)) (i:Int):=λx x0 xi hx=>by
    obtain ⟨xn,rfl⟩:∃k:Nat,x=k:=⟨x.toNat,by lia⟩
    exact hS ((mS _).mpr ⟨xn,by lia,hx⟩)
   refine bC ⟨_,rfl,_,rfl,gx.mpr ⟨n,m,ts.map (·.2),os,(i:Int),rfl,N.same s',O,m4,by lia,by lia,λpt H4 s4 ept =>?_⟩⟩
   have ed4:=s4 _ _ ed
   have ep4:=s4 _ _ ep
   have mc:∀v,v∈fS (ts.map (·.2)) m (i:Int)↔Con (ts.map (·.2)) (i:Int) v:=λv=>oU O (by lia)
   have rc:=mR (ts.map (·.2)) m (i:Int)
   generalize hcc:fS (ts.map (·.2)) m (i:Int)=cc at ept mc rc
   have ndpt:d≠pt:=cF ed4 ept (by intro z;cases z)
   have ndcc:cc.Nodup:=rc.imp λ{a b} h=>by lia
   have dj:∀v∈cc,v∉S:=λv hv hs=>by
    obtain ⟨u,ui,hu⟩:=(mS v).mp hs
    exact fi (u:Int) (by lia) (by lia) (hu.trans (((mc v).mp hv).symm O))
   have rS:∀v∈S,0<=v/\v<m:=λv hv=>by
    obtain ⟨u,ui,hu⟩:=(mS v).mp hv
    exact hu.rng O (by lia)
   have rC:∀v∈cc,0<=v/\v<m:=λv hv=>((mc v).mp hv).rng O (by lia)
   have ndj:∀j,(S++cc.take j).Nodup:=λj=>by
    rw[FA]
    exact ⟨nS,ndcc.sublist (EN _ _),λx hx y hy e=>dj y (Fl hy) (e ▸ hx)⟩
   have lj:∀j,(S++cc.take j).length<=m:=λj=>d8 (ndj j) λv hv=>(Dh.mp hv).elim (rS v) λz=>rC v (Fl z)
   let W1:Nat->St->Hp->Prop:=λj σ H5=>(∃c6,σ=[some (.ref r),some (.ref n),some (.ref d),some (.ref pl),some (.int (i:Int)),some (.ref pt),c6])/\SB d H4 H5/\H5 d=some (.dK (fc (S++cc.take j)))
   refine ⟨_,rfl,pt,rfl,⟨_,SqL.of ept⟩,eM (xs:=cc.map V.int) W1 ⟨⟨_,rfl⟩,SB.refl _ _,by rw[Iu,DZ];exact ed4⟩ (λj σ H5 _ z=>SqL.of (z.2.1 _ _ (EB ndpt) ept)) ?_ ?_⟩
   ·rintro j x σ H5 hx ⟨⟨c6,rfl⟩,sb5,ed5⟩
    rw[Dq] at hx
    cases ho:cc[j]? with
    | none=>rw[ho] at hx;cases hx
    | some o =>
    rw[ho] at hx
    cases hx
    have tks:cc.take (j+1)=cc.take j++[o]:=by rw[D3,ho];rfl
    have no:o∉S++cc.take j:=λz=>by
     have nd1:=ndj (j+1)
     rw[tks, <- DQ,FA] at nd1
     exact nd1.2.2 o z o (by simp) rfl
    refine ⟨_,rfl,_,rfl,d,_,rfl,rj.k (k:=Sum.inl o) ed5 (by rw[ji];exact cx (by have:=lj j;lia)),⟨_,rfl⟩,sb5.trans (SB.put _),?_⟩
    rw[rL no,ag,tks,DQ]
   ·rintro σ H5 ⟨⟨c6,rfl⟩,sb5,ed5⟩
    rw[C6,Dr (Dd _)] at ed5
    have ep5:=sb5 _ _ (EB ndp) ep4
    have ept5:=sb5 _ _ (EB ndpt) ept
    have s5:aB H1 H5:=λb o e=>sb5 _ _ (aA e hd) (s4 _ _ (s' _ _ e))
    have hp5:∀u∈ps,H5 u.1=some (.tup (u.2.map V.int)):=λu hu=>sb5 _ _ (cF (s4 _ _ (hp u hu)) ed4 (by intro z;cases z)) (s4 _ _ (hp u hu))
    refine ⟨_,rfl,.inl ⟨rfl,_,SqL.of ep5⟩,_,rfl,pt,_,rfl,.inl ⟨SqL.of ept5,λtt htt =>?_⟩⟩
    have s6:=ae htt (.tup (cc.map V.int))
    have lps:ps.length<=i:=by
     have:=congrArg List.length epp
     rw[C6] at this
     rw[this]
     exact kC _ _ _
    have ett:upd H5 tt (.tup (cc.map V.int)) tt=some (.tup (cc.map V.int)):=ag
    have ntp:∀{b:Addr} {xs:List V},upd H5 tt (.tup (cc.map V.int)) b=some (.tup xs)->b≠pl:=λe=>cF e (s6 _ _ ep5) (by intro z;cases z)
    refine ⟨pl,_,_,rfl,rfl,s6 _ _ ep5,(by rw[C6];exact cx (by lia)),_,_,_,S++cc,ps++[(tt,cc)],rfl,λb o e =>?_,?_,?_,λu hu =>?_,?_,by have:=ndj cc.length;rwa [Dr (Dd _)] at this,λv =>?_⟩
    ·rw[az (aA e hpl1)];exact s6 _ _ (s5 _ _ e)
    ·rw[az ndp];exact s6 _ _ ed5
    ·rw[ag,Dj];rfl
    ·rcases Dh.mp hu with z | z
     ·have:=s6 _ _ (hp5 u z)
      rw[az (ntp this)];exact this
     ·rw[DD] at z;subst z
      rw[az (ntp ett)];exact ett
    ·have:=Classical.propDecidable (Fst (ts.map (·.2)) (i:Int))
     rw[jh,if_pos fi,Dj,epp,hcc]
     rfl
    ·rw[Dh,mS v,mc v]
     constructor
     ·rintro (⟨x,xi,hx⟩ | hx)
      ·exact ⟨x,by lia,hx⟩
      ·exact ⟨i,by lia,hx⟩
     ·rintro ⟨x,xi,hx⟩
      by_cases e:x=i
      ·subst e;exact .inr hx
      ·exact .inl ⟨x,by lia,hx⟩
 ·rintro σ H' ⟨c4,c5,c6,S,ps,rfl,s',ed,ep,hp,epp,nS,mS⟩
  exact ⟨_,rfl,q pl H' ps (s1.trans s') hpl0 ep hp (by simpa using epp)⟩
theorem Aq:aU ["web"] ["web"] (aG yz):=⟨rfl,rfl,rfl,by decide +kernel,rfl,by decide +kernel,by decide +kernel⟩
theorem Ar (F:Fun K "spare_ties" "spare_ties" yz f fd)(B:Blt mg)(cH:Cal P w K mg base 2 "hanging_parts" ["web"] qe):cy P w K mg base CX0 3 f fd ["web"] kU:=by
 refine F.ok Aq (λvs H Q E h =>?_) (λcdv A outer s0 H vs Q E hr h =>?_)
 ·obtain ⟨a,b,c,rfl,_⟩:=gy.mp h
  rfl
 obtain ⟨r,m,ts,rfl,W,m4,q⟩:=gy.mp h
 obtain ⟨t,e1,e2⟩:=W.at'
 refine ⟨_,aq (aJ (aE bM (aE cg (ay aI rfl B.b_len JE (aa (aM aV (pv 0) ak (λ_ _=>rfl)) ah)) (aM aV (pv 0) ak (λ_ _=>rfl))) (ay aI rfl B.b_len JE (aa (aY cH hr (by decide) rfl (aa (pv 0) ah)) ah)))),?_⟩
 refine ⟨_,rfl,r,_,1,_,rfl,rfl,SqT.of e1,rfl,t,_,rfl,.inr (SqT.of e2),_,rfl,r,_,0,_,rfl,rfl,SqT.of e1,rfl,_,_,rfl,rfl,_,rfl,iF.mpr ⟨r,m,ts,rfl,W,m4,λl H' os s' _ el _ ep=>⟨l,_,rfl,.inl (SqL.of el),_,_,rfl,rfl,?_⟩⟩⟩
 have:=q H' s'
 rw[<- ep,C6] at this
 rw[C6,C6]
 exact this
end
theorem qf {ns ms:List (List Int)}(h:∀p∈ns,p∈ms){u v:Int}(c:Con ns u v):Con ms u v:=by
 induction c with
 | refl=>exact .refl _
 | step _ a ih =>
  obtain ⟨p,hp,hx⟩:=cS.mp a
  exact .step ih (cS.mpr ⟨p,h p hp,hx⟩)
theorem wF {ns ms:List (List Int)}(h:∀p,p∈ns↔p∈ms)(u v:Int):Con ns u v↔Con ms u v:=⟨qf λp hp=>(h p).mp hp,qf λp hp=>(h p).mpr hp⟩
open Classical in
theorem gB {ns ms:List (List Int)}{m:Nat}(h:∀u v:Int,Con ns u v↔Con ms u v):bg ns m m=bg ms m m:=by
 have e1:∀u,Fst ns u↔Fst ms u:=λu=>by
  unfold Fst
  exact ⟨λg w h0 h1 c=>g w h0 h1 ((h w u).mpr c),λg w h0 h1 c=>g w h0 h1 ((h w u).mp c)⟩
 have e2:fS ns m=fS ms m:=by
  funext u
  unfold fS
  refine GK λv _ =>?_
  rw[decide_eq_decide]
  exact h u v
 unfold bg
 rw[e2]
 congr 1
 refine GK λu _ =>?_
 rw[decide_eq_decide]
 exact e1 u
structure More (m:Nat)(ns ms:List (List Int))(a b:Int):Prop where
 ok:Ok m ns
 mem:∀p,p∈ms↔p∈ns\/p=[a,b]
 a0:0<=a
 ab:a<=b
 bm:b<m
theorem More.ok' {m:Nat}{ns ms:List (List Int)}{a b:Int}(M:More m ns ms a b):Ok m ms:=λp hp=>by
 rcases (M.mem p).mp hp with h | h
 ·exact M.ok p h
 ·exact ⟨a,b,h,M.a0,M.ab,M.bm⟩
theorem More.sub {m:Nat}{ns ms:List (List Int)}{a b:Int}(M:More m ns ms a b){u v:Int}(c:Con ns u v):Con ms u v:=qf (λp hp=>(M.mem p).mpr (.inl hp)) c
theorem More.adj {m:Nat}{ns ms:List (List Int)}{a b:Int}(M:More m ns ms a b){u v:Int}(h:Adj ms u v):Adj ns u v\/(u=a/\v=b)\/(u=b/\v=a):=by
 obtain ⟨p,hp,hx⟩:=cS.mp h
 rcases (M.mem p).mp hp with z | z
 ·exact .inl (cS.mpr ⟨p,z,hx⟩)
 ·subst z
  rcases (kR.mp hx).2 with ⟨h1,h2⟩ | ⟨h1,h2⟩
  ·exact .inr (.inl ⟨h1.symm,h2⟩)
  ·exact .inr (.inr ⟨h1.symm,h2⟩)
theorem More.tie {m:Nat}{ns ms:List (List Int)}{a b:Int}(M:More m ns ms a b):Con ms a b:=Ao M.ok' ((M.mem _).mpr (.inr rfl))
theorem More.same {m:Nat}{ns ms:List (List Int)}{a b:Int}(M:More m ns ms a b)(h:Con ns a b)(u v:Int):Con ns u v↔Con ms u v:=by
 refine ⟨M.sub,λc =>?_⟩
 induction c with
 | refl=>exact .refl _
 | step _ x ih =>
  rcases M.adj x with z | ⟨rfl,rfl⟩ | ⟨rfl,rfl⟩
  ·exact .step ih z
  ·exact ih.trans h
  ·exact ih.trans (h.symm M.ok)
theorem More.con {m:Nat}{ns ms:List (List Int)}{a b:Int}(M:More m ns ms a b){u v:Int}(c:Con ms u v):Con ns u v\/(Con ns u a/\Con ns b v)\/(Con ns u b/\Con ns a v):=by
 induction c with
 | refl=>exact .inl (.refl _)
 | step _ x ih =>
  rcases M.adj x with z | ⟨rfl,rfl⟩ | ⟨rfl,rfl⟩
  ·rcases ih with i | ⟨i,j⟩ | ⟨i,j⟩
   ·exact .inl (.step i z)
   ·exact .inr (.inl ⟨i,.step j z⟩)
   ·exact .inr (.inr ⟨i,.step j z⟩)
  ·rcases ih with i | ⟨i,j⟩ | ⟨i,j⟩
   ·exact .inr (.inl ⟨i,.refl _⟩)
   ·exact .inr (.inl ⟨i,.refl _⟩)
   ·exact .inl i
  ·rcases ih with i | ⟨i,j⟩ | ⟨i,j⟩
   ·exact .inr (.inr ⟨i,.refl _⟩)
   ·exact .inl i
   ·exact .inr (.inr ⟨i,.refl _⟩)
theorem oW {m:Nat}{ns:List (List Int)}(O:Ok m ns){c w:Int}(hc:Fst ns c)(w0:0<=w)(h:Con ns c w):c<=w:=by
 rcases Int.lt_or_le w c with z | z
 ·exact absurd (h.symm O) (hc w w0 z)
 ·exact z
theorem More.fst {m:Nat}{ns ms:List (List Int)}{a b:Int}(M:More m ns ms a b)(h:¬ Con ns a b):∃hi:Int,0<=hi/\hi<m/\Fst ns hi/\∀u:Int,0<=u->u<m->(Fst ms u↔Fst ns u/\u≠hi):=by
 have a0:=M.a0
 have ab:=M.ab
 have bm:=M.bm
 obtain ⟨ra,fa,ra0,ram,ca⟩:=yB M.ok a.toNat a a0 (by lia) (Dd _)
 obtain ⟨rb,fb,rb0,rbm,cb⟩:=yB M.ok b.toNat b (by lia) bm (Dd _)
 have ne:ra≠rb:=λz=>by
  subst z
  exact h ((ca.symm M.ok).trans cb)
 have cab:Con ms ra rb:=((M.sub ca).trans M.tie).trans ((M.sub cb).symm M.ok')
 have key:∀(lo hi:Int),((lo=ra/\hi=rb)\/(lo=rb/\hi=ra))->lo<hi->0<=lo->0<=hi->hi<m->Fst ns hi->Con ms lo hi->∃hi:Int,0<=hi/\hi<m/\Fst ns hi/\∀u:Int,0<=u->u<m->(Fst ms u↔Fst ns u/\u≠hi):=by
  intro lo hi lh lt lo0 hi0 him fh ch
  refine ⟨hi,hi0,him,fh,λu u0 um=>⟨λf=>⟨λw w0 wu c=>f w w0 wu (M.sub c),λz =>?_⟩,λ⟨f,nz⟩ w w0 wu c =>?_⟩⟩
  ·subst z
   exact f lo lo0 lt ch
  ·rcases M.con c with z | ⟨i,j⟩ | ⟨i,j⟩
   ·exact f w w0 wu z
   ·have e:u=rb:=(rK M.ok fb f rb0 u0 (cb.trans j)).symm
    have g:=oW M.ok fa w0 (ca.trans (i.symm M.ok))
    rcases lh with ⟨x,y⟩ | ⟨x,y⟩ <;> lia
   ·have e:u=ra:=(rK M.ok fa f ra0 u0 (ca.trans j)).symm
    have g:=oW M.ok fb w0 (cb.trans (i.symm M.ok))
    rcases lh with ⟨x,y⟩ | ⟨x,y⟩ <;> lia
 rcases Int.lt_or_gt_of_ne ne with z | z
 ·exact key ra rb (.inl ⟨rfl,rfl⟩) z ra0 rb0 rbm fb cab
 ·exact key rb ra (.inr ⟨rfl,rfl⟩) z rb0 ra0 ram fa (cab.symm M.ok')
theorem wG (m:Nat):(rgI m).Nodup:=(mQ m).imp λ{a b} h=>by lia
theorem kE {p q:Int->Bool}{x:Int}:∀{l:List Int},l.Nodup->x∈l->p x=true->(∀u∈l,q u=(p u && decide (u≠x)))->(l.filter q).length+1=(l.filter p).length
 | [],_,h,_,_=>by cases h
 | y :: l,nd,h,hp,hq=>by
  obtain ⟨n1,n2⟩:=EI.mp nd
  have hy:=hq y DA
  by_cases e:y=x
  ·subst e
   have e2:l.filter q=l.filter p:=GK λu hu=>by
    rw[hq u (DB _ hu),decide_eq_true (show u≠y from λz=>n1 (z ▸ hu)),MO]
   rw[IJ,if_neg (by rw[hy];simp),IJ,if_pos hp,e2]
   rfl
  ·have hx:x∈l:=by rcases Dx.mp h with z | z;exact absurd z.symm e;exact z
   have ih:=kE n2 hx hp (λu hu=>hq u (DB _ hu))
   rw[decide_eq_true (show y≠x from e),MO] at hy
   rw[IJ,IJ,hy]
   by_cases hpy:p y=true
   ·rw[if_pos hpy,if_pos hpy,Dz,Dz, <- ih]
   ·rw[if_neg hpy,if_neg hpy,ih]
theorem jS {ns:List (List Int)}{m:Nat}[DecidablePred (Fst ns)]:(bg ns m m).length=((rgI m).filter λu=>decide (Fst ns u)).length:=by
 unfold bg
 rw[C6]
 congr 1
 refine GK λu _ =>?_
 rw[decide_eq_decide]
open Classical in
theorem More.less {m:Nat}{ns ms:List (List Int)}{a b:Int}(M:More m ns ms a b)(h:¬ Con ns a b):(bg ms m m).length+1=(bg ns m m).length:=by
 obtain ⟨hi,h0,h1,fh,he⟩:=M.fst h
 rw[jS,jS]
 refine kE (wG m) (fM.mpr ⟨h0,h1⟩) (decide_eq_true fh) λu hu =>?_
 obtain ⟨u0,um⟩:=fM.mp hu
 rw[FW,decide_eq_true_iff,EC,decide_eq_true_iff,decide_eq_true_iff]
 exact he u u0 um
open Classical in
theorem rO {m:Nat}:∀{ns:List (List Int)},Ok m ns->m<=ns.length+(bg ns m m).length
 | [],_=>by
  rw[jS]
  have e:(rgI m).filter (λu=>decide (Fst [] u))=rgI m:=List.filter_eq_self.mpr λu _=>by
   refine decide_eq_true λw w0 wu c =>?_
   have:∀{x y:Int},Con [] x y->x=y:=by
    intro x y c
    induction c with
    | refl=>rfl
    | step _ a _=>obtain ⟨p,hp,_⟩:=cS.mp a;cases hp
   have:=this c
   lia
  rw[e]
  unfold rgI
  rw[C6,Fg]
  exact Nat.le_add_left _ _
 | p :: ns,O=>by
  obtain ⟨a,b,rfl,a0,ab,bm⟩:=O p DA
  have O':Ok m ns:=λq hq=>O q (DB _ hq)
  have ih:=rO O'
  have M:More m ns ([a,b] :: ns) a b:=⟨O',λq=>by rw[Dx,Or.comm],a0,ab,bm⟩
  rw[Dz]
  by_cases c:Con ns a b
  ·rw[<- gB (M.same c)]
   lia
  ·have:=M.less c
   lia
def off (ps:List Int)(p:List Int):Bool := !decide (p.getD 0 0∈ps) && !decide (p.getD 1 0∈ps)
abbrev yC:Sp:=λvs H Q _=>∃(r p:Addr) (m:Int) (ts:LA) (ps:List Int),vs=[.ref r,.ref p]/\Wb H r m ts/\(H p=some (.lst (ps.map V.int))\/H p=some (.tup (ps.map V.int))) ∧
 ∀(z:Addr) (us:LA) (H':Hp),aB H H'->Wb H' z m us->us.map (·.2)=(ts.map (·.2)).filter (off ps)->Q (.ref z) H'
@[irreducible] def kF:Sp:=yC
theorem cU {vs:List V}{H:Hp}{Q:VK}{E:XK}:kF vs H Q E↔yC vs H Q E:=by
 delta kF
 exact Gn
section
variable  {P:DH}{w:Eb}{K:Df}{mg:Str->Option C9}{base:Heap}{f:Addr}{fd:EK}
theorem CU:aU ["web", "places"] ["web", "places"] (aG CP):=⟨rfl,rfl,rfl,by decide +kernel,rfl,by decide +kernel,by decide +kernel⟩
theorem dk {α β:Type}{g:α -> Bool}{h:α -> β}{l:List α}{i:Nat}{x:α}(e:l[i]? = some x):((l.take (i+1)).filter g).map h=((l.take i).filter g).map h++if g x=true then [h x] else []:=by
 rw[D3,e,Jt,Dj]
 congr 1
 show (List.filter g [x]).map h=_
 by_cases c:g x=true
 ·rw[if_pos c,J4 c];rfl
 ·rw[if_neg c,J5 c];rfl
theorem CV (F:Fun K "cut_web" "cut_web" CP f fd)(B:Blt mg):cy P w K mg base CX0 1 f fd ["web", "places"] kF:=by
 refine F.ok CU (λvs H Q E h =>?_) (λcdv A outer s H vs Q E hr h =>?_)
 ·obtain ⟨a,b,c,d,e,rfl,_⟩:=cU.mp h
  rfl
 obtain ⟨r,p,m,ts,ps,rfl,W,hp,q⟩:=cU.mp h
 obtain ⟨t,e1,e2⟩:=W.at'
 refine ⟨_,aq (aJ (aT (aa (aM aV (pv 0) ak (λ_ _=>rfl)) (aa (aR bV rfl B.b_tuple GW (aa (bY ["tie", "places"] [none,some 1] rfl (fY (aM aV (pv 0) ak (λ_ _=>rfl))) rfl (λ_ _ _ _ _=>ao (i:=0) AZ rfl (Or.inl rfl))
  (λ_ _ _ _ _=>fA (PW.pt (fW (aD (gM (K:=K)) (aM (dq (K:=K)) (pv 0) ak (λ_ _=>rfl)) (pv 1) rfl) (fj (aD (gM (K:=K)) (aM (dq (K:=K)) (pv 0) ak (λ_ _=>rfl)) (pv 1) rfl)))))
  (λ_ _ _ _ _=>pv 0)) ah)) ah)))),?_⟩
 refine ⟨_,rfl,r,_,0,_,rfl,rfl,SqT.of e1,rfl,_,rfl,r,_,1,_,rfl,rfl,SqT.of e1,rfl,t,rfl,⟨_,SqT.of e2⟩,dA (xs:=ts.map λu =>.ref u.1) (λi ys H'=>H'=H/\ys=((ts.take i).filter λu=>off ps u.2).map λu =>.ref u.1) ⟨rfl,rfl⟩ (by rw[C6];exact small (by have:=W.len;lia)) (λi ys H' _ z=>by rw[z.1];exact SqT.of e2) ?_ ?_⟩
 ·rintro i x ys H3 hx hy ⟨rfl,ey⟩ R1 R0 r1 r0
  obtain ⟨u,eu,rfl⟩:=item hx
  have hu:=W.tup u (Dp eu)
  obtain ⟨a,b,e3,_⟩:=W.pr u (Dp eu)
  rw[e3] at hu
  have bb:off ps u.2=(!decide (a∈ps) && !decide (b∈ps)):=by rw[e3];rfl
  have g1:off ps u.2=true->R1 (.ref u.1) H3:=λec=>r1 _ _ ⟨rfl,by rw[dk eu,if_pos ec,ey]⟩
  have g0:off ps u.2=false->R0 H3:=λec=>r0 _ ⟨rfl,by rw[dk eu,if_neg (by rw[ec];exact Dv),ey,DZ]⟩
  refine ⟨_,rfl,u.1,_,0,_,rfl,rfl,SqT.of hu,rfl,_,rfl,p,_,rfl,(hp.elim (λz =>.inl (SqL.of z)) (λz =>.inr (SqT.of z))),rfl,di ps,_,rfl,?_⟩
  show if (if true=true then !inV (.int a) (ps.map V.int) else _)=true then _ else _
  rw[if_pos rfl,dw]
  by_cases ha:a∈ps
  ·rw[decide_eq_true ha] at bb ⊢
   exact cz (cz (g0 bb))
  ·rw[decide_eq_false ha] at bb ⊢
   refine bC ⟨_,rfl,u.1,_,1,_,rfl,rfl,SqT.of hu,rfl,_,rfl,p,_,rfl,(hp.elim (λz =>.inl (SqL.of z)) (λz =>.inr (SqT.of z))),rfl,di ps,_,rfl,?_⟩
   show if (if true=true then !inV (.int b) (ps.map V.int) else _)=true then _ else _
   rw[if_pos rfl,dw]
   by_cases hb:b∈ps
   ·rw[decide_eq_true hb] at bb ⊢
    exact cz (g0 bb)
   ·rw[decide_eq_false hb] at bb ⊢
    exact bC ⟨_,rfl,g1 bb⟩
 ·rintro ys H3 hy ⟨rfl,ey⟩ l hl
  rw[C6,Dr (Dd _)] at ey
  refine ⟨l,_,rfl,.inl ⟨SqL.of ag,λl2 hl2=>⟨(by show 2<=Dm;decide),λz hz =>?_⟩⟩⟩
  subst ey
  have g1:=ae hl (.lst ((ts.filter λu=>off ps u.2).map λu=>V.ref u.1))
  have g2:=ae hl2 (.tup ((ts.filter λu=>off ps u.2).map λu=>V.ref u.1))
  have g3:=ae hz (.tup [.int m,.ref l2])
  have g:=(g1.trans g2).trans g3
  refine q z (ts.filter λu=>off ps u.2) _ g ⟨⟨l2,ag,g3 _ _ ag⟩,λu hu=>g _ _ (W.tup u (E4.mp hu).1),λu hu=>W.pr u (E4.mp hu).1,?_⟩ ?_
  ·exact DU (IC _ _) W.len
  ·rw[Mp];rfl
end
open Classical in
open Classical in
theorem As {m:Nat}{ns:List (List Int)}{a b:Int}(O:Ok m ([a,b] :: ns)):([a,b] :: ns).length+(bg ([a,b] :: ns) m m).length=ns.length+(bg ns m m).length+if Con ns a b then 1 else 0:=by
 obtain ⟨a',b',e,a0,ab,bm⟩:=O _ DA
 injection e with e1 e2
 injection e2 with e2 _
 subst e1 e2
 have O':Ok m ns:=λq hq=>O q (DB _ hq)
 have M:More m ns ([a,b] :: ns) a b:=⟨O',λq=>by rw[Dx,Or.comm],a0,ab,bm⟩
 rw[Dz]
 by_cases c:Con ns a b
 ·rw[if_pos c, <- gB (M.same c)]
  lia
 ·rw[if_neg c]
  have:=M.less c
  lia
theorem B4 (m:Nat):(bg [] m m).length=m:=by
 have h1:=rO (m:=m) (ns:=[]) (λp hp=>by cases hp)
 have h2:=kC [] m m
 simp at h1
 lia
theorem yD {m:Nat}(l:List (List Int)):(bg l.reverse m m).length=(bg l m m).length:=by
 rw[gB (wF λp=>G0)]
section
def A0:Sp:=λvs H Q _=>∃a b:Int,vs=[.int a,.int b]/\∀t,H t=none->Q (.ref t) (upd H t (.tup ((nrm a b).map V.int)))
theorem CW:aU ["one", "other"] ["one", "other"] (aG CQ):=⟨rfl,rfl,rfl,by decide +kernel,rfl,by decide +kernel,by decide +kernel⟩
theorem CY (F:Fun K "tie_of" "tie_of" CQ f fd)(mx:mg "max" = none)(mn:mg "min" = none):cy P w K mg base CX0 1 f fd ["one", "other"] A0:=by
 refine F.ok CW (λvs H Q E h =>?_) (λcdv A outer s H vs Q E hr h =>?_)
 ·obtain ⟨a,b,rfl,_⟩:=h
  rfl
 obtain ⟨a,b,rfl,q⟩:=h
 refine ⟨_,aq (aJ (aT (aa (ay (jH rfl) rfl mn p7 (aa (pv 0) (aa (pv 1) ah))) (aa (ay (gL rfl) rfl mx mN (aa (pv 0) (aa (pv 1) ah))) ah)))),?_⟩
 exact ⟨_,rfl,_,rfl,_,_,rfl,_,rfl,_,rfl,_,_,rfl,(by show 2<=Dm;decide),λt ht=>q t ht⟩
abbrev rP:Sp:=λvs H Q _=>∃(r:Addr) (m a b:Int) (ts:LA),vs=[.ref r,.int a,.int b]/\Wb H r m ts/\∀H',aB H H'->Q (.int ((ts.map (·.2)).count (nrm a b):Nat)) H'
@[irreducible] def gY:Sp:=rP
theorem bJ {vs:List V}{H:Hp}{Q:VK}{E:XK}:gY vs H Q E↔rP vs H Q E:=by
 delta gY
 exact Gn
theorem Au:aU ["web", "one", "other"] ["web", "one", "other"] (aG yx):=⟨rfl,rfl,rfl,by decide +kernel,rfl,by decide +kernel,by decide +kernel⟩
theorem Av (F:Fun K "tied_times" "tied_times" yx f fd)(cT:Cal P w K mg base 1 "tie_of" ["one", "other"] A0):cy P w K mg base CX0 2 f fd ["web", "one", "other"] gY:=by
 refine F.ok Au (λvs H Q E h =>?_) (λcdv A outer s H vs Q E hr h =>?_)
 ·obtain ⟨a,b,c,d,e,rfl,_⟩:=bJ.mp h
  rfl
 obtain ⟨r,m,a,b,ts,rfl,W,q⟩:=bJ.mp h
 obtain ⟨t,e1,e2⟩:=W.at'
 refine ⟨_,aq (aJ (xX HS JQ (mq (hu8 hr)) (aM aV (pv 0) ak (λ_ _=>rfl)) (aa (aY cT hr (by decide) rfl (aa (pv 1) (aa (pv 2) ah))) ah))),?_⟩
 refine ⟨_,rfl,r,_,1,_,rfl,rfl,SqT.of e1,rfl,⟨_,_,rfl,e2⟩,_,rfl,_,rfl,a,b,rfl,λx hx =>?_⟩
 have s1:=ae hx (.tup ((nrm a b).map V.int))
 exact ⟨t,x,ts,nrm a b,rfl,rfl,s1 _ _ e2,λu hu=>s1 _ _ (W.tup u hu),ag,q _ s1⟩
end
def mp (C:List (Int×V)):List (Key×V):=C.map λe=>(Sum.inl e.1,e.2)
theorem fN (v:Int):∀C:List (Int×V),(v∉C.map (·.1)/\bG (mp C) (Sum.inl v)=none)\/∃x,(v,x)∈C/\bG (mp C) (Sum.inl v)=some x
 | [] =>.inl ⟨by simp,rfl⟩
 | e :: C=>by
  by_cases h:e.1=v
  ·refine .inr ⟨e.2,by rw[<- h];exact DA,?_⟩
   show bG ((Sum.inl e.1,e.2) :: mp C) (Sum.inl v)=some e.2
   rw[b7 (by rw[h])]
  ·have en:bG (mp (e :: C)) (Sum.inl v)=bG (mp C) (Sum.inl v):=by
    show bG ((Sum.inl e.1,e.2) :: mp C) (Sum.inl v)=_
    rw[b8 (λz=>h (by injection z))]
   rw[en]
   rcases fN v C with ⟨h1,h2⟩ | ⟨x,h1,h2⟩
   ·exact .inl ⟨by rw[DV,Dx];exact λz=>z.elim (λy=>h y.symm) h1,h2⟩
   ·exact .inr ⟨x,DB _ h1,h2⟩
theorem A6 (v:Int)(C:List (Int×V)):(bG (mp C) (Sum.inl v)).isSome=decide (v∈C.map (·.1)):=by
 rcases fN v C with ⟨h1,h2⟩ | ⟨x,h1,h2⟩
 ·rw[h2,decide_eq_false h1];rfl
 ·rw[h2,decide_eq_true (E3 (f:=(·.1)) h1)];rfl
theorem yE {v:Int}{C:List (Int×V)}(h:v∈C.map (·.1)):∃x,(v,x)∈C/\bG (mp C) (Sum.inl v)=some x:=by
 rcases fN v C with ⟨h1,_⟩ | z
 ·exact absurd h h1
 ·exact z
theorem yF {v:Int}{C:List (Int×V)}(h:v∉C.map (·.1))(x:V):putK (mp C) (Sum.inl v) x=mp (C++[(v,x)]):=by
 rcases fN v C with ⟨_,h2⟩ | ⟨x,h1,_⟩
 ·rw[ri _ h2];unfold mp;rw[Dj];rfl
 ·exact absurd (E3 (f:=(·.1)) h1) h
theorem tW (C:List (Int×V)):(mp C).length=C.length:=C6 _
theorem cI {a b:Int}(h:a<=b):nrm a b=[a,b]:=by
 unfold nrm mnI mxI
 by_cases c:a=b
 ·subst c;simp
 ·rw[if_neg (by lia),if_pos (by lia)]
theorem oX {H:Hp}{r:Addr}{m:Nat}{ts:LA}(W:Wb H r m ts):Ok m (ts.map (·.2)):=λp hp=>by
 obtain ⟨u,hu,rfl⟩:=DR.mp hp
 exact W.pr u hu
theorem qg {n:Nat}(h:n<=5000):n<Dm:=G4 h (by decide)
theorem cJ {n:Nat}(h:n<=5000):n<=Dm:=Gv (qg h)
theorem eE {ms:List Int}{i:Nat}{x:V}(e:(ms.map V.int)[i]? = some x):∃n,ms[i]? = some n/\x = .int n:=by
 rw[Dq] at e
 cases z:ms[i]? with
 | none=>rw[z] at e;cases e
 | some n=>rw[z] at e;exact ⟨n,rfl,(DW e).symm⟩
def prv (Z:List Int)(k:Nat):Int:=Z.getD (if k=0 then Z.length-1 else k-1) 0
theorem mZ {Z:List Int}{k:Nat}(hk:k<Z.length):atI (Z.map V.int) ((k:Int)-1)=some (.int (prv Z k)):=by
 unfold prv
 cases k with
 | zero =>
  have el:Z[Z.length-1]? = some (Z[Z.length-1]'(by lia)):=Dc (by lia)
  rw[if_pos rfl,Du,el]
  unfold atI ixN
  rw[C6]
  simp
  rw[if_pos (by lia)]
  simp only[Option.bind_some]
  rw[show (-1+(Z.length:Int)).toNat=Z.length-1 by lia,el];rfl
 | succ k =>
  have el:Z[k]? = some (Z[k]'(by lia)):=Dc (by lia)
  rw[if_neg (by lia),Du,show k+1-1=k by lia,el,show ((k+1:Nat):Int)-1=(k:Int) by lia]
  exact cO (by rw[Dq,el];rfl)
def IsR (ns:List (List Int))(Z:List Int):Prop:=Z≠[]/\Z.Nodup/\(Z.length=2->2<=ns.count (nrm (Z.getD 0 0) (Z.getD 1 0)))/\(Z.length≠2->∀k,k<Z.length->0<ns.count (nrm (prv Z k) (Z.getD k 0)))
def IsL (m:Nat)(ns:List (List Int))(Z:List Int):Prop:=Z≠[]/\Z.Nodup/\(∀v∈Z,0<=v/\v<m)/\(Z.length<3->Z.length<=ns.count (nrm (Z.getD 0 0) (prv Z 0)))/\(¬ Z.length<3->∀k,k<Z.length->0<ns.count (nrm (prv Z k) (Z.getD k 0)))
theorem jT {m:Nat}{ns:List (List Int)}(O:Ok m ns){a b:Int}(h:0<ns.count (nrm a b)):(0<=a/\a<m)/\0<=b/\b<m:=by
 obtain ⟨x,y,e,x0,xy,ym⟩:=O _ (D7.mp h)
 rcases Ju a b with c | c
 ·rw[cI c] at e;cases e;omega
 ·rw[bN,cI c] at e;cases e;omega
theorem Aw {m:Nat}{ns:List (List Int)}(O:Ok m ns)(Z:List Int):IsL m ns Z↔IsR ns Z:=by
 unfold IsL IsR
 match Z with
 | []=>simp
 | [a] =>
  have e:prv [a] 0=a:=rfl
  constructor
  ·rintro ⟨h1,h2,h3,h4,h5⟩
   refine ⟨h1,h2,λz=>absurd z (by simp),λ_ k hk =>?_⟩
   have:k=0:=by simp at hk;omega
   subst this
   exact h4 (by simp)
  ·rintro ⟨h1,h2,h3,h4⟩
   have h:=h4 (by simp) 0 (by simp)
   rw[e] at h
   refine ⟨h1,h2,λv hv =>?_,λ_ =>?_,λz=>absurd (by simp) z⟩
   ·have:v=a:=by simpa using hv
    subst this
    exact (jT O h).1
   ·rw[e];exact h
 | [a,b] =>
  have e:prv [a,b] 0=b:=rfl
  constructor
  ·rintro ⟨h1,h2,h3,h4,h5⟩
   exact ⟨h1,h2,λ_=>h4 (by simp),λz=>absurd rfl z⟩
  ·rintro ⟨h1,h2,h3,h4⟩
   have h:=h3 rfl
   have h':0<ns.count (nrm a b):=DC (by decide) h
   refine ⟨h1,h2,λv hv =>?_,λ_=>h,λz=>absurd (by simp) z⟩
   have:v=a\/v=b:=by simpa using hv
   rcases this with z | z <;> subst z
   ·exact (jT O h').1
   ·exact (jT O h').2
 | a :: b :: c :: t =>
  have l3:¬ (a :: b :: c :: t).length<3:=by simp
  have l2:(a :: b :: c :: t).length≠2:=by simp
  generalize hZ:a :: b :: c :: t=Z at l3 l2
  constructor
  ·rintro ⟨h1,h2,h3,h4,h5⟩
   exact ⟨h1,h2,λz=>absurd z l2,λ_=>h5 l3⟩
  ·rintro ⟨h1,h2,h3,h4⟩
   refine ⟨h1,h2,λv hv =>?_,λz=>absurd z l3,λ_=>h4 l2⟩
   obtain ⟨k,hk,e⟩:=List.mem_iff_getElem.mp hv
   have h:=(jT O (h4 l2 k hk)).2
   rwa [Du,Dc hk,e] at h
theorem rQ:∀{Z:List Int},¬ Z.Nodup->∃Y:List Int,Y.length<Z.length/\∀k,k∈Z->k∈Y
 | [],h=>absurd GC h
 | x :: t,h=>by
  by_cases c:x∈t
  ·exact ⟨t,Fc _,λk hk=>(Dx.mp hk).elim (λz=>z ▸ c) id⟩
  ·obtain ⟨Y,l,s⟩:=rQ (Z:=t) λz=>h (EI.mpr ⟨c,z⟩)
   exact ⟨x :: Y,Nat.succ_lt_succ l,λk hk=>(Dx.mp hk).elim (λz=>z ▸ DA) λz=>DB _ (s k z)⟩
theorem qh {us Z:List Int}(nu:us.Nodup)(h:∀k,k∈us↔k∈Z):us.length=Z.length↔Z.Nodup:=by
 constructor
 ·intro e
  by_cases c:Z.Nodup
  ·exact c
  ·obtain ⟨Y,l,s⟩:=rQ c
   have:=GP nu λx hx=>s x ((h x).mp hx)
   lia
 ·intro nd
  exact ((Hw nu nd).mpr h).length_eq
theorem gZ {a b:Nat}:(V.int (a:Int)=V.int (b:Int))↔a=b:=⟨λz=>by injection z with z;lia,λz=>by rw[z]⟩
theorem getD_at {Z:List Int}{k:Nat}{v:Int}(e:Z[k]? = some v):Z.getD k 0=v:=by rw[Du,e];rfl
abbrev oY:Sp:=λvs H Q _=>∃(r p:Addr) (m:Nat) (ts:LA) (Z:List Int),vs=[.ref r,.ref p]/\Wb H r m ts/\(H p=some (.lst (Z.map V.int))\/H p=some (.tup (Z.map V.int)))/\Z.length<=200/\∀(b:Bool) H',aB H H'->(b=true↔IsR (ts.map (·.2)) Z)->Q (.bl b) H'
@[irreducible] def jk:Sp:=oY
theorem fO {vs:List V}{H:Hp}{Q:VK}{E:XK}:jk vs H Q E↔oY vs H Q E:=by
 delta jk
 exact Gn
section
theorem m5:aU ["web", "ring", "at", "place"] ["web", "ring"] (aG pX):=⟨rfl,rfl,rfl,by decide +kernel,rfl,by decide +kernel,by decide +kernel⟩
theorem yG (F:Fun K "is_ring" "is_ring" pX f fd)(B:Blt mg)(cTiedTimes:Cal P w K mg base 2 "tied_times" ["web", "one", "other"] gY):cy P w K mg base CX0 3 f fd ["web", "ring"] jk:=by
 refine F.ok m5 (λvs H Q E h =>?_) (λcdv A outer s H vs Q E hr h =>?_)
 ·obtain ⟨_,_,_,_,_,rfl,_⟩:=fO.mp h
  rfl
 obtain ⟨r,p,m,ts,Z,rfl,W,ep,l5,q⟩:=fO.mp h
 refine ⟨_,(ai (bh (PW.pt (jZ (aD cu (ay aI rfl B.b_len cB (aa (pv 1) ah rfl)) ak (aH _)) (jF (aD j0 (ay kA rfl B.b_len cB (aa (aR (iw (w:=w) rfl hr.hd) rfl B.b_set tR (aa (pv 1) ah rfl)) ah rfl)) (ay aI rfl B.b_len cB (aa (pv 1) ah rfl)) (aH _))))) (aq (aJ dU)) aL)
  (ai (bh (aD cu (ay aI rfl B.b_len cB (aa (pv 1) ah rfl)) ak (aH _)) (aq (aJ (fq w9 (aY cTiedTimes hr (by decide) rfl (aa (pv 0) (aa (aM sH (pv 1) ak (λ_ _=>rfl)) (aa (aM sH (pv 1) ak (λ_ _=>rfl)) ah rfl) rfl) rfl)) ak (aH _)))) aL)
  (ai (bR Ea rfl (uo rfl B.b_enumerate (aa (pv 1) ah rfl)) (aX rfl (ax (ao (i:=2) m5.nd rfl (Or.inl rfl)) (ax (ao (i:=3) m5.nd rfl (Or.inl rfl)) aP)))
   (aq (bh (aD cu (aY cTiedTimes hr (by decide) rfl (aa (pv 0) (aa (aM sH (pv 1) (aE cg (pv 2) ak) (λ_ _=>rfl)) (aa (pv 3) ah rfl) rfl) rfl)) ak (aH _)) (aq (aJ dU)) aL)) (λ_=>rfl))
  (aq (aJ dU))))),?_⟩
 have lz:(Z.map V.int).length=Z.length:=C6 _
 rcases ep with ep | ep
 ·refine ⟨_,rfl,p,_,rfl,.inl (SqL.of ep),rfl,_,rfl,?_⟩
  rw[lz]
  by_cases z0:Z.length=0
  ·rw[decide_eq_true (by rw[z0];rfl)]
   exact bC (bC (q false H (aB.refl _) ⟨λz=>(by cases z),λz=>absurd (Ff.mp z0) z.1⟩))
  rw[decide_eq_false (by intro z;injection z with z;lia)]
  have zn:Z≠[]:=λz=>z0 (by rw[z];rfl)
  refine cz ⟨_,rfl,p,Z,rfl,.inl (SqL.of ep),by lia,λa us ha mu nu lu =>?_⟩
  have ga:=ae ha (dv w a (us.map V.int))
  have sl:=qh nu mu
  refine ⟨a,us.map V.int,rfl,ag,by rw[C6];lia,?_⟩
  generalize upd H a (dv w a (us.map V.int))=H1 at ga
  refine ⟨_,rfl,p,_,rfl,.inl (SqL.of (ga _ _ ep)),rfl,_,rfl,?_⟩
  rw[lz,C6]
  by_cases nd:Z.Nodup
  case neg =>
   rw[decide_eq_false (by rw[gZ,sl];exact nd)]
   exact bC (q false _ ga ⟨λz=>(by cases z),λz=>absurd z.2.1 nd⟩)
  refine iT (gZ.mpr (sl.mpr nd)) ?_
  have ep1:=ga _ _ ep
  have W1:=W.same ga
  refine ⟨_,rfl,p,_,rfl,.inl (SqL.of ep1),rfl,_,rfl,cv (λz =>?_) λz =>?_⟩
  ·rw[lz,decide_eq_true_iff] at z
   injection z with z
   obtain ⟨x,y,rfl⟩:∃x y,Z=[x,y]:=by
    match Z,z with
    | [x,y],_=>exact ⟨x,y,rfl⟩
   refine ⟨_,rfl,_,rfl,.inl ⟨p,_,0,_,rfl,rfl,SqL.of ep1,rfl,_,rfl,.inl ⟨p,_,1,_,rfl,rfl,SqL.of ep1,rfl,bJ.mpr ⟨r,m,x,y,ts,rfl,W1,λH2 s2=>⟨_,_,rfl,rfl,?_⟩⟩⟩⟩⟩
   refine q _ _ (ga.trans s2) ?_
   rw[decide_eq_true_iff]
   constructor
   ·intro h
    exact ⟨zn,nd,λ_=>by show 2<=List.count (nrm x y) _;lia,λh=>absurd rfl h⟩
   ·intro h
    have:=h.2.2.1 rfl
    have:2<=(ts.map (·.2)).count (nrm x y):=this
    show (2:Int)<=_
    lia
  ·have n2:Z.length≠2:=λh=>z (by rw[lz,h];rfl)
   refine ⟨_,rfl,p,rfl,.inl ⟨⟨_,SqL.of ep1⟩,nZ (xs:=Z.map V.int) (λi σ H'=>(∃c2 c3,σ=[some (.ref r),some (.ref p),c2,c3])/\aB H1 H'/\∀k,k<i->0<(ts.map (·.2)).count (nrm (prv Z k) (Z.getD k 0))) ⟨⟨_,_,rfl⟩,aB.refl _,λk h=>absurd h (KG k)⟩ (λi σ H' _ h=>SqL.of (h.2.1 _ _ ep1)) ?_ ?_⟩⟩
   ·rintro i x σ H2 tp hx ht ⟨⟨c2,c3,rfl⟩,s2,al⟩
    obtain ⟨v,ev,rfl⟩:=eE hx
    have hi:=(Di.mp ev).1
    have g3:=ae ht (.tup [.int i,.int v])
    have s3:=s2.trans g3
    refine ⟨tp,_,rfl,SqT.of ag,rfl,_,_,rfl,_,_,rfl,rfl,?_⟩
    generalize upd H2 tp (.tup [.int i,.int v])=H3 at g3 s3
    refine ⟨_,rfl,_,rfl,_,rfl,_,_,rfl,rfl,.inl ⟨p,_,_,_,rfl,rfl,SqL.of (s3 _ _ ep1),mZ hi,_,rfl,bJ.mpr ⟨r,m,prv Z i,v,ts,rfl,W1.same s3,λH4 s4=>⟨rfl,_,rfl,cv (λz =>?_) λz =>?_⟩⟩⟩⟩
    ·have z:(ts.map (·.2)).count (nrm (prv Z i) v)=0:=by rw[decide_eq_true_iff] at z;injection z with z;lia
     refine q false _ (ga.trans (s3.trans s4)) ⟨λz=>(by cases z),λh =>?_⟩
     have:=h.2.2.2 n2 i hi
     rw[getD_at ev] at this
     lia
    ·refine ⟨⟨_,_,rfl⟩,s3.trans s4,λk hk =>?_⟩
     by_cases c:k=i
     ·subst c
      rw[getD_at ev]
      have:(ts.map (·.2)).count (nrm (prv Z k) v)≠0:=λh=>z (by rw[h];rfl)
      lia
     ·exact al k (by lia)
   ·rintro σ H2 ⟨⟨c2,c3,rfl⟩,s2,al⟩
    rw[lz] at al
    exact q true _ (ga.trans s2) ⟨λ_=>⟨zn,nd,λh=>absurd h n2,λ_=>al⟩,λ_=>rfl⟩
 ·refine ⟨_,rfl,p,_,rfl,.inr (SqT.of ep),rfl,_,rfl,?_⟩
  rw[lz]
  by_cases z0:Z.length=0
  ·rw[decide_eq_true (by rw[z0];rfl)]
   exact bC (bC (q false H (aB.refl _) ⟨λz=>(by cases z),λz=>absurd (Ff.mp z0) z.1⟩))
  rw[decide_eq_false (by intro z;injection z with z;lia)]
  have zn:Z≠[]:=λz=>z0 (by rw[z];rfl)
  refine cz ⟨_,rfl,p,Z,rfl,.inr (SqT.of ep),by lia,λa us ha mu nu lu =>?_⟩
  have ga:=ae ha (dv w a (us.map V.int))
  have sl:=qh nu mu
  refine ⟨a,us.map V.int,rfl,ag,by rw[C6];lia,?_⟩
  generalize upd H a (dv w a (us.map V.int))=H1 at ga
  refine ⟨_,rfl,p,_,rfl,.inr (SqT.of (ga _ _ ep)),rfl,_,rfl,?_⟩
  rw[lz,C6]
  by_cases nd:Z.Nodup
  case neg =>
   rw[decide_eq_false (by rw[gZ,sl];exact nd)]
   exact bC (q false _ ga ⟨λz=>(by cases z),λz=>absurd z.2.1 nd⟩)
  refine iT (gZ.mpr (sl.mpr nd)) ?_
  have ep1:=ga _ _ ep
  have W1:=W.same ga
  refine ⟨_,rfl,p,_,rfl,.inr (SqT.of ep1),rfl,_,rfl,cv (λz =>?_) λz =>?_⟩
  ·rw[lz,decide_eq_true_iff] at z
   injection z with z
   obtain ⟨x,y,rfl⟩:∃x y,Z=[x,y]:=by
    match Z,z with
    | [x,y],_=>exact ⟨x,y,rfl⟩
   refine ⟨_,rfl,_,rfl,.inr (.inl ⟨p,_,0,_,rfl,rfl,SqT.of ep1,rfl,_,rfl,.inr (.inl ⟨p,_,1,_,rfl,rfl,SqT.of ep1,rfl,bJ.mpr ⟨r,m,x,y,ts,rfl,W1,λH2 s2=>⟨_,_,rfl,rfl,?_⟩⟩⟩)⟩)⟩
   refine q _ _ (ga.trans s2) ?_
   rw[decide_eq_true_iff]
   constructor
   ·intro h
    exact ⟨zn,nd,λ_=>by show 2<=List.count (nrm x y) _;lia,λh=>absurd rfl h⟩
   ·intro h
    have:=h.2.2.1 rfl
    have:2<=(ts.map (·.2)).count (nrm x y):=this
    show (2:Int)<=_
    lia
  ·have n2:Z.length≠2:=λh=>z (by rw[lz,h];rfl)
   refine ⟨_,rfl,p,rfl,.inr ⟨⟨_,SqT.of ep1⟩,vC (xs:=Z.map V.int) (λi σ H'=>(∃c2 c3,σ=[some (.ref r),some (.ref p),c2,c3])/\aB H1 H'/\∀k,k<i->0<(ts.map (·.2)).count (nrm (prv Z k) (Z.getD k 0))) ⟨⟨_,_,rfl⟩,aB.refl _,λk h=>absurd h (KG k)⟩ (λi σ H' _ h=>SqT.of (h.2.1 _ _ ep1)) ?_ ?_⟩⟩
   ·rintro i x σ H2 tp hx ht ⟨⟨c2,c3,rfl⟩,s2,al⟩
    obtain ⟨v,ev,rfl⟩:=eE hx
    have hi:=(Di.mp ev).1
    have g3:=ae ht (.tup [.int i,.int v])
    have s3:=s2.trans g3
    refine ⟨tp,_,rfl,SqT.of ag,rfl,_,_,rfl,_,_,rfl,rfl,?_⟩
    generalize upd H2 tp (.tup [.int i,.int v])=H3 at g3 s3
    refine ⟨_,rfl,_,rfl,_,rfl,_,_,rfl,rfl,.inr (.inl ⟨p,_,_,_,rfl,rfl,SqT.of (s3 _ _ ep1),mZ hi,_,rfl,bJ.mpr ⟨r,m,prv Z i,v,ts,rfl,W1.same s3,λH4 s4=>⟨rfl,_,rfl,cv (λz =>?_) λz =>?_⟩⟩⟩)⟩
    ·have z:(ts.map (·.2)).count (nrm (prv Z i) v)=0:=by rw[decide_eq_true_iff] at z;injection z with z;lia
     refine q false _ (ga.trans (s3.trans s4)) ⟨λz=>(by cases z),λh =>?_⟩
     have:=h.2.2.2 n2 i hi
     rw[getD_at ev] at this
     lia
    ·refine ⟨⟨_,_,rfl⟩,s3.trans s4,λk hk =>?_⟩
     by_cases c:k=i
     ·subst c
      rw[getD_at ev]
      have:(ts.map (·.2)).count (nrm (prv Z k) v)≠0:=λh=>z (by rw[h];rfl)
      lia
     ·exact al k (by lia)
   ·rintro σ H2 ⟨⟨c2,c3,rfl⟩,s2,al⟩
    rw[lz] at al
    exact q true _ (ga.trans s2) ⟨λ_=>⟨zn,nd,λh=>absurd h n2,λ_=>al⟩,λ_=>rfl⟩
end
section
theorem yH:aU ["web", "one", "other"] ["web", "one", "other"] (aG pY):=⟨rfl,rfl,rfl,by decide +kernel,rfl,by decide +kernel,by decide +kernel⟩
theorem yI (F:Fun K "_law_times" "_law_times" pY f fd)(B:Blt mg):cy P w K mg base CX0 1 f fd ["web", "one", "other"] gY:=by
 refine F.ok yH (λvs H Q E h =>?_) (λcdv A outer s H vs Q E hr h =>?_)
 ·obtain ⟨_,_,_,_,_,rfl,_⟩:=bJ.mp h
  rfl
 obtain ⟨r,m,a,b,ts,rfl,W,q⟩:=bJ.mp h
 refine ⟨_,(aq (aJ (xX HS JQ (mq (hu8 hr)) (aM aV (pv 0) ak (λ_ _=>rfl)) (aa (aT (aa (ay (jH rfl) rfl B.b_min p7 (aa (pv 1) (aa (pv 2) ah rfl) rfl)) (aa (ay (gL rfl) rfl B.b_max mN (aa (pv 1) (aa (pv 2) ah rfl) rfl)) ah rfl) rfl)) ah rfl)))),?_⟩
 obtain ⟨t,e1,e2⟩:=W.at'
 refine ⟨_,rfl,r,_,1,_,rfl,rfl,SqT.of e1,rfl,⟨_,_,rfl,e2⟩,_,rfl,_,rfl,_,_,rfl,_,rfl,_,rfl,_,_,rfl,(by show 2<=Dm;decide),λx hx =>?_⟩
 have s1:=ae hx (.tup ((nrm a b).map V.int))
 exact ⟨t,x,ts,nrm a b,rfl,rfl,s1 _ _ e2,λu hu=>s1 _ _ (W.tup u hu),ag,q _ s1⟩
end
abbrev yJ:Sp:=λvs H Q _=>∃(r p:Addr) (m:Nat) (ts:LA) (Z:List Int),vs=[.ref r,.ref p]/\Wb H r m ts/\m<=200/\H p=some (.tup (Z.map V.int))/\Z.length<=200/\∀(b:Bool) H',aB H H'->(b=true↔IsL m (ts.map (·.2)) Z)->Q (.bl b) H'
@[irreducible] def uU:Sp:=yJ
theorem jU {vs:List V}{H:Hp}{Q:VK}{E:XK}:uU vs H Q E↔yJ vs H Q E:=by
 delta uU
 exact Gn
theorem uV {α:Type}{p:α -> Prop}[DecidablePred p](l:List α):(l.map λx=>decide (p x)).all id=decide (∀x∈l,p x):=by
 induction l with
 | nil=>simp
 | cons a t ih=>rw[DV,JU,ih];simp[Bool.decide_and]
section
theorem oZ:aU ["web", "ring", "k"] ["web", "ring"] (aG mJ):=⟨rfl,rfl,rfl,by decide +kernel,rfl,by decide +kernel,by decide +kernel⟩
theorem hX:(["place", "web"]:List Str).Nodup:=by decide +kernel
theorem wH (F:Fun K "_law_is_ring" "_law_is_ring" mJ f fd)(B:Blt mg)(cLTimes:Cal P w K mg base 1 "_law_times" ["web", "one", "other"] gY):cy P w K mg base CX0 2 f fd ["web", "ring"] uU:=by
 refine F.ok oZ (λvs H Q E h =>?_) (λcdv A outer s H vs Q E hr h =>?_)
 ·obtain ⟨_,_,_,_,_,rfl,_⟩:=jU.mp h
  rfl
 obtain ⟨r,p,m,ts,Z,rfl,W,m2,ep,l5,q⟩:=jU.mp h
 refine ⟨_,(ai (bh (PW.pt (jZ (aD cu (ay aI rfl B.b_len cB (aa (pv 1) ah rfl)) ak (aH _)) (jZ (aD j0 (ay kA rfl B.b_len cB (aa (aR (iw (w:=w) rfl hr.hd) rfl B.b_set tR (aa (pv 1) ah rfl)) ah rfl)) (ay aI rfl B.b_len cB (aa (pv 1) ah rfl)) (aH _)) (jF (jG (fV (ay (gf rfl) rfl B.b_all mM (aa (bY ["place", "web"] [none,some 0] rfl (fY (pv 1)) rfl (λ_ _ _ _ _=>(ao (i:=0) hX rfl (Or.inl rfl))) (λ_ _ _ _ _=>de) (λ_ _ _ _ _=>(lE uh iN ak (pv 0) (aM (dq (K:=K)) (pv 1) ak (λ_ _=>rfl))))) ah rfl)))))))) (aq (aJ dU)) aL)
  (ai (bh (aD iN (ay aI rfl B.b_len cB (aa (pv 1) ah rfl)) ak (aH _)) (aq (aJ (fq w9 (aY cLTimes hr (by decide) rfl (aa (pv 0) (aa (aM aV (pv 1) ak (λ_ _=>rfl)) (aa (aM aV (pv 1) (w5 sA ak) (λ_ _=>rfl)) ah rfl) rfl) rfl)) (ay aI rfl B.b_len cB (aa (pv 1) ah rfl)) (aH _)))) aL)
  (ai (bR Ea rfl (cM rfl B.b_range (aa (ay aI rfl B.b_len cB (aa (pv 1) ah rfl)) ah rfl)) (ao (i:=2) oZ.nd rfl (Or.inl rfl))
   (aq (bh (aD cu (aY cLTimes hr (by decide) rfl (aa (pv 0) (aa (aM aV (pv 1) (aE cg (pv 2) ak) (λ_ _=>rfl)) (aa (aM aV (pv 1) (pv 2) (λ_ _=>rfl)) ah rfl) rfl) rfl)) ak (aH _)) (aq (aJ dU)) aL)) (λ_=>rfl))
  (aq (aJ dU))))),?_⟩
 obtain ⟨t,e1,e2⟩:=W.at'
 have lz:(Z.map V.int).length=Z.length:=C6 _
 refine ⟨_,rfl,p,_,rfl,.inr (SqT.of ep),rfl,_,rfl,?_⟩
 rw[lz]
 by_cases z0:Z.length=0
 ·rw[decide_eq_true (by rw[z0];rfl)]
  exact bC (bC (q false H (aB.refl _) ⟨λz=>(by cases z),λz=>absurd (Ff.mp z0) z.1⟩))
 rw[decide_eq_false (by intro z;injection z with z;lia)]
 have zn:Z≠[]:=λz=>z0 (by rw[z];rfl)
 refine cz ⟨_,rfl,p,Z,rfl,.inr (SqT.of ep),by lia,λa us ha mu nu lu =>?_⟩
 have ga:=ae ha (dv w a (us.map V.int))
 have sl:=qh nu mu
 refine ⟨a,us.map V.int,rfl,ag,by rw[C6];lia,?_⟩
 generalize upd H a (dv w a (us.map V.int))=H1 at ga
 refine ⟨_,rfl,p,_,rfl,.inr (SqT.of (ga _ _ ep)),rfl,_,rfl,?_⟩
 rw[lz,C6]
 by_cases nd:Z.Nodup
 case neg =>
  rw[decide_eq_false (by rw[gZ,sl];exact nd)]
  exact bC (bC (q false _ ga ⟨λz=>(by cases z),λz=>absurd z.2.1 nd⟩))
 refine iT (gZ.mpr (sl.mpr nd)) ?_
 have ep1:=ga _ _ ep
 have W1:=W.same ga
 refine ⟨_,rfl,p,rfl,⟨_,SqT.of ep1⟩,dA (xs:=Z.map V.int) (λi ys H'=>H'=H1/\ys=((Z.take i).map λv=>decide (0<=v/\v<(m:Int))).map V.bl) ⟨rfl,rfl⟩ (by rw[C6];exact small (by lia)) (λi ys H' _ z=>by rw[z.1];exact SqT.of ep1) ?_ ?_⟩
 ·rintro i x ys H3 hx hy ⟨eH,rfl⟩ R1 R0 r1 r0
  obtain ⟨v,ev,rfl⟩:=eE hx
  refine bC ⟨_,rfl,_,_,rfl,rfl,_,rfl,cv (λz =>?_) λz =>?_⟩
  ·refine ⟨_,rfl,r,_,0,_,rfl,rfl,SqT.of (by rw[eH];exact ga _ _ e1),rfl,_,_,rfl,rfl,?_⟩
   refine r1 _ _ ⟨eH,?_⟩
   rw[take_snoc (f:=λv:Int=>decide (0<=v/\v<(m:Int))) ev,Dj]
   have z':(0:Int)<=v:=of_decide_eq_true z
   show _=_++[V.bl (decide (0<=v/\v<(m:Int)))]
   rw[show decide (0<=v/\v<(m:Int))=decide (v<(m:Int)) by simp[z']]
  ·refine r1 _ _ ⟨eH,?_⟩
   rw[take_snoc (f:=λv:Int=>decide (0<=v/\v<(m:Int))) ev,Dj]
   have z':¬ (0:Int)<=v:=λh=>z (decide_eq_true h)
   show _=_++[V.bl (decide (0<=v/\v<(m:Int)))]
   rw[show decide (0<=v/\v<(m:Int))=false by simp[z']]
 rintro ys H3 hy ⟨eH,rfl⟩ l hl
 rw[eH] at hl ⊢
 rw[C6,Dr (Dd _)]
 have g4:=ae hl (.lst ((Z.map λv=>decide (0<=v/\v<(m:Int))).map V.bl))
 refine ⟨l,_,rfl,SqL.of ag,_,rfl,?_⟩
 rw[uV]
 generalize upd H1 l (.lst ((Z.map λv=>decide (0<=v/\v<(m:Int))).map V.bl))=H4 at g4
 have s4:=ga.trans g4
 by_cases rg:∀v∈Z,0<=v/\v<(m:Int)
 case neg =>
  rw[decide_eq_false rg]
  exact bC (q false _ s4 ⟨λz=>(by cases z),λz=>absurd z.2.2.1 rg⟩)
 rw[decide_eq_true rg]
 refine cz ?_
 have ep4:=g4 _ _ ep1
 have W4:=W1.same g4
 refine ⟨_,rfl,p,_,rfl,.inr (SqT.of ep4),_,_,rfl,rfl,_,rfl,?_⟩
 rw[lz]
 by_cases h3:Z.length<3
 ·rw[decide_eq_true (show (Z.length:Int)<3 by lia)]
  have h0:0<Z.length:=by lia
  have a0:atI (Z.map V.int) 0=some (.int (Z.getD 0 0)):=cO (j:=0) (by rw[Dq,Du,Dc h0];rfl)
  have a1:atI (Z.map V.int) (-1)=some (.int (prv Z 0)):=mZ (k:=0) h0
  refine bC ⟨_,rfl,_,rfl,p,_,0,_,rfl,rfl,SqT.of ep4,a0,_,rfl,1,rfl,p,_,(-1:Int),_,rfl,rfl,SqT.of ep4,a1,bJ.mpr ⟨r,m,_,_,ts,rfl,W4,λH5 s5 =>?_⟩⟩
  refine ⟨_,rfl,p,_,rfl,.inr (SqT.of (s5 _ _ ep4)),_,_,rfl,rfl,q _ _ (s4.trans s5) ?_⟩
  rw[decide_eq_true_iff,lz]
  constructor
  ·intro h
   exact ⟨zn,nd,rg,λ_=>by show Z.length<=List.count _ _;lia,λh=>absurd h3 h⟩
  ·intro h
   have:=h.2.2.2.1 h3
   show (Z.length:Int)<=_
   lia
 ·rw[decide_eq_false (show ¬ (Z.length:Int)<3 by lia)]
  refine cz ⟨_,rfl,p,_,rfl,.inr (SqT.of ep4),_,rfl,by lia,by lia,?_⟩
  rw[lz]
  let W0:Nat->St->Hp->Prop:=λi σ H'=>(∃c2,σ=[some (.ref r),some (.ref p),c2])/\aB H4 H'/\∀k,k<i->0<(ts.map (·.2)).count (nrm (prv Z k) (Z.getD k 0))
  refine cN (n:=Z.length) W0 ⟨⟨_,rfl⟩,aB.refl _,λk h=>absurd h (KG k)⟩ ?_ ?_
  ·rintro i σ H5 hi ⟨⟨c2,rfl⟩,s5,al⟩
   have ey:Z[i]? = some (Z[i]'hi):=Dc hi
   have ep5:=s5 _ _ ep4
   have e0:(0:Int)+(i:Int)-1=(i:Int)-1:=by lia
   refine ⟨_,rfl,_,rfl,_,rfl,_,_,rfl,rfl,p,_,_,_,rfl,rfl,SqT.of ep5,by rw[e0];exact mZ hi,_,rfl,_,rfl,p,_,_,_,rfl,rfl,SqT.of ep5,by rw[Int.zero_add];exact cO (by rw[Dq,ey];rfl),bJ.mpr ⟨r,m,_,_,ts,rfl,W4.same s5,λH6 s6=>⟨rfl,_,rfl,cv (λz =>?_) λz =>?_⟩⟩⟩
   ·have z:(ts.map (·.2)).count (nrm (prv Z i) (Z[i]'hi))=0:=by rw[decide_eq_true_iff] at z;injection z with z;lia
    refine q false _ (s4.trans (s5.trans s6)) ⟨λz=>(by cases z),λh =>?_⟩
    have:=h.2.2.2.2 h3 i hi
    rw[getD_at ey] at this
    lia
   ·refine ⟨⟨_,rfl⟩,s5.trans s6,λk hk =>?_⟩
    by_cases c:k=i
    ·subst c
     rw[getD_at ey]
     have:(ts.map (·.2)).count (nrm (prv Z k) (Z[k]'hi))≠0:=λh=>z (by rw[h];rfl)
     lia
    ·exact al k (by lia)
  ·rintro σ H5 ⟨⟨c2,rfl⟩,s5,al⟩
   exact q true _ (s4.trans s5) ⟨λ_=>⟨zn,nd,rg,λh=>absurd h h3,λ_=>al⟩,λ_=>rfl⟩
end
def TT (H:Hp)(us:LA):Prop:=∀u∈us,H u.1=some (.tup (u.2.map V.int))
theorem TT.same {H H':Hp}{us:LA}(h:TT H us)(s:aB H H'):TT H' us:=λu hu=>s _ _ (h u hu)
theorem TT.snoc {H:Hp}{us:LA}(h:TT H us){a:Addr}{Z:List Int}(e:H a=some (.tup (Z.map V.int))):TT H (us++[(a,Z)]):=λu hu=>by
 rcases Dh.mp hu with z | z
 ·exact h u z
 ·rw[DD] at z;subst z;exact e
theorem TT.put {H:Hp}{us:LA}(h:TT H us){l:Addr}{xs ys:List V}(e:H l=some (.lst xs)):TT (upd H l (.lst ys)) us:=λu hu=>by
 rw[az (cF (h u hu) e (by intro z;cases z))];exact h u hu
theorem yK {C D:List (Int×V)}(h:mp C=mp D):C=D:=by
 induction C generalizing D with
 | nil=>cases D with
  | nil=>rfl
  | cons a t=>cases h
 | cons a t ih=>cases D with
  | nil=>cases h
  | cons b r =>
   have h1:=(Ls h).1
   have h2:=ih (Ls h).2
   injection h1 with h3 h4
   injection h3 with h3
   rw[h2,Jr h3 h4]
def kys (C:List (Int×V)):List Int:=C.map (·.1)
theorem kW (C:List (Int×V)):(mp C).map (·.1)=(kys C).map Sum.inl:=by unfold mp kys;rw[Fo,Fo];rfl
theorem kX {C:List (Int×V)}{e:Int×V}(h:e∈C):e.1∈kys C:=E3 (f:=(·.1)) h
theorem yL (D:List (Int×V))(y:Int)(v:V):∃D',putK (mp D) (Sum.inl y) v=mp D'/\D'.length<=D.length+1/\(∀x∈D',x∈D\/x=(y,v))/\(∀k∈kys D,k∈kys D')/\y∈kys D':=by
 by_cases h:y∈D.map (·.1)
 ·refine ⟨D.map λe=>if e.1=y then (e.1,v) else e,?_,by rw[C6];lia,λx hx =>?_,λk hk =>?_,?_⟩
  ·unfold putK
   have e:((mp D).any λkv=>decide (kv.1=Sum.inl y))=true:=by rw[eV,A6,decide_eq_true h]
   rw[if_pos e]
   unfold mp
   rw[Fo,Fo]
   refine Lf λe he =>?_
   show (if (Sum.inl e.1:Key)=Sum.inl y then ((Sum.inl e.1:Key),v) else (Sum.inl e.1,e.2))=_
   by_cases c:e.1=y
   ·rw[if_pos (by rw[c])]
    simp[c]
   ·rw[if_neg (by intro z;injection z with z;exact c z)]
    simp[c]
  ·obtain ⟨e,he,rfl⟩:=DR.mp hx
   by_cases c:e.1=y
   ·rw[if_pos c,c];exact .inr rfl
   ·rw[if_neg c];exact .inl he
  ·obtain ⟨e,he,rfl⟩:=DR.mp hk
   refine DR.mpr ⟨_,E3 he,?_⟩
   by_cases c:e.1=y <;> simp[c]
  ·obtain ⟨e,he,rfl⟩:=DR.mp h
   refine DR.mpr ⟨_,E3 he,?_⟩
   simp
 ·refine ⟨D++[(y,v)],yF h v,by rw[C8];exact Dd _,λx hx =>?_,λk hk =>?_,?_⟩
  ·rcases Dh.mp hx with z | z
   ·exact .inl z
   ·exact .inr (by simpa using z)
  ·unfold kys at *;rw[Dj];exact DM _ hk
  ·unfold kys;rw[Dj];exact DE _ (by simp)
structure NF (H0 H:Hp)(n:Addr)(m:Nat)(C:List (Int×V))(f:Int->Int->Option Int)(z:Nat):Prop where
 top:H n=some (.dK (mp C))
 n0:H0 n=none
 vn:(C.map (·.2)).Nodup
 kn:(kys C).Nodup
 out:∀x,x∉kys C->∀y,f x y=none
 all:∀e∈C,(0<=e.1/\e.1<(m:Int))/\∃(d:Addr) (D:List (Int×V)),e.2 = .ref d/\H0 d=none/\H d=some (.dK (mp D))/\D.length<=z/\(∀y,bG (mp D) (Sum.inl y)=(f e.1 y).map V.int)/\∀y∈kys D,0<=y/\y<(m:Int)
def put2 (f:Int->Int->Option Int)(x y v:Int):Int->Int->Option Int:=λa b=>if a=x/\b=y then some v else f a b
theorem qi {D:List (Int×V)}{g:Int->Option Int}(h:∀y,bG (mp D) (Sum.inl y)=(g y).map V.int)(y:Int):y∈kys D↔(g y).isSome=true:=by
 have:=A6 y D
 rw[h y,GJ] at this
 rw[this]
 exact decide_eq_true_iff.symm
section
variable  {H0 H H':Hp}{n p d:Addr}{m z z':Nat}{C D:List (Int×V)}{f:Int->Int->Option Int}{x y:Int}
theorem NF.ne (N:NF H0 H n m C f z){e:Int×V}(he:e∈C)(hd:e.2 = .ref d):d≠n:=by
 intro h
 obtain ⟨_,d',D,e2,_,hD,_,al,_⟩:=N.all e he
 rw[hd] at e2;cases e2
 subst h
 rw[N.top] at hD
 have:=yK (HO.dK.inj (DW hD))
 subst this
 have h1:=al e.1
 rcases fN e.1 C with ⟨h2,_⟩ | ⟨w,hw,ew⟩
 ·exact h2 (E3 (f:=(·.1)) he)
 ·rw[ew] at h1
  obtain ⟨_,d2,_,e3,_⟩:=N.all _ hw
  dsimp only at e3
  subst e3
  cases q:f e.1 e.1 with
  | none=>rw[q] at h1;cases h1
  | some c=>rw[q] at h1;cases h1
theorem NF.same (N:NF H0 H n m C f z)(s:aB H H'):NF H0 H' n m C f z :=
 ⟨s _ _ N.top,N.n0,N.vn,N.kn,N.out,λe he=>by
  obtain ⟨r,d,D,e2,h0,hD,l,al⟩:=N.all e he
  exact ⟨r,d,D,e2,h0,s _ _ hD,l,al⟩⟩
theorem NF.mono (N:NF H0 H n m C f z)(hz:z<=z'):NF H0 H n m C f z' :=
 ⟨N.top,N.n0,N.vn,N.kn,N.out,λe he=>by
  obtain ⟨r,d,D,e2,h0,hD,l,al⟩:=N.all e he
  exact ⟨r,d,D,e2,h0,hD,DU l hz,al⟩⟩
theorem NF.get (N:NF H0 H n m C f z)(hx:x∈kys C):∃d,bG (mp C) (Sum.inl x)=some (.ref d)/\(x,V.ref d)∈C:=by
 obtain ⟨v,hv,e⟩:=yE hx
 obtain ⟨_,d,D,e2,_⟩:=N.all _ hv
 dsimp only at e2
 subst e2
 exact ⟨d,e,hv⟩
theorem NF.at_ (N:NF H0 H n m C f z)(hv:bG (mp C) (Sum.inl x)=some (.ref d)):(x,V.ref d)∈C:=by
 rcases fN x C with ⟨_,w⟩ | ⟨w,hw,ew⟩
 ·rw[hv] at w;cases w
 ·rw[hv] at ew;cases ew;exact hw
theorem NF.new (N:NF H0 H n m C f z)(hp:H p=some (.dK []))(hp0:H0 p=none)(pn:p≠n)(pC:V.ref p∉C.map (·.2))(hk:x∉kys C)(hx:0<=x/\x<(m:Int)):NF H0 (upd H n (.dK (mp (C++[(x,.ref p)])))) n m (C++[(x,.ref p)]) f z :=
 ⟨ag,N.n0,by
  rw[Dj]
  exact FA.mpr ⟨N.vn,by simp,λa ha b hb e=>pC (by rw[<- (show b=V.ref p by simpa using hb), <- e];exact ha)⟩,by
  unfold kys
  rw[Dj]
  exact mX N.kn hk,λy hy=>N.out y λh=>hy (by unfold kys at *;rw[Dj];exact DM _ h),λe he=>by
  rcases Dh.mp he with h | h
  ·obtain ⟨r,d,D,e2,h0,hD,l,al⟩:=N.all e h
   exact ⟨r,d,D,e2,h0,by rw[az (N.ne h e2)];exact hD,l,al⟩
  ·have:e=(x,.ref p):=by simpa using h
   subst this
   exact ⟨hx,p,[],rfl,hp0,by rw[az pn];exact hp,D5 _,λy=>by rw[N.out x hk y];rfl,λy hy=>by cases hy⟩⟩
theorem NF.put (N:NF H0 H n m C f z)(hin:(x,V.ref d)∈C)(hd:H d=some (.dK (mp D))){D':List (Int×V)}{v:Int}(e:putK (mp D) (Sum.inl y) (.int v)=mp D')(l':D'.length<=z')(hz:z<=z')(rk:∀k∈kys D',0<=k/\k<(m:Int)):NF H0 (upd H d (.dK (mp D'))) n m C (put2 f x y v) z':=by
 have dn:=N.ne hin rfl
 refine ⟨by rw[az (EB dn)];exact N.top,N.n0,N.vn,N.kn,λa ha b =>?_,λe' he =>?_⟩
 ·unfold put2
  rw[if_neg (show ¬ (a=x/\b=y) from λq=>ha (by rw[q.1];exact kX hin))]
  exact N.out a ha b
 ·obtain ⟨r,d2,D2,e2,h0,hD,l,al,rg⟩:=N.all e' he
  by_cases c:d2=d
  ·subst c
   have ex:e'.1=x:=by
    obtain ⟨i,hi⟩:=Hz he
    obtain ⟨j,hj⟩:=Hz hin
    have a1:(C.map (·.2))[i]? = some (.ref d2):=by rw[Dq,hi, <- e2];rfl
    have a2:(C.map (·.2))[j]? = some (.ref d2):=by rw[Dq,hj];rfl
    obtain ⟨i1,f1⟩:=Di.mp a1
    obtain ⟨j1,f2⟩:=Di.mp a2
    have:=(J9 N.vn).mp (f1.trans f2.symm)
    subst this
    rw[hi] at hj
    cases hj;rfl
   rw[hd] at hD
   have:=yK (HO.dK.inj (DW hD))
   subst this
   refine ⟨r,d2,D',e2,h0,ag,l',λb =>?_,rk⟩
   rw[<- e,xY,al b]
   unfold put2
   rw[ex]
   by_cases cb:b=y
   ·subst cb
    rw[if_pos rfl,if_pos ⟨rfl,rfl⟩];rfl
   ·rw[if_neg (by intro q;injection q with q;exact cb q),if_neg λq=>cb q.2]
  ·refine ⟨r,d2,D2,e2,h0,by rw[az c];exact hD,DU l hz,λb =>?_,rg⟩
   rw[al b]
   unfold put2
   rw[if_neg (show ¬ (e'.1=x/\b=y) from λq=>c (?_:d2=d))]
   have k1:=N.kn
   have:e'=(x,V.ref d):=by
    obtain ⟨i,hi⟩:=Hz he
    obtain ⟨j,hj⟩:=Hz hin
    have a1:(kys C)[i]? = some x:=by unfold kys;rw[Dq,hi, <- q.1];rfl
    have a2:(kys C)[j]? = some x:=by unfold kys;rw[Dq,hj];rfl
    obtain ⟨i1,f1⟩:=Di.mp a1
    obtain ⟨j1,f2⟩:=Di.mp a2
    have:=(J9 k1).mp (f1.trans f2.symm)
    subst this
    rw[hi] at hj
    exact DW hj
   rw[this] at e2
   cases e2;rfl
theorem NF.CZ {σ:St}{k:Nat}(N:NF H0 H n m C f z)(s:aB H0 H)(lz:z<=1000)(hv:bG (mp C) (Sum.inl x)=some (.ref d))(hy:0<=y/\y<(m:Int))(σk:σ[k]? = some (some (.int y))){Q:Hp->Prop}
  (h:∀H',NF H0 H' n m C (put2 f x y ((f x y).getD 0)) (z+1)->aB H0 H'->(∀b xs,H b=some (.lst xs)->H' b=some (.lst xs))->Q H') :
  ∃a,V.ref d = .ref a/\IsD H a/\∃v,σ[k]? = some (some v)/\∃kvs q,H a=some (.dK kvs)/\v=kV q/\(∀v,bG kvs q=some v->Q H)/\(bG kvs q=none->kvs.length<Dm/\Q (upd H a (.dK (putK kvs q (.int 0))))):=by
 have hin:=N.at_ hv
 obtain ⟨r,d',D,e2,h0,hD,l,al,rg⟩:=N.all _ hin
 cases e2
 refine ⟨d,rfl,.inl ⟨_,.inl hD⟩,_,σk,_,Sum.inl y,hD,rfl,λv hv2 =>?_,λhn=>⟨by rw[tW];exact qg (by lia),?_⟩⟩
 ·have e:put2 f x y ((f x y).getD 0)=f:=by
   funext a b
   unfold put2
   by_cases c:a=x/\b=y
   ·rw[if_pos c,c.1,c.2]
    rw[al y] at hv2
    cases q:f x y with
    | none=>rw[show f (x,V.ref d).1 y=none from q] at hv2;cases hv2
    | some w=>rfl
   ·rw[if_neg c]
  refine h H ?_ s λ_ _ h=>h
  rw[e]
  exact N.mono (GQ z)
 ·obtain ⟨D',e,l',sub,kk,yk⟩:=yL D y (.int 0)
  have f0:(f x y).getD 0=0:=by
   rw[al y] at hn
   cases q:f x y with
   | none=>rfl
   | some w=>rw[show f (x,V.ref d).1 y=some w from q] at hn;cases hn
  rw[f0] at h
  rw[e]
  refine h _ (N.put hin hD e (DU l' (by lia)) (GQ z) λk hk =>?_) (aB.cV s h0 _) λb xs hb=>by rw[az (cF hb hD (by intro z;cases z))];exact hb
  obtain ⟨e',he',rfl⟩:=DR.mp hk
  rcases sub e' he' with c | c
  ·exact rg _ (kX c)
  ·rw[c];exact hy
theorem NF.C0 {σ:St}{i j k:Nat}(N:NF H0 H n m C f z)(s:aB H0 H)(lc:C.length<=1000)(lz:z<=1000)(hx:0<=x/\x<(m:Int))(hy:0<=y/\y<(m:Int))(σi:σ[i]? = some (some (.ref n)))(σj:σ[j]? = some (some (.int x)))(σk:σ[k]? = some (some (.int y))){Q:Hp->Prop}
  (h:∀C' H',NF H0 H' n m C' (put2 f x y ((f x y).getD 0)) (z+1)->C'.length<=C.length+1->(∀v,v∈kys C'↔v∈kys C\/v=x)->aB H0 H'->(∀b xs,H b=some (.lst xs)->H' b=some (.lst xs))->Q H') :
  tP (tP (wR i) (wR j) xZ) (wR k) (tC (.int 0)) σ H (λ_ H'=>Q H'):=by
 refine ⟨_,σi,n,rfl,.inl ⟨_,.inl N.top⟩,_,σj,λp hp =>?_⟩
 have g1:=ae hp (.dK [])
 have e1:upd H p (.dK []) p=some (.dK []):=ag
 have pn:p≠n:=EB (aA N.top hp)
 have pC:V.ref p∉C.map (·.2):=λhm=>by
  obtain ⟨e,he,ee⟩:=DR.mp hm
  obtain ⟨_,d,D,e2,_,hD,_⟩:=N.all e he
  rw[ee] at e2
  cases e2
  rw[hp] at hD;cases hD
 have N1:=N.same g1
 have s1:=s.trans g1
 have hp0:=s.free hp
 have ls1:∀b xs,H b=some (.lst xs)->upd H p (.dK []) b=some (.lst xs):=λb xs h=>g1 _ _ h
 show ∃kvs q,upd H p (.dK []) n=some (.dK kvs)/\V.int x=kV q/\_/\_
 generalize upd H p (.dK [])=H1 at *
 refine ⟨_,Sum.inl x,N1.top,rfl,λv hv =>?_,λhn=>⟨by rw[tW];exact qg (by lia),?_⟩⟩
 ·rcases fN x C with ⟨_,w⟩ | ⟨w,hw,ew⟩
  ·rw[hv] at w;cases w
  rw[hv] at ew
  cases ew
  obtain ⟨_,d,D,e2,_⟩:=N1.all _ hw
  dsimp only at e2
  subst e2
  exact N1.CZ s1 lz hv hy σk λH' a dd f=>h C H' a (GQ _) (λv=>⟨.inl,λq=>q.elim id λq=>q ▸ kX hw⟩) dd λb xs hb=>f _ _ (ls1 _ _ hb)
 ·have hnot:x∉C.map (·.1):=by
   rcases fN x C with ⟨a,_⟩ | ⟨w,_,ew⟩
   ·exact a
   ·rw[hn] at ew;cases ew
  rw[yF hnot]
  have N2:=N1.new e1 hp0 pn pC hnot hx
  have s2:=aB.cV s1 N.n0 (.dK (mp (C++[(x,.ref p)])))
  have ls2:∀b xs,H1 b=some (.lst xs)->upd H1 n (.dK (mp (C++[(x,.ref p)]))) b=some (.lst xs):=λb xs hb=>by rw[az (cF hb N1.top (by intro z;cases z))];exact hb
  have hv:bG (mp (C++[(x,V.ref p)])) (Sum.inl x)=some (.ref p):=by
   rcases fN x (C++[(x,V.ref p)]) with ⟨a,_⟩ | ⟨w,hw,ew⟩
   ·exact absurd (by rw[Dj];exact DE _ (by simp)) a
   ·rcases Dh.mp hw with c | c
    ·exact absurd (E3 (f:=(·.1)) c) hnot
    ·have:w = .ref p:=by simpa using c
     rw[this] at ew;exact ew
  exact N2.CZ s2 lz hv hy σk λH' a dd f=>h _ H' a (by rw[C8];exact Dd _) (λv=>by unfold kys;rw[Dj,Dh];simp) dd λb xs hb=>f _ _ (ls2 _ _ (ls1 _ _ hb))
end
def nrF (E:List (List Int))(x y:Int):Option Int:=if nrm x y∈E then some (if x<=y then (E.count (nrm x y):Int) else 0) else none
theorem yM {E:List (List Int)}{a b:Int}(ab:a<=b):put2 (put2 (put2 (nrF E) a b ((nrF E a b).getD 0)) b a (((put2 (nrF E) a b ((nrF E a b).getD 0)) b a).getD 0)) a b (((nrF E a b).getD 0)+1)=nrF (E++[[a,b]]):=by
 have e0:nrm a b=[a,b]:=cI ab
 have e1:nrm b a=[a,b]:=by rw[bN,e0]
 have inj:∀{x y:Int},nrm x y=[a,b]->(x=a/\y=b)\/(x=b/\y=a):=λ{x y} h=>by
  rcases Ju x y with c | c
  ·rw[cI c] at h
   injection h with h1 h2
   injection h2 with h2
   exact .inl ⟨h1,h2⟩
  ·rw[bN,cI c] at h
   injection h with h1 h2
   injection h2 with h2
   exact .inr ⟨h2,h1⟩
 funext x y
 by_cases c1:x=a/\y=b
 ·obtain ⟨rfl,rfl⟩:=c1
  unfold put2
  rw[if_pos ⟨rfl,rfl⟩]
  unfold nrF
  rw[e0,if_pos (DE _ (by simp)),if_pos ab,JR]
  by_cases h:[x,y]∈E
  ·rw[if_pos h,if_pos ab]
   simp
  ·rw[if_neg h,G1 h]
   simp[ab]
 ·by_cases c2:x=b/\y=a
  ·obtain ⟨rfl,rfl⟩:=c2
   have nab:¬ x<=y:=λh=>c1 ⟨by lia,by lia⟩
   unfold put2
   rw[if_neg c1,if_pos ⟨rfl,rfl⟩]
   rw[if_neg c1]
   unfold nrF
   rw[e1,if_pos (DE _ (by simp))]
   by_cases h:[y,x]∈E
   ·rw[if_pos h];simp[nab]
   ·rw[if_neg h];simp[nab]
  ·have ne:nrm x y≠[a,b]:=λh=>(inj h).elim c1 c2
   unfold put2
   rw[if_neg c1,if_neg c2,if_neg c1]
   unfold nrF
   by_cases h:nrm x y∈E
   ·rw[if_pos h,if_pos (DM _ h),JR,G1 (show nrm x y∉[[a,b]] by simpa using ne)]
    simp
   ·rw[if_neg h,if_neg (by rw[Dh];exact λq=>q.elim h λq=>ne (by simpa using q))]
structure Nr (H0 H:Hp)(n:Addr)(m:Nat)(C:List (Int×V))(f:Int->Int->Option Int):Prop where
 top:Rd H n (.dK (mp C))
 n0:H0 n=none
 clo:∀x y,(f x y).isSome=true->x∈kys C/\y∈kys C
 all:∀e∈C,(0<=e.1/\e.1<(m:Int))/\∃(d:Addr) (D:List (Int×V)),e.2 = .ref d/\H0 d=none/\Rd H d (.dK (mp D))/\D.length<=800/\∀y,bG (mp D) (Sum.inl y)=(f e.1 y).map V.int
structure Fr (H H':Hp):Prop where
 st:∀b o,H b=some o->(∀k,o ≠ .dK k)->H' b=some o
 rd:∀b k,Rd H b (.dK k)->Rd H' b (.dK k)
theorem Fr.refl (H:Hp):Fr H H:=⟨λ_ _ h _=>h,λ_ _ h=>h⟩
theorem _root_.L2.aB.fr {H H':Hp}(s:aB H H'):Fr H H':=⟨λb o h _=>s b o h,λb k h=>h.elim (λh =>.inl (s _ _ h)) λ⟨o,h⟩ =>.inr ⟨o,s _ _ h⟩⟩
theorem Fr.lst {H H':Hp}(f:Fr H H'){b:Addr}{xs:List V}(h:H b=some (.lst xs)):H' b=some (.lst xs):=f.st _ _ h (by intro k z;cases z)
theorem Fr.tup {H H':Hp}(f:Fr H H'){b:Addr}{xs:List V}(h:H b=some (.tup xs)):H' b=some (.tup xs):=f.st _ _ h (by intro k z;cases z)
theorem Fr.tt {H H':Hp}(f:Fr H H'){us:LA}(h:TT H us):TT H' us:=λu hu=>f.tup (h u hu)
theorem Fr.fz {H H':Hp}(f:Fr H H'){b:Addr}{ob:Obj}{u:HO}(h:H b=some (.frz ob u)):H' b=some (.frz ob u):=f.st _ _ h (by intro k z;cases z)
theorem Nr.fr {H0 H H':Hp}{n:Addr}{m:Nat}{C:List (Int×V)}{g:Int->Int->Option Int}(N:Nr H0 H n m C g)(f:Fr H H'):Nr H0 H' n m C g :=
 ⟨f.rd _ _ N.top,N.n0,N.clo,λe he=>by
  obtain ⟨r,d,D,e2,h0,hD,l,al⟩:=N.all e he
  exact ⟨r,d,D,e2,h0,f.rd _ _ hD,l,al⟩⟩
theorem Nr.lst {H0 H:Hp}{n:Addr}{m:Nat}{C:List (Int×V)}{g:Int->Int->Option Int}(N:Nr H0 H n m C g){l:Addr}{xs ys:List V}(h:H l=some (.lst xs)):Nr H0 (upd H l (.lst ys)) n m C g:=by
 have rd:∀b k,Rd H b (.dK k)->Rd (upd H l (.lst ys)) b (.dK k):=λb k r=>r.elim (λq =>.inl (by rw[az (cF q h (by intro z;cases z))];exact q)) λ⟨o,q⟩ =>.inr ⟨o,by rw[az (cF q h (by intro z;cases z))];exact q⟩
 refine ⟨rd _ _ N.top,N.n0,N.clo,λe he =>?_⟩
 obtain ⟨r,d,D,e2,h0,hD,l,al⟩:=N.all e he
 exact ⟨r,d,D,e2,h0,rd _ _ hD,l,al⟩
theorem NF.nr {H0 H:Hp}{n:Addr}{m z:Nat}{C:List (Int×V)}{f:Int->Int->Option Int}(N:NF H0 H n m C f z)(hz:z<=800)(cl:∀x y,(f x y).isSome=true->y∈kys C):Nr H0 H n m C f :=
 ⟨.inl N.top,N.n0,λx y h=>⟨FR λq=>(by rw[N.out x q y] at h;cases h),cl x y h⟩,λe he=>by
  obtain ⟨r,d,D,e2,h0,hD,l,al,_⟩:=N.all e he
  exact ⟨r,d,D,e2,h0,.inl hD,DU l hz,al⟩⟩
theorem Ax {H0 H:Hp}{d:Addr}{kvs:List (Key×V)}{ks:List Int}{R:It->Hp->Prop}(r:Rd H d (.dK kvs))(s:aB H0 H)(h0:H0 d=none)(h:∀ob H',H' d=some (.frz ob (.dK kvs))->Fr H H'->aB H0 H'->R (Itd d ob kvs ks) H') :
  DSt H d kvs ks R:=by
 rcases r with r | ⟨ob,r⟩
 ·refine .inl ⟨r,λob=>h ob _ ag ⟨λb o e n =>?_,λb k e =>?_⟩ (aB.cV s h0 _)⟩
  ·rw[az (cF e r (n _))];exact e
  ·by_cases c:b=d
   ·subst c
    rcases e with e | ⟨o,e⟩
    ·rw[r] at e;cases e;exact .inr ⟨ob,ag⟩
    ·rw[r] at e;cases e
   ·rcases e with e | ⟨o,e⟩
    ·exact .inl (by rw[az c];exact e)
    ·exact .inr ⟨o,by rw[az c];exact e⟩
 ·exact .inr ⟨ob,r,h ob H r (Fr.refl _) s⟩
theorem Nr.get {H0 H:Hp}{n:Addr}{m:Nat}{C:List (Int×V)}{f:Int->Int->Option Int}(N:Nr H0 H n m C f){x:Int}(hx:x∈kys C):(0<=x/\x<(m:Int))/\∃(d:Addr) (D:List (Int×V)),bG (mp C) (Sum.inl x)=some (.ref d)/\H0 d=none/\Rd H d (.dK (mp D))/\D.length<=800/\∀y,bG (mp D) (Sum.inl y)=(f x y).map V.int:=by
 obtain ⟨v,hv,e⟩:=yE hx
 obtain ⟨r,d,D,e2,h⟩:=N.all _ hv
 dsimp only at e2
 subst e2
 exact ⟨r,d,D,e,h⟩
theorem kY {H:Hp}{d:Addr}{D:List (Int×V)}(r:Rd H d (.dK (mp D)))(y:Int):fJ H d (.int y) (bG (mp D) (Sum.inl y)) :=.inl ⟨_,Sum.inl y,r,rfl,rfl⟩
theorem Nr.dg {H0 H:Hp}{n:Addr}{m:Nat}{C:List (Int×V)}{f:Int->Int->Option Int}(N:Nr H0 H n m C f){x:Int}{v:V}(h:bG (mp C) (Sum.inl x)=some v):fJ H n (.int x) (some v):=by rw[<- h];exact kY N.top x
def tl (H:Hp):V->Nat
 | .ref a=>match H a with
  | some (.tup ys)=>ys.length
  | _=>0
 | _=>0
def mu (m:Nat)(H:Hp)(p:Addr):Nat:=match H p with
 | some (.lst xs)=>(xs.map λx=>801 ^ (m+1-tl H x)).sum
 | _=>0
def wts (m:Nat)(us:LA):Nat:=(us.map λu=>801 ^ (m+1-u.2.length)).sum
theorem A7 {m:Nat}{H:Hp}{p:Addr}{us:LA}(e:H p=some (.lst (us.map λu =>.ref u.1)))(t:TT H us):mu m H p=wts m us:=by
 unfold mu wts
 rw[e]
 dsimp only
 rw[Fo]
 congr 1
 refine Lf λu hu =>?_
 show 801 ^ (m+1-tl H (.ref u.1))=_
 unfold tl
 dsimp only
 rw[t u hu]
 dsimp only
 rw[C6]
theorem uW (m:Nat)(us vs:LA):wts m (us++vs)=wts m us+wts m vs:=by unfold wts;rw[Dj,Mq]
theorem yN {m L:Nat}:∀vs:LA,(∀v∈vs,v.2.length=L+1)->wts m vs<=vs.length*801 ^ (m-L)
 | [],_=>D5 _
 | v :: vs,h=>by
  have:=yN (m:=m) (L:=L) vs λw hw=>h w (DB _ hw)
  have e:=h v DA
  have:wts m (v :: vs)=801 ^ (m-L)+wts m vs:=by
   show 801 ^ (m+1-v.2.length)+_=_
   rw[e,show m+1-(L+1)=m-L by lia];rfl
  rw[this,Dz,Nat.add_mul,Nat.one_mul]
  lia
theorem yO {m:Nat}{us vs:LA}{u:Addr×List Int}(hl:u.2.length<=m)(hv:∀v∈vs,v.2.length=u.2.length+1)(l:vs.length<=800):wts m (us++vs)<wts m (us++[u]):=by
 rw[uW,uW]
 have h1:=yN (m:=m) vs hv
 have h2:wts m [u]=801*801 ^ (m-u.2.length):=by
  show 801 ^ (m+1-u.2.length)+0=_
  rw[show m+1-u.2.length=(m-u.2.length)+1 by lia,Nat.pow_succ,LR];rfl
 rw[h2]
 have hp:0<801 ^ (m-u.2.length):=Nat.pow_pos (by decide)
 generalize 801 ^ (m-u.2.length)=q at *
 have:vs.length*q<=800*q:=Nat.mul_le_mul_right q l
 lia
def Chn (ns:List (List Int)):List Int->Prop
 | []=>True
 | [_]=>True
 | a :: b :: t=>nrm a b∈ns/\Chn ns (b :: t)
theorem cK {ns:List (List Int)}(c:Int)(Y:List Int):∀X:List Int,Chn ns (X++c :: Y)↔Chn ns (X++[c])/\Chn ns (c :: Y)
 | []=>⟨λh=>⟨trivial,h⟩,λh=>h.2⟩
 | [a]=>⟨λh=>⟨⟨h.1,trivial⟩,h.2⟩,λh=>⟨h.1.1,h.2⟩⟩
 | a :: b :: t=>by
  have ih:=cK (ns:=ns) c Y (b :: t)
  constructor
  ·intro h
   have:=ih.mp h.2
   exact ⟨⟨h.1,this.1⟩,this.2⟩
  ·intro h
   exact ⟨h.1.1,ih.mpr ⟨h.1.2,h.2⟩⟩
theorem uZ {ns:List (List Int)}:∀{X:List Int},Chn ns X->Chn ns X.reverse
 | [],_=>trivial
 | [a],_=>trivial
 | a :: b :: t,h=>by
  have ih:=uZ h.2
  rw[Iq] at ih ⊢
  rw[Iq,DQ]
  exact (cK b [a] _).mpr ⟨ih,by rw[bN];exact h.1,trivial⟩
theorem kZ {ns:List (List Int)}:∀{X:List Int},Chn ns X->∀k a b,X[k]? = some a->X[k+1]? = some b->nrm a b∈ns
 | [],_,k,a,b,e,_=>by cases e
 | [x],_,k,a,b,_,e=>by cases e
 | x :: y :: t,h,0,a,b,e1,e2=>by cases e1;cases e2;exact h.1
 | x :: y :: t,h,k+1,a,b,e1,e2=>kZ h.2 k a b e1 e2
theorem yP {ns:List (List Int)}:∀{X:List Int},(∀k a b,X[k]? = some a->X[k+1]? = some b->nrm a b∈ns)->Chn ns X
 | [],_=>trivial
 | [x],_=>trivial
 | x :: y :: t,h=>⟨h 0 x y rfl rfl,yP λk a b e1 e2=>h (k+1) a b e1 e2⟩
theorem rR {Z:List Int}{k:Nat}:prv Z (k+1)=Z.getD k 0:=by unfold prv;rw[if_neg (by lia)];rfl
theorem jm {Z:List Int}:prv Z 0=Z.getD (Z.length-1) 0:=by unfold prv;rw[if_pos rfl]
theorem jq {m:Nat}{ns:List (List Int)}{s:Int}{t:List Int}(l3:2<=t.length):IsL m ns (s :: t)↔(s :: t).Nodup/\(∀v∈s :: t,0<=v/\v<m)/\Chn ns (s :: t++[s]):=by
 have h3:¬ (s :: t).length<3:=by rw[Dz];lia
 unfold IsL
 constructor
 ·rintro ⟨_,nd,rg,_,h⟩
  refine ⟨nd,rg,yP λk a b e1 e2 =>?_⟩
  have hk:=(Di.mp e2).1
  rw[C8] at hk
  have hk:k+1<(s :: t).length+1:=hk
  rw[Ed (by lia)] at e1
  by_cases c:k+1<(s :: t).length
  ·rw[Ed c] at e2
   have:=h h3 (k+1) c
   rw[rR,getD_at e1,getD_at e2] at this
   exact D7.mp this
  ·have c:k+1=(s :: t).length:=by lia
   rw[Eg (by lia),c,LU] at e2
   cases e2
   have:=h h3 0 (by rw[Dz];lia)
   rw[jm,getD_at (show (s :: t)[(s :: t).length-1]? = some a by rw[<- c];exact e1)] at this
   exact D7.mp this
 ·rintro ⟨nd,rg,ch⟩
  refine ⟨by simp,nd,rg,λz=>absurd z h3,λ_ k hk=>D7.mpr ?_⟩
  have e1:(s :: t)[k]? = some ((s :: t)[k]):=Dc hk
  rw[getD_at e1]
  cases k with
  | zero =>
   have el:(s :: t)[(s :: t).length-1]? = some ((s :: t)[(s :: t).length-1]'(by rw[Dz];lia)):=Dc _
   rw[jm,getD_at el]
   refine kZ ch ((s :: t).length-1) _ _ ?_ ?_
   ·rw[Ed (by rw[Dz];lia)];exact el
   ·rw[Eg (by rw[Dz];lia),show (s :: t).length-1+1-(s :: t).length=0 by rw[Dz];lia];rfl
  | succ k =>
   have e2:(s :: t)[k]? = some ((s :: t)[k]'(by lia)):=Dc _
   rw[rR,getD_at e2]
   refine kZ ch k _ _ ?_ ?_
   ·rw[Ed (by lia)];exact e2
   ·rw[Ed hk];exact e1
structure Can (ns:List (List Int))(s x:Int)(t:List Int)(y:Int):Prop where
 nd:(s :: x :: t++[y]).Nodup
 gt:∀v∈x :: t++[y],s<v
 ch:Chn ns (s :: x :: t++[y])
 cl:nrm y s∈ns
 lt:x<y
theorem Ay {t:List Int}(h:2<=t.length):∃x u y,t=x :: u++[y]:=by
 match t,h with
 | x :: b :: r,_=>exact ⟨x,(b :: r).dropLast,(b :: r).getLast (by simp),by rw[Kc,G6]⟩
theorem B5 {m:Nat}{ns:List (List Int)}{Z:List Int}(h:IsL m ns Z)(l3:3<=Z.length):∃s x t y,Can ns s x t y/\s∈Z:=by
 obtain ⟨M,hM,mn⟩:∃M∈Z,∀b∈Z,M<=b:=by
  have:=h.1
  clear h l3
  induction Z with
  | nil=>exact absurd rfl this
  | cons a t ih =>
   by_cases c:t=[]
   ·subst c
    exact ⟨a,DA,λb hb=>Int.le_of_eq (show b=a by simpa using hb).symm⟩
   ·obtain ⟨M,hM,mn⟩:=ih c
    by_cases d:a<=M
    ·refine ⟨a,DA,λb hb =>?_⟩
     rcases Dx.mp hb with z | z
     ·lia
     ·have:=mn b z;lia
    ·refine ⟨M,DB _ hM,λb hb =>?_⟩
     rcases Dx.mp hb with z | z
     ·lia
     ·exact mn b z
 obtain ⟨a,b,rfl,na⟩:=Jo hM
 have lab:2<=(b++a).length:=by
  rw[C8,Dz] at l3
  rw[C8];lia
 have pm:(M :: (b++a)).Perm (a++M :: b):=(GA (l₁:=M :: b) (l₂:=a))
 have nd:(M :: (b++a)).Nodup:=pm.nodup_iff.mpr h.2.1
 have ch:Chn ns (M :: (b++a)++[M]):=by
  cases a with
  | nil =>
   rw[G8] at h
   rw[DZ]
   refine ((jq (t:=b) ?_).mp h).2.2
   rw[DZ] at lab;exact lab
  | cons a0 a' =>
   have h2:=((jq (s:=a0) (t:=a'++M :: b) (by rw[C8,Dz] at lab ⊢;lia)).mp h).2.2
   rw[show a0 :: (a'++M :: b)++[a0]=(a0 :: a')++M :: (b++[a0]) by simp] at h2
   obtain ⟨h3,h4⟩:=(cK M (b++[a0]) (a0 :: a')).mp h2
   rw[show M :: (b++a0 :: a')++[M]=(M :: b)++a0 :: (a'++[M]) by simp]
   exact (cK a0 (a'++[M]) (M :: b)).mpr ⟨h4,h3⟩
 have gt:∀v∈b++a,M<v:=λv hv=>by
  have h1:=mn v (pm.mem_iff.mp (DB _ hv))
  have h2:v≠M:=λe=>(EI.mp nd).1 (e ▸ hv)
  lia
 generalize b++a=c at lab nd ch gt
 obtain ⟨x,u,y,rfl⟩:=Ay lab
 rw[show M :: (x :: u++[y])++[M]=(M :: x :: u)++y :: [M] by simp] at ch
 obtain ⟨c1,c2⟩:=(cK y [M] (M :: x :: u)).mp ch
 have hxy:x≠y:=λe=>by
  have:=(EI.mp (EI.mp nd).2).1
  exact this (by rw[e];exact DE _ (by simp))
 by_cases c:x<y
 ·exact ⟨M,x,u,y,⟨nd,gt,c1,c2.1,c⟩,hM⟩
 ·refine ⟨M,y,u.reverse,x,⟨?_,λv hv=>gt v ?_,?_,?_,by lia⟩,hM⟩
  ·show (M :: (y :: u.reverse++[x])).Nodup
   refine (List.Perm.cons M ?_).nodup_iff.mp nd
   refine (List.reverse_perm _).symm.trans ?_
   rw[show (x :: u++[y]).reverse=y :: u.reverse++[x] by simp]
  ·rw[show y :: u.reverse++[x]=(x :: u++[y]).reverse by simp] at hv
   exact G0.mp hv
  ·have:=uZ (((cK x (u++[y]++[M]) [M]).mp (by rw[show [M]++x :: (u++[y]++[M])=(M :: x :: u)++y :: [M] by simp];exact ch)).2)
   rw[show (x :: (u++[y]++[M])).reverse=M :: y :: u.reverse++[x] by simp] at this
   exact this
  ·rw[bN]
   exact c1.1
theorem yQ {c A:Prop}[Decidable c]{P:Hp->Prop}{H:Hp}(G:Hp->Prop)(hP:∀H',G H'->P H')(h1:(∀H',G H'->P H')->c->A)(h2:¬ c->G H):if c then A else P H:=by
 by_cases h:c
 ·rw[if_pos h];exact h1 hP h
 ·rw[if_neg h];exact hP H (h2 h)
def Fd (H:Hp)(fl:Addr)(z:Nat)(P:List Int->Prop)(N:Prop):Prop:=∃us:LA,H fl=some (.lst (us.map λu =>.ref u.1))/\TT H us/\(∀u∈us,P u.2)/\us.length<=z/\(N->us≠[])
theorem Fd.fr {H H':Hp}{fl:Addr}{z:Nat}{P:List Int->Prop}{N:Prop}(h:Fd H fl z P N)(f:Fr H H'):Fd H' fl z P N:=by
 obtain ⟨us,e,t,al,l,n⟩:=h
 exact ⟨us,f.lst e,f.tt t,al,l,n⟩
theorem Fd.put {H:Hp}{fl p:Addr}{z:Nat}{P:List Int->Prop}{N:Prop}{xs ys:List V}(h:Fd H fl z P N)(e:H p=some (.lst xs))(n:p≠fl):Fd (upd H p (.lst ys)) fl z P N:=by
 obtain ⟨us,e1,t,al,l,q⟩:=h
 exact ⟨us,by rw[az (EB n)];exact e1,t.put e,al,l,q⟩
theorem Fd.mono {H:Hp}{fl:Addr}{z z':Nat}{P:List Int->Prop}{N N':Prop}(h:Fd H fl z P N)(a:z<=z')(b:N'->N):Fd H fl z' P N':=by
 obtain ⟨us,e,t,al,l,q⟩:=h
 exact ⟨us,e,t,al,DU l a,λx=>q (b x)⟩
theorem m6 {n:Nat}(h:n<=1000000):n<Dm:=G4 h (by decide)
structure Pth (ns:List (List Int))(C:List (Int×V))(s:Int)(Z:List Int):Prop where
 hd:∃q,Z=s :: q/\∀v∈q,s<v
 nd:Z.Nodup
 ky:∀v∈Z,v∈kys C
 ch:Chn ns Z
theorem gC {E:List (List Int)}{x y:Int}:(nrF E x y).isSome=true↔nrm x y∈E:=by
 unfold nrF
 by_cases h:nrm x y∈E
 ·rw[if_pos h];exact ⟨λ_=>h,λ_=>rfl⟩
 ·rw[if_neg h];exact ⟨λz=>(by cases z),λz=>absurd z h⟩
theorem yR {E:List (List Int)}{x y:Int}(h:x<=y):(nrF E x y).getD 0=(E.count (nrm x y):Int):=by
 unfold nrF
 by_cases c:nrm x y∈E
 ·rw[if_pos c,if_pos h];rfl
 ·rw[if_neg c,G1 c];rfl
theorem u3 {m:Nat}{ns:List (List Int)}{x:Int}(r:0<=x/\x<(m:Int))(h:nrm x x∈ns):IsL m ns [x] :=
 ⟨by simp,by simp,λv hv=>(show v=x by simpa using hv) ▸ r,λ_=>D7.mpr h,λz=>absurd (by simp) z⟩
theorem u5 {m:Nat}{ns:List (List Int)}{x y:Int}(O:Ok m ns)(l:x<y)(h:2<=ns.count (nrm x y)):IsL m ns [x,y]:=by
 have r:=jT O (DC (by decide) h)
 refine ⟨by simp,by simp;lia,λv hv =>?_,λ_=>h,λz=>absurd (by simp) z⟩
 have:v=x\/v=y:=by simpa using hv
 rcases this with z | z <;> subst z
 ·exact r.1
 ·exact r.2
def Short (ns:List (List Int))(K:List Int):Prop:=∃x∈K,nrm x x∈ns\/∃y,x<y/\2<=ns.count (nrm x y)
theorem yS {m:Nat}{ns:List (List Int)}(O:Ok m ns){Z:List Int}(h:IsL m ns Z)(l:Z.length<3){K:List Int}(hK:∀x y,nrm x y∈ns->x∈K):Short ns K:=by
 obtain ⟨ne,nd,rg,h4,_⟩:=h
 have h4:=h4 l
 match Z,ne,nd,l,h4 with
 | [x],_,_,_,h4 =>
  have h5:0<ns.count (nrm x x):=h4
  exact ⟨x,hK x x (D7.mp h5),.inl (D7.mp h5)⟩
 | [x,y],_,nd,_,h4 =>
  have h5:2<=ns.count (nrm x y):=h4
  have h6:nrm x y∈ns:=D7.mp (DC (by decide) h5)
  have ne:x≠y:=λe=>(EI.mp nd).1 (by rw[e];simp)
  by_cases c:x<y
  ·exact ⟨x,hK x y h6,.inr ⟨y,c,h5⟩⟩
  ·rw[bN] at h5 h6
   exact ⟨y,hK y x h6,.inr ⟨x,by lia,h5⟩⟩
 | _ :: _ :: _ :: _,_,_,l,_=>simp at l;lia
def rT (ns:List (List Int))(s:Int)(us:LA):Prop:=∃a t y,Can ns s a t y/\∀u∈us,∀j,1<=j->j<=t.length+2->u.2≠(s :: a :: t).take j
def Clo (ns:List (List Int))(s:Int)(Z K:List Int):Prop:=∃v∈K,s<v/\v∉Z/\1<Z.length/\Z.getD 1 0<v/\nrm v s∈ns
theorem wI {ns:List (List Int)}{s:Int}{ui vs:LA}{u:Addr×List Int}{K:List Int}(hK:∀v,nrm (prv u.2 0) v∈ns->v∈K)(hv:∀v∈K,s<v->v∉u.2->∃w∈vs,w.2=u.2++[v])(h:rT ns s (ui++vs)):rT ns s (ui++[u])\/Clo ns s u.2 K:=by
 obtain ⟨a,t,y,c,no⟩:=h
 by_cases hu:∃j,1<=j/\j<=t.length+2/\u.2=(s :: a :: t).take j
 ·obtain ⟨j,j1,j2,e⟩:=hu
  refine .inr ?_
  have lL:(s :: a :: t++[y]).length=t.length+3:=by simp
  have eL:u.2=(s :: a :: t++[y]).take j:=by rw[e,F4 (by simpa using j2)]
  have hj:(s :: a :: t++[y])[j]? = some ((s :: a :: t++[y])[j]'(by lia)):=Dc _
  generalize (s :: a :: t++[y])[j]'(by lia)=v at hj
  have lu:u.2.length=j:=by rw[eL,Ew,lL];lia
  have lst:u.2[j-1]? = some (prv u.2 0):=by
   rw[jm,lu,Du,Dc (by lia)];rfl
  have lst2:(s :: a :: t++[y])[j-1]? = some (prv u.2 0):=by
   rw[<- lst]
   conv=>rhs;rw[eL]
   rw[Fm,if_pos (by lia)]
  have tie:=kZ c.ch (j-1) _ v lst2 (by rw[show j-1+1=j by lia];exact hj)
  have vK:=hK v tie
  have sv:s<v:=by
   refine c.gt v ?_
   obtain ⟨k,rfl⟩:∃k,j=k+1:=⟨j-1,by lia⟩
   exact Dp (show (a :: t++[y])[k]? = some v from hj)
  have tk:(s :: a :: t++[y]).take (j+1)=u.2++[v]:=by rw[D3,hj,eL];rfl
  have vu:v∉u.2:=by
   have nd:(u.2++[v]).Nodup:=by rw[<- tk];exact c.nd.sublist (EN _ _)
   intro q
   exact (FA.mp nd).2.2 v q v (by simp) rfl
  obtain ⟨w,hw,ew⟩:=hv v vK sv vu
  by_cases cj:j<t.length+2
  ·refine absurd ?_ (no w (DE _ hw) (j+1) (by lia) (by lia))
   rw[ew, <- tk,F4 (by show j+1<=t.length+2;lia)]
  ·have cj:j=t.length+2:=by lia
   have vy:v=y:=by
    rw[cj,Eg (by show t.length+2<=t.length+2;lia)] at hj
    rw[show t.length+2-(s :: a :: t).length=0 by show t.length+2-(t.length+1+1)=0;lia] at hj
    cases hj;rfl
   have ua:u.2=s :: a :: t:=by rw[e,cj];exact Dr (Dd _)
   refine ⟨v,vK,sv,vu,by lia,?_,?_⟩
   ·rw[ua,vy];exact c.lt
   ·rw[vy];exact c.cl
 ·refine .inl ⟨a,t,y,c,λw hw j j1 j2 e =>?_⟩
  rcases Dh.mp hw with z | z
  ·exact no w (DM _ z) j j1 j2 e
  ·have:w=u:=by simpa using z
   rw[this] at e
   exact hu ⟨j,j1,j2,e⟩
theorem Pth.last {ns:List (List Int)}{C:List (Int×V)}{s:Int}{Z:List Int}(h:Pth ns C s Z):prv Z 0∈Z/\0<Z.length/\∃p,Z=p++[prv Z 0]:=by
 obtain ⟨q,e,_⟩:=h.hd
 have l:0<Z.length:=by rw[e];simp
 have ne:Z≠[]:=GX.mp l
 have e2:prv Z 0=Z.getLast ne:=by
  rw[jm,Du,Dc (by omega),List.getLast_eq_getElem];rfl
 refine ⟨by rw[e2];exact List.getLast_mem ne,l,Z.dropLast,by rw[e2];exact (G6 ne).symm⟩
theorem Pth.snoc {ns:List (List Int)}{C:List (Int×V)}{s v:Int}{Z:List Int}(h:Pth ns C s Z)(a:s<v)(b:v∉Z)(c:nrm (prv Z 0) v∈ns)(d:v∈kys C):Pth ns C s (Z++[v]):=by
 refine ⟨?_,?_,λw hw =>?_,?_⟩
 ·obtain ⟨q,e,al⟩:=h.hd
  refine ⟨q++[v],by rw[e];rfl,λw hw =>?_⟩
  rcases Dh.mp hw with z | z
  ·exact al w z
  ·exact (show w=v by simpa using z) ▸ a
 ·refine FA.mpr ⟨h.nd,by simp,λp hp q hq e=>b ?_⟩
  have:q=v:=by simpa using hq
  rw[<- this, <- e];exact hp
 ·rcases Dh.mp hw with z | z
  ·exact h.ky w z
  ·exact (show w=v by simpa using z) ▸ d
 ·obtain ⟨_,_,p,e⟩:=h.last
  generalize prv Z 0=l at c e
  have ch:=h.ch
  rw[e] at ch ⊢
  rw[DQ]
  exact (cK l [v] p).mpr ⟨ch,c,trivial⟩
theorem Pth.ring {m:Nat}{ns:List (List Int)}{C:List (Int×V)}{s v:Int}{Z:List Int}(h:Pth ns C s (Z++[v]))(l:1<Z.length)(c:nrm v s∈ns)(rg:∀w∈kys C,0<=w/\w<(m:Int)):IsL m ns (Z++[v]):=by
 obtain ⟨q,e,al⟩:=h.hd
 cases Z with
 | nil=>cases l
 | cons z t =>
  have:z=s:=by injection e
  subst this
  refine (jq (t:=t++[v]) (by rw[C8];exact l)).mpr ⟨h.nd,λw hw=>rg w (h.ky w hw),?_⟩
  rw[show z :: (t++[v])++[z]=(z :: t)++v :: [z] by simp]
  exact (cK v [z] (z :: t)).mpr ⟨h.ch,c,trivial⟩
abbrev rV:Sp:=λvs H Q _=>∃(r:Addr) (m:Nat) (mo:Int) (ts:LA),vs=[.ref r,.int mo]/\Wb H r m ts/\m<=40/\mo=300/\∀(l:Addr) (H':Hp) (us:LA),aB H H'->H' l=some (.lst (us.map λu =>.ref u.1))->TT H' us->(∀u∈us,IsL m (ts.map (·.2)) u.2)->((∃Z,IsL m (ts.map (·.2)) Z)->us≠[])->us.length<=400000->Q (.ref l) H'
@[irreducible] def k7:Sp:=rV
theorem gD {vs:List V}{H:Hp}{Q:VK}{E:XK}:k7 vs H Q E↔rV vs H Q E:=by
 delta k7
 exact Gn
section
theorem cZ:aU ["web", "most", "near", "found", "one", "other", "start", "paths", "path", "place"] ["web", "most"] (aG kQ):=⟨rfl,rfl,rfl,by decide +kernel,rfl,by decide +kernel,by decide +kernel⟩
theorem ff:(["other", "one", "near"]:List Str).Nodup:=by decide +kernel
theorem yT (F:Fun K "_law_rings" "_law_rings" kQ f fd)(B:Blt mg):cy P w K mg base CX0 1 f fd ["web", "most"] k7:=by
 refine F.ok cZ (λvs H Q E h =>?_) (λcdv A outer s H vs Q E hr h =>?_)
 ·obtain ⟨_,_,_,_,rfl,_⟩:=gD.mp h
  rfl
 obtain ⟨r,m,mo,ts,rfl,W,m4,hmo,q⟩:=gD.mp h
 have hu:(qC CX0 P w K mg base ["web", "most", "near", "found", "one", "other", "start", "paths", "path", "place"] "_law_rings" (aG kQ) f cdv A outer s H E).nox.A.units+1<cLine:=xw hr
 refine ⟨_,(ai (aS (i:=2) cZ.nd rfl (Or.inr rfl) i5)
  (ai (aS (i:=3) cZ.nd rfl (Or.inl rfl) (bH ah))
  (ai (bR Ea rfl (fY (aM aV (pv 0) ak (λ_ _=>rfl))) (aX rfl (ax (ao (i:=4) cZ.nd rfl (Or.inr rfl)) (ax (ao (i:=5) cZ.nd rfl (Or.inl rfl)) aP)))
   (ai (bX (i7 (i7 (pv 2) (pv 4) i5 ⟨rfl,rfl,rfl,rfl⟩) (pv 5) ak ⟨rfl,rfl,rfl,rfl⟩))
   (ai (bX (i7 (i7 (pv 2) (pv 5) i5 ⟨rfl,rfl,rfl,rfl⟩) (pv 4) ak ⟨rfl,rfl,rfl,rfl⟩))
   (aq (pO hu (dM hu (pv 2) (pv 4) (λ_ _=>rfl)) (pv 5) (aE bM (dM hu (dM hu (pv 2) (pv 4) (λ_ _=>rfl)) (pv 5) (λ_ _=>rfl)) ak) rfl)))) (λ_=>rfl))
  (ai (bR Ea rfl (i8 (pv 2)) (ao (i:=4) cZ.nd rfl (Or.inr rfl))
   (ai (bh (aD j5 (x5 hu (dM hu (pv 2) (pv 4) (λ_ _=>rfl)) (pv 4) ak ⟨rfl,rfl,rfl,rfl⟩) ak (aH _)) (aq (bX (eB DY Er Es bZ (pv 3) (aa (aT (aa (pv 4) ah rfl)) ah rfl)))) aL)
   (aq (bX (eB DY JN JO nV (pv 3) (aa (bY ["other", "one", "near"] [none,some 4,some 2] rfl (i8 (dM hu (pv 2) (pv 4) (λ_ _=>rfl))) rfl (λ_ _ _ _ _=>(ao (i:=0) ff rfl (Or.inl rfl))) (λ_ _ _ _ _=>(fA (PW.pt (fW (aD iN (pv 1) (pv 0) (aH _)) (fj (aD j5 (dM hu (dM hu (pv 2) (pv 1) (λ_ _=>rfl)) (pv 0) (λ_ _=>rfl)) ak (aH _))))))) (λ_ _ _ _ _=>(aT (aa (pv 1) (aa (pv 0) ah rfl) rfl)))) ah rfl))))) (λ_=>rfl))
  (ai (bR Ea rfl (i8 (pv 2)) (ao (i:=6) cZ.nd rfl (Or.inl rfl))
   (ai (aS (i:=7) cZ.nd rfl (Or.inl rfl) (bH (aa (aT (aa (pv 6) ah rfl)) ah rfl)))
   (aq (qz Ea (PW.pt (fW (aD (Ak hr) (pv 7) (bH ah) (aH _)) (fj (aD uh (ay aI rfl B.b_len cB (aa (pv 3) ah rfl)) (pv 1) (aH _)))))
    (ai (aS (i:=8) cZ.nd rfl (Or.inl rfl) (xp DY Iz IA xq (pv 7)))
    (aq (bR Ea rfl (i8 (dM hu (pv 2) (aM aV (pv 8) (w5 sA ak) (λ_ _=>rfl)) (λ_ _=>rfl))) (ao (i:=9) cZ.nd rfl (Or.inl rfl))
     (aq (bh (PW.pt (fW (aD j5 (pv 9) (pv 6) (aH _)) (fj (aD iR (pv 9) (pv 8) rfl)))) (ai (bX (eB DY Er Es bZ (pv 7) (aa (aE eZ (pv 8) (aT (aa (pv 9) ah rfl))) ah rfl)))
      (aq (bh (PW.pt (fW (aD j5 (ay aI rfl B.b_len cB (aa (pv 8) ah rfl)) ak (aH _)) (fW (aD iN (aM aV (pv 8) ak (λ_ _=>rfl)) (pv 9) (aH _)) (fj (sk (BP hu (pv 6) (dM hu (pv 2) (pv 9) (λ_ _=>rfl)))))))) (aq (bX (eB DY Er Es bZ (pv 3) (aa (aE eZ (pv 8) (aT (aa (pv 9) ah rfl))) ah rfl)))) aL))) aL)) (λ_=>rfl))))))) (λ_=>rfl))
  (aq (aJ (ay fG rfl B.b_sorted cQ (aa (pv 3) ah rfl))))))))),?_⟩
 obtain ⟨t,e1,e2⟩:=W.at'
 have l2:=W.len
 have O:=oX W
 refine λn hn =>?_
 obtain ⟨H1,zQ9,gn,en⟩:=nwZ hn (.dK [])
 rw[zQ9]
 refine ⟨(by show 0<=Dm;decide),λfl hfl =>?_⟩
 have hfl0:=gn.free hfl
 have nfl:n≠fl:=aA en hfl
 have s2:=gn.trans (ae hfl (.lst []))
 have en2:=(ae hfl (.lst [])) _ _ en
 have efl:upd H1 fl (.lst []) fl=some (.lst (([]:LA).map λu =>.ref u.1)):=ag
 generalize upd H1 fl (.lst [])=H2 at s2 en2 efl
 generalize hns:ts.map (·.2)=ns at O q
 have lns:ns.length=ts.length:=by rw[<- hns,C6]
 let W0:Nat->St->Hp->Prop:=λi σ H'=>(∃c4 c5,σ=[some (.ref r),some (.int mo),some (.ref n),some (.ref fl),c4,c5,none,none,none,none])/\aB H H'/\H' fl=some (.lst (([]:LA).map λu =>.ref u.1))/\∃C,NF H H' n m C (nrF (ns.take i)) (3*i)/\C.length<=2*i/\∀x y,nrm x y∈ns.take i->x∈kys C
 refine ⟨_,rfl,r,_,1,_,rfl,rfl,SqT.of (s2 _ _ e1),rfl,t,rfl,⟨_,SqT.of (s2 _ _ e2)⟩,t9 (xs:=ts.map λu =>.ref u.1) W0
  ⟨⟨_,_,rfl⟩,s2,efl,[],⟨en2,hn,GC,GC,λx _ y=>rfl,λe he=>by cases he⟩,Dd _,λx y h=>by cases h⟩ (λi σ H' _ z=>SqT.of (z.2.1 _ _ e2)) ?_ ?_⟩
 ·rintro i x σ H3 hx ⟨⟨c4,c5,rfl⟩,s3,ef3,C,N,lc,cl⟩
  obtain ⟨u,eu,rfl⟩:=item hx
  have hi:=(Di.mp eu).1
  obtain ⟨a,b,ab,a0,aleb,bm⟩:=W.pr u (Dp eu)
  have hu3:=s3 _ _ (W.tup u (Dp eu))
  rw[ab] at hu3
  have tk:ns.take (i+1)=ns.take i++[[a,b]]:=by rw[<- hns,D3,Dq,eu, <- ab];rfl
  have ar:0<=a/\a<(m:Int):=⟨a0,by lia⟩
  have br:0<=b/\b<(m:Int):=⟨by lia,bm⟩
  refine ⟨u.1,_,rfl,SqT.of hu3,rfl,_,_,rfl,_,_,rfl,rfl,?_⟩
  refine NF.C0 (i:=2) (j:=4) (k:=5) (x:=a) (y:=b) N s3 (by lia) (by lia) ar br rfl rfl rfl λC1 H4 N1 l1 k1 s4 ls4 =>?_
  refine NF.C0 (i:=2) (j:=5) (k:=4) (x:=b) (y:=a) N1 s4 (by lia) (by lia) br ar rfl rfl rfl λC2 H5 N2 l2' k2 s5 ls5 =>?_
  have aK:a∈kys C2:=(k2 a).mpr (.inl ((k1 a).mpr (.inr rfl)))
  have bK:b∈kys C2:=(k2 b).mpr (.inr rfl)
  obtain ⟨d,hg,hin⟩:=N2.get aK
  obtain ⟨_,d',D,e2',h0,hD,lD,al,rg⟩:=N2.all _ hin
  cases e2'
  have fab:put2 (put2 (nrF (ns.take i)) a b ((nrF (ns.take i) a b).getD 0)) b a (((put2 (nrF (ns.take i)) a b ((nrF (ns.take i) a b).getD 0)) b a).getD 0) a b=some ((nrF (ns.take i) a b).getD 0):=by
   unfold put2
   by_cases c:a=b
   ·subst c
    simp
   ·rw[if_neg λq=>c q.1,if_pos ⟨rfl,rfl⟩]
  have gv:=al b
  rw[show (a,V.ref d).1=a from rfl,fab] at gv
  have gn:fJ H5 n (.int a) (some (.ref d)):=by rw[<- hg];exact fJ.k (k:=Sum.inl a) N2.top
  have gd:fJ H5 d (.int b) (some (.int ((nrF (ns.take i) a b).getD 0))):=by
   have:=fJ.k (k:=Sum.inl b) hD
   rw[gv] at this
   exact this
  obtain ⟨D',eD',lD',sub,_,_⟩:=yL D b (.int ((nrF (ns.take i) a b).getD 0+1))
  have hput:rj H5 d (.int b) (.int ((nrF (ns.take i) a b).getD 0+1)) (upd H5 d (.dK (mp D'))):=by rw[<- eD'];exact rj.k (k:=Sum.inl b) hD (by rw[tW];exact qg (by lia))
  refine ⟨_,rfl,_,rfl,n,_,rfl,gn,_,rfl,d,_,rfl,gd,_,_,rfl,rfl,_,rfl,_,rfl,n,_,rfl,gn,_,rfl,d,_,rfl,hput,?_⟩
  have N3:=N2.put hin hD eD' (z':=3*(i+1)) (DU lD' (by lia)) (by lia) λk hk=>by
   obtain ⟨e',he',rfl⟩:=DR.mp hk
   rcases sub e' he' with c | c
   ·exact rg _ (kX c)
   ·rw[c];exact br
  rw[yM aleb, <- tk] at N3
  refine ⟨⟨_,_,rfl⟩,aB.cV s5 h0 _,by rw[az (cF (ls5 _ _ (ls4 _ _ ef3)) hD (by intro z;cases z))];exact ls5 _ _ (ls4 _ _ ef3),C2,N3,by lia,λx y h =>?_⟩
  rw[tk] at h
  rcases Dh.mp h with z | z
  ·exact (k2 x).mpr (.inl ((k1 x).mpr (.inl (cl x y z))))
  ·have z:nrm x y=[a,b]:=by simpa using z
   rcases Ju x y with c | c
   ·rw[cI c] at z
    injection z with z1
    rw[z1];exact aK
   ·rw[bN,cI c] at z
    injection z with z1 z2
    injection z2 with z2
    rw[z2];exact bK
 rintro σ H3 ⟨⟨c4,c5,rfl⟩,s3,ef3,C,NU3,lc,cl⟩
 rw[C6] at NU3 lc cl
 rw[<- lns,Dr (Dd _)] at NU3 cl
 have N3:=NU3.nr (by lia) λx y h=>cl y x (by rw[bN];exact gC.mp h)
 have lk:(kys C).length=C.length:=C6 _
 refine ⟨_,rfl,n,_,kys C,rfl,kW C,Ax N3.top s3 hn λob H4 e4 f4 s4 =>?_⟩
 refine mC (λi σ H'=>(∃c4 c5,σ=[some (.ref r),some (.int mo),some (.ref n),some (.ref fl),c4,c5,none,none,none,none])/\aB H H'/\Nr H H' n m C (nrF ns)/\H' n=some (.frz ob (.dK (mp C)))/\Fd H' fl (801*i) (IsL m ns) (Short ns ((kys C).take i)))
  ⟨⟨_,_,rfl⟩,s4,N3.fr f4,e4,[],f4.lst ef3,λu hu=>(by cases hu),λu hu=>(by cases hu),Dd _,λh=>by obtain ⟨x,hx,_⟩:=h;cases hx⟩ (λi σ H' _ z=>z.2.2.2.1) ?_ ?_
 ·rintro i x σ H5 hx ⟨⟨c4,c5,rfl⟩,s5,N5,en5,F5⟩
  have xk:=Dp hx
  obtain ⟨xr,d,D,hg,h0,rd,lD,al⟩:=N5.get xk
  have ec:(bG (mp D) (Sum.inl x)).getD (.int 0) = .int (ns.count (nrm x x):Int):=by
   rw[al x, <- yR (Lg x)]
   cases nrF ns x x <;> rfl
  have hi:=(Di.mp hx).1
  have tkK:(kys C).take (i+1)=(kys C).take i++[x]:=by rw[D3,hx];rfl
  refine ⟨_,rfl,_,rfl,n,_,rfl,N5.dg hg,d,rfl,.inl ⟨_,rd⟩,_,rfl,_,kY rd x,?_⟩
  rw[ec]
  refine ⟨_,_,rfl,rfl,_,rfl,?_⟩
  refine yQ (λH'=>aB H H'/\Nr H H' n m C (nrF ns)/\H' n=some (.frz ob (.dK (mp C)))/\Fd H' fl (801*i+1) (IsL m ns) (Short ns ((kys C).take i)\/nrm x x∈ns)) ?_ (λhP z =>?_) λz=>⟨s5,N5,en5,F5.mono (GQ _) λh=>h.resolve_right λq=>z (decide_eq_true (by have:=D7.mpr q;show (0:Int)<_;lia))⟩
  ·rintro H6 ⟨s6,N6,en6,F6⟩
   obtain ⟨_,d6,D6,hg6,h06,rd6,lD6,al6⟩:=N6.get xk
   have lk6:(kys D6).length=D6.length:=C6 _
   refine ⟨_,rfl,.inl ⟨rfl,_,SqL.of F6.choose_spec.1⟩,_,rfl,_,rfl,n,_,rfl,N6.dg hg6,d6,_,kys D6,rfl,kW D6,Ax rd6 s6 h06 λob6 H7 e7 f7 s7 =>?_⟩
   have N7:=N6.fr f7
   have F7:=F6.fr f7
   have en7:=f7.fz en6
   refine tK (λi ys H'=>aB H7 H'/\∃us:LA,ys=us.map (λu =>.ref u.1)/\TT H' us/\(∀u∈us,IsL m ns u.2)/\((∃y∈(kys D6).take i,x<y/\2<=ns.count (nrm x y))->us≠[])) ⟨aB.refl _,[],rfl,λu hu=>(by cases hu),λu hu=>(by cases hu),λh=>by obtain ⟨y,hy,_⟩:=h;cases hy⟩ (by rw[lk6];exact cJ (by lia)) (λi ys H' _ z=>z.1 _ _ e7) ?_ ?_
   ·rintro k y ys H8 hy ly ⟨s8,us,rfl,tu,au,nu⟩ R1 R0 r1 r0
    have tk6:(kys D6).take (k+1)=(kys D6).take k++[y]:=by rw[D3,hy];rfl
    have stay:¬ (x<y/\2<=ns.count (nrm x y))->((∃y'∈(kys D6).take (k+1),x<y'/\2<=ns.count (nrm x y'))->us≠[]):=λno h=>by
     obtain ⟨y',hy',h1⟩:=h
     rw[tk6] at hy'
     rcases Dh.mp hy' with q | q
     ·exact nu ⟨y',q,h1⟩
     ·exact absurd ((show y'=y by simpa using q) ▸ h1) no
    refine ⟨_,rfl,_,rfl,_,_,rfl,rfl,_,rfl,cv (λz =>?_) λz =>?_⟩
    ·have xy:x<y:=of_decide_eq_true z
     have yk:=Dp hy
     have is:=(qi al6 y).mp yk
     obtain ⟨c,ec⟩:=GG.mp is
     have cc:c=(ns.count (nrm x y):Int):=by
      have:=yR (E:=ns) (Int.le_of_lt xy)
      rw[ec] at this
      exact this
     have gd:=kY (s8.fr.rd _ _ (f7.rd _ _ rd6)) y
     rw[al6 y,ec] at gd
     refine ⟨_,rfl,_,rfl,n,_,rfl,(N7.fr s8.fr).dg hg6,_,rfl,d6,_,rfl,gd,_,_,rfl,rfl,_,rfl,cv (λz =>?_) λz =>?_⟩
     ·have c2:2<=ns.count (nrm x y):=by have:=of_decide_eq_true z;lia
      refine ⟨_,rfl,_,rfl,(by show 2<=Dm;decide),λtq htq=>r1 _ _ ⟨s8.trans (ae htq _),us++[(tq,[x,y])],by rw[Dj];rfl,(tu.same (ae htq _)).snoc ag,λu hu =>?_,λ_=>by simp⟩⟩
      rcases Dh.mp hu with z | z
      ·exact au u z
      ·have:u=(tq,[x,y]):=by simpa using z
       subst this
       exact u5 O xy c2
     ·exact r0 _ ⟨s8,us,rfl,tu,au,stay λh=>z (decide_eq_true (by show (1:Int)<c;lia))⟩
    ·exact r0 _ ⟨s8,us,rfl,tu,au,stay λh=>z (decide_eq_true h.1)⟩
   ·rintro ys H8 ly ⟨s8,us,rfl,tu,au,nu⟩ cl' hcl
    rw[Dr (Dd _)] at nu
    have g9:=ae hcl (.lst (us.map λu=>V.ref u.1))
    have ecl:upd H8 cl' (.lst (us.map λu=>V.ref u.1)) cl'=some (.lst (us.map λu=>V.ref u.1)):=ag
    have f9:=(s8.trans g9).fr
    have tu9:=tu.same g9
    have s9:=s7.trans (s8.trans g9)
    generalize upd H8 cl' (.lst (us.map λu=>V.ref u.1))=H9 at g9 ecl f9 tu9 s9
    obtain ⟨fus,ef,tf,af,lf,nf⟩:=F7.fr f9
    rw[lk6,C6] at ly
    refine ⟨fl,cl',_,_,rfl,rfl,ef,ecl,by rw[C6,C6];exact Gv (m6 (by lia)),⟨_,_,rfl⟩,aB.cV s9 hfl0 _,(N7.fr f9).lst ef,by rw[az nfl];exact f9.fz en7,fus++us,by rw[ag,Dj],λu hu =>?_,λu hu =>?_,by rw[C8];lia,λh e =>?_⟩
    ·rcases Dh.mp hu with z | z
     ·exact tf.put ef u z
     ·exact tu9.put ef u z
    ·rcases Dh.mp hu with z | z
     ·exact af u z
     ·exact au u z
    ·obtain ⟨fe,ue⟩:=List.append_eq_nil_iff.mp e
     obtain ⟨x',hx',h1⟩:=h
     rw[tkK] at hx'
     rcases Dh.mp hx' with z | z
     ·exact nf (.inl ⟨x',z,h1⟩) fe
     ·have:x'=x:=by simpa using z
      subst this
      rcases h1 with h1 | ⟨y,xy,h1⟩
      ·exact nf (.inr h1) fe
      ·refine nu ⟨y,(qi al6 y).mpr (gC.mpr (D7.mp (DC (by decide) h1))),xy,h1⟩ ue
  ·refine ⟨_,rfl,.inl ⟨rfl,_,SqL.of F5.choose_spec.1⟩,_,rfl,(by show 1<=Dm;decide),λtq htq =>?_⟩
   have g6:=ae htq (.tup [.int x])
   have etq:upd H5 tq (.tup [.int x]) tq=some (.tup (([x]:List Int).map V.int)):=ag
   generalize upd H5 tq (.tup [.int x])=H6 at g6 etq
   obtain ⟨fus,ef,tf,af,lf,nf⟩:=F5.fr g6.fr
   have xx:nrm x x∈ns:=D7.mp (by have:=of_decide_eq_true z;lia)
   refine ⟨fl,_,_,rfl,rfl,ef,by rw[C6];exact m6 (by lia),hP _ ⟨aB.cV (s5.trans g6) hfl0 _,(N5.fr g6.fr).lst ef,by rw[az nfl];exact g6 _ _ en5,fus++[(tq,[x])],by rw[ag,Dj];rfl,(tf.snoc etq).put ef,λu hu =>?_,by rw[C8];show _+1<=_;lia,λ_=>by simp⟩⟩
   rcases Dh.mp hu with z | z
   ·exact af u z
   ·have:u=(tq,[x]):=by simpa using z
    subst this
    exact u3 xr xx
 rintro σ H5 ⟨⟨c4,c5,rfl⟩,s5,N5,en5,F5⟩
 rw[Dr (Dd _),lk] at F5
 refine ⟨_,rfl,n,_,kys C,rfl,kW C,Ax (.inr ⟨_,en5⟩) s5 hn λob2 H6 e6 f6 s6 =>?_⟩
 refine mC (λi σ H'=>(∃c4 c5 c6 c7 c8 c9,σ=[some (.ref r),some (.int mo),some (.ref n),some (.ref fl),c4,c5,c6,c7,c8,c9])/\aB H H'/\Nr H H' n m C (nrF ns)/\H' n=some (.frz ob2 (.dK (mp C)))/\Fd H' fl 400000 (IsL m ns) (Short ns (kys C)\/∃s∈(kys C).take i,∃x t y,Can ns s x t y))
  ⟨⟨_,_,_,_,_,_,rfl⟩,s6,N5.fr f6,e6,(F5.fr f6).mono (by lia) λh=>h.resolve_right λh=>by obtain ⟨s,hs,_⟩:=h;cases hs⟩ (λi σ H' _ z=>z.2.2.2.1) ?_ ?_
 ·rintro i x σ H7 hx ⟨⟨c4,c5,c6,c7,c8,c9,rfl⟩,s7,N7,en7,F7⟩
  have xk:=Dp hx
  have tkK:(kys C).take (i+1)=(kys C).take i++[x]:=by rw[D3,hx];rfl
  have split:(Short ns (kys C)\/∃s∈(kys C).take (i+1),∃x t y,Can ns s x t y)->(Short ns (kys C)\/∃s∈(kys C).take i,∃x t y,Can ns s x t y)\/rT ns x []:=λh=>by
   rcases h with h | ⟨s,hs,a,t,y,c⟩
   ·exact .inl (.inl h)
   rw[tkK] at hs
   rcases Dh.mp hs with z | z
   ·exact .inl (.inr ⟨s,z,a,t,y,c⟩)
   ·have:s=x:=by simpa using z
    subst this
    exact .inr ⟨a,t,y,c,λu hu=>(by cases hu)⟩
  generalize (Short ns (kys C)\/∃s∈(kys C).take i,∃x t y,Can ns s x t y)=N0 at F7 split
  refine ⟨_,rfl,(by show 1<=Dm;decide),λtq htq=>⟨(by show 1<=Dm;decide),λp hp =>?_⟩⟩
  have g8:=ae htq (.tup [.int x])
  have etq:upd H7 tq (.tup [.int x]) tq=some (.tup (([x]:List Int).map V.int)):=ag
  generalize upd H7 tq (.tup [.int x])=H8 at g8 etq hp
  have g9:=ae hp (.lst [.ref tq])
  have ep9:upd H8 p (.lst [.ref tq]) p=some (.lst (([(tq,[x])]:LA).map λu =>.ref u.1)):=ag
  have hp0:=(s7.trans g8).free hp
  have pf:p≠fl:=EB (aA (g8 _ _ F7.choose_spec.1) hp)
  have pn:p≠n:=EB (aA (g8 _ _ en7) hp)
  have etq9:=g9 _ _ etq
  generalize upd H8 p (.lst [.ref tq])=H9 at g9 ep9 etq9
  have g79:=g8.trans g9
  refine qB (λσ H'=>(∃c8 c9,σ=[some (.ref r),some (.int mo),some (.ref n),some (.ref fl),c4,c5,some (.int x),some (.ref p),c8,c9])/\aB H H'/\Nr H H' n m C (nrF ns)/\H' n=some (.frz ob2 (.dK (mp C)))/\∃us:LA,Fd H' fl 400000 (IsL m ns) (N0\/rT ns x us)/\H' p=some (.lst (us.map λu =>.ref u.1))/\TT H' us/\(∀u∈us,Pth ns C x u.2)/\∀k u,us[k]? = some u->k+1<=800*u.2.length)
   (λσ H'=>mu m H' p) ⟨⟨_,_,rfl⟩,s7.trans g79,N7.fr g79.fr,g79 _ _ en7,[(tq,[x])],(F7.fr g79.fr).mono (Dd _) (λh=>h.resolve_right λh =>?_),ep9,λu hu =>?_,λu hu =>?_,λk u e =>?_⟩ ?_ ?_
  ·obtain ⟨a,t,y,_,no⟩:=h
   exact no _ (DA) 1 (Dd _) (by lia) rfl
  ·have:u=(tq,[x]):=by simpa using hu
   subst this
   exact etq9
  ·have:u=(tq,[x]):=by simpa using hu
   subst this
   exact ⟨⟨[],rfl,λv hv=>(by cases hv)⟩,by simp,λv hv=>(show v=x by simpa using hv) ▸ xk,trivial⟩
  ·cases k with
   | zero=>cases e;show 0+1<=800*1;decide
   | succ k=>cases e
  ·rintro σ H10 ⟨⟨c8,c9,rfl⟩,s10,N10,en10,us,F10,ep,tu,pu,ku⟩
   have mu0:=A7 (m:=m) ep tu
   refine ⟨_,rfl,(by show 0<=Dm;decide),λll hll =>?_⟩
   have g11:=ae hll (.lst [])
   have ell:upd H10 ll (.lst []) ll=some (.lst (([]:LA).map λu =>.ref u.1)):=ag
   generalize upd H10 ll (.lst [])=H11 at g11 ell
   have s11:=s10.trans g11
   have N11:=N10.fr g11.fr
   have en11:=g11 _ _ en10
   obtain ⟨fus,ef,tf,af,lf,nf⟩:=F10.fr g11.fr
   have ep11:=g11 _ _ ep
   have tu11:=tu.same g11
   refine ⟨p,ll,us,[],rfl,rfl,ep11,ell,tu11,λu hu=>(by cases hu),_,rfl,?_⟩
   by_cases hus:us=[]
   ·subst hus
    exact cz (cz ⟨⟨_,_,_,_,_,_,rfl⟩,s11,N11,en11,fus,ef,tf,af,lf,λh=>nf (split h)⟩)
   rw[decide_eq_false (by intro z;exact hus (La.mp z))]
   refine bC ⟨_,rfl,fl,_,rfl,.inl (SqL.of ef),_,rfl,_,_,rfl,rfl,_,rfl,cv (λz =>?_) λz =>?_⟩
   ·have lf3:fus.length<=300:=by
     have z:=of_decide_eq_true z
     rw[C6,hmo] at z
     lia
    obtain ⟨ui,u,eus⟩:∃ui u,us=ui++[u]:=⟨us.dropLast,us.getLast hus,(G6 hus).symm⟩
    have um:u∈us:=by rw[eus];exact DE _ (by simp)
    have pu0:=pu u um
    have znd:=pu0.nd
    have zk:=pu0.ky
    have lu:u.2.length<=m:=d8 znd λv hv=>(N11.get (zk v hv)).1
    have lus:us.length<=800*u.2.length:=by
     have:=ku ui.length u (by rw[eus,Eg (Dd _),LU];rfl)
     rw[eus,C8]
     exact this
    have hui:ui.length+1=us.length:=by rw[eus,C8];rfl
    have eu:TT H11 [u]:=λv hv=>by
     have:v=u:=by simpa using hv
     rw[this];exact tu11 u um
    have eu:=eu u (by simp)
    refine ⟨_,rfl,.inl ⟨rfl,_,SqL.of ep11⟩,p,_,_,rfl,rfl,ep11,by rw[C6,eus,Dj,C8,Eg (by rw[C6];show ui.length<=ui.length+1-1;lia)];rw[C6];show [V.ref u.1][ui.length+1-1-ui.length]? = _;rw[show ui.length+1-1-ui.length=0 by lia];rfl,?_⟩
    rw[show (us.map λu=>V.ref u.1).dropLast=ui.map λu=>V.ref u.1 by rw[eus,Dj];exact K0]
    have tui:TT H11 ui:=λv hv=>tu11 v (by rw[eus];exact DM _ hv)
    have ep12:upd H11 p (.lst (ui.map λu=>V.ref u.1)) p=some (.lst (ui.map λu=>V.ref u.1)):=ag
    have s12:=aB.cV s11 hp0 (.lst (ui.map λu=>V.ref u.1))
    have N12:=N11.lst (ys:=ui.map λu=>V.ref u.1) ep11
    have en12:upd H11 p (.lst (ui.map λu=>V.ref u.1)) n=some (.frz ob2 (.dK (mp C))):=by rw[az (EB pn)];exact en11
    have F12:Fd (upd H11 p (.lst (ui.map λu=>V.ref u.1))) fl 300 (IsL m ns) (N0\/rT ns x us):=Fd.put ⟨fus,ef,tf,af,lf3,nf⟩ ep11 pf
    have tu12:TT (upd H11 p (.lst (ui.map λu=>V.ref u.1))) ui:=tui.put ep11
    have eu12:upd H11 p (.lst (ui.map λu=>V.ref u.1)) u.1=some (.tup (u.2.map V.int)):=by rw[az (cF eu ep11 (by intro z;cases z))];exact eu
    generalize upd H11 p (.lst (ui.map λu=>V.ref u.1))=H12 at ep12 s12 N12 en12 F12 tu12 eu12
    obtain ⟨wk,lpos,_⟩:=pu0.last
    have ew:atI (u.2.map V.int) (-1)=some (.int (prv u.2 0)):=mZ (k:=0) lpos
    have rgC:∀w∈kys C,0<=w/\w<(m:Int):=λw hw=>(N12.get hw).1
    obtain ⟨_,d,D,hg,h0,rd,lD,al⟩:=N12.get (zk _ wk)
    have lkD:(kys D).length=D.length:=C6 _
    have kD:∀v,v∈kys D↔nrm (prv u.2 0) v∈ns:=λv=>(qi al v).trans gC
    refine ⟨_,rfl,_,rfl,1,rfl,u.1,_,(-1:Int),_,rfl,rfl,SqT.of eu12,ew,n,_,rfl,N12.dg hg,d,_,kys D,rfl,kW D,Ax rd s12 h0 λob3 H13 e13 f13 s13 =>?_⟩
    refine mC (λi σ H'=>(∃c9,σ=[some (.ref r),some (.int mo),some (.ref n),some (.ref fl),c4,c5,some (.int x),some (.ref p),some (.ref u.1),c9])/\aB H H'/\Nr H H' n m C (nrF ns)/\H' n=some (.frz ob2 (.dK (mp C)))/\Fd H' fl (300+i) (IsL m ns) (N0\/rT ns x us\/Clo ns x u.2 ((kys D).take i))/\H' d=some (.frz ob3 (.dK (mp D)))/\H' u.1=some (.tup (u.2.map V.int))/\∃vs:LA,H' p=some (.lst ((ui++vs).map λu =>.ref u.1))/\TT H' (ui++vs)/\(∀v∈vs,Pth ns C x v.2/\v.2.length=u.2.length+1)/\vs.length<=i/\∀v∈(kys D).take i,x<v->v∉u.2->∃w∈vs,w.2=u.2++[v])
     ⟨⟨_,rfl⟩,s13,N12.fr f13,f13.fz en12,(F12.fr f13).mono (Dd _) (λh=>h.imp id λh=>h.resolve_right λh=>by obtain ⟨v,hv,_⟩:=h;cases hv),e13,f13.tup eu12,[],by rw[DZ];exact f13.lst ep12,by rw[DZ];exact f13.tt tu12,λv hv=>(by cases hv),Dd _,λv hv=>(by cases hv)⟩ (λi σ H' _ z=>z.2.2.2.2.2.1) ?_ ?_
    ·rintro i y σ H14 hy ⟨⟨c9,rfl⟩,s14,N14,en14,F14,ed14,eu14,vs,ep14,tv14,av,lv,wv⟩
     have tie:=(kD y).mp (Dp hy)
     have yk:y∈kys C:=cl y (prv u.2 0) (by rw[bN];exact tie)
     have tkD:(kys D).take (i+1)=(kys D).take i++[y]:=by rw[D3,hy];rfl
     have stayC:¬ (x<y/\y∉u.2/\1<u.2.length/\u.2.getD 1 0<y/\nrm y x∈ns)->(N0\/rT ns x us\/Clo ns x u.2 ((kys D).take (i+1)))->N0\/rT ns x us\/Clo ns x u.2 ((kys D).take i):=λno h=>h.imp id λh=>h.imp id λh=>by
      obtain ⟨v,hv,h1⟩:=h
      rw[tkD] at hv
      rcases Dh.mp hv with z | z
      ·exact ⟨v,z,h1⟩
      ·exact absurd ((show v=y by simpa using z) ▸ h1) no
     have stayW:¬ (x<y/\y∉u.2)->∀v∈(kys D).take (i+1),x<v->v∉u.2->∃w∈vs,w.2=u.2++[v]:=λno v hv a b=>by
      rw[tkD] at hv
      rcases Dh.mp hv with z | z
      ·exact wv v z a b
      ·have:v=y:=by simpa using z
       subst this
       exact absurd ⟨a,b⟩ no
     have hi:=(Di.mp hy).1
     refine ⟨_,rfl,_,rfl,_,_,rfl,rfl,_,rfl,cv (λz =>?_) λz =>?_⟩
     case refine_2=>exact cz ⟨⟨_,rfl⟩,s14,N14,en14,F14.mono (by lia) (stayC λh=>z (decide_eq_true h.1)),ed14,eu14,vs,ep14,tv14,av,by lia,stayW λh=>z (decide_eq_true h.1)⟩
     refine ⟨_,rfl,_,rfl,u.1,_,rfl,.inr (SqT.of eu14),rfl,di u.2,_,rfl,?_⟩
     show if (if true=true then !inV (.int y) (u.2.map V.int) else _)=true then _ else _
     rw[if_pos rfl,dw]
     by_cases yu:y∈u.2
     ·rw[decide_eq_true yu]
      exact cz ⟨⟨_,rfl⟩,s14,N14,en14,F14.mono (by lia) (stayC λh=>h.2.1 yu),ed14,eu14,vs,ep14,tv14,av,by lia,stayW λh=>h.2 yu⟩
     rw[decide_eq_false yu]
     have xy:x<y:=of_decide_eq_true z
     have pth:=pu0.snoc xy yu tie yk
     have lu1:(u.2++[y]).length=u.2.length+1:=by rw[C8];rfl
     refine bC ⟨_,rfl,.inl ⟨rfl,_,SqL.of ep14⟩,_,rfl,_,rfl,(by show 1<=Dm;decide),λtq htq =>?_⟩
     obtain ⟨H15,zQ9,g15,etq⟩:=nwZ htq (.tup [.int y])
     rw[zQ9]
     refine ⟨u.1,tq,_,_,rfl,rfl,g15 _ _ eu14,etq,by rw[C6];exact cJ (by show _+1<=_;lia),λt2 H16 s16 e16 =>?_⟩
     rw[show u.2.map V.int++[V.int y]=(u.2++[y]).map V.int by rw[Dj];rfl] at e16
     have g16:=g15.trans s16
     have ep16:=g16 _ _ ep14
     refine ⟨p,_,_,rfl,rfl,ep16,by rw[C6,C8];exact m6 (by lia),?_⟩
     have s17:=aB.cV (s14.trans g16) hp0 (.lst ((ui++vs).map (λu=>V.ref u.1)++[.ref t2]))
     have N17:=(N14.fr g16.fr).lst (ys:=(ui++vs).map (λu=>V.ref u.1)++[.ref t2]) ep16
     have en17:upd H16 p (.lst ((ui++vs).map (λu=>V.ref u.1)++[.ref t2])) n=some (.frz ob2 (.dK (mp C))):=by rw[az (EB pn)];exact g16 _ _ en14
     have F17:=(F14.fr g16.fr).put (ys:=(ui++vs).map (λu=>V.ref u.1)++[.ref t2]) ep16 pf
     have ed17:upd H16 p (.lst ((ui++vs).map (λu=>V.ref u.1)++[.ref t2])) d=some (.frz ob3 (.dK (mp D))):=by rw[az (cF (g16 _ _ ed14) ep16 (by intro z;cases z))];exact g16 _ _ ed14
     have eu17:upd H16 p (.lst ((ui++vs).map (λu=>V.ref u.1)++[.ref t2])) u.1=some (.tup (u.2.map V.int)):=by rw[az (cF (g16 _ _ eu14) ep16 (by intro z;cases z))];exact g16 _ _ eu14
     have ep17:upd H16 p (.lst ((ui++vs).map (λu=>V.ref u.1)++[.ref t2])) p=some (.lst ((ui++(vs++[(t2,u.2++[y])])).map λu=>V.ref u.1)):=by rw[ag, <- DQ,Dj (l₂:=[(t2,u.2++[y])])];rfl
     have tv17:TT (upd H16 p (.lst ((ui++vs).map (λu=>V.ref u.1)++[.ref t2]))) (ui++(vs++[(t2,u.2++[y])])):=by
      rw[<- DQ]
      exact ((tv14.same g16).snoc e16).put ep16
     have av17:∀v∈vs++[(t2,u.2++[y])],Pth ns C x v.2/\v.2.length=u.2.length+1:=λv hv=>by
      rcases Dh.mp hv with z | z
      ·exact av v z
      ·have:v=(t2,u.2++[y]):=by simpa using z
       subst this
       exact ⟨pth,lu1⟩
     have wv17:∀v∈(kys D).take (i+1),x<v->v∉u.2->∃w∈vs++[(t2,u.2++[y])],w.2=u.2++[v]:=λv hv a b=>by
      rw[tkD] at hv
      rcases Dh.mp hv with z | z
      ·obtain ⟨w,hw,e⟩:=wv v z a b
       exact ⟨w,DM _ hw,e⟩
      ·have:v=y:=by simpa using z
       subst this
       exact ⟨(t2,u.2++[v]),DE _ (by simp),rfl⟩
     have lv17:(vs++[(t2,u.2++[y])]).length<=i+1:=by rw[C8];show _+1<=_;lia
     generalize upd H16 p (.lst ((ui++vs).map (λu=>V.ref u.1)++[.ref t2]))=H17 at s17 N17 en17 F17 ed17 eu17 ep17 tv17
     generalize vs++[(t2,u.2++[y])]=ws at ep17 tv17 av17 lv17 wv17
     have out:(∃c9,([some (.ref r),some (.int mo),some (.ref n),some (.ref fl),c4,c5,some (.int x),some (.ref p),some (.ref u.1),some (.int y)]:St)=[some (.ref r),some (.int mo),some (.ref n),some (.ref fl),c4,c5,some (.int x),some (.ref p),some (.ref u.1),c9]):=⟨_,rfl⟩
     refine ⟨_,rfl,u.1,_,rfl,.inr (SqT.of eu17),_,_,rfl,rfl,_,rfl,cv (λz1 =>?_) λz1=>cz ⟨⟨_,rfl⟩,s17,N17,en17,F17.mono (by lia) (stayC λh=>z1 (decide_eq_true (by rw[C6];have:=h.2.2.1;lia))),ed17,eu17,ws,ep17,tv17,av17,lv17,wv17⟩⟩
     rw[C6] at z1
     have l1:1<u.2.length:=by have:=of_decide_eq_true z1;lia
     have a1:atI (u.2.map V.int) 1=some (.int (u.2[1]'l1)):=cO (j:=1) (by rw[Dq,Dc l1];rfl)
     refine ⟨_,rfl,u.1,_,1,_,rfl,rfl,SqT.of eu17,a1,_,rfl,_,_,rfl,rfl,_,rfl,cv (λz2 =>?_) λz2=>cz ⟨⟨_,rfl⟩,s17,N17,en17,F17.mono (by lia) (stayC λh=>z2 (decide_eq_true (by have:=h.2.2.2.1;rw[Du,Dc l1] at this;exact this))),ed17,eu17,ws,ep17,tv17,av17,lv17,wv17⟩⟩
     obtain ⟨_,dy,Dy,hgy,_,rdy,_,aly⟩:=N17.get yk
     refine ⟨_,rfl,_,rfl,_,rfl,n,_,rfl,N17.dg hgy,dy,_,rfl,kY rdy x,_,rfl,cv (λz3 =>?_) λz3=>⟨⟨_,rfl⟩,s17,N17,en17,F17.mono (by lia) (stayC λh=>z3 (by rw[aly x,GJ];exact gC.mpr h.2.2.2.2)),ed17,eu17,ws,ep17,tv17,av17,lv17,wv17⟩⟩
     obtain ⟨fus2,ef2,tf2,af2,lf2,_⟩:=F17
     refine ⟨_,rfl,.inl ⟨rfl,_,SqL.of ef2⟩,_,rfl,_,rfl,(by show 1<=Dm;decide),λtq htq =>?_⟩
     obtain ⟨H18,zQ9,g18,etq8⟩:=nwZ htq (.tup [.int y])
     rw[zQ9]
     refine ⟨u.1,tq,_,_,rfl,rfl,g18 _ _ eu17,etq8,by rw[C6];exact cJ (by show _+1<=_;lia),λt3 H19 s19 e19 =>?_⟩
     rw[show u.2.map V.int++[V.int y]=(u.2++[y]).map V.int by rw[Dj];rfl] at e19
     have g19:=g18.trans s19
     have ef19:=g19 _ _ ef2
     refine ⟨fl,_,_,rfl,rfl,ef19,by rw[C6];exact m6 (by lia),⟨_,rfl⟩,aB.cV (s17.trans g19) hfl0 _,(N17.fr g19.fr).lst ef19,by rw[az nfl];exact g19 _ _ en17,⟨fus2++[(t3,u.2++[y])],by rw[ag,Dj];rfl,((tf2.same g19).snoc e19).put ef19,λv hv =>?_,by rw[C8];show _+1<=_;lia,λ_=>by simp⟩,by rw[az (cF (g19 _ _ ed17) ef19 (by intro z;cases z))];exact g19 _ _ ed17,by rw[az (cF (g19 _ _ eu17) ef19 (by intro z;cases z))];exact g19 _ _ eu17,ws,by rw[az pf];exact g19 _ _ ep17,(tv17.same g19).put ef19,av17,lv17,wv17⟩
     rcases Dh.mp hv with z | z
     ·exact af2 v z
     ·have:v=(t3,u.2++[y]):=by simpa using z
      subst this
      exact pth.ring l1 (by have z3:=z3;rw[aly x,GJ] at z3;exact gC.mp z3) rgC
    ·rintro σ H14 ⟨⟨c9,rfl⟩,s14,N14,en14,F14,ed14,eu14,vs,ep14,tv14,av,lv,wv⟩
     rw[Dr (Dd _)] at wv F14
     rw[lkD] at lv F14
     have mstep:=wI (ui:=ui) (λv hv=>(kD v).mpr hv) wv
     rw[<- eus] at mstep
     refine ⟨⟨⟨_,_,rfl⟩,s14,N14,en14,ui++vs,F14.mono (by lia) (λh=>h.imp id mstep),ep14,tv14,λv hv =>?_,λk v e =>?_⟩,?_⟩
     ·rcases Dh.mp hv with z | z
      ·exact pu v (by rw[eus];exact DM _ z)
      ·exact (av v z).1
     ·rcases Nat.lt_or_ge k ui.length with c | c
      ·rw[Ed c] at e
       exact ku k v (by rw[eus,Ed c];exact e)
      ·rw[Eg c] at e
       have:=(av v (Dp e)).2
       have:=(Di.mp e).1
       lia
     ·show mu m H14 p<mu m H10 p
      rw[mu0,A7 ep14 tv14,eus]
      exact yO lu (λv hv=>(av v hv).2) (by lia)
   ·refine ⟨⟨_,_,_,_,_,_,rfl⟩,s11,N11,en11,fus,ef,tf,af,lf,λ_ e=>z (decide_eq_true ?_)⟩
    rw[e,hmo];show (0:Int)<=300;decide
  ·rintro σ H Q Q' h ⟨v,e,hz,hc⟩
   refine ⟨v,e,hz,λl hl =>?_⟩
   obtain ⟨a,b,us,ws,e1,e2,e3,e4,e5,e6,c,e7,q⟩:=hc l hl
   refine ⟨a,b,us,ws,e1,e2,e3,e4,e5,e6,c,e7,?_⟩
   cases c with
   | false=>exact h _ _ q
   | true =>
    obtain ⟨v,e,p,ys,e3,hs,v2,e2,i,j',e4,e5,c,e6,qq⟩:=q
    exact ⟨v,e,p,ys,e3,hs,v2,e2,i,j',e4,e5,c,e6,h _ _ qq⟩
 rintro σ H7 ⟨⟨c4,c5,c6,c7,c8,c9,rfl⟩,s7,N7,en7,fus,ef,tf,af,lf,nf⟩
 rw[Dr (Dd _)] at nf
 refine ⟨_,rfl,fl,fus,rfl,.inl (SqL.of ef),λu hu=>⟨SqT.of (tf u hu),(af u hu).1⟩,λl out hl pm _ =>?_⟩
 have g8:=ae hl (.lst (out.map λt=>V.ref t.1))
 refine q l _ out (s7.trans g8) ag (λu hu=>g8 _ _ (tf u (pm.mem_iff.mp hu))) (λu hu=>af u (pm.mem_iff.mp hu)) (λh e =>?_) (by rw[pm.length_eq];exact lf)
 obtain ⟨Z,hZ⟩:=h
 have hK:∀x y,nrm x y∈ns->x∈kys C:=cl
 refine nf ?_ (by rw[e] at pm;exact pm.nil_eq.symm)
 by_cases l3:Z.length<3
 ·exact .inl (yS O hZ l3 hK)
 ·obtain ⟨s,x,t,y,c,sZ⟩:=B5 hZ (by lia)
  exact .inr ⟨s,hK s x c.ch.1,x,t,y,c⟩
end
def oth (p:Int)(t:List Int):Int:=t.getD 0 0+t.getD 1 0-p
theorem u6 (p o:Int):oth p (nrm p o)=o:=by
 unfold oth nrm mnI mxI
 show (if o<p then o else p)+(if o>p then o else p)-p=o
 split <;> split <;> lia
theorem qj (p o:Int):p∈nrm p o:=by
 rcases Ju p o with c | c
 ·rw[cI c];simp
 ·rw[bN,cI c];simp
theorem k8 {m:Nat}{ns:List (List Int)}(O:Ok m ns)(ps:List Int):Ok m (ns.filter (off ps)):=λp hp=>O p (E4.mp hp).1
theorem Az (a b:List (List Int))(k:Int):cE (a++b) k=cE a k+cE b k:=by unfold cE;rw[Dj,Mq]
theorem cnt_cons (t:List Int)(b:List (List Int))(k:Int):cE (t :: b) k=(t.count k:Int)+cE b k:=by unfold cE;rw[DV,List.sum_cons]
theorem tX (k:Int):∀b:List (List Int),0<=cE b k
 | []=>Lg _
 | t :: b=>by rw[cnt_cons];have:=tX k b;lia
theorem qk {t:List Int}{k:Int}(hk:k∈t):∀{b:List (List Int)},t∈b->1<=cE b k
 | s :: b,h=>by
  rw[cnt_cons]
  rcases Dx.mp h with z | z
  ·subst z;have:=D7.mpr hk;have:=tX k b;lia
  ·have:=qk hk z;lia
theorem u7 {t u:List Int}{k:Int}(ne:t≠u)(ht:k∈t)(hu:k∈u):∀{b:List (List Int)},t∈b->u∈b->2<=cE b k
 | s :: b,h1,h2=>by
  rw[cnt_cons]
  rcases Dx.mp h1 with z | z <;> rcases Dx.mp h2 with y | y
  ·exact absurd (z.trans y.symm) ne
  ·subst z;have:=D7.mpr ht;have:=qk hu y;lia
  ·subst y;have:=D7.mpr hu;have:=qk ht z;lia
  ·have:=u7 ne ht hu z y;lia
theorem rW {k:Int}:∀{b:List (List Int)},[k,k]∈b->2<=cE b k
 | s :: b,h=>by
  rw[cnt_cons]
  rcases Dx.mp h with z | z
  ·subst z;have:([k,k]:List Int).count k=2:=by simp
   have:=tX k b;lia
  ·have:=rW z;lia
theorem yU (a b v:Int):(([a,b]:List Int).count v:Int)=(if a=v then 1 else 0)+if b=v then 1 else 0:=by
 rw[Jb,Jb,List.count_nil]
 by_cases h1:a=v <;> by_cases h2:b=v <;> simp[h1,h2]
def dO (E:List (List Int)):Prop:=∀pre t post,E=pre++t :: post->∀a b:Int,t=[a,b]->¬ Con pre a b
theorem Con.up {E E':List (List Int)}(h:∀t∈E,t∈E'){u v:Int}(c:Con E u v):Con E' u v:=by
 induction c with
 | refl=>exact .refl _
 | step _ a ih =>
  obtain ⟨p,hp,hx⟩:=cS.mp a
  exact .step ih (cS.mpr ⟨p,h p hp,hx⟩)
theorem kG {E:List (List Int)}(w:dO E)(q:List Int->Bool):dO (E.filter q):=λpre t post e a b et c=>by
 obtain ⟨l1,l2,e1,e2,e3⟩:=List.filter_eq_append_iff.mp e
 obtain ⟨m1,m2,e4,_,_,_⟩:=List.filter_eq_cons_iff.mp e3
 refine w (l1++m1) t m2 (by rw[e1,e4,DQ]) a b et (c.up λs hs =>?_)
 rw[<- e2] at hs
 exact DM _ (E4.mp hs).1
theorem o7 {m:Nat}:∀(n:Nat) (E:List (List Int)),E.length=n->Ok m E->dO E->∀u x:Int,∃v,Con E u v/\cE E v<=1/\(v≠x\/cE E v=0)
 | 0,E,hn,_,_,u,x=>by
  have:=Ff.mp hn
  subst this
  exact ⟨u,.refl _,(by show (0:Int)<=1;decide),.inr rfl⟩
 | n+1,E,hn,O,w,u,x=>by
  rcases Hj E with h | ⟨E',t,h⟩
  ·rw[h] at hn;cases hn
  rw[Hk] at h
  subst h
  obtain ⟨a,b,rfl,a0,ab,bm⟩:=O t (by simp)
  have nc:=w E' [a,b] [] rfl a b rfl
  have O':Ok m E':=λt ht=>O t (DM _ ht)
  have w':dO E':=λpre t post e a' b' et=>w pre t (post++[[a,b]]) (by rw[e];simp) a' b' et
  have ih:=o7 n E' (by rw[C8] at hn;exact MQ hn) O' w'
  have up:∀{u v:Int},Con E' u v->Con (E'++[[a,b]]) u v:=λc=>c.up λs hs=>DM _ hs
  have ne:a≠b:=λe=>nc (e ▸ .refl _)
  have tie:Con (E'++[[a,b]]) a b :=.one ((dN O).mpr ⟨a,b,DE _ (by simp),ne,.inl ⟨rfl,rfl⟩⟩)
  have cnt:∀v,cE (E'++[[a,b]]) v=cE E' v+((if a=v then 1 else 0)+if b=v then 1 else 0):=λv=>by
   rw[Az,cnt_cons,yU]
   show _=_+(_+_)
   have:cE [] v=0:=rfl
   lia
  obtain ⟨v1,c1,k1,d1⟩:=ih a a
  obtain ⟨v2,c2,k2,d2⟩:=ih b b
  have n1:b≠v1:=λe=>nc (e ▸ c1)
  have n2:a≠v2:=λe=>nc ((e ▸ c2).symm O')
  have l1:cE (E'++[[a,b]]) v1<=1:=by
   rw[cnt,if_neg n1]
   by_cases z:a=v1
   ·rw[if_pos z];rcases d1 with y | y
    ·exact absurd z.symm y
    ·lia
   ·rw[if_neg z];lia
  have l2:cE (E'++[[a,b]]) v2<=1:=by
   rw[cnt,if_neg n2]
   by_cases z:b=v2
   ·rw[if_pos z];rcases d2 with y | y
    ·exact absurd z.symm y
    ·lia
   ·rw[if_neg z];lia
  have n12:v1≠v2:=λe=>nc (c1.trans (e ▸ c2.symm O'))
  have two:Con (E'++[[a,b]]) u a->∃v,Con (E'++[[a,b]]) u v/\cE (E'++[[a,b]]) v<=1/\(v≠x\/cE (E'++[[a,b]]) v=0):=λc=>by
   by_cases z:v1=x
   ·exact ⟨v2,(c.trans tie).trans (up c2),l2,.inl λy=>n12 (z.trans y.symm)⟩
   ·exact ⟨v1,c.trans (up c1),l1,.inl z⟩
  by_cases ha:Con E' u a
  ·exact two (up ha)
  by_cases hb:Con E' u b
  ·exact two ((up hb).trans (tie.symm O))
  obtain ⟨v,c,k,d⟩:=ih u x
  have z1:a≠v:=λe=>ha (e ▸ c)
  have z2:b≠v:=λe=>hb (e ▸ c)
  have:cE (E'++[[a,b]]) v=cE E' v:=by rw[cnt,if_neg z1,if_neg z2];lia
  exact ⟨v,up c,by lia,by rw[this];exact d⟩
theorem stuck {m:Nat}{ns:List (List Int)}(O:Ok m ns)(w:dO ns){G:List Int}{u:Int}(hu:0<=u/\u<m)(hG:u∉G)(hc:∀v:Int,0<=v/\v<m->v∉G->2<=cE (ns.filter (off G)) v):False:=by
 have O':=k8 O G
 obtain ⟨v,c,k,_⟩:=o7 _ _ rfl O' (kG w (off G)) u u
 have rv:=c.rng O' hu
 have nv:v∉G:=c.closed (R:=λv=>v∉G) hG λx y _ a=>by
  obtain ⟨p,q,hp,ne,hx⟩:=(dN O').mp a
  have:=(E4.mp hp).2
  unfold off at this
  have z:p∉G/\q∉G:=by simpa using this
  rcases hx with ⟨rfl,rfl⟩ | ⟨rfl,rfl⟩
  ·exact z.2
  ·exact z.1
 have:=hc v rv nv
 lia
theorem fP {p v:Int}:∀E:List (List Int),(E.count (nrm p v):Int)<=cE E p
 | []=>Lg _
 | t :: E=>by
  have ih:=fP (p:=p) (v:=v) E
  rw[cnt_cons,Jb]
  by_cases e:t=nrm p v
  ·have:=D7.mpr (show p∈t from e ▸ qj p v)
   rw[if_pos (by simpa using e)];lia
  ·rw[if_neg (by simpa using e)];lia
theorem AA {m:Nat}{E:List (List Int)}(O:Ok m E){u v:Int}(h:Adj E u v):nrm u v∈E:=by
 obtain ⟨a,b,hp,_,h⟩:=(dN O).mp h
 obtain ⟨_,_,e,_,ab,_⟩:=O _ hp
 cases e
 rcases h with ⟨rfl,rfl⟩ | ⟨rfl,rfl⟩
 ·rw[cI ab];exact hp
 ·rw[bN,cI ab];exact hp
theorem AB {m:Nat}{E:List (List Int)}(O:Ok m E){u v:Int}(c:Con E u v):∃X:List Int,(X++[v]).Nodup/\Chn E (X++[v])/\(X++[v]).head? = some u:=by
 induction c with
 | refl=>exact ⟨[],by simp,trivial,rfl⟩
 | step _ a ih =>
  rename_i v w _
  obtain ⟨X,nd,ch,hd⟩:=ih
  have t:=AA O a
  by_cases h:w∈X++[v]
  ·obtain ⟨A,B,e,_⟩:=Jo h
   rw[e] at nd ch hd
   refine ⟨A,nd.sublist ?_,((cK w B A).mp ch).1,?_⟩
   ·exact List.Sublist.append_left (by simp) A
   ·cases A with
    | nil=>exact hd
    | cons a A=>exact hd
  ·refine ⟨X++[v],FA.mpr ⟨nd,by simp,λp hp q hq e=>h ?_⟩,?_,?_⟩
   ·have:q=w:=by simpa using hq
    rw[<- this, <- e];exact hp
   ·rw[DQ];exact (cK v [w] X).mpr ⟨ch,t,trivial⟩
   ·cases X with
    | nil=>exact hd
    | cons a X=>exact hd
theorem yV {E E':List (List Int)}(h:∀t∈E,t∈E'):∀{X:List Int},Chn E X->Chn E' X
 | [],_=>trivial
 | [_],_=>trivial
 | _ :: _ :: _,c=>⟨h _ c.1,yV h c.2⟩
theorem u9 {m:Nat}{E:List (List Int)}(O:Ok m E):∀{X:List Int},Chn E X->(∀v,X.head? = some v->0<=v/\v<(m:Int))->∀v∈X,0<=v/\v<(m:Int)
 | [],_,_,v,hv=>by cases hv
 | [a],_,h,v,hv=>by
  have:v=a:=by simpa using hv
  subst this
  exact h _ rfl
 | a :: b :: t,c,h,v,hv=>by
  rcases Dx.mp hv with z | z
  ·subst z;exact h _ rfl
  ·exact u9 O c.2 (λw hw=>by cases hw;exact (jT O (D7.mpr c.1)).2) v z
theorem yW {m:Nat}{E:List (List Int)}(O:Ok m E)(h:¬ dO E):∃Z,IsL m E Z:=by
 apply FR
 intro no
 apply h
 intro pre t post e a b et c
 subst et
 have hin:[a,b]∈E:=by rw[e];simp
 obtain ⟨_,_,ee,a0,ab,bm⟩:=O _ hin
 cases ee
 have sub:∀t∈pre,t∈E:=λt ht=>by rw[e];exact DM _ ht
 have Op:Ok m pre:=λt ht=>O t (sub t ht)
 obtain ⟨X,nd,ch,hd⟩:=AB Op c
 apply no
 match X,nd,ch,hd with
 | [],_,_,hd =>
  cases hd
  exact ⟨[a],u3 ⟨a0,bm⟩ (by rw[cI ab];exact hin)⟩
 | [x],nd,ch,hd =>
  cases hd
  have ne:a≠b:=λz=>(EI.mp nd).1 (by rw[z];simp)
  refine ⟨[a,b],u5 O (by lia) ?_⟩
  have:=D7.mpr ch.1
  rw[cI ab] at this ⊢
  rw[e,JR,List.count_cons_self]
  lia
 | x :: y :: X,nd,ch,hd =>
  cases hd
  have chE:Chn E ((a :: y :: X)++[b]):=yV sub ch
  refine ⟨a :: (y :: X++[b]),(jq (by simp)).mpr ⟨nd,u9 O chE λv hv =>?_,?_⟩⟩
  ·cases hv;exact ⟨a0,by lia⟩
  ·rw[show a :: (y :: X++[b])++[a]=(a :: y :: X)++b :: [a] by simp]
   exact (cK b [a] (a :: y :: X)).mpr ⟨chE,by rw[bN,cI ab];exact hin,trivial⟩
theorem getD_inj {Z:List Int}(nd:Z.Nodup){i j:Nat}(hi:i<Z.length)(hj:j<Z.length)(e:Z.getD i 0=Z.getD j 0):i=j:=by
 rw[Du,Du,Dc hi,Dc hj] at e
 exact (LL hi nd).mp (by rw[Dc hi,Dc hj];exact congrArg some e)
theorem getD_mem {Z:List Int}{i:Nat}(hi:i<Z.length):Z.getD i 0∈Z:=by
 rw[Du,Dc hi];exact HK _
theorem va {G:List Int}{x y:Int}(hx:x∉G)(hy:y∉G):off G (nrm x y)=true:=by
 rcases Ju x y with c | c
 ·rw[cI c];unfold off;simp[hx,hy]
 ·rw[bN,cI c];unfold off;simp[hx,hy]
theorem B6 {m:Nat}{E:List (List Int)}(O:Ok m E)(w:dO E){Z:List Int}(h:IsL m E Z):False:=by
 obtain ⟨ne,nd,rg,h2,h3⟩:=h
 have hZ:∀v:Int,0<=v/\v<(m:Int)->(v∉(rgI m).filter (λv=>decide (v∉Z))↔v∈Z):=λv hv=>by
  rw[E4,decide_eq_true_iff]
  constructor
  ·intro q
   exact FR λn=>q ⟨fM.mpr hv,n⟩
  ·intro q z
   exact z.2 q
 generalize (rgI m).filter (λv=>decide (v∉Z))=G at hZ
 have hO:∀x∈Z,∀y∈Z,(E.filter (off G)).count (nrm x y)=E.count (nrm x y):=λx hx y hy=>by
  rw[LM (va ((hZ x (rg x hx)).mpr hx) ((hZ y (rg y hy)).mpr hy))]
 obtain ⟨u,hu⟩:=List.exists_mem_of_ne_nil _ ne
 refine stuck O w (G:=G) (u:=u) (rg u hu) ((hZ u (rg u hu)).mpr hu) λv hv nv =>?_
 have vZ:=(hZ v hv).mp nv
 by_cases l3:Z.length<3
 ·have h2:=h2 l3
  match Z,ne,vZ,l3,h2,hO with
  | [x],_,vZ,_,h2,hO =>
   have:v=x:=by simpa using vZ
   subst this
   have h4:0<(E.filter (off G)).count (nrm v v):=by rw[hO v vZ v vZ];exact h2
   rw[cI (Lg v)] at h4
   exact rW (D7.mp h4)
  | [x,y],_,vZ,_,h2,hO =>
   have h4:2<=(E.filter (off G)).count (nrm x y):=by rw[hO x (by simp) y (by simp)];exact h2
   have:v=x\/v=y:=by simpa using vZ
   rcases this with z | z <;> subst z
   ·have:=fP (p:=v) (v:=y) (E.filter (off G));lia
   ·rw[bN] at h4
    have:=fP (p:=v) (v:=x) (E.filter (off G));lia
  | _ :: _ :: _ :: _,_,_,l3,_,_=>simp at l3;lia
 ·have h3:=h3 l3
  obtain ⟨k,hk,ek⟩:=Ja vZ
  have ek:Z.getD k 0=v:=by rw[Du,Dc hk];exact ek
  have t1:=h3 k hk
  have t2:=h3 (if k+1=Z.length then 0 else k+1) (by split <;> lia)
  have p2:prv Z (if k+1=Z.length then 0 else k+1)=v:=by
   unfold prv
   rw[<- ek]
   congr 1
   split
   ·rw[if_pos rfl];lia
   ·rw[if_neg (by lia)];lia
  have hi:(if k=0 then Z.length-1 else k-1)<Z.length:=by split <;> lia
  have hj:(if k+1=Z.length then 0 else k+1)<Z.length:=by split <;> lia
  have dif:prv Z k≠Z.getD (if k+1=Z.length then 0 else k+1) 0:=λe=>by
   have:=getD_inj nd hi hj e
   split at this <;> split at this <;> lia
  have pm:prv Z k∈Z:=getD_mem hi
  have nm:Z.getD (if k+1=Z.length then 0 else k+1) 0∈Z:=getD_mem hj
  rw[p2] at t2
  generalize Z.getD (if k+1=Z.length then 0 else k+1) 0=n at t2 dif nm
  rw[ek,bN] at t1
  generalize prv Z k=p at t1 dif pm
  rw[<- hO v vZ p pm] at t1
  rw[<- hO v vZ n nm] at t2
  refine u7 (t:=nrm v p) (u:=nrm v n) (λe=>dif ?_) (qj _ _) (qj _ _) (D7.mp t1) (D7.mp t2)
  have:=congrArg (oth v) e
  rwa [u6,u6] at this
theorem C3 {L:List Int}{m:Nat}(hl:L.length=m){v:Int}(hv:0<=v/\v<m):L[v.toNat]? = some (gt L v):=by
 unfold gt
 rw[Dc (by lia),Du,Dc (by lia)];rfl
structure Grp (m:Nat)(ns:List (List Int))(G:List Int):Prop where
 len:G.length=m
 iff:∀u v:Int,0<=u/\u<m->0<=v/\v<m->(gt G u=gt G v↔Con ns u v)
theorem yX {m:Nat}{u:Int}(h:0<=u/\u<m):gt (rgI m) u=u:=by
 unfold gt rgI
 rw[Du,Dq,Lb (by lia)]
 show ((u.toNat:Nat):Int)=u
 lia
theorem Grp.start (m:Nat):Grp m [] (rgI m):=by
 refine ⟨by unfold rgI;simp,λu v hu hv =>?_⟩
 rw[yX hu,yX hv]
 refine ⟨λe=>e ▸ .refl _,λc =>?_⟩
 induction c with
 | refl=>rfl
 | step _ a _=>exact absurd a (by unfold Adj nbs;simp)
theorem Con.mono {ns ns':List (List Int)}(h:∀t∈ns,t∈ns'){u v:Int}(c:Con ns u v):Con ns' u v:=by
 induction c with
 | refl=>exact .refl _
 | step _ a ih =>
  obtain ⟨p,hp,hx⟩:=cS.mp a
  exact .step ih (cS.mpr ⟨p,h p hp,hx⟩)
def mrg (G:List Int)(a b:Int):List Int:=G.map λx=>if x=gt G b then gt G a else x
theorem qm {m:Nat}{G:List Int}(h:G.length=m){a b u:Int}(hu:0<=u/\u<m):gt (mrg G a b) u=if gt G u=gt G b then gt G a else gt G u:=by
 have e:G[u.toNat]? = some (gt G u):=by
  unfold gt
  rw[Dc (by lia),Du,Dc (by lia)];rfl
 show (mrg G a b).getD u.toNat 0=_
 unfold mrg
 rw[Du,Dq,e];rfl
theorem AD {m:Nat}{ns:List (List Int)}(O:Ok m ns){a b:Int}(a0:0<=a)(ab:a<=b)(bm:b<m):Ok m (ns++[[a,b]]):=λp hp=>by
 rcases Dh.mp hp with z | z
 ·exact O p z
 ·rw[DD] at z;exact ⟨a,b,z,a0,ab,bm⟩
theorem Grp.add {m:Nat}{ns:List (List Int)}(O:Ok m ns){G:List Int}(h:Grp m ns G){a b:Int}(a0:0<=a)(ab:a<=b)(bm:b<m):Grp m (ns++[[a,b]]) (mrg G a b):=by
 have O':=AD O a0 ab bm
 have up:∀{u v:Int},Con ns u v->Con (ns++[[a,b]]) u v:=λc=>c.mono λt ht=>DM _ ht
 have ha:0<=a/\a<m:=⟨a0,by lia⟩
 have hb:0<=b/\b<m:=⟨by lia,bm⟩
 have tie:Con (ns++[[a,b]]) a b:=by
  by_cases c:a=b
  ·subst c;exact .refl _
  ·exact .one ((dN O').mpr ⟨a,b,DE _ (by simp),c,.inl ⟨rfl,rfl⟩⟩)
 refine ⟨by unfold mrg;rw[C6];exact h.len,λu v hu hv=>⟨λe =>?_,λc =>?_⟩⟩
 ·rw[qm h.len hu,qm h.len hv] at e
  by_cases c1:gt G u=gt G b
  ·have u1:=up ((h.iff u b hu hb).mp c1)
   rw[if_pos c1] at e
   by_cases c2:gt G v=gt G b
   ·exact u1.trans ((up ((h.iff v b hv hb).mp c2)).symm O')
   ·rw[if_neg c2] at e
    exact (u1.trans (tie.symm O')).trans (up ((h.iff a v ha hv).mp e))
  ·rw[if_neg c1] at e
   by_cases c2:gt G v=gt G b
   ·rw[if_pos c2] at e
    exact ((up ((h.iff u a hu ha).mp e)).trans tie).trans ((up ((h.iff v b hv hb).mp c2)).symm O')
   ·rw[if_neg c2] at e
    exact up ((h.iff u v hu hv).mp e)
 ·clear hv
  induction c with
  | refl=>rfl
  | step c1 aj ih =>
   rename_i x y
   have rx:=uS O' aj
   refine (ih).trans ?_
   obtain ⟨c,d,hp,ne,hx⟩:=(dN O').mp aj
   rw[qm h.len rx.1,qm h.len rx.2]
   rcases Dh.mp hp with z | z
   ·have:gt G x=gt G y:=(h.iff x y rx.1 rx.2).mpr (.one ((dN O).mpr ⟨c,d,z,ne,hx⟩))
    rw[this]
   ·rw[DD] at z
    cases z
    rcases hx with ⟨rfl,rfl⟩ | ⟨rfl,rfl⟩
    ·simp
    ·simp
theorem m7:dO []:=λpre t post e=>by cases pre <;> cases e
theorem o8 {E:List (List Int)}(w:dO E){a b:Int}(h:¬ Con E a b):dO (E++[[a,b]]):=λpre t post e x y et c=>by
 rcases Hj post with z | ⟨post',l,z⟩
 ·subst z
  obtain ⟨e1,e2⟩:=Md e rfl
  cases e2
  cases et
  rw[e1] at h
  exact h c
 ·rw[Hk] at z
  subst z
  have e':E++[[a,b]]=(pre++t :: post')++[l]:=by rw[e];simp
  obtain ⟨e1,_⟩:=Md e' rfl
  exact w pre t post' e1 x y et c
abbrev vb:Sp:=λvs H Q _=>∃(r:Addr) (m:Nat) (ts:LA),vs=[.ref r]/\Wb H r m ts/\m<=200/\∀(H':Hp) (b:Bool),aB H H'->(b=true↔dO (ts.map (·.2)))->Q (.bl b) H'
@[irreducible] def m8:Sp:=vb
theorem d9 {vs:List V}{H:Hp}{Q:VK}{E:XK}:m8 vs H Q E↔vb vs H Q E:=by
 delta m8
 exact Gn
section
theorem fg:aU ["web", "group", "one", "other"] ["web"] (aG mK):=⟨rfl,rfl,rfl,by decide +kernel,rfl,by decide +kernel,by decide +kernel⟩
theorem dC:(["mark", "group", "other", "one"]:List Str).Nodup:=by decide +kernel
theorem wJ (F:Fun K "_law_is_wood" "_law_is_wood" mK f fd)(B:Blt mg):cy P w K mg base CX0 1 f fd ["web"] m8:=by
 refine F.ok fg (λvs H Q E h =>?_) (λcdv A outer s H vs Q E hr h =>?_)
 ·obtain ⟨_,_,_,rfl,_⟩:=d9.mp h
  rfl
 obtain ⟨r,m,ts,rfl,W,m2,q⟩:=d9.mp h
 refine ⟨_,(ai (aS (i:=1) fg.nd rfl (Or.inr rfl) (aR (mB hr.hd) rfl B.b_list jf (aa (aR gp rfl B.b_range mO (aa (aM aV (pv 0) ak (λ_ _=>rfl)) ah rfl)) ah rfl)))
  (ai (bR Ea rfl (fY (aM aV (pv 0) ak (λ_ _=>rfl))) (aX rfl (ax (ao (i:=2) fg.nd rfl (Or.inr rfl)) (ax (ao (i:=3) fg.nd rfl (Or.inr rfl)) aP)))
   (ai (bh (aD cu (aM cC (pv 1) (pv 2) (λ_ _=>rfl)) (aM cC (pv 1) (pv 3) (λ_ _=>rfl)) (aH _)) (aq (aJ dU)) aL)
   (aq (aS (i:=1) fg.nd rfl (Or.inr rfl) (bY ["mark", "group", "other", "one"] [none,some 1,some 3,some 2] rfl (bO (pv 1)) rfl (λ_ _ _ _ _=>(ao (i:=0) dC rfl (Or.inl rfl))) (λ_ _ _ _ _=>de) (λ_ _ _ _ _=>(wX (aD cu (pv 0) (aM (qK (K:=K)) (pv 1) (pv 2) (λ_ _=>rfl)) (aH _)) (aM (qK (K:=K)) (pv 1) (pv 3) (λ_ _=>rfl)) (pv 0))))))) (λ_=>rfl))
  (aq (aJ dU)))),?_⟩
 obtain ⟨t,e1,e2⟩:=W.at'
 have O:=oX W
 refine ⟨_,rfl,r,_,0,_,rfl,rfl,SqT.of e1,rfl,m,rfl,λra hra=>⟨ra,m,rfl,ag,by lia,λgl hgl =>?_⟩⟩
 have g1:=(ae hra (.rng 0 m)).trans (ae hgl (.lst ((Eo m).map λi:Nat=>V.int (i:Int))))
 have egl:upd (upd H ra (.rng 0 m)) gl (.lst ((Eo m).map λi:Nat=>V.int (i:Int))) gl=some (.lst ((rgI m).map V.int)):=by rw[ag];unfold rgI;rw[Fo];rfl
 generalize upd (upd H ra (.rng 0 m)) gl (.lst ((Eo m).map λi:Nat=>V.int (i:Int)))=H1 at g1 egl
 let W0:Nat->St->Hp->Prop:=λi σ H'=>∃(gl:Addr) (G:List Int) (c2 c3:Option V),σ=[some (.ref r),some (.ref gl),c2,c3]/\aB H H'/\H' gl=some (.lst (G.map V.int))/\Grp m ((ts.take i).map (·.2)) G/\dO ((ts.take i).map (·.2))
 refine ⟨_,rfl,r,_,1,_,rfl,rfl,SqT.of (g1 _ _ e1),rfl,t,rfl,⟨_,SqT.of (g1 _ _ e2)⟩,t9 (xs:=ts.map λu =>.ref u.1) W0 ⟨gl,_,_,_,rfl,g1,egl,Grp.start m,m7⟩ (λi σ H' _ z =>?_) ?_ ?_⟩
 ·obtain ⟨_,_,_,_,_,s',_⟩:=z
  exact SqT.of (s' _ _ e2)
 ·rintro i x σ H2 hx ⟨gl,G,c2,c3,rfl,s2,eg,hG,wd⟩
  obtain ⟨u,eu,rfl⟩:=item hx
  have mu:=Dp eu
  obtain ⟨a,b,ab2,a0,ab,bm⟩:=W.pr u mu
  have hu:=W.tup u mu
  rw[ab2] at hu
  have hu':=s2 _ _ hu
  have lG:G.length=m:=hG.len
  have tk:(ts.take (i+1)).map (·.2)=(ts.take i).map (·.2)++[[a,b]]:=by rw[take_snoc (f:=(·.2)) eu,ab2]
  have at':∀v:Int,0<=v/\v<m->atI (G.map V.int) v=some (.int (gt G v)):=λv hv=>by
   obtain ⟨k,rfl⟩:∃k:Nat,v=k:=⟨v.toNat,by lia⟩
   have:=C3 lG hv
   rw[Fx] at this
   exact cO (by rw[Dq,this];rfl)
  have ra:0<=a/\a<m:=⟨a0,by lia⟩
  have rb:0<=b/\b<m:=⟨by lia,bm⟩
  refine ⟨u.1,_,rfl,SqT.of hu',rfl,_,_,rfl,_,_,rfl,rfl,_,rfl,_,rfl,gl,_,a,_,rfl,rfl,SqL.of eg,at' a ra,_,rfl,_,rfl,gl,_,b,_,rfl,rfl,SqL.of eg,at' b rb,rfl,_,rfl,?_⟩
  by_cases c:gt G a=gt G b
  ·rw[decide_eq_true (by rw[c])]
   refine bC (q H2 false s2 ⟨λh=>by (cases h),λw =>?_⟩)
   refine (w ((ts.take i).map (·.2)) [a,b] ((ts.drop (i+1)).map (·.2)) ?_ a b rfl ((hG.iff a b ra rb).mp c)).elim
   have ei:i<ts.length:=(Di.mp eu).1
   have gi:ts[i]=u:=(Di.mp eu).2
   have:=congrArg (List.map (λu:Addr×List Int=>u.2)) (Fz i ts)
   rw[JA ei,gi,Dj,DV,ab2] at this
   exact this.symm
  ·rw[decide_eq_false (by intro z;injection z with z;exact c z)]
   refine cz ⟨_,rfl,gl,rfl,⟨_,SqL.of eg⟩,bW (xs:=G.map V.int) (λj ys H'=>H'=H2/\ys=(((G.take j).map λx=>if x=gt G b then gt G a else x)).map V.int) ⟨rfl,rfl⟩ (by rw[C6];exact small (by lia)) (λj ys H' _ z=>by rw[z.1];exact SqL.of eg) ?_ ?_⟩
   ·rintro j x ys H' hx hy ⟨eH,rfl⟩ R1 R0 r1 r0
    obtain ⟨v,ev,rfl⟩:=eE hx
    have eg4:SqL K H' gl (G.map V.int):=by rw[eH];exact SqL.of eg
    refine bC ⟨_,rfl,_,rfl,_,rfl,gl,_,b,_,rfl,rfl,eg4,at' b rb,rfl,_,rfl,?_⟩
    by_cases d:v=gt G b
    ·rw[decide_eq_true (by rw[d])]
     refine bC ⟨_,rfl,_,rfl,gl,_,a,_,rfl,rfl,eg4,at' a ra,r1 _ _ ⟨eH,?_⟩⟩
     rw[take_snoc (f:=λx=>if x=gt G b then gt G a else x) ev,Dj,if_pos d];rfl
    ·rw[decide_eq_false (by intro z;injection z with z;exact d z)]
     refine cz ⟨_,rfl,r1 _ _ ⟨eH,?_⟩⟩
     rw[take_snoc (f:=λx=>if x=gt G b then gt G a else x) ev,Dj,if_neg d];rfl
   ·rintro ys H' hy ⟨eH,rfl⟩ l hl
    rw[eH] at hl ⊢
    rw[C6,Dr (Dd _)]
    have g5:=ae hl (.lst ((mrg G a b).map V.int))
    refine ⟨l,mrg G a b,_,_,rfl,s2.trans g5,ag,?_,?_⟩
    ·rw[tk]
     refine hG.add (λt ht=>O t ?_) a0 ab bm
     obtain ⟨v,hv,rfl⟩:=DR.mp ht
     exact E3 (f:=(·.2)) (Fl hv)
    ·rw[tk]
     exact o8 wd λz=>c ((hG.iff a b ra rb).mpr z)
 ·rintro σ H2 ⟨gl,G,c2,c3,rfl,s2,eg,hG,wd⟩
  rw[C6,Dr (Dd _)] at wd
  exact q H2 true s2 ⟨λ_=>wd,λ_=>rfl⟩
end
theorem AE {m:Nat}{E:List (List Int)}{a b:Int}(O:Ok m (E++[[a,b]]))[Decidable (Con E a b)]:(E++[[a,b]]).length+(bg (E++[[a,b]]) m m).length=E.length+(bg E m m).length+if Con E a b then 1 else 0:=by
 have er:(E++[[a,b]]).reverse=[a,b] :: E.reverse:=by rw[GS];rfl
 have O':Ok m ([a,b] :: E.reverse):=λt ht=>O t (by rw[<- er] at ht;exact G0.mp ht)
 have c:=As O'
 rw[<- er,yD,E2,E2,yD] at c
 rw[c]
 have cc:Con E.reverse a b↔Con E a b:=⟨λz=>z.up λt ht=>G0.mp ht,λz=>z.up λt ht=>G0.mpr ht⟩
 by_cases h:Con E a b
 ·rw[if_pos h,if_pos (cc.mpr h)]
 ·rw[if_neg h,if_neg λz=>h (cc.mp z)]
open Classical in
theorem vc {m:Nat}:∀(n:Nat) (E:List (List Int)),E.length=n->Ok m E->m<=E.length+(bg E m m).length/\(dO E↔E.length+(bg E m m).length=m)
 | 0,E,hn,_=>by
  have:=Ff.mp hn
  subst this
  have:=B4 m
  exact ⟨by rw[this];show m<=0+m;lia,λ_=>by rw[this];show 0+m=m;lia,λ_=>m7⟩
 | n+1,E,hn,O=>by
  rcases Hj E with h | ⟨E',t,h⟩
  ·rw[h] at hn;cases hn
  rw[Hk] at h
  subst h
  obtain ⟨a,b,rfl,a0,ab,bm⟩:=O t (by simp)
  have O':Ok m E':=λt ht=>O t (DM _ ht)
  obtain ⟨ge,iff⟩:=vc n E' (by rw[C8] at hn;exact MQ hn) O'
  have s:=AE O
  have down:dO (E'++[[a,b]])->dO E'/\¬ Con E' a b:=λw=>⟨λpre t post e a' b' et=>w pre t (post++[[a,b]]) (by rw[e];simp) a' b' et,w E' [a,b] [] rfl a b rfl⟩
  by_cases c:Con E' a b
  ·rw[if_pos c] at s
   exact ⟨by lia,λw=>absurd c (down w).2,λz=>by lia⟩
  ·rw[if_neg c] at s
   refine ⟨by lia,λw =>?_,λz=>o8 (iff.mpr (by lia)) c⟩
   have:=iff.mp (down w).1
   lia
abbrev yY:Sp:=λvs H Q _=>∃(r p:Addr) (m:Nat) (ts:LA) (R:List Int),vs=[.ref r,.ref p]/\Wb H r m ts/\m<=200/\H p=some (.tup (R.map V.int))/\∀(H':Hp) (b:Bool),aB H H'->(b=true↔dO ((ts.map (·.2)).filter (off R)))->Q (.bl b) H'
@[irreducible] def vd:Sp:=yY
theorem jV {vs:List V}{H:Hp}{Q:VK}{E:XK}:vd vs H Q E↔yY vs H Q E:=by
 delta vd
 exact Gn
section
theorem rX:aU ["web", "places"] ["web", "places"] (aG iz):=⟨rfl,rfl,rfl,by decide +kernel,rfl,by decide +kernel,by decide +kernel⟩
theorem rY (F:Fun K "clears_web" "clears_web" iz f fd)(B:Blt mg)(cSpareTies:Cal P w K mg base 3 "spare_ties" ["web"] kU)(cCutWeb:Cal P w K mg base 1 "cut_web" ["web", "places"] kF):cy P w K mg base CX0 4 f fd ["web", "places"] vd:=by
 refine F.ok rX (λvs H Q E h =>?_) (λcdv A outer s H vs Q E hr h =>?_)
 ·obtain ⟨_,_,_,_,_,rfl,_⟩:=jV.mp h
  rfl
 obtain ⟨r,p,m,ts,R,rfl,W,m4,hp,q⟩:=jV.mp h
 refine ⟨_,(aq (aJ (fq cu (aY cSpareTies hr (by decide) rfl (aa (aY cCutWeb hr (by decide) rfl (aa (pv 0) (aa (pv 1) ah rfl) rfl)) ah rfl)) ak (aH _)))),?_⟩
 refine ⟨_,rfl,_,rfl,cU.mpr ⟨r,p,m,ts,R,rfl,W,.inr hp,λz us H1 s1 W1 e1 =>?_⟩⟩
 refine gy.mpr ⟨z,m,us,rfl,W1,by lia,λH2 s2=>⟨rfl,?_⟩⟩
 have l1:us.length=((ts.map (·.2)).filter (off R)).length:=by rw[<- e1,C6]
 rw[e1,l1]
 have ws:=(vc _ ((ts.map (·.2)).filter (off R)) rfl (k8 (oX W) R)).2
 refine q _ _ (s1.trans s2) ?_
 rw[ws,decide_eq_true_iff]
 refine ⟨λh =>?_,λh =>?_⟩
 ·injection h with h;lia
 ·congr 1;lia
end
section
theorem B7:aU ["web", "places"] ["web", "places"] (aG yr):=⟨rfl,rfl,rfl,by decide +kernel,rfl,by decide +kernel,by decide +kernel⟩
theorem B8 (F:Fun K "_law_cut" "_law_cut" yr f fd)(B:Blt mg):cy P w K mg base CX0 1 f fd ["web", "places"] kF:=by
 refine F.ok B7 (λvs H Q E h =>?_) (λcdv A outer s H vs Q E hr h =>?_)
 ·obtain ⟨a,b,c,d,e,rfl,_⟩:=cU.mp h
  rfl
 obtain ⟨r,p,m,ts,ps,rfl,W,hp,q⟩:=cU.mp h
 obtain ⟨t,e1,e2⟩:=W.at'
 refine ⟨_,aq (aJ (aT (aa (aM aV (pv 0) ak (λ_ _=>rfl)) (aa (aR bV rfl B.b_tuple GW (aa (bY ["tie", "places"] [none,some 1] rfl (fY (aM aV (pv 0) ak (λ_ _=>rfl))) rfl (λ_ _ _ _ _=>ao (i:=0) AZ rfl (Or.inl rfl))
  (λ_ _ _ _ _=>fA (PW.pt (fW (aD (gM (K:=K)) (aM (dq (K:=K)) (pv 0) ak (λ_ _=>rfl)) (pv 1) rfl) (fj (aD (gM (K:=K)) (aM (dq (K:=K)) (pv 0) ak (λ_ _=>rfl)) (pv 1) rfl)))))
  (λ_ _ _ _ _=>pv 0)) ah)) ah)))),?_⟩
 refine ⟨_,rfl,r,_,0,_,rfl,rfl,SqT.of e1,rfl,_,rfl,r,_,1,_,rfl,rfl,SqT.of e1,rfl,t,rfl,⟨_,SqT.of e2⟩,dA (xs:=ts.map λu =>.ref u.1) (λi ys H'=>H'=H/\ys=((ts.take i).filter λu=>off ps u.2).map λu =>.ref u.1) ⟨rfl,rfl⟩ (by rw[C6];exact small (by have:=W.len;lia)) (λi ys H' _ z=>by rw[z.1];exact SqT.of e2) ?_ ?_⟩
 ·rintro i x ys H3 hx hy ⟨rfl,ey⟩ R1 R0 r1 r0
  obtain ⟨u,eu,rfl⟩:=item hx
  have hu:=W.tup u (Dp eu)
  obtain ⟨a,b,e3,_⟩:=W.pr u (Dp eu)
  rw[e3] at hu
  have bb:off ps u.2=(!decide (a∈ps) && !decide (b∈ps)):=by rw[e3];rfl
  have g1:off ps u.2=true->R1 (.ref u.1) H3:=λec=>r1 _ _ ⟨rfl,by rw[dk eu,if_pos ec,ey]⟩
  have g0:off ps u.2=false->R0 H3:=λec=>r0 _ ⟨rfl,by rw[dk eu,if_neg (by rw[ec];exact Dv),ey,DZ]⟩
  refine ⟨_,rfl,u.1,_,0,_,rfl,rfl,SqT.of hu,rfl,_,rfl,p,_,rfl,(hp.elim (λz =>.inl (SqL.of z)) (λz =>.inr (SqT.of z))),rfl,di ps,_,rfl,?_⟩
  show if (if true=true then !inV (.int a) (ps.map V.int) else _)=true then _ else _
  rw[if_pos rfl,dw]
  by_cases ha:a∈ps
  ·rw[decide_eq_true ha] at bb ⊢
   exact cz (cz (g0 bb))
  ·rw[decide_eq_false ha] at bb ⊢
   refine bC ⟨_,rfl,u.1,_,1,_,rfl,rfl,SqT.of hu,rfl,_,rfl,p,_,rfl,(hp.elim (λz =>.inl (SqL.of z)) (λz =>.inr (SqT.of z))),rfl,di ps,_,rfl,?_⟩
   show if (if true=true then !inV (.int b) (ps.map V.int) else _)=true then _ else _
   rw[if_pos rfl,dw]
   by_cases hb:b∈ps
   ·rw[decide_eq_true hb] at bb ⊢
    exact cz (g0 bb)
   ·rw[decide_eq_false hb] at bb ⊢
    exact bC ⟨_,rfl,g1 bb⟩
 ·rintro ys H3 hy ⟨rfl,ey⟩ l hl
  rw[C6,Dr (Dd _)] at ey
  refine ⟨l,_,rfl,.inl ⟨SqL.of ag,λl2 hl2=>⟨(by show 2<=Dm;decide),λz hz =>?_⟩⟩⟩
  subst ey
  have g1:=ae hl (.lst ((ts.filter λu=>off ps u.2).map λu=>V.ref u.1))
  have g2:=ae hl2 (.tup ((ts.filter λu=>off ps u.2).map λu=>V.ref u.1))
  have g3:=ae hz (.tup [.int m,.ref l2])
  have g:=(g1.trans g2).trans g3
  refine q z (ts.filter λu=>off ps u.2) _ g ⟨⟨l2,ag,g3 _ _ ag⟩,λu hu=>g _ _ (W.tup u (E4.mp hu).1),λu hu=>W.pr u (E4.mp hu).1,?_⟩ ?_
  ·exact DU (IC _ _) W.len
  ·rw[Mp];rfl
end
def rise (ns:List Int):Bool:=decide (ns.Pairwise (· < ·))
def adj (ns:List Int):List Bool:=List.zipWith (λa b=>decide (a<b)) ns (ns.drop 1)
theorem AF (ns:List Int):(adj ns).length=ns.length-1:=by
 unfold adj
 rw[List.length_zipWith,EO];lia
theorem ve:∀ns:List Int,(adj ns).all id=rise ns
 | []=>by unfold rise;simp[adj]
 | [a]=>by unfold rise;simp[adj]
 | a :: b :: t=>by
  have ih:=ve (b :: t)
  have e:adj (a :: b :: t)=decide (a<b) :: adj (b :: t):=rfl
  rw[e,JU,ih]
  unfold rise
  rw[FW,EC,decide_eq_true_iff,decide_eq_true_iff,Gz (l:=b :: t)]
  show decide (a<b)=true/\_↔_
  rw[decide_eq_true_iff]
  constructor
  ·rintro ⟨h,p⟩
   refine ⟨λx hx =>?_,p⟩
   rcases Dx.mp hx with rfl | hx
   ·exact h
   ·exact Int.lt_trans h ((Gz.mp p).1 x hx)
  ·rintro ⟨h,p⟩
   exact ⟨h b (DA ..),p⟩
theorem tY (xs:List V):dY xs (some 1) none=xs.drop 1:=by
 unfold dY HT.sIx
 cases xs with
 | nil=>rfl
 | cons a l=>simp
theorem B9 {ns:List Int}{i:Nat}{x y:V}(hx:(ns.map V.int)[i]? = some x)(hy:((ns.map V.int).drop 1)[i]? = some y):∃u v:Int,x = .int u/\y = .int v/\(adj ns)[i]? = some (decide (u<v)):=by
 rw[<- IT,Dq] at hy
 rw[Dq] at hx
 obtain ⟨u,eu,rfl⟩:=Ik.mp hx
 obtain ⟨v,ev,rfl⟩:=Ik.mp hy
 refine ⟨u,v,rfl,rfl,?_⟩
 unfold adj
 rw[List.getElem?_zipWith,eu,ev]
def inR (m:Nat)(x:Int):Bool:=decide (0<=x) && decide (x<m)
def isSet (m:Nat)(ns:List Int):Bool:=rise ns && ns.all (inR m)
abbrev vf:Sp:=λvs H Q _=>∃(p:Addr) (ns:List Int),vs=[.ref p]/\H p=some (.tup (ns.map V.int))/\ns.length<=500/\∀H',aB H H'->Q (.bl (rise ns)) H'
@[irreducible] def qo:Sp:=vf
theorem iH {vs:List V}{H:Hp}{Q:VK}{E:XK}:qo vs H Q E↔vf vs H Q E:=by
 delta qo
 exact Gn
section
theorem tZ:aU ["row"] ["row"] (aG jR):=⟨rfl,rfl,rfl,by decide +kernel,rfl,by decide +kernel,by decide +kernel⟩
theorem gF:(["one", "other"]:List Str).Nodup:=by decide +kernel
theorem t6 (F:Fun K "is_rising" "is_rising" jR f fd)(B:Blt mg):cy P w K mg base CX0 1 f fd ["row"] qo:=by
 refine F.ok tZ (λvs H Q E h =>?_) (λcdv A outer s H vs Q E hr h =>?_)
 ·obtain ⟨_,_,rfl,_⟩:=iH.mp h
  rfl
 obtain ⟨p,ns,rfl,ep,l5,q⟩:=iH.mp h
 refine ⟨_,(aq (aJ (ay (gf rfl) rfl B.b_all mM (aa (bY ["one", "other"] [none,none] rfl (Ae false false rfl B.b_zip (aa (pv 0) (aa (aW gW (pv 0) (a9 ak) bE) ah rfl) rfl)) rfl (λ_ _ _ _ _=>(iZ (K:=K) (i:=0) (j:=1) gF rfl rfl (Or.inl rfl) (Or.inl rfl))) (λ_ _ _ _ _=>de) (λ_ _ _ _ _=>(fq iN (pv 0) (pv 1) (aH _)))) ah rfl)))),?_⟩
 have lm:(ns.map V.int).length=ns.length:=C6 _
 refine ⟨_,rfl,_,rfl,1,rfl,p,_,rfl,ep,λp2 H2 s2 e2 =>?_⟩
 rw[tY] at e2
 have ep2:=s2 _ _ ep
 have ld:((ns.map V.int).drop 1).length=ns.length-1:=by rw[EO,lm]
 refine ⟨p,p2,rfl,⟨_,SqT.of ep2⟩,⟨_,SqT.of e2⟩,CN (ns.length-1) (by rw[lm];lia) (by rw[ld];lia) (.inr ld.symm) (λi zs H'=>aB H2 H'/\zs=((adj ns).take i).map V.bl) (by decide) ⟨aB.refl _,rfl⟩ (small (by lia)) (λi zs H' _ k=>⟨SqT.of (k.1 _ _ ep2),SqT.of (k.1 _ _ e2)⟩) ?_ ?_⟩
 ·rintro i x y zs H' T' hx hy lz hT' ⟨s',rfl⟩ R1 R0 r1 r0
  obtain ⟨u,v,rfl,rfl,euv⟩:=B9 hx hy
  refine bC ⟨_,rfl,_,rfl,_,_,rfl,rfl,r1 _ _ ⟨s'.trans (ae hT' _),?_⟩⟩
  rw[D3,euv,Dj];rfl
 ·rintro zs H' lz ⟨s',rfl⟩ c5 hc5
  rw[show (adj ns).take (ns.length-1)=adj ns from Dr (by rw[AF];exact Dd _)]
  refine ⟨c5,_,rfl,SqL.of ag,?_⟩
  rw[ve]
  exact q _ (s2.trans (s'.trans (ae hc5 _)))
end
abbrev yZ:Sp:=λvs H Q _=>∃(r p:Addr) (m:Nat) (ts:LA) (ns:List Int),vs=[.ref r,.ref p]/\Wb H r m ts/\H p=some (.tup (ns.map V.int))/\ns.length<=500/\∀H',aB H H'->Q (.bl (isSet m ns)) H'
@[irreducible] def vg:Sp:=yZ
theorem jW {vs:List V}{H:Hp}{Q:VK}{E:XK}:vg vs H Q E↔yZ vs H Q E:=by
 delta vg
 exact Gn
section
theorem wK:aU ["web", "places"] ["web", "places"] (aG mG):=⟨rfl,rfl,rfl,by decide +kernel,rfl,by decide +kernel,by decide +kernel⟩
theorem ia:(["place", "web"]:List Str).Nodup:=by decide +kernel
theorem wL (F:Fun K "is_set_of" "is_set_of" mG f fd)(B:Blt mg)(cIsRising:Cal P w K mg base 1 "is_rising" ["row"] qo):cy P w K mg base CX0 2 f fd ["web", "places"] vg:=by
 refine F.ok wK (λvs H Q E h =>?_) (λcdv A outer s H vs Q E hr h =>?_)
 ·obtain ⟨_,_,_,_,_,rfl,_⟩:=jW.mp h
  rfl
 obtain ⟨r,p,m,ts,ns,rfl,W,ep,l5,q⟩:=jW.mp h
 refine ⟨_,(aq (aJ (wW (aY cIsRising hr (by decide) rfl (aa (pv 1) ah rfl)) (wV (ay (gf rfl) rfl B.b_all mM (aa (bY ["place", "web"] [none,some 0] rfl (fY (pv 1)) rfl (λ_ _ _ _ _=>(ao (i:=0) ia rfl (Or.inl rfl))) (λ_ _ _ _ _=>de) (λ_ _ _ _ _=>(lE uh iN ak (pv 0) (aM (dq (K:=K)) (pv 1) ak (λ_ _=>rfl))))) ah rfl)))))),?_⟩
 obtain ⟨t,e1,e2⟩:=W.at'
 refine ⟨_,rfl,iH.mpr ⟨p,ns,rfl,ep,l5,λH1 s1=>⟨_,rfl,cv (λz =>?_) (λz =>?_)⟩⟩⟩
 ·refine ⟨_,rfl,p,rfl,⟨_,SqT.of (s1 _ _ ep)⟩,dA (xs:=ns.map V.int) (λi ys H'=>H'=H1/\ys=((ns.take i).map (inR m)).map V.bl) ⟨rfl,rfl⟩ (by rw[C6];exact small (by lia)) (λi ys H' _ h=>by rw[h.1];exact SqT.of (s1 _ _ ep)) ?_ ?_⟩
  ·rintro i v ys H' hv hy ⟨rfl,rfl⟩ R1 R0 r1 r0
   obtain ⟨x,ex,rfl⟩:=eE hv
   refine bC ⟨_,rfl,_,_,rfl,rfl,_,rfl,cv (λy =>?_) (λy=>r1 _ _ ⟨rfl,?_⟩)⟩
   ·refine ⟨_,rfl,r,_,0,_,rfl,rfl,SqT.of (s1 _ _ e1),rfl,_,_,rfl,rfl,r1 _ _ ⟨rfl,?_⟩⟩
    rw[take_snoc ex,Dj,show inR m x=decide (x<m) by unfold inR;rw[y,Lu]];rfl
   ·rw[take_snoc ex,Dj,show inR m x=false by unfold inR;rw[Ht.mpr y,HG]];rfl
  rintro ys H' hy ⟨eH',rfl⟩ al hal
  rw[eH'] at hal ⊢
  rw[C6,show ns.take ns.length=ns from Ma]
  refine ⟨al,_,rfl,SqL.of ag,?_⟩
  have e:((ns.map (inR m)).all id)=isSet m ns:=by
   unfold isSet;rw[z,Lu,MP];rfl
  rw[e]
  exact q _ (s1.trans (ae hal _))
 ·have e:isSet m ns=false:=by
   unfold isSet;rw[Ht.mpr z,HG]
  rw[e] at q
  exact q _ s1
end
def less (p:Int)(ps:List Int):List Int:=ps.filter λo=>decide (o≠p)
theorem dR {p:Int}{ps:List Int}{i:Nat}{x:Int}(e:ps[i]? = some x):(less p (ps.take (i+1))).map V.int=(less p (ps.take i)).map V.int++if x≠p then [.int x] else []:=by
 unfold less
 rw[D3,e,Jt,Dj]
 congr 1
 by_cases c:x=p
 ·rw[if_neg (by simpa using c)];simp[c]
 ·rw[if_pos c];simp[c]
theorem dF {p x:Int}{ps:List Int}:x∈less p ps↔x∈ps/\x≠p:=by unfold less;rw[E4];simp
theorem AG {ps:List Int}{p:Int}(hp:p∈ps)(E:List (List Int)):(E.filter (off (less p ps))).filter (off [p])=E.filter (off ps):=by
 rw[Lv]
 refine GK λt _ =>?_
 have k:∀v:Int,(v∈ps↔v∈[p]\/v∈less p ps):=λv=>by
  rw[DD,dF]
  by_cases e:v=p
  ·rw[e];simp[hp]
  ·simp[e]
 unfold off
 generalize t.getD 0 0=x
 generalize t.getD 1 0=y
 have:=k x
 have:=k y
 by_cases a1:x∈[p] <;> by_cases a2:x∈less p ps <;> by_cases b1:y∈[p] <;> by_cases b2:y∈less p ps <;> simp_all
theorem wM {E:List (List Int)}{ps qs:List Int}(h:∀v∈ps,v∈qs)(w:dO (E.filter (off ps))):dO (E.filter (off qs)):=by
 have:E.filter (off qs)=(E.filter (off ps)).filter (off qs):=by
  rw[Lv]
  refine GK λt _ =>?_
  unfold off
  have h1:∀v,v∉qs->v∉ps:=λv hv hp=>hv (h v hp)
  generalize t.getD 0 0=x
  generalize t.getD 1 0=y
  by_cases a1:x∈qs
  ·simp[a1]
  ·by_cases b1:y∈qs
   ·simp[b1]
   ·simp[a1,b1,h1 x a1,h1 y b1]
 rw[this]
 exact kG w _
def SqI (H:Hp)(z:Addr)(Z:List Int):Prop:=H z=some (.lst (Z.map V.int))\/H z=some (.tup (Z.map V.int))
theorem SqI.same {H H':Hp}{z:Addr}{Z:List Int}(h:SqI H z Z)(s:aB H H'):SqI H' z Z:=h.imp (s _ _) (s _ _)
theorem SqI.sq {K:Df}{H:Hp}{z:Addr}{Z:List Int}(h:SqI H z Z):SqL K H z (Z.map V.int)\/SqT K H z (Z.map V.int):=h.imp SqL.of SqT.of
def Own (ns:List (List Int))(ps:List Int)(p:Int)(Z:List Int):Prop:=IsR ns Z/\(ps.filter λv=>decide (v∈Z))=[p]
abbrev rZ:Sp:=λvs H Q _=>∃(r q z:Addr) (m:Nat) (p:Int) (ts:LA) (ps Z:List Int),vs=[.ref r,.ref q,.int p,.ref z]/\Wb H r m ts/\H q=some (.tup (ps.map V.int))/\ps.length<=400/\SqI H z Z/\Z.length<=200/\∀(b:Bool) H',aB H H'->(b=true↔Own (ts.map (·.2)) ps p Z)->Q (.bl b) H'
@[irreducible] def k9:Sp:=rZ
theorem gG {vs:List V}{H:Hp}{Q:VK}{E:XK}:k9 vs H Q E↔rZ vs H Q E:=by
 delta k9
 exact Gn
section
theorem r6:aU ["web", "places", "place", "ring"] ["web", "places", "place", "ring"] (aG iA):=⟨rfl,rfl,rfl,by decide +kernel,rfl,by decide +kernel,by decide +kernel⟩
theorem fQ:(["other", "ring"]:List Str).Nodup:=by decide +kernel
theorem r9 (F:Fun K "is_own_ring" "is_own_ring" iA f fd)(B:Blt mg)(cIsRing:Cal P w K mg base 3 "is_ring" ["web", "ring"] jk):cy P w K mg base CX0 4 f fd ["web", "places", "place", "ring"] k9:=by
 refine F.ok r6 (λvs H Q E h =>?_) (λcdv A outer s H vs Q E hr h =>?_)
 ·obtain ⟨_,_,_,_,_,_,_,_,rfl,_⟩:=gG.mp h
  rfl
 obtain ⟨r,q,z,m,p,ts,ps,Z,rfl,W,eq,l4,ez,l2,k⟩:=gG.mp h
 refine ⟨_,(aq (aJ (wW (aY cIsRing hr (by decide) rfl (aa (pv 0) (aa (pv 3) ah rfl) rfl)) (wV (fq (Ah hr) (bY ["other", "ring"] [none,some 3] rfl (fY (pv 1)) rfl (λ_ _ _ _ _=>(ao (i:=0) fQ rfl (Or.inl rfl))) (λ_ _ _ _ _=>(fA (aD (sM (K:=K)) (pv 0) (pv 1) rfl))) (λ_ _ _ _ _=>(pv 0))) (bH (aa (pv 2) ah rfl)) (aH _)))))),?_⟩
 refine ⟨_,rfl,_,rfl,fO.mpr ⟨r,z,m,ts,Z,rfl,W,ez,l2,λb1 H1 s1 h1=>⟨_,rfl,?_⟩⟩⟩
 cases b1 with
 | false=>exact cz (k false H1 s1 ⟨λh=>(by cases h),λh=>h1.mpr h.1⟩)
 | true =>
 refine bC ?_
 have rz:=h1.mp rfl
 have eq1:=s1 _ _ eq
 have ez1:=ez.same s1
 refine ⟨_,rfl,q,rfl,⟨_,SqT.of eq1⟩,dA (xs:=ps.map V.int) (λi ys H'=>H'=H1/\ys=((ps.take i).filter λv=>decide (v∈Z)).map V.int) ⟨rfl,rfl⟩ (by rw[C6];exact small (by lia)) (λi ys H' _ y=>by rw[y.1];exact SqT.of eq1) ?_ ?_⟩
 ·rintro j x ys He hx hy ⟨eH,rfl⟩ R1 R0 r1 r0
  obtain ⟨v,ev,rfl⟩:=eE hx
  refine ⟨_,rfl,_,rfl,z,_,rfl,SqI.sq (by rw[eH];exact ez1),rfl,di Z,_,rfl,?_⟩
  show if (if false=true then _ else inV (.int v) (Z.map V.int))=true then _ else _
  rw[if_neg Dv,dw]
  by_cases d:v∈Z
  ·rw[decide_eq_true d]
   exact bC ⟨_,rfl,r1 _ _ ⟨eH,by rw[dk ev,if_pos (by simp[d])]⟩⟩
  ·rw[decide_eq_false d]
   exact cz (r0 _ ⟨eH,by rw[dk ev,if_neg (by simp[d]),DZ]⟩)
 rintro ys He hy ⟨eH,rfl⟩ l8 hl8
 rw[eH] at hl8 ⊢
 rw[C6,Dr (Dd _)]
 generalize ef:(ps.filter λv=>decide (v∈Z))=fs
 obtain ⟨Hf,zQ9,g8,el8⟩:=nwZ hl8 (.lst (fs.map V.int))
 rw[zQ9]
 refine ⟨_,rfl,(by show 1<=Dm;decide),λl9 hl9 =>?_⟩
 have g9:=ae hl9 (.lst [.int p])
 refine ⟨l8,l9,fs,[p],rfl,rfl,SqL.of (g9 _ _ el8),SqL.of ag,?_⟩
 refine k _ _ (s1.trans (g8.trans g9)) ?_
 rw[decide_eq_true_iff]
 exact ⟨λh=>⟨rz,ef.trans h⟩,λh=>ef.symm.trans h.2⟩
end
abbrev Rw:=Addr×Int×Addr×List Int
def RwA (H:Hp)(ks:List Rw):Prop:=∀k∈ks,H k.1=some (.tup [.int k.2.1,.ref k.2.2.1])/\SqI H k.2.2.1 k.2.2.2/\k.2.2.2.length<=200
theorem RwA.same {H H':Hp}{ks:List Rw}(h:RwA H ks)(s:aB H H'):RwA H' ks:=λk hk=>⟨s _ _ (h k hk).1,(h k hk).2.1.same s,(h k hk).2.2⟩
def plc (ks:List Rw):List Int:=ks.map (·.2.1)
def LRt (m:Nat)(ns:List (List Int))(ks:List Rw):Prop:=isSet m (plc ks)=true/\dO (ns.filter (off (plc ks)))/\∀k∈ks,Own ns (plc ks) k.2.1 k.2.2.2
theorem itK {ks:List Rw}{i:Nat}{x:V}(e:(ks.map λk=>V.ref k.1)[i]? = some x):∃k,ks[i]? = some k/\x = .ref k.1:=by
 rw[Dq] at e
 cases z:ks[i]? with
 | none=>rw[z] at e;cases e
 | some k=>rw[z] at e;exact ⟨k,rfl,(DW e).symm⟩
abbrev A8:Sp:=λvs H Q _=>∃(b l:Addr) (m:Nat) (ts:LA) (ks:List Rw),vs=[.ref b,.ref l]/\Wb H b m ts/\m<=200/\(H l=some (.lst (ks.map λk =>.ref k.1))\/H l=some (.tup (ks.map λk =>.ref k.1)))/\RwA H ks/\ks.length<=200/\∀(bb:Bool) H',aB H H'->(bb=true↔LRt m (ts.map (·.2)) ks)->Q (.bl bb) H'
@[irreducible] def AH:Sp:=A8
theorem jt {vs:List V}{H:Hp}{Q:VK}{E:XK}:AH vs H Q E↔A8 vs H Q E:=by
 delta AH
 exact Gn
section
theorem ju:aU ["web", "rows", "places"] ["web", "rows"] (aG gs):=⟨rfl,rfl,rfl,by decide +kernel,rfl,by decide +kernel,by decide +kernel⟩
theorem jX:(["row"]:List Str).Nodup:=by decide +kernel
theorem dP:(["row", "web", "places"]:List Str).Nodup:=by decide +kernel
theorem qp (F:Fun K "least_right" "least_right" gs f fd)(B:Blt mg)(cIsSetOf:Cal P w K mg base 2 "is_set_of" ["web", "places"] vg)(cClearsWeb:Cal P w K mg base 4 "clears_web" ["web", "places"] vd)(cIsOwnRing:Cal P w K mg base 4 "is_own_ring" ["web", "places", "place", "ring"] k9):cy P w K mg base CX0 5 f fd ["web", "rows"] AH:=by
 refine F.ok ju (λvs H Q E h =>?_) (λcdv A outer s H vs Q E hr h =>?_)
 ·obtain ⟨_,_,_,_,_,rfl,_⟩:=jt.mp h
  rfl
 obtain ⟨b,l,m,ts,ks,rfl,W,m2,el,rw1,lk,q⟩:=jt.mp h
 refine ⟨_,(ai (aS (i:=2) ju.nd rfl (Or.inr rfl) (aR bV rfl B.b_tuple mP (aa (bY ["row"] [none] rfl (xQ (pv 1)) rfl (λ_ _ _ _ _=>(ao (i:=0) jX rfl (Or.inl rfl))) (λ_ _ _ _ _=>de) (λ_ _ _ _ _=>(aM (dq (K:=K)) (pv 0) ak (λ_ _=>rfl)))) ah rfl)))
  (ai (bh (PW.pt (jZ (jG (fV (aY cIsSetOf hr (by decide) rfl (aa (pv 0) (aa (pv 2) ah rfl) rfl)))) (jF (jG (fV (aY cClearsWeb hr (by decide) rfl (aa (pv 0) (aa (pv 2) ah rfl) rfl))))))) (aq (aJ dU)) aL)
  (aq (aJ (ay (gf rfl) rfl B.b_all mM (aa (bY ["row", "web", "places"] [none,some 0,some 2] rfl (xQ (pv 1)) rfl (λ_ _ _ _ _=>(ao (i:=0) dP rfl (Or.inl rfl))) (λ_ _ _ _ _=>de) (λ_ _ _ _ _=>(aY cIsOwnRing hr (by decide) rfl (aa (pv 1) (aa (pv 2) (aa (aM (dq (K:=K)) (pv 0) ak (λ_ _=>rfl)) (aa (aM (dq (K:=K)) (pv 0) ak (λ_ _=>rfl)) ah rfl) rfl) rfl) rfl)))) ah rfl)))))),?_⟩
 have lm:(ks.map λk=>V.ref k.1).length=ks.length:=C6 _
 refine ⟨_,rfl,l,rfl,oq (xs:=ks.map λk =>.ref k.1) (λi ys H'=>H'=H/\ys=(plc (ks.take i)).map V.int) el ⟨rfl,rfl⟩ (by rw[lm];exact small (by lia)) (λi ys H' z=>by rw[z.1]) ?_ ?_⟩
 ·rintro i x ys H3 hx hy ⟨eH,rfl⟩ R1 R0 r1 r0
  obtain ⟨k,ek,rfl⟩:=itK hx
  have hk:=(rw1 k (Dp ek)).1
  rw[<- eH] at hk
  refine bC ⟨_,rfl,k.1,_,0,_,rfl,rfl,SqT.of hk,rfl,r1 _ _ ⟨eH,?_⟩⟩
  unfold plc
  rw[D3,ek,Dj,Dj];rfl
 rintro ys H3 hy ⟨eH,rfl⟩ kl hkl
 rw[eH] at hkl ⊢
 rw[lm,Dr (Dd _)]
 have lK:(plc ks).length<=200:=by unfold plc;rw[C6];exact lk
 have g1:=ae hkl (.lst ((plc ks).map V.int))
 refine ⟨kl,_,rfl,.inl ⟨SqL.of ag,λkt hkt =>?_⟩⟩
 have s2:=g1.trans (ae hkt (.tup ((plc ks).map V.int)))
 have ekt:upd (upd H kl (.lst ((plc ks).map V.int))) kt (.tup ((plc ks).map V.int)) kt=some (.tup ((plc ks).map V.int)):=ag
 generalize upd (upd H kl (.lst ((plc ks).map V.int))) kt (.tup ((plc ks).map V.int))=H2 at s2 ekt
 refine ⟨_,rfl,_,rfl,jW.mpr ⟨b,kt,m,ts,plc ks,rfl,W.same s2,ekt,by lia,λH4 s4 =>?_⟩⟩
 have s24:=s2.trans s4
 by_cases iS:isSet m (plc ks)=true
 case neg =>
  rw[Bool.not_eq_true] at iS
  rw[iS]
  exact ⟨_,rfl,bC (bC (q false H4 s24 ⟨λh=>(by cases h),λh=>by rw[h.1] at iS;cases iS⟩))⟩
 rw[iS]
 refine ⟨_,rfl,cz ⟨_,rfl,_,rfl,jV.mpr ⟨b,kt,m,ts,plc ks,rfl,W.same s24,m2,s4 _ _ ekt,λH5 b5 s5 h5=>⟨_,rfl,?_⟩⟩⟩⟩
 have s25:=s24.trans s5
 cases b5 with
 | false=>exact bC (q false H5 s25 ⟨λh=>(by cases h),λh=>h5.mpr h.2.1⟩)
 | true =>
 have w0:=h5.mp rfl
 refine cz ?_
 have el5:H5 l=some (.lst (ks.map λk =>.ref k.1))\/H5 l=some (.tup (ks.map λk =>.ref k.1)):=el.imp (s25 _ _) (s25 _ _)
 let W0:Nat->List V->Hp->Prop:=λi ys H'=>aB H5 H'/\∃bs:List Bool,ys=bs.map V.bl/\(bs.all id=true↔∀k∈ks.take i,Own (ts.map (·.2)) (plc ks) k.2.1 k.2.2.2)
 refine ⟨_,rfl,l,rfl,oq (xs:=ks.map λk =>.ref k.1) W0 el5 ⟨aB.refl _,[],rfl,λ_ k hk=>(by cases hk),λ_=>rfl⟩ (by rw[lm];exact small (by lia)) (λi ys H' z=>by rcases el5 with y | y <;> rw[z.1 _ _ y,y]) ?_ ?_⟩
 ·rintro i x ys H6 hx hy ⟨s6,bs,rfl,hb⟩ R1 R0 r1 r0
  obtain ⟨k,ek,rfl⟩:=itK hx
  have hm:=Dp ek
  have s26:=s25.trans s6
  obtain ⟨hk,hz,lz⟩:=rw1.same s26 k hm
  refine bC ⟨_,rfl,_,rfl,_,rfl,k.1,_,0,_,rfl,rfl,SqT.of hk,rfl,_,rfl,k.1,_,1,_,rfl,rfl,SqT.of hk,rfl,gG.mpr ⟨b,kt,k.2.2.1,m,k.2.1,ts,plc ks,k.2.2.2,rfl,W.same s26,s6 _ _ (s5 _ _ (s4 _ _ ekt)),by lia,hz,lz,λbk H7 s7 h7=>r1 _ _ ⟨s6.trans s7,bs++[bk],by rw[Dj];rfl,?_⟩⟩⟩
  rw[D3,ek,List.all_append,EC,hb]
  constructor
  ·rintro ⟨h1,h2⟩ k' hk'
   rcases Dh.mp hk' with y | y
   ·exact h1 k' y
   ·have:k'=k:=by simpa using y
    rw[this]
    exact h7.mp (by simpa using h2)
  ·intro h
   exact ⟨λk' hk'=>h k' (DM _ hk'),by simpa using h7.mpr (h k (DE _ (by simp)))⟩
 rintro ys H6 hy ⟨s6,bs,rfl,hb⟩ l1 hl1
 rw[lm,Dr (Dd _)] at hb
 refine ⟨l1,_,rfl,SqL.of ag,?_⟩
 exact q _ _ (s25.trans (s6.trans (ae hl1 _))) (hb.trans ⟨λh=>⟨iS,w0,h⟩,λh=>h.2.2⟩)
end
structure Kp (m:Nat)(E:List (List Int))(ks:List Int):Prop where
 ris:ks.Pairwise (· < ·)
 rg:∀v∈ks,0<=v/\v<(m:Int)
 wd:dO (E.filter (off ks))
theorem Kp.len {m:Nat}{E:List (List Int)}{ks:List Int}(h:Kp m E ks):ks.length<=m:=d8 (h.ris.imp λ{a b} h=>by lia) h.rg
theorem Kp.start {m:Nat}{E:List (List Int)}(O:Ok m E):Kp m E (rgI m):=by
 refine ⟨?_,λv hv=>fM.mp hv,?_⟩
 ·unfold rgI
  rw[Eu]
  exact Ij.imp λ{a b} h=>by lia
 ·have:E.filter (off (rgI m))=[]:=Ko.mpr λt ht=>by
   obtain ⟨a,b,rfl,a0,ab,bm⟩:=O t ht
   have:a∈rgI m:=fM.mpr ⟨a0,by lia⟩
   unfold off
   simp[this]
  rw[this]
  exact m7
theorem Kp.less {m:Nat}{E:List (List Int)}{ks:List Int}(h:Kp m E ks){p:Int}(w:dO (E.filter (off (less p ks)))):Kp m E (less p ks) :=
 ⟨h.ris.sublist List.filter_sublist,λv hv=>h.rg v (dF.mp hv).1,w⟩
theorem wN {p:Int}{ks js:List Int}(h:∀v∈ks,v∈js):∀v∈less p ks,v∈less p js:=λv hv=>dF.mpr ⟨h v (dF.mp hv).1,(dF.mp hv).2⟩
abbrev se:Sp:=λvs H Q _=>∃(r:Addr) (m:Nat) (n:Int) (ts:LA),vs=[.ref r,.int n]/\Wb H r m ts/\m<=40/\0<=n/\∀(p l:Addr) (n':Int) (ks:List Int) (H':Hp),aB H H'->H' p=some (.tup [.ref l,.int n'])->H' l=some (.lst (ks.map V.int))->0<=n'->Kp m (ts.map (·.2)) ks->(∀p∈ks,¬ dO ((ts.map (·.2)).filter (off (less p ks))))->Q (.ref p) H'
@[irreducible] def lb:Sp:=se
theorem gH {vs:List V}{H:Hp}{Q:VK}{E:XK}:lb vs H Q E↔se vs H Q E:=by
 delta lb
 exact Gn
section
theorem da:aU ["web", "number", "kept", "turn", "at", "less", "place"] ["web", "number"] (aG pZ):=⟨rfl,rfl,rfl,by decide +kernel,rfl,by decide +kernel,by decide +kernel⟩
theorem jv:(["place", "at"]:List Str).Nodup:=by decide +kernel
theorem gI:(["other", "place"]:List Str).Nodup:=by decide +kernel
theorem y3 (F:Fun K "_law_least" "_law_least" pZ f fd)(B:Blt mg)(cLIsWood:Cal P w K mg base 1 "_law_is_wood" ["web"] m8)(cLCut:Cal P w K mg base 1 "_law_cut" ["web", "places"] kF):cy P w K mg base CX0 2 f fd ["web", "number"] lb:=by
 refine F.ok da (λvs H Q E h =>?_) (λcdv A outer s H vs Q E hr h =>?_)
 ·obtain ⟨_,_,_,_,rfl,_⟩:=gH.mp h
  rfl
 obtain ⟨r,m,n,ts,rfl,W,m4,n0,q⟩:=gH.mp h
 refine ⟨_,(ai (aS (i:=2) da.nd rfl (Or.inl rfl) (aR (mB hr.hd) rfl B.b_list jf (aa (aR gp rfl B.b_range mO (aa (aM aV (pv 0) ak (λ_ _=>rfl)) ah rfl)) ah rfl)))
  (ai (bR Ea rfl (cM rfl B.b_range (aa (aM aV (pv 0) ak (λ_ _=>rfl)) ah rfl)) (ao (i:=3) da.nd rfl (Or.inl rfl))
   (ai (bt (ay aF rfl B.b_divmod aQ (aa (pv 1) (aa (aM aV (pv 0) ak (λ_ _=>rfl)) ah rfl) rfl)) (aX rfl (ax (ao (i:=1) da.nd rfl (Or.inl rfl)) (ax (ao (i:=4) da.nd rfl (Or.inr rfl)) aP))) rfl rfl rfl)
   (ai (cG (i:=5) ["place", "at"] [none,some 4] rfl da.nd rfl rfl (bO (pv 2)) rfl (λ_ _ _ _ _=>(ao (i:=0) jv rfl (Or.inl rfl))) (λ_ _ _ _ _=>(fA (aD j0 (pv 0) (pv 1) (aH _)))) (λ_ _ _ _ _=>(pv 0)))
   (aq (bh (fV (aY cLIsWood hr (by decide) rfl (aa (aY cLCut hr (by decide) rfl (aa (pv 0) (aa (pv 5) ah rfl) rfl)) ah rfl))) (aq (aS (i:=2) da.nd rfl (Or.inl rfl) (pv 5))) aL)))) (λ_=>rfl))
  (ai (bR Ea rfl (bO (aR fu rfl B.b_list jf (aa (pv 2) ah rfl))) (ao (i:=6) da.nd rfl (Or.inr rfl))
   (ai (cG (i:=5) ["other", "place"] [none,some 6] rfl da.nd rfl rfl (bO (pv 2)) rfl (λ_ _ _ _ _=>(ao (i:=0) gI rfl (Or.inl rfl))) (λ_ _ _ _ _=>(fA (aD j0 (pv 0) (pv 1) (aH _)))) (λ_ _ _ _ _=>(pv 0)))
   (aq (bh (fV (aY cLIsWood hr (by decide) rfl (aa (aY cLCut hr (by decide) rfl (aa (pv 0) (aa (pv 5) ah rfl) rfl)) ah rfl))) (aq (aS (i:=2) da.nd rfl (Or.inl rfl) (pv 5))) aL))) (λ_=>rfl))
  (aq (aJ (aT (aa (pv 2) (aa (pv 1) ah rfl) rfl))))))),?_⟩
 obtain ⟨t,e1,e2⟩:=W.at'
 have O:=oX W
 generalize hns:ts.map (·.2)=ns at O q
 refine ⟨_,rfl,r,_,0,_,rfl,rfl,SqT.of e1,rfl,m,rfl,λra hra=>⟨ra,m,rfl,ag,by lia,λgl hgl =>?_⟩⟩
 have g1:=(ae hra (.rng 0 m)).trans (ae hgl (.lst ((Eo m).map λi:Nat=>V.int (i:Int))))
 have egl:upd (upd H ra (.rng 0 m)) gl (.lst ((Eo m).map λi:Nat=>V.int (i:Int))) gl=some (.lst ((rgI m).map V.int)):=by rw[ag];unfold rgI;rw[Fo];rfl
 generalize upd (upd H ra (.rng 0 m)) gl (.lst ((Eo m).map λi:Nat=>V.int (i:Int)))=H1 at g1 egl
 let W0:Nat->St->Hp->Prop:=λi σ H'=>∃(nn:Int) (kl:Addr) (ks:List Int) (c3 c4 c5:Option V),σ=[some (.ref r),some (.int nn),some (.ref kl),c3,c4,c5,none]/\0<=nn/\aB H H'/\H' kl=some (.lst (ks.map V.int))/\Kp m ns ks
 refine ⟨_,rfl,r,_,0,_,rfl,rfl,SqT.of (g1 _ _ e1),rfl,(m:Int),rfl,by lia,by lia,cN (n:=m) W0 ⟨n,gl,rgI m,_,_,_,rfl,n0,g1,egl,Kp.start O⟩ ?_ ?_⟩
 ·rintro i σ H2 hi ⟨nn,kl,ks,c3,c4,c5,rfl,nn0,s2,ek,K2⟩
  have lk:=K2.len
  obtain ⟨q0,x0,x1⟩:=dmN (j:=(m:Int)) nn0 (by lia)
  refine ⟨_,rfl,_,rfl,r,_,0,_,rfl,rfl,SqT.of (s2 _ _ e1),rfl,nn,(m:Int),rfl,⟨by lia,by lia⟩,λp1 hp1=>⟨p1,_,rfl,SqT.of ag,rfl,_,_,rfl,_,_,rfl,rfl,?_⟩⟩
  have g3:=ae hp1 (.tup [.int (nn/m),.int (nn%m)])
  have ek3:=g3 _ _ ek
  have s3:=s2.trans g3
  generalize upd H2 p1 (.tup [.int (nn/m),.int (nn%m)])=H3 at g3 ek3 s3
  generalize nn/(m:Int)=n1 at q0
  generalize nn%(m:Int)=at' at x0 x1
  refine ⟨_,rfl,kl,rfl,⟨_,SqL.of ek3⟩,bW (xs:=ks.map V.int) (λi ys H'=>H'=H3/\ys=(less at' (ks.take i)).map V.int) ⟨rfl,rfl⟩ (by rw[C6];exact small (by lia)) (λi ys H' _ z=>by rw[z.1];exact SqL.of ek3) ?_ ?_⟩
  ·rintro j y ys He hx hy ⟨eH,rfl⟩ R1 R0 r1 r0
   obtain ⟨v,ev,rfl⟩:=eE hx
   refine ⟨_,rfl,_,rfl,rfl,_,rfl,?_⟩
   by_cases c:v=at'
   ·exact iT (by rw[c]) (r0 _ ⟨eH,by rw[dR ev,if_neg (by simpa using c),DZ]⟩)
   ·rw[decide_eq_false (by intro z;injection z with z;exact c z)]
    exact bC ⟨_,rfl,r1 _ _ ⟨eH,by rw[dR ev,if_pos c]⟩⟩
  rintro ys He hy ⟨eH,rfl⟩ ll hll
  rw[eH] at hll ⊢
  rw[C6,Dr (Dd _)]
  have g4:=ae hll (.lst ((less at' ks).map V.int))
  have el4:upd H3 ll (.lst ((less at' ks).map V.int)) ll=some (.lst ((less at' ks).map V.int)):=ag
  have ek4:=g4 _ _ ek3
  have s4:=s3.trans g4
  generalize upd H3 ll (.lst ((less at' ks).map V.int))=H4 at el4 ek4 s4
  refine ⟨_,rfl,_,rfl,cU.mpr ⟨r,ll,m,ts,less at' ks,rfl,W.same s4,.inl el4,λz us H5 s5 W5 e5=>d9.mpr ⟨z,m,us,rfl,W5,by lia,λH6 b s6 hb=>⟨_,rfl,?_⟩⟩⟩⟩
  rw[e5,hns] at hb
  have g6:=s5.trans s6
  cases b with
  | true=>exact bC ⟨_,rfl,n1,ll,less at' ks,_,_,_,rfl,q0,s4.trans g6,g6 _ _ el4,K2.less (hb.mp rfl)⟩
  | false=>exact cz ⟨n1,kl,ks,_,_,_,rfl,q0,s4.trans g6,g6 _ _ ek4,K2⟩
 rintro σ H2 ⟨nn,kl,ks,c3,c4,c5,rfl,nn0,s2,ek,K2⟩
 have lk:=K2.len
 refine ⟨_,rfl,kl,_,rfl,.inl (SqL.of ek),λl0 hl0 =>?_⟩
 have g3:=ae hl0 (.lst (ks.map V.int))
 have el0:upd H2 l0 (.lst (ks.map V.int)) l0=some (.lst (ks.map V.int)):=ag
 have ek3:=g3 _ _ ek
 have s3:=s2.trans g3
 generalize upd H2 l0 (.lst (ks.map V.int))=H3 at el0 ek3 s3
 let W1:Nat->St->Hp->Prop:=λi σ H'=>∃(kl:Addr) (js:List Int) (c5 c6:Option V),σ=[some (.ref r),some (.int nn),some (.ref kl),c3,c4,c5,c6]/\aB H3 H'/\H' kl=some (.lst (js.map V.int))/\Kp m ns js/\(∀v∈js,v∈ks)/\∀p∈ks.take i,p∈js->¬ dO (ns.filter (off (less p js)))
 refine ⟨l0,rfl,⟨_,SqL.of el0⟩,eM (xs:=ks.map V.int) W1 ⟨kl,ks,_,_,rfl,aB.refl _,ek3,K2,λv h=>h,λp hp=>(by cases hp)⟩ (λi σ H' _ z =>?_) ?_ ?_⟩
 ·obtain ⟨_,_,_,_,_,s',_⟩:=z
  exact SqL.of (s' _ _ el0)
 ·rintro i x σ H4 hx ⟨jl,js,c5,c6,rfl,s4,ej,K4,sub,mn⟩
  obtain ⟨x,ex,rfl⟩:=eE hx
  have lj:=K4.len
  have tk:ks.take (i+1)=ks.take i++[x]:=by rw[D3,ex];rfl
  refine ⟨_,rfl,jl,rfl,⟨_,SqL.of ej⟩,bW (xs:=js.map V.int) (λi ys H'=>H'=H4/\ys=(less x (js.take i)).map V.int) ⟨rfl,rfl⟩ (by rw[C6];exact small (by lia)) (λi ys H' _ z=>by rw[z.1];exact SqL.of ej) ?_ ?_⟩
  ·rintro j y ys He hx hy ⟨eH,rfl⟩ R1 R0 r1 r0
   obtain ⟨v,ev,rfl⟩:=eE hx
   refine ⟨_,rfl,_,rfl,rfl,_,rfl,?_⟩
   by_cases c:v=x
   ·exact iT (by rw[c]) (r0 _ ⟨eH,by rw[dR ev,if_neg (by simpa using c),DZ]⟩)
   ·rw[decide_eq_false (by intro z;injection z with z;exact c z)]
    exact bC ⟨_,rfl,r1 _ _ ⟨eH,by rw[dR ev,if_pos c]⟩⟩
  rintro ys He hy ⟨eH,rfl⟩ ll hll
  rw[eH] at hll ⊢
  rw[C6,Dr (Dd _)]
  have g5:=ae hll (.lst ((less x js).map V.int))
  have el5:upd H4 ll (.lst ((less x js).map V.int)) ll=some (.lst ((less x js).map V.int)):=ag
  have ej5:=g5 _ _ ej
  have s5:=s4.trans g5
  generalize upd H4 ll (.lst ((less x js).map V.int))=H5 at el5 ej5 s5
  refine ⟨_,rfl,_,rfl,cU.mpr ⟨r,ll,m,ts,less x js,rfl,W.same (s3.trans s5),.inl el5,λz us H6 s6 W6 e6=>d9.mpr ⟨z,m,us,rfl,W6,by lia,λH7 b s7 hb=>⟨_,rfl,?_⟩⟩⟩⟩
  rw[e6,hns] at hb
  have g7:=s6.trans s7
  cases b with
  | true =>
   refine bC ⟨_,rfl,ll,less x js,_,_,rfl,s5.trans g7,g7 _ _ el5,K4.less (hb.mp rfl),λv hv=>sub v (dF.mp hv).1,λp hp pj w =>?_⟩
   have pj:=dF.mp pj
   rw[tk] at hp
   rcases Dh.mp hp with z | z
   ·exact mn p z pj.1 (wM (wN λv hv=>(dF.mp hv).1) w)
   ·exact pj.2 (by simpa using z)
  | false =>
   refine cz ⟨jl,js,_,_,rfl,s5.trans g7,g7 _ _ ej5,K4,sub,λp hp pj w =>?_⟩
   rw[tk] at hp
   rcases Dh.mp hp with z | z
   ·exact mn p z pj w
   ·have:p=x:=by simpa using z
    subst this
    exact Dv (hb.mpr w)
 rintro σ H4 ⟨jl,js,c5,c6,rfl,s4,ej,K4,sub,mn⟩
 rw[C6,Dr (Dd _)] at mn
 refine ⟨_,rfl,_,rfl,(by show 2<=Dm;decide),λp hp =>?_⟩
 have g5:=ae hp (.tup [.ref jl,.int nn])
 exact q p jl nn js _ (s3.trans (s4.trans g5)) ag (g5 _ _ ej) nn0 K4 λp hp=>mn p (sub p hp) hp
end
theorem Ca (xs:List V){k:Nat}(h:k<=xs.length):dY xs none (some (k:Int))=xs.take k:=by
 unfold dY HT.sIx
 simp only[show ¬ ((k:Int)<0) by lia,if_false,Fx,LS,JB,show min k xs.length=k by lia]
theorem Cb (xs:List V){k:Nat}(h:k<=xs.length):dY xs (some (k:Int)) none=xs.drop k:=by
 unfold dY HT.sIx
 simp only[show ¬ ((k:Int)<0) by lia,if_false,Fx,show min k xs.length=k by lia]
 exact Dr (by rw[EO];exact Dd _)
def RwT (H:Hp)(ks:List Rw):Prop:=∀k∈ks,H k.1=some (.tup [.int k.2.1,.ref k.2.2.1])/\H k.2.2.1=some (.tup (k.2.2.2.map V.int))/\k.2.2.2≠[]/\k.2.2.2.length<=60
theorem RwT.same {H H':Hp}{ks:List Rw}(h:RwT H ks)(s:aB H H'):RwT H' ks:=λk hk=>⟨s _ _ (h k hk).1,s _ _ (h k hk).2.1,(h k hk).2.2⟩
theorem RwT.snoc {H:Hp}{ks:List Rw}{l tq ra:Addr}{x:Int}{Z:List Int}{xs ys:List V}(h:RwT H ks)(el:H l=some (.lst xs))(et:H tq=some (.tup [.int x,.ref ra]))(er:H ra=some (.tup (Z.map V.int)))(ne:Z≠[])(lz:Z.length<=60):RwT (upd H l (.lst ys)) (ks++[(tq,x,ra,Z)]):=λk hk=>by
 have put:∀{a:Addr} {xs:List V},H a=some (.tup xs)->upd H l (.lst ys) a=some (.tup xs):=λ{a xs} h=>by rw[az (cF h el (by intro z;cases z))];exact h
 rcases Dh.mp hk with z | z
 ·exact ⟨put (h k z).1,put (h k z).2.1,(h k z).2.2⟩
 ·have:k=(tq,x,ra,Z):=by simpa using z
  subst this
  exact ⟨put et,put er,ne,lz⟩
theorem y6 {m:Nat}{F:List (List Int)}{Z:List Int}{x:Int}(h:IsL m F Z)(hx:x∉Z):IsL m (F.filter (off [x])) Z:=by
 obtain ⟨ne,nd,rg,h2,h3⟩:=h
 have cn:∀a∈Z,∀b∈Z,(F.filter (off [x])).count (nrm a b)=F.count (nrm a b):=λa ha b hb=>by
  refine LM (va ?_ ?_)
  ·intro z;exact hx ((show a=x by simpa using z) ▸ ha)
  ·intro z;exact hx ((show b=x by simpa using z) ▸ hb)
 have l0:=GX.mpr ne
 have pm:∀k,k<Z.length->prv Z k∈Z:=λk hk=>getD_mem (by split <;> omega)
 refine ⟨ne,nd,rg,λl =>?_,λl k hk =>?_⟩
 ·rw[cn _ (getD_mem l0) _ (pm 0 l0)];exact h2 l
 ·rw[cn _ (pm k hk) _ (getD_mem hk)];exact h3 l k hk
theorem AI {m:Nat}{E:List (List Int)}(O:Ok m E){ks:List Int}(w:dO (E.filter (off ks))){x:Int}(hx:x∈ks){Z:List Int}(h:IsL m (E.filter (off (less x ks))) Z):x∈Z:=by
 apply FR
 intro no
 have:=y6 h no
 rw[AG hx] at this
 exact B6 (k8 O ks) w this
abbrev vh:Sp:=λvs H Q _=>∃(r:Addr) (m:Nat) (n:Int) (ts:LA),vs=[.ref r,.int n]/\Wb H r m ts/\m<=40/\0<=n/\∀(p l:Addr) (n':Int) (rs:List Rw) (H':Hp),aB H H'->H' p=some (.tup [.ref l,.int n'])->H' l=some (.lst (rs.map λk =>.ref k.1))->0<=n'->RwT H' rs->rs.length<=40->Q (.ref p) H'
@[irreducible] def qr:Sp:=vh
theorem iI {vs:List V}{H:Hp}{Q:VK}{E:XK}:qr vs H Q E↔vh vs H Q E:=by
 delta qr
 exact Gn
section
theorem cq:aU ["web", "number", "kept", "rows", "place", "others", "rings", "at", "turn", "one", "cut", "ring"] ["web", "number"] (aG tQ):=⟨rfl,rfl,rfl,by decide +kernel,rfl,by decide +kernel,by decide +kernel⟩
theorem ib:(["other", "place"]:List Str).Nodup:=by decide +kernel
theorem iJ:(["ring", "place"]:List Str).Nodup:=by decide +kernel
theorem AJ (F:Fun K "_law_rows" "_law_rows" tQ f fd)(B:Blt mg)(cLLeast:Cal P w K mg base 2 "_law_least" ["web", "number"] lb)(cLRings:Cal P w K mg base 1 "_law_rings" ["web", "most"] k7)(cLCut:Cal P w K mg base 1 "_law_cut" ["web", "places"] kF):cy P w K mg base CX0 3 f fd ["web", "number"] qr:=by
 refine F.ok cq (λvs H Q E h =>?_) (λcdv A outer s H vs Q E hr h =>?_)
 ·obtain ⟨_,_,_,_,rfl,_⟩:=iI.mp h
  rfl
 obtain ⟨r,m,n,ts,rfl,W,m4,n0,q⟩:=iI.mp h
 refine ⟨_,(ai (bt (aY cLLeast hr (by decide) rfl (aa (pv 0) (aa (pv 1) ah rfl) rfl)) (aX rfl (ax (ao (i:=2) cq.nd rfl (Or.inl rfl)) (ax (ao (i:=1) cq.nd rfl (Or.inl rfl)) aP))) rfl rfl rfl)
  (ai (aS (i:=3) cq.nd rfl (Or.inl rfl) (bH ah))
  (ai (bR Ea rfl (bO (pv 2)) (ao (i:=4) cq.nd rfl (Or.inr rfl))
   (ai (cG (i:=5) ["other", "place"] [none,some 4] rfl cq.nd rfl rfl (bO (pv 2)) rfl (λ_ _ _ _ _=>(ao (i:=0) ib rfl (Or.inl rfl))) (λ_ _ _ _ _=>(fA (aD j0 (pv 0) (pv 1) (aH _)))) (λ_ _ _ _ _=>(pv 0)))
   (ai (cG (i:=6) ["ring", "place"] [none,some 4] rfl cq.nd rfl rfl (bO (aY cLRings hr (by decide) rfl (aa (aY cLCut hr (by decide) rfl (aa (pv 0) (aa (pv 5) ah rfl) rfl)) (aa ak ah rfl) rfl))) rfl (λ_ _ _ _ _=>(ao (i:=0) iJ rfl (Or.inl rfl))) (λ_ _ _ _ _=>(fA (aD (sM (K:=K)) (pv 1) (pv 0) rfl))) (λ_ _ _ _ _=>(pv 0)))
   (ai (bt (ay aF rfl B.b_divmod aQ (aa (pv 1) (aa (ay aI rfl B.b_len cB (aa (pv 6) ah rfl)) ah rfl) rfl)) (aX rfl (ax (ao (i:=1) cq.nd rfl (Or.inl rfl)) (ax (ao (i:=7) cq.nd rfl (Or.inl rfl)) aP))) rfl rfl rfl)
   (ai (bt (ay aF rfl B.b_divmod aQ (aa (pv 1) (aa ak ah rfl) rfl)) (aX rfl (ax (ao (i:=1) cq.nd rfl (Or.inl rfl)) (ax (ao (i:=8) cq.nd rfl (Or.inl rfl)) aP))) rfl rfl rfl)
   (ai (aS (i:=9) cq.nd rfl (Or.inl rfl) (aM cC (pv 6) (pv 7) (λ_ _=>rfl)))
   (ai (aS (i:=10) cq.nd rfl (Or.inl rfl) (aE eG (pv 8) (ay aI rfl B.b_len cB (aa (pv 9) ah rfl))))
   (ai (aS (i:=11) cq.nd rfl (Or.inl rfl) (aE eZ (aW gW (pv 9) (a9 (pv 10)) bE) (aW gW (pv 9) bE (a9 (pv 10)))))
   (ai (bh (aD j5 (pv 8) ak (aH _)) (aq (aS (i:=11) cq.nd rfl (Or.inl rfl) (wt hr.hd rfl B.b_tuple rfl B.b_reversed (pv 11)))) aL)
   (aq (bX (eB DY Er Es bZ (pv 3) (aa (aT (aa (pv 4) (aa (pv 11) ah rfl) rfl)) ah rfl)))))))))))) (λ_=>rfl))
  (aq (aJ (aT (aa (pv 3) (aa (pv 1) ah rfl) rfl))))))),?_⟩
 have O:=oX W
 refine ⟨_,rfl,_,rfl,gH.mpr ⟨r,m,n,ts,rfl,W,m4,n0,λp kl n1 ks H1 s1 ep ek n10 K1 mn =>?_⟩⟩
 have lk:=K1.len
 refine ⟨p,_,rfl,SqT.of ep,rfl,_,_,rfl,_,_,rfl,rfl,(by show 0<=Dm;decide),λrl hrl =>?_⟩
 have g2:=ae hrl (.lst [])
 have hrl0:=s1.free hrl
 have erl:upd H1 rl (.lst []) rl=some (.lst (([]:List Rw).map λk =>.ref k.1)):=ag
 have ek2:=g2 _ _ ek
 have s2:=s1.trans g2
 generalize upd H1 rl (.lst [])=H2 at erl ek2 s2
 have hkr:kl≠rl:=aA ek hrl
 let W0:Nat->St->Hp->Prop:=λi σ H'=>∃(nn:Int) (rs:List Rw) (c4 c5 c6 c7 c8 c9 c10 c11:Option V),σ=[some (.ref r),some (.int nn),some (.ref kl),some (.ref rl),c4,c5,c6,c7,c8,c9,c10,c11]/\0<=nn/\aB H H'/\H' rl=some (.lst (rs.map λk =>.ref k.1))/\RwT H' rs/\rs.length<=i/\H' kl=some (.lst (ks.map V.int))
 refine ⟨_,rfl,kl,rfl,⟨_,SqL.of ek2⟩,eM (xs:=ks.map V.int) W0 ⟨n1,[],_,_,_,_,_,_,_,_,rfl,n10,s2,erl,λk hk=>(by cases hk),Dd _,ek2⟩ (λi σ H' _ z =>?_) ?_ ?_⟩
 ·obtain ⟨_,_,_,_,_,_,_,_,_,_,_,_,_,_,_,_,e'⟩:=z
  exact SqL.of e'
 ·rintro i x σ H3 hx ⟨nn,rs,c4,c5,c6,c7,c8,c9,c10,c11,rfl,nn0,s3,erl,rt,lr,ek3⟩
  obtain ⟨x,ex,rfl⟩:=eE hx
  have xk:=Dp ex
  have hi:=(Di.mp ex).1
  refine ⟨_,rfl,kl,rfl,⟨_,SqL.of ek3⟩,bW (xs:=ks.map V.int) (λi ys H'=>H'=H3/\ys=(less x (ks.take i)).map V.int) ⟨rfl,rfl⟩ (by rw[C6];exact small (by lia)) (λi ys H' _ z=>by rw[z.1];exact SqL.of ek3) ?_ ?_⟩
  ·rintro j y ys He hx hy ⟨eH,rfl⟩ R1 R0 r1 r0
   obtain ⟨v,ev,rfl⟩:=eE hx
   refine ⟨_,rfl,_,rfl,rfl,_,rfl,?_⟩
   by_cases c:v=x
   ·exact iT (by rw[c]) (r0 _ ⟨eH,by rw[dR ev,if_neg (by simpa using c),DZ]⟩)
   ·rw[decide_eq_false (by intro z;injection z with z;exact c z)]
    exact bC ⟨_,rfl,r1 _ _ ⟨eH,by rw[dR ev,if_pos c]⟩⟩
  rintro ys He hy ⟨eH,rfl⟩ ol hol
  rw[eH] at hol ⊢
  rw[C6,Dr (Dd _)]
  obtain ⟨H4,zQ9,g4,eo4⟩:=nwZ hol (.lst ((less x ks).map V.int))
  rw[zQ9]
  refine ⟨_,rfl,_,rfl,cU.mpr ⟨r,ol,m,ts,less x ks,rfl,W.same (s3.trans g4),.inl eo4,λz us H5 s5 W5 e5 =>?_⟩⟩
  refine gD.mpr ⟨z,m,300,us,rfl,W5,m4,rfl,λl H6 vs s6 el tv av nv lv =>?_⟩
  rw[e5] at av nv
  have O':=k8 O (less x ks)
  have vne:=nv (yW O' (mn x xk))
  have hall:∀u∈vs,x∈u.2/\u.2≠[]/\u.2.length<=m:=λu hu=>⟨AI O K1.wd xk (av u hu),(av u hu).1,d8 (av u hu).2.1 (av u hu).2.2.1⟩
  refine ⟨l,rfl,⟨_,SqL.of el⟩,bW (xs:=vs.map λu =>.ref u.1) (λi ys H'=>H'=H6/\ys=(vs.take i).map λu =>.ref u.1) ⟨rfl,rfl⟩ (by rw[C6];exact Gv (m6 (by lia))) (λi ys H' _ z=>by rw[z.1];exact SqL.of el) ?_ ?_⟩
  ·rintro j y ys He hx hy ⟨eH,rfl⟩ R1 R0 r1 r0
   obtain ⟨u,eu,rfl⟩:=item hx
   have um:=Dp eu
   refine ⟨_,rfl,_,rfl,u.1,_,rfl,.inr (SqT.of (by rw[eH];exact tv u um)),rfl,di u.2,_,rfl,?_⟩
   show if (if false=true then _ else inV (.int x) (u.2.map V.int))=true then _ else _
   rw[if_neg Dv,dw,decide_eq_true (hall u um).1]
   exact bC ⟨_,rfl,r1 _ _ ⟨eH,by rw[D3,eu,Dj];rfl⟩⟩
  rintro ys He hy ⟨eH,rfl⟩ ql hql
  rw[eH] at hql ⊢
  rw[C6,Dr (Dd _)]
  have g7:=ae hql (.lst (vs.map λu=>V.ref u.1))
  have eq7:upd H6 ql (.lst (vs.map λu=>V.ref u.1)) ql=some (.lst (vs.map λu=>V.ref u.1)):=ag
  have s37:=g4.trans (s5.trans (s6.trans g7))
  have tv7:=tv.same g7
  generalize upd H6 ql (.lst (vs.map λu=>V.ref u.1))=H7 at g7 eq7 s37 tv7
  have lvm:(vs.map λu=>V.ref u.1).length=vs.length:=C6 _
  have v0:=GX.mpr vne
  obtain ⟨q0,x0,x1⟩:=dmN (j:=(((vs.map λu=>V.ref u.1).length:Nat):Int)) nn0 (by lia)
  refine ⟨_,rfl,_,rfl,ql,_,rfl,.inl (SqL.of eq7),nn,_,rfl,⟨by lia,by lia⟩,λp1 hp1=>⟨p1,_,rfl,SqT.of ag,rfl,_,_,rfl,_,_,rfl,rfl,?_⟩⟩
  have g8:=ae hp1 (.tup [.int (nn/(((vs.map λu=>V.ref u.1).length:Nat):Int)),.int (nn%(((vs.map λu=>V.ref u.1).length:Nat):Int))])
  generalize upd H7 p1 (.tup [.int (nn/(((vs.map λu=>V.ref u.1).length:Nat):Int)),.int (nn%(((vs.map λu=>V.ref u.1).length:Nat):Int))])=H8 at g8
  generalize nn/(((vs.map λu=>V.ref u.1).length:Nat):Int)=n1' at q0
  generalize nn%(((vs.map λu=>V.ref u.1).length:Nat):Int)=at' at x0 x1
  obtain ⟨n20,y0,y1⟩:=dmN (j:=7) q0 (by decide)
  refine ⟨_,rfl,n1',7,rfl,⟨by decide,by decide⟩,λp2 hp2=>⟨p2,_,rfl,SqT.of ag,rfl,_,_,rfl,_,_,rfl,rfl,?_⟩⟩
  have g9:=ae hp2 (.tup [.int (n1'/7),.int (n1'%7)])
  have s39:=s37.trans (g8.trans g9)
  have eq9:=g9 _ _ (g8 _ _ eq7)
  have tv9:=tv7.same (g8.trans g9)
  generalize upd H8 p2 (.tup [.int (n1'/7),.int (n1'%7)])=H9 at s39 eq9 tv9
  generalize n1'/7=n2 at n20
  generalize n1'%7=tn at y0 y1
  obtain ⟨a,rfl⟩:∃a:Nat,at'=a:=⟨at'.toNat,by lia⟩
  have ha:a<vs.length:=by lia
  have eu:vs[a]? = some (vs[a]'ha):=Dc ha
  generalize vs[a]'ha=u at eu
  have um:=Dp eu
  obtain ⟨_,une,ul⟩:=hall u um
  have u0:=GX.mpr une
  have lum:(u.2.map V.int).length=u.2.length:=C6 _
  have eat:atI (vs.map λu=>V.ref u.1) (a:Int)=some (.ref u.1):=cO (by rw[Dq,eu];rfl)
  have hu9:=tv9 u um
  refine ⟨_,rfl,_,rfl,ql,_,_,_,rfl,rfl,SqL.of eq9,eat,?_⟩
  refine ⟨_,rfl,_,rfl,u.1,_,rfl,.inr (SqT.of hu9),_,_,rfl,rfl,(by rw[lum];lia),?_⟩
  obtain ⟨c,hc⟩:∃c:Nat,tn%(((u.2.map V.int).length:Nat):Int)=c:=⟨(tn%(((u.2.map V.int).length:Nat):Int)).toNat,by have:=FG tn (b:=(((u.2.map V.int).length:Nat):Int)) (by rw[lum];lia);lia⟩
  have hcl:c<u.2.length:=by have:=Fn tn (b:=(((u.2.map V.int).length:Nat):Int)) (by rw[lum];lia);rw[lum] at this hc;lia
  show eA 10 (.int (tn%(((u.2.map V.int).length:Nat):Int))) _ _ _
  rw[hc]
  refine ⟨_,rfl,_,rfl,_,rfl,u.1,_,rfl,hu9,λa1 Ha sa ea =>?_⟩
  rw[Cb _ (by rw[lum];lia), <- IT] at ea
  refine ⟨_,rfl,_,rfl,_,rfl,u.1,_,rfl,sa _ _ hu9,λa2 Hb sb eb =>?_⟩
  rw[Ca _ (by rw[lum];lia), <- JX] at eb
  refine ⟨a1,a2,_,_,rfl,rfl,sb _ _ ea,eb,by rw[C6,C6,EO,Ew];exact cJ (by lia),λtu Hc sc ec =>?_⟩
  rw[<- Dj] at ec
  have lT:(u.2.drop c++u.2.take c).length=u.2.length:=by rw[C8,EO,Ew];lia
  generalize u.2.drop c++u.2.take c=Z at ec lT
  have zne:Z≠[]:=λe=>by rw[e] at lT;simp at lT;lia
  have zl:Z.length<=60:=by lia
  have s3c:=s39.trans (sa.trans (sb.trans sc))
  refine ⟨_,rfl,_,_,rfl,rfl,_,rfl,cv (λz =>?_) λz =>?_⟩
  ·refine ⟨_,rfl,tu,_,rfl,SqT.of ec,by rw[C6];lia,λp6 hp6 =>?_⟩
   have gd:=ae hp6 (.tup (Z.map V.int).reverse)
   have ed:upd Hc p6 (.tup (Z.map V.int).reverse) p6=some (.tup (Z.reverse.map V.int)):=by rw[ag,Me]
   have s3d:=s3c.trans gd
   generalize upd Hc p6 (.tup (Z.map V.int).reverse)=Hd at ed s3d
   refine ⟨_,rfl,.inl ⟨rfl,_,SqL.of (s3d _ _ erl)⟩,_,rfl,_,rfl,(by show 2<=Dm;decide),λtq htq =>?_⟩
   have gq:=ae htq (.tup [.int x,.ref p6])
   have eq':upd Hd tq (.tup [.int x,.ref p6]) tq=some (.tup [.int x,.ref p6]):=ag
   generalize upd Hd tq (.tup [.int x,.ref p6])=Hq at gq eq'
   have sq:=(s3d).trans gq
   have erq:=sq _ _ erl
   refine ⟨rl,_,_,rfl,rfl,erq,by rw[C6];exact cJ (by lia),n2,rs++[(tq,x,p6,Z.reverse)],_,_,_,_,_,_,_,_,rfl,n20,aB.cV (s3.trans sq) hrl0 _,by rw[ag,Dj];rfl,(rt.same sq).snoc erq eq' (gq _ _ (ed)) (λe=>zne (List.reverse_eq_nil_iff.mp e)) (by rw[E2];exact zl),by rw[C8];show _+1<=_;lia,by rw[az hkr];exact sq _ _ ek3⟩
  ·refine ⟨_,rfl,.inl ⟨rfl,_,SqL.of (s3c _ _ erl)⟩,_,rfl,_,rfl,(by show 2<=Dm;decide),λtq htq =>?_⟩
   have gq:=ae htq (.tup [.int x,.ref tu])
   have eq':upd Hc tq (.tup [.int x,.ref tu]) tq=some (.tup [.int x,.ref tu]):=ag
   generalize upd Hc tq (.tup [.int x,.ref tu])=Hq at gq eq'
   have sq:=(s3c).trans gq
   have erq:=sq _ _ erl
   refine ⟨rl,_,_,rfl,rfl,erq,by rw[C6];exact cJ (by lia),n2,rs++[(tq,x,tu,Z)],_,_,_,_,_,_,_,_,rfl,n20,aB.cV (s3.trans sq) hrl0 _,by rw[ag,Dj];rfl,(rt.same sq).snoc erq eq' (gq _ _ (ec)) zne zl,by rw[C8];show _+1<=_;lia,by rw[az hkr];exact sq _ _ ek3⟩
 rintro σ H3 ⟨nn,rs,c4,c5,c6,c7,c8,c9,c10,c11,rfl,nn0,s3,erl,rt,lr,ek3⟩
 rw[C6] at lr
 refine ⟨_,rfl,_,rfl,(by show 2<=Dm;decide),λp hp =>?_⟩
 have g5:=ae hp (.tup [.ref rl,.int nn])
 exact q p rl nn rs _ (s3.trans g5) ag (g5 _ _ erl) nn0 (rt.same g5) (by lia)
end
theorem ng {p:Int}{q:Int->Bool}:∀{l:List Int},l.Nodup->p∈l->(∀v∈l,q v=true↔v=p)->l.filter q=[p]
 | a :: l,nd,hp,h=>by
  obtain ⟨na,nd'⟩:=EI.mp nd
  by_cases e:a=p
  ·subst e
   rw[J4 ((h a DA).mpr rfl)]
   rw[Ko.mpr λv hv hq=>na (((h v (DB _ hv)).mp hq) ▸ hv)]
  ·rw[J5 λhq=>e ((h a DA).mp hq)]
   exact ng nd' ((Dx.mp hp).resolve_left (EB e)) λv hv=>h v (DB _ hv)
theorem sf {ps Z:List Int}{p:Int}(nz:Z.Nodup)(h:(ps.filter λv=>decide (v∈Z))=[p]):(Z.filter λv=>decide (v∈ps))=[p]:=by
 have hm:∀v,v∈ps/\v∈Z↔v=p:=λv=>by
  have:v∈(ps.filter λv=>decide (v∈Z))↔v∈[p]:=by rw[h]
  rw[E4,decide_eq_true_iff,DD] at this
  exact this
 refine ng nz ((hm p).mpr rfl).2 λv hv =>?_
 rw[decide_eq_true_iff]
 exact ⟨λhp=>(hm v).mp ⟨hp,hv⟩,λe=>((hm v).mpr e).1⟩
theorem y7 {ps us out:List Int}(nu:us.Nodup)(mu:∀k,k∈us↔k∈ps)(po:out.Perm us)(so:out.Pairwise (· <= ·)):ps=out↔rise ps=true:=by
 unfold rise
 rw[decide_eq_true_iff]
 constructor
 ·intro e
  rw[e]
  exact (so.and (po.nodup_iff.mpr nu)).imp λ{a b} h=>by have:=h.1;have:=h.2;lia
 ·intro rs
  have np:ps.Nodup:=rs.imp λ{a b} h=>by lia
  have pu:us.Perm ps:=(Hw nu np).mpr mu
  exact ((po.trans pu).eq_of_pairwise (λa b _ _ h1 h2=>Int.le_antisymm h1 h2) so (rs.imp λ{a b} h=>Int.le_of_lt h)).symm
theorem _root_.L2.wA.same {H H':Hp}{ks:List Rw}(h:wA H ks)(s:aB H H'):wA H' ks:=λk hk=>⟨s _ _ (h k hk).1,s _ _ (h k hk).2⟩
abbrev sg:Sp:=λvs H Q _=>∃(b l:Addr) (m:Nat) (ts:LA) (ks:List Rw),vs=[.ref b,.ref l]/\Wb H b m ts/\m<=200/\H l=some (.lst (ks.map λk =>.ref k.1))/\wA H ks/\(∀k∈ks,k.2.2.2.length<=200)/\ks.length<=200/\∀(bb:Bool) H',aB H H'->(bb=true↔LRt m (ts.map (·.2)) ks)->Q (.bl bb) H'
@[irreducible] def lq:Sp:=sg
theorem gJ {vs:List V}{H:Hp}{Q:VK}{E:XK}:lq vs H Q E↔sg vs H Q E:=by
 delta lq
 exact Gn
section
theorem jw:aU ["web", "rows", "places", "place", "ring"] ["web", "rows"] (aG p5):=⟨rfl,rfl,rfl,by decide +kernel,rfl,by decide +kernel,by decide +kernel⟩
theorem qu:(["row"]:List Str).Nodup:=by decide +kernel
theorem iK:(["place", "web"]:List Str).Nodup:=by decide +kernel
theorem fU:(["other", "places"]:List Str).Nodup:=by decide +kernel
theorem y8 (F:Fun K "_law_right" "_law_right" p5 f fd)(B:Blt mg)(cLIsWood:Cal P w K mg base 1 "_law_is_wood" ["web"] m8)(cLCut:Cal P w K mg base 1 "_law_cut" ["web", "places"] kF)(cLIsRing:Cal P w K mg base 2 "_law_is_ring" ["web", "ring"] uU):cy P w K mg base CX0 3 f fd ["web", "rows"] lq:=by
 refine F.ok jw (λvs H Q E h =>?_) (λcdv A outer s H vs Q E hr h =>?_)
 ·obtain ⟨_,_,_,_,_,rfl,_⟩:=gJ.mp h
  rfl
 obtain ⟨b,l,m,ts,ks,rfl,W,m2,el,rw1,lz,lk,q⟩:=gJ.mp h
 refine ⟨_,(ai (aS (i:=2) jw.nd rfl (Or.inr rfl) (bY ["row"] [none] rfl (bO (pv 1)) rfl (λ_ _ _ _ _=>(ao (i:=0) qu rfl (Or.inl rfl))) (λ_ _ _ _ _=>de) (λ_ _ _ _ _=>(aM (dq (K:=K)) (pv 0) ak (λ_ _=>rfl)))))
  (ai (bh (PW.pt (jZ (aD (uH hr) (pv 2) (ay (mi (w:=w) rfl hr.hd) rfl B.b_sorted cQ (aa (aR (iw (w:=w) rfl hr.hd) rfl B.b_set tR (aa (pv 2) ah rfl)) ah rfl)) (aH _)) (jF (jG (fV (ay (gf rfl) rfl B.b_all mM (aa (bY ["place", "web"] [none,some 0] rfl (bO (pv 2)) rfl (λ_ _ _ _ _=>(ao (i:=0) iK rfl (Or.inl rfl))) (λ_ _ _ _ _=>de) (λ_ _ _ _ _=>(lE uh iN ak (pv 0) (aM (dq (K:=K)) (pv 1) ak (λ_ _=>rfl))))) ah rfl))))))) (aq (aJ dU)) aL)
  (ai (bR Ea rfl (bO (pv 1)) (aX rfl (ax (ao (i:=3) jw.nd rfl (Or.inl rfl)) (ax (ao (i:=4) jw.nd rfl (Or.inl rfl)) aP)))
   (aq (bh (PW.pt (jZ (jG (fV (aY cLIsRing hr (by decide) rfl (aa (pv 0) (aa (pv 4) ah rfl) rfl)))) (jF (aD (uH hr) (bY ["other", "places"] [none,some 2] rfl (fY (pv 4)) rfl (λ_ _ _ _ _=>(ao (i:=0) fU rfl (Or.inl rfl))) (λ_ _ _ _ _=>(fA (aD (sM (K:=K)) (pv 0) (pv 1) rfl))) (λ_ _ _ _ _=>(pv 0))) (bH (aa (pv 3) ah rfl)) (aH _))))) (aq (aJ dU)) aL)) (λ_=>rfl))
  (aq (aJ (aY cLIsWood hr (by decide) rfl (aa (aY cLCut hr (by decide) rfl (aa (pv 0) (aa (pv 2) ah rfl) rfl)) ah rfl))))))),?_⟩
 obtain ⟨t,e1,e2⟩:=W.at'
 have O:=oX W
 have lm:(ks.map λk=>V.ref k.1).length=ks.length:=C6 _
 refine ⟨_,rfl,l,rfl,⟨_,SqL.of el⟩,bW (xs:=ks.map λk =>.ref k.1) (λi ys H'=>H'=H/\ys=(plc (ks.take i)).map V.int) ⟨rfl,rfl⟩ (by rw[lm];exact small (by lia)) (λi ys H' _ z=>by rw[z.1];exact SqL.of el) ?_ ?_⟩
 ·rintro i x ys H3 hx hy ⟨eH,rfl⟩ R1 R0 r1 r0
  obtain ⟨k,ek,rfl⟩:=itK hx
  have hk:=(rw1 k (Dp ek)).1
  rw[<- eH] at hk
  refine bC ⟨_,rfl,k.1,_,0,_,rfl,rfl,SqT.of hk,rfl,r1 _ _ ⟨eH,?_⟩⟩
  unfold plc
  rw[D3,ek,Dj,Dj];rfl
 rintro ys H3 hy ⟨eH,rfl⟩ kl hkl
 rw[eH] at hkl ⊢
 rw[lm,Dr (Dd _)]
 have lK:(plc ks).length<=200:=by unfold plc;rw[C6];exact lk
 obtain ⟨H1,zQ9,g1,ek1⟩:=nwZ hkl (.lst ((plc ks).map V.int))
 rw[zQ9]
 refine ⟨_,rfl,_,rfl,kl,plc ks,rfl,.inl (SqL.of ek1),by lia,λsa us hsa mu nu lu =>?_⟩
 obtain ⟨H2,zQ9,g2,esa⟩:=nwZ hsa (dv w sa (us.map V.int))
 rw[zQ9]
 refine ⟨sa,us,rfl,esa,by lia,λl5 out hl5 po so =>?_⟩
 have g3:=ae hl5 (.lst (out.map V.int))
 have s3:=g1.trans (g2.trans g3)
 have ek3:=g3 _ _ (g2 _ _ ek1)
 have el5:upd H2 l5 (.lst (out.map V.int)) l5=some (.lst (out.map V.int)):=ag
 generalize upd H2 l5 (.lst (out.map V.int))=H3' at g3 s3 ek3 el5
 refine ⟨kl,l5,plc ks,out,rfl,rfl,SqL.of ek3,SqL.of el5,_,rfl,?_⟩
 have rsI:=y7 nu mu po so
 by_cases er:plc ks=out
 case neg =>
  rw[decide_eq_false er]
  refine bC (bC (q false _ s3 ⟨λh=>(by cases h),λh =>?_⟩))
  have:=h.1
  unfold isSet at this
  rw[EC] at this
  exact absurd (rsI.mpr this.1) er
 rw[decide_eq_true er]
 have rs:=rsI.mp er
 have ndK:(plc ks).Nodup:=by
  unfold rise at rs
  exact (of_decide_eq_true rs).imp λ{a b} h=>by lia
 refine cz ?_
 refine ⟨_,rfl,kl,rfl,⟨_,SqL.of ek3⟩,bW (xs:=(plc ks).map V.int) (λi ys H'=>H'=H3'/\ys=(((plc ks).take i).map λv=>decide (0<=v/\v<(m:Int))).map V.bl) ⟨rfl,rfl⟩ (by rw[C6];exact small (by lia)) (λi ys H' _ z=>by rw[z.1];exact SqL.of ek3) ?_ ?_⟩
 ·rintro i x ys H4 hx hy ⟨eH,rfl⟩ R1 R0 r1 r0
  obtain ⟨v,ev,rfl⟩:=eE hx
  refine bC ⟨_,rfl,_,_,rfl,rfl,_,rfl,cv (λz =>?_) λz =>?_⟩
  ·refine ⟨_,rfl,b,_,0,_,rfl,rfl,SqT.of (by rw[eH];exact s3 _ _ e1),rfl,_,_,rfl,rfl,?_⟩
   refine r1 _ _ ⟨eH,?_⟩
   rw[take_snoc (f:=λv:Int=>decide (0<=v/\v<(m:Int))) ev,Dj]
   have z':(0:Int)<=v:=of_decide_eq_true z
   show _=_++[V.bl (decide (0<=v/\v<(m:Int)))]
   rw[show decide (0<=v/\v<(m:Int))=decide (v<(m:Int)) by simp[z']]
  ·refine r1 _ _ ⟨eH,?_⟩
   rw[take_snoc (f:=λv:Int=>decide (0<=v/\v<(m:Int))) ev,Dj]
   have z':¬ (0:Int)<=v:=λh=>z (decide_eq_true h)
   show _=_++[V.bl (decide (0<=v/\v<(m:Int)))]
   rw[show decide (0<=v/\v<(m:Int))=false by simp[z']]
 rintro ys H4 hy ⟨eH,rfl⟩ l6 hl6
 rw[eH] at hl6 ⊢
 rw[C6,Dr (Dd _)]
 have g4:=ae hl6 (.lst (((plc ks).map λv=>decide (0<=v/\v<(m:Int))).map V.bl))
 refine ⟨l6,_,rfl,SqL.of ag,_,rfl,?_⟩
 rw[uV]
 generalize upd H3' l6 (.lst (((plc ks).map λv=>decide (0<=v/\v<(m:Int))).map V.bl))=H5 at g4
 have s5:=s3.trans g4
 have ek5:=g4 _ _ ek3
 have iS:isSet m (plc ks)=true↔∀v∈plc ks,0<=v/\v<(m:Int):=by
  unfold isSet
  rw[rs,Lu,F2]
  exact forall_congr' λv=>forall_congr' λ_=>by unfold inR;rw[EC,decide_eq_true_iff,decide_eq_true_iff]
 by_cases rg:∀v∈plc ks,0<=v/\v<(m:Int)
 case neg =>
  rw[decide_eq_false rg]
  exact bC (q false _ s5 ⟨λz=>(by cases z),λz=>absurd (iS.mp z.1) rg⟩)
 rw[decide_eq_true rg]
 refine cz ?_
 have el5':=s5 _ _ el
 let W0:Nat->St->Hp->Prop:=λi σ H'=>(∃c3 c4,σ=[some (.ref b),some (.ref l),some (.ref kl),c3,c4])/\aB H5 H'/\∀k∈ks.take i,Own (ts.map (·.2)) (plc ks) k.2.1 k.2.2.2
 refine ⟨_,rfl,l,rfl,⟨_,SqL.of el5'⟩,eM (xs:=ks.map λk =>.ref k.1) W0 ⟨⟨_,_,rfl⟩,aB.refl _,λk hk=>(by cases hk)⟩ (λi σ H' _ z=>SqL.of (z.2.1 _ _ el5')) ?_ ?_⟩
 ·rintro i x σ H6 hx ⟨⟨c3,c4,rfl⟩,s6,al⟩
  obtain ⟨k,ek,rfl⟩:=itK hx
  have hm:=Dp ek
  have s56:=s5.trans s6
  obtain ⟨hk,hz⟩:=rw1.same s56 k hm
  have tk:ks.take (i+1)=ks.take i++[k]:=by rw[D3,ek];rfl
  refine ⟨k.1,_,rfl,SqT.of hk,rfl,_,_,rfl,_,_,rfl,rfl,?_⟩
  refine ⟨_,rfl,_,rfl,jU.mpr ⟨b,k.2.2.1,m,ts,k.2.2.2,rfl,W.same s56,m2,hz,lz k hm,λbk H7 s7 h7=>⟨_,rfl,?_⟩⟩⟩
  rw[Aw O] at h7
  have s57:=s56.trans s7
  cases bk with
  | false=>exact bC (bC (q false H7 s57 ⟨λz=>(by cases z),λz=>h7.mpr (z.2.2 k hm).1⟩))
  | true =>
  have rk:=h7.mp rfl
  refine cz ?_
  have hz7:=s7 _ _ hz
  have ek7:=s7 _ _ (s6 _ _ ek5)
  have lzk:=lz k hm
  refine ⟨_,rfl,k.2.2.1,rfl,⟨_,SqT.of hz7⟩,dA (xs:=k.2.2.2.map V.int) (λi ys H'=>H'=H7/\ys=((k.2.2.2.take i).filter λv=>decide (v∈plc ks)).map V.int) ⟨rfl,rfl⟩ (by rw[C6];exact small (by lia)) (λi ys H' _ y=>by rw[y.1];exact SqT.of hz7) ?_ ?_⟩
  ·rintro j x ys He hx hy ⟨eH,rfl⟩ R1 R0 r1 r0
   obtain ⟨v,ev,rfl⟩:=eE hx
   refine ⟨_,rfl,_,rfl,kl,_,rfl,.inl (SqL.of (by rw[eH];exact ek7)),rfl,di (plc ks),_,rfl,?_⟩
   show if (if false=true then _ else inV (.int v) ((plc ks).map V.int))=true then _ else _
   rw[if_neg Dv,dw]
   by_cases d:v∈plc ks
   ·rw[decide_eq_true d]
    exact bC ⟨_,rfl,r1 _ _ ⟨eH,by rw[dk ev,if_pos (by simp[d])]⟩⟩
   ·rw[decide_eq_false d]
    exact cz (r0 _ ⟨eH,by rw[dk ev,if_neg (by simp[d]),DZ]⟩)
  rintro ys He hy ⟨eH,rfl⟩ l8 hl8
  rw[eH] at hl8 ⊢
  rw[C6,Dr (Dd _)]
  generalize ef:(k.2.2.2.filter λv=>decide (v∈plc ks))=fs
  obtain ⟨Hf,zQ9,g8,el8⟩:=nwZ hl8 (.lst (fs.map V.int))
  rw[zQ9]
  refine ⟨_,rfl,(by show 1<=Dm;decide),λl9 hl9 =>?_⟩
  have g9:=ae hl9 (.lst [.int k.2.1])
  refine ⟨l8,l9,fs,[k.2.1],rfl,rfl,SqL.of (g9 _ _ el8),SqL.of ag,_,rfl,?_⟩
  by_cases e:fs=[k.2.1]
  ·rw[decide_eq_true e]
   refine cz ⟨⟨_,_,rfl⟩,s6.trans (s7.trans (g8.trans g9)),λk' hk' =>?_⟩
   rw[tk] at hk'
   rcases Dh.mp hk' with y | y
   ·exact al k' y
   ·have:k'=k:=by simpa using y
    rw[this]
    exact ⟨rk,sf ndK (ef.trans e)⟩
  ·rw[decide_eq_false e]
   exact bC (q false _ (s57.trans (g8.trans g9)) ⟨λz=>(by cases z),λz=>absurd (ef.symm.trans (sf rk.2.1 (z.2.2 k hm).2)) e⟩)
 rintro σ H6 ⟨⟨c3,c4,rfl⟩,s6,al⟩
 rw[lm,Dr (Dd _)] at al
 have s56:=s5.trans s6
 refine ⟨_,rfl,_,rfl,cU.mpr ⟨b,kl,m,ts,plc ks,rfl,W.same s56,.inl (s6 _ _ ek5),λz us H7 s7 W7 e7=>d9.mpr ⟨z,m,us,rfl,W7,by lia,λH8 bb s8 hb =>?_⟩⟩⟩
 rw[e7] at hb
 exact q bb H8 (s56.trans (s7.trans s8)) (hb.trans ⟨λh=>⟨iS.mpr rg,h,al⟩,λh=>h.2.1⟩)
end
set_option maxHeartbeats 4000000
theorem nw {H:Hp}{a:Addr}(h:H a=none)(o:HO):∃H',upd H a o=H'/\aB H H'/\H' a=some o:=⟨_,rfl,ae h o,ag⟩
theorem cf (ks:List Rw)(a b:Option Int):∃js:List Rw,dY (ks.map λk=>V.ref k.1) a b=js.map (λk=>V.ref k.1)/\(∀k∈js,k∈ks)/\js.length<=ks.length:=by
 unfold dY
 refine ⟨(ks.drop _).take _,(by rw[JX,IT]),λk hk=>GD (Fl hk),?_⟩
 rw[Ew,EO];lia
theorem lx (Z:List Int)(a b:Option Int):∃Y:List Int,dY (Z.map V.int) a b=Y.map V.int/\Y.length<=Z.length:=by
 unfold dY
 refine ⟨(Z.drop _).take _,(by rw[JX,IT]),?_⟩
 rw[Ew,EO];lia
def Gd1 (H:Hp)(k:Rw):Prop:=H k.1=some (.tup [.int k.2.1,.ref k.2.2.1])/\H k.2.2.1=some (.tup (k.2.2.2.map V.int))/\k.2.2.2.length<=200
def Gd (H:Hp)(ks:List Rw):Prop:=∀k∈ks,Gd1 H k
theorem Gd.same {H H':Hp}{ks:List Rw}(h:Gd H ks)(s:aB H H'):Gd H' ks:=λk hk=>⟨s _ _ (h k hk).1,s _ _ (h k hk).2.1,(h k hk).2.2⟩
theorem gd3 {H:Hp}{ks ja jc:List Rw}{r:Rw}(ua:∀k∈ja,k∈ks)(uc:∀k∈jc,k∈ks)(g:Gd H ks)(h:Gd1 H r):Gd H (ja++[r]++jc):=λk hk=>by
 rcases Dh.mp hk with z | z
 ·rcases Dh.mp z with z | z
  ·exact g k (ua k z)
  ·have:k=r:=by simpa using z
   rw[this];exact h
 ·exact g k (uc k z)
theorem gd2 {H:Hp}{ks ja jb:List Rw}(ua:∀k∈ja,k∈ks)(ub:∀k∈jb,k∈ks)(g:Gd H ks):Gd H (ja++jb):=λk hk=>(Dh.mp hk).elim (λz=>g k (ua k z)) λz=>g k (ub k z)
theorem Cc {wy:Int}(h0:12<=wy)(h1:wy<18)(a b c:Int):∃v:Int,atI [V.int a,.int b,.int c,.int 0,.int 0,.int 0] (wy-12)=some (.int v):=by
 obtain ⟨k,hk,hk6⟩:∃k:Nat,wy-12=k/\k<6:=⟨(wy-12).toNat,by omega,by omega⟩
 rw[hk]
 match k,hk6 with
 | 0,_=>exact ⟨_,rfl⟩
 | 1,_=>exact ⟨_,rfl⟩
 | 2,_=>exact ⟨_,rfl⟩
 | 3,_=>exact ⟨_,rfl⟩
 | 4,_=>exact ⟨_,rfl⟩
 | 5,_=>exact ⟨_,rfl⟩
theorem Cd {wy:Int}(h0:15<=wy)(h1:wy<18){H:Hp}{t1 t2 t3:Addr}{Y1 Y2 Y3:List Int}(e1:H t1=some (.tup (Y1.map V.int)))(e2:H t2=some (.tup (Y2.map V.int)))(e3:H t3=some (.tup (Y3.map V.int)))(l1:Y1.length<=2)(l2:Y2.length<=2)(l3:Y3.length<=2):∃(od:Addr) (Y:List Int),atI [V.ref t1,.ref t2,.ref t3] (wy-15)=some (.ref od)/\H od=some (.tup (Y.map V.int))/\Y.length<=2:=by
 obtain ⟨k,hk,hk6⟩:∃k:Nat,wy-15=k/\k<3:=⟨(wy-15).toNat,by lia,by lia⟩
 rw[hk]
 match k,hk6 with
 | 0,_=>exact ⟨_,_,rfl,e1,l1⟩
 | 1,_=>exact ⟨_,_,rfl,e2,l2⟩
 | 2,_=>exact ⟨_,_,rfl,e3,l3⟩
abbrev o9:Sp:=λvs H Q _=>∃(r l:Addr) (m:Nat) (n:Int) (ts:LA) (ks:List Rw),vs=[.ref r,.ref l,.int n]/\Wb H r m ts/\m<=40/\H l=some (.lst (ks.map λk =>.ref k.1))/\RwT H ks/\ks.length<=40/\0<=n/\∀(z:Addr) (H':Hp) (js:List Rw),aB H H'->H' z=some (.lst (js.map λk =>.ref k.1))->Gd H' js->js.length<=200->Q (.ref z) H'
@[irreducible] def jz:Sp:=o9
theorem fR {vs:List V}{H:Hp}{Q:VK}{E:XK}:jz vs H Q E↔o9 vs H Q E:=by
 delta jz
 exact Gn
section
theorem bS:aU ["web", "rows", "number", "way", "at", "other", "place", "ring", "cut", "odd"] ["web", "rows", "number"] (aG mL):=⟨rfl,rfl,rfl,by decide +kernel,rfl,by decide +kernel,by decide +kernel⟩
theorem wO (F:Fun K "_law_spoilt" "_law_spoilt" mL f fd)(B:Blt mg):cy P w K mg base CX0 1 f fd ["web", "rows", "number"] jz:=by
 refine F.ok bS (λvs H Q E h =>?_) (λcdv A outer s H vs Q E hr h =>?_)
 ·obtain ⟨_,_,_,_,_,_,rfl,_⟩:=fR.mp h
  rfl
 obtain ⟨r,l,m,n,ts,ks,rfl,W,m4,el,rt,lk,n0,q⟩:=fR.mp h
 refine ⟨_,(ai (bt (ay aF rfl B.b_divmod aQ (aa (pv 2) (aa ak ah rfl) rfl)) (aX rfl (ax (ao (i:=2) bS.nd rfl (Or.inl rfl)) (ax (ao (i:=3) bS.nd rfl (Or.inl rfl)) aP))) rfl rfl rfl)
  (ai (bt (ay aF rfl B.b_divmod aQ (aa (pv 2) (aa (aE bM (ay aI rfl B.b_len cB (aa (pv 1) ah rfl)) ak) ah rfl) rfl)) (aX rfl (ax (ao (i:=2) bS.nd rfl (Or.inl rfl)) (ax (ao (i:=4) bS.nd rfl (Or.inl rfl)) aP))) rfl rfl rfl)
  (ai (bt (ay aF rfl B.b_divmod aQ (aa (pv 2) (aa (aE bM (aM aV (pv 0) ak (λ_ _=>rfl)) ak) ah rfl) rfl)) (aX rfl (ax (ao (i:=2) bS.nd rfl (Or.inl rfl)) (ax (ao (i:=5) bS.nd rfl (Or.inl rfl)) aP))) rfl rfl rfl)
  (ai (bh (aD cu (pv 3) ak (aH _)) (aq (aJ (aE bQ (aW bP (pv 1) bE (a9 (pv 4))) (aW bP (pv 1) (a9 (aE bM (pv 4) ak)) bE)))) aL)
  (ai (bh (aD cu (pv 3) ak (aH _)) (aq (aJ (aE bQ (aE bQ (aW bP (pv 1) bE (a9 (pv 4))) (aW bP (pv 1) (a9 (aE cg (pv 4) ak)) (a9 (pv 4)))) (aW bP (pv 1) (a9 (pv 4)) bE)))) aL)
  (ai (bh (aD cu (pv 3) ak (aH _)) (aq (aJ (tJ hr.hd rfl B.b_list rfl B.b_reversed (pv 1)))) aL)
  (ai (bh (aD cu (pv 3) ak (aH _)) (aq (aJ (ay (ig (hu8 hr)) rfl B.b_sorted cQ (aa (aE bQ (pv 1) (bH (aa (aT (aa (pv 5) (aa (aT (aa (pv 5) ah rfl)) ah rfl) rfl)) ah rfl))) ah rfl)))) aL)
  (ai (bh (aD cu (pv 3) ak (aH _)) (aq (aJ (ay (ig (hu8 hr)) rfl B.b_sorted cQ (aa (aE bQ (pv 1) (bH (aa (aT (aa (pv 5) (aa (aR (rf hr.hd) rfl B.b_tuple mP (aa (aR gp rfl B.b_range mO (aa (aM aV (pv 0) ak (λ_ _=>rfl)) ah rfl)) ah rfl)) ah rfl) rfl)) ah rfl))) ah rfl)))) aL)
  (ai (bh (aD cu (pv 4) (ay aI rfl B.b_len cB (aa (pv 1) ah rfl)) (aH _)) (aq (aJ (pv 1))) aL)
  (ai (bt (aM cC (pv 1) (pv 4) (λ_ _=>rfl)) (aX rfl (ax (ao (i:=6) bS.nd rfl (Or.inl rfl)) (ax (ao (i:=7) bS.nd rfl (Or.inl rfl)) aP))) rfl rfl rfl)
  (ai (bh (aD cu (pv 3) ak (aH _)) (aq (aJ (aE bQ (aE bQ (aW bP (pv 1) bE (a9 (pv 4))) (bH (aa (aT (aa (pv 6) (aa (aM aV (aM cC (pv 1) (aE eG (pv 5) (ay aI rfl B.b_len cB (aa (pv 1) ah rfl))) (λ_ _=>rfl)) ak (λ_ _=>rfl)) ah rfl) rfl)) ah rfl))) (aW bP (pv 1) (a9 (aE bM (pv 4) ak)) bE)))) aL)
  (ai (bh (aD cu (pv 3) ak (aH _)) (aq (aJ (aE bQ (aE bQ (aW bP (pv 1) bE (a9 (pv 4))) (bH (aa (aT (aa (pv 6) (aa (aE eZ (pv 7) (aW gW (pv 7) bE (a9 ak))) ah rfl) rfl)) ah rfl))) (aW bP (pv 1) (a9 (aE bM (pv 4) ak)) bE)))) aL)
  (ai (bh (aD cu (pv 3) ak (aH _)) (aq (aJ (aE bQ (aE bQ (aW bP (pv 1) bE (a9 (pv 4))) (bH (aa (aT (aa (aE bM (pv 6) (aE lC ak ak)) (aa (pv 7) ah rfl) rfl)) ah rfl))) (aW bP (pv 1) (a9 (aE bM (pv 4) ak)) bE)))) aL)
  (ai (bh (aD cu (pv 3) ak (aH _)) (aq (aJ (aE bQ (aE bQ (aW bP (pv 1) bE (a9 (pv 4))) (bH (aa (aT (aa (pv 6) (aa (aT ah) ah rfl) rfl)) ah rfl))) (aW bP (pv 1) (a9 (aE bM (pv 4) ak)) bE)))) aL)
  (ai (bh (aD cu (pv 3) ak (aH _)) (aq (aJ (aE bQ (aE bQ (aW bP (pv 1) bE (a9 (pv 4))) (bH (aa (aT (aa (w5 sA ak) (aa (pv 7) ah rfl) rfl)) ah rfl))) (aW bP (pv 1) (a9 (aE bM (pv 4) ak)) bE)))) aL)
  (ai (bh (aD j5 (pv 3) ak (aH _)) (ai (aS (i:=8) bS.nd rfl (Or.inl rfl) (aE eG (pv 5) (ay aI rfl B.b_len cB (aa (pv 7) ah rfl))))
   (ai (aS (i:=9) bS.nd rfl (Or.inl rfl) (aT (aa (aE bM (aM aV (pv 7) (pv 8) (λ_ _=>rfl)) (aM cC (bH (aa (aE cg ak (aM aV (pv 0) ak (λ_ _=>rfl))) (aa (aE lC ak ak) (aa (aE cg ak (aE lC ak ak)) (aa ak (aa ak (aa ak ah rfl) rfl) rfl) rfl) rfl) rfl)) (aE cg (pv 3) ak) (λ_ _=>rfl))) ah rfl)))
   (ai (bh (aD j5 (pv 3) ak (aH _)) (aq (aS (i:=9) bS.nd rfl (Or.inl rfl) (aM cC (bH (aa (aT (aa (pv 5) ah rfl)) (aa (aT ah) (aa (aT (aa (aM aV (pv 7) (pv 8) (λ_ _=>rfl)) (aa (pv 5) ah rfl) rfl)) ah rfl) rfl) rfl)) (aE cg (pv 3) ak) (λ_ _=>rfl)))) aL)
   (aq (aJ (aE bQ (aE bQ (aW bP (pv 1) bE (a9 (pv 4))) (bH (aa (aT (aa (pv 6) (aa (aE eZ (aE eZ (aW gW (pv 7) bE (a9 (pv 8))) (pv 9)) (aW gW (pv 7) (a9 (aE bM (pv 8) ak)) bE)) ah rfl) rfl)) ah rfl))) (aW bP (pv 1) (a9 (aE bM (pv 4) ak)) bE))))))) aL)
  (aq (aJ (pv 1))))))))))))))))))),?_⟩
 obtain ⟨t,e1,e2⟩:=W.at'
 have lm:(ks.map λk=>V.ref k.1).length=ks.length:=C6 _
 obtain ⟨q0,x0,x1⟩:=dmN (j:=18) n0 (by decide)
 refine ⟨_,rfl,n,18,rfl,⟨by decide,by decide⟩,λp1 hp1=>⟨p1,_,rfl,SqT.of ag,rfl,_,_,rfl,_,_,rfl,rfl,?_⟩⟩
 have s1:=ae hp1 (.tup [.int (n/18),.int (n%18)])
 generalize upd H p1 (.tup [.int (n/18),.int (n%18)])=H1 at s1
 generalize n/18=n1 at q0
 generalize n%18=wy at x0 x1
 have lI:(0:Int)<((ks.map λk=>V.ref k.1).length:Int)+1:=by lia
 obtain ⟨q2,y0,y1⟩:=dmN (j:=((ks.map λk=>V.ref k.1).length:Int)+1) q0 lI
 refine ⟨_,rfl,_,rfl,l,_,rfl,.inl (SqL.of (s1 _ _ el)),_,_,rfl,rfl,n1,_,rfl,⟨lI,by rw[lm];lia⟩,λp2 hp2=>⟨p2,_,rfl,SqT.of ag,rfl,_,_,rfl,_,_,rfl,rfl,?_⟩⟩
 have s2:=s1.trans (ae hp2 (.tup [.int (n1/(((ks.map λk=>V.ref k.1).length:Int)+1)),.int (n1%(((ks.map λk=>V.ref k.1).length:Int)+1))]))
 generalize upd H1 p2 (.tup [.int (n1/(((ks.map λk=>V.ref k.1).length:Int)+1)),.int (n1%(((ks.map λk=>V.ref k.1).length:Int)+1))])=H2 at s2
 generalize n1/(((ks.map λk=>V.ref k.1).length:Int)+1)=n2 at q2
 generalize n1%(((ks.map λk=>V.ref k.1).length:Int)+1)=at' at y0 y1
 obtain ⟨q3,w0,w1⟩:=dmN (j:=(m:Int)+1) q2 (by lia)
 refine ⟨_,rfl,_,rfl,r,_,0,_,rfl,rfl,SqT.of (s2 _ _ e1),rfl,_,_,rfl,rfl,n2,_,rfl,⟨by lia,by lia⟩,λp3 hp3=>⟨p3,_,rfl,SqT.of ag,rfl,_,_,rfl,_,_,rfl,rfl,?_⟩⟩
 have sH3:=s2.trans (ae hp3 (.tup [.int (n2/((m:Int)+1)),.int (n2%((m:Int)+1))]))
 generalize upd H2 p3 (.tup [.int (n2/((m:Int)+1)),.int (n2%((m:Int)+1))])=H3 at sH3
 generalize n2/((m:Int)+1)=n3 at q3
 generalize n2%((m:Int)+1)=ot at w0 w1
 obtain ⟨k,rfl⟩:∃k:Nat,at'=k:=⟨at'.toNat,by lia⟩
 rw[lm] at y1
 have gd:Gd H ks:=λk hk=>⟨(rt k hk).1,(rt k hk).2.1,DU (rt k hk).2.2.2 (by decide)⟩
 have fin:∀{z:Addr} {H':Hp} (js:List Rw),aB H H'->H' z=some (.lst (js.map λk =>.ref k.1))->Gd H' js->js.length<=200->Q (.ref z) H':=λjs s e g l=>q _ _ js s e g l
 have AR:∀(σ:St) (A1 nl tq ra:Addr) (pv:Int) (Z:List Int) (jA:List Rw) (HN:Hp),σ[1]? = some (some (.ref l))->σ[4]? = some (some (.int (k:Int)))->aB H HN->HN A1=some (.lst (jA.map λk =>.ref k.1))->(∀k∈jA,k∈ks)->jA.length<=ks.length->HN nl=some (.lst [.ref tq])->Gd1 HN (tq,pv,ra,Z)->∃a b xs ys,V.ref A1 = .ref a/\V.ref nl = .ref b/\SqL K HN a xs/\SqL K HN b ys/\xs.length+ys.length<=Dm/\∀S,HN S=none->∃v,σ[1]? = some (some v)/\∃v2,σ[4]? = some (some v2)/\∃i j,v2 = .int i/\V.int 1 = .int j/\∃n,V.int (i+j) = .int n/\∃p zs,v = .ref p/\SqL K (upd HN S (.lst (xs++ys))) p zs/\∀l2,upd HN S (.lst (xs++ys)) l2=none->∃a b xs' ys',V.ref S = .ref a/\V.ref l2 = .ref b/\SqL K (upd (upd HN S (.lst (xs++ys))) l2 (.lst (dY zs (some n) none))) a xs'/\SqL K (upd (upd HN S (.lst (xs++ys))) l2 (.lst (dY zs (some n) none))) b ys'/\xs'.length+ys'.length<=Dm/\∀z,upd (upd HN S (.lst (xs++ys))) l2 (.lst (dY zs (some n) none)) z=none->Q (.ref z) (upd (upd (upd HN S (.lst (xs++ys))) l2 (.lst (dY zs (some n) none))) z (.lst (xs'++ys'))):=λσ A1 nl tq ra pv Z jA HN σ1 σ4 sHN eA1 ujA ljA enl gr=>by
  have enl:HN nl=some (.lst (([(tq,pv,ra,Z)]:List Rw).map λk=>V.ref k.1)):=enl
  refine ⟨A1,nl,_,_,rfl,rfl,SqL.of (eA1),SqL.of (enl),by simp only[C6,C8,Dz,ER];exact cJ (by lia),λA2 hA2 =>?_⟩
  rw[<- Dj]
  obtain ⟨HC,zq,gA2,eA2⟩:=nw hA2 (.lst ((jA++[(tq,pv,ra,Z)]).map λk=>V.ref k.1))
  rw[zq]
  have sHC:=sHN.trans gA2
  refine ⟨_,σ1,_,σ4,_,_,rfl,rfl,_,rfl,l,_,rfl,SqL.of (sHC _ _ el),λA3 hA3 =>?_⟩
  obtain ⟨jC,ejC,ujC,ljC⟩:=cf ks (some ((k:Int)+1)) none
  rw[ejC]
  obtain ⟨HD,zq,gA3,eA3⟩:=nw hA3 (.lst (jC.map λk=>V.ref k.1))
  rw[zq]
  have sHD:=sHC.trans gA3
  refine ⟨A2,A3,_,_,rfl,rfl,SqL.of (gA3 _ _ eA2),SqL.of (eA3),by simp only[C6,C8,Dz,ER];exact cJ (by lia),λA4 hA4 =>?_⟩
  rw[<- Dj]
  obtain ⟨HE,zq,gA4,eA4⟩:=nw hA4 (.lst (((jA++[(tq,pv,ra,Z)])++jC).map λk=>V.ref k.1))
  rw[zq]
  have sHE:=sHD.trans gA4
  have gE:=gA2.trans (gA3.trans gA4)
  exact fin _ sHE eA4 (gd3 ujA ujC (gd.same sHE) ⟨gE _ _ gr.1,gE _ _ gr.2.1,gr.2.2⟩) (by simp only[C8,Dz,ER];lia)
 refine ⟨_,rfl,rfl,_,rfl,cv (λz =>?_) λz1 =>?_⟩
 ·refine ⟨_,rfl,_,rfl,_,rfl,l,_,rfl,SqL.of (sH3 _ _ el),λA1 hA1 =>?_⟩
  obtain ⟨jA,ejA,ujA,ljA⟩:=cf ks none (some (k:Int))
  rw[ejA]
  obtain ⟨HA,zq,gA1,eA1⟩:=nw hA1 (.lst (jA.map λk=>V.ref k.1))
  rw[zq]
  have sHA:=sH3.trans gA1
  refine ⟨_,rfl,_,rfl,_,_,rfl,rfl,_,rfl,l,_,rfl,SqL.of (sHA _ _ el),λA3 hA3 =>?_⟩
  obtain ⟨jC,ejC,ujC,ljC⟩:=cf ks (some ((k:Int)+1)) none
  rw[ejC]
  obtain ⟨HD,zq,gA3,eA3⟩:=nw hA3 (.lst (jC.map λk=>V.ref k.1))
  rw[zq]
  have sHD:=sHA.trans gA3
  refine ⟨A1,A3,_,_,rfl,rfl,SqL.of (gA3 _ _ eA1),SqL.of (eA3),by simp only[C6,C8,Dz,ER];exact cJ (by lia),λA4 hA4 =>?_⟩
  rw[<- Dj]
  obtain ⟨HE,zq,gA4,eA4⟩:=nw hA4 (.lst ((jA++jC).map λk=>V.ref k.1))
  rw[zq]
  have sHE:=sHD.trans gA4
  exact fin _ sHE eA4 (gd2 ujA ujC (gd.same sHE)) (by rw[C8];lia)
 refine ⟨_,rfl,rfl,_,rfl,cv (λz =>?_) λz2 =>?_⟩
 ·refine ⟨_,rfl,_,rfl,_,rfl,l,_,rfl,SqL.of (sH3 _ _ el),λA1 hA1 =>?_⟩
  obtain ⟨jA,ejA,ujA,ljA⟩:=cf ks none (some (k:Int))
  rw[ejA]
  obtain ⟨HA,zq,gA1,eA1⟩:=nw hA1 (.lst (jA.map λk=>V.ref k.1))
  rw[zq]
  have sHA:=sH3.trans gA1
  refine ⟨_,rfl,_,rfl,_,_,rfl,rfl,_,rfl,_,rfl,_,rfl,l,_,rfl,SqL.of (sHA _ _ el),λA2 hA2 =>?_⟩
  obtain ⟨jB,ejB,ujB,ljB⟩:=cf ks (some ((k:Int)-1)) (some (k:Int))
  rw[ejB]
  obtain ⟨HB,zq,gA2,eA2⟩:=nw hA2 (.lst (jB.map λk=>V.ref k.1))
  rw[zq]
  have sHB:=sHA.trans gA2
  refine ⟨A1,A2,_,_,rfl,rfl,SqL.of (gA2 _ _ eA1),SqL.of (eA2),by simp only[C6,C8,Dz,ER];exact cJ (by lia),λA3 hA3 =>?_⟩
  rw[<- Dj]
  obtain ⟨HC,zq,gA3,eA3⟩:=nw hA3 (.lst ((jA++jB).map λk=>V.ref k.1))
  rw[zq]
  have sHC:=sHB.trans gA3
  refine ⟨_,rfl,_,rfl,_,rfl,l,_,rfl,SqL.of (sHC _ _ el),λA5 hA5 =>?_⟩
  obtain ⟨jD,ejD,ujD,ljD⟩:=cf ks (some (k:Int)) none
  rw[ejD]
  obtain ⟨HD,zq,gA5,eA5⟩:=nw hA5 (.lst (jD.map λk=>V.ref k.1))
  rw[zq]
  have sHD:=sHC.trans gA5
  refine ⟨A3,A5,_,_,rfl,rfl,SqL.of (gA5 _ _ eA3),SqL.of (eA5),by simp only[C6,C8,Dz,ER];exact cJ (by lia),λA4 hA4 =>?_⟩
  rw[<- Dj]
  obtain ⟨HE,zq,gA4,eA4⟩:=nw hA4 (.lst (((jA++jB)++jD).map λk=>V.ref k.1))
  rw[zq]
  have sHE:=sHD.trans gA4
  exact fin _ sHE eA4 (gd2 (λk hk=>(Dh.mp hk).elim (ujA k) (ujB k)) ujD (gd.same sHE)) (by simp only[C8];lia)
 refine ⟨_,rfl,rfl,_,rfl,cv (λz =>?_) λz3 =>?_⟩
 ·refine ⟨_,rfl,l,_,rfl,SqL.of (sH3 _ _ el),by rw[lm];lia,λz hz =>?_⟩
  rw[<- Me]
  have gz:=ae hz (.lst (ks.reverse.map λk=>V.ref k.1))
  exact fin ks.reverse (sH3.trans gz) ag (λk hk=>gd.same (sH3.trans gz) k (G0.mp hk)) (by rw[E2];lia)
 have srt:∀(tq ra nl:Addr) (Z:List Int) (HN:Hp),aB H HN->HN ra=some (.tup (Z.map V.int))->Z.length<=200->HN tq=some (.tup [.int ot,.ref ra])->HN nl=some (.lst [.ref tq])->∃a b xs ys,V.ref l = .ref a/\V.ref nl = .ref b/\SqL K HN a xs/\SqL K HN b ys/\xs.length+ys.length<=Dm/\∀S,HN S=none->∃(p:Addr) (js:List Rw),[V.ref S]=[.ref p]/\upd HN S (.lst (xs++ys)) p=some (.lst (js.map λk =>.ref k.1))/\wA (upd HN S (.lst (xs++ys))) js/\∀(l:Addr) (out:List Rw),upd HN S (.lst (xs++ys)) l=none->out.Perm js->Q (.ref l) (upd (upd HN S (.lst (xs++ys))) l (.lst (out.map λt =>.ref t.1))):=λtq ra nl Z HN sN er lz et en=>by
  refine ⟨l,nl,_,_,rfl,rfl,SqL.of (sN _ _ el),SqL.of en,by rw[lm];exact cJ (by show _+1<=_;lia),λS hS =>?_⟩
  have gS:=ae hS (.lst ((ks.map λk=>V.ref k.1)++[.ref tq]))
  have eS:upd HN S (.lst ((ks.map λk=>V.ref k.1)++[.ref tq])) S=some (.lst ((ks++[(tq,ot,ra,Z)]).map λk =>.ref k.1)):=by rw[ag,Dj];rfl
  have sS:=sN.trans gS
  have g':Gd (upd HN S (.lst ((ks.map λk=>V.ref k.1)++[.ref tq]))) (ks++[(tq,ot,ra,Z)]):=λk hk=>by
   rcases Dh.mp hk with z | z
   ·exact gd.same sS k z
   ·have:k=(tq,ot,ra,Z):=by simpa using z
    rw[this];exact ⟨gS _ _ et,gS _ _ er,lz⟩
  refine ⟨S,ks++[(tq,ot,ra,Z)],rfl,eS,λk hk=>⟨(g' k hk).1,(g' k hk).2.1⟩,λz out hz pm =>?_⟩
  have gz:=ae hz (.lst (out.map λt:Rw=>V.ref t.1))
  exact fin out (sS.trans gz) ag (λk hk=>g'.same gz k (pm.mem_iff.mp hk)) (by rw[pm.length_eq,C8];show _+1<=_;lia)
 refine ⟨_,rfl,rfl,_,rfl,cv (λz =>?_) λz4 =>?_⟩
 ·refine ⟨_,rfl,_,rfl,_,rfl,(by show 1<=Dm;decide),λra hra=>⟨(by show 2<=Dm;decide),λtq htq=>⟨(by show 1<=Dm;decide),λnl hnl =>?_⟩⟩⟩
  have ga:=ae hra (.tup [.int ot])
  have gb:=ae htq (.tup [.int ot,.ref ra])
  have gc:=ae hnl (.lst [.ref tq])
  exact srt tq ra nl [ot] _ (sH3.trans (ga.trans (gb.trans gc))) (gc _ _ (gb _ _ ag)) (by show 1<=200;decide) (gc _ _ ag) ag
 refine ⟨_,rfl,rfl,_,rfl,cv (λz =>?_) λz5 =>?_⟩
 ·refine ⟨_,rfl,_,rfl,_,rfl,r,_,0,_,rfl,rfl,SqT.of (sH3 _ _ e1),rfl,m,rfl,λrn hrn=>⟨rn,m,rfl,ag,by lia,λra hra=>⟨(by show 2<=Dm;decide),λtq htq=>⟨(by show 1<=Dm;decide),λnl hnl =>?_⟩⟩⟩⟩
  have ga:=(ae hrn (.rng 0 m)).trans (ae hra (.tup ((Eo m).map λi:Nat=>V.int (i:Int))))
  have era:upd (upd H3 rn (.rng 0 m)) ra (.tup ((Eo m).map λi:Nat=>V.int (i:Int))) ra=some (.tup ((rgI m).map V.int)):=by rw[ag];unfold rgI;rw[Fo];rfl
  have gb:=ae htq (.tup [.int ot,.ref ra])
  have gc:=ae hnl (.lst [.ref tq])
  exact srt tq ra nl (rgI m) _ (sH3.trans (ga.trans (gb.trans gc))) (gc _ _ (gb _ _ era)) (by unfold rgI;rw[C6,Fg];lia) (gc _ _ ag) ag
 refine ⟨_,rfl,_,rfl,l,_,rfl,.inl (SqL.of (sH3 _ _ el)),rfl,_,rfl,cv (λz =>?_) λz6 =>?_⟩
 ·exact ⟨_,rfl,fin ks sH3 (sH3 _ _ el) (gd.same sH3) (by lia)⟩
 have hk:k<ks.length:=by
  have:k≠ks.length:=λe=>z6 (by rw[e,lm];exact decide_eq_true rfl)
  lia
 have ek:ks[k]? = some (ks[k]'hk):=Dc hk
 generalize ks[k]'hk=u at ek
 have um:=Dp ek
 obtain ⟨h1,h2,h3⟩:=gd.same sH3 u um
 obtain ⟨_,_,une,ul⟩:=rt u um
 have u0:=GX.mpr une
 have lum:(u.2.2.2.map V.int).length=u.2.2.2.length:=C6 _
 have eat:atI (ks.map λk=>V.ref k.1) (k:Int)=some (.ref u.1):=cO (by rw[Dq,ek];rfl)
 refine ⟨_,rfl,_,rfl,l,_,_,_,rfl,rfl,SqL.of (sH3 _ _ el),eat,u.1,_,rfl,SqT.of h1,rfl,_,_,rfl,_,_,rfl,rfl,?_⟩
 refine ⟨_,rfl,rfl,_,rfl,cv (λz =>?_) λz7 =>?_⟩
 ·refine ⟨_,rfl,_,rfl,_,rfl,l,_,rfl,SqL.of (sH3 _ _ el),λA1 hA1 =>?_⟩
  obtain ⟨jA,ejA,ujA,ljA⟩:=cf ks none (some (k:Int))
  rw[ejA]
  obtain ⟨HA,zq,gA1,eA1⟩:=nw hA1 (.lst (jA.map λk=>V.ref k.1))
  rw[zq]
  have sHA:=sH3.trans gA1
  refine ⟨_,rfl,_,rfl,_,rfl,_,rfl,l,_,rfl,.inl (SqL.of (sHA _ _ el)),_,_,rfl,rfl,(by rw[lm];lia),?_⟩
  obtain ⟨c,hc⟩:∃c:Nat,ot%(((ks.map λk=>V.ref k.1).length:Nat):Int)=c:=⟨(ot%(((ks.map λk=>V.ref k.1).length:Nat):Int)).toNat,by have:=FG ot (b:=(((ks.map λk=>V.ref k.1).length:Nat):Int)) (by rw[lm];lia);lia⟩
  have hcl:c<ks.length:=by have:=Fn ot (b:=(((ks.map λk=>V.ref k.1).length:Nat):Int)) (by rw[lm];lia);rw[lm] at this hc;lia
  have ec:ks[c]? = some (ks[c]'hcl):=Dc hcl
  generalize ks[c]'hcl=v at ec
  obtain ⟨v1,v2,v3⟩:=gd.same sHA v (Dp ec)
  have ect:atI (ks.map λk=>V.ref k.1) (ot%(((ks.map λk=>V.ref k.1).length:Nat):Int))=some (.ref v.1):=by rw[hc];exact cO (by rw[Dq,ec];rfl)
  refine ⟨l,_,_,_,rfl,rfl,SqL.of (sHA _ _ el),ect,v.1,_,1,_,rfl,rfl,SqT.of v1,rfl,?_⟩
  have gHS:=aB.refl HA
  refine ⟨(by show 2<=Dm;decide),λtq htq =>?_⟩
  obtain ⟨Hm,zq,gtq,etq⟩:=nw htq (.tup [.int u.2.1,.ref v.2.2.1])
  rw[zq]
  refine ⟨(by show 1<=Dm;decide),λnl hnl =>?_⟩
  obtain ⟨HN,zq,gnl,enl⟩:=nw hnl (.lst [.ref tq])
  rw[zq]
  have gN:=gtq.trans gnl
  have sHN:=sHA.trans gN
  exact AR _ A1 nl tq v.2.2.1 (u.2.1) (v.2.2.2) jA HN rfl rfl sHN (((gHS).trans gN) _ _ eA1) ujA ljA enl ⟨gnl _ _ etq,gN _ _ (v2),v3⟩
 refine ⟨_,rfl,rfl,_,rfl,cv (λz =>?_) λz8 =>?_⟩
 ·refine ⟨_,rfl,_,rfl,_,rfl,l,_,rfl,SqL.of (sH3 _ _ el),λA1 hA1 =>?_⟩
  obtain ⟨jA,ejA,ujA,ljA⟩:=cf ks none (some (k:Int))
  rw[ejA]
  obtain ⟨HA,zq,gA1,eA1⟩:=nw hA1 (.lst (jA.map λk=>V.ref k.1))
  rw[zq]
  have sHA:=sH3.trans gA1
  refine ⟨_,rfl,_,rfl,_,rfl,1,rfl,u.2.2.1,_,rfl,gA1 _ _ h2,λa3 H7 s7 e7 =>?_⟩
  obtain ⟨Y,eY,lY⟩:=lx u.2.2.2 none (some 1)
  rw[eY] at e7
  refine ⟨u.2.2.1,a3,_,_,rfl,rfl,s7 _ _ (gA1 _ _ h2),e7,by rw[C6,C6];exact cJ (by lia),λra H9 s9 e9 =>?_⟩
  rw[<- Dj] at e9
  have gHS:=s7.trans s9
  have sH9:=sHA.trans gHS
  refine ⟨(by show 2<=Dm;decide),λtq htq =>?_⟩
  obtain ⟨Hm,zq,gtq,etq⟩:=nw htq (.tup [.int u.2.1,.ref ra])
  rw[zq]
  refine ⟨(by show 1<=Dm;decide),λnl hnl =>?_⟩
  obtain ⟨HN,zq,gnl,enl⟩:=nw hnl (.lst [.ref tq])
  rw[zq]
  have gN:=gtq.trans gnl
  have sHN:=sH9.trans gN
  exact AR _ A1 nl tq ra (u.2.1) (u.2.2.2++Y) jA HN rfl rfl sHN (((gHS).trans gN) _ _ eA1) ujA ljA enl ⟨gnl _ _ etq,gN _ _ (e9),(by show (u.2.2.2++Y).length<=200;rw[C8];lia)⟩
 refine ⟨_,rfl,rfl,_,rfl,cv (λz =>?_) λz9 =>?_⟩
 ·refine ⟨_,rfl,_,rfl,_,rfl,l,_,rfl,SqL.of (sH3 _ _ el),λA1 hA1 =>?_⟩
  obtain ⟨jA,ejA,ujA,ljA⟩:=cf ks none (some (k:Int))
  rw[ejA]
  obtain ⟨HA,zq,gA1,eA1⟩:=nw hA1 (.lst (jA.map λk=>V.ref k.1))
  rw[zq]
  have sHA:=sH3.trans gA1
  have gHS:=aB.refl HA
  refine ⟨_,rfl,_,_,rfl,rfl,⟨by decide,by decide,by decide⟩,_,_,rfl,rfl,?_⟩
  obtain ⟨pp,hpp⟩:∃pp:Int,(λi j:Int=>V.int (i+j)) u.2.1 (10 ^ Int.toNat 59) = .int pp:=⟨_,rfl⟩
  rw[hpp]
  refine ⟨_,rfl,(by show 2<=Dm;decide),λtq htq =>?_⟩
  obtain ⟨Hm,zq,gtq,etq⟩:=nw htq (.tup [.int pp,.ref u.2.2.1])
  rw[zq]
  refine ⟨(by show 1<=Dm;decide),λnl hnl =>?_⟩
  obtain ⟨HN,zq,gnl,enl⟩:=nw hnl (.lst [.ref tq])
  rw[zq]
  have gN:=gtq.trans gnl
  have sHN:=sHA.trans gN
  exact AR _ A1 nl tq u.2.2.1 (pp) (u.2.2.2) jA HN rfl rfl sHN (((gHS).trans gN) _ _ eA1) ujA ljA enl ⟨gnl _ _ etq,gN _ _ (gA1 _ _ h2),h3⟩
 refine ⟨_,rfl,rfl,_,rfl,cv (λz =>?_) λz10 =>?_⟩
 ·refine ⟨_,rfl,_,rfl,_,rfl,l,_,rfl,SqL.of (sH3 _ _ el),λA1 hA1 =>?_⟩
  obtain ⟨jA,ejA,ujA,ljA⟩:=cf ks none (some (k:Int))
  rw[ejA]
  obtain ⟨HA,zq,gA1,eA1⟩:=nw hA1 (.lst (jA.map λk=>V.ref k.1))
  rw[zq]
  have sHA:=sH3.trans gA1
  refine ⟨_,rfl,(by show 0<=Dm;decide),λra hra =>?_⟩
  have gHS:=ae hra (.tup [])
  have era:upd HA ra (.tup []) ra=some (.tup (([]:List Int).map V.int)):=ag
  have sH9:=sHA.trans gHS
  generalize upd HA ra (.tup [])=H9 at gHS era sH9
  refine ⟨(by show 2<=Dm;decide),λtq htq =>?_⟩
  obtain ⟨Hm,zq,gtq,etq⟩:=nw htq (.tup [.int u.2.1,.ref ra])
  rw[zq]
  refine ⟨(by show 1<=Dm;decide),λnl hnl =>?_⟩
  obtain ⟨HN,zq,gnl,enl⟩:=nw hnl (.lst [.ref tq])
  rw[zq]
  have gN:=gtq.trans gnl
  have sHN:=sH9.trans gN
  exact AR _ A1 nl tq ra (u.2.1) (([]:List Int)) jA HN rfl rfl sHN (((gHS).trans gN) _ _ eA1) ujA ljA enl ⟨gnl _ _ etq,gN _ _ (era),(by show 0<=200;decide)⟩
 refine ⟨_,rfl,rfl,_,rfl,cv (λz =>?_) λz11 =>?_⟩
 ·refine ⟨_,rfl,_,rfl,_,rfl,l,_,rfl,SqL.of (sH3 _ _ el),λA1 hA1 =>?_⟩
  obtain ⟨jA,ejA,ujA,ljA⟩:=cf ks none (some (k:Int))
  rw[ejA]
  obtain ⟨HA,zq,gA1,eA1⟩:=nw hA1 (.lst (jA.map λk=>V.ref k.1))
  rw[zq]
  have sHA:=sH3.trans gA1
  have gHS:=aB.refl HA
  refine ⟨_,rfl,_,rfl,(by show 2<=Dm;decide),λtq htq =>?_⟩
  obtain ⟨Hm,zq,gtq,etq⟩:=nw htq (.tup [.int (-1),.ref u.2.2.1])
  rw[zq]
  refine ⟨(by show 1<=Dm;decide),λnl hnl =>?_⟩
  obtain ⟨HN,zq,gnl,enl⟩:=nw hnl (.lst [.ref tq])
  rw[zq]
  have gN:=gtq.trans gnl
  have sHN:=sHA.trans gN
  exact AR _ A1 nl tq u.2.2.1 ((-1)) (u.2.2.2) jA HN rfl rfl sHN (((gHS).trans gN) _ _ eA1) ujA ljA enl ⟨gnl _ _ etq,gN _ _ (gA1 _ _ h2),h3⟩
 refine ⟨_,rfl,_,_,rfl,rfl,_,rfl,cv (λz =>?_) λz12=>⟨_,rfl,fin ks sH3 (sH3 _ _ el) (gd.same sH3) (by lia)⟩⟩
 have w12:12<=wy:=by have:=of_decide_eq_true z;lia
 refine ⟨_,rfl,_,rfl,u.2.2.1,_,rfl,.inr (SqT.of h2),_,_,rfl,rfl,(by rw[lum];lia),?_⟩
 obtain ⟨c,hc⟩:∃c:Nat,ot%(((u.2.2.2.map V.int).length:Nat):Int)=c:=⟨(ot%(((u.2.2.2.map V.int).length:Nat):Int)).toNat,by have:=FG ot (b:=(((u.2.2.2.map V.int).length:Nat):Int)) (by rw[lum];lia);lia⟩
 have hcl:c<u.2.2.2.length:=by have:=Fn ot (b:=(((u.2.2.2.map V.int).length:Nat):Int)) (by rw[lum];lia);rw[lum] at this hc;lia
 show eA 8 (.int (ot%(((u.2.2.2.map V.int).length:Nat):Int))) _ _ _
 rw[hc]
 have ec:u.2.2.2[c]? = some (u.2.2.2[c]'hcl):=Dc hcl
 generalize u.2.2.2[c]'hcl=rv at ec
 have ect:atI (u.2.2.2.map V.int) (c:Int)=some (.int rv):=cO (by rw[Dq,ec];rfl)
 obtain ⟨Y1,eY1,lY1⟩:=lx u.2.2.2 none (some (c:Int))
 obtain ⟨Y3,eY3,lY3⟩:=lx u.2.2.2 (some ((c:Int)+1)) none
 obtain ⟨w',ew⟩:=Cc w12 x1 (0-(m:Int)) (10 ^ Int.toNat 59) (0-10 ^ Int.toNat 59)
 refine ⟨_,rfl,_,rfl,u.2.2.1,_,_,_,rfl,rfl,SqT.of h2,ect,_,rfl,r,_,0,_,rfl,rfl,SqT.of (sH3 _ _ e1),rfl,_,_,rfl,rfl,_,_,rfl,rfl,⟨by decide,by decide,by decide⟩,_,_,rfl,rfl,⟨by decide,by decide,by decide⟩,_,_,rfl,rfl,(by show 6<=Dm;decide),λdl hdl =>?_⟩
 refine ⟨_,rfl,_,_,rfl,rfl,dl,_,_,_,rfl,rfl,SqL.of ag,ew,_,_,rfl,rfl,(by show 1<=Dm;decide),λod hod =>?_⟩
 have gdl:=(ae hdl (.lst [.int (0-(m:Int)),.int (10 ^ Int.toNat 59),.int (0-10 ^ Int.toNat 59),.int 0,.int 0,.int 0])).trans (ae hod (.tup [.int (rv+w')]))
 have eod:upd (upd H3 dl (.lst [.int (0-(m:Int)),.int (10 ^ Int.toNat 59),.int (0-10 ^ Int.toNat 59),.int 0,.int 0,.int 0])) od (.tup [.int (rv+w')]) od=some (.tup (([rv+w']:List Int).map V.int)):=ag
 generalize upd (upd H3 dl (.lst [.int (0-(m:Int)),.int (10 ^ Int.toNat 59),.int (0-10 ^ Int.toNat 59),.int 0,.int 0,.int 0])) od (.tup [.int (rv+w')])=H9 at gdl eod
 have sH9:=sH3.trans gdl
 have h29:=gdl _ _ h2
 refine ⟨_,rfl,_,_,rfl,rfl,_,rfl,cv (λz =>?_) λz =>?_⟩
 ·have w15:15<=wy:=by have:=of_decide_eq_true z;lia
  refine ⟨_,rfl,(by show 1<=Dm;decide),λt1 ht1=>⟨(by show 0<=Dm;decide),λt2 ht2=>⟨_,rfl,_,rfl,u.2.2.1,_,_,_,rfl,rfl,SqT.of (((ae ht1 (.tup [.int ot])).trans (ae ht2 (.tup []))) _ _ h29),ect,_,rfl,(by show 2<=Dm;decide),λt3 ht3=>⟨(by show 3<=Dm;decide),λdl2 hdl2 =>?_⟩⟩⟩⟩
  have k1:=ae ht1 (.tup [.int ot])
  have k2:=ae ht2 (.tup [])
  have k3:=ae ht3 (.tup [.int rv,.int ot])
  have k4:=ae hdl2 (.lst [.ref t1,.ref t2,.ref t3])
  have gk:=k1.trans (k2.trans (k3.trans k4))
  have e1':=(k2.trans (k3.trans k4)) _ _ (show upd H9 t1 (.tup [.int ot]) t1=some (.tup (([ot]:List Int).map V.int)) from ag)
  have e2':=(k3.trans k4) _ _ (show upd (upd H9 t1 (.tup [.int ot])) t2 (.tup []) t2=some (.tup (([]:List Int).map V.int)) from ag)
  have e3':=k4 _ _ (show upd (upd (upd H9 t1 (.tup [.int ot])) t2 (.tup [])) t3 (.tup [.int rv,.int ot]) t3=some (.tup (([rv,ot]:List Int).map V.int)) from ag)
  have e4':upd (upd (upd (upd H9 t1 (.tup [.int ot])) t2 (.tup [])) t3 (.tup [.int rv,.int ot])) dl2 (.lst [.ref t1,.ref t2,.ref t3]) dl2=some (.lst [.ref t1,.ref t2,.ref t3]):=ag
  generalize upd (upd (upd (upd H9 t1 (.tup [.int ot])) t2 (.tup [])) t3 (.tup [.int rv,.int ot])) dl2 (.lst [.ref t1,.ref t2,.ref t3])=H10 at gk e1' e2' e3' e4'
  obtain ⟨od',Y,eo,eY,lY⟩:=Cd w15 x1 e1' e2' e3' (by show 1<=2;decide) (by show 0<=2;decide) (by show 2<=2;decide)
  have sH10:=sH9.trans gk
  refine ⟨_,rfl,_,_,rfl,rfl,dl2,_,_,_,rfl,rfl,SqL.of e4',eo,?_⟩
  refine ⟨_,rfl,_,rfl,_,rfl,l,_,rfl,SqL.of (sH10 _ _ el),λA1 hA1 =>?_⟩
  obtain ⟨jA,ejA,ujA,ljA⟩:=cf ks none (some (k:Int))
  rw[ejA]
  obtain ⟨HA,zq,gA1,eA1⟩:=nw hA1 (.lst (jA.map λk=>V.ref k.1))
  rw[zq]
  have sHA:=sH10.trans gA1
  refine ⟨_,rfl,_,rfl,_,rfl,_,rfl,u.2.2.1,_,rfl,gA1 _ _ (gk _ _ h29),λb1 Hb sb eb =>?_⟩
  rw[eY1] at eb
  refine ⟨_,rfl,b1,od',_,_,rfl,rfl,eb,sb _ _ (gA1 _ _ (eY)),by rw[C6,C6];exact cJ (by lia),λb2 Hc sc ec' =>?_⟩
  rw[<- Dj] at ec'
  refine ⟨_,rfl,_,rfl,_,_,rfl,rfl,_,rfl,u.2.2.1,_,rfl,sc _ _ (sb _ _ (gA1 _ _ (gk _ _ h29))),λb3 Hd sd ed =>?_⟩
  rw[eY3] at ed
  refine ⟨b2,b3,_,_,rfl,rfl,sd _ _ ec',ed,by simp only[C6,C8];exact cJ (by lia),λb4 H11 s11 e11 =>?_⟩
  rw[<- Dj] at e11
  have gHS:=sb.trans (sc.trans (sd.trans s11))
  have sH11:=sHA.trans gHS
  refine ⟨(by show 2<=Dm;decide),λtq htq =>?_⟩
  obtain ⟨Hm,zq,gtq,etq⟩:=nw htq (.tup [.int u.2.1,.ref b4])
  rw[zq]
  refine ⟨(by show 1<=Dm;decide),λnl hnl =>?_⟩
  obtain ⟨HN,zq,gnl,enl⟩:=nw hnl (.lst [.ref tq])
  rw[zq]
  have gN:=gtq.trans gnl
  have sHN:=sH11.trans gN
  exact AR _ A1 nl tq b4 (u.2.1) (Y1++Y++Y3) jA HN rfl rfl sHN (((gHS).trans gN) _ _ eA1) ujA ljA enl ⟨gnl _ _ etq,gN _ _ (e11),(by show (Y1++Y++Y3).length<=200;simp only[C8];lia)⟩
 ·have lY:([rv+w']:List Int).length<=2:=(by show 1<=2;decide)
  generalize ([rv+w']:List Int)=Y at eod lY
  refine ⟨_,rfl,_,rfl,_,rfl,l,_,rfl,SqL.of (sH9 _ _ el),λA1 hA1 =>?_⟩
  obtain ⟨jA,ejA,ujA,ljA⟩:=cf ks none (some (k:Int))
  rw[ejA]
  obtain ⟨HA,zq,gA1,eA1⟩:=nw hA1 (.lst (jA.map λk=>V.ref k.1))
  rw[zq]
  have sHA:=sH9.trans gA1
  refine ⟨_,rfl,_,rfl,_,rfl,_,rfl,u.2.2.1,_,rfl,gA1 _ _ (h29),λb1 Hb sb eb =>?_⟩
  rw[eY1] at eb
  refine ⟨_,rfl,b1,od,_,_,rfl,rfl,eb,sb _ _ (gA1 _ _ (eod)),by rw[C6,C6];exact cJ (by lia),λb2 Hc sc ec' =>?_⟩
  rw[<- Dj] at ec'
  refine ⟨_,rfl,_,rfl,_,_,rfl,rfl,_,rfl,u.2.2.1,_,rfl,sc _ _ (sb _ _ (gA1 _ _ (h29))),λb3 Hd sd ed =>?_⟩
  rw[eY3] at ed
  refine ⟨b2,b3,_,_,rfl,rfl,sd _ _ ec',ed,by simp only[C6,C8];exact cJ (by lia),λb4 H11 s11 e11 =>?_⟩
  rw[<- Dj] at e11
  have gHS:=sb.trans (sc.trans (sd.trans s11))
  have sH11:=sHA.trans gHS
  refine ⟨(by show 2<=Dm;decide),λtq htq =>?_⟩
  obtain ⟨Hm,zq,gtq,etq⟩:=nw htq (.tup [.int u.2.1,.ref b4])
  rw[zq]
  refine ⟨(by show 1<=Dm;decide),λnl hnl =>?_⟩
  obtain ⟨HN,zq,gnl,enl⟩:=nw hnl (.lst [.ref tq])
  rw[zq]
  have gN:=gtq.trans gnl
  have sHN:=sH11.trans gN
  exact AR _ A1 nl tq b4 (u.2.1) (Y1++Y++Y3) jA HN rfl rfl sHN (((gHS).trans gN) _ _ eA1) ujA ljA enl ⟨gnl _ _ etq,gN _ _ (e11),(by show (Y1++Y++Y3).length<=200;simp only[C8];lia)⟩
end
set_option maxHeartbeats 800000
def sj (K:Df):Sp:=λvs H Q _=>∃(a:Addr) (ns:List Int),vs=[.ref a]/\SqL K H a (ns.map V.int)/\ns.length<=63/\∀H',Q (.bl true) H'
theorem ph {K:Df}{vs:List V}{H:Hp}{Q:VK}{E:XK}:sj K vs H Q E↔∃(a:Addr) (ns:List Int),vs=[.ref a]/\SqL K H a (ns.map V.int)/\ns.length<=63/\∀H',Q (.bl true) H':=Gn
theorem nH {X:Cx}{K:Df}(h:X.K=K:=by rfl):bL X (.type "list") (λxs H Q=>∃p ys,xs=[.ref p]/\(SqL K H p ys\/SqT K H p ys)/\∀l:Addr,H l=none->Q (.ref l) (upd H l (.lst ys))):=by subst h;exact fu
theorem kI {K:Df}{H:Hp}:∀(js:List Rw),Paired (ip K H 20) (js.map λk=>V.ref k.1) (js.map λk=>V.ref k.1)
 | [] =>.nil
 | k :: js =>.cons (.inr (.inl ⟨k.1,rfl,rfl⟩)) (kI js)
section
theorem eF:aU ["script", "k", "cell", "number", "way", "web", "rows", "kept", "told"] ["script"] (aG rF):=⟨rfl,rfl,rfl,by decide +kernel,rfl,by decide +kernel,by decide +kernel⟩
theorem jY:(["place", "ring"]:List Str).Nodup:=by decide +kernel
theorem C4 (F:Fun K "law" "law" rF f fd)(B:Blt mg)(cLRows:Cal P w K mg base 3 "_law_rows" ["web", "number"] qr)(cLSpoilt:Cal P w K mg base 1 "_law_spoilt" ["web", "rows", "number"] jz)(cLeastRight:Cal P w K mg base 5 "least_right" ["web", "rows"] AH)(cLDeal:Cal P w K mg base 1 "_law_deal" ["cell", "salt"] qa)(cLWide:Cal P w K mg base 1 "_law_wide" ["number"] qc)(cLWeb:Cal P w K mg base 1 "_law_web" ["number", "most"] qb)(cLCell:Cal P w K mg base 1 "_law_cell" ["script", "k"] (p9 K))(cLRight:Cal P w K mg base 3 "_law_right" ["web", "rows"] lq):cy P w K mg base CX0 6 f fd ["script"] (sj K):=by
 refine F.ok eF (λvs H Q E h =>?_) (λcdv A outer s H vs Q E hr h =>?_)
 ·obtain ⟨_,_,rfl,_⟩:=ph.mp h
  rfl
 obtain ⟨a,nn,rfl,hS,h63,q⟩:=ph.mp h
 have TA:∃t,PSs (qC CX0 P w K mg base ["script", "k", "cell", "number", "way", "web", "rows", "kept", "told"] "law" (aG rF) f cdv A outer s H E).nox ((Ad ((cD rF).getD 0 (.Pass ⟨0,0,0,0⟩))).drop 2) t/\∀(D:Ends) (b:Addr) (m:Nat) (n:Int) (ts:LA) (H':Hp) (c1 c2 c4 c6 c7 c8:Option V),Wb H' b m ts->m<=40->0<=n->(∀σ' H'',(∃c1 c2 c3 c4 c5 c6 c7 c8,σ'=[some (.ref a),c1,c2,c3,c4,c5,c6,c7,c8])->aB H' H''->D.nx σ' H'')->t D [some (.ref a),c1,c2,some (.int n),c4,some (.ref b),c6,c7,c8] H':=by
  refine ⟨_,(ai (bt (aY cLRows hr (by decide) rfl (aa (pv 5) (aa (pv 3) ah rfl) rfl)) (aX rfl (ax (ao (i:=6) eF.nd rfl (Or.inl rfl)) (ax (ao (i:=3) eF.nd rfl (Or.inl rfl)) aP))) rfl rfl rfl)
   (ai (aS (i:=6) eF.nd rfl (Or.inl rfl) (aY cLSpoilt hr (by decide) rfl (aa (pv 5) (aa (pv 6) (aa (pv 3) ah rfl) rfl) rfl)))
   (ai (aS (i:=7) eF.nd rfl (Or.inl rfl) (aR fu rfl B.b_list jf (aa (pv 6) ah rfl)))
   (ai (aS (i:=8) eF.nd rfl (Or.inl rfl) (aY cLeastRight hr (by decide) rfl (aa (pv 5) (aa (pv 6) ah rfl) rfl)))
   (ai (bh (PW.pt (jZ (jG (fV (ay qH rfl B.b_isinstance nF (aa (pv 8) (aa (ze (v :=.ty "bool") rfl B.b_bool Al rfl) ah rfl) rfl)))) (jZ (aD j0 (pv 8) (aY cLRight hr (by decide) rfl (aa (pv 5) (aa (pv 6) ah rfl) rfl)) (aH _)) (jF (aD (By hr) (pv 6) (pv 7) (aH _)))))) nJ aL)
   (aq (bh (aD j0 (aY cLeastRight hr (by decide) rfl (aa (pv 5) (aa (aR bV rfl B.b_tuple mP (aa (bY ["place", "ring"] [none,none] rfl (bO (pv 6)) rfl (λ_ _ _ _ _=>(iZ (K:=K) (i:=0) (j:=1) jY rfl rfl (Or.inl rfl) (Or.inl rfl))) (λ_ _ _ _ _=>de) (λ_ _ _ _ _=>(aT (aa (pv 0) (aa (aR (nH (K:=K)) rfl B.b_list jf (aa (pv 1) ah rfl)) ah rfl) rfl)))) ah rfl)) ah rfl) rfl)) (pv 8) (aH _)) nJ aL))))))),?_⟩
  intro D b m n ts H' c1 c2 c4 c6 c7 c8 W m40 n0 nx
  refine ⟨_,rfl,_,rfl,iI.mpr ⟨b,m,n,ts,rfl,W,m40,n0,λp rl n1 rs H1 s1 ep erl n10 rt lr=>⟨p,_,rfl,SqT.of ep,rfl,_,_,rfl,_,_,rfl,rfl,?_⟩⟩⟩
  refine ⟨_,rfl,_,rfl,_,rfl,fR.mpr ⟨b,rl,m,n1,ts,rs,rfl,W.same s1,m40,erl,rt,lr,n10,λjl H2 js s2 ej gj lj =>?_⟩⟩
  have s12:=s1.trans s2
  have ljm:(js.map λk=>V.ref k.1).length=js.length:=C6 _
  refine ⟨_,rfl,jl,_,rfl,.inl (SqL.of ej),λkl hkl =>?_⟩
  have g3:=ae hkl (.lst (js.map λk=>V.ref k.1))
  have ek3:upd H2 kl (.lst (js.map λk=>V.ref k.1)) kl=some (.lst (js.map λk=>V.ref k.1)):=ag
  have ej3:=g3 _ _ ej
  have gj3:=gj.same g3
  have s13:=s12.trans g3
  generalize upd H2 kl (.lst (js.map λk=>V.ref k.1))=H3 at ek3 ej3 gj3 s13
  refine ⟨_,rfl,_,rfl,jt.mpr ⟨b,jl,m,ts,js,rfl,W.same s13,by lia,.inl ej3,λk hk=>⟨(gj3 k hk).1,.inr (gj3 k hk).2.1,(gj3 k hk).2.2⟩,lj,λbo H4 s4 hb =>?_⟩⟩
  have s14:=s13.trans s4
  refine ⟨_,rfl,.bl bo, "bool",_,true,rfl,.bl bo,rfl,_,rfl,cz ⟨_,rfl,_,rfl,_,rfl,gJ.mpr ⟨b,jl,m,ts,js,rfl,W.same s14,by lia,s4 _ _ ej3,λk hk=>⟨((gj3.same s4) k hk).1,((gj3.same s4) k hk).2.1⟩,λk hk=>(gj3 k hk).2.2,lj,λbo2 H5 s5 hb2 =>?_⟩⟩⟩
  have eb:bo=bo2:=by
   have:=hb.trans hb2.symm
   cases bo <;> cases bo2 <;> simp_all
  subst eb
  have s35:=s4.trans s5
  have s15:=s13.trans s35
  have ej5:=s35 _ _ ej3
  have gj5:=gj3.same s35
  refine ⟨rfl,_,rfl,iT rfl ⟨_,rfl,_,rfl,jl,kl,_,_,rfl,rfl,SqL.of ej5,SqL.of (s35 _ _ ek3),.inr ⟨kI js,_,rfl,cz ?_⟩⟩⟩
  have em0:((js.map λk:Rw=>(k.1,V.int k.2.1,V.ref k.2.2.1)).map λt=>V.ref t.1)=js.map λk=>V.ref k.1:=by rw[Fo];rfl
  refine ⟨_,rfl,_,rfl,jl,rfl,⟨_,SqL.of ej5⟩,iq (ts:=js.map λk:Rw=>(k.1,V.int k.2.1,V.ref k.2.2.1)) (λi ys H'=>aB H5 H'/\∃ks:List Rw,ys=ks.map (λk =>.ref k.1)/\RwA H' ks/\ks.map (λk=>(k.2.1,k.2.2.2))=(js.take i).map (λk=>(k.2.1,k.2.2.2))) (by decide) ⟨aB.refl _,[],rfl,λk hk=>(by cases hk),rfl⟩ (by rw[C6];exact small (by lia)) ?_ ?_ ?_⟩
  ·rintro i ys H' _ ⟨s',_⟩
   rw[em0]
   refine ⟨SqL.of (s' _ _ ej5),λt ht =>?_⟩
   obtain ⟨tt,htt,rfl⟩:=DR.mp ht
   exact SqT.of (s' _ _ (gj5 tt htt).1)
  ·rintro i t ys H6 ht hy ⟨s6,ks,rfl,ra,em⟩ R1 R0 r1 r0
   rw[Dq] at ht
   cases ek:js[i]? with
   | none=>rw[ek] at ht;cases ht
   | some k =>
   rw[ek] at ht
   have ht':=DW ht
   subst ht'
   obtain ⟨h1,h2,h3⟩:=gj5.same s6 k (Dp ek)
   refine bC ⟨_,rfl,_,rfl,k.2.2.1,_,rfl,.inr (SqT.of h2),λzl hzl=>⟨(by show 2<=Dm;decide),λtq htq =>?_⟩⟩
   have ga:=ae hzl (.lst (k.2.2.2.map V.int))
   have gb:=ae htq (.tup [.int k.2.1,.ref zl])
   have gab:=ga.trans gb
   refine r1 _ _ ⟨s6.trans gab,ks++[(tq,k.2.1,zl,k.2.2.2)],by rw[Dj];rfl,λk' hk' =>?_,?_⟩
   ·rcases Dh.mp hk' with z | z
    ·exact ra.same gab k' z
    ·have:k'=(tq,k.2.1,zl,k.2.2.2):=by simpa using z
     subst this
     exact ⟨ag,.inl (gb _ _ ag),h3⟩
   ·rw[Dj,em,D3,ek,Dj];rfl
  rintro ys H6 hy ⟨s6,ks,rfl,ra,em⟩ l7 hl7
  rw[C6,Dr (Dd _)] at em
  have lks:ks.length=js.length:=by have:=congrArg List.length em;rwa [C6,C6] at this
  have g7:=ae hl7 (.lst (ks.map λk=>V.ref k.1))
  refine ⟨l7,_,rfl,.inl ⟨SqL.of ag,λl8 hl8 =>?_⟩⟩
  have g8:=ae hl8 (.tup (ks.map λk=>V.ref k.1))
  have e8:upd (upd H6 l7 (.lst (ks.map λk=>V.ref k.1))) l8 (.tup (ks.map λk=>V.ref k.1)) l8=some (.tup (ks.map λk=>V.ref k.1)):=ag
  have s58:=s6.trans (g7.trans g8)
  have ra8:=(ra.same g7).same g8
  generalize upd (upd H6 l7 (.lst (ks.map λk=>V.ref k.1))) l8 (.tup (ks.map λk=>V.ref k.1))=H8 at e8 s58 ra8
  have s18:=s15.trans s58
  refine jt.mpr ⟨b,l8,m,ts,ks,rfl,W.same s18,by lia,.inr e8,ra8,by lia,λbo3 H9 s9 hb3 =>?_⟩
  have eP:plc ks=plc js:=by
   have:=congrArg (List.map (·.1)) em
   rwa [Fo,Fo] at this
  have eb:bo3=bo:=by
   have e:LRt m (ts.map (·.2)) ks↔LRt m (ts.map (·.2)) js:=by
    unfold LRt
    rw[eP]
    have al:∀{as bs:List Rw},as.map (λk=>(k.2.1,k.2.2.2))=bs.map (λk=>(k.2.1,k.2.2.2))->(∀k∈bs,Own (ts.map (·.2)) (plc js) k.2.1 k.2.2.2)->∀k∈as,Own (ts.map (·.2)) (plc js) k.2.1 k.2.2.2:=λ{as bs} e h k hk=>by
     have:(k.2.1,k.2.2.2)∈bs.map (λk:Rw=>(k.2.1,k.2.2.2)):=by rw[<- e];exact E3 (f:=λk:Rw=>(k.2.1,k.2.2.2)) hk
     obtain ⟨k',hk',e'⟩:=DR.mp this
     have:=h k' hk'
     rw[show k'.2.1=k.2.1 from congrArg (·.1) e',show k'.2.2.2=k.2.2.2 from congrArg (·.2) e'] at this
     exact this
    exact ⟨λh=>⟨h.1,h.2.1,al em.symm h.2.2⟩,λh=>⟨h.1,h.2.1,al em h.2.2⟩⟩
   have:=hb3.trans (e.trans hb.symm)
   cases bo <;> cases bo3 <;> simp_all
  subst eb
  exact ⟨_,rfl,rfl,_,rfl,iT rfl (nx _ _ ⟨_,_,_,_,_,_,_,_,rfl⟩ (s18.trans s9))⟩
 obtain ⟨tA,pA,gA⟩:=TA
 refine ⟨_,(ai (bR Ea rfl (uo rfl B.b_enumerate (aa (aE bQ (bH (aa (aY cLCell hr (by decide) rfl (aa (pv 0) (aa ak ah rfl) rfl)) ah rfl)) (aW bP (pv 0) (a9 ak) (a9 ak))) ah rfl)) (aX rfl (ax (ao (i:=1) eF.nd rfl (Or.inl rfl)) (ax (ao (i:=2) eF.nd rfl (Or.inl rfl)) aP)))
   (ai (bt (ay aF rfl B.b_divmod aQ (aa (aY cLDeal hr (by decide) rfl (aa (pv 2) (aa ak ah rfl) rfl)) (aa ak ah rfl) rfl)) (aX rfl (ax (ao (i:=3) eF.nd rfl (Or.inl rfl)) (ax (ao (i:=4) eF.nd rfl (Or.inl rfl)) aP))) rfl rfl rfl)
   (ai (bh (PW.pt (fW (aD cu (pv 4) ak (aH _)) (fj (aD cu (pv 1) ak (aH _))))) (aq (bt (aY cLWide hr (by decide) rfl (aa (pv 3) ah rfl)) (aX rfl (ax (ao (i:=5) eF.nd rfl (Or.inl rfl)) (ax (ao (i:=3) eF.nd rfl (Or.inl rfl)) aP))) rfl rfl rfl)) (aq (bt (aY cLWeb hr (by decide) rfl (aa (pv 3) (aa ak ah rfl) rfl)) (aX rfl (ax (ao (i:=5) eF.nd rfl (Or.inl rfl)) (ax (ao (i:=3) eF.nd rfl (Or.inl rfl)) aP))) rfl rfl rfl)))
   pA)) (λ_=>rfl))
  (aq (aJ dU))),?_⟩
 refine ⟨_,rfl,iB.mpr ⟨a,nn,0,rfl,hS,by decide,λc0=>⟨(by show 1<=Dm;decide),λl0 hl0 =>?_⟩⟩⟩
 obtain ⟨H2,zQ9,g2,el0⟩:=nwZ hl0 (.lst [.int c0])
 rw[zQ9]
 refine ⟨_,rfl,1,rfl,9,rfl,a,_,rfl,g2.seq hS,λl2 hl2 =>?_⟩
 obtain ⟨cs,ecs,lcs⟩:=lx nn (some 1) (some 9)
 rw[ecs]
 obtain ⟨H4,zQ9,g4,el2⟩:=nwZ hl2 (.lst (cs.map V.int))
 rw[zQ9]
 refine ⟨l0,l2,_,_,rfl,rfl,SqL.of (g4 _ _ el0),SqL.of el2,by rw[C6];exact small (by show 1+_<=_;lia),λS hS =>?_⟩
 rw[show ([V.int c0]++cs.map V.int:List V)=(c0 :: cs).map V.int from rfl]
 have eS:upd H4 S (.lst ((c0 :: cs).map V.int)) S=some (.lst ((c0 :: cs).map V.int)):=ag
 generalize upd H4 S (.lst ((c0 :: cs).map V.int))=H5 at eS
 refine ⟨S,rfl,.inl ⟨⟨_,SqL.of eS⟩,nZ (xs:=(c0 :: cs).map V.int) (λi σ H'=>(∃c1 c2 c3 c4 c5 c6 c7 c8,σ=[some (.ref a),c1,c2,c3,c4,c5,c6,c7,c8])/\aB H5 H') ⟨⟨_,_,_,_,_,_,_,_,rfl⟩,aB.refl _⟩ (λi σ H' _ z=>SqL.of (z.2 _ _ eS)) ?_ (λσ H' _=>q _)⟩⟩
 rintro i x σ H6 tp hx ht ⟨⟨c1,c2,c3,c4,c5,c6,c7,c8,rfl⟩,s6⟩
 obtain ⟨cell,ec,rfl⟩:=eE hx
 have s6:=s6.trans (ae ht (.tup [.int i,.int cell]))
 refine ⟨tp,_,rfl,SqT.of ag,rfl,_,_,rfl,_,_,rfl,rfl,?_⟩
 generalize upd H6 tp (.tup [.int i,.int cell])=H6' at s6
 refine ⟨_,rfl,iC.mpr ⟨cell,1,rfl,by decide,by decide,λn n0 =>?_⟩⟩
 obtain ⟨q1,x1,y1⟩:=dmN (j:=8) n0 (by decide)
 refine ⟨n,8,rfl,⟨by decide,by decide⟩,λp hp=>⟨p,_,rfl,SqT.of ag,rfl,_,_,rfl,_,_,rfl,rfl,?_⟩⟩
 have s7:=s6.trans (ae hp (.tup [.int (n/8),.int (n%8)]))
 generalize upd H6' p (.tup [.int (n/8),.int (n%8)])=H7 at s7
 generalize n/8=n1 at q1
 generalize n%8=v1 at x1 y1
 refine ⟨_,rfl,rfl,_,rfl,cv (λz=>⟨_,rfl,rfl,_,rfl,cv (λz =>?_) λz =>?_⟩) λz=>cz ?_⟩
 ·refine ⟨_,rfl,iE.mpr ⟨n1,rfl,q1,λp b n' mI ts H8 s8 ep W mI0 m40 n'0 =>?_⟩⟩
  obtain ⟨m,rfl⟩:∃m:Nat,mI=m:=⟨mI.toNat,by lia⟩
  exact ⟨p,_,rfl,SqT.of ep,rfl,_,_,rfl,_,_,rfl,rfl,gA _ b m n' ts H8 _ _ _ _ _ _ W (by lia) n'0 λσ' H9 hσ s9=>⟨hσ,s7.trans (s8.trans s9)⟩⟩
 ·refine ⟨_,rfl,fL.mpr ⟨n1,6,rfl,q1,by decide,by decide,λp b n' mI ts H8 s8 ep W mI0 m40 n'0 =>?_⟩⟩
  obtain ⟨m,rfl⟩:∃m:Nat,mI=m:=⟨mI.toNat,by lia⟩
  exact ⟨p,_,rfl,SqT.of ep,rfl,_,_,rfl,_,_,rfl,rfl,gA _ b m n' ts H8 _ _ _ _ _ _ W (by lia) n'0 λσ' H9 hσ s9=>⟨hσ,s7.trans (s8.trans s9)⟩⟩
 ·refine ⟨_,rfl,fL.mpr ⟨n1,6,rfl,q1,by decide,by decide,λp b n' mI ts H8 s8 ep W mI0 m40 n'0 =>?_⟩⟩
  obtain ⟨m,rfl⟩:∃m:Nat,mI=m:=⟨mI.toNat,by lia⟩
  exact ⟨p,_,rfl,SqT.of ep,rfl,_,_,rfl,_,_,rfl,rfl,gA _ b m n' ts H8 _ _ _ _ _ _ W (by lia) n'0 λσ' H9 hσ s9=>⟨hσ,s7.trans (s8.trans s9)⟩⟩
end
theorem all_mk {l:PySem.W.OpenLaw}{w:Eb}{K:Df}{h:Heap}{mg:Str->Option C9}{fa:Addr}(X:K.In h)(G:h.Ns En mg)(hfa:mg "law" = some (.ref fa))
  (h1:cY K "tie_of" yl) (h2:cY K "near_lists" mE) (h3:cY K "tied_times" mF) (h4:cY K "is_rising" jR) (h5:cY K "is_set_of" mG) (h6:cY K "cut_web" uL) (h7:cY K "reached_from" i9) (h8:cY K "hanging_parts" ij) (h9:cY K "spare_ties" mH) (h10:cY K "is_ring" pX) (h11:cY K "clears_web" iz) (h12:cY K "is_own_ring" iA) (h13:cY K "least_right" gs) (h14:cY K "_law_cell" yo) (h15:cY K "_law_deal" yp) (h16:cY K "_law_web" AU) (h17:cY K "_law_wide" yq) (h18:cY K "_law_times" pY) (h19:cY K "_law_is_ring" mJ) (h20:cY K "_law_rings" kQ) (h21:cY K "_law_is_wood" mK) (h22:cY K "_law_cut" yr) (h23:cY K "_law_least" pZ) (h24:cY K "_law_rows" tQ) (h25:cY K "_law_spoilt" mL) (h26:cY K "_law_right" p5) (h27:cY K "law" rF)
  (y_all:EZ K En "all" = some none) (y_bool:EZ K En "bool" = some none) (y_divmod:EZ K En "divmod" = some none) (y_enumerate:EZ K En "enumerate" = some none) (y_int:EZ K En "int" = some none) (y_isinstance:EZ K En "isinstance" = some none) (y_len:EZ K En "len" = some none) (y_list:EZ K En "list" = some none) (y_max:EZ K En "max" = some none) (y_min:EZ K En "min" = some none) (y_range:EZ K En "range" = some none) (y_reversed:EZ K En "reversed" = some none) (y_set:EZ K En "set" = some none) (y_sorted:EZ K En "sorted" = some none) (y_tuple:EZ K En "tuple" = some none) (y_zip:EZ K En "zip" = some none)
  : ∃fd:EK,(∀(s:Dg) (v:C9),BindsTo s fd ⟨[v],[]⟩ [("script",v)])/\∀base:Heap,K.In base->base.Ns En mg->cy l.prog w K mg base CX0 6 fa fd ["script"] (sj K):=by
 obtain ⟨fl,od,an,sl,oc,kV,dc,pm,cd,ct,al,ll,cl,kl⟩:=h27
 have e:=hfa.symm.trans (MN X G al)
 cases e
 have F27:=xv ll cl kl
 have z_all:=Ek X G y_all
 have z_bool:=Ek X G y_bool
 have z_divmod:=Ek X G y_divmod
 have z_enumerate:=Ek X G y_enumerate
 have z_int:=Ek X G y_int
 have z_isinstance:=Ek X G y_isinstance
 have z_len:=Ek X G y_len
 have z_list:=Ek X G y_list
 have z_max:=Ek X G y_max
 have z_min:=Ek X G y_min
 have z_range:=Ek X G y_range
 have z_reversed:=Ek X G y_reversed
 have z_set:=Ek X G y_set
 have z_sorted:=Ek X G y_sorted
 have z_tuple:=Ek X G y_tuple
 have z_zip:=Ek X G y_zip
 refine ⟨PySem.W.fnOf "law" "law" (eC rF) (cD rF) (aG rF) .none kV dc pm an cd ct,λs v =>.of_eq rfl,λbase kb nb =>?_⟩
 have B:Blt mg:=⟨z_all,z_bool,z_divmod,z_enumerate,z_int,z_isinstance,z_len,z_list,z_max,z_min,z_range,z_reversed,z_set,z_sorted,z_tuple,z_zip⟩
 have cLIsWood:=h21.cal l.prog w base X G (λF=>wJ F B) λ_ _ _ _ _ _ us hl=>match us,hl with | [_],_=>rfl
 have cLCut:=h22.cal l.prog w base X G (λF=>B8 F B) λ_ _ _ _ _ _ us hl=>match us,hl with | [_,_],_=>rfl
 have cLLeast:=h23.cal l.prog w base X G (λF=>y3 F B cLIsWood cLCut) λ_ _ _ _ _ _ us hl=>match us,hl with | [_,_],_=>rfl
 have cLRings:=h20.cal l.prog w base X G (λF=>yT F B) λ_ _ _ _ _ _ us hl=>match us,hl with | [_,_],_=>rfl
 have cLRows:=h24.cal l.prog w base X G (λF=>AJ F B cLLeast cLRings cLCut) λ_ _ _ _ _ _ us hl=>match us,hl with | [_,_],_=>rfl
 have cLSpoilt:=h25.cal l.prog w base X G (λF=>wO F B) λ_ _ _ _ _ _ us hl=>match us,hl with | [_,_,_],_=>rfl
 have cIsRising:=h4.cal l.prog w base X G (λF=>t6 F B) λ_ _ _ _ _ _ us hl=>match us,hl with | [_],_=>rfl
 have cIsSetOf:=h5.cal l.prog w base X G (λF=>wL F B cIsRising) λ_ _ _ _ _ _ us hl=>match us,hl with | [_,_],_=>rfl
 have cNearLists:=h2.cal l.prog w base X G (λF=>An F z_range z_set z_sorted) λ_ _ _ _ _ _ us hl=>match us,hl with | [_],_=>rfl
 have cReachedFrom:=h7.cal l.prog w base X G (λF=>Ap F z_sorted) λ_ _ _ _ _ _ us hl=>match us,hl with | [_,_],_=>rfl
 have cHangingParts:=h8.cal l.prog w base X G (λF=>B3 F B cNearLists cReachedFrom) λ_ _ _ _ _ _ us hl=>match us,hl with | [_],_=>rfl
 have cSpareTies:=h9.cal l.prog w base X G (λF=>Ar F B cHangingParts) λ_ _ _ _ _ _ us hl=>match us,hl with | [_],_=>rfl
 have cCutWeb:=h6.cal l.prog w base X G (λF=>CV F B) λ_ _ _ _ _ _ us hl=>match us,hl with | [_,_],_=>rfl
 have cClearsWeb:=h11.cal l.prog w base X G (λF=>rY F B cSpareTies cCutWeb) λ_ _ _ _ _ _ us hl=>match us,hl with | [_,_],_=>rfl
 have cTieOf:=h1.cal l.prog w base X G (λF=>CY F z_max z_min) λ_ _ _ _ _ _ us hl=>match us,hl with | [_,_],_=>rfl
 have cTiedTimes:=h3.cal l.prog w base X G (λF=>Av F cTieOf) λ_ _ _ _ _ _ us hl=>match us,hl with | [_,_,_],_=>rfl
 have cIsRing:=h10.cal l.prog w base X G (λF=>yG F B cTiedTimes) λ_ _ _ _ _ _ us hl=>match us,hl with | [_,_],_=>rfl
 have cIsOwnRing:=h12.cal l.prog w base X G (λF=>r9 F B cIsRing) λ_ _ _ _ _ _ us hl=>match us,hl with | [_,_,_,_],_=>rfl
 have cLeastRight:=h13.cal l.prog w base X G (λF=>qp F B cIsSetOf cClearsWeb cIsOwnRing) λ_ _ _ _ _ _ us hl=>match us,hl with | [_,_],_=>rfl
 have cLDeal:=h15.cal l.prog w base X G (λF=>BY F B) λ_ _ _ _ _ _ us hl=>match us,hl with | [_,_],_=>rfl
 have cLWide:=h17.cal l.prog w base X G (λF=>B1 F B) λ_ _ _ _ _ _ us hl=>match us,hl with | [_],_=>rfl
 have cLWeb:=h16.cal l.prog w base X G (λF=>B0 F B) λ_ _ _ _ _ _ us hl=>match us,hl with | [_,_],_=>rfl
 have cLCell:=h14.cal l.prog w base X G (λF=>BX F B) λ_ _ _ _ _ _ us hl=>match us,hl with | [_,_],_=>rfl
 have cLTimes:=h18.cal l.prog w base X G (λF=>yI F B) λ_ _ _ _ _ _ us hl=>match us,hl with | [_,_,_],_=>rfl
 have cLIsRing:=h19.cal l.prog w base X G (λF=>wH F B cLTimes) λ_ _ _ _ _ _ us hl=>match us,hl with | [_,_],_=>rfl
 have cLRight:=h26.cal l.prog w base X G (λF=>y8 F B cLIsWood cLCut cLIsRing) λ_ _ _ _ _ _ us hl=>match us,hl with | [_,_],_=>rfl
 exact C4 F27 B cLRows cLSpoilt cLeastRight cLDeal cLWide cLWeb cLCell cLRight
theorem walk {l:PySem.W.OpenLaw}{q:DH}{loose:List Str}{XP:(Str->Option C9)->Heap->Prop}{YP:Eb->Heap->Prop}{d:DefRec}{K:Params->Df}(hn:l.most=some 63)(hdf:d.params.defaults=[])
  (hY:∀(w:Eb) (h:Heap),YP w h->(K w.params).In h)
  (F:∀(w:Eb) (mg:Str->Option C9) (fa:Addr) (h:Heap),(K w.params).In h->h.Ns En mg->mg d.name=some (.ref fa) →
   ∃fd:EK,(∀(s:Dg) (u:C9),BindsTo s fd ⟨[u],[]⟩ [("script",u)])/\∀base:Heap,(K w.params).In base->base.Ns En mg->cy l.prog w (K w.params) mg base CX0 6 fa fd ["script"] (sj (K w.params))) :
  PySem.W.WalkO q loose XP YP l.row.toRowW d [] (λf vs=>PySem.call f vs) :=
 L2.zy (n:=63) (k:=6) (x := "script") (CX:=λ_=>CX0) (sp:=λw=>sj (K w.params)) hn (by decide) hdf ⟨rfl,by decide,by decide⟩ hY F (λ_ _ a ns hl _ hS=>⟨a,ns,rfl,hS,hl,λ_=>rfl⟩) λ_ _ _ _ _ z=>z
end K16
def PySem.W.Fast.tw12254234260629869550:Nat:=0
def PySem.W.Fast.tw18286151663270618562:Nat:=0
def PySem.W.Fast.tw3141493545504787535:Nat:=0
def PySem.W.Fast.tw4635528140946747137:Nat:=0
def PySem.W.Fast.tw7636213878504700730:Nat:=0
def PySem.W.Fast.tw15133638001940840495:Nat:=0
def PySem.W.Fast.tw3321473604095238960:Nat:=0
def PySem.W.Fast.tw17908689265972618139:Nat:=0
def PySem.W.Fast.tw12295592499846284854:Nat:=0
def PySem.W.Fast.tw13562719690920912642:Nat:=0
def PySem.W.Fast.tw230999123721494310:Nat:=0
def PySem.W.Fast.tw4616548708093731542:Nat:=0
def PySem.W.Fast.tw312207890432631663:Nat:=0
def PySem.W.Fast.tw6707903920702916624:Nat:=0
def PySem.W.Fast.tw12613656876903935836:Nat:=0
def PySem.W.Fast.tw13042686810534427701:Nat:=0
def PySem.W.Fast.tw17928022073142840624:Nat:=0
def PySem.W.Fast.tw5852050515432591867:Nat:=0
def PySem.W.Fast.tw11740662389741854210:Nat:=0
def PySem.W.Fast.tw145251633108716092:Nat:=0
def PySem.W.Fast.tw18190901894752916694:Nat:=0
def PySem.W.Fast.tw14631277791315220003:Nat:=0
def PySem.W.Fast.tw15498168611773028438:Nat:=0
def PySem.W.Fast.tw7977717642301191313:Nat:=0
def PySem.W.Fast.tw5705788024600058717:Nat:=0
def PySem.W.Fast.tw16483545301708246405:Nat:=0
def PySem.W.Fast.tw11238871815402171516:Nat:=0
def PySem.W.Fast.tw691917169723027480:Nat:=0
def PySem.W.Fast.tw3377222101422529040:Nat:=0
def PySem.W.Fast.tw9481989385548923712:Nat:=0
def PySem.W.Fast.tw17433980937325748725:Nat:=0
def PySem.W.Fast.tw16060188683874616403:Nat:=0
def PySem.W.Fast.tw7593058476452323410:Nat:=0
def PySem.W.Fast.tw826577745878058273:Nat:=0
def PySem.W.Fast.tw12446510680170409468:Nat:=0
def PySem.W.Fast.tw10871391839272186843:Nat:=0
def PySem.W.Fast.tw3065127408584293051:Nat:=0
def PySem.W.Fast.tw16693053370408073930:Nat:=0
def PySem.W.Fast.tw18075999756438355792:Nat:=0
def PySem.W.Fast.tw13034244746306484922:Nat:=0
def PySem.W.Fast.tw6271493426320656485:Nat:=0
def PySem.W.Fast.tw16544655201072851977:Nat:=0
def PySem.W.Fast.tw18113314235609794575:Nat:=0
def PySem.W.Fast.tw4479335304029077810:Nat:=0
def PySem.W.Fast.tw14208734544383210733:Nat:=0
def PySem.W.Fast.tw1733809358510986309:Nat:=0
def PySem.W.Fast.tw9853901648420855024:Nat:=0
def PySem.W.Fast.tw15363525638037135814:Nat:=0
def PySem.W.Fast.tw16973600948203806588:Nat:=0
def PySem.W.Fast.tw15382065466478267448:Nat:=0
def PySem.W.Fast.tw9144048046170782867:Nat:=0
def PySem.W.Fast.tw16524070149918171054:Nat:=0
def PySem.W.Fast.tw9640360667265949857:Nat:=0
def PySem.W.Fast.tw1003812506199450544:Nat:=0
def PySem.W.Fast.tw8100868670847445166:Nat:=0
def PySem.W.Fast.tw8053923034233182677:Nat:=0
def PySem.W.Fast.tw12376996369341279660:Nat:=0
def PySem.W.Fast.tw728098613136428972:Nat:=0
def PySem.W.Fast.tw2509912855820165998:Nat:=0
def PySem.W.Fast.tw1513583101449873579:Nat:=0
def PySem.W.Fast.tw5089313985768917603:Nat:=0
def PySem.W.Fast.tw15146198558423939248:Nat:=0
def PySem.W.Fast.tw8429038899181913891:Nat:=0
def PySem.W.Fast.tw2985658667380870487:Nat:=0
def PySem.W.Fast.tw17540745668339264031:Nat:=0
def PySem.W.Fast.tw17231419806947119236:Nat:=0
def PySem.W.Fast.tw662786270884886872:Nat:=0
def PySem.W.Fast.tw15383987072654923840:Nat:=0
def PySem.W.Fast.tw18057015596351710005:Nat:=0
def PySem.W.Fast.tw12105663935176550379:Nat:=0
def PySem.W.Fast.tw14014226970434095337:Nat:=0
def PySem.W.Fast.tw13887712138649936011:Nat:=0
def PySem.W.Fast.tw5544178404699619340:Nat:=0
def PySem.W.Fast.tw6951079275768205339:Nat:=0
def PySem.W.Fast.tw15660692422362571476:Nat:=0
def PySem.W.Fast.tw13729619455999943257:Nat:=0
def PySem.W.Fast.tw7386074510061975934:Nat:=0
def PySem.W.Fast.tw3886531585755423690:Nat:=0
def PySem.W.Fast.tw612863955772411774:Nat:=0
def PySem.W.Fast.tw14332311573372549541:Nat:=0
def PySem.W.Fast.tw17311638955440558673:Nat:=0
def PySem.W.Fast.tw4439001148697469080:Nat:=0
def PySem.W.Fast.tw3344561273750995976:Nat:=0
def PySem.W.Fast.tw1478257030623051899:Nat:=0
def PySem.W.Fast.tw3079969095242612046:Nat:=0
def PySem.W.Fast.tw5131857976482738379:Nat:=0
def PySem.W.Fast.tw13142951646094036184:Nat:=0
def PySem.W.Fast.tw6495770315028979161:Nat:=0
def PySem.W.Fast.tw16197110528492192041:Nat:=0
def PySem.W.Fast.tw2485197008193773713:Nat:=0
def PySem.W.Fast.tw13866106821437385495:Nat:=0
def PySem.W.Fast.tw17314919523312720561:Nat:=0
def PySem.W.Fast.tw3041561906657045234:Nat:=0
def PySem.W.Fast.tw14876863421099567478:Nat:=0
def PySem.W.Fast.tw7559907056182044422:Nat:=0
def PySem.W.Fast.tw13259418218589393245:Nat:=0
def PySem.W.Fast.tw15484877172980216429:Nat:=0
def PySem.W.Fast.tw2923462176469129635:Nat:=0
def PySem.W.Fast.tw3902893061025119566:Nat:=0
def PySem.W.Fast.tw17835491689386320997:Nat:=0
open PySem PySem.W PyProof.Rows
set_option maxRecDepth 100000 in
set_option maxHeartbeats 0 in
theorem PySem.Challenge.cw_ringfell_k16_least_ones_judged_holds : PySem.Challenge.rw_ringfell_k16_least_ones_judged.Holds := by
 w_on;o_law;k_head;(case hw=>w_witness2)
 k_fill
 refine K16.walk (l:=PySem.Challenge.rw_ringfell_k16_least_ones_judged) rfl rfl (λw h Y=>PySem.W.kIn_of Y) ?F
 case F =>
  intro w mg fa h KX G hmg
  refine' K16.all_mk KX G hmg ?_ ?_ ?_ ?_ ?_ ?_ ?_ ?_ ?_ ?_ ?_ ?_ ?_ ?_ ?_ ?_ ?_ ?_ ?_ ?_ ?_ ?_ ?_ ?_ ?_ ?_ ?_ ?_ ?_ ?_ ?_ ?_ ?_ ?_ ?_ ?_ ?_ ?_ ?_ ?_ ?_ ?_ ?_
  all_goals first | k_is | (refine' L2.cY.mk ?a ?l ?c ?k;(case a=>k_is);(case l=>k_is);(case c=>k_is);(case k=>k_is))
