import PyProof.Rows.All
import Wide.All
import OpenK.AllK
import Wide.FinOn
import Lean
import PyProof.EqAt
import PyProof.EqKinds
import PyProof.TupleCall
import KE.KRevIter
import PyProof.ZipIter
import PyProof.MinMaxWalk
import PySem.Challenge.RW_ringfell_k18_whole_thinned_are_least
open PySem renaming wpAny_bind → CP,wpAny_pure → CT,Value → CU,Shared → CW,sizeLine → Dl,wpAny → Dn,Program → Dp,model → DG,wpAny_newObj_type → DP,World → DW,codeAny_builtin → D2,Around → Ec,wpAny_call_entry → Ef,mainGlobals → Eg,starEach → En,FuncData → Eo,wpAny_holding → Er,plainId_quiet → Es,wpAny_callSpecial?_slot → Et,bootBuiltins → Ez,wpAny_field → EA,wpAny_seqItems → EE,wpAny_updateSeq → ER,compareOp → E3,wpAny_truthy_bool → E5,wpAny_of_eq → E9,wpAny_setField_rec → Fd,wpAny_ite_split → Fg,wpAny_rule → Fi,builtinLookup_eq_fast → Fj,wpAny_tryCatch → Fn,wpAny_pyIter_tuple → Fu,wpAny_typeOf → Fx,wpAny_mono → FG,isSubtype_type → FJ,wpAny_specialOf → FP,intItems → FQ,wpAny_isInstance → FU,wpAny_attempt → FZ,mem_of_lookup → F2,sizeLine_eq → F6,richCompare_meets_room → Ga,wpAny_Call_Name_kw → Gn,wpAny_letGo → Gq,wpAny_passesOwn → GA,wpAny_pyIter_list → GB,typeLookup_type → GC,rawInt → GD,wpAny_runValue → GV,wpAny_forIn_list → Hs,codeAny_mono → HD,codeAny → HQ,call_meets → HY,wpAny_pyIter_slot → HZ,wpAny_setField → Ia,backTo → Ig,codeAny_call_builtin → Ip,codeAny_extend_loopS → Iq,wpAny_updateSeq_pair → Ir,wpAny_newList → Iv,wpAny_execs_nil → IG,wpAny_letOwnedTupleGo_enum → IP,callType_new → IS,tupleKind_room_in1 → IT,boot_len → Ja,isSubtype_stop → Jb,holding → Jd,wpAny_load → Jp,intKind_is → Jq,wpAny_standAt → Jy,wpAny_onRaise → JA,noFill_tuple_add → JF,wpAny_askSetting → JG,entryFor_of_tree → JH,wpAny_Call_method_late → JO,wpAny_isTrue_Compare1 → Ka,concat_meets → Kb,wpAny_eqIsQuiet_tuple → Kc,codeAny_of_tree → Ke,weight_type_call_type → Kf,typeIs_int → Kh,seqIndex_of → Kw,wpAny_setEntries_of → Ky,intItems_at → Kz,seq_tuple_add → KS,wpAny_handled → KW,wpAny_eqBool_tuple → K0,signature?_of → K1,call_function_tree → K2,wpAny_evalAll_cons → K3,wpAny_call → Lh,wpAny_sequenceKey → Li,init_tuple_lookup → Lk,seqIndex_neg → Ln,wpAny_throw → LR,wpAny_mkInt → LU,wpAny_Name → L9,numAt_eq → Mh
open PySem.Heap renaming get?_push_of_some → CQ,get?_push_size → C3,lt_size → Dc,get?_update_other → Dx,get?_update_self → DV,size_push → Ek,get?_update_ne → Ks
open List renaming length_map → CS,getElem?_eq_getElem → CV,length_append → C1,mem_singleton → C2,mem_of_getElem? → C7,getElem?_map → C8,getElem?_eq_some_iff → C9,mem_append → Dd,size_toArray → De,getD_eq_getElem?_getD → Df,map_append → Dg,take_of_length_le → Dj,mem_cons → Dm,mem_cons_self → Dr,mem_cons_of_mem → Ds,mem_append_left → Du,mem_append_right → DA,getElem?_append_left → DC,length_cons → DF,mem_map → DH,getElem?_append_right → DI,getElem?_toArray → DJ,map_cons → DK,mem_iff_getElem? → DL,append_assoc → DN,append_nil → DU,take_add_one → DY,mem_filter → D1,length_singleton → D3,replicate → D5,length_take → D6,length_drop → Ea,pairwise_map → Ep,getElem?_eq_none → Eu,nodup_cons → EC,mem_range → ED,range → EF,pairwise_append → EG,take_sublist → EI,drop_sublist → EJ,mem_map_of_mem → EN,filter_cons_of_pos → EO,getElem?_set_self → EV,getElem?_take → EY,take_append_drop → E1,count_pos_iff → Fc,getElem?_eq_none_iff → Fe,extract_eq_take_drop → Ff,pairwise_singleton → Fp,getElem?_cons_succ → Fs,getElem?_set_ne → Fv,mem_of_mem_take → Fw,replicate_succ → Fz,flatten_cons → FA,length_reverse → FE,length_range → FF,length_nil → FL,perm_append_comm → FN,all_eq_true → FR,length_eq_zero_iff → FX,filter_cons_of_neg → FY,length_replicate → Gd,pairwise_cons → Gf,map_drop → Gg,filter_append → Gi,eq_nil_or_concat → Gj,concat_eq_append → Gk,pairwise_iff_getElem → Gp,mem_of_mem_drop → Gr,nodup_append → Gy,filter_congr → Gz,reverse_append → GH,map_take → GI,getElem_of_mem → GJ,length_pos_iff → GO,getElem_mem → GP,take_append_of_le_length → GQ,not_mem_nil → GS,nodup_nil → GU,getElem?_drop → GY,length_set → G0,count_cons → G3,find?_cons → G4,reverse_cons → G8,perm_ext_iff_of_nodup → Hj,reverse_reverse → Hl,take_zero → Ho,lookup_cons → Hr,getElem?_range → Hv,filter_eq_self → Hw,set_set → Hy,idxOf_lt_length_iff → HB,map_map → HC,mem_filterMap → HF,getElem?_replicate → HG,zip_cons_cons → HH,any_cons → HJ,eraseIdx_cons_succ → HK,nil_append → HL,filter_filter → HP,filter_eq_nil_iff → HU,ext_getElem? → HV,length_filter_le → Ic,drop_append_of_le_length → Ii,filter_cons → Ik,mem_reverse → Il,filterMap_cons → Iw,filter_sublist → IE,getElem?_zip_eq_some → IV,drop_eq_getElem_cons → IW,drop_zero → IX,drop_left → IY,find?_range_eq_none → Jg,eq_of_mem_replicate → Jm,getElem?_inj → Jo,zipIdx_cons → JB,range'_succ → JC,take_length → JD,drop_eq_nil_of_le → JK,pairwise_lt_range → JL,of_mem_zip → JP,map_nil → JQ,foldl_cons → JR,forIn_cons → JS,contains_iff_mem → JY,filterMap_append → J5,one_le_count_iff → J6,dropLast_concat → Km,count_cons_self → Kn,filterMap_map → KH,all_cons → KI,getElem_idxOf → KR,reverse_perm → Lf,count_append → Lg,perm_middle → Lu,nodup_range → Lx,ext_getElem → Lz,append_inj' → LF,length_zip → LH,zipIdx_nil → LM,drop_drop → LZ,take_left → L0,take_succ → L3,forIn_nil → L4,set_comm → Ma,all_map → Mj
open PySem.W renaming Frag → CZ,mg_none_of → Ei,nsIn → EU,cellsFrom_some → JI,kat_nil → JX,mg_of → Mf
open Nat renaming le_refl → C0,ne_of_lt → Dk,lt_of_lt_of_le → Dw,zero_le → DS,le_trans → DZ,lt_succ_of_lt → D4,lt_irrefl → D9,lt_succ_self → EB,lt_of_succ_lt → FD,ne_of_gt → FK,lt_or_ge → FO,le_add_right → FT,le_sub_one_of_lt → FW,not_lt_zero → F3,eq_zero_or_pos → Gm,le_of_lt_succ → Gv,zero_add → GF,add_sub_cancel_left → GG,lt_of_not_le → GR,eq_zero_of_not_pos → GW,le_of_lt → GZ,le_succ_of_le → G6,add_le_add_left → Ht,succ_pos → Hz,lt_of_le_of_lt → HM,le_antisymm → HN,mod_lt → HW,le_of_not_lt → Ih,sub_one_lt_of_lt → Io,le_succ → Jr,sub_zero → JU,le_of_sub_eq_zero → JV,min_self → JW,lt_of_le_of_ne → KJ,sub_pos_of_lt → K7,le_of_succ_le → K8,add_zero → Ll,sub_self → Lm,succ_le_succ → Lv,le_zero → LO,add_assoc → Mb
open Array renaming length_toList → C6,getElem?_toList → Dh,getElem?_eq_getElem → DD,mem_toList_iff → DT,toList_append → D8,size_map → Eb,getElem?_eq_some_iff → E7,getD_eq_getD_getElem? → Ft,toList_push → FC,toList_extract → FV,getElem?_eq_none → F8,toList_reverse → Gs,size_push → Gu,size_append → G7,toList_map → Ij,toList_setIfInBounds → IK,perm_iff_toList_perm → IL,size_setIfInBounds → Jf,getElem?_replicate → Jh,getElem?_map → KL,forIn_toList → KN,getElem_mem → K9,toList_inj → Lw
open Bool renaming false_ne_true → Di,false_eq_true → Dt,and_eq_true → Ey,not_true → EX,eq_iff_iff → Fo,eq_false_iff → F0,false_and → Hm,and_false → IU,not_false → Ko,or_false → KP,and_true → KQ,false_or → Mc,true_and → Mg
open PyProof.Rows renaming wpS_bind → Dq,Keyed → Dy,wpS_pure → Dz,arrOf → DE,pendingOf → DQ,SortSt → DR,slot_tuple_getitem → Ej,callWith_type1 → EH,wpS_forRange → EM,IntsAre → FH,wpS_mono → FI,wpS_modify → F1,reverseSlice'_eq → Im,KeyOrd → IH,wpS_get → Jc,wpS_lift → Jz,subscriptTail_builtinR → JN,args_list_sort → Kp,sortedHeap_old → Kq,getElem?_mirror_all → Kx,args_tuple_getitem → KU,listUpdate_at → KY,sortedHeap_at → KZ,size_push' → Lj,listItems_at → Lo,plain_sorted → Lp,entry_sorted → Lq,args_sorted1 → Lr,len_tuple → LQ,kind_sorted → LS
open PySem.Value renaming ref → Dv,int → ES,none → E6,type → Fl,isInt_shape → G5
open Option.some renaming inj → DB
open PySem.Around renaming under_plainId → DM,under_plain → KO
open PySem.F renaming plain_min_loop → DX,plainAttrs_list → Em,slot_list_append → EK,type_list_append → EL,called_set → E2,entry_min_loop → Fy,slot_tuple_iterator_next → Gb,slot_tuple_count → Gx,plain_extend_loop → GL,plain_list_iadd → GN,slot_enumerate_iter → G1,slot_enumerate_next → G2,args_object_init_2 → Hk,args_tuple_add_2 → Hx,entry_tuple_add → HI,slot_tuple_add → HR,plain_list_iadd → HX,args_tuple_iterator_next_1 → Iu,entry_tuple_iterator_next → Iy,entry_proto_collect → Iz,plain_proto_collect → IA,slot_zip_next → IC,args_tuple_count_2 → IM,entry_tuple_count → IZ,plain_extend_loop → I0,typeCall_tuple_1 → Ji,plain_min → Jj,entry_min → Jk,slot_tuple_index → Jl,type_tuple_count → Jn,args_enumerate_iter_1 → Js,entry_list_iadd → Jv,newCall_tuple_1 → Jw,entry_tuple_new → Jx,kind_min → JE,entry_enumerate_iter → JJ,typeCall_set_1 → JM,entry_proto_collect → JZ,plain_proto_collect → J0,slot_list_pop → J1,type_list_pop → J3,called_tuple → Kk,mro_reversed → Kl,entry_extend_loop → Kt,entry_type_call → La,entry_list_iadd → Lb,args_zip_next_1 → Ld,entry_set_init → Ly,args_list_ne_2 → LA,entry_zip_next → LB,args_list_eq_2 → LD,slot_int_rmul → LG,plain_set_new → LI,slot_set_iter → LJ,entry_list_ne → LL,entry_list_eq → LN
open PyProof.Rows.KeyOrd renaming kle_trans → D7,kle_of_klt → ET,kle_refl → Fq,kle_antisymm → Kr
open PySem.Builtin.List renaming listExtendWith → Ed,listLengthHint → E4,listSameRef → Fm
open Ne renaming symm → Ee
open PySem.PassesOwn renaming never → Eh
open Classical renaming byContradiction → Ew
open Int renaming toNat_natCast → Ex,emod_lt_of_pos → Gh,emod_nonneg → Gw,fdiv_eq_ediv_of_nonneg → G9,le_total → Ie,fmod_eq_emod_of_nonneg → IJ,zero_add → J4,sub_zero → J8,ne_of_lt → J9,le_refl → Kv,ediv_nonneg → LP
open Option renaming map_eq_some_iff → EW,isSome_iff_exists → Je,map_some → JT,isSome_map → Lc,getD_none → Ls
open PySem.Obj renaming mapSeq → EZ,data_mapFields → Ge,isFreed_of_fields → Ib,cls_mapFields → K6
open Iff renaming rfl → E8
open List.Nodup renaming length_le_of_subset → Fb
open List.Perm renaming append_left → Fh,append_right → F7,refl → Hn
open PyProof.Rows.F renaming plain_set_update_loop → GK,entry_set_update_loop → Jt
open PySem.SeqAt.EqAt renaming int_int → GX,int_str → KA,str_int → KC
open PySem.Calls renaming call_function_entry → Hq,callWith_builtin → HS,Name_function_global → II,evalArgs_plain → Kj,spliced_cons → KD,spliced_nil → K4
open PySem.Heap.SameBut renaming update → Hu
open List.Pairwise renaming imp_of_mem → HA,imp → Mp,and → Mq
open PySem.Paired renaming length → HE,snoc → Mn
open PySem.Pv renaming boot_tuple → ID
open PySem.Code renaming quiet_builtin → IQ
open PySem.Walks renaming tuple → Ju,list → K5
open Std.Legacy.Range renaming forIn_eq_forIn_range' → Kg
open PySem.SeqAt renaming EqAt → Ki,tuple_countAt → Ku
open Prod renaming ext → KG
open PySem.Heap.ExtBut renaming push → LC
open PySem.ItemsOf renaming nil → LK
open PySem.EqMixed renaming eq_bool_str → LV,eq_str_bool → LW,ne_bool_str → LX,ne_str_bool → LY,eq_int_str → L5,eq_str_int → L6,ne_int_str → L7,ne_str_int → L8
open PySem.CmpOf renaming ints_lt → Md
open PySem.Moved renaming eq_with → Me,trans → Mm
open PySem.W.Looks renaming of_pure → Mi
open Nat.succ renaming inj → Mk
open PySem.W.KatTups renaming cons → Ml
open PySem.Heap.IsSliceOf renaming new → Mo
set_option Elab.async false
set_option linter.all false
set_option maxRecDepth 100000
namespace L2
open PySem PySem.Spec PyProof.Rows
abbrev Key:=Sum Int Str
def mw:Key->CU->Bool
 | .inl k,v=>Value.isInt k v
 | .inr x,v=>Value.isStrOf x v
def keyH (w:DW):Key->Int
 | .inl k=>hashInt k
 | .inr x=>hashStr w x
theorem bq:∀{k:Key} {v:CU},mw k v=true->(∃i t,k=Sum.inl i/\v=ES i t)\/(∃x t,k=Sum.inr x/\v=Value.str x t)
 | .inl i,v,h=>by
  obtain ⟨t,e⟩:=G5 (k:=i) (v:=v) h
  exact .inl ⟨i,t,rfl,e⟩
 | .inr x,v,h=>by
  obtain ⟨t,e⟩:=Value.isStrOf_shape (x:=x) (v:=v) h
  exact .inr ⟨x,t,rfl,e⟩
theorem u3 (i:Int)(t:Tok):mw (.inl i) (.int i t)=true:=by simp[mw,Value.isInt]
theorem u5 (x:Str)(t:Tok):mw (.inr x) (.str x t)=true:=by simp[mw,Value.isStrOf]
theorem AB (a b:Int):decide ((Sum.inl a:Key)=Sum.inl b)=(a == b):=by
 by_cases e:a=b
 ·subst e;simp
 ·have h:¬ (Sum.inl a:Key)=Sum.inl b:=λq=>e (Sum.inl.inj q)
  rw[decide_eq_false h]
  exact (beq_eq_false_iff_ne.mpr e).symm
theorem AD (a b:Str):decide ((Sum.inr a:Key)=Sum.inr b)=decide (a=b):=by
 by_cases e:a=b
 ·subst e;simp
 ·have h:¬ (Sum.inr a:Key)=Sum.inr b:=λq=>e (Sum.inr.inj q)
  rw[decide_eq_false h,decide_eq_false e]
theorem AE (a:Int)(b:Str):decide ((Sum.inl a:Key)=Sum.inr b)=false:=decide_eq_false (λq=>nomatch q)
theorem AF (a:Str)(b:Int):decide ((Sum.inr a:Key)=Sum.inl b)=false:=decide_eq_false (λq=>nomatch q)
def bz (prog:Dp)(w:DW):PySem.KeyKind prog w Key where
 is:=mw
 hash:=keyH w
 inj:=λv a b ha hb=>by
  rcases bq ha with ⟨i,t,rfl,rfl⟩ | ⟨x,t,rfl,rfl⟩
  ·rcases bq hb with ⟨j,u,rfl,e⟩ | ⟨y,u,rfl,e⟩
   ·injection e with e1 _;rw[e1]
   ·exact nomatch e
  ·rcases bq hb with ⟨j,u,rfl,e⟩ | ⟨y,u,rfl,e⟩
   ·exact nomatch e
   ·injection e with e1 _;rw[e1]
 byValue:=λk v h=>by
  rcases bq h with ⟨i,t,rfl,rfl⟩ | ⟨x,t,rfl,rfl⟩ <;> rfl
 pyHash:=λhv h=>by
  rcases bq hv with ⟨i,t,rfl,rfl⟩ | ⟨x,t,rfl,rfl⟩
  ·exact wpAny_pyHash_int h
  ·exact wpAny_pyHash_str h
 eqBool:=λhu hv h=>by
  rcases bq hu with ⟨i,t,rfl,rfl⟩ | ⟨x,t,rfl,rfl⟩
  ·rcases bq hv with ⟨j,u,rfl,rfl⟩ | ⟨y,u,rfl,rfl⟩
   ·rw[AB] at h;exact wpAny_eqBool_int h
   ·rw[AE] at h;exact KA i t y u _ _ _ _ h
  ·rcases bq hv with ⟨j,u,rfl,rfl⟩ | ⟨y,u,rfl,rfl⟩
   ·rw[AF] at h;exact KC x t j u _ _ _ _ h
   ·rw[AD] at h;exact wpAny_eqBool_str h
 «strs» := λk x t v h=>by
  rcases bq h with ⟨i,u,rfl,e⟩ | ⟨y,u,rfl,e⟩
  ·exact nomatch e
  ·injection e with e1 _
   subst e1
   cases v <;> rfl
theorem pE (prog:Dp)(w:DW)(i:Int)(t:Tok):(bz prog w).is (.inl i) (.int i t)=true:=u3 i t
theorem pF (prog:Dp)(w:DW)(x:Str)(t:Tok):(bz prog w).is (.inr x) (.str x t)=true:=u5 x t
open PySem PySem.Spec PyProof.Rows
inductive V where
 | non | bl (b:Bool) | int (i:Int) | str (x:Str) | byt (b:Array UInt8) | flt (b:UInt64) | ref (a:Addr) | ty (n:String)
 deriving DecidableEq
def RelV:V->CU->Prop
 | .non,u=>u=E6
 | .bl b,u=>u=Value.bool b
 | .int i,u=>∃t,u=ES i t
 | .str x,u=>∃t,u=Value.str x t
 | .byt b,u=>∃t,u=Value.bytes b t
 | .flt b,u=>∃t,u=Value.float b t
 | .ref a,u=>u=Dv a
 | .ty n,u=>u=Fl n
abbrev Vals:List V->List CU->Prop:=Paired RelV
theorem Vals.length {xs:List V}{us:List CU}(r:Vals xs us):xs.length=us.length:=HE r
theorem Vals.get:∀{xs:List V} {us:List CU} {i:Nat} {x:V},Vals xs us->xs[i]? = some x->∃u,us[i]? = some u/\RelV x u
 | _,_,_,_,.nil,e=>by simp at e
 | _,_,0,_,.cons r _,e=>by simp at e;subst e;exact ⟨_,rfl,r⟩
 | _,_,i+1,x,.cons _ t,e=>by
  obtain ⟨u,h1,h2⟩:=Vals.get (i:=i) (x:=x) t (by simpa using e)
  exact ⟨u,by simpa using h1,h2⟩
theorem Vals.set {x:V}{u:CU}(r:RelV x u):∀{xs:List V} {us:List CU} (i:Nat),Vals xs us->Vals (xs.set i x) (us.set i u)
 | _,_,_,.nil =>.nil
 | _,_,0,.cons _ t =>.cons r t
 | _,_,i+1,.cons q t =>.cons q (Vals.set r i t)
theorem Vals.append:∀{xs ys:List V} {us ws:List CU},Vals xs us->Vals ys ws->Vals (xs++ys) (us++ws)
 | _,_,_,_,.nil,s=>s
 | _,_,_,_,.cons r t,s =>.cons r (Vals.append t s)
theorem Vals.take:∀{xs:List V} {us:List CU} (n:Nat),Vals xs us->Vals (xs.take n) (us.take n)
 | _,_,0,_ =>.nil
 | _,_,_+1,.nil =>.nil
 | _,_,n+1,.cons r t =>.cons r (Vals.take n t)
theorem Vals.drop:∀{xs:List V} {us:List CU} (n:Nat),Vals xs us->Vals (xs.drop n) (us.drop n)
 | _,_,0,r=>r
 | _,_,_+1,.nil =>.nil
 | _,_,n+1,.cons _ t=>Vals.drop n t
def lS:Option V->Option CU->Prop
 | some v,some u=>RelV v u
 | none,none=>True
 | _,_=>False
def KV {κ:Type}:List (κ×V)->List (κ×CU)->Prop:=Paired λ(p:κ×V) (q:κ×CU)=>p.1=q.1/\RelV p.2 q.2
def kV:Key->V
 | .inl i =>.int i
 | .inr x =>.str x
inductive HO where
  | lst (xs:List V)
  | tup (xs:List V)
  | dK (kvs:List (Key×V)) | dT (kvs:List (List Key×V))
  | set (S:Int->Bool) (n:Nat)
  | ins (C dx:Addr) (fs:List (Str×V))
  | own (x:Addr)
  | xd (fs:List (Str×V))
  | met (f x:Addr)
  | rng (lo hi:Int)
  | frz (o:Obj) (u:HO)
  | tbl (ps:Array CU)
  | ext (φ:Heap->Prop)
abbrev Hp:=Addr->Option HO
def upd (H:Hp)(a:Addr)(o:HO):Hp:=λb=>if b=a then some o else H b
theorem ae {H:Hp}{a:Addr}{o:HO}:upd H a o a=some o:=by unfold upd;rw[if_pos rfl]
theorem ay {H:Hp}{a b:Addr}{o:HO}(h:b≠a):upd H a o b=H b:=by unfold upd;rw[if_neg h]
theorem fE {H:Hp}{a b:Addr}{o u:HO}(h:H a=some o)(h':H b=some u)(d:o≠u):a≠b:=by
 intro e;subst e;rw[h] at h';exact d (DB h')
theorem aq {H:Hp}{a b:Addr}{o:HO}(h:H a=some o)(h':H b=none):a≠b:=by
 intro e;subst e;rw[h] at h';cases h'
def dA (h:Heap)(a:Addr)(items:Array CU):Prop:=∃o,h.get? a=some o/\(o.cls = .type "tuple" /\ o.dict=none)/\∃n,o.data = .seq items n
theorem dA.tup {h:Heap}{a:Addr}{items:Array CU}(x:dA h a items):IsTup h a items:=let ⟨o,e,c,n,d⟩:=x;⟨o,e,c.1,n,d⟩
theorem dA.new (h:Heap)(items:Array CU):dA (h.push { cls :=.type "tuple",data :=.seq items }) h.objs.size items:=⟨_,C3 _ rfl,⟨rfl,rfl⟩,_,rfl⟩
section
variable  (P:Dp)(w:DW)
def bA (H:Hp)(h:Heap)(a:Addr):HO->Prop
 | .lst xs=>xs.length<=Dl/\∃(its:List CU) (n:Nat),Vals xs its/\h.get? a=some { cls :=.type "list",data :=.seq its.toArray n }
 | .tup xs=>xs.length<=Dl/\∃its:List CU,Vals xs its/\dA h a its.toArray
 | .dK kvs=>kvs.length<=Dl/\(a == sysModules)=false/\∃vs,KV kvs vs/\h.DictOf (bz P w) a vs
 | .dT kvs=>kvs.length<=Dl/\(a == sysModules)=false/\∃xs:List (List Key×Addr×CU),
   Paired (λ(p:List Key×V) (q:List Key×Addr×CU)=>p.1=q.1/\H q.2.1=some (.tup (p.1.map kV))/\RelV p.2 q.2.2) kvs xs ∧
   ∃o es ep,h.get? a=some o/\o.ExactDict/\o.data = .dict es ep/\es.toList=xs.map (entryOfKey (tupleKind (bz P w)))/\(xs.map (·.1)).Nodup
 | .set S n=>h.SetOf (intKind P w) a S n
 | .ins C dx fs=>H dx=some (.own a)/\fs.length<=1000/\dx≠a/\h.get? a=some (PySem.W.instObj C dx) ∧
   ∃mA,h.Ns1 dx mA/\(∀f,lS (fs.lookup f) (mA f))/\PySem.Within mA (fs.map (·.1))
 | .own _=>∃o,h.get? a=some o
 | .xd fs=>∃mA,h.Ns1 a mA/\∀f,lS (fs.lookup f) (mA f)
 | .rng lo hi=>∃t u v,h.get? a=some { cls :=.type "range",data :=.fields #[.int lo t,.int hi u,.int 1 v] }
 | .frz o u=>h.get? a=some o/\bA H h a u
 | .tbl ps=>h.get? a=some { cls :=.none,data :=.fields ps }
 | .met f x=>h.get? a=some (PySem.W.methodObj (.ref f) (.ref x))
 | .ext φ=>φ h/\(∃o,h.get? a=some o)/\∀h1 h2:Heap, φ h1->(∀o,h1.get? a=some o->h2.get? a=some o) -> φ h2
def HOk (H:Hp)(h:Heap):Prop:=∀a o,H a=some o->bA P w H h a o
end
section
variable  {P:Dp}{w:DW}{H H':Hp}{h h':Heap}{a:Addr}{o:HO}
theorem bA.lt (x:bA P w H h a o):a<h.objs.size:=by
 cases o with
 | lst xs=>obtain ⟨_,_,_,_,e⟩:=x;exact Dc e
 | tup xs=>obtain ⟨_,_,_,p⟩:=x;exact (dA.tup p).lt
 | dK kvs=>obtain ⟨_,_,_,_,o,_,_,e,_⟩:=x;exact Dc e
 | dT kvs=>obtain ⟨_,_,_,_,o,_,_,e,_⟩:=x;exact Dc e
 | set S n=>obtain ⟨o,_,_,_,e,_⟩:=x;exact Dc e
 | ins C dx fs=>obtain ⟨_,_,_,e,_⟩:=x;exact Dc e
 | own y=>obtain ⟨_,e⟩:=x;exact Dc e
 | xd fs=>obtain ⟨_,⟨_,_,_,e,_⟩,_⟩:=x;exact Dc e
 | rng lo hi=>obtain ⟨_,_,_,e⟩:=x;exact Dc e
 | frz ob u=>obtain ⟨e,_⟩:=x;exact Dc e
 | tbl ps=>exact Dc (show h.get? a=some _ from x)
 | met f y=>exact Dc (show h.get? a=some _ from x)
 | ext φ=>obtain ⟨_,⟨_,e⟩,_⟩:=x;exact Dc e
theorem Paired.AG {α β:Type}{F G:α -> β -> Prop}:∀{l₁:List α} {l₂:List β},Paired F l₁ l₂->(∀a b,F a b->G a b)->Paired G l₁ l₂
 | _,_,.nil,_ =>.nil
 | _,_,.cons r t,f =>.cons (f _ _ r) (Paired.AG t f)
theorem bA.stay (x:bA P w H h a o)(k:∀b u,(b=a\/H b=some (.own a))->h.get? b=some u->h'.get? b=some u)
  (ho:∀b,H b=some (.own a)->H' b=some (.own a)) (ht:∀b xs,H b=some (.tup xs)->H' b=some (.tup xs)):bA P w H' h' a o:=by
 induction o with
 | lst xs=>obtain ⟨z,its,n,r,e⟩:=x;exact ⟨z,its,n,r,k _ _ (.inl rfl) e⟩
 | tup xs=>obtain ⟨z,its,r,ob,e,c⟩:=x;exact ⟨z,its,r,ob,k _ _ (.inl rfl) e,c⟩
 | dK kvs=>obtain ⟨z,y,vs,r,ob,es,ep,e,c⟩:=x;exact ⟨z,y,vs,r,ob,es,ep,k _ _ (.inl rfl) e,c⟩
 | dT kvs =>
  obtain ⟨z,y,xs,r,ob,es,ep,e,c⟩:=x
  exact ⟨z,y,xs,Paired.AG r λp q z=>⟨z.1,ht _ _ z.2.1,z.2.2⟩,ob,es,ep,k _ _ (.inl rfl) e,c⟩
 | set S n=>obtain ⟨ob,es,ep,t,e,c⟩:=x;exact ⟨ob,es,ep,t,k _ _ (.inl rfl) e,c⟩
 | ins C dx fs =>
  obtain ⟨d,z,ne,e,mA,⟨od,es,ep,e2,c⟩,r⟩:=x
  exact ⟨ho _ d,z,ne,k _ _ (.inl rfl) e,mA,⟨od,es,ep,k _ _ (.inr d) e2,c⟩,r⟩
 | own y=>obtain ⟨ob,e⟩:=x;exact ⟨ob,k _ _ (.inl rfl) e⟩
 | xd fs=>obtain ⟨mA,⟨od,es,ep,e,c⟩,r⟩:=x;exact ⟨mA,⟨od,es,ep,k _ _ (.inl rfl) e,c⟩,r⟩
 | rng lo hi=>obtain ⟨t,u,v,e⟩:=x;exact ⟨t,u,v,k _ _ (.inl rfl) e⟩
 | frz ob u ih=>obtain ⟨e,q⟩:=x;exact ⟨k _ _ (.inl rfl) e,ih q⟩
 | tbl ps =>
  have e:h.get? a=some { cls :=.none,data :=.fields ps }:=x
  show h'.get? a=some { cls :=.none,data :=.fields ps }
  exact k a _ (.inl rfl) e
 | met f y =>
  have e:h.get? a=some (PySem.W.methodObj (.ref f) (.ref y)):=x
  show h'.get? a=some (PySem.W.methodObj (.ref f) (.ref y))
  exact k a _ (.inl rfl) e
 | ext φ=>obtain ⟨p,⟨o,e⟩,st⟩:=x;exact ⟨st _ _ p λo q=>k _ _ (.inl rfl) q,⟨o,k _ _ (.inl rfl) e⟩,st⟩
theorem HOk.lt (x:HOk P w H h)(e:H a=some o):a<h.objs.size:=(x a o e).lt
theorem HOk.fresh (x:HOk P w H h)(e:h.objs.size<=a):H a=none:=by
 cases q:H a with
 | none=>rfl
 | some u=>exact absurd (Dw (x.lt q) e) (D9 _)
theorem HOk.kept (x:HOk P w H h)(k:∀b u,h.get? b=some u->h'.get? b=some u):HOk P w H h':=λa o e =>
 (x a o e).stay (λb u _ q=>k b u q) (λ_ q=>q) λ_ _ q=>q
theorem HOk.laid (x:HOk P w H h)(k:∀b u,h.get? b=some u->h'.get? b=some u)(hp:h.objs.size<=a)(new:bA P w (upd H a o) h' a o):HOk P w (upd H a o) h':=λb u e=>by
 have hn:=x.fresh hp
 by_cases hb:b=a
 ·subst hb;rw[ae] at e;cases e;exact new
 ·rw[ay hb] at e
  exact (x b u e).stay (λc v _ q=>k c v q) (λc q=>by rw[ay (aq q hn)];exact q) λc xs q=>by rw[ay (aq q hn)];exact q
end
def Rd (H:Hp)(a:Addr)(u:HO):Prop:=H a=some u\/∃o,H a=some (.frz o u)
theorem Rd.ok {P:Dp}{w:DW}{H:Hp}{h:Heap}{a:Addr}{u:HO}(r:Rd H a u)(x:HOk P w H h):bA P w H h a u:=by
 rcases r with r | ⟨o,r⟩
 ·exact x a u r
 ·obtain ⟨_,q⟩:=x a _ r
  exact q
def Mut:Option HO->Prop
 | some (.lst _)=>True
 | some (.dK _)=>True
 | some (.dT _)=>True
 | some (.set _ _)=>True
 | some (.ins _ _ _)=>True
 | some (.ext _)=>True
 | _=>False
section
variable  {P:Dp}{w:DW}{H:Hp}{h h':Heap}{x e:Addr}{o':HO}
theorem HOk.write (ok:HOk P w H h)(mu:Mut (H x))(he:e=x\/H e=some (.own x))(k:∀b u,b≠e->h.get? b=some u->h'.get? b=some u)(heo:∃u,h'.get? e=some u)
  (new:bA P w (upd H x o') h' x o'):HOk P w (upd H x o') h':=λb u q=>by
 have nown:∀c y,H c=some (.own y)->c≠x:=λc y r z=>by subst z;rw[r] at mu;exact mu
 have ntup:∀c xs,H c=some (.tup xs)->c≠x:=λc xs r z=>by subst z;rw[r] at mu;exact mu
 by_cases hb:b=x
 ·subst hb;rw[ae] at q;cases q;exact new
 ·rw[ay hb] at q
  by_cases hbe:b=e
  ·have q':H b=some (.own x):=by
    rcases he with z | z
    ·exact absurd (hbe.trans z) hb
    ·rw[hbe];exact z
   rw[q] at q';cases q'
   obtain ⟨v,hv⟩:=heo
   exact ⟨v,by rw[hbe];exact hv⟩
  ·refine (ok b u q).stay (λc v hc r=>k c v ?_ r) (λc r=>by rw[ay (nown c b r)];exact r) λc xs r=>by rw[ay (ntup c xs r)];exact r
   rcases hc with rfl | hc
   ·exact hbe
   ·rintro rfl
    rcases he with z | z
    ·exact nown c b hc z
    ·rw[hc] at z;cases z;exact hb rfl
end
structure Un (fs ex:List Addr)(H H':Hp)(h h':Heap):Prop where
 keep:∀b o,h.get? b=some o->H b=none->b∉fs->b∉ex->h'.get? b=some o
 slot:∀b o,h.get? b=some o->H b=none->b∈fs->b∉ex->∃sl,h'.get? b=some { o with slots:=sl }
 free:∀b o,h.get? b=some o->H b=none->b∉ex->H' b=none
 there:∀b o,h.get? b=some o->b∉ex->∃o',h'.get? b=some o'
 tups:∀b xs,H b=some (.tup xs)->H' b=some (.tup xs)
 frzs:∀b o u,H b=some (.frz o u)->H' b=some (.frz o u)
 tbls:∀b ps,H b=some (.tbl ps)->∃more,H' b=some (.tbl (ps++more))
section
variable  {fs fs' ex ex':List Addr}{H H1 H2:Hp}{h h1 h2 h':Heap}{a x e:Addr}{o:HO}
theorem Un.any (u:Un fs ex H H1 h h1){b:Addr}{ob:Obj}(q:h.get? b=some ob)(n:H b=none)(hx:b∉ex):∃sl,h1.get? b=some { ob with slots:=sl }:=by
 by_cases hb:b∈fs
 ·exact u.slot b ob q n hb hx
 ·exact ⟨ob.slots,u.keep b ob q n hb hx⟩
theorem Un.kept (k:∀b u,h.get? b=some u->h'.get? b=some u):Un fs ex H H h h' :=
 ⟨λb ob q _ _ _=>k b ob q,λb ob q _ _ _=>⟨ob.slots,k b ob q⟩,λ_ _ _ n _=>n,λb ob q _=>⟨ob,k b ob q⟩,λ_ _ q=>q,λ_ _ _ q=>q,λ_ ps q=>⟨#[],by rw[q];simp⟩⟩
theorem Un.refl:Un fs ex H H h h:=Un.kept λ_ _ q=>q
theorem Un.laid (k:∀b u,h.get? b=some u->h'.get? b=some u)(hp:h.objs.size<=a)(hn:H a=none):Un fs ex H (upd H a o) h h' where
 keep:=λb u q _ _ _=>k b u q
 slot:=λb u q _ _ _=>⟨u.slots,k b u q⟩
 free:=λb u q n _=>by rw[ay (Dk (Dw (Dc q) hp))];exact n
 there:=λb u q _=>⟨u,k b u q⟩
 tups:=λb xs q=>by rw[ay (aq q hn)];exact q
 frzs:=λb u xs q=>by rw[ay (aq q hn)];exact q
 tbls:=λb ps q=>⟨#[],by rw[ay (aq q hn),q];simp⟩
theorem Un.write (mu:Mut (H x))(he:e=x\/H e=some (.own x))(k:∀b u,b≠e->h.get? b=some u->h'.get? b=some u)(heo:∃u,h'.get? e=some u):Un fs ex H (upd H x o) h h':=by
 have hx:∀b,H b=none->b≠x:=λb n z=>by subst z;rw[n] at mu;exact mu
 have hb:∀b,H b=none->b≠e:=λb n z=>by
  subst z
  rcases he with r | r
  ·exact hx b n r
  ·rw[n] at r;cases r
 have hm:∀b u,H b=some u->¬ Mut (some u)->b≠x:=λb u q nm z=>by subst z;rw[q] at mu;exact nm mu
 refine ⟨λb u q n _ _=>k b u (hb b n) q,λb u q n _ _=>⟨u.slots,k b u (hb b n) q⟩,λb u q n _=>by rw[ay (hx b n)];exact n,λb u q _ =>?_,
  λb xs q=>by rw[ay (hm b _ q λz=>z)];exact q,λb u xs q=>by rw[ay (hm b _ q λz=>z)];exact q,λb ps q=>⟨#[],by rw[ay (hm b _ q λz=>z),q];simp⟩⟩
 by_cases hbe:b=e
 ·subst hbe;exact heo
 ·exact ⟨u,k b u hbe q⟩
end
def trk (h:Heap)(H:Hp):List Addr:=(EF h.objs.size).filter λa=>(H a).isSome
def nU (h:Heap)(H:Hp):Heap:=PySem.W.hideAll h (trk h H)
theorem u6 (h:Heap)(H:Hp):(nU h H).objs.size=h.objs.size:=PySem.W.hideAll_size _ _
theorem wD {h:Heap}{H:Hp}{b:Addr}{o:Obj}(e:h.get? b=some o)(n:H b=none):(nU h H).get? b=some o :=
 PySem.W.hideAll_get _ e λhm=>by
  have q:(H b).isSome=true:=(D1.mp hm).2
  rw[n] at q;simp at q
theorem yM {h:Heap}{H:Hp}{b:Addr}{o:Obj}(e:(nU h H).get? b=some o):h.get? b=some o/\H b=none:=by
 have e':h.get? b=some o:=PySem.W.of_hideAll (trk h H) e
 refine ⟨e',?_⟩
 cases q:H b with
 | none=>rfl
 | some x =>
  have hm:b∈trk h H:=D1.mpr ⟨ED.mpr (Dc e'),by simp[q]⟩
  have z:(nU h H).get? b=none:=PySem.W.hideAll_none (trk h H) hm
  rw[z] at e;cases e
def yN (g h:Heap)(L:Addr):List (Addr×Obj):=(EF h.objs.size).filterMap λa=>if a=L\/(g.get? a).isSome=true then none else (h.get? a).map λo=>(a,o)
def rest (g h:Heap)(L d:Addr):List (Addr×Obj):=(yN g h L).filter λp=>decide (p.1≠d)
open PySem PySem.Spec PyProof.Rows
structure Mod (K:CZ)(mg:Str->Option CU)(base:Heap):Prop where
 kin:K.In base
 glob:base.Ns Eg mg
 blt:∃mb,base.Ns builtinsNs mb/\∀x:Str,x ≠ "__name__" -> mb x=Ez x
 nolimit:base.NoLimit
structure Cx where
 prog:Dp
 w:DW
 K:CZ
 mg:Str->Option CU
 base:Heap
 A:Ec
 N:List Str
 s₀:CW
 H₀:Hp
 env:Env
 outer:List Env
 stack:List Env
 ex:List Addr
 fn:Str->Bool
 calm:Bool
 pn:List (Addr×Obj)
 xe:CU->CW->Prop
def frs (l:List Env):List Addr:=l.filterMap (·.frame)
abbrev Cx.fs (X:Cx):List Addr:=frs X.outer
def Vis (sc:Scope)(x:Str):Prop:=sc.names.lookup x=some .local\/sc.names.lookup x=some .cell\/sc.names.lookup x=some .free
def Loc (sc:Scope)(x:Str):Prop:=sc.names.lookup x=some .local\/sc.names.lookup x=some .cell
def Look (env:Env)(h:Heap)(m:Str->Option CU)(x:Str)(u:CU):Prop :=
 (env.kindOf x=some .local/\m x=some u)\/((env.kindOf x=some .cell\/env.kindOf x=some .free)/\∃c,env.cells.lookup x=some c/\h.IsCell c (some u))
structure Cx.Ok (X:Cx):Prop where
 mod:Mod X.K X.mg X.base
 kind:X.env.scope.kind = .function
 glob:X.env.globals=Eg
 blt:X.env.builtins=builtinsNs
 above:X.s₀.heap.objs.size<=X.env.locals
 inj:∀x y c,X.env.cells.lookup x=some c->X.env.cells.lookup y=some c->x=y
 has:∀x,(X.env.kindOf x=some .cell\/X.env.kindOf x=some .free)->∃c,X.env.cells.lookup x=some c
 cab:∀x c,X.fn x=true->X.env.cells.lookup x=some c->X.s₀.heap.objs.size<=c
 hd:X.calm=true->X.A.handled=none
 frames:X.A.frames=some X.stack
 stk:X.stack=X.outer\/(X.stack=X.env :: X.outer/\X.env.frame=some X.env.locals)
 exf:∀b∈X.ex,b≠X.env.locals/\∀x c,X.env.cells.lookup x=some c->c≠b
 bs:∀b o,X.base.get? b=some o->X.s₀.heap.get? b=some o/\X.H₀ b=none
 bsz:X.base.objs.size<=X.s₀.heap.objs.size
 noex:∀b o,X.base.get? b=some o->b∉X.ex
 exfs:∀b∈X.ex,b∉X.fs
 funs:X.s₀.heap.FunFrames X.base X.outer
 frf:∀b∈X.fs,X.H₀ b=none
structure Inv (X:Cx)(pins:List (Addr×Obj))(σ:List (Option V))(H:Hp)(s:CW):Prop where
 ok:X.Ok
 os:s.os=X.s₀.os
 bare:AllBare s.gens
 base:Un X.fs X.ex X.H₀ H X.s₀.heap s.heap
 loc:∃m,s.heap.Ns X.env.locals m/\∀(i:Nat) (x:Str) (v:V),X.N[i]? = some x->σ[i]? = some (some v)->Vis X.env.scope x->∃u,RelV v u/\Look X.env s.heap m x u
 cell:∀x c,X.env.cells.lookup x=some c->∃v,s.heap.IsCell c v
 free:H X.env.locals=none
 freeC:∀x c,X.env.cells.lookup x=some c->H c=none
 pin:∀p∈X.pn++pins,s.heap.get? p.1=some p.2/\H p.1=none/\p.1≠X.env.locals/\p.1∉X.fs/\∀v,p.2.data ≠ .cell v
 hok:HOk X.prog X.w H s.heap
 len:σ.length=X.N.length
section
variable  {X:Cx}{pins:List (Addr×Obj)}{σ:List (Option V)}{H H':Hp}{s:CW}{h':Heap}
theorem Cx.Ok.nofr (ok:X.Ok){b:Addr}{o:Obj}(e:X.base.get? b=some o):b∉X.fs:=λhb=>by
 have:=(ok.funs.mem hb).1
 rw[e] at this;cases this
theorem Inv.bs (I:Inv X pins σ H s):∀b o,X.base.get? b=some o->s.heap.get? b=some o/\H b=none:=λb o e =>
 ⟨I.base.keep b o (I.ok.bs b o e).1 (I.ok.bs b o e).2 (I.ok.nofr e) (I.ok.noex b o e),I.base.free b o (I.ok.bs b o e).1 (I.ok.bs b o e).2 (I.ok.noex b o e)⟩
theorem Inv.bk (I:Inv X pins σ H s):∀b o,X.base.get? b=some o->s.heap.get? b=some o:=λb o e=>(I.bs b o e).1
theorem Inv.mod (I:Inv X pins σ H s):Mod X.K X.mg X.base:=I.ok.mod
theorem Inv.kIn (I:Inv X pins σ H s):X.K.In s.heap:=I.ok.mod.kin.keeps I.bk
theorem Inv.lt (I:Inv X pins σ H s):X.env.locals<s.heap.objs.size:=let ⟨_,hn,_⟩:=I.loc;hn.lt
theorem Inv.sz (I:Inv X pins σ H s):X.s₀.heap.objs.size<=s.heap.objs.size:=DZ I.ok.above (GZ I.lt)
theorem Inv.AH (I:Inv X pins σ H s){a:Addr}(h:s.heap.objs.size<=a):a∉X.fs:=λhb=>by
 obtain ⟨_,o,ho,_⟩:=I.ok.funs.mem hb
 exact absurd (Dw (Dc ho) (DZ I.sz h)) (D9 _)
theorem Inv.cne (I:Inv X pins σ H s):∀x c,X.env.cells.lookup x=some c->c≠X.env.locals:=λx c e z=>by
 obtain ⟨v,o,ho,hd⟩:=I.cell x c e
 obtain ⟨m,⟨o',es,ep,ho',hd',_⟩,_⟩:=I.loc
 rw[z,ho'] at ho;cases ho;rw[hd'] at hd;cases hd
theorem Inv.funs (I:Inv X pins σ H s):s.heap.FunFrames X.base X.outer:=by
 have all:∀(l:List Env),(∀b∈frs l,b∈X.fs)->X.s₀.heap.FunFrames X.base l->s.heap.FunFrames X.base l:=by
  intro l
  induction l with
  | nil=>intro _ _;trivial
  | cons env r ih =>
   intro hs hl
   obtain ⟨hk,⟨L,o,hf,hn,ho,hd⟩,hr⟩:=hl
   have hL:L∈X.fs:=hs L (by unfold frs;rw[Iw,hf];exact Dr)
   obtain ⟨sl,e⟩:=I.base.slot L o ho (I.ok.frf L hL) hL λz=>I.ok.exfs L z hL
   exact ⟨hk,⟨L,_,hf,hn,e,hd⟩,ih (λb hb=>hs b (by unfold frs;rw[Iw,hf];exact Ds _ hb)) hr⟩
 exact all X.outer (λ_ hb=>hb) I.ok.funs
theorem Inv.stack (I:Inv X pins σ H s):s.heap.FunFrames X.base X.stack:=by
 rcases I.ok.stk with e | ⟨e,hf⟩
 ·rw[e];exact I.funs
 ·rw[e]
  obtain ⟨m,hn,_⟩:=I.loc
  refine .cons (by rw[I.ok.kind];decide) hf hn ?_ I.funs
  exact Heap.get?_none_of_le (DZ I.ok.bsz I.ok.above)
theorem Inv.nV (I:Inv X pins σ H s):∀b∈frs X.stack,b∈X.env.locals :: X.fs:=λb hb=>by
 rcases I.ok.stk with e | ⟨e,hf⟩
 ·rw[e] at hb;exact Ds _ hb
 ·rw[e] at hb
  unfold frs at hb
  rw[Iw,hf] at hb
  exact hb
theorem Inv.tD (I:Inv X pins σ H s):∀b∈frs X.stack,H b=none:=λb hb=>by
 rcases Dm.mp (I.nV b hb) with e | hb
 ·rw[e];exact I.free
 ·obtain ⟨_,o,ho,_⟩:=I.ok.funs.mem hb
  exact I.base.free b o ho (I.ok.frf b hb) λz=>I.ok.exfs b z hb
theorem Inv.step {g':Array GenState}{t':Nat}{d':Drawn}{ch:List Addr}(I:Inv X pins σ H s)
  (hch:∀b∈ch,(b∈X.ex\/X.s₀.heap.objs.size<=b)/\b≠X.env.locals/\(∀x c,X.env.cells.lookup x=some c->c≠b)/\∀p∈X.pn++pins,p.1≠b)
  (keep:∀b o,b≠X.env.locals->b∉X.fs->b∉ch->s.heap.get? b=some o->H b=none->h'.get? b=some o)
  (slot:∀b o,b≠X.env.locals->b∈X.fs->b∉ch->s.heap.get? b=some o->H b=none->∃sl,h'.get? b=some { o with slots:=sl }) (free:∀b o,b∉ch->s.heap.get? b=some o->H b=none->H' b=none)
  (there:∀b o,b∉ch->s.heap.get? b=some o->∃o',h'.get? b=some o')
  (tups:∀b xs,H b=some (.tup xs)->H' b=some (.tup xs)) (frzs:∀b o u,H b=some (.frz o u)->H' b=some (.frz o u)) (tbls:∀b ps,H b=some (.tbl ps)->∃more,H' b=some (.tbl (ps++more)))
  (ns:∀m,s.heap.Ns X.env.locals m->h'.Ns X.env.locals m) (hok:HOk X.prog X.w H' h') (hg:AllBare g') :
  Inv X pins σ H' { s with heap:=h',gens:=g',drawn:=d',toks:=t' }:=by
 have neL:∀b o,X.s₀.heap.get? b=some o->b≠X.env.locals:=λb o e=>Dk (Dw (Dc e) I.ok.above)
 have neC:∀b o,X.s₀.heap.get? b=some o->b∉X.ex->b∉ch:=λb o e hx hb=>by
  rcases (hch b hb).1 with z | z
  ·exact hx z
  ·exact absurd (Dw (Dc e) z) (D9 _)
 have cellK:∀x c,X.env.cells.lookup x=some c->∀v,s.heap.IsCell c v->h'.IsCell c v:=λx c e v ⟨o,ho,hd⟩=>by
  have nch:c∉ch:=λz=>(hch c z).2.2.1 x c e rfl
  by_cases hc:c∈X.fs
  ·obtain ⟨sl,q⟩:=slot c o (I.cne x c e) hc nch ho (I.freeC x c e)
   exact ⟨_,q,hd⟩
  ·exact ⟨o,keep c o (I.cne x c e) hc nch ho (I.freeC x c e),hd⟩
 refine ⟨I.ok,I.os,hg,⟨λb o e n hb hx =>?_,λb o e n hb hx =>?_,λb o e n hx =>?_,λb o e hx =>?_,λb xs e=>tups b xs (I.base.tups b xs e),λb o xs e=>frzs b o xs (I.base.frzs b o xs e),λb ps e =>?_⟩,?_,λx c e =>?_,?_,λx c e =>?_,λp hp =>?_,hok,I.len⟩
 ·exact keep b o (neL b o e) hb (neC b o e hx) (I.base.keep b o e n hb hx) (I.base.free b o e n hx)
 ·obtain ⟨sl,e1⟩:=I.base.slot b o e n hb hx
  obtain ⟨sl',e2⟩:=slot b _ (neL b o e) hb (neC b o e hx) e1 (I.base.free b o e n hx)
  exact ⟨sl',e2⟩
 ·obtain ⟨o',e1⟩:=I.base.there b o e hx
  exact free b o' (neC b o e hx) e1 (I.base.free b o e n hx)
 ·obtain ⟨o',e1⟩:=I.base.there b o e hx
  exact there b o' (neC b o e hx) e1
 ·obtain ⟨m1,e1⟩:=I.base.tbls b ps e
  obtain ⟨m2,e2⟩:=tbls b _ e1
  exact ⟨m1++m2,by rw[e2,Array.append_assoc]⟩
 ·obtain ⟨m,hn,hl⟩:=I.loc
  refine ⟨m,ns m hn,λi x v e1 e2 e3 =>?_⟩
  obtain ⟨u,r,l⟩:=hl i x v e1 e2 e3
  refine ⟨u,r,?_⟩
  rcases l with l | ⟨k,c,e,z⟩
  ·exact .inl l
  ·exact .inr ⟨k,c,e,cellK x c e _ z⟩
 ·obtain ⟨v,z⟩:=I.cell x c e
  exact ⟨v,cellK x c e v z⟩
 ·obtain ⟨m,⟨o,_,_,ho,_⟩,_⟩:=I.loc
  exact free _ o (λz=>(hch _ z).2.1 rfl) ho I.free
 ·obtain ⟨v,o,ho,hd⟩:=I.cell x c e
  exact free c o (λz=>(hch c z).2.2.1 x c e rfl) ho (I.freeC x c e)
 ·obtain ⟨e,n,ne,nf,d⟩:=I.pin p hp
  have nch:p.1∉ch:=λz=>(hch p.1 z).2.2.2 p hp rfl
  exact ⟨keep p.1 p.2 ne nf nch e n,free p.1 p.2 nch e n,ne,nf,d⟩
theorem Inv.un {t':Nat}(I:Inv X pins σ H s)(u:Un X.fs [] H H' s.heap h')(hok:HOk X.prog X.w H' h'):Inv X pins σ H' { s with heap:=h',toks:=t' }:=by
 obtain ⟨m,⟨o,es,ep,ho,r⟩,_⟩:=id I.loc
 obtain ⟨sl,hL⟩:=u.any ho I.free (by simp)
 exact I.step (g':=s.gens) (d':=s.drawn) (ch:=[]) (λ_ z=>nomatch z) (λb o _ hb _ e n=>u.keep b o e n hb (by simp)) (λb o _ hb _ e n=>u.slot b o e n hb (by simp)) (λb o _ e n=>u.free b o e n (by simp)) (λb o _ e=>u.there b o e (by simp)) u.tups u.frzs u.tbls (λm' hm=>by
  obtain ⟨o',es',ep',ho',r'⟩:=hm
  rw[ho] at ho';cases ho'
  exact ⟨_,es',ep',hL,r'⟩) hok I.bare
theorem Inv.call {g':Array GenState}{t':Nat}{d':Drawn}{ch:List Addr}(I:Inv X pins σ H s)(u:Un (frs X.stack) ch H H' s.heap h')(hok:HOk X.prog X.w H' h')(hg:AllBare g')
  (hch:∀b∈ch,(b∈X.ex\/X.s₀.heap.objs.size<=b)/\b≠X.env.locals/\(∀x c,X.env.cells.lookup x=some c->c≠b)/\∀p∈X.pn++pins,p.1≠b) :
  Inv X pins σ H' { s with heap:=h',gens:=g',drawn:=d',toks:=t' }:=by
 obtain ⟨m,⟨o,es,ep,ho,r⟩,_⟩:=id I.loc
 obtain ⟨sl,hL⟩:=u.any ho I.free λz=>(hch _ z).2.1 rfl
 exact I.step (ch:=ch) hch (λb o hL hb hc e n=>u.keep b o e n (λz=>(Dm.mp (I.nV b z)).elim hL hb) hc) (λb o _ _ hc e n=>u.any e n hc) (λb o hc e n=>u.free b o e n hc) (λb o hc e=>u.there b o e hc) u.tups u.frzs u.tbls (λm' hm=>by
  obtain ⟨o',es',ep',ho',r'⟩:=hm
  rw[ho] at ho';cases ho'
  exact ⟨_,es',ep',hL,r'⟩) hok hg
theorem Inv.turned {t':Nat}{it:Addr}(I:Inv X pins σ H s)(k:∀b o,b≠it->s.heap.get? b=some o->h'.get? b=some o)(hn:H it=none)(hL:it≠X.env.locals)
  (h1:it∈X.ex\/X.s₀.heap.objs.size<=it) (h2:∀x c,X.env.cells.lookup x=some c->c≠it) (h3:∀p∈X.pn++pins,p.1≠it):Inv X pins σ H { s with heap:=h',toks:=t' }:=by
 have nit:∀b u,H b=some u->b≠it:=λb u e z=>by rw[z,hn] at e;cases e
 refine I.step (g':=s.gens) (d':=s.drawn) (ch:=[it]) (λb hb =>?_) (λb o _ _ hc e _=>k b o (λz=>hc (by simp[z])) e) (λb o _ _ hc e _=>⟨o.slots,k b o (λz=>hc (by simp[z])) e⟩) (λ_ _ _ _ n=>n)
  (λb o hc e=>⟨o,k b o (λz=>hc (by simp[z])) e⟩) (λ_ _ e=>e) (λ_ _ _ e=>e) (λb ps e=>⟨#[],by rw[e];simp⟩) (λm hm =>?_) (λb u e =>?_) I.bare
 ·have e:b=it:=by simpa using hb
  subst e
  exact ⟨h1,hL,h2,h3⟩
 ·obtain ⟨o,es,ep,ho,r⟩:=hm
  exact ⟨o,es,ep,k _ o (Ee hL) ho,r⟩
 ·refine (I.hok b u e).stay (λc v hc q=>k c v ?_ q) (λ_ q=>q) λ_ _ q=>q
  rcases hc with z | z
  ·rw[z];exact nit b u e
  ·exact nit c _ z
theorem Inv.tok (I:Inv X pins σ H s)(t:Nat):Inv X pins σ H { s with toks:=t }:=I.un (h':=s.heap) (t':=t) Un.refl I.hok
theorem Inv.kept {t':Nat}(I:Inv X pins σ H s)(k:∀b u,s.heap.get? b=some u->h'.get? b=some u):Inv X pins σ H { s with heap:=h',toks:=t' }:=I.un (Un.kept k) (I.hok.kept k)
theorem Inv.laid {a:Addr}{o:HO}{t':Nat}(I:Inv X pins σ H s)(k:∀b u,s.heap.get? b=some u->h'.get? b=some u)(hp:s.heap.objs.size<=a)(new:bA X.prog X.w (upd H a o) h' a o) :
  Inv X pins σ (upd H a o) { s with heap:=h',toks:=t' }:=I.un (Un.laid k hp (I.hok.fresh hp)) (I.hok.laid k hp new)
theorem Inv.write {x e:Addr}{o:HO}{t':Nat}(I:Inv X pins σ H s)(mu:Mut (H x))(he:e=x\/H e=some (.own x))(k:∀b u,b≠e->s.heap.get? b=some u->h'.get? b=some u)(heo:∃u,h'.get? e=some u)
  (new:bA X.prog X.w (upd H x o) h' x o):Inv X pins σ (upd H x o) { s with heap:=h',toks:=t' }:=I.un (Un.write mu he k heo) (I.hok.write mu he k heo new)
theorem Inv.iq {pins':List (Addr×Obj)}(I:Inv X pins σ H s)(h:∀p∈pins',s.heap.get? p.1=some p.2/\H p.1=none/\p.1≠X.env.locals/\p.1∉X.fs/\∀v,p.2.data ≠ .cell v):Inv X pins' σ H s :=
 ⟨I.ok,I.os,I.bare,I.base,I.loc,I.cell,I.free,I.freeC,λp hp=>(Dd.mp hp).elim (λz=>I.pin p (Du _ z)) (h p),I.hok,I.len⟩
theorem pG {N:List Str}(hN:N.Nodup){i j:Nat}{x:Str}(a:N[i]? = some x)(b:N[j]? = some x):i=j:=by
 obtain ⟨h1,e1⟩:=C9.mp a
 obtain ⟨h2,e2⟩:=C9.mp b
 exact (List.getElem_inj hN).mp (e1.trans e2.symm)
theorem u7 {M:Model}{A:Ec}{E:CU->CW->Prop}{i:Nat}{x:Str}{v:V}{u:CU}{Q:Unit->CW->Prop}(I:Inv X pins σ H s)(hN:X.N.Nodup)(hi:X.N[i]? = some x)(hx:Loc X.env.scope x)(r:RelV v u)
  (h:∀s',Inv X pins (σ.set i (some v)) H s'->(∃a,Heap.SameBut a s.heap s'.heap/\(a=X.env.locals\/X.env.cells.lookup x=some a))->Q () s') (hf:X.fn x=true\/X.env.scope.names.lookup x=some .local:=by first | exact .inl rfl | exact .inr rfl | assumption):Dn M A (storeName X.env x u) Q E s:=by
 obtain ⟨m,hn,hl⟩:=id I.loc
 have hcls:(X.env.scope.kind == .class || (X.env.scope.kind == .module && X.env.locals != X.env.globals))=false:=by rw[I.ok.kind];rfl
 have hiσ:i<σ.length:=by rw[I.len];exact (C9.mp hi).1
 have cne:=I.cne
 have tracked:∀{a:Addr} {h':Heap},(∃o,s.heap.get? a=some o/\H a=none)->Heap.SameBut a s.heap h'->HOk X.prog X.w H h':=λ{a h'} ha hs b ob e=>by
  obtain ⟨_,_,hfree⟩:=ha
  refine (I.hok b ob e).stay (λc w' hc q=>(hs.2 c ?_).trans q) (λ_ q=>q) λ_ _ q=>q
  rintro rfl
  rcases hc with rfl | hc
  ·rw[hfree] at e;cases e
  ·rw[hfree] at hc;cases hc
 rcases hx with hk | hk
 ·refine wpAny_storeName_local hk hn (λh' hn' hs =>?_) hcls
  obtain ⟨oL,_,_,hoL,_⟩:=id hn
  refine h _ ⟨I.ok,I.os,I.bare,⟨λb o e n hb hx =>?_,λb o e n hb hx =>?_,I.base.free,λb o e hx =>?_,I.base.tups,I.base.frzs,I.base.tbls⟩,⟨_,hn',λj y v' e1 e2 e3 =>?_⟩,λy c e =>?_,I.free,I.freeC,λp hp =>?_,tracked ⟨oL,hoL,I.free⟩ hs,by simpa using I.len⟩ ⟨_,hs,.inl rfl⟩
  ·exact (hs.2 b (Dk (Dw (Dc e) I.ok.above))).trans (I.base.keep b o e n hb hx)
  ·obtain ⟨sl,e1⟩:=I.base.slot b o e n hb hx
   exact ⟨sl,(hs.2 b (Dk (Dw (Dc e) I.ok.above))).trans e1⟩
  ·obtain ⟨o',e1⟩:=I.base.there b o e hx
   exact ⟨o',(hs.2 b (Dk (Dw (Dc e) I.ok.above))).trans e1⟩
  ·by_cases hj:j=i
   ·subst hj
    rw[hi] at e1;cases e1
    rw[EV hiσ] at e2
    cases e2
    exact ⟨u,r,.inl ⟨hk,by simp⟩⟩
   ·rw[Fv (Ee hj)] at e2
    obtain ⟨u',r',q⟩:=hl j y v' e1 e2 e3
    refine ⟨u',r',?_⟩
    rcases q with ⟨k,e⟩ | ⟨k,c,e,z⟩
    ·refine .inl ⟨k,?_⟩
     have:y≠x:=λe=>hj (pG hN e1 (e ▸ hi))
     simp[this,e]
    ·exact .inr ⟨k,c,e,z.sameBut hs (cne y c e)⟩
  ·obtain ⟨w',z⟩:=I.cell y c e
   exact ⟨w',z.sameBut hs (cne y c e)⟩
  ·obtain ⟨e,n,ne,nf,d⟩:=I.pin p hp
   exact ⟨(hs.2 p.1 ne).trans e,n,ne,nf,d⟩
 ·have hfn:X.fn x=true:=by
   rcases hf with z | z
   ·exact z
   ·rw[z] at hk;cases hk
  obtain ⟨c,hc⟩:=I.ok.has x (.inl hk)
  obtain ⟨w',z⟩:=I.cell x c hc
  refine wpAny_storeName_cell I.ok.kind hk hc z (λh' hc' hs =>?_)
  obtain ⟨oc,hoc,hocd⟩:=id z
  refine h { s with heap:=h' } ⟨I.ok,I.os,I.bare,⟨λb o e n hb hx =>?_,λb o e n hb hx =>?_,I.base.free,λb o e hx =>?_,I.base.tups,I.base.frzs,I.base.tbls⟩,⟨m,hn.sameBut hs (Ee (cne x c hc)),λj y v' e1 e2 e3 =>?_⟩,λy c' e =>?_,I.free,I.freeC,λp hp =>?_,tracked ⟨oc,hoc,I.freeC x c hc⟩ hs,by simpa using I.len⟩ ⟨c,hs,.inr hc⟩
  ·exact (hs.2 b (Dk (Dw (Dc e) (I.ok.cab x c hfn hc)))).trans (I.base.keep b o e n hb hx)
  ·obtain ⟨sl,e1⟩:=I.base.slot b o e n hb hx
   exact ⟨sl,(hs.2 b (Dk (Dw (Dc e) (I.ok.cab x c hfn hc)))).trans e1⟩
  ·obtain ⟨o',e1⟩:=I.base.there b o e hx
   exact ⟨o',(hs.2 b (Dk (Dw (Dc e) (I.ok.cab x c hfn hc)))).trans e1⟩
  ·by_cases hj:j=i
   ·subst hj
    rw[hi] at e1;cases e1
    rw[EV hiσ] at e2
    cases e2
    exact ⟨u,r,.inr ⟨.inl hk,c,hc,hc'⟩⟩
   ·rw[Fv (Ee hj)] at e2
    obtain ⟨u',r',q⟩:=hl j y v' e1 e2 e3
    refine ⟨u',r',?_⟩
    rcases q with q | ⟨k,c',e,z'⟩
    ·exact .inl q
    ·refine .inr ⟨k,c',e,z'.sameBut hs ?_⟩
     rintro rfl
     exact hj (pG hN e1 (I.ok.inj _ _ _ e hc ▸ hi))
  ·by_cases hcc:c'=c
   ·subst hcc;exact ⟨_,hc'⟩
   ·obtain ⟨w2,z2⟩:=I.cell y c' e
    exact ⟨w2,z2.sameBut hs hcc⟩
  ·obtain ⟨e,n,ne,nf,d⟩:=I.pin p hp
   refine ⟨(hs.2 p.1 ?_).trans e,n,ne,nf,d⟩
   intro q
   rw[q,hoc] at e
   have q':oc=p.2:=DB e
   exact d w' (by rw[<- q'];exact hocd)
theorem pH {M:Model}{A:Ec}{E:CU->CW->Prop}{i:Nat}{x:Str}{v:V}{u:CU}{Q:Unit->CW->Prop}(I:Inv X pins σ H s)(hN:X.N.Nodup)(hi:X.N[i]? = some x)(hx:Loc X.env.scope x)(r:RelV v u)
  (h:∀s',Inv X pins (σ.set i (some v)) H s'->Q () s') (hf:X.fn x=true\/X.env.scope.names.lookup x=some .local:=by first | exact .inl rfl | exact .inr rfl | assumption):Dn M A (storeName X.env x u) Q E s :=
 u7 I hN hi hx r (λs' I' _=>h s' I') hf
theorem Inv.BO {s':CW}{ch:List Addr}(I:Inv X pins σ H s)(ho:s'.os=s.os)(u:Un (frs X.stack) ch H H' s.heap s'.heap)(hok:HOk X.prog X.w H' s'.heap)(hg:AllBare s'.gens)
  (hch:∀b∈ch,(b∈X.ex\/X.s₀.heap.objs.size<=b)/\b≠X.env.locals/\(∀x c,X.env.cells.lookup x=some c->c≠b)/\∀p∈X.pn++pins,p.1≠b):Inv X pins σ H' s':=by
 obtain ⟨h',g',d',t',o'⟩:=s'
 have e:o'=s.os:=ho
 subst e
 exact I.call (g':=g') (t':=t') (d':=d') u hok hg hch
end
abbrev XK:=CU->Option Addr->Hp->Prop
abbrev St:=List (Option V)
abbrev VK:=V->Hp->Prop
abbrev TE:=St->Hp->VK->Prop
abbrev TT:=St->Hp->(Bool->Hp->Prop)->Prop
abbrev TA:=St->Hp->(List V->Hp->Prop)->Prop
structure Ends where
 nx:St->Hp->Prop
 rt:VK
 bk:St->Hp->Prop:=λ_ _=>False
 ct:St->Hp->Prop:=λ_ _=>False
abbrev TS:=Ends->St->Hp->Prop
def EP (X:Cx)(pins:List (Addr×Obj))(σ:St)(Q:VK)(u:CU)(s':CW):Prop:=∃v H',Inv X pins σ H' s'/\RelV v u/\Q v H'
def TP (X:Cx)(pins:List (Addr×Obj))(σ:St)(Q:Bool->Hp->Prop)(b:Bool)(s':CW):Prop:=∃H',Inv X pins σ H' s'/\Q b H'
def AP (X:Cx)(pins:List (Addr×Obj))(σ:St)(Q:List V->Hp->Prop)(us:List CU)(s':CW):Prop:=∃vs H',Inv X pins σ H' s'/\Vals vs us/\Q vs H'
def SP (X:Cx)(pins:List (Addr×Obj))(D:Ends)(f:Flow)(s':CW):Prop :=
 match f with
 | .next=>∃σ' H',Inv X pins σ' H' s'/\D.nx σ' H'
 | .brk=>∃σ' H',Inv X pins σ' H' s'/\D.bk σ' H'
 | .cont=>∃σ' H',Inv X pins σ' H' s'/\D.ct σ' H'
 | .ret u=>∃v σ' H',Inv X pins σ' H' s'/\RelV v u/\D.rt v H'
def PE (X:Cx)(e:Expr)(t:TE):Prop :=
 ∀(pins:List (Addr×Obj)) (s:CW) (σ:St) (H:Hp) (Q:VK),Inv X pins σ H s->t σ H Q->Dn (DG X.prog X.w) X.A (eval e X.env) (EP X pins σ Q) X.xe s
def PT (X:Cx)(e:Expr)(t:TT):Prop :=
 ∀(pins:List (Addr×Obj)) (s:CW) (σ:St) (H:Hp) (Q:Bool->Hp->Prop),Inv X pins σ H s->t σ H Q->Dn (DG X.prog X.w) X.A (isTrue e X.env (eval e X.env)) (TP X pins σ Q) X.xe s
def PW (X:Cx)(e:Expr)(t:TT):Prop :=
 ∀(whole:Sem CU) (pins:List (Addr×Obj)) (s:CW) (σ:St) (H:Hp) (Q:Bool->Hp->Prop),Inv X pins σ H s->t σ H Q->Dn (DG X.prog X.w) X.A (isTrue e X.env whole) (TP X pins σ Q) X.xe s
theorem PW.pt {X:Cx}{e:Expr}{t:TT}(h:PW X e t):PT X e t:=h _
def PA (X:Cx)(es:List Expr)(t:TA):Prop :=
 ∀(pos:Pos) (pins:List (Addr×Obj)) (s:CW) (σ:St) (H:Hp) (Q:List V->Hp->Prop),Inv X pins σ H s->t σ H Q->Dn (DG X.prog X.w) X.A (spliced (Ig pos (En es X.env))) (AP X pins σ Q) X.xe s
def PS (X:Cx)(st:Stmt)(t:TS):Prop :=
 ∀(pins:List (Addr×Obj)) (s:CW) (σ:St) (H:Hp) (D:Ends),Inv X pins σ H s->t D σ H->Dn (DG X.prog X.w) X.A (exec st X.env) (SP X pins D) X.xe s
def PSs (X:Cx)(st:List Stmt)(t:TS):Prop :=
 ∀(pins:List (Addr×Obj)) (s:CW) (σ:St) (H:Hp) (D:Ends),Inv X pins σ H s->t D σ H->Dn (DG X.prog X.w) X.A (execs st X.env) (SP X pins D) X.xe s
theorem thn {α:Type}{t:Sem α}{Q Q':α -> CW->Prop}{M:Model}{A:Ec}{E:CU->CW->Prop}{s:CW}(h:Dn M A t Q E s)(hQ:∀a s,Q a s->Q' a s):Dn M A t Q' E s:=FG h hQ λ_ _ x=>x
open PySem PySem.Spec PyProof.Rows
section
variable  {X:Cx}
theorem bin {a b:Expr}{ta tb:TE}(ha:PE X a ta)(hb:PE X b tb){pins:List (Addr×Obj)}{s:CW}{σ:St}{H:Hp}{R:V->V->Hp->Prop}(I:Inv X pins σ H s)(h:ta σ H λx H1=>tb σ H1 λy H2=>R x y H2)
  {α:Type} {Q:α -> CW->Prop} {f:CU->CU->Sem α}
  (hf:∀v u s2 x y H2,Inv X pins σ H2 s2->RelV x v->RelV y u->R x y H2->Dn (DG X.prog X.w) X.A (f v u) Q X.xe s2) :
  Dn (DG X.prog X.w) X.A (eval a X.env) (λv s₁=>Dn (DG X.prog X.w) X.A (eval b X.env) (λu s₂=>Dn (DG X.prog X.w) X.A (f v u) Q X.xe s₂) X.xe s₁) X.xe s:=by
 refine thn (ha pins s σ H _ I h) λv s1 ⟨x,H1,I1,r1,q1⟩ =>?_
 refine thn (hb pins s1 σ H1 _ I1 q1) λu s2 ⟨y,H2,I2,r2,q2⟩ =>?_
 exact hf v u s2 x y H2 I2 r1 r2 q2
def BP (i:Nat):TE:=λσ H Q=>∃v,σ[i]? = some (some v)/\Q v H
def tC (v:V):TE:=λ_ H Q=>Q v H
theorem AI {i:Nat}{x:Str}{pos:Pos}(hN:X.N[i]? = some x)(hv:Vis X.env.scope x)(hd:(x == ("__debug__" : Str))=false:=by decide)(hcd:(x == ("__classdict__" : Str))=false:=by decide):PE X (.Name x pos) (BP i):=by
 intro pins s σ H Q I h
 obtain ⟨v,e,h⟩:=h
 obtain ⟨m,hn,hl⟩:=I.loc
 obtain ⟨u,r,l⟩:=hl i x v hN e hv
 have fin:EP X pins σ Q u s:=⟨v,H,I,r,h⟩
 rcases l with ⟨hk,hm⟩ | ⟨hk,c,hc,hcell⟩
 ·exact L9 (wpAny_loadName_local I.ok.kind hk hn hm fin) hd
 ·rcases hk with hk | hk
  ·exact L9 (wpAny_loadName_cell I.ok.kind hk hc hcell fin) hd
  ·exact L9 (wpAny_loadName_free I.ok.kind hk hc hcell fin hcd) hd
theorem ai {i j pos}:PE X (.Constant (.int i) j pos) (tC (.int i)):=λ_ _ _ H _ I h=>wpAny_Constant_int ⟨.int i,H,I.tok _,⟨_,rfl⟩,h⟩
theorem gF {b j pos}:PE X (.Constant (.bool b) j pos) (tC (.bl b)):=λ_ _ _ H _ I h=>Constant_bool ⟨.bl b,H,I,rfl,h⟩
theorem i8 {j pos}:PE X (.Constant .none j pos) (tC .non):=λ_ _ _ H _ I h=>Constant_none ⟨.non,H,I,rfl,h⟩
theorem i9 {x j pos}:PE X (.Constant (.str x) j pos) (tC (.str x)):=λ_ _ _ H _ I h=>Calls.Constant_str ⟨.str x,H,I.tok _,⟨_,rfl⟩,h⟩
def Gl (X:Cx)(x:Str):Prop:=X.env.kindOf x=some .globalImplicit
theorem yO {E:CU->CW->Prop}{pins:List (Addr×Obj)}{s:CW}{σ:St}{H:Hp}{x:Str}{u:CU}{pos:Pos}{Q:CU->CW->Prop}(I:Inv X pins σ H s)(hg:Gl X x)(hm:X.mg x=some u)(h:Q u s)
  (hd:(x == ("__debug__" : Str))=false:=by decide):Dn (DG X.prog X.w) X.A (eval (.Name x pos) X.env) Q E s :=
 II I.ok.kind hg (Calls.loadGlobal_global (by rw[I.ok.glob];exact I.mod.glob.keeps I.bk) hm h) hd
theorem d8 {E:CU->CW->Prop}{pins:List (Addr×Obj)}{s:CW}{σ:St}{H:Hp}{x:Str}{u:CU}{pos:Pos}{Q:CU->CW->Prop}(I:Inv X pins σ H s)(hg:Gl X x)(hm:X.mg x=none)(hv:Ez x=some u)(h:Q u s)
  (hn:x ≠ "__name__" := by decide) (hd:(x == ("__debug__" : Str))=false:=by decide):Dn (DG X.prog X.w) X.A (eval (.Name x pos) X.env) Q E s:=by
 obtain ⟨mb,h1,h2⟩:=I.mod.blt
 exact II I.ok.kind hg (Calls.loadGlobal_builtin (by rw[I.ok.glob];exact I.mod.glob.keeps I.bk) hm (by rw[I.ok.blt];exact h1.keeps I.bk) ((h2 x hn).trans hv) h) hd
variable  {a b:Expr}{ta tb:TE}{pos:Pos}
def PC (X:Cx)(op:CmpOp)(a b:Expr)(t:TE):Prop :=
 ∀(pins:List (Addr×Obj)) (s:CW) (σ:St) (H:Hp) (Q:VK),Inv X pins σ H s->t σ H Q →
  Dn (DG X.prog X.w) X.A (eval a X.env) (λv s₁=>Dn (DG X.prog X.w) X.A (eval b X.env) (λu s₂=>Dn (DG X.prog X.w) X.A (E3 op v u) (EP X pins σ Q) X.xe s₂) X.xe s₁) X.xe s
theorem wF (b:Expr){op:CmpOp}(h:op ≠ .In)(h2:op ≠ .NotIn):behindInMarks op b=false:=by
 have e1:(op == CmpOp.In)=false:=by cases op <;> first | rfl | exact absurd rfl h
 have e2:(op == CmpOp.NotIn)=false:=by cases op <;> first | rfl | exact absurd rfl h2
 cases b <;> simp[behindInMarks,e1,e2]
def tB (t:TE):TT:=λσ H Q=>t σ H λx H1=>∃c,x = .bl c/\Q c H1
theorem ja {op:CmpOp}{t:TE}(h:PC X op a b t)(h1:behindInMarks op b=false:=by first | exact wF _ (by decide) (by decide) | rfl):PT X (.Compare a [op] [b] pos) (tB t):=by
 intro pins s σ H Q I hw
 refine Ka (thn (h pins s σ H _ I hw) λv s1 h1=>thn h1 λu s2 h2=>thn h2 λc s3 ⟨x,H1,I1,r1,q1⟩ =>?_) h1
 obtain ⟨d,rfl,q⟩:=q1
 cases r1
 exact E5 ⟨H1,I1,q⟩
theorem fI {e:Expr}{t:TE}(h:PE X e t)(he:∀whole,isTrue e X.env whole=(do let v ← whole;standAt e.pos;Jd [v] (truthy v)):=by intro _;rfl):PT X e (tB t):=by
  intro pins s σ H Q I hw
  refine isTrue_plain (thn (h pins s σ H _ I hw) λv s1 ⟨x,H1,I1,r1,q1⟩ =>?_) (he _)
  obtain ⟨d,rfl,q⟩:=q1
  cases r1
  exact E5 ⟨H1,I1,q⟩
variable  {tA tB':TT}{rest:List Expr}
def tAnd (t u:TT):TT:=λσ H Q=>t σ H λc H1=>if c=true then u σ H1 Q else Q false H1
def tOr (t u:TT):TT:=λσ H Q=>t σ H λc H1=>if c=true then Q true H1 else u σ H1 Q
def tNot (t:TT):TT:=λσ H Q=>t σ H λc H1=>Q (!c) H1
theorem jZ (ha:PT X a tA):PW X (.BoolOp .And [a] pos) tA:=by
 intro wh pins s σ H Q I h
 refine isTrue_and (thn (ha pins s σ H Q I h) λc s1 e =>?_)
 cases c with
 | true=>exact isTrue_and_nil e
 | false=>exact e
theorem jb (ha:PT X a tA):PW X (.BoolOp .Or [a] pos) tA:=by
 intro wh pins s σ H Q I h
 refine isTrue_or (thn (ha pins s σ H Q I h) λc s1 e =>?_)
 cases c with
 | false=>exact isTrue_or_nil e
 | true=>exact e
theorem nW (ha:PT X a tA)(hb:PW X (.BoolOp .And (b :: rest) pos) tB'):PW X (.BoolOp .And (a :: b :: rest) pos) (tAnd tA tB'):=by
 intro wh pins s σ H Q I h
 refine isTrue_and (thn (ha pins s σ H _ I h) λc s1 ⟨H1,I1,q1⟩ =>?_)
 cases c with
 | true=>exact hb wh pins s1 σ H1 Q I1 q1
 | false=>exact ⟨H1,I1,q1⟩
theorem my (ha:PT X a tA)(hb:PW X (.BoolOp .Or (b :: rest) pos) tB'):PW X (.BoolOp .Or (a :: b :: rest) pos) (tOr tA tB'):=by
 intro wh pins s σ H Q I h
 refine isTrue_or (thn (ha pins s σ H _ I h) λc s1 ⟨H1,I1,q1⟩ =>?_)
 cases c with
 | true=>exact ⟨H1,I1,q1⟩
 | false=>exact hb wh pins s1 σ H1 Q I1 q1
theorem kq (ha:PT X a tA):PT X (.UnaryOp .Not a pos) (tNot tA):=by
 intro pins s σ H Q I h
 exact isTrue_not (ha pins s σ H (λc H1=>Q (!c) H1) I h)
def BQ (ta tb:TE):TE:=λσ H Q=>ta σ H λx H1=>∃c,x = .bl c/\if c=true then tb σ H1 Q else Q (.bl false) H1
theorem wG {op}{t:TE}(h:PE X a t):PE X (.BoolOp op [a] pos) t:=λpins s σ H Q I hw=>BoolOp_one (h pins s σ H Q I hw)
theorem wH (ha:PE X a ta)(hb:PE X (.BoolOp .And (b :: rest) pos) tb):PE X (.BoolOp .And (a :: b :: rest) pos) (BQ ta tb):=by
 intro pins s σ H Q I h
 refine BoolOp_and (thn (ha pins s σ H _ I h) λv s1 ⟨x,H1,I1,r1,q1⟩ =>?_)
 obtain ⟨c,rfl,q1⟩:=q1
 cases r1
 refine E5 ?_
 cases c with
 | true=>exact hb pins s1 σ H1 Q I1 q1
 | false=>exact ⟨.bl false,H1,I1,rfl,q1⟩
end
open PySem PySem.Spec PyProof.Rows
def SqL (K:CZ)(H:Hp)(a:Addr)(xs:List V):Prop :=
 Rd H a (.lst xs) ∨
  ∃(o:Obj) (its:Array CU) (n:Nat),K.lookup a=some o/\o.cls = .type "list" /\ o.dict=none/\o.data = .seq its n/\its.size<=Dl/\Vals xs its.toList
def SqT (K:CZ)(H:Hp)(a:Addr)(xs:List V):Prop :=
 Rd H a (.tup xs) ∨
  ∃(o:Obj) (its:Array CU) (n:Nat),K.lookup a=some o/\o.cls = .type "tuple" /\ o.data = .seq its n/\its.size<=Dl/\Vals xs its.toList
def absV:CU->Option V
 | .none=>some .non
 | .bool b=>some (.bl b)
 | .int i _=>some (.int i)
 | .str x _=>some (.str x)
 | .bytes b _=>some (.byt b)
 | .float b _=>some (.flt b)
 | .ref a=>some (.ref a)
 | .type n=>some (.ty n)
 | _=>none
theorem RelV.abs {x:V}{u:CU}(r:RelV x u):absV u=some x:=by
 cases x with
 | non=>cases r;rfl
 | bl _=>cases r;rfl
 | int _=>obtain ⟨t,rfl⟩:=r;rfl
 | str _=>obtain ⟨t,rfl⟩:=r;rfl
 | byt _=>obtain ⟨t,rfl⟩:=r;rfl
 | flt _=>obtain ⟨t,rfl⟩:=r;rfl
 | ref _=>cases r;rfl
 | ty _=>cases r;rfl
theorem RelV.inj {x y:V}{u:CU}(r:RelV x u)(q:RelV y u):x=y:=DB (r.abs.symm.trans q.abs)
theorem Vals.inj:∀{xs ys:List V} {us:List CU},Vals xs us->Vals ys us->xs=ys
 | _,_,_,.nil,.nil=>rfl
 | _,_,_,.cons r t,.cons r' t'=>by rw[r.inj r',Vals.inj t t']
section
variable  {X:Cx}{pins:List (Addr×Obj)}{σ:St}{H:Hp}{s:CW}{a:Addr}{xs ys:List V}
theorem SqL.of {K:CZ}(h:H a=some (.lst xs)):SqL K H a xs :=.inl (.inl h)
theorem SqT.of {K:CZ}(h:H a=some (.tup xs)):SqT K H a xs :=.inl (.inl h)
theorem Inv.list (I:Inv X pins σ H s)(h:SqL X.K H a xs):∃its:List CU,Vals xs its/\PlainL s.heap a its.toArray/\xs.length<=Dl:=by
 rcases h with h | ⟨o,its,n,hk,hc,hd,hs,hz,r⟩
 ·obtain ⟨z,its,n,r,e⟩:=h.ok I.hok
  exact ⟨its,r,⟨_,n,e,rfl,rfl,rfl⟩,z⟩
 ·refine ⟨its.toList,r,⟨o,n,I.kIn a o hk,hc,hd,by simpa using hs⟩,?_⟩
  have e:=r.length
  simp only[C6] at e
  lia
theorem Inv.tuple (I:Inv X pins σ H s)(h:SqT X.K H a xs):∃its:List CU,Vals xs its/\IsTup s.heap a its.toArray/\xs.length<=Dl:=by
 rcases h with h | ⟨o,its,n,hk,hc,hs,hz,r⟩
 ·obtain ⟨z,its,r,p⟩:=h.ok I.hok
  exact ⟨its,r,p.tup,z⟩
 ·refine ⟨its.toList,r,⟨o,I.kIn a o hk,hc,n,by simpa using hs⟩,?_⟩
  have e:=r.length
  simp only[C6] at e
  lia
theorem Inv.kr (I:Inv X pins σ H s)(h:SqL X.K H a xs)(h':SqL X.K H a ys):xs=ys:=by
 obtain ⟨its,r,⟨o,n,e,_,_,d⟩,_⟩:=I.list h
 obtain ⟨its',r',⟨o',n',e',_,_,d'⟩,_⟩:=I.list h'
 rw[e] at e';cases e'
 rw[d] at d'
 injection d' with d1 _
 have:its=its':=by simpa using congrArg Array.toList d1
 subst this
 exact r.inj r'
theorem Inv.gn (I:Inv X pins σ H s)(h:SqT X.K H a xs)(h':SqT X.K H a ys):xs=ys:=by
 obtain ⟨its,r,⟨o,e,_,n,d⟩,_⟩:=I.tuple h
 obtain ⟨its',r',⟨o',e',_,n',d'⟩,_⟩:=I.tuple h'
 rw[e] at e';cases e'
 rw[d] at d'
 injection d' with d1 _
 have:its=its':=by simpa using congrArg Array.toList d1
 subst this
 exact r.inj r'
end
abbrev Cx.lT (X:Cx)(E:CU->CW->Prop):Cx:={ X with xe:=E }
abbrev Cx.nox (X:Cx):Cx:=X.lT λ_ _=>False
theorem Cx.Ok.lT {X:Cx}(ok:X.Ok)(E:CU->CW->Prop):(X.lT E).Ok :=
 ⟨ok.mod,ok.kind,ok.glob,ok.blt,ok.above,ok.inj,ok.has,ok.cab,ok.hd,ok.frames,ok.stk,ok.exf,ok.bs,ok.bsz,ok.noex,ok.exfs,ok.funs,ok.frf⟩
theorem Cx.Ok.fJ {X:Cx}{E:CU->CW->Prop}(ok:(X.lT E).Ok):X.Ok :=
 ⟨ok.mod,ok.kind,ok.glob,ok.blt,ok.above,ok.inj,ok.has,ok.cab,ok.hd,ok.frames,ok.stk,ok.exf,ok.bs,ok.bsz,ok.noex,ok.exfs,ok.funs,ok.frf⟩
section
variable  {X:Cx}{pins:List (Addr×Obj)}{σ:St}{H:Hp}{s:CW}{E:CU->CW->Prop}
theorem Inv.lT (I:Inv X pins σ H s)(E:CU->CW->Prop):Inv (X.lT E) pins σ H s:=⟨I.ok.lT E,I.os,I.bare,I.base,I.loc,I.cell,I.free,I.freeC,I.pin,I.hok,I.len⟩
theorem Inv.fJ (I:Inv (X.lT E) pins σ H s):Inv X pins σ H s:=⟨I.ok.fJ,I.os,I.bare,I.base,I.loc,I.cell,I.free,I.freeC,I.pin,I.hok,I.len⟩
theorem SP.fJ {D:Ends}{f:Flow}{s':CW}(h:SP (X.lT E) pins D f s'):SP X pins D f s':=by
 cases f with
 | next=>obtain ⟨σ',H',I,q⟩:=h;exact ⟨σ',H',I.fJ,q⟩
 | brk=>obtain ⟨σ',H',I,q⟩:=h;exact ⟨σ',H',I.fJ,q⟩
 | cont=>obtain ⟨σ',H',I,q⟩:=h;exact ⟨σ',H',I.fJ,q⟩
 | ret u=>obtain ⟨v,σ',H',I,r,q⟩:=h;exact ⟨v,σ',H',I.fJ,r,q⟩
theorem PSs.nox {st:List Stmt}{t:TS}(h:PSs X.nox st t):PSs X st t:=λpins s σ H D I hw =>
 FG (h pins s σ H D (I.lT _) hw) (λ_ _ q=>q.fJ) λ_ _ z=>False.elim z
end
section
variable  {X:Cx}{st:Stmt}{rest:List Stmt}{t u:TS}{e:Expr}{te:TE}{pos:Pos}
def BR:TS:=λD σ H=>D.nx σ H
def AJ (t u:TS):TS:=λD σ H=>t { D with nx:=u D } σ H
theorem aP:PSs X [] BR:=λ_ _ σ H _ I h=>IG ⟨σ,H,I,h⟩
theorem ah (h1:PS X st t)(h2:PSs X rest u):PSs X (st :: rest) (AJ t u):=by
 intro pins s σ H D I h
 refine wpAny_execs_cons (thn (h1 pins s σ H { D with nx:=u D } I h) λf s1 q =>?_)
 cases f with
 | next =>
  obtain ⟨σ',H',I',q⟩:=q
  exact h2 pins s1 σ' H' D I' q
 | ret v=>exact q
 | brk=>exact q
 | cont=>exact q
theorem ak (h1:PS X st t):PSs X [st] t:=by
 intro pins s σ H D I h
 refine wpAny_execs_cons (thn (h1 pins s σ H D I h) λf s1 q =>?_)
 cases f with
 | next=>exact IG q
 | ret v=>exact q
 | brk=>exact q
 | cont=>exact q
theorem Inv.quiet {pins:List (Addr×Obj)}{σ:St}{H:Hp}{s:CW}(I:Inv X pins σ H s):interactive X.env=false:=by simp[interactive,I.ok.kind]
def BS (te:TE):TS:=λD σ H=>te σ H λ_ H1=>D.nx σ H1
theorem cZ (he:PE X e te)(hs:swapsWith e none pos.line X.env=pure false:=by rfl):PS X (.Expr e pos) (BS te):=by
 intro pins s σ H D I h
 exact wpAny_Expr_any (thn (he pins s σ H _ I h) λv s1 ⟨x,H1,I1,r1,q1⟩=>⟨σ,H1,I1,q1⟩) I.quiet hs
def tRet (te:TE):TS:=λD σ H=>te σ H D.rt
theorem aH (he:PE X e te):PS X (.Return (some e) pos) (tRet te):=by
 intro pins s σ H D I h
 exact wpAny_Return_some (thn (he pins s σ H _ I h) λv s1 ⟨x,H1,I1,r1,q1⟩=>⟨x,σ,H1,I1,r1,q1⟩)
def tIfS (c:TT)(t u:TS):TS:=λD σ H=>c σ H λb H1=>if b=true then t D σ H1 else u D σ H1
theorem bJ {c:Expr}{a b:List Stmt}{tc:TT}(hc:PT X c tc)(ha:PSs X a t)(hb:PSs X b u):PS X (.If c a b pos) (tIfS tc t u):=by
 intro pins s σ H D I h
 refine wpAny_If (thn (hc pins s σ H _ I h) λd s1 ⟨H1,I1,q1⟩ =>?_)
 cases d with
 | true=>exact ha pins s1 σ H1 D I1 q1
 | false=>exact hb pins s1 σ H1 D I1 q1
def AK:TS:=λ_ _ _=>False
theorem dk {sts:List Stmt}:PSs X sts AK:=λ_ _ _ _ _ _ h=>h.elim
end
abbrev TG:=V->St->Hp->(St->Hp->Prop)->Prop
abbrev TGs:=List V->St->Hp->(St->Hp->Prop)->Prop
def PG (X:Cx)(target:Expr)(t:TG):Prop :=
 ∀(pins:List (Addr×Obj)) (s:CW) (σ:St) (H:Hp) (v:V) (u:CU) (Q:St->Hp->Prop),Inv X pins σ H s->RelV v u->t v σ H Q →
  Dn (DG X.prog X.w) X.A (assign target X.env u) (λ_ s'=>∃σ' H',Inv X pins σ' H' s'/\Q σ' H') X.xe s
def PGs (X:Cx)(ts:List Expr)(t:TGs):Prop :=
 ∀(pins:List (Addr×Obj)) (s:CW) (σ:St) (H:Hp) (vs:List V) (us:List CU) (Q:St->Hp->Prop),Inv X pins σ H s->Vals vs us->t vs σ H Q →
  Dn (DG X.prog X.w) X.A (assignInOrder ((assignEach ts X.env).map (·.2)) us) (λ_ s'=>∃σ' H',Inv X pins σ' H' s'/\Q σ' H') X.xe s
abbrev AL:=V->V->V->Hp->(Hp->Prop)->Prop
def BU (X:Cx)(t:AL):Prop :=
 ∀(pins:List (Addr×Obj)) (s:CW) (σ:St) (H:Hp) (o i v:V) (ov iv u:CU) (Q:Hp->Prop),Inv X pins σ H s->RelV o ov->RelV i iv->RelV v u->t o i v H Q →
  Dn (DG X.prog X.w) X.A (setItem ov iv u) (λ_ s'=>∃H',Inv X pins σ H' s'/\Q H') X.xe s
abbrev TIp:=V->V->Hp->VK->Prop
def PIp (X:Cx)(op:Operator)(t:TIp):Prop :=
 ∀(pins:List (Addr×Obj)) (s:CW) (σ:St) (H:Hp) (x y:V) (v u:CU) (Q:VK),Inv X pins σ H s->RelV x v->RelV y u->t x y H Q →
  Dn (DG X.prog X.w) X.A (inplaceOp op v u) (EP X pins σ Q) X.xe s
section
variable  {X:Cx}{pos:Pos}
def gG (i:Nat):TG:=λv σ H Q=>Q (σ.set i (some v)) H
theorem au {i:Nat}{x:Str}(hN:X.N.Nodup)(hi:X.N[i]? = some x)(hx:Loc X.env.scope x)(hf:X.fn x=true\/X.env.scope.names.lookup x=some .local:=by first | exact .inl rfl | exact .inr rfl | assumption):PG X (.Name x pos) (gG i):=by
 intro pins s σ H v u Q I r h
 exact wpAny_assign_Name (pH I hN hi hx r (λs' I'=>⟨_,H,I',h⟩) hf)
def BV:TGs:=λvs σ H Q=>vs=[]/\Q σ H
def wI (t:TG)(u:TGs):TGs:=λvs σ H Q=>∃v r,vs=v :: r/\t v σ H λσ' H'=>u r σ' H' Q
theorem cB:PGs X [] BV:=by
 intro pins s σ H vs us Q I r h
 obtain ⟨e,h⟩:=h
 subst e
 cases r
 exact assignInOrder_nil ⟨σ,H,I,h⟩
theorem aR {e:Expr}{es:List Expr}{t:TG}{u:TGs}(h1:PG X e t)(h2:PGs X es u)
  (hs:(assignEach (e :: es) X.env).map (·.2)=assign e X.env :: (assignEach es X.env).map (·.2):=by rfl):PGs X (e :: es) (wI t u):=by
 intro pins s σ H vs us Q I r h
 obtain ⟨v,vr,e1,h⟩:=h
 subst e1
 cases r with
 | cons r rr =>
  rw[hs]
  refine assignInOrder_cons (thn (h1 pins s σ H _ _ _ I r h) λ_ s1 ⟨σ1,H1,I1,q1⟩ =>?_)
  exact h2 pins s1 σ1 H1 _ _ Q I1 rr q1
def BW (K:CZ)(n:Nat)(t:TGs):TG:=λv σ H Q=>∃a xs,v = .ref a/\SqT K H a xs/\xs.length=n/\t xs σ H Q
theorem dB {es:List Expr}{k:Nat}{t:TGs}{n:Nat}(hc:X.calm=true)(h:PGs X es t)
  (hn:(assignEach es X.env).length=n:=by rfl) (hst:(assignEach es X.env).findIdx? (·.1)=none:=by rfl):PG X (.Tuple es k pos) (BW X.K n t):=by
 intro pins s σ H v u Q I r hw
 obtain ⟨a,xs,e1,hq,hl,hw⟩:=hw
 subst e1
 cases r
 obtain ⟨its,rv,ht,hz⟩:=I.tuple hq
 refine assign_Tuple_tuple (I.ok.hd hc) ht (by simp[hn, <- hl,rv.length]) hst λh' hx =>?_
 have I1:Inv X pins σ H { s with heap:=h' }:=I.kept (t':=s.toks) λb o e=>hx b o (Dk (Dc e)) e
 exact h pins _ σ H xs _ Q I1 (by simpa using rv) hw
def AM (te:TE)(g:TG):TS:=λD σ H=>te σ H λx H1=>g x σ H1 D.nx
theorem eX {tg e:Expr}{te:TE}{g:TG}(he:PE X e te)(hg:PG X tg g)(hs:swapsWithSole [tg] e pos.line X.env=pure false:=by rfl)(hw:swappedStores [tg] e X.env=pure none:=by rfl)
  (h1:(assignEach [tg] X.env).map (·.2)=[assign tg X.env]:=by rfl):PS X (.Assign [tg] e pos) (AM te g):=by
 intro pins s σ H D I h
 refine wpAny_Assign_stores (thn (he pins s σ H _ I h) λv s1 ⟨x,H1,I1,r1,q1⟩ =>?_) hs hw
 rw[h1]
 exact thn (hg pins s1 σ H1 x v _ I1 r1 q1) λ_ s2 q=>q
theorem aK {i:Nat}{x:Str}{e:Expr}{te:TE}{pos':Pos}(hN:X.N.Nodup)(hi:X.N[i]? = some x)(hx:Loc X.env.scope x)(he:PE X e te)(hs:swapsWith e (some (.Name x pos')) pos.line X.env=pure false:=by rfl)(hf:X.fn x=true\/X.env.scope.names.lookup x=some .local:=by first | exact .inl rfl | exact .inr rfl | assumption) :
  PS X (.Assign [.Name x pos'] e pos) (AM te (gG i)):=by
 intro pins s σ H D I h
 refine wpAny_Assign_Name (thn (he pins s σ H _ I h) λv s1 ⟨y,H1,I1,r1,q1⟩ =>?_) hs
 exact pH I1 hN hi hx r1 (λs2 I2=>⟨_,H1,I2,q1⟩) hf
def BX (to ti te:TE)(tget:V->V->Hp->VK->Prop)(tip:TIp)(tset:AL):TS:=λD σ H=>to σ H λo H1=>ti σ H1 λi H2=>tget o i H2 λx H3=>te σ H3 λy H4=>tip x y H4 λz H5=>tset o i z H5 λH6=>D.nx σ H6
def BY (X:Cx)(t:V->V->Hp->VK->Prop):Prop :=
 ∀(pins:List (Addr×Obj)) (s:CW) (σ:St) (H:Hp) (o i:V) (ov iv:CU) (Q:VK),Inv X pins σ H s->RelV o ov->RelV i iv->t o i H Q →
  Dn (DG X.prog X.w) X.A (getItem ov iv) (EP X pins σ Q) X.xe s
theorem yP {o i e:Expr}{to ti te:TE}{tget:V->V->Hp->VK->Prop}{tip:TIp}{tset:AL}{op:Operator}{tpos:Pos}(ho:PE X o to)(hi:PE X i ti)(hg:BY X tget)(he:PE X e te)(hp:PIp X op tip)(hs:BU X tset)
    (ha:∀ov iv new,augStore i ov iv new=(do Jd [new,ov,iv] (setItem ov iv new);release [new,ov,iv] [];pure .next):=by intros;rfl):PS X (.AugAssign (.Subscript o i tpos) op e pos) (BX to ti te tget tip tset):=by
  intro pins s σ H D I h
  refine wpAny_AugAssign_SubscriptAny (thn (ho pins s σ H _ I h) λov s1 ⟨x1,H1,I1,r1,q1⟩ =>?_) ha
  refine thn (hi pins s1 σ H1 _ I1 q1) λiv s2 ⟨x2,H2,I2,r2,q2⟩ =>?_
  refine thn (hg pins s2 σ H2 x1 x2 ov iv _ I2 r1 r2 q2) λold s3 ⟨x3,H3,I3,r3,q3⟩ =>?_
  refine thn (he pins s3 σ H3 _ I3 q3) λv s4 ⟨x4,H4,I4,r4,q4⟩ =>?_
  refine thn (hp pins s4 σ H4 x3 x4 old v _ I4 r3 r4 q4) λnew s5 ⟨x5,H5,I5,r5,q5⟩ =>?_
  exact thn (hs pins s5 σ H5 x1 x2 x5 ov iv new _ I5 r1 r2 r5 q5) λ_ s6 ⟨H6,I6,q6⟩=>⟨σ,H6,I6,q6⟩
def ipI (f:Int->Int->Int):TIp:=λx y H Q=>∃i j,x = .int i/\y = .int j/\Q (.int (f i j)) H
theorem AN:PIp X .Sub (ipI λi j=>i-j):=by
 intro pins s σ H x y v u Q I r1 r2 h
 obtain ⟨i,j,e1,e2,q⟩:=h
 subst e1;subst e2
 obtain ⟨t,rfl⟩:=r1
 obtain ⟨t',rfl⟩:=r2
 exact isub_int ⟨.int _,H,I.tok _,⟨_,rfl⟩,q⟩
end
section
variable  {X:Cx}{pos:Pos}
def wJ (c:TT)(tb:TS):TS:=λD σ H=>∃W:Nat->St->Hp->Prop,(∃m,W m σ H)/\∀m σ H,W m σ H →
 c σ H λb H1=>if b=true then ∃N:St->Hp->Prop,(∀σ' H',N σ' H'->∃m',m'<m/\W m' σ' H')/\tb { D with nx:=N,ct:=N,bk:=D.nx } σ H1 else D.nx σ H1
theorem ir {c:Expr}{body:List Stmt}{tc:TT}{tb:TS}(hp:PassesOwn (DG X.prog X.w) X.A X.env X.xe)(hc:PT X c tc)(hb:PSs X body tb):PS X (.While c body [] pos) (wJ tc tb):=by
 intro pins s σ H D I h
 obtain ⟨W,⟨m0,w0⟩,turn⟩:=h
 refine wpAny_While (codeAny_whileLoop (λn s'=>∃σ' H',Inv X pins σ' H' s'/\W n σ' H') ?_ m0 ⟨σ,H,I,w0⟩)
 rintro n s1 ⟨σ1,H1,I1,w1⟩
 refine GA hp (thn (hc pins s1 σ1 H1 _ I1 (turn n σ1 H1 w1)) λb s2 ⟨H2,I2,q2⟩ =>?_)
 cases b with
 | true =>
  obtain ⟨N,hN,q2⟩:=q2
  rw[if_pos rfl]
  refine GA hp (thn (hb pins s2 σ1 H2 _ I2 q2) λf s3 q3 =>?_)
  cases f with
  | next =>
   obtain ⟨σ3,H3,I3,n3⟩:=q3
   obtain ⟨m',hm,w3⟩:=hN σ3 H3 n3
   exact ⟨m',hm,σ3,H3,I3,w3⟩
  | cont =>
   obtain ⟨σ3,H3,I3,n3⟩:=q3
   obtain ⟨m',hm,w3⟩:=hN σ3 H3 n3
   exact ⟨m',hm,σ3,H3,I3,w3⟩
  | brk=>exact q3
  | ret v=>exact q3
 | false =>
  rw[if_neg Di]
  exact IG ⟨σ1,H2,I2,q2⟩
end
structure It where
 go:Nat->Hp->Prop
 yld:Nat->Hp->V->Hp->Prop
 stop:Nat->Hp->Prop
def jf (X:Cx)(pins:List (Addr×Obj))(H:Hp)(b:Addr):Prop :=
 H b=none/\b≠X.env.locals/\b∉X.fs/\(b∈X.ex\/X.s₀.heap.objs.size<=b)/\(∀x c,X.env.cells.lookup x=some c->c≠b)/\∀p∈X.pn++pins,p.1≠b
theorem Inv.wK {X:Cx}{pins:List (Addr×Obj)}{σ:St}{H H':Hp}{s:CW}{b:Addr}(I:Inv X pins σ H s)(hb:s.heap.objs.size<=b)(hn:H' b=none):jf X pins H' b:=by
 refine ⟨hn,FK (Dw I.lt hb),I.AH hb,.inr (DZ I.sz hb),λx c e z =>?_,λp hp z =>?_⟩
 ·obtain ⟨v,q⟩:=I.cell x c e
  exact absurd (Dw q.lt (by rw[z];exact hb)) (D9 _)
 ·exact absurd (Dw (Dc (I.pin p hp).1) (by rw[z];exact hb)) (D9 _)
structure Turn (P:Dp)(w:DW)(K:CZ)(tg:Expr)(J:It)(fp:List Addr)(it:Addr)(tn:Nat->Heap->Prop):Prop where
 mem:it∈fp
 obj:∀i h,tn i h->∀b∈fp,∃o,h.get? b=some o/\∀v,o.data ≠ .cell v
 keep:∀i h h',tn i h->(∀b∈fp,∀o,h.get? b=some o->h'.get? b=some o)->tn i h'
 item:∀(X:Cx),X.prog=P->X.w=w->X.K=K->X.calm=true->∀(i:Nat) (pins:List (Addr×Obj)) (s:CW) (σ:St) (H:Hp) (E:CU->CW->Prop),Inv X pins σ H s->(∀b∈fp,jf X pins H b)->tn i s.heap->J.go i H →
  Dn (DG P w) X.A (pyNext (.ref it)) (λr s1=>∃u,r=some u ∧
   Dn (DG P w) X.A (letOwnedTupleGo tg (.ref it) u) (λ_ s2=>∃x H',Inv X pins σ H' s2/\RelV x u/\J.yld i H x H'/\tn (i+1) s2.heap/\∀b∈fp,H' b=none) E s1) E s
 done:∀(X:Cx),X.prog=P->X.w=w->X.K=K->X.calm=true->∀(i:Nat) (pins:List (Addr×Obj)) (s:CW) (σ:St) (H:Hp) (E:CU->CW->Prop),Inv X pins σ H s->(∀b∈fp,jf X pins H b)->tn i s.heap->J.stop i H →
  Dn (DG P w) X.A (pyNext (.ref it)) (λr s1=>r=none/\Inv X pins σ H s1) E s
 self:∀(A:Ec) (i:Nat) (s:CW) (Q:CU->CW->Prop) (E:CU->CW->Prop),tn i s.heap->Q (.ref it) s->Dn (DG P w) A (pyIter (.ref it)) Q E s
abbrev TI:=St->Hp->(It->Hp->Prop)->Prop
def PIE (X:Cx)(pins:List (Addr×Obj))(σ:St)(tg:Expr)(R:It->Hp->Prop)(itv:CU)(s2:CW):Prop :=
 ∃(it:Addr) (fp:List Addr) (tn:Nat->Heap->Prop) (J:It) (H':Hp),itv = .ref it/\Inv X pins σ H' s2/\Turn X.prog X.w X.K tg J fp it tn/\tn 0 s2.heap/\(∀b∈fp,jf X pins H' b)/\R J H'
def PI (X:Cx)(tg iter:Expr)(wi:TI):Prop :=
 ∀(pins:List (Addr×Obj)) (s:CW) (σ:St) (H:Hp) (R:It->Hp->Prop),Inv X pins σ H s->wi σ H R →
  Dn (DG X.prog X.w) X.A (eval iter X.env) (λv s1=>Dn (DG X.prog X.w) X.A (pyIter v) (PIE X pins σ tg R) X.xe s1) X.xe s
theorem wL {M:Model}{A:Ec}{E:CU->CW->Prop}{s:CW}{tg:Expr}{it:Addr}{u:CU}{o:Obj}{n:String}{vs:Array CU}{Q:Unit->CW->Prop}(ho:s.heap.get? it=some o)(hc:o.cls = .type n)(hd:o.data = .fields vs)
    (hn:["enumerate", "zip", "dict_itemiterator", "dict_reverseitemiterator", "odict_iterator", "itertools.zip_longest", "itertools.pairwise"].contains n=false) (hQ:Q () s):Dn M A (letOwnedTupleGo tg (.ref it) u) Q E s:=by
  unfold letOwnedTupleGo
  cases tg <;> first
    | exact CT hQ
    | (cases u <;> first
        | exact CT hQ
        | (refine CP (Jp ho ?_)
           rw[hc,hd]
           show Dn M A (if (["enumerate", "zip", "dict_itemiterator", "dict_reverseitemiterator", "odict_iterator", "itertools.zip_longest", "itertools.pairwise"].contains n && vs[0]? == some (GD _))=true then _ else _) Q E s
           rw[if_neg (by intro h;rw[hn,Hm] at h;cases h)]
           exact CT hQ))
def Itl (K:CZ)(a:Addr):It :=
 ⟨λi H=>∃xs x,SqL K H a xs/\xs[i]? = some x,λi H x H'=>H'=H/\∀xs,SqL K H a xs->xs[i]? = some x,λi H=>∃xs,SqL K H a xs/\xs.length<=i⟩
def Itt (K:CZ)(a:Addr):It :=
 ⟨λi H=>∃xs x,SqT K H a xs/\xs[i]? = some x,λi H x H'=>H'=H/\∀xs,SqT K H a xs->xs[i]? = some x,λi H=>∃xs,SqT K H a xs/\xs.length<=i⟩
def Itr (lo:Int)(n:Nat):It:=⟨λi _=>i<n,λi H x H'=>H'=H/\x = .int (lo+i),λi _=>n<=i⟩
theorem u9 {P:Dp}{w:DW}{K:CZ}{tg:Expr}(a it:Addr):Turn P w K tg (Itl K a) [it] it (λi h=>h.IsListIter it a i) where
 mem:=by simp
 obj:=λi h st b hb=>by
  have e:b=it:=by simpa using hb
  subst e
  obtain ⟨o,e,c,d⟩:=st
  exact ⟨o,e,λv z=>by rw[d] at z;cases z⟩
 keep:=λi h h' st k=>st.at λo e=>k it (by simp) o e
 item:=by
  intro X hP hw hK hc i pins s σ H E I hf st hg
  subst hP hw hK
  obtain ⟨xs,x,hq,hx⟩:=hg
  obtain ⟨its,rv,p,hz⟩:=I.list hq
  obtain ⟨u,hu,ru⟩:=rv.get hx
  obtain ⟨f0,f1,f2,f3,f4,f5⟩:=hf it (by simp)
  refine wpAny_pyNext_list_item st p.isList (x:=u) (by simpa using hu) λh' st' sb =>?_
  have I1:Inv X pins σ H { s with heap:=h' }:=I.turned (t':=s.toks) (λb o hb e=>(sb.2 b hb).trans e) f0 f1 f3 f4 f5
  obtain ⟨o,e,c,d⟩:=id st'
  exact ⟨u,rfl,wL (s:={ s with heap:=h' }) e c d (by decide) ⟨x,H,I1,ru,⟨rfl,λys hy=>by rw[I.kr hy hq];exact hx⟩,st',λb hb=>(hf b hb).1⟩⟩
 done:=by
  intro X hP hw hK hc i pins s σ H E I hf st hg
  subst hP hw hK
  obtain ⟨xs,hq,hx⟩:=hg
  obtain ⟨its,rv,p,hz⟩:=I.list hq
  obtain ⟨f0,f1,f2,f3,f4,f5⟩:=hf it (by simp)
  have hl:=rv.length
  exact wpAny_pyNext_list_end (I.ok.hd hc) st p.isList (by simp;lia) λh' eb=>⟨rfl,I.turned (t':=s.toks) (λb o hb e=>eb b o hb e) f0 f1 f3 f4 f5⟩
 self:=λ_ _ _ _ _ st h=>wpAny_pyIter_listiter st h
theorem rE {P:Dp}{w:DW}{K:CZ}{tg:Expr}(a it:Addr):Turn P w K tg (Itt K a) [it] it (λi h=>h.IsTupleIter it a i) where
 mem:=by simp
 obj:=λi h st b hb=>by
  have e:b=it:=by simpa using hb
  subst e
  obtain ⟨o,e,c,d⟩:=st
  exact ⟨o,e,λv z=>by rw[d] at z;cases z⟩
 keep:=λi h h' st k=>st.at λo e=>k it (by simp) o e
 item:=by
  intro X hP hw hK hc i pins s σ H E I hf st hg
  subst hP hw hK
  obtain ⟨xs,x,hq,hx⟩:=hg
  obtain ⟨its,rv,p,hz⟩:=I.tuple hq
  obtain ⟨u,hu,ru⟩:=rv.get hx
  obtain ⟨f0,f1,f2,f3,f4,f5⟩:=hf it (by simp)
  refine wpAny_pyNext_tuple_item st (show s.heap.IsTuple a its.toArray from p) (x:=u) (by simpa using hu) λh' st' sb =>?_
  have I1:Inv X pins σ H { s with heap:=h' }:=I.turned (t':=s.toks) (λb o hb e=>(sb.2 b hb).trans e) f0 f1 f3 f4 f5
  obtain ⟨o,e,c,d⟩:=id st'
  exact ⟨u,rfl,wL (s:={ s with heap:=h' }) e c d (by decide) ⟨x,H,I1,ru,⟨rfl,λys hy=>by rw[I.gn hy hq];exact hx⟩,st',λb hb=>(hf b hb).1⟩⟩
 done:=by
  intro X hP hw hK hc i pins s σ H E I hf st hg
  subst hP hw hK
  obtain ⟨xs,hq,hx⟩:=hg
  obtain ⟨its,rv,p,hz⟩:=I.tuple hq
  obtain ⟨f0,f1,f2,f3,f4,f5⟩:=hf it (by simp)
  have hl:=rv.length
  exact wpAny_pyNext_tuple_end (I.ok.hd hc) st (show s.heap.IsTuple a its.toArray from p) (by simp;lia) λh' eb=>⟨rfl,I.turned (t':=s.toks) (λb o hb e=>eb b o hb e) f0 f1 f3 f4 f5⟩
 self:=λ_ _ _ _ _ st h=>wpAny_pyIter_tupleiter st h
theorem rF {P:Dp}{w:DW}{K:CZ}{tg:Expr}(it:Addr)(lo:Int)(n:Nat):Turn P w K tg (Itr lo n) [it] it (λi h=>IsRangeIter h it (lo+(i:Nat)*1) ((n:Int)-(i:Nat)) 1) where
 mem:=by simp
 obj:=λi h st b hb=>by
  have e:b=it:=by simpa using hb
  subst e
  exact ⟨_,st,λv z=>by
   have z':Data.fields _=Data.cell v:=z
   cases z'⟩
 keep:=λi h h' st k=>k it (by simp) _ st
 item:=by
  intro X hP hw hK hc i pins s σ H E I hf st hg
  subst hP hw hK
  obtain ⟨f0,f1,f2,f3,f4,f5⟩:=hf it (by simp)
  have W:=Walks.range (prog:=X.prog) (w:=X.w) (I.ok.hd hc) it lo 1 n
  refine W.item i s _ _ hg st λv h' tk hv st' kk =>?_
  obtain ⟨t,rfl⟩:=hv
  have I1:Inv X pins σ H { s with heap:=h',toks:=tk }:=I.turned (λb o hb e=>kk b o (by simpa using hb) e) f0 f1 f3 f4 f5
  refine ⟨_,rfl,wL (s:={ s with heap:=h',toks:=tk }) (n := "range_iterator") st' rfl rfl (by decide) ⟨.int (lo+i),H,I1,⟨t,?_⟩,⟨rfl,rfl⟩,st',λb hb=>(hf b hb).1⟩⟩
  rw[Int.mul_one]
 done:=by
  intro X hP hw hK hc i pins s σ H E I hf st hg
  subst hP hw hK
  obtain ⟨f0,f1,f2,f3,f4,f5⟩:=hf it (by simp)
  exact wpAny_pyNext_range_end (I.ok.hd hc) st (by have:n<=i:=hg;lia) λh' eb=>⟨rfl,I.turned (t':=s.toks) (λb o hb e=>eb b o hb e) f0 f1 f3 f4 f5⟩
 self:=λ_ _ _ _ _ st h=>wpAny_pyIter_rangeiter st h
open PySem PySem.Spec PyProof.Rows
section
variable  {X:Cx}{tg:Expr}
def BZ (K:CZ)(tl:TE):TI:=λσ H R=>tl σ H λx H1=>∃a,x = .ref a/\(∃xs,SqL K H1 a xs)/\R (Itl K a) H1
def iTup (K:CZ)(tl:TE):TI:=λσ H R=>tl σ H λx H1=>∃a,x = .ref a/\(∃xs,SqT K H1 a xs)/\R (Itt K a) H1
theorem bI {l:Expr}{tl:TE}(hl:PE X l tl):PI X tg l (BZ X.K tl):=by
 intro pins s σ H R I h
 refine thn (hl pins s σ H _ I h) λv s1 ⟨x,H1,I1,r1,q1⟩ =>?_
 obtain ⟨a,e,⟨xs,hq⟩,q⟩:=q1
 subst e
 cases r1
 obtain ⟨its,rv,p,hz⟩:=I1.list hq
 refine GB p.isList ?_
 refine ⟨s1.heap.objs.size,[s1.heap.objs.size],_,_,H1,rfl,I1.kept (t':=s1.toks) λb o e=>CQ _ e,u9 a _,⟨_,C3 _ rfl,rfl,rfl⟩,λb hb =>?_,q⟩
 have e:b=s1.heap.objs.size:=by simpa using hb
 subst e
 exact I1.wK (C0 _) (I1.hok.fresh (C0 _))
theorem eY {l:Expr}{tl:TE}(hl:PE X l tl):PI X tg l (iTup X.K tl):=by
 intro pins s σ H R I h
 refine thn (hl pins s σ H _ I h) λv s1 ⟨x,H1,I1,r1,q1⟩ =>?_
 obtain ⟨a,e,⟨xs,hq⟩,q⟩:=q1
 subst e
 cases r1
 obtain ⟨its,rv,p,hz⟩:=I1.tuple hq
 refine Fu (show s1.heap.IsTuple a its.toArray from p) ?_
 refine ⟨s1.heap.objs.size,[s1.heap.objs.size],_,_,H1,rfl,I1.kept (t':=s1.toks) λb o e=>CQ _ e,rE a _,⟨_,C3 _ rfl,rfl,rfl⟩,λb hb =>?_,q⟩
 have e:b=s1.heap.objs.size:=by simpa using hb
 subst e
 exact I1.wK (C0 _) (I1.hok.fresh (C0 _))
theorem pI {pins:List (Addr×Obj)}{σ:St}{H:Hp}{s:CW}{R:It->Hp->Prop}{E:CU->CW->Prop}{lo hi:Int}{t u v:Tok}{tk:Nat}(I:Inv X pins σ H s)(h1 : -(2 ^ 62)<=lo)(h2:lo<2 ^ 62)(h3 : -(2 ^ 62)<=hi)(h4:hi<2 ^ 62)
  (q:R (Itr lo (hi-lo).toNat) H):Dn (DG X.prog X.w) X.A (pyIter (.ref s.heap.objs.size)) (PIE X pins σ tg R) E { s with heap:=s.heap.push { cls :=.type "range",data :=.fields #[.int lo t,.int hi u,.int 1 v] },toks:=tk }:=by
 refine wpAny_pyIter_range (IsRange.new ..) (small_one h1 h2 h3 h4) ?_
 have I1:Inv X pins σ H { s with heap:=s.heap.push { cls :=.type "range",data :=.fields #[.int lo t,.int hi u,.int 1 v] },toks:=tk }:=I.kept λb o e=>CQ _ e
 refine ⟨(s.heap.push { cls :=.type "range",data :=.fields #[.int lo t,.int hi u,.int 1 v] }).objs.size,[(s.heap.push { cls :=.type "range",data :=.fields #[.int lo t,.int hi u,.int 1 v] }).objs.size],_,_,H,rfl,
  I1.kept (t':=tk) λb o e=>CQ _ e,rF _ lo (hi-lo).toNat,?_,λb hb =>?_,q⟩
 ·have e1:lo+((0:Nat):Int)*1=lo:=by simp
  have e2:(((hi-lo).toNat:Nat):Int)-((0:Nat):Int)=Builtin.Range.rangeSize lo hi 1:=by rw[rangeSize_one];split <;> lia
  show IsRangeIter _ _ (lo+((0:Nat):Int)*1) ((((hi-lo).toNat:Nat):Int)-((0:Nat):Int)) 1
  rw[e1,e2]
  exact C3 _ rfl
 ·have e:b=(s.heap.push { cls :=.type "range",data :=.fields #[.int lo t,.int hi u,.int 1 v] }).objs.size:=by simpa using hb
  subst e
  exact I1.wK (C0 _) (I1.hok.fresh (C0 _))
def B0 (ta:TA):TI:=λσ H R=>ta σ H λvs H1=>∃j:Int,vs=[.int j] /\ -(2 ^ 62)<=j/\j<2 ^ 62/\R (Itr 0 j.toNat) H1
def B1 (ta:TA):TI:=λσ H R=>ta σ H λvs H1=>∃i j:Int,vs=[.int i,.int j]/\(-(2 ^ 62)<=i/\i<2 ^ 62 /\ -(2 ^ 62)<=j/\j<2 ^ 62)/\R (Itr i (j-i).toNat) H1
theorem bK {a:Expr}{ta:TA}{p pos:Pos}(hg:Gl X "range")(hm:X.mg "range" = none)(ha:PA X [a] ta)(hs:En [a] X.env=[(false,eval a X.env)]:=by rfl):PI X tg (.Call (.Name "range" p) [a] [] pos) (B0 ta):=by
 intro pins s σ H R I h
 refine Call_ (d8 I hg hm boot_range (EH (thn (ha pos pins s σ H _ I h) λus s1 ⟨vs,H1,I1,r1,q1⟩ =>?_) hs rfl))
 obtain ⟨j,e,q1,q2,q⟩:=q1
 subst e
 cases r1 with
 | cons r rr =>
  cases rr
  obtain ⟨t,rfl⟩:=r
  exact call_range_1 (pI I1 (by lia) (by lia) q1 q2 (by simpa using q))
theorem va {a b:Expr}{ta:TA}{p pos:Pos}(hg:Gl X "range")(hm:X.mg "range" = none)(ha:PA X [a,b] ta)(hs:En [a,b] X.env=[(false,eval a X.env),(false,eval b X.env)]:=by rfl)(hs2:En [b] X.env=[(false,eval b X.env)]:=by rfl) :
  PI X tg (.Call (.Name "range" p) [a,b] [] pos) (B1 ta):=by
 intro pins s σ H R I h
 refine Call_ (d8 I hg hm boot_range (EH (thn (ha pos pins s σ H _ I h) λus s1 ⟨vs,H1,I1,r1,q1⟩ =>?_) (by rw[hs,hs2]) (by rw[hs2];rfl)))
 obtain ⟨i,j,e,⟨q1,q2,q3,q4⟩,q⟩:=q1
 subst e
 cases r1 with
 | cons r rr =>
  cases rr with
  | cons r' rr =>
   cases rr
   obtain ⟨t,rfl⟩:=r
   obtain ⟨t',rfl⟩:=r'
   exact call_range_2 (pI I1 q1 q2 q3 q4 q)
def tFor (wi:TI)(g:TG)(tb:TS):TS:=λD σ H=>wi σ H λJ H1=>∃W:Nat->Nat->St->Hp->Prop,(∃m,W 0 m σ H1)/\∀i m σ H,W i m σ H →
 (J.stop i H/\D.nx σ H)\/(J.go i H/\∃N:St->Hp->Prop,(∀σ' H',N σ' H'->∃m',m'<m/\W (i+1) m' σ' H')/\∀x H',J.yld i H x H'->g x σ H' λσ2 H2=>tb { D with nx:=N,ct:=N,bk:=D.nx } σ2 H2)
def gL (fp:List Addr)(h:Heap):List (Addr×Obj):=fp.filterMap λb=>(h.get? b).map λo=>(b,o)
theorem dC {fp:List Addr}{h:Heap}{b:Addr}{o:Obj}(hb:b∈fp)(e:h.get? b=some o):(b,o)∈gL fp h:=HF.mpr ⟨b,hb,by rw[e];rfl⟩
theorem mz {fp:List Addr}{h:Heap}{p:Addr×Obj}(hp:p∈gL fp h):p.1∈fp/\h.get? p.1=some p.2:=by
 obtain ⟨b,hb,e⟩:=HF.mp hp
 cases q:h.get? b with
 | none=>rw[q] at e;cases e
 | some o =>
  rw[q] at e
  have e':(b,o)=p:=DB e
  subst e'
  exact ⟨hb,q⟩
theorem Inv.pinned {pins:List (Addr×Obj)}{σ:St}{H:Hp}{s:CW}{fp:List Addr}(I:Inv X pins σ H s)(hf:∀b∈fp,jf X pins H b)(ho:∀b∈fp,∃o,s.heap.get? b=some o/\∀v,o.data ≠ .cell v):Inv X (pins++gL fp s.heap) σ H s :=
 I.iq λp hp=>(Dd.mp hp).elim (λz=>I.pin p (DA _ z)) λz=>by
  obtain ⟨hb,e⟩:=mz z
  obtain ⟨f0,f1,f2,_⟩:=hf p.1 hb
  obtain ⟨o,e',d⟩:=ho p.1 hb
  rw[e] at e';cases e'
  exact ⟨e,f0,f1,f2,d⟩
theorem Inv.eG {pins pl:List (Addr×Obj)}{σ:St}{H:Hp}{s:CW}(I:Inv X (pins++pl) σ H s):Inv X pins σ H s:=I.iq λp hp=>I.pin p (DA _ (Du _ hp))
theorem cj {iter:Expr}{body:List Stmt}{wi:TI}{g:TG}{tb:TS}{pos:Pos}(hp:PassesOwn (DG X.prog X.w) X.A X.env X.xe)(hc:X.calm=true)(hi:PI X tg iter wi)(hg:PG X tg g)(hb:PSs X body tb)
  (hs:∀x,foldedSetIterable iter X.env x=pure x:=by intro _;rfl):PS X (.For tg iter body [] pos) (tFor wi g tb):=by
 intro pins s σ H D I h
 refine wpAny_For (thn (hi pins s σ H _ I h) λv s1 h1=>thn h1 λitv s2 h2 =>?_) hs
 obtain ⟨it,fp,tn,J,H2,e,I2,T,st2,f2,W,⟨m0,w0⟩,turn⟩:=h2
 subst e
 have stat:∀{H':Hp},(∀b∈fp,H' b=none)->∀b∈fp,jf X pins H' b:=λhn b hb=>⟨hn b hb,(f2 b hb).2⟩
 refine codeAny_forLoop_any (λn s'=>∃i σ' H',Inv X pins σ' H' s'/\tn i s'.heap/\(∀b∈fp,H' b=none)/\W i n σ' H') ?_ m0 ⟨0,σ,H2,I2,st2,λb hb=>(f2 b hb).1,w0⟩
 rintro n s3 ⟨i,σ3,H3,I3,st3,fr3,w3⟩
 rcases turn i n σ3 H3 w3 with ⟨stop,qn⟩ | ⟨go,N,hN,step⟩
 ·refine GA hp (thn (T.done X rfl rfl rfl hc i pins s3 σ3 H3 X.xe I3 (stat fr3) st3 stop) λr s4 ⟨hr,I4⟩ =>?_)
  subst hr
  exact IG ⟨σ3,H3,I4,qn⟩
 ·refine GA hp (thn (T.item X rfl rfl rfl hc i pins s3 σ3 H3 X.xe I3 (stat fr3) st3 go) λr s4 ⟨u,hr,h4⟩ =>?_)
  subst hr
  refine GA hp (thn h4 λ_ s5 ⟨x,H5,I5,r5,y5,st5,fr5⟩ =>?_)
  have I5':=I5.pinned (stat fr5) (T.obj _ _ st5)
  refine GA hp (thn (hg _ s5 σ3 H5 x u _ I5' r5 (step x H5 y5)) λ_ s6 ⟨σ6,H6,I6,q6⟩ =>?_)
  refine GA hp (thn (hb _ s6 σ6 H6 _ I6 q6) λf s7 q7 =>?_)
  have again:∀{σ7:St} {H7:Hp},Inv X (pins++gL fp s5.heap) σ7 H7 s7->N σ7 H7->∃m,m<n/\∃i σ' H',Inv X pins σ' H' s7/\tn i s7.heap/\(∀b∈fp,H' b=none)/\W i m σ' H':=λ{σ7 H7} I7 n7=>by
   obtain ⟨m',hm,w7⟩:=hN σ7 H7 n7
   refine ⟨m',hm,i+1,σ7,H7,I7.eG,T.keep _ _ _ st5 λb hb o e=>(I7.pin (b,o) (DA _ (DA _ (dC hb e)))).1,λb hb =>?_,w7⟩
   obtain ⟨o,e,d⟩:=T.obj _ _ st5 b hb
   exact (I7.pin (b,o) (DA _ (DA _ (dC hb e)))).2.1
  cases f with
  | next=>obtain ⟨σ7,H7,I7,n7⟩:=q7;exact again I7 n7
  | cont=>obtain ⟨σ7,H7,I7,n7⟩:=q7;exact again I7 n7
  | brk=>obtain ⟨σ7,H7,I7,q7⟩:=q7;exact ⟨σ7,H7,I7.eG,q7⟩
  | ret v=>obtain ⟨x7,σ7,H7,I7,r7,q7⟩:=q7;exact ⟨x7,σ7,H7,I7.eG,r7,q7⟩
end
theorem dD {K:CZ}{a:Addr}{xs:List V}{g:TG}{tb:TS}{D:Ends}{σ:St}{H:Hp}(Pv:Nat->St->Hp->Prop)(h0:Pv 0 σ H)(hl:∀i σ H,i<=xs.length->Pv i σ H->SqL K H a xs)
  (hs:∀i x σ H,xs[i]? = some x->Pv i σ H->g x σ H λσ2 H2=>tb { D with nx:=Pv (i+1),ct:=Pv (i+1),bk:=D.nx } σ2 H2) (hd:∀σ H,Pv xs.length σ H->D.nx σ H) :
  ∃W:Nat->Nat->St->Hp->Prop,(∃m,W 0 m σ H)/\∀i m σ H,W i m σ H →
   ((Itl K a).stop i H/\D.nx σ H)\/((Itl K a).go i H/\∃N:St->Hp->Prop,(∀σ' H',N σ' H'->∃m',m'<m/\W (i+1) m' σ' H')/\∀x H',(Itl K a).yld i H x H'->g x σ H' λσ2 H2=>tb { D with nx:=N,ct:=N,bk:=D.nx } σ2 H2):=by
 refine ⟨λi m σ H=>m=xs.length-i/\i<=xs.length/\Pv i σ H,⟨xs.length,by simp,DS _,h0⟩,?_⟩
 rintro i m σ H ⟨rfl,hi,p⟩
 have q:=hl i σ H hi p
 by_cases hlt:i<xs.length
 ·refine .inr ⟨⟨xs,xs[i],q,by simp[hlt]⟩,Pv (i+1),λσ' H' p'=>⟨xs.length-(i+1),by lia,rfl,hlt,p'⟩,λx H' y =>?_⟩
  obtain ⟨e,y⟩:=y
  subst e
  exact hs i x σ _ (y xs q) p
 ·have e:i=xs.length:=by lia
  subst e
  exact .inl ⟨⟨xs,q,C0 _⟩,hd σ H p⟩
theorem yQ {K:CZ}{a:Addr}{xs:List V}{g:TG}{tb:TS}{D:Ends}{σ:St}{H:Hp}(Pv:Nat->St->Hp->Prop)(h0:Pv 0 σ H)(hl:∀i σ H,i<=xs.length->Pv i σ H->SqT K H a xs)
  (hs:∀i x σ H,xs[i]? = some x->Pv i σ H->g x σ H λσ2 H2=>tb { D with nx:=Pv (i+1),ct:=Pv (i+1),bk:=D.nx } σ2 H2) (hd:∀σ H,Pv xs.length σ H->D.nx σ H) :
  ∃W:Nat->Nat->St->Hp->Prop,(∃m,W 0 m σ H)/\∀i m σ H,W i m σ H →
   ((Itt K a).stop i H/\D.nx σ H)\/((Itt K a).go i H/\∃N:St->Hp->Prop,(∀σ' H',N σ' H'->∃m',m'<m/\W (i+1) m' σ' H')/\∀x H',(Itt K a).yld i H x H'->g x σ H' λσ2 H2=>tb { D with nx:=N,ct:=N,bk:=D.nx } σ2 H2):=by
 refine ⟨λi m σ H=>m=xs.length-i/\i<=xs.length/\Pv i σ H,⟨xs.length,by simp,DS _,h0⟩,?_⟩
 rintro i m σ H ⟨rfl,hi,p⟩
 have q:=hl i σ H hi p
 by_cases hlt:i<xs.length
 ·refine .inr ⟨⟨xs,xs[i],q,by simp[hlt]⟩,Pv (i+1),λσ' H' p'=>⟨xs.length-(i+1),by lia,rfl,hlt,p'⟩,λx H' y =>?_⟩
  obtain ⟨e,y⟩:=y
  subst e
  exact hs i x σ _ (y xs q) p
 ·have e:i=xs.length:=by lia
  subst e
  exact .inl ⟨⟨xs,q,C0 _⟩,hd σ H p⟩
theorem du {lo:Int}{n:Nat}{g:TG}{tb:TS}{D:Ends}{σ:St}{H:Hp}(Pv:Nat->St->Hp->Prop)(h0:Pv 0 σ H)
  (hs:∀i σ H,i<n->Pv i σ H->g (.int (lo+i)) σ H λσ2 H2=>tb { D with nx:=Pv (i+1),ct:=Pv (i+1),bk:=D.nx } σ2 H2) (hd:∀σ H,Pv n σ H->D.nx σ H) :
  ∃W:Nat->Nat->St->Hp->Prop,(∃m,W 0 m σ H)/\∀i m σ H,W i m σ H →
   ((Itr lo n).stop i H/\D.nx σ H)\/((Itr lo n).go i H/\∃N:St->Hp->Prop,(∀σ' H',N σ' H'->∃m',m'<m/\W (i+1) m' σ' H')/\∀x H',(Itr lo n).yld i H x H'->g x σ H' λσ2 H2=>tb { D with nx:=N,ct:=N,bk:=D.nx } σ2 H2):=by
 refine ⟨λi m σ H=>m=n-i/\i<=n/\Pv i σ H,⟨n,by simp,DS _,h0⟩,?_⟩
 rintro i m σ H ⟨rfl,hi,p⟩
 by_cases hlt:i<n
 ·refine .inr ⟨hlt,Pv (i+1),λσ' H' p'=>⟨n-(i+1),by lia,rfl,hlt,p'⟩,λx H' y =>?_⟩
  obtain ⟨e,y⟩:=y
  subst e y
  exact hs i σ _ hlt p
 ·have e:i=n:=by lia
  subst e
  exact .inl ⟨C0 _,hd σ H p⟩
theorem iu {c:TT}{tb:TS}{D:Ends}{σ:St}{H:Hp}(Pv:St->Hp->Prop)(μ:St->Hp->Nat)(h0:Pv σ H)
  (hs:∀σ H,Pv σ H->c σ H λb H1=>if b=true then tb { D with nx:=λσ' H'=>Pv σ' H' /\ μ σ' H'<μ σ H,ct:=λσ' H'=>Pv σ' H' /\ μ σ' H'<μ σ H,bk:=D.nx } σ H1 else D.nx σ H1)
  (mono:∀σ H Q Q',(∀b H1,Q b H1->Q' b H1)->c σ H Q->c σ H Q'):wJ c tb D σ H:=by
 refine ⟨λm σ H=>m=μ σ H/\Pv σ H,⟨_,rfl,h0⟩,?_⟩
 rintro m σ H ⟨rfl,p⟩
 refine mono σ H _ _ (λb H1 q =>?_) (hs σ H p)
 cases b with
 | true=>exact ⟨_,λσ' H' ⟨p',l⟩=>⟨_,l,rfl,p'⟩,q⟩
 | false=>exact q
open PySem PySem.Spec PyProof.Rows
abbrev R2:=V->V->Hp->VK->Prop
def OpR (X:Cx)(f:CU->CU->Sem CU)(r:R2):Prop :=
 ∀(pins:List (Addr×Obj)) (s:CW) (σ:St) (H:Hp) (x y:V) (v u:CU) (Q:VK),Inv X pins σ H s->RelV x v->RelV y u->r x y H Q →
  Dn (DG X.prog X.w) X.A (f v u) (EP X pins σ Q) X.xe s
def bB (X:Cx)(f:CU)(r:List V->Hp->VK->Prop):Prop :=
 ∀(pins:List (Addr×Obj)) (s:CW) (σ:St) (H:Hp) (xs:List V) (us:List CU) (Q:VK),Inv X pins σ H s->Vals xs us->r xs H Q →
  Dn (DG X.prog X.w) X.A (call f us) (EP X pins σ Q) X.xe s
def TruR (X:Cx)(r:V->Hp->(Bool->Hp->Prop)->Prop):Prop :=
 ∀(pins:List (Addr×Obj)) (s:CW) (σ:St) (H:Hp) (x:V) (v:CU) (Q:Bool->Hp->Prop),Inv X pins σ H s->RelV x v->r x H Q →
  Dn (DG X.prog X.w) X.A (truthy v) (TP X pins σ Q) X.xe s
def tOp (r:R2)(ta tb:TE):TE:=λσ H Q=>ta σ H λx H1=>tb σ H1 λy H2=>r x y H2 Q
def rI (C:Int->Int->Prop)(g:Int->Int->V):R2:=λx y H Q=>∃i j,x = .int i/\y = .int j/\C i j/\Q (g i j) H
def rI0 (g:Int->Int->V):R2:=λx y H Q=>∃i j,x = .int i/\y = .int j/\Q (g i j) H
section
variable  {X:Cx}{a b c:Expr}{ta tb tc:TE}{pos:Pos}
theorem AO (ha:PE X a ta)(hb:PE X b tb){pins:List (Addr×Obj)}{s:CW}{σ:St}{H:Hp}{R:V->V->Hp->Prop}(I:Inv X pins σ H s)
  (h:ta σ H λx H1=>tb σ H1 λy H2=>R x y H2) {Q:CU->CW->Prop} {f:CU->CU->Sem CU}
  (hf:∀v u s2 x y H2,Inv X pins σ H2 s2->RelV x v->RelV y u->R x y H2->Dn (DG X.prog X.w) X.A (f v u) Q X.xe s2) :
  Dn (DG X.prog X.w) X.A (eval a X.env) (λv s₁=>Dn (DG X.prog X.w) X.A (eval b X.env) (λu s₂=>Dn (DG X.prog X.w) X.A (f v u) Q X.xe s₂) X.xe s₁) X.xe s:=by
 refine thn (ha pins s σ H _ I h) λv s1 ⟨x,H1,I1,r1,q1⟩ =>?_
 refine thn (hb pins s1 σ H1 _ I1 q1) λu s2 ⟨y,H2,I2,r2,q2⟩ =>?_
 exact hf v u s2 x y H2 I2 r1 r2 q2
theorem aO {op:Operator}{r:R2}(ho:OpR X (binaryOp op) r)(ha:PE X a ta)(hb:PE X b tb):PE X (.BinOp a op b pos) (tOp r ta tb):=by
 intro pins s σ H Q I h
 exact wpAny_BinOp (AO ha hb I h λv u s2 x y H2 I2 rx ry q=>ho pins s2 σ H2 x y v u Q I2 rx ry q)
theorem opI {f:CU->CU->Sem CU}{C:Int->Int->Prop}{g:Int->Int->Int}
  (rule:∀(i j:Int) (t u:Tok) (s:CW) (Q:CU->CW->Prop) (E:CU->CW->Prop),C i j->Q (.int (g i j) s.toks) { s with toks:=s.toks+1 }->Dn (DG X.prog X.w) X.A (f (.int i t) (.int j u)) Q E s) :
  OpR X f (rI C λi j =>.int (g i j)):=by
 intro pins s σ H x y v u Q I rx ry h
 obtain ⟨i,j,rfl,rfl,hc,q⟩:=h
 obtain ⟨t,rfl⟩:=rx
 obtain ⟨t',rfl⟩:=ry
 exact rule i j t t' s _ _ hc ⟨.int (g i j),H,I.tok _,⟨_,rfl⟩,q⟩
theorem AQ {f:CU->CU->Sem CU}{g:Int->Int->Int}
  (rule:∀(i j:Int) (t u:Tok) (s:CW) (Q:CU->CW->Prop) (E:CU->CW->Prop),Q (.int (g i j) s.toks) { s with toks:=s.toks+1 }->Dn (DG X.prog X.w) X.A (f (.int i t) (.int j u)) Q E s) :
  OpR X f (rI0 λi j =>.int (g i j)):=by
 intro pins s σ H x y v u Q I rx ry h
 obtain ⟨i,j,rfl,rfl,q⟩:=h
 obtain ⟨t,rfl⟩:=rx
 obtain ⟨t',rfl⟩:=ry
 exact rule i j t t' s _ _ ⟨.int (g i j),H,I.tok _,⟨_,rfl⟩,q⟩
theorem yR {f:CU->CU->Sem CU}{g:Int->Int->Bool}
  (rule:∀(i j:Int) (t u:Tok) (s:CW) (Q:CU->CW->Prop) (E:CU->CW->Prop),Q (.bool (g i j)) s->Dn (DG X.prog X.w) X.A (f (.int i t) (.int j u)) Q E s) :
  OpR X f (rI0 λi j =>.bl (g i j)):=by
 intro pins s σ H x y v u Q I rx ry h
 obtain ⟨i,j,rfl,rfl,q⟩:=h
 obtain ⟨t,rfl⟩:=rx
 obtain ⟨t',rfl⟩:=ry
 exact rule i j t t' s _ _ ⟨.bl (g i j),H,I,rfl,q⟩
def CDiv (i j:Int):Prop:=0<j/\j<1073741824
def B2 (i j:Int):Prop:=0<=j/\j<=1000000/\i.natAbs<2 ^ 64
def AR (i j:Int):Prop:=(-(2 ^ 64)<i/\i<2 ^ 64)\/(-(2 ^ 64)<j/\j<2 ^ 64)
theorem AR.ok {i j:Int}(h:AR i j):IntMulOk i j:=by
 rcases h with ⟨h1,h2⟩ | ⟨h1,h2⟩
 ·exact .of_left (intBits_le_64 h1 h2)
 ·exact .of_right (intBits_le_64 h1 h2)
theorem rG (k:Nat):(0:Int)<=2 ^ k:=by
 rw[two_pow_cast]
 exact Int.natCast_nonneg _
theorem cW:OpR X (binaryOp .Add) (rI0 λi j =>.int (i+j)):=AQ λ_ _ _ _ _ _ _ q=>add_int q
theorem gM:OpR X (binaryOp .Sub) (rI0 λi j =>.int (i-j)):=AQ λ_ _ _ _ _ _ _ q=>sub_int q
theorem eZ:OpR X (binaryOp .Mult) (rI AR λi j =>.int (i*j)):=opI λ_ _ _ _ _ _ _ hc q=>mul_int q hc.ok
theorem yS:OpR X (binaryOp .FloorDiv) (rI CDiv λi j =>.int (i/j)):=opI λi j _ _ _ _ _ hc q=>by
 have h1:(0:Int)<j:=hc.1
 have h2:j<1073741824:=hc.2
 exact floordiv_int (by lia) (by rw[G9 i (by lia)];exact q) (.inl (PyProof.noPylong_small (by lia)))
theorem gN:OpR X (binaryOp .Mod) (rI (λ_ j=>0<j) λi j =>.int (i%j)):=opI λi j _ _ _ _ _ hc q=>by
 have h1:(0:Int)<j:=hc
 exact mod_int' (by lia) (by rw[IJ i (by lia)];exact q)
theorem wM:OpR X (binaryOp .Pow) (rI B2 λi j =>.int (i ^ j.toNat)):=opI λ_ _ _ _ _ _ _ hc q=>pow_int_small hc.1 hc.2.1 hc.2.2 q
theorem AS:OpR X (binaryOp .LShift) (rI B2 λi j =>.int (i*2 ^ j.toNat)):=opI λ_ _ _ _ _ _ _ hc q=>lshift_int_small hc.1 hc.2.1 hc.2.2 q
theorem AU:OpR X (binaryOp .RShift) (rI (λ_ j=>0<=j) λi j =>.int (i/2 ^ j.toNat)):=opI λi j _ _ _ _ _ hc q =>
 rshift_int hc (by rw[G9 i (rG _)];exact q)
theorem AV:OpR X (binaryOp .BitAnd) (rI0 λi j =>.int (Builtin.bitAnd i j)):=AQ λ_ _ _ _ _ _ _ q=>and_int q
end
def B3:V->V->Bool
 | .non,.non=>true | .non,.int _=>true | .int _,.non=>true | .non,.bl _=>true | .bl _,.non=>true | .non,.str _=>true | .str _,.non=>true
 | .int _,.int _=>true | .bl _,.bl _=>true | .str _,.str _=>true | .byt _,.byt _=>true
 | .int _,.str _=>true | .str _,.int _=>true | .bl _,.str _=>true | .str _,.bl _=>true
 | _,_=>false
def rEq:R2:=λx y H Q=>B3 x y=true/\Q (.bl (decide (x=y))) H
def rNe:R2:=λx y H Q=>B3 x y=true/\Q (.bl (!decide (x=y))) H
theorem tE {i j:Int}:decide (V.int i=V.int j)=(i == j):=by
 rw[Fo]
 simp
theorem wN {i j:Bool}:decide (V.bl i=V.bl j)=(i == j):=by
 rw[Fo]
 simp
theorem tF {i j:Str}:decide (V.str i=V.str j)=(i == j):=by
 rw[Fo]
 simp
theorem tG {i j:Array UInt8}:decide (V.byt i=V.byt j)=(i.toList == j.toList):=by
 rw[Fo]
 cases i
 cases j
 simp
section
variable  {X:Cx}{a b c:Expr}{ta tb tc:TE}{pos:Pos}
theorem aT {pins:List (Addr×Obj)}{σ:St}{H:Hp}{s:CW}{Q:VK}{k k':Bool}(I:Inv X pins σ H s)(q:Q (.bl k) H)(e:k=k'):EP X pins σ Q (.bool k') s:=by
 subst e
 exact ⟨.bl k,H,I,rfl,q⟩
theorem dE:OpR X (E3 .Eq) rEq:=by
 intro pins s σ H x y v u Q I rx ry h
 obtain ⟨hs,q⟩:=h
 cases x with
 | non =>
  cases rx
  cases y with
  | non=>cases ry;exact PySem.EqNone.eq_none_none (aT I q (by simp))
  | bl j=>cases ry;exact PySem.EqNone.eq_none_bool (aT I q (by simp))
  | int j=>obtain ⟨t',rfl⟩:=ry;exact PySem.EqNone.eq_none_int (aT I q (by simp))
  | str j=>obtain ⟨t',rfl⟩:=ry;exact PySem.EqNone.eq_none_str (aT I q (by simp))
  | _=>exact absurd (show false=true from hs) Di
 | bl i =>
  cases rx
  cases y with
  | non=>cases ry;exact PySem.EqNone.eq_bool_none (aT I q (by simp))
  | bl j=>cases ry;exact eq_bool (aT I q wN)
  | str j=>obtain ⟨t',rfl⟩:=ry;exact LV (aT I q (by simp))
  | _=>exact absurd (show false=true from hs) Di
 | int i =>
  obtain ⟨t,rfl⟩:=rx
  cases y with
  | non=>cases ry;exact PySem.EqNone.eq_int_none (aT I q (by simp))
  | int j=>obtain ⟨t',rfl⟩:=ry;exact eq_int (aT I q tE)
  | str j=>obtain ⟨t',rfl⟩:=ry;exact L5 (aT I q (by simp))
  | _=>exact absurd (show false=true from hs) Di
 | str i =>
  obtain ⟨t,rfl⟩:=rx
  cases y with
  | non=>cases ry;exact PySem.EqNone.eq_str_none (aT I q (by simp))
  | bl j=>cases ry;exact LW (aT I q (by simp))
  | int j=>obtain ⟨t',rfl⟩:=ry;exact L6 (aT I q (by simp))
  | str j=>obtain ⟨t',rfl⟩:=ry;exact eq_str (aT I q tF)
  | _=>exact absurd (show false=true from hs) Di
 | byt i =>
  obtain ⟨t,rfl⟩:=rx
  cases y with
  | byt j=>obtain ⟨t',rfl⟩:=ry;exact PySem.W.eq_bytes (aT I q tG)
  | _=>exact absurd (show false=true from hs) Di
 | _=>cases y <;> exact absurd (show false=true from hs) Di
theorem mB:OpR X (E3 .NotEq) rNe:=by
 intro pins s σ H x y v u Q I rx ry h
 obtain ⟨hs,q⟩:=h
 cases x with
 | non =>
  cases rx
  cases y with
  | non=>cases ry;exact PySem.EqNone.ne_none_none (aT I q (by simp))
  | bl j=>cases ry;exact PySem.EqNone.ne_none_bool (aT I q (by simp))
  | int j=>obtain ⟨t',rfl⟩:=ry;exact PySem.EqNone.ne_none_int (aT I q (by simp))
  | str j=>obtain ⟨t',rfl⟩:=ry;exact PySem.EqNone.ne_none_str (aT I q (by simp))
  | _=>exact absurd (show false=true from hs) Di
 | bl i =>
  cases rx
  cases y with
  | non=>cases ry;exact PySem.EqNone.ne_bool_none (aT I q (by simp))
  | bl j=>cases ry;exact ne_bool (aT I q (congrArg not wN))
  | str j=>obtain ⟨t',rfl⟩:=ry;exact LX (aT I q (by simp))
  | _=>exact absurd (show false=true from hs) Di
 | int i =>
  obtain ⟨t,rfl⟩:=rx
  cases y with
  | non=>cases ry;exact PySem.EqNone.ne_int_none (aT I q (by simp))
  | int j=>obtain ⟨t',rfl⟩:=ry;exact ne_int (aT I q (congrArg not tE))
  | str j=>obtain ⟨t',rfl⟩:=ry;exact L7 (aT I q (by simp))
  | _=>exact absurd (show false=true from hs) Di
 | str i =>
  obtain ⟨t,rfl⟩:=rx
  cases y with
  | non=>cases ry;exact PySem.EqNone.ne_str_none (aT I q (by simp))
  | bl j=>cases ry;exact LY (aT I q (by simp))
  | int j=>obtain ⟨t',rfl⟩:=ry;exact L8 (aT I q (by simp))
  | str j=>obtain ⟨t',rfl⟩:=ry;exact ne_str (aT I q (congrArg not tF))
  | _=>exact absurd (show false=true from hs) Di
 | byt i =>
  obtain ⟨t,rfl⟩:=rx
  cases y with
  | byt j=>obtain ⟨t',rfl⟩:=ry;exact PySem.W.ne_bytes (aT I q (congrArg not tG))
  | _=>exact absurd (show false=true from hs) Di
 | _=>cases y <;> exact absurd (show false=true from hs) Di
theorem tH:OpR X (E3 .Lt) (rI0 λi j =>.bl (decide (i<j))):=yR λ_ _ _ _ _ _ _ q=>lt_int q
theorem Ai:OpR X (E3 .LtE) (rI0 λi j =>.bl (decide (i<=j))):=yR λ_ _ _ _ _ _ _ q=>le_int q
theorem B4:OpR X (E3 .Gt) (rI0 λi j =>.bl (decide (j<i))):=yR λ_ _ _ _ _ _ _ q=>gt_int q
theorem wO:OpR X (E3 .GtE) (rI0 λi j =>.bl (decide (j<=i))):=yR λ_ _ _ _ _ _ _ q=>ge_int q
theorem AW:OpR X (E3 .Is) (λx y H Q=>y = .non/\Q (.bl (decide (x = .non))) H):=by
 intro pins s σ H x y v u Q I rx ry h
 obtain ⟨rfl,q⟩:=h
 cases ry
 refine is_none_gen (aT I q ?_)
 cases x <;> first
  | (cases rx;rfl)
  | (obtain ⟨t,rfl⟩:=rx;rfl)
theorem tI:OpR X (E3 .IsNot) (λx y H Q=>y = .non/\Q (.bl (!decide (x = .non))) H):=by
 intro pins s σ H x y v u Q I rx ry h
 obtain ⟨rfl,q⟩:=h
 cases ry
 refine isnot_none_gen (aT I q ?_)
 cases x <;> first
  | (cases rx;rfl)
  | (obtain ⟨t,rfl⟩:=rx;rfl)
theorem aM (b:Expr){op:CmpOp}(h:op ≠ .In:=by decide)(h2:op ≠ .NotIn:=by decide):behindInMarks op b=false:=by
 have e1:(op == CmpOp.In)=false:=by cases op <;> first | rfl | exact absurd rfl h
 have e2:(op == CmpOp.NotIn)=false:=by cases op <;> first | rfl | exact absurd rfl h2
 cases b <;> simp[behindInMarks,e1,e2]
theorem cK {op:CmpOp}{r:R2}(ho:OpR X (E3 op) r)(ha:PE X a ta)(hb:PE X b tb)(hm:behindInMarks op b=false):PE X (.Compare a [op] [b] pos) (tOp r ta tb):=by
 intro pins s σ H Q I h
 exact wpAny_Compare1 (AO ha hb I h λv u s2 x y H2 I2 rx ry q=>ho pins s2 σ H2 x y v u Q I2 rx ry q) hm
def B5 (t:TE):TT:=λσ H Q=>t σ H λx H'=>∃k,x = .bl k/\Q k H'
theorem aJ {op:CmpOp}{r:R2}(ho:OpR X (E3 op) r)(ha:PE X a ta)(hb:PE X b tb)(hm:behindInMarks op b=false):PT X (.Compare a [op] [b] pos) (B5 (tOp r ta tb)):=by
 intro pins s σ H Q I h
 refine Ka (thn (ha pins s σ H _ I h) λv s1 ⟨x,H1,I1,r1,q1⟩=>thn (hb pins s1 σ H1 _ I1 q1) λu s2 ⟨y,H2,I2,r2,q2⟩ =>
  thn (ho pins s2 σ H2 x y v u _ I2 r1 r2 q2) λc s3 ⟨z,H3,I3,r3,k,e,q3⟩ =>?_) hm
 subst e
 cases r3
 exact E5 ⟨H3,I3,q3⟩
def AX (r r':R2)(ta tb tc:TE):TE:=λσ H Q=>ta σ H λx H1=>tb σ H1 λy H2=>r x y H2 λz H3=>∃k,z = .bl k ∧
 (if k=true then tc σ H3 λw' H4=>r' y w' H4 Q else Q (.bl false) H3)
theorem wQ {op op':CmpOp}{r r':R2}(ho:OpR X (E3 op) r)(ho':OpR X (E3 op') r')(ha:PE X a ta)(hb:PE X b tb)(hc:PE X c tc)
  (hm:lastMarks [op,op'] [b,c]=false:=by with_unfolding_all rfl):PE X (.Compare a [op,op'] [b,c] pos) (AX r r' ta tb tc):=by
 intro pins s σ H Q I h
 refine Compare_chain (thn (ha pins s σ H _ I h) λv s1 ⟨x,H1,I1,r1,q1⟩=>chain_link (thn (hb pins s1 σ H1 _ I1 q1) λu s2 ⟨y,H2,I2,r2,q2⟩ =>
  thn (ho pins s2 σ H2 x y v u _ I2 r1 r2 q2) λd s3 ⟨z,H3,I3,r3,k,e,q3⟩ =>?_)) hm
 subst e
 cases r3
 refine E5 ?_
 cases k with
 | false=>exact ite_ff ⟨.bl false,H3,I3,rfl,q3⟩
 | true=>exact ite_tt (chain_last (thn (hc pins s3 σ H3 _ I3 q3) λw' s4 ⟨z',H4,I4,r4,q4⟩=>ho' pins s4 σ H4 y z' u w' Q I4 r2 r4 q4))
def B6 (K:CZ)(x:V)(H:Hp)(k:Bool):Prop :=
 match x with
 | .non=>k=false
 | .bl b=>k=b
 | .int i=>k=(i != 0)
 | .str y=>y.length<=Dl/\k=((y.length:Int) != 0)
 | .byt y=>y.size<=Dl/\k=((y.size:Int) != 0)
 | .ref p=>(∃xs,SqL K H p xs/\k = !xs.isEmpty)\/(∃xs,SqT K H p xs/\k = !xs.isEmpty)\/∃kvs,H p=some (.dK kvs)/\k = !kvs.isEmpty
 | _=>False
theorem rH {κ:Type}{kvs:List (κ×V)}{vs:List (κ×CU)}(r:KV kvs vs):(!vs.isEmpty) = !kvs.isEmpty:=by
 cases r <;> rfl
theorem ku {xs:List V}{its:List CU}(r:Vals xs its):(!its.toArray.isEmpty) = !xs.isEmpty:=by
 cases r <;> simp
theorem jg:(Dl:Nat)<2 ^ 63:=by rw[F6];decide
theorem AY:TruR X (λx H Q=>∃k,B6 X.K x H k/\Q k H):=by
 intro pins s σ H x v Q I rx h
 obtain ⟨k,e,q⟩:=h
 have hl:=jg
 have hs:Dl=16777216:=F6
 cases x with
 | non =>
  cases rx
  have e':k=false:=e
  subst e'
  exact truthy_none ⟨H,I,q⟩
 | bl b =>
  cases rx
  have e':k=b:=e
  subst e'
  exact E5 ⟨H,I,q⟩
 | int i =>
  obtain ⟨t,rfl⟩:=rx
  have e':k=(i != 0):=e
  subst e'
  exact PySem.P.truthy_int ⟨H,I,q⟩
 | str y =>
  obtain ⟨t,rfl⟩:=rx
  obtain ⟨hy,e'⟩:y.length<=Dl/\k=((y.length:Int) != 0):=e
  subst e'
  exact PySem.P.truthy_str (by lia) ⟨H,I.tok _,q⟩
 | byt y =>
  obtain ⟨t,rfl⟩:=rx
  obtain ⟨hy,e'⟩:y.size<=Dl/\k=((y.size:Int) != 0):=e
  subst e'
  exact PySem.W.truthy_bytes (by lia) ⟨H,I.tok _,q⟩
 | ref p =>
  cases rx
  have e':(∃xs,SqL X.K H p xs/\k = !xs.isEmpty)\/(∃xs,SqT X.K H p xs/\k = !xs.isEmpty)\/∃kvs,H p=some (.dK kvs)/\k = !kvs.isEmpty:=e
  rcases e' with ⟨xs,hx,e'⟩ | ⟨xs,hx,e'⟩ | ⟨kvs,hx,e'⟩
  ·subst e'
   obtain ⟨its,r,pl,hz⟩:=I.list hx
   have hlen:=r.length
   exact wpAny_truthy_list pl.isList (by simp only[De];lia) ⟨H,I.tok _,by rw[ku r];exact q⟩
  ·subst e'
   obtain ⟨its,r,pl,hz⟩:=I.tuple hx
   have hlen:=r.length
   exact truthy_tuple pl (by simp only[De];lia) ⟨H,I.tok _,by rw[ku r];exact q⟩
  ·subst e'
   obtain ⟨hz,hS,vs,r,m⟩:kvs.length<=Dl/\(p == sysModules)=false/\∃vs,KV kvs vs/\s.heap.DictOf (bz X.prog X.w) p vs:=I.hok p _ hx
   have hlen:kvs.length=vs.length:=HE r
   exact wpAny_truthy_dict hS m (by lia) ⟨H,I.tok _,by rw[rH r];exact q⟩
 | _=>exact (show False from e).elim
theorem kz (ha:PE X a ta)(he:∀whole,isTrue a X.env whole=(do let v ← whole;standAt a.pos;Jd [v] (truthy v))) :
    PT X a (λσ H Q=>ta σ H λx H'=>∃k,B6 X.K x H' k/\Q k H'):=by
  intro pins s σ H Q I h
  exact isTrue_plain (thn (ha pins s σ H _ I h) λv s1 ⟨x,H1,I1,r1,q1⟩=>AY pins s1 σ H1 x v Q I1 r1 q1) (he _)
theorem vals1 {x:V}{us:List CU}(r:Vals [x] us):∃u,us=[u]/\RelV x u:=by
 cases r with
 | cons r1 r2=>cases r2;exact ⟨_,rfl,r1⟩
theorem vals2 {x y:V}{us:List CU}(r:Vals [x,y] us):∃u w',us=[u,w']/\RelV x u/\RelV y w':=by
 cases r with
 | cons r1 r2 =>
  cases r2 with
  | cons r3 r4=>cases r4;exact ⟨_,_,rfl,r1,r3⟩
theorem vb (hc:X.calm=true):bB X (.builtin "max") (λxs H Q=>∃i j,xs=[.int i,.int j]/\Q (.int (if j>i then j else i)) H):=by
 intro pins s σ H xs us Q I r h
 obtain ⟨i,j,rfl,q⟩:=h
 obtain ⟨u,w',rfl,⟨t,rfl⟩,⟨t',rfl⟩⟩:=vals2 r
 refine max_two_ints (I.ok.hd hc) λh' tk k=>⟨_,H,I.kept k,?_,q⟩
 by_cases hj:j>i
 ·rw[if_pos hj,if_pos hj];exact ⟨_,rfl⟩
 ·rw[if_neg hj,if_neg hj];exact ⟨_,rfl⟩
theorem vd (hc:X.calm=true):bB X (.builtin "min") (λxs H Q=>∃i j,xs=[.int i,.int j]/\Q (.int (if j<i then j else i)) H):=by
 intro pins s σ H xs us Q I r h
 obtain ⟨i,j,rfl,q⟩:=h
 obtain ⟨u,w',rfl,⟨t,rfl⟩,⟨t',rfl⟩⟩:=vals2 r
 refine min_two_ints (I.ok.hd hc) λh' tk k=>⟨_,H,I.kept k,?_,q⟩
 by_cases hj:j<i
 ·rw[if_pos hj,if_pos hj];exact ⟨_,rfl⟩
 ·rw[if_neg hj,if_neg hj];exact ⟨_,rfl⟩
theorem mC:bB X (.type "int") (λxs H Q=>(∃i,xs=[.int i]/\Q (.int i) H)\/∃k,xs=[.bl k]/\Q (.int (if k then 1 else 0)) H):=by
 intro pins s σ H xs us Q I r h
 rcases h with ⟨i,rfl,q⟩ | ⟨k,rfl,q⟩
 ·obtain ⟨u,rfl,t,rfl⟩:=vals1 r
  exact call_int_int ⟨.int i,H,I,⟨_,rfl⟩,q⟩
 ·obtain ⟨u,rfl,r1⟩:=vals1 r
  cases r1
  exact call_int_bool ⟨.int (if k then 1 else 0),H,I.tok _,⟨_,rfl⟩,q⟩
end
open PySem PySem.Spec PyProof.Rows
section
variable  {prog:Dp}{w:DW}{A:Ec}{E:CU->CW->Prop}{s:CW}{K:CZ}{x dx C f:Addr}{mA:Str->Option CU}{name:Str}{v:CU}
end
theorem lS.some_of {v:V}{o:Option CU}(r:lS (some v) o):∃u,o=some u/\RelV v u:=by
 cases o with
 | none=>exact (show False from r).elim
 | some u=>exact ⟨u,rfl,r⟩
section
variable  {P:Dp}{w:DW}{H H':Hp}{h h':Heap}{a C dx:Addr}{fs fs':List (Str×V)}
end
section
variable  {X:Cx}{pins:List (Addr×Obj)}{σ:St}{H:Hp}{s:CW}{a C dx:Addr}{fs:List (Str×V)}{f:Str}{v:V}{A:Ec}{E:CU->CW->Prop}
end
section
variable  {X:Cx}{o e value:Expr}{f:Str}{pos pos' tpos:Pos}{ta tv:TE}
end
section
variable  {X:Cx}{pins:List (Addr×Obj)}{σ:St}{H:Hp}{s:CW}{A:Ec}{E:CU->CW->Prop}{Q:CU->CW->Prop}{c:CU}{b:Bool}
end
open PySem PySem.Spec PyProof.Rows
structure dF (k:Nat)(A:Ec):Prop where
 hd:A.handled=none
 dp:A.depth+3*k+5<recursionLimit
 un:A.units+16*k+200<cLine
theorem dF.mono {j k:Nat}{A:Ec}(r:dF k A)(h:j<=k):dF j A:=⟨r.hd,by have:=r.dp;lia,by have:=r.un;lia⟩
theorem dF.deeper {k:Nat}{A:Ec}(r:dF (k+1) A)(env:Env):dF k (A.deeper env) :=
 ⟨r.hd,by have:=r.dp;show A.depth+1+3*k+5<_;lia,by have:=r.un;show A.units+3+16*k+200<_;lia⟩
theorem dF.depth {k:Nat}{A:Ec}(r:dF k A):A.depth<recursionLimit:=by have:=r.dp;lia
theorem dF.units {k:Nat}{A:Ec}(r:dF k A):A.units+64<cLine:=by have:=r.un;lia
def tNil:TA:=λ_ H Q=>Q [] H
def B7 (ta:TE)(tr:TA):TA:=λσ H Q=>ta σ H λx H1=>tr σ H1 λxs H2=>Q (x :: xs) H2
section
variable  {X:Cx}{e:Expr}{es:List Expr}{te:TE}{t:TA}{pos:Pos}
theorem ag:PA X [] tNil:=λ_ _ _ _ H Q I h=>K4 ⟨[],H,I,.nil,h⟩
theorem aa (ha:PE X e te)(hr:PA X es t)(hs:En (e :: es) X.env=(false,eval e X.env) :: En es X.env:=by rfl):PA X (e :: es) (B7 te t):=by
 intro pos pins s σ H Q I h
 rw[hs]
 show Dn _ _ (spliced ((false,eval e X.env) :: Ig pos (En es X.env))) _ _ s
 refine KD (thn (ha pins s σ H _ I h) λu s1 ⟨x,H1,I1,r1,q1⟩ =>?_)
 exact thn (hr pos pins s1 σ H1 _ I1 q1) λus s2 ⟨xs,H2,I2,r2,q2⟩=>⟨x :: xs,H2,I2,.cons r1 r2,q2⟩
def tTup (t:TA):TE:=λσ H Q=>t σ H λxs H1=>xs.length<=Dl/\∀p,H1 p=none->Q (.ref p) (upd H1 p (.tup xs))
def tLst (t:TA):TE:=λσ H Q=>t σ H λxs H1=>xs.length<=Dl/\∀p,H1 p=none->Q (.ref p) (upd H1 p (.lst xs))
theorem ck {x1}(h:PA X es t):PE X (.Tuple es x1 pos) (tTup t):=by
 intro pins s σ H Q I hq
 refine wpAny_Tuple_spliced (thn (h pos pins s σ H _ I hq) λus s1 ⟨xs,H1,I1,r,z,q⟩=>⟨by rw[<- r.length];exact z,?_⟩)
 have hf:H1 s1.heap.objs.size=none:=I1.hok.fresh (C0 _)
 refine ⟨.ref s1.heap.objs.size,upd H1 s1.heap.objs.size (.tup xs),I1.laid (t':=s1.toks) (λb u e=>CQ _ e) (C0 _) ?_,rfl,q _ hf⟩
 exact ⟨z,us,r,⟨_,C3 _ rfl,⟨rfl,rfl⟩,_,rfl⟩⟩
theorem cX (h:PA X es t):PE X (.List es pos) (tLst t):=by
 intro pins s σ H Q I hq
 refine wpAny_List_spliced (thn (h pos pins s σ H _ I hq) λus s1 ⟨xs,H1,I1,r,z,q⟩=>⟨by rw[<- r.length];exact z,?_⟩)
 have hf:H1 s1.heap.objs.size=none:=I1.hok.fresh (C0 _)
 refine ⟨.ref s1.heap.objs.size,upd H1 s1.heap.objs.size (.lst xs),I1.laid (t':=s1.toks) (λb u e=>CQ _ e) (C0 _) ?_,rfl,q _ hf⟩
 exact ⟨z,us,0,r,C3 _ rfl⟩
end
abbrev Sp:=List V->Hp->VK->XK->Prop
abbrev CXT:=List Env->Hp->CW->XK->CU->CW->Prop
structure yT (P:Dp)(w:DW)(K:CZ)(mg:Str->Option CU)(base:Heap)(A:Ec)(outer:List Env)(s:CW)(H:Hp):Prop where
 frames:A.frames=some outer
 mod:Mod K mg base
 bs:∀b o,base.get? b=some o->s.heap.get? b=some o/\H b=none
 bsz:base.objs.size<=s.heap.objs.size
 funs:s.heap.FunFrames base outer
 frf:∀b∈frs outer,H b=none
 hok:HOk P w H s.heap
 bare:AllBare s.gens
def CE (outer:List Env)(P:Dp)(w:DW)(H:Hp)(s:CW)(Q:VK)(u:CU)(s':CW):Prop :=
 ∃v H',s'.os=s.os/\AllBare s'.gens/\Un (frs outer) [] H H' s.heap s'.heap/\HOk P w H' s'.heap/\RelV v u/\Q v H'
def CR (CX:CXT)(outer:List Env)(P:Dp)(w:DW)(H:Hp)(s:CW)(Q:VK)(E:XK)(r:Result)(s':CW):Prop :=
 match r with
 | .ok (.ret u)=>CE outer P w H s Q u s'
 | .ok _=>False
 | .error e=>CX outer H s E e s'
structure bF (P:Dp)(w:DW)(K:CZ)(mg:Str->Option CU)(base:Heap)(CX:CXT)(k:Nat)(f:Addr)(fd:Eo)(ps:List Str)(sp:Sp):Prop where
 len:∀vs H Q E,sp vs H Q E->vs.length=ps.length
 run:∀(A:Ec) (outer:List Env) (s:CW) (H:Hp) (args:Args) (us:List CU) (vs:List V) (Q:VK) (E:XK),dF k A->yT P w K mg base A outer s H->BindsTo s fd args (ps.zip us)->Vals vs us->sp vs H Q E →
  HQ (DG P w) A (.call (.ref f) args) (CR CX outer P w H s Q E) s
section
variable  {X:Cx}{pins:List (Addr×Obj)}{σ:St}{H:Hp}{s s':CW}
theorem Inv.env0 (I:Inv X pins σ H s):yT X.prog X.w X.K X.mg X.base X.A X.stack s H :=
 ⟨I.ok.frames,I.ok.mod,I.bs,DZ I.ok.bsz I.sz,I.stack,I.tD,I.hok,I.bare⟩
theorem Inv.after {Q:VK}{u:CU}(I:Inv X pins σ H s)(h:CE X.stack X.prog X.w H s Q u s'):EP X pins σ Q u s':=by
 obtain ⟨v,H',os,bare,un,hok,r,q⟩:=h
 obtain ⟨hh,g,d,t,os'⟩:=s'
 obtain rfl:os'=s.os:=os
 exact ⟨v,H',I.call (h':=hh) (g':=g) (d':=d) (t':=t) (ch:=[]) un hok bare (λb z=>absurd z (by simp)),r,q⟩
end
def Aj (sp:Sp)(dvs:List V)(E:XK)(t:TA):TE:=λσ H Q=>t σ H λvs H1=>sp (vs++dvs) H1 Q E
def Binds (K:CZ)(fd:Eo)(ps:List Str)(ds:List CU):Prop :=
 ∀(s:CW) (us:List CU),K.In s.heap->(us++ds).length=ps.length->BindsTo s fd ⟨us,[]⟩ (ps.zip (us++ds))
theorem Binds.all {K:CZ}{fd:Eo}{ps:List Str}(h:∀us:List CU,us.length=ps.length->bindArgs fd ⟨us,[]⟩=pure (ps.zip us)):Binds K fd ps []:=λs us _ hl=>by
 rw[DU] at hl ⊢
 exact .of_eq (h us hl)
def Passes (CX:CXT)(X:Cx)(E:XK):Prop:=∀(pins:List (Addr×Obj)) (σ:St) (H:Hp) (s:CW) (e:CU) (s':CW),Inv X pins σ H s->CX X.stack H s E e s'->X.xe e s'
section
variable  {X:Cx}{CX:CXT}{k:Nat}{f C:Addr}{fd:Eo}{ps:List Str}{sp:Sp}{dvs:List V}{ds:List CU}{E:XK}{x m:Str}{p pos apos:Pos}{e o:Expr}{es:List Expr}{ta:TE}{t:TA}
theorem AZ {pins:List (Addr×Obj)}{σ:St}{H:Hp}{s:CW}{Q:VK}{us:List CU}{vs:List V}(F:bF X.prog X.w X.K X.mg X.base CX k f fd ps sp)(hr:dF k X.A)(hb:Binds X.K fd ps ds)(hd:Vals dvs ds)(hx:Passes CX X E)
  (I:Inv X pins σ H s) (r:Vals vs us) (h:sp (vs++dvs) H Q E):Dn (DG X.prog X.w) X.A (call (.ref f) us) (EP X pins σ Q) X.xe s:=by
 have r2:Vals (vs++dvs) (us++ds):=r.append hd
 have hl:(us++ds).length=ps.length:=by rw[<- r2.length];exact F.len _ _ _ _ h
 refine Lh (HD (F.run X.A X.stack s H ⟨us,[]⟩ (us++ds) (vs++dvs) Q E hr I.env0 (hb s us I.kIn hl) r2 h) λr s' hq =>?_)
 cases r with
 | error e=>exact hx pins σ H s e s' I hq
 | ok fl =>
  cases fl with
  | ret u=>exact I.after hq
  | next=>exact False.elim hq
  | brk=>exact False.elim hq
  | cont=>exact False.elim hq
theorem yU (F:bF X.prog X.w X.K X.mg X.base CX k f fd ps sp)(hr:dF k X.A)(hg:Gl X x)(hm:X.mg x=some (.ref f))(hk:PySem.W.keepIn X.K (.ref f)=true)(hb:Binds X.K fd ps ds)(hd:Vals dvs ds)(hx:Passes CX X E)
  (ha:PA X (e :: es) t) (hdb:(x == ("__debug__" : Str))=false:=by decide) (he:En (e :: es) X.env=(false,eval e X.env) :: En es X.env:=by rfl) (hpl:(Ig pos (En es X.env)).any (·.1)=false:=by rfl) :
  PE X (.Call (.Name x p) (e :: es) [] pos) (Aj sp dvs E t):=by
 intro pins s σ H Q I h
 refine Gn (yO I hg hm ?_ hdb)
 refine PySem.W.callWith_K (h₀:=X.base) I.ok.mod.kin hk (thn (ha pos pins s σ H _ I h) λus s1 ⟨vs,H1,I1,r,q⟩=>⟨I1.kIn,?_⟩) he hpl
 exact AZ F hr hb hd hx I1 r q
end
section
variable  {X:Cx}{CX:CXT}{k:Nat}{f C:Addr}{fd:Eo}{ps ks:List Str}{sp:Sp}{E:XK}{x m:Str}{p pos apos kpos:Pos}{e o:Expr}{es:List Expr}{kws:List Keyword}{te ta:TE}{t tk:TA}{nm:Option Str}
variable  {g:List CU->List CU->List CU}{gV:List V->List V->List V}
end
structure aF (N P:List Str)(sc:Scope):Prop where
 kind:sc.kind = .function
 co:sc.isCoroutine=false
 gen:sc.isGenerator=false
 nd:N.Nodup
 pre:N.take P.length=P
 par:∀x∈P,sc.names.lookup x=some .local\/sc.names.lookup x=some .cell
 nofree:∀y∈sc.names,y.2 ≠ .free
theorem mD {kindOf:Str->Option NameKind}{x:Str}:∀{binds:List (Str×CU)} {m:Str->Option CU},(∀v,(x,v)∉binds)->bindL kindOf binds m x=m x
 | [],_,_=>rfl
 | (n,v) :: r,m,h=>by
  unfold bindL
  rw[mD λw hw=>h w (Ds _ hw)]
  split
  ·have:x≠n:=by rintro rfl;exact h v Dr
   simp[this]
  ·rfl
theorem mE {kindOf:Str->Option NameKind}{x:Str}:∀{binds:List (Str×CU)} {m:Str->Option CU},(∀v,(x,v)∉binds)->bindC kindOf binds m x=m x
 | [],_,_=>rfl
 | (n,v) :: r,m,h=>by
  unfold bindC
  rw[mE λw hw=>h w (Ds _ hw)]
  split
  ·rfl
  ·have:x≠n:=by rintro rfl;exact h v Dr
   simp[this]
theorem mF {kindOf:Str->Option NameKind}{x:Str}{v:CU}:∀{P:List Str} {vs:List CU} {i:Nat} {m:Str->Option CU},P.Nodup->P[i]? = some x->vs[i]? = some v->kindOf x=some .local →
  bindL kindOf (P.zip vs) m x=some v
 | [],_,_,_,_,h,_,_=>by simp at h
 | _ :: _,[],_,_,_,_,h,_=>by simp at h
 | p :: P,w :: vs,0,m,nd,h1,h2,hk=>by
  simp at h1 h2;subst h1;subst h2
  show bindL kindOf ((p,w) :: P.zip vs) m p=_
  unfold bindL
  rw[mD λv hv=>(EC.mp nd).1 (JP hv).1,if_pos hk]
  simp
 | p :: P,w :: vs,i+1,m,nd,h1,h2,hk=>by
  show bindL kindOf ((p,w) :: P.zip vs) m x=_
  unfold bindL
  exact mF (i:=i) (EC.mp nd).2 (by simpa using h1) (by simpa using h2) hk
theorem mG {kindOf:Str->Option NameKind}{x:Str}{v:CU}:∀{P:List Str} {vs:List CU} {i:Nat} {m:Str->Option CU},P.Nodup->P[i]? = some x->vs[i]? = some v->kindOf x≠some .local →
  bindC kindOf (P.zip vs) m x=some v
 | [],_,_,_,_,h,_,_=>by simp at h
 | _ :: _,[],_,_,_,_,h,_=>by simp at h
 | p :: P,w :: vs,0,m,nd,h1,h2,hk=>by
  simp at h1 h2;subst h1;subst h2
  show bindC kindOf ((p,w) :: P.zip vs) m p=_
  unfold bindC
  rw[mE λv hv=>(EC.mp nd).1 (JP hv).1,if_neg hk]
  simp
 | p :: P,w :: vs,i+1,m,nd,h1,h2,hk=>by
  show bindC kindOf ((p,w) :: P.zip vs) m x=_
  unfold bindC
  exact mG (i:=i) (EC.mp nd).2 (by simpa using h1) (by simpa using h2) hk
def start (N:List Str)(vs:List V):St:=vs.map some++D5 (N.length-vs.length) none
def pJ (CX:CXT)(P:Dp)(w:DW)(K:CZ)(mg:Str->Option CU)(base:Heap)(N:List Str)(qual:Str)(scope:Scope)(f:Addr)(cd:CU)(A:Ec)(outer:List Env)(s:CW)(H:Hp)(E:XK):Cx where
 prog:=P
 w:=w
 K:=K
 mg:=mg
 base:=base
 A:=A.deeper (envOfC qual scope s.heap.objs.size f cd)
 N:=N
 s₀:=s
 H₀:=H
 env:=envOfC qual scope s.heap.objs.size f cd
 outer:=outer
 stack:=envOfC qual scope s.heap.objs.size f cd :: outer
 ex:=[]
 calm:=true
 fn:=λ_=>true
 pn:=[]
 xe:=λe s'=>Dn (DG P w) (A.deeper (envOfC qual scope s.heap.objs.size f cd)) (leaving (envOfC qual scope s.heap.objs.size f cd) e) (λ_ s''=>CX outer H s E e s'') (λe' s''=>CX outer H s E e' s'') s'
theorem pK {sc:Scope}{n:Nat}{x:Str}(h:sc.names.lookup x=some .cell):∃c,(cellsFrom n sc.names []).lookup x=some c:=by
 have q:=JI sc.names n [] (.inl h)
 exact Je.mp q
theorem ve {CX:CXT}{P:Dp}{w:DW}{K:CZ}{mg:Str->Option CU}{base:Heap}{N ps:List Str}{qual:Str}{scope:Scope}{f:Addr}{cd:CU}{A:Ec}{outer:List Env}{s s1:CW}{H:Hp}{E:XK}{us:List CU}{vs:List V}
  (S:aF N ps scope) (hd:A.handled=none) (e0:yT P w K mg base A outer s H) (hl:vs.length=ps.length) (r:Vals vs us)
  (x:InCallC s s.heap.objs.size (bindL (envOfC qual scope s.heap.objs.size f cd).kindOf (ps.zip us) λ_=>none) (cellsFrom (s.heap.objs.size+1) scope.names []) (bindC (envOfC qual scope s.heap.objs.size f cd).kindOf (ps.zip us) λ_=>none) s1) :
  Inv (pJ CX P w K mg base N qual scope f cd A outer s H E) [] (start N vs) H s1:=by
 have hpl:ps.length<=N.length:=by have:=congrArg List.length S.pre;rw[D6] at this;lia
 obtain ⟨h1,tk,rfl,hk⟩:=x.done
 have noA:∀b:Addr,b∉(pJ CX P w K mg base N qual scope f cd A outer s H E).ex:=λb z=>absurd (show b∈([]:List Addr) from z) (by simp)
 refine ⟨⟨e0.mod,S.kind,rfl,rfl,C0 _,λy z c h1 h2 =>?_,λy hy =>?_,λy c _ h =>?_,λ_=>hd,Around.frames_deeper e0.frames,.inr ⟨rfl,rfl⟩,λb z=>absurd z (noA b),e0.bs,e0.bsz,λb _ _=>noA b,λb z=>absurd z (noA b),e0.funs,e0.frf⟩,
  rfl,e0.bare,Un.kept hk,⟨_,x.toInCall.ns,λi y v h1 h2 h3 =>?_⟩,λy c h=>⟨_,x.cell y c h⟩,e0.hok.fresh (C0 _),λy c h =>?_,λp hp=>absurd (show p∈([]:List (Addr×Obj)) from hp) (by simp),e0.hok.kept hk,?_⟩
 ·exact name_of_addr x.apart (F2 h1) (F2 h2)
 ·have hy:scope.names.lookup y=some .cell\/scope.names.lookup y=some .free:=hy
  rcases hy with hy | hy
  ·exact pK hy
  ·exact absurd rfl (S.nofree _ (F2 hy))
 ·exact GZ (x.above y c (F2 h))
 ·have hi:i<vs.length:=by
   unfold start at h2
   by_cases hi:i<vs.length
   ·exact hi
   ·rw[DI (by simpa using hi)] at h2
    rw[HG] at h2
    split at h2 <;> cases h2
  have ha:vs[i]? = some v:=by
   unfold start at h2
   rw[DC (by simpa using hi),C8] at h2
   cases e:vs[i]? with
   | none=>rw[e] at h2;cases h2
   | some a=>rw[e] at h2;cases h2;rfl
  obtain ⟨u,hu,rv⟩:=r.get ha
  have hp:ps[i]? = some y:=by
   rw[<- S.pre,List.getElem?_take_of_lt (by lia)];exact h1
  have ndP:ps.Nodup:=by rw[<- S.pre];exact S.nd.sublist (EI _ _)
  refine ⟨u,rv,?_⟩
  rcases S.par y (C7 hp) with k | k
  ·exact .inl ⟨k,mF ndP hp hu k⟩
  ·obtain ⟨c,e⟩:=pK (n:=s.heap.objs.size+1) k
   refine .inr ⟨.inl k,c,e,?_⟩
   have q:=x.cell y c e
   rw[mG ndP hp hu (by show scope.names.lookup y≠_;rw[k];decide)] at q
   exact q
 ·exact e0.hok.fresh (GZ (x.above y c (F2 h)))
 ·unfold start
  show _=N.length
  rw[C1,CS,Gd]
  lia
theorem B8 {CX:CXT}{P:Dp}{w:DW}{K:CZ}{mg:Str->Option CU}{base:Heap}{k:Nat}{f:Addr}{name qual:Str}{params:Arguments}{body:List Stmt}{scope:Scope}{dV kV doc pm cdv ct oc:CU}{an od:Option Addr}
  {osl:Array (Option CU)} {N ps:List Str} {sp:Sp} (lk:K.lookup f=some ⟨oc,od,.func (PySem.W.fnOf name qual params body scope dV kV doc pm an cdv ct),osl⟩) (hcd:PySem.W.codeIn K cdv qual=true) (S:aF N ps scope)
  (len:∀vs H Q E,sp vs H Q E->vs.length=ps.length)
  (hbody:∀(A:Ec) (outer:List Env) (s:CW) (H:Hp) (vs:List V) (Q:VK) (E:XK),dF k (A.deeper (envOfC qual scope s.heap.objs.size f cdv))->sp vs H Q E →
   ∃t,PSs (pJ CX P w K mg base N qual scope f cdv A outer s H E) body t/\t { nx:=λ_ H'=>Q .non H',rt:=Q } (start N vs) H) :
  bF P w K mg base CX (k+1) f (PySem.W.fnOf name qual params body scope dV kV doc pm an cdv ct) ps sp:=by
 refine ⟨len,λA outer s H args us vs Q E hr e0 hb r hsp =>?_⟩
 have hl:=len _ _ _ _ hsp
 have KX:K.In s.heap:=e0.mod.kin.keeps λb o e=>(e0.bs b o e).1
 have lim:s.heap.NoLimit:=e0.mod.nolimit.keeps λb o e=>(e0.bs b o e).1
 have hkind:∀y∈ps.zip us,scope.names.lookup y.1=some .local\/(scope.names.lookup y.1=some .cell/\((cellsFrom (s.heap.objs.size+1) scope.names []).lookup y.1).isSome=true):=λ⟨n,v⟩ hy=>by
  rcases S.par n (JP hy).1 with q | q
  ·exact .inl q
  ·exact .inr ⟨q,JI _ _ _ (.inl q)⟩
 refine codeAny_call_function hr.depth (KX _ _ lk) rfl S.co S.gen rfl (PySem.W.codeRec_of KX hcd) (hb _ _ _ _ ?_)
 refine wpAny_newFunctionEnv_cells S.kind hkind λenv he s1 x =>?_
 subst he
 refine ⟨lim.keeps x.toInCall.keep,codeAny_func ?_⟩
 obtain ⟨t,ht,hq⟩:=hbody A outer s H vs Q E (hr.deeper _) hsp
 have I:Inv (pJ CX P w K mg base N qual scope f cdv A outer s H E) [] (start N vs) H s1:=ve S hr.hd e0 hl r x
 refine FG (ht [] s1 (start N vs) H _ I hq) (λfl s' hs =>?_) λe s' hs=>hs
 have fin:∀{σ':St} {H':Hp} {v:V} {u:CU},Inv (pJ CX P w K mg base N qual scope f cdv A outer s H E) [] σ' H' s'->RelV v u->Q v H'->CE outer P w H s Q u s' :=
  λ{σ' H' v u} J rv q=>⟨v,H',J.os,J.bare,J.base,J.hok,rv,q⟩
 cases fl with
 | ret u =>
  obtain ⟨v,σ',H',J,rv,q⟩:=hs
  exact fin J rv q
 | next =>
  obtain ⟨σ',H',J,q⟩:=hs
  exact fin (v:=V.non) (u:=E6) J rfl q
 | brk =>
  obtain ⟨_,_,_,q⟩:=hs
  exact False.elim q
 | cont =>
  obtain ⟨_,_,_,q⟩:=hs
  exact False.elim q
open PySem PySem.Spec PyProof.Rows
section
variable  {X:Cx}{x:Str}{p pos:Pos}{e:Expr}{es:List Expr}{t:TA}{id T:String}{r:List V->Hp->VK->Prop}
def tCB (r:List V->Hp->VK->Prop)(t:TA):TE:=λσ H Q=>t σ H λvs H1=>r vs H1 Q
theorem aB (hc:bB X (.builtin id) r)(hg:Gl X x)(hm:X.mg x=none)(hv:Ez x=some (.builtin id))(ha:PA X (e :: es) t)(hn:x ≠ "__name__" := by decide)(hdb:(x == ("__debug__" : Str))=false:=by decide)
  (he:En (e :: es) X.env=(false,eval e X.env) :: En es X.env:=by rfl) (hpl:(Ig pos (En es X.env)).any (·.1)=false:=by rfl):PE X (.Call (.Name x p) (e :: es) [] pos) (tCB r t):=by
 intro pins s σ H Q I h
 refine Gn (d8 I hg hm hv ?_ hn hdb)
 exact PyProof.Rows.callWith_builtin1 (thn (ha pos pins s σ H _ I h) λus s1 ⟨vs,H1,I1,r1,q1⟩=>hc pins s1 σ H1 vs us Q I1 r1 q1) he hpl
theorem aS (hc:bB X (.type T) r)(hg:Gl X x)(hm:X.mg x=none)(hv:Ez x=some (.type T))(ha:PA X (e :: es) t)(hn:x ≠ "__name__" := by decide)(hdb:(x == ("__debug__" : Str))=false:=by decide)
  (he:En (e :: es) X.env=(false,eval e X.env) :: En es X.env:=by rfl) (hpl:(Ig pos (En es X.env)).any (·.1)=false:=by rfl):PE X (.Call (.Name x p) (e :: es) [] pos) (tCB r t):=by
 intro pins s σ H Q I h
 refine Gn (d8 I hg hm hv ?_ hn hdb)
 exact EH (thn (ha pos pins s σ H _ I h) λus s1 ⟨vs,H1,I1,r1,q1⟩=>hc pins s1 σ H1 vs us Q I1 r1 q1) he hpl
end
end L2
namespace HT
open PySem PyProof.Rows
def lexLt:List Int->List Int->Bool
 | [],[]=>false
 | [],_ :: _=>true
 | _ :: _,[]=>false
 | x :: xs,y :: ys=>if x=y then lexLt xs ys else decide (x<y)
theorem dG (x y:Int)(xs ys:List Int):lexLt (x :: xs) (y :: ys)=if x=y then lexLt xs ys else decide (x<y):=rfl
theorem lU:lexLt [] []=false:=rfl
theorem kA (y:Int)(ys:List Int):lexLt [] (y :: ys)=true:=rfl
theorem kB (x:Int)(xs:List Int):lexLt (x :: xs) []=false:=rfl
theorem wR (A:Ec)(s:CW)(a:Int)(t:Tok)(c:Int)(u:Tok):∃e,Ki A s (.int a t) (.int c u) e/\(e=true↔a=c) :=
 ⟨(a == c),GX a t c u,by simp⟩
theorem pL (A:Ec)(s:CW)(a:Int)(t:Tok)(c:Int)(u:Tok)(prog:Dp)(w:DW)(E:CU->CW->Prop)(Q:CU->CW->Prop)(h:Q (.bool (decide (a<c))) s) :
  Dn (DG prog w) A (richCompare .Lt (.int a t) (.int c u)) Q E s :=
 (PyProof.Rows.lt_int h:Dn (DG prog w) A (E3 .Lt (.int a t) (.int c u)) Q E s)
section
open PySem.SeqAt
open PySem.AutoSeq1 (wpAny_loadPart')
open PySem.MeetsSeq PySem.MeetsSeq2 PySem.MeetsSeq3
theorem lV (l b:Addr)(items items2:Array CU)(n n2:Nat)(dd dd2:Option Addr)(sl sl2:Array (Option CU))(ns ms:List Int)(hi:FH items.toList ns)(hj:FH items2.toList ms) :
  Meets (Builtin.«tuple.__lt__» ⟨[.ref l,.ref b],[]⟩)
   (λ_ R s=>s.heap.get? l=some { cls :=.type "tuple",dict:=dd,data :=.seq items n,slots:=sl }/\s.heap.get? b=some { cls :=.type "tuple",dict:=dd2,data :=.seq items2 n2,slots:=sl2 } ∧
    R (.ok (.ret (.bool (lexLt ns ms)))) s) :=
 .of_wp λprog w A R s h=>by
  obtain ⟨hp,g,d,tk,os⟩:=s;obtain ⟨hl,hb,h⟩:=h
  have f2:=AutoSeq1.sub_tuple_tuple
  have z1:items.size=ns.length:=by rw[<- hi.length];simp
  have z2:items2.size=ms.length:=by rw[<- hj.length];simp
  wp_walk using wpAny_loadPart' hl,wpAny_loadPart' hb,Hs _ (λrest b s'=>b.1=none/\s'=⟨hp,g,d,tk,os⟩/\∃(vs ws:List CU) (ns' ms':List Int),rest=vs.zip ws ∧
   FH vs ns'/\FH ws ms'/\ns'.length+items2.size=ms'.length+items.size/\R (.ok (.ret (.bool (lexLt ns' ms')))) ⟨hp,g,d,tk,os⟩) _
  case turn =>
   rintro ⟨y,x⟩ rest b s' ⟨hb',rfl,vs,ws,ns',ms',hz,hvi,hwi,hlen,hR⟩
   cases hvi with
   | nil=>rw[List.zip_nil_left] at hz;cases hz
   | cons a t hvi' =>
    cases hwi with
    | nil=>rw[List.zip_nil_right] at hz;cases hz
    | cons c u hwi' =>
     rw[HH] at hz
     injection hz with hyx hrest
     injection hyx with hy hx
     subst hy hx
     rw[dG] at hR
     simp only[DF] at hlen
     obtain ⟨e,he,hiff⟩:=wR A.in1 ⟨hp,g,d,tk,os⟩ a t c u
     refine CP (he prog w _ _ ?_)
     cases e with
     | true =>
      rw[if_pos (hiff.mp rfl)] at hR
      wp_walk
      exact ⟨rfl,rfl,_,_,_,_,hrest,hvi',hwi',by lia,hR⟩
     | false =>
      rw[if_neg (λq=>absurd (hiff.mpr q) Di)] at hR
      have hri:=pL A.in1 ⟨hp,g,d,tk,os⟩ a t c u prog w
      wp_walk using hri
      exact ⟨_,rfl,by simpa using hR⟩
  case fin =>
   rintro ⟨b1,b2⟩ s' ⟨hb',rfl,vs,ws,ns',ms',hz,hvi,hwi,hlen,hR⟩
   simp only at hb'
   subst hb'
   have hv:lexLt ns' ms'=decide (items.size<items2.size):=by
    cases hvi with
    | nil =>
     cases hwi with
     | nil =>
      simp only[FL] at hlen
      rw[lU]
      exact (decide_eq_false (by lia)).symm
     | cons c u hw =>
      simp only[FL,DF] at hlen
      rw[kA]
      exact (decide_eq_true (by lia)).symm
    | cons a t hv =>
     cases hwi with
     | nil =>
      simp only[FL,DF] at hlen
      rw[kB]
      exact (decide_eq_false (by lia)).symm
     | cons c u hw =>
      rw[HH] at hz
      cases hz
   rw[hv] at hR
   wp_walk
   exact ⟨_,rfl,by simpa [Builtin.Tuple.tupleCompareSizes] using hR⟩
  case h =>
   exact ⟨rfl,rfl,items.toList,items2.toList,ns,ms,rfl,hi,hj,by lia,h⟩
end
section
variable  {prog:Dp}{w:DW}{A:Ec}{E:CU->CW->Prop}{s:CW}
theorem rJ {l b:Addr}{items items2:Array CU}{ns ms:List Int}{Q:CU->CW->Prop}(hl:IsTup s.heap l items)(hb:IsTup s.heap b items2)(hi:FH items.toList ns)(hj:FH items2.toList ms)
  (hu:A.units<cLine) (h:Q (.bool (lexLt ns ms)) s):Dn (DG prog w) A (E3 .Lt (.ref l) (.ref b)) Q E s:=by
 obtain ⟨⟨cls,dd,data,sl⟩,ho,hc,n,hd⟩:=id hl
 obtain ⟨⟨cls2,dd2,data2,sl2⟩,ho2,hc2,n2,hd2⟩:=id hb
 simp only at hc hd hc2 hd2
 subst hc hd hc2 hd2
 exact Ga (op :=.Lt) ⟨_,ho,rfl⟩ ⟨_,ho2,rfl⟩ PySem.F.slot_tuple_lt PySem.F.entry_tuple_lt (PySem.F.args_tuple_lt_2 _ _) (lV l b items items2 n n2 dd dd2 sl sl2 ns ms hi hj)
  ⟨ho,ho2,show Value.bool (lexLt ns ms)≠Value.notImplemented/\Q (.bool (lexLt ns ms)) s from ⟨(λx=>nomatch x),h⟩⟩ hu
theorem yV {t b:Addr}{vs ws:List CU}{Q:CU->CW->Prop}(ht:IsTup s.heap t vs.toArray)(hb:IsTup s.heap b ws.toArray)(hv:vs≠[])
  (h1:ws=[]->Q (.ref t) s) (h2:ws≠[]->Q (.ref s.heap.objs.size) { s with heap:=s.heap.push { cls :=.type "tuple",data :=.seq (vs++ws).toArray } })
  (hsz:vs.length+ws.length<=Dl):Dn (DG prog w) A (binaryOp .Add (.ref t) (.ref b)) Q E s:=by
 obtain ⟨⟨cls,dd,data,sl⟩,ho,hc,n,hd⟩:=id ht
 obtain ⟨⟨cls2,dd2,data2,sl2⟩,ho2,hc2,n2,hd2⟩:=id hb
 simp only at hc hd hc2 hd2
 subst hc hd hc2 hd2
 have e:vs.toArray++ws.toArray=(vs++ws).toArray:=by simp
 by_cases hw:ws=[]
 ·exact Kb ⟨_,ho,rfl⟩ ⟨_,ho2,rfl⟩ JF KS HR HI (Hx _ _)
   (tuple_addW1 t b vs.toArray ws.toArray n n2 dd dd2 sl sl2 (by simpa using hv) (by simp[hw])) ⟨ho,ho2,h1 hw⟩
 ·refine Kb ⟨_,ho,rfl⟩ ⟨_,ho2,rfl⟩ JF KS HR HI (Hx _ _)
   (tuple_addW2 t b vs.toArray ws.toArray n n2 dd dd2 sl sl2 (by simpa using hv) (by simpa using hw) (by rw[De,De];exact hsz)) ⟨ho,ho2,?_⟩
  rw[e]
  exact h2 hw
def sIx (n d:Nat):Option Int->Nat
 | none=>d
 | some v=>if v<0 then (v+(n:Int)).toNat else min v.toNat n
theorem A0 (n d:Nat)(hd:d<=n)(o:Option Int):sIx n d o<=n:=by
 cases o with
 | none=>exact hd
 | some v =>
  show (if v<0 then (v+(n:Int)).toNat else min v.toNat n)<=n
  by_cases hv:v<0
  ·rw[if_pos hv];lia
  ·rw[if_neg hv];exact Nat.min_le_right _ _
theorem tJ (v:Int)(n d:Nat):(if v<0 then max (v+(n:Int)) 0 else min v (n:Int))=((sIx n d (some v):Nat):Int):=by
 show (if v<0 then max (v+(n:Int)) 0 else min v (n:Int))=(((if v<0 then (v+(n:Int)).toNat else min v.toNat n):Nat):Int)
 by_cases hv:v<0
 ·simp only[if_pos hv];lia
 ·simp only[if_neg hv];lia
theorem rL (lo hi:Option Int)(n:Nat):Builtin.Slice.sliceAdjust lo hi 1 (n:Int)=(((sIx n 0 lo:Nat):Int),((sIx n n hi:Nat):Int)):=by
 have h1:¬ ((1:Int)<0):=by lia
 unfold Builtin.Slice.sliceAdjust
 simp only[h1,if_false]
 refine KG ?_ ?_
 ·cases lo with
  | none=>rfl
  | some v=>exact tJ v n 0
 ·cases hi with
  | none=>rfl
  | some v=>exact tJ v n n
theorem rM (i j:Nat):Builtin.Slice.slicePlaces (i:Int) (j:Int) 1=j-i:=by
 unfold Builtin.Slice.slicePlaces
 have h1:(1:Int)>0:=by lia
 simp only[h1,if_true,Int.ediv_one]
 split <;> lia
theorem kD {v:CU}{o:Option Int}{Q:Option Int->CW->Prop}(p:IsPart v o)(h:Q o s):Dn (DG prog w) A (Builtin.Slice.slicePartIndex v) Q E s:=by
 cases p with
 | none=>exact slicePart_none h
 | int i t=>exact slicePart_int h
theorem eI {sl:Addr}{vl vu:CU}{lo hi:Option Int}{n:Nat}{Q:Int×Int×Nat->CW->Prop}(hs:s.heap.IsSliceOf sl vl vu .none)(pl:IsPart vl lo)(pu:IsPart vu hi)
  (h:Q (((sIx n 0 lo:Nat):Int),1,sIx n n hi-sIx n 0 lo) s):Dn (DG prog w) A (Builtin.Slice.sliceApplied (.ref sl) (pure (n:Int))) Q E s:=by
 obtain ⟨os,hos,hcs,hds⟩:=id hs
 unfold Builtin.Slice.sliceApplied Builtin.Slice.sliceFields
 refine CP (CP (EA hos hds (x:=vl) rfl (CP (EA hos hds (x:=vu) rfl (CP (EA hos hds (x :=.none) rfl (CT ?_)))))))
 refine CP (slicePart_none ?_)
 show Dn _ _ (if ((1:Int) == 0)=true then _ else _) _ _ s
 rw[if_neg (by decide)]
 refine CP (kD pl (CP (kD pu (CP (CT ?_)))))
 show Dn _ _ (match Builtin.Slice.sliceAdjust lo hi 1 (n:Int) with | (lo,hi)=>pure (lo,(1:Int),Builtin.Slice.slicePlaces lo hi 1)) _ _ s
 rw[rL lo hi n]
 show Dn _ _ (pure (((sIx n 0 lo:Nat):Int),(1:Int),Builtin.Slice.slicePlaces ((sIx n 0 lo:Nat):Int) ((sIx n n hi:Nat):Int) 1)) _ _ s
 rw[rM]
 exact CT h
theorem wU (xs:Array CU)(i k:Nat):((EF k).filterMap λ(m:Nat)=>xs[((i:Int)+(m:Int)*1).toNat]?).toArray=((xs.toList.drop i).take k).toArray:=by
 have e:(λ(m:Nat)=>xs[((i:Int)+(m:Int)*1).toNat]?)=λm=>xs[i+m]? := by
  funext m
  have:((i:Int)+(m:Int)*1).toNat=i+m:=by lia
  rw[this]
 rw[e]
 have:=pick_run xs i k
 rw[KH] at this
 have e2:((λx=>xs[x]?) ∘ λx=>i+x)=λm=>xs[i+m]? := rfl
 rw[e2] at this
 rw[this]
theorem iw {t sl:Addr}{items:Array CU}{vl vu:CU}{lo hi:Option Int}{Q:CU->CW->Prop}(ht:IsTup s.heap t items)(hs:s.heap.IsSliceOf sl vl vu .none)(pl:IsPart vl lo)(pu:IsPart vu hi)
  (hw:¬ (sIx items.size 0 lo=0/\sIx items.size items.size hi=items.size))
  (h:Q (.ref s.heap.objs.size) { s with heap:=s.heap.push { cls :=.type "tuple",data :=.seq ((items.toList.drop (sIx items.size 0 lo)).take (sIx items.size items.size hi-sIx items.size 0 lo)).toArray } })
  (hsz:items.size<=Dl):Dn (DG prog w) A (getItem (.ref t) (.ref sl)) Q E s:=by
 have htake:sizeOk (.seq ((items.toList.drop (sIx items.size 0 lo)).take (sIx items.size items.size hi-sIx items.size 0 lo)).toArray):=by
  show ((items.toList.drop (sIx items.size 0 lo)).take (sIx items.size items.size hi-sIx items.size 0 lo)).toArray.size<=Dl
  rw[De,D6,Ea,C6]
  omega
 have hj:sIx items.size items.size hi<=items.size:=A0 _ _ (C0 _) hi
 obtain ⟨os,hos,hcs,hds⟩:=id hs
 have hTs:s.TypeIs (.ref sl) "slice" :=⟨os,hos,hcs⟩
 unfold getItem
 try with_reducible refine Er ?_
 first | refine CP (CT ?_) | skip
 refine CP (Li ht.typeIs (by decide) ?_)
 refine CP (Et (name:=Str.ofString "__getitem__") ht.typeIs Ej
  (Ef Ej ht.typeIs entry_tuple_getitem ?_ (KU _ _)))
 show Dn _ _ (Builtin.Tuple.tupleItemsOf (.ref t) >>= _) _ _ s
 refine CP (tupleItemsOf_ ht ?_)
 refine CP (Fx hTs ?_)
 rw[if_pos (by decide)]
 refine CP (eI hs pl pu ?_)
 have hno:¬ ((((sIx items.size 0 lo:Nat):Int) == 0 && (1:Int) == 1 && (sIx items.size items.size hi-sIx items.size 0 lo) == items.size)=true):=by
  intro q
  rw[Ey,Ey] at q
  have q1:((sIx items.size 0 lo:Nat):Int)=0:=eq_of_beq q.1.1
  have q2:sIx items.size items.size hi-sIx items.size 0 lo=items.size:=eq_of_beq q.2
  exact hw ⟨by omega,by omega⟩
 show Dn _ _ (if (((sIx items.size 0 lo:Nat):Int) == 0 && (1:Int) == 1 && (sIx items.size items.size hi-sIx items.size 0 lo) == items.size)=true then _ else _) _ _ s
 rw[if_neg hno,wU]
 first
  | exact CP (m:=Builtin.Tuple.tupleExact _) (DP (CT ⟨_,rfl,CT h⟩) htake)
  | exact CP (m:=Builtin.Tuple.tupleExact _) (DP (CP (CT (CT ⟨_,rfl,CT h⟩))) htake)
  | exact CP (CP (m:=Builtin.Tuple.tupleExact _) (DP (CT (CT ⟨_,rfl,CT h⟩)) htake))
  | exact CP (CP (m:=Builtin.Tuple.tupleExact _) (DP (CT ⟨_,rfl,CT h⟩) htake))
end
end HT
namespace L2
open PySem PySem.Spec PyProof.Rows
abbrev TO:=St->Hp->(Option Int->Hp->Prop)->Prop
def PO (X:Cx)(e:Option Expr)(t:TO):Prop :=
 ∀(pins:List (Addr×Obj)) (s:CW) (σ:St) (H:Hp) (Q:Option Int->Hp->Prop),Inv X pins σ H s->t σ H Q →
  Dn (DG X.prog X.w) X.A (evalPart e X.env) (λu s'=>∃o H',Inv X pins σ H' s'/\IsPart u o/\Q o H') X.xe s
def yW:TO:=λ_ H Q=>Q none H
def B9 (t:TE):TO:=λσ H Q=>t σ H λx H1=>∃i,x = .int i/\Q (some i) H1
theorem intsAre_of {ns:List Int}:∀{us:List CU},Vals (ns.map V.int) us->FH us ns:=by
 induction ns with
 | nil=>intro us r;rw[JQ] at r;cases r;exact .nil
 | cons n ns ih =>
  intro us r
  rw[DK] at r
  cases r with
  | cons r1 r2 =>
   obtain ⟨t,e⟩:=r1
   subst e
   exact .cons n t (ih r2)
section
variable  {X:Cx}{e:Expr}{te:TE}{lo hi:Option Expr}{tl th:TO}{pos p2:Pos}
theorem cC:PO X none yW:=by
 intro pins s σ H Q I h
 rw[evalPart_none]
 exact CT ⟨none,H,I,.none,h⟩
theorem bU (h:PE X e te):PO X (some e) (B9 te):=by
 intro pins s σ H Q I hw
 rw[evalPart_some]
 refine thn (h pins s σ H _ I hw) λu s1 ⟨x,H1,I1,r1,q1⟩ =>?_
 obtain ⟨i,rfl,q⟩:=q1
 obtain ⟨t,rfl⟩:=r1
 exact ⟨some i,H1,I1,.int i t,q⟩
def SlR (X:Cx)(r:V->Option Int->Option Int->Hp->VK->Prop):Prop :=
 ∀(pins:List (Addr×Obj)) (s:CW) (σ:St) (H:Hp) (x:V) (v vl vu:CU) (lo hi:Option Int) (sl:Addr) (Q:VK),Inv X pins σ H s->RelV x v->s.heap.IsSliceOf sl vl vu .none->IsPart vl lo->IsPart vu hi->r x lo hi H Q →
  ∃T id,typeLookup (.type T) "__getitem__" = pure (some (.builtin id))/\s.TypeIs v T/\Dn (DG X.prog X.w) X.A (getItem v (.ref sl)) (EP X pins σ Q) X.xe s
def tSl (r:V->Option Int->Option Int->Hp->VK->Prop)(te:TE)(tl th:TO):TE:=λσ H Q=>te σ H λx H1=>tl σ H1 λl H2=>th σ H2 λu H3=>r x l u H3 Q
theorem bP {r:V->Option Int->Option Int->Hp->VK->Prop}(hr:SlR X r)(he:PE X e te)(hl:PO X lo tl)(hu:PO X hi th):PE X (.Subscript e (.Slice lo hi none p2) pos) (tSl r te tl th):=by
 intro pins s σ H Q I h
 refine Subscript_ (thn (he pins s σ H _ I h) λv s1 ⟨x,H1,I1,r1,q1⟩ =>?_)
 refine wpAny_Slice (thn (hl pins s1 σ H1 _ I1 q1) λvl s2 ⟨l,H2,I2,pl,q2⟩=>thn (hu pins s2 σ H2 _ I2 q2) λvu s3 ⟨u,H3,I3,pu,q3⟩ =>?_)
 rw[evalPart_none]
 refine CT ?_
 have I4:Inv X pins σ H3 { s3 with heap:=s3.heap.push { cls :=.type "slice",data :=.fields #[vl,vu,.none] } }:=I3.kept (t':=s3.toks) λb ob q=>CQ _ q
 obtain ⟨T,id,hT,ht,hg⟩:=hr pins { s3 with heap:=s3.heap.push { cls :=.type "slice",data :=.fields #[vl,vu,.none] } } σ H3 x v vl vu l u s3.heap.objs.size Q I4 r1 (Mo ..) pl pu q3
 show Dn (DG X.prog X.w) X.A (subscriptTail e (.Slice lo hi none p2) v (.ref s3.heap.objs.size)) (EP X pins σ Q) X.xe { s3 with heap:=s3.heap.push { cls :=.type "slice",data :=.fields #[vl,vu,.none] } }
 exact tail_any (ops:=[.ref s3.heap.objs.size,v]) ht hT hg (by with_unfolding_all rfl)
def e6 (xs:List V)(lo hi:Option Int):List V:=(xs.drop (HT.sIx xs.length 0 lo)).take (HT.sIx xs.length xs.length hi-HT.sIx xs.length 0 lo)
theorem jH (xs:List V)(lo hi:Option Int):(e6 xs lo hi).length<=xs.length:=by
 unfold e6
 rw[D6,Ea]
 lia
def rSlT (K:CZ):V->Option Int->Option Int->Hp->VK->Prop:=λx lo hi H Q=>∃a xs,x = .ref a/\SqT K H a xs ∧
 ¬ (HT.sIx xs.length 0 lo=0/\HT.sIx xs.length xs.length hi=xs.length)/\∀p,H p=none->Q (.ref p) (upd H p (.tup (e6 xs lo hi)))
theorem A1:SlR X (rSlT X.K):=by
 intro pins s σ H x v vl vu lo hi sl Q I rx hs pl pu h
 obtain ⟨a,xs,rfl,hx,hw,q⟩:=h
 cases rx
 obtain ⟨its,r,ht,hz⟩:=I.tuple hx
 have hlen:its.toArray.size=xs.length:=by rw[De];exact r.length.symm
 refine ⟨"tuple",_,Ej.lookup,ht.typeIs,?_⟩
 refine HT.iw ht hs pl pu (by rw[hlen];exact hw) ?_ (by rw[hlen];exact hz)
 rw[hlen]
 refine ⟨.ref s.heap.objs.size,_,I.laid (t':=s.toks) (o :=.tup (e6 xs lo hi)) (λb ob q=>CQ _ q) (C0 _) ?_,rfl,q _ (I.hok.fresh (C0 _))⟩
 exact ⟨DZ (jH xs lo hi) hz,_,(r.drop (HT.sIx xs.length 0 lo)).take (HT.sIx xs.length xs.length hi-HT.sIx xs.length 0 lo),dA.new _ _⟩
def Ca (K:CZ):R2:=λx y H Q=>∃a b xs ys,x = .ref a/\y = .ref b/\SqT K H a xs/\SqT K H b ys/\xs≠[]/\xs.length+ys.length<=Dl ∧
 (ys=[]->Q (.ref a) H)/\(ys≠[]->∀p,H p=none->Q (.ref p) (upd H p (.tup (xs++ys))))
theorem Vals.j0 {xs:List V}{us:List CU}(r:Vals xs us):us=[]↔xs=[]:=by
 cases r with
 | nil=>simp
 | cons _ _=>simp
theorem yX:OpR X (binaryOp .Add) (Ca X.K):=by
 intro pins s σ H x y v u Q I rx ry h
 obtain ⟨a,b,xs,ys,rfl,rfl,ha,hb,hx,hz,q1,q2⟩:=h
 cases rx
 cases ry
 obtain ⟨its,r1,p1,_⟩:=I.tuple ha
 obtain ⟨its2,r2,p2,_⟩:=I.tuple hb
 refine HT.yV p1 p2 (λz=>hx (r1.j0.mp z)) (λz=>⟨.ref a,H,I,rfl,q1 (r2.j0.mp z)⟩) (λz =>?_) (by rw[<- r1.length, <- r2.length];exact hz)
 refine ⟨.ref s.heap.objs.size,_,I.laid (t':=s.toks) (o :=.tup (xs++ys)) (λb ob q=>CQ _ q) (C0 _) ?_,rfl,q2 (λw=>z (r2.j0.mpr w)) _ (I.hok.fresh (C0 _))⟩
 exact ⟨by rw[C1];exact hz,_,r1.append r2,dA.new _ _⟩
end
open PySem PySem.Spec PyProof.Rows
def ixN (n:Nat)(i:Int):Option Nat:=if 0<=i then (if i<n then some i.toNat else none) else if -(n:Int)<=i then some (i+n).toNat else none
def atI {α:Type}(xs:List α)(i:Int):Option α:=(ixN xs.length i).bind λj=>xs[j]?
theorem tK {n:Nat}{i:Int}{j:Nat}(h:ixN n i=some j):seqIndex? i n=some j/\j<n /\ -(n:Int)<=i/\i<n:=by
 unfold ixN at h
 by_cases h0:0<=i
 ·rw[if_pos h0] at h
  by_cases h1:i<n
  ·rw[if_pos h1] at h
   have e:i.toNat=j:=DB h
   exact ⟨by rw[Kw h0 h1,e],by lia,by lia,h1⟩
  ·rw[if_neg h1] at h;cases h
 ·rw[if_neg h0] at h
  by_cases h1 : -(n:Int)<=i
  ·rw[if_pos h1] at h
   have e:(i+n).toNat=j:=DB h
   exact ⟨by rw[Ln (by lia) h1,e],by lia,h1,by lia⟩
  ·rw[if_neg h1] at h;cases h
theorem tL {α:Type}{xs:List α}{i:Int}{v:α}(h:atI xs i=some v):∃j,seqIndex? i xs.length=some j/\xs[j]? = some v/\j<xs.length /\ -(xs.length:Int)<=i/\i<xs.length:=by
 unfold atI at h
 cases e:ixN xs.length i with
 | none=>rw[e] at h;cases h
 | some j =>
  rw[e] at h
  obtain ⟨h1,h2,h3,h4⟩:=tK e
  exact ⟨j,h1,h,h2,h3,h4⟩
theorem da {α:Type}{xs:List α}{j:Nat}{v:α}(h:xs[j]? = some v):atI xs (j:Int)=some v:=by
 have hj:j<xs.length:=(C9.mp h).1
 have e:ixN xs.length (j:Int)=some j:=by
  unfold ixN
  rw[if_pos (by lia),if_pos (by lia)];simp
 unfold atI;rw[e];exact h
def yY (b:Expr):Prop:=∀o i,subscripted b false o i=operate [o,i] (getItem o i)
def IxR (X:Cx)(r:R2):Prop :=
 ∀(value slice:Expr) (pins:List (Addr×Obj)) (s:CW) (σ:St) (H:Hp) (x y:V) (v u:CU) (Q:VK),Inv X pins σ H s->RelV x v->RelV y u->r x y H Q →
  subscripted slice false v u=operate [v,u] (getItem v u)->Dn (DG X.prog X.w) X.A (subscriptTail value slice v u) (EP X pins σ Q) X.xe s
def MtR (X:Cx)(id:String)(r:V->List V->Hp->VK->Prop):Prop :=
 ∀(pins:List (Addr×Obj)) (s:CW) (σ:St) (H:Hp) (x:V) (xs:List V) (v:CU) (us:List CU) (Q:VK),Inv X pins σ H s->RelV x v->Vals xs us->r x xs H Q →
  Dn (DG X.prog X.w) X.A (call (.builtin id) (v :: us)) (EP X pins σ Q) X.xe s
section
variable  {X:Cx}{a b:Expr}{ta tb:TE}{pos:Pos}
theorem aL {r:R2}(hr:IxR X r)(ha:PE X a ta)(hb:PE X b tb)(hs:yY b):PE X (.Subscript a b pos) (tOp r ta tb):=by
 intro pins s σ H Q I h
 exact Subscript_ (AO ha hb I h λv u s2 x y H2 I2 rx ry q=>hr a b pins s2 σ H2 x y v u Q I2 rx ry q (hs _ _))
def Cb (K:CZ):R2:=λx y H Q=>∃p xs i v,x = .ref p/\y = .int i/\SqL K H p xs/\atI xs i=some v/\Q v H
def Cc (K:CZ):R2:=λx y H Q=>∃p xs i v,x = .ref p/\y = .int i/\SqT K H p xs/\atI xs i=some v/\Q v H
theorem dY:IxR X (Cb X.K):=by
 intro value slice pins s σ H x y v u Q I rx ry h hs
 obtain ⟨p,xs,i,z,rfl,rfl,hq,he,q⟩:=h
 cases rx
 obtain ⟨t,rfl⟩:=ry
 obtain ⟨its,r,pl,hz⟩:=I.list hq
 obtain ⟨j,h1,h2,h3,h4,h5⟩:=tL he
 obtain ⟨w,ew,rw'⟩:=r.get h2
 have hl:=r.length
 have hn:=jg
 have fin:EP X pins σ Q w s:=⟨z,H,I,rw',q⟩
 by_cases h0:0<=i
 ·have hj:i.toNat=j:=by
   rw[Kw h0 h5] at h1
   exact DB h1
  exact item_listR pl.isList h0 (by lia) (by rw[hj];simpa using ew) fin hs
 ·have hj:(i+(its.toArray.size:Int)).toNat=j:=by
   rw[Ln (by lia) h4] at h1
   rw[De, <- hl]
   exact DB h1
  exact JN (x:=w) pl.isList.typeIs slot_list_getitem.lookup
   (wpAny_getItem_list_neg (Q:=λr s'=>r=w/\EP X pins σ Q r s') pl.isList (by lia) (by rw[De] <;> lia) (by lia) (by rw[hj];simpa using ew) ⟨rfl,fin⟩) hs
theorem aN:IxR X (Cc X.K):=by
 intro value slice pins s σ H x y v u Q I rx ry h hs
 obtain ⟨p,xs,i,z,rfl,rfl,hq,he,q⟩:=h
 cases rx
 obtain ⟨t,rfl⟩:=ry
 obtain ⟨its,r,pl,hz⟩:=I.tuple hq
 obtain ⟨j,h1,h2,h3,h4,h5⟩:=tL he
 obtain ⟨w,ew,rw'⟩:=r.get h2
 have hl:=r.length
 have hn:=jg
 have fin:EP X pins σ Q w s:=⟨z,H,I,rw',q⟩
 exact JN (x:=w) pl.typeIs slot_tuple_getitem.lookup
  (getItem_tuple (j:=j) (Q:=λr s'=>r=w/\EP X pins σ Q r s') pl (by lia) (by lia) (by rw[De, <- hl];exact h1) (by simpa using ew) ⟨rfl,fin⟩) hs
theorem rN (its:List CU)(n j:Nat)(u:CU):EZ (·.setIfInBounds j u) { cls :=.type "list",data :=.seq its.toArray n }={ cls :=.type "list",data :=.seq (its.set j u).toArray n }:=by
 simp[EZ]
theorem Inv.lst {pins:List (Addr×Obj)}{σ:St}{H:Hp}{s:CW}{p:Addr}{xs:List V}(I:Inv X pins σ H s)(h:H p=some (.lst xs)) :
  ∃(its:List CU) (n:Nat),Vals xs its/\s.heap.get? p=some { cls :=.type "list",data :=.seq its.toArray n }/\xs.length<=Dl:=by
 obtain ⟨z,its,n,r,e⟩:=I.hok p _ h
 exact ⟨its,n,r,e,z⟩
theorem Inv.A2 {pins:List (Addr×Obj)}{σ:St}{H:Hp}{s:CW}{p:Addr}{xs ys:List V}{its its':List CU}{n n':Nat}{f:Obj->Obj}(I:Inv X pins σ H s)(h:H p=some (.lst xs))
  (ho:s.heap.get? p=some { cls :=.type "list",data :=.seq its.toArray n }) (hf:f { cls :=.type "list",data :=.seq its.toArray n }={ cls :=.type "list",data :=.seq its'.toArray n' }) (r:Vals ys its') (hz:ys.length<=Dl) (t:Nat) :
  Inv X pins σ (upd H p (.lst ys)) { s with heap:=s.heap.update p f,toks:=t }:=by
 have e:(s.heap.update p f).get? p=some { cls :=.type "list",data :=.seq its'.toArray n' }:=by
  rw[DV f ho (by rw[hf] <;> rfl),hf]
 refine I.write (x:=p) (e:=p) (by rw[h];trivial) (.inl rfl) (λb u hb q=>(Dx _ _ (Ee hb)).trans q) ⟨_,e⟩ ?_
 exact ⟨hz,its',n',r,e⟩
def Cd:V->V->V->Hp->(Hp->Prop)->Prop:=λo i v H Q=>∃p xs k j,o = .ref p/\i = .int k/\H p=some (.lst xs)/\ixN xs.length k=some j/\Q (upd H p (.lst (xs.set j v)))
theorem set_list:BU X Cd:=by
 intro pins s σ H o i v ov iv u Q I ro ri rv h
 obtain ⟨p,xs,k,j,rfl,rfl,hp,hj,q⟩:=h
 cases ro
 obtain ⟨t,rfl⟩:=ri
 obtain ⟨its,n,r,ho,hz⟩:=I.lst hp
 obtain ⟨h1,h2,h3,h4⟩:=tK hj
 have hl:=r.length
 have hn:=jg
 have I':Inv X pins σ (upd H p (.lst (xs.set j v))) { s with heap:=s.heap.update p (EZ (·.setIfInBounds j u)) } :=
  I.A2 hp ho (rN its n j u) (r.set rv j) (by rw[G0];exact hz) s.toks
 by_cases h0:0<=k
 ·have hk:k.toNat=j:=by
   rw[Kw h0 h4] at h1
   exact DB h1
  exact PySem.W.ki_setAt ho h0 (by lia) (by rw[De, <- hl];exact h4) (by rw[hk];exact ⟨_,I',q⟩)
 ·have hk:(k+(its.toArray.size:Int)).toNat=j:=by
   rw[Ln (by lia) h3] at h1
   rw[De, <- hl]
   exact DB h1
  exact PySem.W.ki_setBack ho (by lia) (by rw[De, <- hl];exact h3) (by lia) (by rw[hk];exact ⟨_,I',q⟩)
theorem nX (lo hi:Option Int)(n:Nat):(sliceBounds lo hi none n).1=((HT.sIx n 0 lo:Nat):Int)/\(sliceBounds lo hi none n).2.1=((HT.sIx n n hi:Nat):Int)/\(sliceBounds lo hi none n).2.2=1:=by
 refine ⟨?_,?_,rfl⟩
 ·cases lo with
  | none=>simp[sliceBounds,HT.sIx]
  | some i =>
   simp only[sliceBounds,HT.sIx,Ls,show (1:Int)>0 by decide,if_true]
   by_cases h:i<0
   ·simp only[h,if_true] <;> lia
   ·simp only[h,if_false] <;> lia
 ·cases hi with
  | none=>simp[sliceBounds,HT.sIx]
  | some i =>
   simp only[sliceBounds,HT.sIx,Ls,show (1:Int)>0 by decide,if_true]
   by_cases h:i<0
   ·simp only[h,if_true] <;> lia
   ·simp only[h,if_false] <;> lia
theorem lX (its:List CU)(lo hi:Option Int):slicePick its.toArray lo hi none=((its.drop (HT.sIx its.length 0 lo)).take (HT.sIx its.length its.length hi-HT.sIx its.length 0 lo)).toArray:=by
 obtain ⟨h1,h2,h3⟩:=nX lo hi its.toArray.size
 unfold slicePick
 rw[h1,h2,h3]
 simp only[sliceRange_one,pick_run,De] <;> rfl
def rSlL (K:CZ):V->Option Int->Option Int->Hp->VK->Prop:=λx lo hi H Q=>∃a xs,x = .ref a/\SqL K H a xs/\∀p,H p=none->Q (.ref p) (upd H p (.lst (e6 xs lo hi)))
theorem nY:SlR X (rSlL X.K):=by
 intro pins s σ H x v vl vu lo hi sl Q I rx hs pl pu h
 obtain ⟨a,xs,rfl,hx,q⟩:=h
 cases rx
 obtain ⟨its,r,ht,hz⟩:=I.list hx
 have hlen:=r.length
 refine ⟨"list",_,slot_list_getitem.lookup,ht.isList.typeIs,?_⟩
 refine wpAny_getItem_list_slice ht.isList hs pl pu .none (by simp) ?_ (by rw[De] <;> lia)
 rw[lX, <- hlen]
 refine ⟨.ref s.heap.objs.size,_,I.laid (t':=s.toks) (o :=.lst (e6 xs lo hi)) (λb ob q=>CQ _ q) (C0 _) ?_,rfl,q _ (I.hok.fresh (C0 _))⟩
 exact ⟨DZ (jH xs lo hi) hz,_,0,(r.drop (HT.sIx xs.length 0 lo)).take (HT.sIx xs.length xs.length hi-HT.sIx xs.length 0 lo),C3 _ rfl⟩
def iy:V->Bool
 | .non=>true
 | .bl _=>true
 | .int _=>true
 | .str _=>true
 | _=>false
def eqV:V->V->Bool
 | .non,.non=>true
 | .bl a,.bl b=>a == b
 | .bl a,.int b=>(if a then 1 else 0) == b
 | .int a,.bl b=>a == (if b then 1 else 0)
 | .int a,.int b=>a == b
 | .str a,.str b=>a == b
 | _,_=>false
theorem A3 {A:Ec}{s:CW}{y x:V}{u v:CU}(ry:RelV y u)(rx:RelV x v)(fy:iy y=true)(fx:iy x=true):Ki A s u v (eqV y x):=by
 cases y with
 | non =>
  cases ry
  cases x with
  | non=>cases rx;exact SeqAt.EqAt.same _
  | bl b=>cases rx;exact SeqAt.EqAt.none_bool b
  | int b=>obtain ⟨t,rfl⟩:=rx;exact SeqAt.EqAt.none_int b t
  | str b=>obtain ⟨t,rfl⟩:=rx;exact SeqAt.EqAt.none_str b t
  | _=>exact absurd (show false=true from fx) Di
 | bl a =>
  cases ry
  cases x with
  | non=>cases rx;exact SeqAt.EqAt.bool_none a
  | bl b=>cases rx;exact SeqAt.EqAt.bool_bool a b
  | int b=>obtain ⟨t,rfl⟩:=rx;exact SeqAt.EqAt.bool_int a b t
  | str b=>obtain ⟨t,rfl⟩:=rx;exact SeqAt.EqAt.bool_str a b t
  | _=>exact absurd (show false=true from fx) Di
 | int a =>
  obtain ⟨t',rfl⟩:=ry
  cases x with
  | non=>cases rx;exact SeqAt.EqAt.int_none a t'
  | bl b=>cases rx;exact SeqAt.EqAt.int_bool a t' b
  | int b=>obtain ⟨t,rfl⟩:=rx;exact GX a t' b t
  | str b=>obtain ⟨t,rfl⟩:=rx;exact KA a t' b t
  | _=>exact absurd (show false=true from fx) Di
 | str a =>
  obtain ⟨t',rfl⟩:=ry
  cases x with
  | non=>cases rx;exact SeqAt.EqAt.str_none a t'
  | bl b=>cases rx;exact SeqAt.EqAt.str_bool a t' b
  | int b=>obtain ⟨t,rfl⟩:=rx;exact KC a t' b t
  | str b=>obtain ⟨t,rfl⟩:=rx;exact SeqAt.EqAt.str_str a t' b t
  | _=>exact absurd (show false=true from fx) Di
 | _=>exact absurd (show false=true from fy) Di
def eqU (x:V)(u:CU):Bool:=match u with
 | .none=>eqV .non x
 | .bool b=>eqV (.bl b) x
 | .int i _=>eqV (.int i) x
 | .str z _=>eqV (.str z) x
 | _=>false
theorem wV {x y:V}{u:CU}(r:RelV y u)(f:iy y=true):eqU x u=eqV y x:=by
 cases y with
 | non=>cases r;rfl
 | bl b=>cases r;rfl
 | int i=>obtain ⟨t,rfl⟩:=r;rfl
 | str z=>obtain ⟨t,rfl⟩:=r;rfl
 | _=>exact absurd (show false=true from f) Di
theorem iz {x:V}:∀{xs:List V} {us:List CU},Vals xs us->xs.all iy=true->us.any (eqU x)=xs.any λy=>eqV y x
 | _,_,.nil,_=>rfl
 | y :: xs,u :: us,.cons r t,f=>by
  rw[KI,Ey] at f
  rw[HJ,HJ,wV r f.1,iz t f.2]
theorem fK {A:Ec}{s:CW}{x:V}{v:CU}(rx:RelV x v)(fx:iy x=true):∀{xs:List V} {us:List CU},Vals xs us->xs.all iy=true->∀u∈us,Ki A s u v (eqU x u)
 | _,_,.nil,_=>λu hu=>by cases hu
 | y :: xs,u :: us,.cons r t,f=>λu' hu=>by
  rw[KI,Ey] at f
  rcases Dm.mp hu with rfl | hu
  ·rw[wV r f.1];exact A3 r rx f.1 fx
  ·exact fK rx fx t f.2 u' hu
def inV (x:V)(xs:List V):Bool:=xs.any λy=>eqV y x
def rIn (K:CZ)(neg:Bool):R2:=λx y H Q=>∃p xs,y = .ref p/\(SqL K H p xs\/SqT K H p xs)/\iy x=true/\xs.all iy=true/\Q (.bl (if neg then !inV x xs else inV x xs)) H
theorem vf:OpR X (E3 .In) (rIn X.K false):=by
 intro pins s σ H x y v u Q I rx ry h
 obtain ⟨p,xs,rfl,hq,fx,fs,q⟩:=h
 cases ry
 rcases hq with hq | hq
 ·obtain ⟨its,r,pl,hz⟩:=I.list hq
  refine SeqAt.in_listAt (eqU x) pl.isList (λw hw=>fK rx fx r fs w (by simpa using hw)) ⟨.bl _,H,I,rfl,?_⟩
  rw[show its.toArray.any (eqU x)=its.any (eqU x) by simp,iz r fs]
  exact q
 ·obtain ⟨its,r,pl,hz⟩:=I.tuple hq
  refine SeqAt.in_tupleAt (eqU x) pl (λw hw=>fK rx fx r fs w (by simpa using hw)) ⟨.bl _,H,I,rfl,?_⟩
  rw[show its.toArray.any (eqU x)=its.any (eqU x) by simp,iz r fs]
  exact q
theorem nZ:OpR X (E3 .NotIn) (rIn X.K true):=by
 intro pins s σ H x y v u Q I rx ry h
 obtain ⟨p,xs,rfl,hq,fx,fs,q⟩:=h
 cases ry
 rcases hq with hq | hq
 ·obtain ⟨its,r,pl,hz⟩:=I.list hq
  refine SeqAt.notIn_listAt (eqU x) pl.isList (λw hw=>fK rx fx r fs w (by simpa using hw)) ⟨.bl _,H,I,rfl,?_⟩
  rw[show its.toArray.any (eqU x)=its.any (eqU x) by simp,iz r fs]
  exact q
 ·obtain ⟨its,r,pl,hz⟩:=I.tuple hq
  refine SeqAt.notIn_tupleAt (eqU x) pl (λw hw=>fK rx fx r fs w (by simpa using hw)) ⟨.bl _,H,I,rfl,?_⟩
  rw[show its.toArray.any (eqU x)=its.any (eqU x) by simp,iz r fs]
  exact q
theorem bh:bB X (.builtin "len") (λxs H Q=>∃p ys,xs=[.ref p]/\(SqL X.K H p ys\/SqT X.K H p ys)/\Q (.int ys.length) H):=by
 intro pins s σ H xs us Q I r h
 obtain ⟨p,ys,rfl,hq,q⟩:=h
 obtain ⟨u,rfl,rx⟩:=vals1 r
 cases rx
 have hn:=jg
 rcases hq with hq | hq
 ·obtain ⟨its,r',pl,hz⟩:=I.list hq
  have hlen:=r'.length
  exact Calls.call_len_list pl.isList (by simp only[De] <;> lia) ⟨.int ys.length,H,I.tok _,⟨s.toks+1,by rw[De,hlen]⟩,q⟩
 ·obtain ⟨its,r',pl,hz⟩:=I.tuple hq
  have hlen:=r'.length
  exact LQ pl (by simp only[De] <;> lia) ⟨.int ys.length,H,I.tok _,⟨s.toks+1,by rw[De,hlen]⟩,q⟩
theorem aY:bB X (.type "tuple") (λxs H Q=>∃p ys,xs=[.ref p]/\((SqL X.K H p ys/\∀l,H l=none->Q (.ref l) (upd H l (.tup ys)))\/(SqT X.K H p ys/\Q (.ref p) H))):=by
 intro pins s σ H xs us Q I r h
 obtain ⟨p,ys,rfl,h⟩:=h
 obtain ⟨u,rfl,rx⟩:=vals1 r
 cases rx
 rcases h with ⟨hq,q⟩ | ⟨hq,q⟩
 ·obtain ⟨its,r',pl,hz⟩:=I.list hq
  have hlen:=r'.length
  refine call_tuple_list pl.isList (λh' kp =>?_) (by simp only[De] <;> lia)
  have I1:Inv X pins σ H { s with heap:=h' }:=I.kept (t':=s.toks) kp
  have I2:Inv X pins σ (upd H h'.objs.size (.tup ys)) { s with heap:=h'.push { cls :=.type "tuple",data :=.seq its.toArray } } :=
   I1.laid (t':=s.toks) (λb o e=>CQ _ e) (C0 _) (show bA X.prog X.w _ _ _ (.tup ys) from ⟨hz,its,r',dA.new _ _⟩)
  exact ⟨.ref h'.objs.size,_,I2,rfl,q _ (I1.hok.fresh (C0 _))⟩
 ·obtain ⟨its,r',pl,hz⟩:=I.tuple hq
  exact call_tuple_same pl ⟨.ref p,H,I,rfl,q⟩
def tyV (K:CZ)(T:String)(x:V)(H:Hp):Prop:=match x with
 | .str _=>T = "str"
 | .int _=>T = "int"
 | .ref p=>(T = "list" /\ ∃xs,SqL K H p xs)\/(T = "tuple" /\ ∃o,K.lookup p=some o/\o.cls = .type "tuple" /\ o.dict=none) ∨
   (T = "dict" /\ ((∃kvs,H p=some (.dK kvs))\/∃kvs,H p=some (.dT kvs)))\/(T = "set" /\ ∃S n,H p=some (.set S n))
 | _=>False
theorem wW {pins:List (Addr×Obj)}{σ:St}{H:Hp}{s:CW}{T:String}{x:V}{v:CU}(I:Inv X pins σ H s)(r:RelV x v)(ty:tyV X.K T x H) :
  s.TypeIs v T/\∀a,v = .ref a->∃ob,s.heap.get? a=some ob/\ob.dict=none:=by
 cases x with
 | str z =>
  obtain ⟨t,rfl⟩:=r
  cases (show T = "str" from ty)
  exact ⟨typeIs_str s z t,λ_ e=>nomatch e⟩
 | int i =>
  obtain ⟨t,rfl⟩:=r
  cases (show T = "int" from ty)
  exact ⟨Kh s i t,λ_ e=>nomatch e⟩
 | ref p =>
  cases r
  rcases ty with ⟨rfl,xs,hq⟩ | ⟨rfl,o,hk,hc,hd⟩ | ⟨rfl,hk⟩ | ⟨rfl,S,n,hk⟩
  ·obtain ⟨its,_,pl,_⟩:=I.list hq
   refine ⟨pl.isList.typeIs,λa e =>?_⟩
   cases e
   obtain ⟨o,n,e,c,hd,_⟩:=pl
   exact ⟨o,e,hd⟩
  ·refine ⟨⟨o,I.kIn p o hk,hc⟩,λa e =>?_⟩
   cases e
   exact ⟨o,I.kIn _ o hk,hd⟩
  ·have z:∃o,s.heap.get? p=some o/\o.ExactDict:=by
    rcases hk with ⟨kvs,hk⟩ | ⟨kvs,hk⟩
    ·obtain ⟨_,_,_,_,o,_,_,e,ex,_⟩:=I.hok p _ hk
     exact ⟨o,e,ex⟩
    ·obtain ⟨_,_,_,_,o,_,_,e,ex,_⟩:=I.hok p _ hk
     exact ⟨o,e,ex⟩
   obtain ⟨o,e,ex⟩:=z
   refine ⟨⟨o,e,ex.1⟩,λa e2 =>?_⟩
   cases e2
   exact ⟨o,e,ex.2.1⟩
  ·obtain ⟨o,_,_,_,e,ex,_⟩:=I.hok p _ hk
   refine ⟨⟨o,e,ex.1⟩,λa e2 =>?_⟩
   cases e2
   exact ⟨o,e,ex.2.1⟩
 | _=>exact False.elim ty
def tBM0 (K:CZ)(T:String)(r:V->List V->Hp->VK->Prop)(to:TE):TE:=λσ H Q=>to σ H λx H1=>tyV K T x H1/\r x [] H1 Q
def tBM (K:CZ)(T:String)(r:V->List V->Hp->VK->Prop)(to:TE)(t:TA):TE:=λσ H Q=>to σ H λx H1=>tyV K T x H1/\t σ H1 λxs H2=>r x xs H2 Q
variable  {o e:Expr}{es:List Expr}{to:TE}{t:TA}{name:Str}{apos cpos:Pos}{T id:String}{r:V->List V->Hp->VK->Prop}
theorem wX (pa:PlainAttrs T)(slot:Slot T name id)(hty:typeOf (.builtin id)=pure (.type "method_descriptor"))(hm:MtR X id r)(ho:PE X o to)
  (hbase:attributeBase o name X.env (eval o X.env)=eval o X.env:=by rfl) (hline:(apos.endLine == cpos.line)=true:=by rfl):PE X (.Call (.Attribute o name apos) [] [] cpos) (tBM0 X.K T r to):=by
 intro pins s σ H Q I h
 refine wpAny_Call_method0_late hbase hline (thn (ho pins s σ H _ I h) λv s1 ⟨x,H1,I1,r1,ty,q1⟩ =>?_)
 obtain ⟨h1,h2⟩:=wW I1 r1 ty
 exact ⟨T,id,pa,slot,hty,h1,h2,HS rfl (PySem.evalArgs_none (hm pins s1 σ H1 x [] v [] Q I1 r1 .nil q1))⟩
theorem iA (pa:PlainAttrs T)(slot:Slot T name id)(hty:typeOf (.builtin id)=pure (.type "method_descriptor"))(hm:MtR X id r)(ho:PE X o to)(ha:PA X (e :: es) t)
  (hbase:attributeBase o name X.env (eval o X.env)=eval o X.env:=by rfl)
  (hfew:((Ig cpos (En (e :: es) X.env)).all (λx => !x.1) && (backToKw cpos (keywordEach [] X.env)).all (λx=>x.1.isSome)
   && decide ((e :: es).length+([]:List Keyword).length+(if ([]:List Keyword).isEmpty then 0 else 1)<30))=true:=by rfl)
  (hline:(apos.endLine == cpos.line)=true:=by rfl) (hs:En (e :: es) X.env=(false,eval e X.env) :: En es X.env:=by rfl) (hplain:(Ig cpos (En es X.env)).any (·.1)=false:=by rfl) :
  PE X (.Call (.Attribute o name apos) (e :: es) [] cpos) (tBM X.K T r to t):=by
 intro pins s σ H Q I h
 refine JO hbase hfew hline rfl (thn (ho pins s σ H _ I h) λv s1 ⟨x,H1,I1,r1,ty,q1⟩ =>?_)
 obtain ⟨h1,h2⟩:=wW I1 r1 ty
 refine ⟨T,id,pa,slot,hty,h1,h2,?_⟩
 have hA:=ha cpos pins s1 σ H1 _ I1 q1
 rw[hs] at hA ⊢
 refine HS (by show (false || (Ig cpos (En es X.env)).any (·.1))=false;rw[hplain] <;> rfl) (Kj ?_)
 exact thn hA λus s2 ⟨vs,H2,I2,r2,q2⟩=>hm pins s2 σ H2 x vs v us Q I2 r1 r2 q2
end
open PySem PySem.Spec PyProof.Rows
def MtM (X:Cx)(id:String)(r:V->List V->Hp->VK->Prop):Prop :=
 ∀(pins:List (Addr×Obj)) (s:CW) (σ:St) (H:Hp) (x:V) (xs:List V) (v:CU) (us:List CU) (Q:VK),Inv X pins σ H s->RelV x v->Vals xs us->r x xs H Q →
  Dn (DG X.prog X.w) X.A (call (.builtin id) (v :: us)) (EP X pins σ Q) X.xe s
theorem Vals.one:∀{x:V} {us:List CU},Vals [x] us->∃u,us=[u]/\RelV x u
 | _,_,.cons r .nil=>⟨_,rfl,r⟩
theorem Vals.zero:∀{us:List CU},Vals [] us->us=[]
 | _,.nil=>rfl
theorem Vals.dropLast {xs:List V}{us:List CU}(h:Vals xs us):Vals xs.dropLast us.dropLast:=by
 induction h with
 | nil=>exact .nil
 | cons r t ih =>
  cases t with
  | nil=>exact .nil
  | cons q t'=>exact .cons r ih
theorem Vals.rep {xs:List V}{us:List CU}(h:Vals xs us):∀k:Nat,Vals (D5 k xs).flatten (D5 k us).flatten
 | 0 =>.nil
 | k+1=>by
  rw[Fz,Fz,FA,FA]
  exact Vals.append h (Vals.rep h k)
theorem rO {α:Type}(l:List α):l.eraseIdx (l.length-1)=l.dropLast:=by
 induction l with
 | nil=>rfl
 | cons a r ih =>
  cases r with
  | nil=>rfl
  | cons b r =>
   have e:(a :: b :: r).length-1=((b :: r).length-1)+1:=by
    have h1:(a :: b :: r).length=r.length+2:=rfl
    have h2:(b :: r).length=r.length+1:=rfl
    lia
   rw[e,HK,ih]
   all_goals rfl
theorem foldl_rep (its:List CU):∀(k:Nat) (acc:List CU),
  List.foldl (λx1 x2=>x1++x2) acc.toArray (D5 k its.toArray)=(acc++(D5 k its).flatten).toArray
 | 0,acc=>by simp
 | k+1,acc=>by
  have e:acc.toArray++its.toArray=(acc++its).toArray:=by simp
  have e2:(acc++its)++(D5 k its).flatten=acc++(D5 (k+1) its).flatten:=by
   rw[Fz,FA,DN]
  rw[<- e2, <- foldl_rep its k (acc++its), <- e,Fz,JR]
section
variable  {X:Cx}{pins:List (Addr×Obj)}{σ:St}{H:Hp}{s:CW}{l b:Addr}{xs ys zs:List V}
theorem Inv.A4 {its its':List CU}{n:Nat}{f:Array CU->Array CU}{t':Nat}(I:Inv X pins σ H s)(hH:H l=some (.lst xs))
  (e:s.heap.get? l=some { cls :=.type "list",data :=.seq its.toArray n }) (hf:f its.toArray=its'.toArray) (hv:Vals ys its') (hz:ys.length<=Dl) :
  Inv X pins σ (upd H l (.lst ys)) { s with heap:=s.heap.update l (EZ f),toks:=t' }:=by
 have q:=PySem.IsL.update e f
 rw[hf] at q
 refine I.write (x:=l) (e:=l) (by rw[hH];exact trivial) (.inl rfl) (λb' u hb hu=>(Dx s.heap (EZ f) (Ee hb)).trans hu) ⟨_,q⟩ ?_
 exact ⟨hz,its',_,hv,q⟩
theorem Inv.Ce {its:List CU}{t':Nat}(I:Inv X pins σ H s)(hv:Vals ys its)(hz:ys.length<=Dl) :
  Inv X pins σ (upd H s.heap.objs.size (.lst ys)) { s with heap:=s.heap.push { cls :=.type "list",data :=.seq its.toArray },toks:=t' } :=
 I.laid (λ_ _ q=>CQ _ q) (C0 _) ⟨hz,its,0,hv,C3 _ rfl⟩
theorem Inv.fresh (I:Inv X pins σ H s):H s.heap.objs.size=none:=I.hok.fresh (C0 _)
theorem Inv.wY (I:Inv X pins σ H s)(hH:H l=some (.lst xs)):xs.length<=Dl/\∃(its:List CU) (n:Nat),Vals xs its/\xs.length=its.length/\s.heap.get? l=some { cls :=.type "list",data :=.seq its.toArray n }:=by
 obtain ⟨z,its,n,r,e⟩:=I.hok l _ hH
 exact ⟨z,its,n,r,r.length,e⟩
theorem kE {n:Nat}(h:n<=Dl):Builtin.List.listTooLong n=false:=by
 unfold Builtin.List.listTooLong
 exact decide_eq_false (by lia)
end
section
variable  {X:Cx}
def yZ:V->List V->Hp->VK->Prop:=λx vs H Q=>∃l xs y,x = .ref l/\vs=[y]/\H l=some (.lst xs)/\xs.length<Dl/\Q .non (upd H l (.lst (xs++[y])))
theorem cq:MtM X "list.append" yZ:=by
 intro pins s σ H x vs v us Q I rx rv h
 obtain ⟨l,xs,y,rfl,rfl,hH,hz,q⟩:=h
 cases rx
 obtain ⟨u,rfl,ru⟩:=rv.one
 obtain ⟨z,its,n,r,hl,e⟩:=I.wY hH
 refine HY F.slot_list_append ⟨_,e,rfl⟩ F.entry_list_append (F.args_list_append_2 _ _) (PySem.list_append l its.toArray n u (by rw[De];lia)) ⟨e,?_⟩
 refine ⟨.non,_,I.A4 (its':=its++[u]) hH e (by simp) (r.append (.cons ru .nil)) ?_,rfl,q⟩
 rw[C1,D3]
 lia
def y6:V->List V->Hp->VK->Prop:=λx vs H Q=>∃l b xs zs,x = .ref l/\vs=[.ref b]/\H l=some (.lst xs)/\H b=some (.lst zs)/\xs.length+zs.length<=Dl/\Q .non (upd H l (.lst (xs++zs)))
theorem vg:MtM X "list.extend" y6:=by
 intro pins s σ H x vs v us Q I rx rv h
 obtain ⟨l,b,xs,zs,rfl,rfl,hH,hB,hz,q⟩:=h
 cases rx
 obtain ⟨u,rfl,ru⟩:=rv.one
 cases ru
 obtain ⟨z,its,n,r,hl,e⟩:=I.wY hH
 obtain ⟨z2,its2,n2,r2,hl2,e2⟩:=I.wY hB
 have hsz:its.toArray.size+its2.toArray.size<=Dl:=by rw[De,De];lia
 have hlong:¬ (!its.toArray.isEmpty && Builtin.List.listTooLong (its.toArray.size+its2.toArray.size))=true:=by
  rw[kE hsz,IU]
  exact Di
 refine HY F.slot_list_extend ⟨_,e,rfl⟩ F.entry_list_extend (F.args_list_extend_2 _ _)
  (AutoSeq1.list_extend_list_list_0 l its.toArray n b its2.toArray n2 hlong (by rw[De];lia) (by lia)) ⟨e,e2,?_⟩
 refine ⟨.non,_,I.A4 (its':=its++its2) hH e (by simp) (r.append r2) ?_,rfl,q⟩
 rw[C1]
 lia
def rPop:V->List V->Hp->VK->Prop:=λx vs H Q=>∃l xs y,x = .ref l/\vs=[]/\H l=some (.lst xs)/\xs[xs.length-1]? = some y/\Q y (upd H l (.lst xs.dropLast))
theorem wZ:MtM X "list.pop" rPop:=by
 intro pins s σ H x vs v us Q I rx rv h
 obtain ⟨l,xs,y,rfl,rfl,hH,hy,q⟩:=h
 cases rx
 have hus:=rv.zero
 subst hus
 obtain ⟨z,its,n,r,hl,e⟩:=I.wY hH
 obtain ⟨u,hu,ru⟩:=r.get hy
 have hy':its.toArray[its.toArray.size-1]? = some u:=by
  show its.toArray[its.length-1]? = some u
  rw[<- Dh, <- hl]
  exact hu
 refine HY F.slot_list_pop ⟨_,e,rfl⟩ F.entry_list_pop (F.args_list_pop_1 _) (MeetsSeq.list_pop_last l its.toArray n u hy' (by rw[De];lia)) ⟨e,?_⟩
 refine ⟨y,_,I.A4 (its':=its.dropLast) hH e ?_ r.dropLast ?_,ru,q⟩
 ·show its.toArray.eraseIdxIfInBounds (its.toArray.size-1)=its.dropLast.toArray
  rw[De,List.eraseIdxIfInBounds_toArray,rO]
 ·rw[List.length_dropLast]
  lia
def rRep:R2:=λx y H Q=>∃l k xs,x = .ref l/\y = .int k/\H l=some (.lst xs) /\ -(2 ^ 63)<=k/\k<2 ^ 63/\xs.length*k.toNat<=Dl ∧
 ∀p,H p=none->Q (.ref p) (upd H p (.lst (D5 k.toNat xs).flatten))
theorem len_rep {α:Type}(xs:List α)(k:Nat):(D5 k xs).flatten.length=k*xs.length:=by
 induction k with
 | zero=>simp
 | succ k ih=>rw[Fz,FA,C1,ih,Nat.succ_mul,Nat.add_comm]
theorem A5:OpR X (binaryOp .Mult) rRep:=by
 intro pins s σ H x y v u Q I rx ry h
 obtain ⟨l,k,xs,rfl,rfl,hH,h1,h2,hz,q⟩:=h
 cases rx
 obtain ⟨t,rfl⟩:=ry
 obtain ⟨z,its,n,r,hl,e⟩:=I.wY hH
 have hlen:its.toArray.size*k.toNat<=Dl:=by rw[De, <- hl];exact hz
 have hcap:¬ its.toArray.size*k.toNat>(2 ^ 63-1)/8:=by
  have:(Dl:Nat)<=(2 ^ 63-1)/8:=by decide
  lia
 have hfit:¬ (!Builtin.List.listFitsIndex k)=true:=by
  rw[fitsIndex_both h1 h2]
  exact Di
 have hlong:¬ Builtin.List.listTooLong (its.toArray.size*k.toNat)=true:=by
  rw[kE hlen]
  exact Di
 have hnew:List.foldl (λx1 x2=>x1++x2) #[] (D5 (if its.toArray.isEmpty=true then 0 else k.toNat) its.toArray)=(D5 k.toNat its).flatten.toArray:=by
  have f0:∀m:Nat,List.foldl (λx1 x2=>x1++x2) #[] (D5 m its.toArray)=(D5 m its).flatten.toArray:=λm=>by
   have:=foldl_rep its m []
   rw[HL] at this
   exact this
  rw[f0]
  cases its with
  | nil=>simp
  | cons a r'=>rw[if_neg (by simp)]
 refine wpAny_binaryOp_repeat_ref (T := "list") (U := "int") (by decide) ⟨_,e,rfl⟩ (λs'=>Kh s' k t) noFill_list_mul F.fills_int_mul LG repeat_list F.slot_int_index.lookup
  (HY LG (Kh s k t) F.entry_int_rmul (F.args_int_rmul_2 _ _) (int___rmul___int_list k t l its.toArray n)
   ⟨e,rfl,⟨_,e,rfl⟩,HY F.slot_list_mul ⟨_,e,rfl⟩ F.entry_list_mul (F.args_list_mul_2 _ _) (AutoListH.list___mul___list_int_3 l its.toArray n k t hfit hcap hlong) ⟨e,?_⟩⟩)
 rw[hnew]
 exact ⟨.ref _,_,I.Ce (t':=s.toks) (r.rep k.toNat) (by rw[len_rep,Nat.mul_comm];exact hz),rfl,q _ I.fresh⟩
end
section
variable  {prog:Dp}{w:DW}{A:Ec}{E:CU->CW->Prop}{s:CW}
end
section
variable  {X:Cx}
end
end L2
namespace Att
open PySem PySem.W PySem.Calls PyProof.Rows
theorem jU {P:Params}{h:Heap}:∀(ns:List Int) (vs:List CU),WellAll P h vs (ns.map WData.int)->FH vs ns:=by
 intro ns
 induction ns with
 | nil =>
  intro vs w
  rw[JQ] at w
  cases w
  exact .nil
 | cons n ns ih =>
  intro vs w
  rw[DK] at w
  cases w with
  | cons a b =>
   cases a
   exact .cons _ _ (ih _ b)
theorem vh {l:OpenLaw}{n:Nat}(hn:l.most=some n){P:Params}{h:Heap}{args:List WData}{vals:List CU}
  (hpre:l.row.toRowW.claim.pre args=true) (hwl:WellAll P h vals args) :
  ∃a vs ns,vals=[Dv a]/\args=[WData.list (ns.map WData.int)]/\h.get? a=some { cls :=.type "list",data :=.seq vs.toArray }/\FH vs ns/\ns.length<=n:=by
 have hsh:WShape.hasAll [] args [.list .int]=true:=(pre_splitW hpre).1
 have hc:l.pre.holds [] { args:=args }=true:=(pre_splitW hpre).2
 obtain ⟨d,r,rfl,h1,h2⟩:=hasAllW_cons hsh
 obtain rfl:=hasAllW_nil h2
 obtain ⟨xs,rfl,h3⟩:=hasW_list h1
 obtain ⟨ns,rfl⟩:=items_int h3
 have hlen:ns.length<=n:=by
  unfold OpenLaw.pre at hc
  have h4:(WTm.not (.lt (.lit (.int (n:Int))) (.len (.arg 0)))).holds [] { args:=[.list (ns.map .int)] }=true:=by
   have h4:=(holds_andW hc).1
   rw[hn] at h4
   exact h4
  have h5:=condW_of h4 (w_not (w_lt w_lit (w_len_list (w_arg rfl))))
  rw[CS] at h5
  refine Ih λq =>?_
  have q':(n:Int)<((ns.length:Nat):Int):=by omega
  first
   | (rw[decide_eq_true q'] at h5;exact absurd h5 (by decide))
   | (simp at h5;omega)
 cases hwl with
 | cons w1 w2 =>
  cases w2
  cases w1 with
  | list ho hall=>exact ⟨_,_,ns,rfl,rfl,ho,jU ns _ hall,hlen⟩
theorem vi (l:OpenLaw)(args:List WData):l.row.toRowW.claim.post args (.bool true) args=true :=
 postW_of (r:=l.row.toRowW) (X:=(true == true))
  (show WShape.has [] (.bool true) .bool=true by first | rfl | decide | simp[WShape.has,WShape.arms,WShape.armsAll])
  (show (WTm.eq .res (.lit (.bool true))).value [] { args:=args,res:=some (.bool true),after:=args }=some (.bool (true == true)) from w_eq_bool (w_res rfl) w_lit) rfl
theorem pM {l:OpenLaw}{n:Nat}{q:Dp}{loose:List Str}{XP:(Str->Option CU)->Heap->Prop}{YP:DW->Heap->Prop}{d:DefRec}
  (hn:l.most=some n) (hdf:d.params.defaults=[])
  (call:∀(w:DW) (s₀ s₁:CW) (mg mb:Str->Option CU) (fa:Addr) (o:Obj) (pm cd doc:CU) (a:Addr) (vs:List CU) (ns:List Int),
   Ground q loose [] XP w s₀ mg mb s₁.heap->YP w s₁.heap →
   s₁.heap.get? fa=some o->o.data = .func (docDef d.name d.params d.body d.scope pm cd doc)->s₁.heap.CodeRec cd d.name->mg d.name=some (.ref fa) →
   s₁.heap.get? a=some { cls :=.type "list",data :=.seq vs.toArray }->FH vs ns->ns.length<=n->s₁.gens = #[] →
   HQ (DG l.prog w) callerA (.call (.ref fa) ⟨[.ref a],[]⟩) (λr s'=>r = .ok (.ret (.bool true))/\OldK s₁.heap s'.heap/\s'.os=s₁.os/\AllBare s'.gens) s₁) :
  WalkO q loose XP YP l.row.toRowW d [] (λf vs=>PySem.call f vs):=by
 intro w s₀ s₁ mg mb G Y fa o pm cd doc dV kV ho hd hcd hD hmg hg args vals as hpre hlay hrd hwl hlo
 obtain rfl:dV = .none:=Dflts.none hD hdf
 obtain rfl:kV = .none:=Dflts.noKw hD
 obtain ⟨a,vs,ns,rfl,rfl,hobj,hints,hlen⟩:=vh hn hpre hwl
 refine enter_call (HD (call w s₀ s₁ mg mb fa o pm cd doc a vs ns G Y ho (fd_plain hd) hcd hmg hobj hints hlen hg) λr s' hq =>?_)
 obtain ⟨rfl,h2,h3,h4⟩:=hq
 exact ⟨.inl ⟨.bool true,.bool true,[],rfl,λ_=>rfl,.bool true,vi l _,λ_=>⟨List.Pairwise.nil,λ_ hm=>(nomatch hm)⟩⟩,h2,h3,h4⟩
section
variable  {prog:Dp}{w:DW}{A:Ec}{E:CU->CW->Prop}{s:CW}{K:Frag}
def ledger (h:Heap)(L d:Addr):List (Addr×Obj):=(EF h.objs.size).filterMap λa=>if a=L\/a=d then none else (h.get? a).map λo=>(a,o)
end
end Att
namespace L2
open PySem PySem.Spec PyProof.Rows
theorem jh:∀{vs:List CU} {ns:List Int},FH vs ns->Vals (ns.map V.int) vs
 | _,_,.nil =>.nil
 | _,_,.cons n t h =>.cons ⟨t,rfl⟩ (jh h)
def A6 (H:Hp):Prop:=∀b,H b=none\/∃o xs,H b=some (.frz o (.lst xs))
theorem w4 {P:Dp}{w:DW}{K:CZ}{mg mb:Str->Option CU}{CX:CXT}{k:Nat}{fa a:Addr}{fd:Eo}{x:Str}{sp:Sp}{s₁:CW}{vs:List CU}{ns:List Int}
  (KX:K.In s₁.heap) (hns:s₁.heap.Ns Eg mg) (hb:s₁.heap.Ns builtinsNs mb) (hbb:∀x:Str,x ≠ "__name__" -> mb x=Ez x) (hlim:s₁.heap.NoLimit) (hg:s₁.gens = #[])
  (ha:s₁.heap.get? a=some { cls :=.type "list",data :=.seq vs.toArray }) (hi:FH vs ns) (hl:ns.length<=Dl) (hr:dF k callerA)
  (F:∀base:Heap,K.In base->base.Ns Eg mg->bF P w K mg base CX k fa fd [x] sp) (hbind:∀(s:CW) (u:CU),BindsTo s fd ⟨[u],[]⟩ [(x,u)])
  (hsp:∀H:Hp,A6 H->SqL K H a (ns.map V.int)->sp [.ref a] H (λv _=>v = .bl true) λ_ _ _=>False)
  (hCX:∀H e s',CX [] H s₁ (λ_ _ _=>False) e s'->False) :
  HQ (DG P w) callerA (.call (.ref fa) ⟨[.ref a],[]⟩) (λr s'=>r = .ok (.ret (.bool true))/\OldK s₁.heap s'.heap/\s'.os=s₁.os/\AllBare s'.gens) s₁:=by
 have rv:=jh hi
 have lenV:=hi.length
 have core:∀H:Hp,A6 H->SqL K H a (ns.map V.int)->HOk P w H s₁.heap->(∀b,H b≠none->b=a)->(H a≠none->K.lookup a=none) →
   HQ (DG P w) callerA (.call (.ref fa) ⟨[.ref a],[]⟩) (λr s'=>r = .ok (.ret (.bool true))/\OldK s₁.heap s'.heap/\s'.os=s₁.os/\AllBare s'.gens) s₁:=by
  intro H hO hS hok hA hK
  have base_of:∀{b:Addr} {o:Obj},s₁.heap.get? b=some o->H b=none->(nU s₁.heap H).get? b=some o:=λe n=>wD e n
  have noA:∀{b:Addr} {o:Obj} {es:Array DictEntry} {ep:Nat},s₁.heap.get? b=some o->o.data = .dict es ep->H b=none:=λ{b o es ep} e d=>by
   cases q:H b with
   | none=>rfl
   | some u =>
    have e':b=a:=hA b (by rw[q];simp)
    subst e'
    rw[ha] at e;cases e
    have d':Data.seq vs.toArray _=Data.dict es ep:=d
    cases d'
  have nsK:∀{b:Addr} {m:Str->Option CU},s₁.heap.Ns b m->(nU s₁.heap H).Ns b m:=λ{b m} ⟨o,es,ep,e,d,r⟩=>⟨o,es,ep,base_of e (noA e d),d,r⟩
  have hKb:K.In (nU s₁.heap H):=λb o e=>base_of (KX b o e) (by
   cases q:H b with
   | none=>rfl
   | some u =>
    have e':b=a:=hA b (by rw[q];simp)
    subst e'
    rw[hK (by rw[q];simp)] at e;cases e)
  have hM:Mod K mg (nU s₁.heap H):=⟨hKb,nsK hns,⟨mb,nsK hb,hbb⟩,let ⟨mc,h1,h2⟩:=hlim;⟨mc,nsK h1,h2⟩⟩
  have e0:yT P w K mg (nU s₁.heap H) callerA [] s₁ H:=⟨rfl,hM,λb o e=>yM e,Nat.le_of_eq (u6 _ _),trivial,λb hb=>absurd (show b∈([]:List Addr) from hb) (by simp),hok,.of_eq hg⟩
  refine HD ((F _ hKb (nsK hns)).run callerA [] s₁ H ⟨[.ref a],[]⟩ [.ref a] [.ref a] _ _ hr e0 (hbind s₁ (.ref a)) (.cons rfl .nil) (hsp H hO hS)) λr s' h =>?_
  cases r with
  | error e=>exact (hCX H e s' h).elim
  | ok fl =>
   cases fl with
   | next=>exact False.elim h
   | brk=>exact False.elim h
   | cont=>exact False.elim h
   | ret u =>
    obtain ⟨v,H',os,bare,un,hok',r',q⟩:=h
    have q':v = .bl true:=q
    subst q'
    obtain rfl:u=Value.bool true:=r'
    refine ⟨rfl,OldK.of_keep λb o e =>?_,os,bare⟩
    cases q:H b with
    | none=>exact un.keep b o e q (by intro z;exact absurd (show b∈([]:List Addr) from z) (by simp)) (by simp)
    | some u =>
     rcases hO b with z | ⟨ob,xs,z⟩
     ·rw[q] at z;cases z
     ·have z2:=un.frzs b ob _ z
      obtain ⟨e1,_⟩:=hok b _ z
      obtain ⟨e2,_⟩:=hok' b _ z2
      rw[e] at e1;cases e1
      exact e2
 cases hk:K.lookup a with
 | some o =>
  have e:=KX a o hk
  rw[ha] at e
  cases e
  refine core (λ_=>none) (λ_ =>.inl rfl) (.inr ⟨_,vs.toArray,_,hk,rfl,rfl,rfl,by rw[De,lenV];exact hl,by simpa using rv⟩) (λb u z=>by have z':(none:Option HO)=some u:=z;cases z') (λb z=>absurd rfl z) λz=>absurd rfl z
 | none =>
  refine core (λb=>if b=a then some (.frz { cls :=.type "list",data :=.seq vs.toArray } (.lst (ns.map V.int))) else none) (λb =>?_) (.inl (.inr ⟨{ cls :=.type "list",data :=.seq vs.toArray },if_pos rfl⟩)) (λb u z =>?_) (λb z =>?_) λ_=>hk
  ·by_cases hb:b=a
   ·exact .inr ⟨_,_,if_pos hb⟩
   ·exact .inl (if_neg hb)
  ·by_cases hb:b=a
   ·have z':=(if_pos hb).symm.trans z
    cases z'
    subst hb
    exact ⟨ha,by rw[CS];exact hl,vs,_,rv,ha⟩
   ·have z':=(if_neg hb).symm.trans z
    cases z'
  ·by_cases hb:b=a
   ·exact hb
   ·exact absurd (if_neg hb) z
open PySem PySem.Spec PyProof.Rows
theorem y7 {l:PySem.W.OpenLaw}{n k:Nat}{q:Dp}{loose:List Str}{XP:(Str->Option CU)->Heap->Prop}{YP:DW->Heap->Prop}{d:DefRec}{K:Params->CZ}{CX:DW->CXT}{sp:DW->Sp}{x:Str}
  (hn:l.most=some n) (hn2:n<=Dl) (hdf:d.params.defaults=[]) (hr:dF k callerA)
  (hY:∀(w:DW) (h:Heap),YP w h->(K w.params).In h)
  (F:∀(w:DW) (mg:Str->Option CU) (fa:Addr) (h:Heap),(K w.params).In h->h.Ns Eg mg->mg d.name=some (.ref fa) →
   ∃fd:Eo,(∀(s:CW) (u:CU),BindsTo s fd ⟨[u],[]⟩ [(x,u)]) ∧
    ∀base:Heap,(K w.params).In base->base.Ns Eg mg->bF l.prog w (K w.params) mg base (CX w) k fa fd [x] (sp w))
  (hsp:∀(w:DW) (H:Hp) (a:Addr) (ns:List Int),ns.length<=n->A6 H->SqL (K w.params) H a (ns.map V.int)->sp w [.ref a] H (λv _=>v = .bl true) λ_ _ _=>False)
  (hCX:∀(w:DW) (H:Hp) (s:CW) (e:CU) (s':CW),CX w [] H s (λ_ _ _=>False) e s'->False) :
  PySem.W.WalkO q loose XP YP l.row.toRowW d [] (λf vs=>PySem.call f vs):=by
 refine Att.pM hn hdf λw s₀ s₁ mg mb fa o pm cd doc a vs ns G Y ho hd hcd hmg hobj hints hlen hg =>?_
 have KX:=hY w _ Y
 obtain ⟨fd,hb,hF⟩:=F w mg fa _ KX G.T.g hmg
 exact w4 KX G.T.g G.T.b G.T.builtins G.T.nolimit hg hobj hints (DZ hlen hn2) hr hF hb (λH hO hS=>hsp w H a ns hlen hO hS) λH e s'=>hCX w H s₁ e s'
open PySem PySem.Spec PyProof.Rows
def dZ (s:Stmt):Arguments:=match s with
 | .FunctionDef _ a _ _ _ _ _ _ _ _=>a
 | _=>{ posonlyargs:=[],args:=[],vararg:=none,kwonlyargs:=[],kw_defaults:=[],kwarg:=none,defaults:=[] }
def bV (s:Stmt):List Stmt:=match s with
 | .FunctionDef _ _ b _ _ _ _ _ _ _=>b
 | _=>[]
def az (s:Stmt):Scope:=match s with
 | .FunctionDef _ _ _ _ _ _ sc _ _ _=>sc
 | _=>{ kind :=.function,names:=[],isGenerator:=false,isCoroutine:=false }
abbrev CX0:CXT:=λ_ _ _ _ _ _=>False
abbrev E0:XK:=λ_ _ _=>False
theorem Cf {X:Cx}:Passes CX0 X E0:=λ_ _ _ _ _ _ _ h=>h.elim
structure Fun (K:CZ)(x qual:Str)(st:Stmt)(f:Addr)(fd:Eo):Prop where
 ex:∃(oc:CU) (od:Option Addr) (kV doc pm:CU) (an:Option Addr) (cdv ct:CU) (osl:Array (Option CU)),
  fd=PySem.W.fnOf x qual (dZ st) (bV st) (az st) .none kV doc pm an cdv ct/\K.lookup f=some ⟨oc,od,.func fd,osl⟩/\PySem.W.codeIn K cdv qual=true
 kp:PySem.W.keepIn K (.ref f)=true
section
variable  {P:Dp}{w:DW}{K:CZ}{mg:Str->Option CU}{base:Heap}
theorem Fun.ok {x qual:Str}{st:Stmt}{f:Addr}{fd:Eo}{N ps:List Str}{k:Nat}{sp:Sp}(F:Fun K x qual st f fd)(S:aF N ps (az st))(len:∀vs H Q E,sp vs H Q E->vs.length=ps.length)
  (hbody:∀(cdv:CU) (A:Ec) (outer:List Env) (s:CW) (H:Hp) (vs:List V) (Q:VK) (E:XK),dF k (A.deeper (envOfC qual (az st) s.heap.objs.size f cdv))->sp vs H Q E →
   ∃t,PSs (pJ CX0 P w K mg base N qual (az st) f cdv A outer s H E).nox (bV st) t/\t { nx:=λ_ H'=>Q .non H',rt:=Q } (start N vs) H):bF P w K mg base CX0 (k+1) f fd ps sp:=by
 obtain ⟨oc,od,kV,doc,pm,an,cdv,ct,osl,rfl,lk,hcd⟩:=F.ex
 refine B8 lk hcd S len λA outer s H vs Q E hr hsp =>?_
 obtain ⟨t,h,q⟩:=hbody cdv A outer s H vs Q E hr hsp
 exact ⟨t,h.nox,q⟩
theorem Fun.binds {x qual:Str}{st:Stmt}{f:Addr}{fd:Eo}{ps:List Str}(F:Fun K x qual st f fd)
  (h:∀(kV doc pm:CU) (an:Option Addr) (cdv ct:CU) (us:List CU),us.length=ps.length->bindArgs (PySem.W.fnOf x qual (dZ st) (bV st) (az st) .none kV doc pm an cdv ct) ⟨us,[]⟩=pure (ps.zip us)):Binds K fd ps []:=by
 obtain ⟨oc,od,kV,doc,pm,an,cdv,ct,osl,rfl,lk,hcd⟩:=F.ex
 exact .all (h kV doc pm an cdv ct)
theorem w5 {x qual:Str}{st:Stmt}{f:Addr}{oc:CU}{od an:Option Addr}{osl:Array (Option CU)}{kV doc pm cdv ct:CU}(l:K.lookup f=some ⟨oc,od,.func (PySem.W.fnOf x qual (dZ st) (bV st) (az st) .none kV doc pm an cdv ct),osl⟩)
  (c:PySem.W.codeIn K cdv qual=true) (k:PySem.W.keepIn K (.ref f)=true):Fun K x qual st f (PySem.W.fnOf x qual (dZ st) (bV st) (az st) .none kV doc pm an cdv ct):=⟨⟨oc,od,kV,doc,pm,an,cdv,ct,osl,rfl,l,c⟩,k⟩
end
theorem tM {A:Ec}{k:Nat}(hr:dF k A):A.units+1<cLine:=HM (Ht (by decide:1<=64) _) hr.units
theorem bW {n:Nat}(h:n<=1000):n<Dl:=HM h (by decide)
section
variable  {X:Cx}
theorem pv (i:Nat){x:Str}{pos:Pos}(hN:X.N[i]? = some x:=by rfl)(hv:Vis X.env.scope x:=by first | exact Or.inl rfl | exact Or.inr (Or.inl rfl) | exact Or.inr (Or.inr rfl))(hd:(x == ("__debug__" : Str))=false:=by decide)
  (hcd:(x == ("__classdict__" : Str))=false:=by decide):PE X (.Name x pos) (BP i):=AI hN hv hd hcd
end
theorem bM {A B:Prop}(h:B):if false=true then A else B:=by
 rw[if_neg Di]
 exact h
theorem bH {A B:Prop}(h:A):if true=true then A else B:=by
 rw[if_pos rfl]
 exact h
theorem iB {c A B:Prop}[Decidable c](h1:c->A)(h2:¬ c->B):if c then A else B:=by
 by_cases h:c
 ·rw[if_pos h]
  exact h1 h
 ·rw[if_neg h]
  exact h2 h
theorem w6 {c A B:Prop}[Decidable c](hc:c)(h:B):if (!decide c)=true then A else B:=by
 rw[decide_eq_true hc]
 exact bM h
def aA (H H':Hp):Prop:=∀b o,H b=some o->H' b=some o
theorem aA.refl (H:Hp):aA H H:=λ_ _ h=>h
theorem aA.trans {H H1 H2:Hp}(a:aA H H1)(b:aA H1 H2):aA H H2:=λc o h=>b c o (a c o h)
theorem aA.free {H H':Hp}(e:aA H H'){l:Addr}(h:H' l=Option.none):H l=Option.none:=by
 cases q:H l with
 | none=>rfl
 | some o =>
  rw[e l o q] at h
  cases h
theorem aA.seq {K:CZ}{H H':Hp}{a:Addr}{xs:List V}(e:aA H H')(h:SqL K H a xs):SqL K H' a xs:=by
 rcases h with (h | ⟨o,h⟩) | h
 ·exact .inl (.inl (e _ _ h))
 ·exact .inl (.inr ⟨o,e _ _ h⟩)
 ·exact .inr h
end L2
set_option maxHeartbeats 4000000
namespace L2
open PySem PySem.Spec PyProof.Rows
def pN (on:List (Str×NameKind))(N:List Str)(sc:Scope)(N':List Str)(ix:List (Option Nat)):Bool :=
 decide (sc.kind = .function) &&
 sc.names.all (λy=>match y.2 with
  | .local=>decide (sc.names.lookup y.1=some .local)
  | .cell=>false
  | .free=>decide (on.lookup y.1=some .cell) || decide (on.lookup y.1=some .free)
  | _=>true) &&
 decide (ix.length=N'.length) &&
 (ix.zip N').all (λp=>match p.1 with
  | none=>true
  | some j=>decide (N[j]? = some p.2) && decide (sc.names.lookup p.2=some .free))
theorem jJ {ns:List (Str×NameKind)}{y:Str}{k:NameKind}(h:ns.lookup y=some k):(y,k)∈ns:=F2 h
structure kF (on:List (Str×NameKind))(N:List Str)(sc:Scope)(N':List Str)(ix:List (Option Nat)):Prop where
 kind:sc.kind = .function
 locs:∀y∈sc.names,y.2 = .local->sc.names.lookup y.1=some .local
 nocell:∀y∈sc.names,y.2 ≠ .cell
 frees:∀y∈sc.names,y.2 = .free->on.lookup y.1=some .cell\/on.lookup y.1=some .free
 len:ix.length=N'.length
 slot:∀(i j:Nat) (y:Str),ix[i]? = some (some j)->N'[i]? = some y->N[j]? = some y/\sc.names.lookup y=some .free
theorem kF.of {on:List (Str×NameKind)}{N:List Str}{sc:Scope}{N':List Str}{ix:List (Option Nat)}(h:pN on N sc N' ix=true):kF on N sc N' ix:=by
 unfold pN at h
 rw[Ey,Ey,Ey] at h
 obtain ⟨⟨⟨h1,h2⟩,h3⟩,h4⟩:=h
 rw[FR] at h2 h4
 refine ⟨of_decide_eq_true h1,λy hy e =>?_,λy hy e =>?_,λy hy e =>?_,of_decide_eq_true h3,λi j y e1 e2 =>?_⟩
 ·have q:=h2 y hy
  rw[e] at q
  exact of_decide_eq_true q
 ·have q:=h2 y hy
  rw[e] at q
  cases q
 ·have q:=h2 y hy
  rw[e] at q
  exact ((Bool.or_eq_true _ _).mp q).imp of_decide_eq_true of_decide_eq_true
 ·have q:=h4 (some j,y) (C7 (i:=i) (by rw[IV];exact ⟨e1,e2⟩))
  dsimp only at q
  rw[Ey] at q
  exact ⟨of_decide_eq_true q.1,of_decide_eq_true q.2⟩
theorem jK {α β:Type}(f:α -> β -> β)(b:α -> β -> Sem (ForInStep β)):∀(l:List α) (c:β),(∀x∈l,∀d,b x d=pure (.yield (f x d)))->forIn l c b=pure (l.foldl (λd x=>f x d) c)
 | [],c,_=>rfl
 | x :: l,c,h=>by
  rw[JS,h x Dr,pure_bind]
  exact jK f b l (f x c) λy hy=>h y (Ds _ hy)
def aU (env:Env)(l:List (Str×NameKind))(c:List (Str×Addr)):List (Str×Addr) :=
 l.foldl (λd y=>if y.2 = .free then (y.1,(env.cells.lookup y.1).getD 0) :: d else d) c
theorem rP {sc:Scope}{env:Env}(h:∀y∈sc.names,y.2 = .free->∃c,env.cells.lookup y.1=some c):closureFor sc env=pure (aU env sc.names []):=by
 simp only[closureFor]
 unfold aU
 rw[jK (λy d=>if y.2 = .free then (y.1,(env.cells.lookup y.1).getD 0) :: d else d)]
 ·rfl
 ·rintro ⟨n,k⟩ hy d
  by_cases hk:k = .free
  ·subst hk
   obtain ⟨c,e⟩:=h _ hy rfl
   have e':env.cells.lookup n=some c:=e
   simp only[beq_self_eq_true,if_true,cellOf,e',Option.getD_some]
   rfl
  ·have hb:(k == NameKind.free)=false:=by simpa using hk
   simp only[hb,Dt,if_false,hk]
theorem de {env:Env}{y:Str}{c:Addr}:∀(l:List (Str×NameKind)) (d:List (Str×Addr)),(∀z∈l,z.2 = .free->∃c,env.cells.lookup z.1=some c)->(aU env l d).lookup y=some c →
  d.lookup y=some c\/env.cells.lookup y=some c
 | [],d,_,h =>.inl h
 | (n,k) :: l,d,hf,h=>by
  have h':(aU env l (if k = .free then (n,(env.cells.lookup n).getD 0) :: d else d)).lookup y=some c:=h
  have ih:=de l _ (λz hz=>hf z (Ds _ hz)) h'
  by_cases hk:k = .free
  ·subst hk
   rw[if_pos rfl] at ih
   rcases ih with q | q
   ·rw[Hr] at q
    cases hx:(y == n) with
    | true =>
     rw[hx] at q
     obtain ⟨c',e⟩:=hf (n,.free) Dr rfl
     have e':env.cells.lookup n=some c':=e
     have q':some ((env.cells.lookup n).getD 0)=some c:=q
     rw[e'] at q'
     have en:y=n:=eq_of_beq hx
     rw[en,e']
     exact .inr q'
    | false =>
     rw[hx] at q
     exact .inl q
   ·exact .inr q
  ·rw[if_neg hk] at ih
   exact ih
theorem fc {env:Env}{y:Str}:∀(l:List (Str×NameKind)) (d:List (Str×Addr)),((y,NameKind.free)∈l\/∃c,d.lookup y=some c)->∃c,(aU env l d).lookup y=some c
 | [],d,h=>by
  rcases h with h | h
  ·cases h
  ·exact h
 | (n,k) :: l,d,h=>by
  show ∃c,(aU env l (if k = .free then (n,(env.cells.lookup n).getD 0) :: d else d)).lookup y=some c
  refine fc l _ ?_
  have old:(∃c,d.lookup y=some c)->∃c,(if k = .free then (n,(env.cells.lookup n).getD 0) :: d else d).lookup y=some c:=λ⟨c,e⟩=>by
   by_cases hk:k = .free
   ·rw[if_pos hk,Hr]
    cases hx:(y == n) with
    | true=>exact ⟨_,rfl⟩
    | false=>exact ⟨c,e⟩
   ·rw[if_neg hk];exact ⟨c,e⟩
  rcases h with h | h
  ·rcases Dm.mp h with q | q
   ·cases q
    rw[if_pos rfl,Hr,beq_self_eq_true]
    exact .inr ⟨_,rfl⟩
   ·exact .inl q
  ·exact .inr (old h)
theorem kI {c:Str->NameKind->Bool}{y:Str}:∀l:List (Str×NameKind),(l.map λz=>if c z.1 z.2=true then (z.1,NameKind.cell) else (z.1,z.2)).lookup y=(l.lookup y).map λk=>if c y k=true then NameKind.cell else k
 | []=>rfl
 | (n,k) :: l=>by
  have ih:=kI (c:=c) (y:=y) l
  rw[DK]
  have e:(if c n k=true then (n,NameKind.cell) else (n,k))=(n,if c n k=true then NameKind.cell else k):=by split <;> rfl
  show List.lookup y ((if c n k=true then (n,NameKind.cell) else (n,k)) :: _)=_
  rw[e,Hr,Hr]
  cases hx:(y == n) with
  | true =>
   have en:y=n:=eq_of_beq hx
   subst en
   rfl
  | false=>exact ih
def blk (X:Cx)(sc:Scope)(cl:List (Str×Addr))(C:Addr)(N':List Str)(s:CW)(H:Hp)(fp:List Addr):Cx :=
 { X with N:=N',s₀:=s,H₀:=H,env:=compEnvC sc cl C X.env,outer:=X.stack,ex:=fp,fn:=λ_=>false,pn:=[],xe:=λ_ _=>False }
def PF (X:Cx)(ifs:List Expr)(t:TT):Prop :=
  ∀(pins:List (Addr×Obj)) (s:CW) (σ:St) (H:Hp) (Q:Bool->Hp->Prop),Inv X pins σ H s->t σ H Q →
    Dn (DG X.prog X.w) X.A (forIn ifs true λc r=>if r=true then do let ok ← isTrue c X.env (eval c X.env);pure (ForInStep.yield ok) else pure (ForInStep.yield r)) (TP X pins σ Q) X.xe s
theorem cD {X:Cx}:PF X [] (λ_ H Q=>Q true H):=λ_ _ _ H _ I h=>wpAny_tests_nil ⟨H,I,h⟩
theorem d9 {X:Cx}{c:Expr}{t:TT}(h:PT X c t):PF X [c] t:=λpins s σ H Q I q=>wpAny_tests_one (h pins s σ H Q I q)
def inner (ix:List (Option Nat))(σ:St):St:=ix.map λo=>match o with | none=>none | some j=>(σ[j]?).join
def mH (J:It)(g:TG)(tc:TT)(te:TE)(τ:St)(Q:VK)(H1:Hp):Prop:=∃W:Nat->Nat->St->List V->Hp->Prop,(∃m,W 0 m τ [] H1)/\∀i m τ ys H,W i m τ ys H →
 (J.stop i H/\ys.length<=Dl/\∀l,H l=none->Q (.ref l) (upd H l (.lst ys))) ∨
 (J.go i H/\∀x H',J.yld i H x H'->g x τ H' λτ2 H2=>tc τ2 H2 λb H3=>if b=true then te τ2 H3 λy H4=>ys.length<Dl/\∃m',m'<m/\W (i+1) m' τ2 (ys++[y]) H4 else ∃m',m'<m/\W (i+1) m' τ2 ys H3)
def w9 (ix:List (Option Nat))(wi:TI)(g:TG)(tc:TT)(te:TE):TE:=λσ H Q=>wi σ H λJ H1=>mH J g tc te (inner ix σ) Q H1
section
variable  {X:Cx}{sc:Scope}{N':List Str}{ix:List (Option Nat)}{pins:List (Addr×Obj)}{σ:St}{H:Hp}{s:CW}
theorem A7 (I:Inv X pins σ H s)(K:kF X.env.scope.names X.N sc N' ix){C:Addr}{fp:List Addr}(hC:s.heap.objs.size<=C)(f:∀b∈fp,jf X pins H b)(fl:∀b∈fp,b<s.heap.objs.size) :
  (blk X sc (aU X.env sc.names []) C N' s H fp).Ok:=by
 have hcl:∀y∈sc.names,y.2 = .free->∃c,X.env.cells.lookup y.1=some c:=λy hy e=>I.ok.has y.1 (K.frees y hy e)
 have up:∀y c,(aU X.env sc.names []).lookup y=some c->X.env.cells.lookup y=some c:=λy c e=>by
  rcases de sc.names [] hcl e with q | q
  ·cases q
  ·exact q
 have nfs:∀b∈fp,b∉frs X.stack:=λb hb z=>by
  rcases Dm.mp (I.nV b z) with q | q
  ·exact (f b hb).2.1 q
  ·exact (f b hb).2.2.1 q
 refine ⟨I.ok.mod,K.kind,I.ok.glob,I.ok.blt,hC,λy z c h1 h2=>I.ok.inj y z c (up _ _ h1) (up _ _ h2),λy hy =>?_,(λy c h=>nomatch h),I.ok.hd,I.ok.frames,.inl rfl,λb hb =>?_,λb o e=>I.bs b o e,DZ I.ok.bsz I.sz,λb o e hb =>?_,nfs,I.stack,I.tD⟩
 ·have hy':(relabel sc X.env).names.lookup y=some .cell\/(relabel sc X.env).names.lookup y=some .free:=hy
  have em:=kI (c:=λn k=>k == .free && X.env.scope.kind == .function && X.env.kindOf n == some .cell) (y:=y) sc.names
  have em':(relabel sc X.env).names.lookup y=_:=em
  rw[em'] at hy'
  cases hq:sc.names.lookup y with
  | none=>rw[hq] at hy';rcases hy' with q | q <;> cases q
  | some k =>
   have km:=jJ hq
   have hk:k = .free:=by
    rw[hq] at hy'
    simp only[JT,Option.some.injEq] at hy'
    by_cases hc:(k == .free && X.env.scope.kind == .function && X.env.kindOf y == some .cell)=true
    ·rw[Ey,Ey] at hc
     exact by simpa using hc.1.1
    ·rw[if_neg hc] at hy'
     rcases hy' with q | q
     ·exact absurd q (K.nocell _ km)
     ·exact q
   subst hk
   exact fc sc.names [] (.inl km)
 ·exact ⟨Dk (Dw (fl b hb) hC),λy c e=>(f b hb).2.2.2.2.1 y c (up y c e)⟩
 ·rcases (f b hb).2.2.2.1 with q | q
  ·exact I.ok.noex b o e q
  ·exact absurd (Dw (Dc e) (DZ I.ok.bsz q)) (D9 _)
theorem y8 (I:Inv X pins σ H s)(K:kF X.env.scope.names X.N sc N' ix){C:Addr}{fp:List Addr}(hC:s.heap.objs.size<=C)(f:∀b∈fp,jf X pins H b)(fl:∀b∈fp,b<s.heap.objs.size)
  {h1:Heap} {t:Nat} {m:Str->Option CU} (k:∀b o,s.heap.get? b=some o->h1.get? b=some o) (ns:h1.Ns C m) :
  Inv (blk X sc (aU X.env sc.names []) C N' s H fp) [] (inner ix σ) H { s with heap:=h1,toks:=t }:=by
 have hcl:∀y∈sc.names,y.2 = .free->∃c,X.env.cells.lookup y.1=some c:=λy hy e=>I.ok.has y.1 (K.frees y hy e)
 have up:∀y c,(aU X.env sc.names []).lookup y=some c->X.env.cells.lookup y=some c:=λy c e=>by
  rcases de sc.names [] hcl e with q | q
  ·cases q
  ·exact q
 refine ⟨A7 I K hC f fl,rfl,I.bare,Un.kept k,⟨m,ns,λi y v e1 e2 e3 =>?_⟩,λy c e =>?_,I.hok.fresh hC,λy c e=>I.freeC y c (up y c e),(λp hp=>nomatch hp),I.hok.kept k,?_⟩
 ·have e2':(ix.map λo=>match o with | none=>none | some j=>(σ[j]?).join)[i]? = some (some v):=e2
  rw[C8] at e2'
  cases hi:ix[i]? with
  | none=>rw[hi] at e2';cases e2'
  | some o =>
   cases o with
   | none=>rw[hi] at e2';cases e2'
   | some j =>
    rw[hi] at e2'
    have e4:(σ[j]?).join=some v:=DB e2'
    have e5:σ[j]? = some (some v):=by
     cases hj:σ[j]? with
     | none=>rw[hj] at e4;cases e4
     | some z=>rw[hj] at e4;rw[show z=some v from e4]
    obtain ⟨n1,n2⟩:=K.slot i j y hi e1
    have mem:=jJ n2
    have kc:X.env.kindOf y=some .cell\/X.env.kindOf y=some .free:=K.frees _ mem rfl
    obtain ⟨m',_,hl⟩:=I.loc
    obtain ⟨u,r,l⟩:=hl j y v n1 e5 (.inr kc)
    refine ⟨u,r,?_⟩
    rcases l with ⟨q,_⟩ | ⟨_,c,q,z⟩
    ·rcases kc with kc | kc <;> (rw[kc] at q;cases q)
    ·obtain ⟨c',hc'⟩:=fc (env:=X.env) (y:=y) sc.names [] (.inl mem)
     have:=up y c' hc'
     rw[q] at this
     cases this
     refine .inr ⟨?_,c,hc',z.keeps k⟩
     have em:=kI (c:=λn k=>k == .free && X.env.scope.kind == .function && X.env.kindOf n == some .cell) (y:=y) sc.names
     have em':(relabel sc X.env).names.lookup y=_:=em
     rcases kc with kc | kc
     ·left
      show (relabel sc X.env).names.lookup y=some .cell
      rw[em',n2]
      simp only[JT,kc,I.ok.kind]
      rfl
     ·right
      show (relabel sc X.env).names.lookup y=some .free
      rw[em',n2]
      simp only[JT,kc,I.ok.kind]
      rfl
 ·obtain ⟨v,z⟩:=I.cell y c (up y c e)
  exact ⟨v,z.keeps k⟩
 ·show (ix.map _).length=N'.length
  rw[CS]
  exact K.len
end
open PySem PySem.Spec PyProof.Rows
theorem rQ {prog:Dp}{w:DW}{A:Ec}{R:Result->CW->Prop}{s:CW}{elt target iter:Expr}{ifs:List Expr}{sc:Scope}{pos:Pos}{it acc:CU}{env:Env}(J:Nat->CW->Prop)
    (turn:∀n s,J n s->Dn (DG prog w) A (pyNext it) (λr s1=>match r with
      | none=>R (.ok .next) s1
      | some v=>Dn (DG prog w) A (letOwnedTupleGo target it v) (λ_ s2=>Dn (DG prog w) A (assign target env v) (λ_ s3 =>
          Dn (DG prog w) A (forIn ifs true λc r=>if r=true then do let ok ← isTrue c env (eval c env);pure (ForInStep.yield ok) else pure (ForInStep.yield r)) (λok s4 =>
            if ok=true then Dn (DG prog w) A (eval elt env) (λx s5=>Dn (DG prog w) A (call (.builtin "list.append") [acc,x]) (λ_ s6=>∃m,m<n/\J m s6) (λ_ _=>False) s5) (λ_ _=>False) s4
            else ∃m,m<n/\J m s4) (λ_ _=>False) s3) (λ_ _=>False) s2) (λ_ _=>False) s1) (λ_ _=>False) s)
    (n:Nat) (h:J n s):HQ (DG prog w) A (.compLoop (.ListComp elt [⟨target,iter,ifs,0⟩] sc pos) 0 it acc env) R s:=by
  refine codeAny_loop rfl J (λk t q =>?_) n h
  show Dn _ A (Sem.onRaise (compTurn (.ListComp elt [⟨target,iter,ifs,0⟩] sc pos) 0 it acc env) (λx=>do noteFrame x env;theTreesLotGoes x)) _ _ t
  refine wpAny_noted ?_
  rw[compTurn_list]
  have no:∀{E:CU->CW->Prop} (x:CU) (t:CW),False->E x t:=λ_ _ z=>z.elim
  refine CP (Jy (CP (FG (turn k t q) (λr s1 h1 =>?_) no)))
  cases r with
  | none=>exact CT h1
  | some v =>
    refine CP (FG h1 (λ_ s2 h2=>CP (FG h2 (λ_ s3 h3=>CP (FG h3 (λok s4 h4 =>?_) no)) no)) no)
    cases ok with
    | false=>exact CT ⟨rfl,h4⟩
    | true=>exact CP (CP (FG h4 (λx s5 h5=>CP (FG h5 (λ_ s6 h6=>CT (CT ⟨rfl,h6⟩)) no)) no))
section
variable  {X:Cx}
def y9 (X:Cx)(pins:List (Addr×Obj))(σ:St)(Q:VK)(use:Option (CU->Sem Unit))(Q2:CU->CW->Prop):Prop :=
 ∀(s4:CW) (H3:Hp) (acc C:Addr) (ys:List V) (oC:Obj),Inv X (pins++[(C,oC)]) σ (upd H3 acc (.lst ys)) s4->(∃m,s4.heap.Ns C m)->X.s₀.heap.objs.size<=C->(∀x c,X.env.cells.lookup x=some c->c≠C)->(∀p∈X.pn++pins,p.1≠C)->Q (.ref acc) (upd H3 acc (.lst ys)) →
  compPost (DG X.prog X.w) X.A X.xe use Q2 (.ref acc) C (.ok .next) s4
theorem mJ {elt target iter:Expr}{ifs:List Expr}{sc:Scope}{pos ps:Pos}{wi:TI}{g:TG}{tc:TT}{te:TE}{N':List Str}{ix:List (Option Nat)}{use:Option (CU->Sem Unit)}{Q2:CU->CW->Prop}
  {pins:List (Addr×Obj)} {s:CW} {σ:St} {H:Hp} {Q:VK}
  (hcalm:X.calm=true) (hi:PI X target iter wi) (hk:pN X.env.scope.names X.N sc N' ix=true)
  (hg:∀cl C s H fp,PG (blk X sc cl C N' s H fp) target g) (hc:∀cl C s H fp,PF (blk X sc cl C N' s H fp) ifs tc) (he:∀cl C s H fp,PE (blk X sc cl C N' s H fp) elt te)
  (hs:∀x,foldedSetIterable iter X.env x=pure x) (fin:y9 X pins σ Q use Q2) (I:Inv X pins σ H s) (h:w9 ix wi g tc te σ H Q) :
  Dn (DG X.prog X.w) X.A (comprehension (.ListComp elt [⟨target,iter,ifs,0⟩] sc pos) sc X.env ps (newList []) false (eval iter X.env) use) Q2 X.xe s:=by
 have K:=kF.of hk
 have hcl:∀y∈sc.names,y.2 = .free->∃c,X.env.cells.lookup y.1=some c:=λy hy e=>I.ok.has y.1 (K.frees y hy e)
 refine wpAny_comprehension_free rfl hs (rP hcl) K.kind K.locs (thn (hi pins s σ H _ I h) λv s1 h1=>thn h1 λitv s2 h2 =>?_)
 obtain ⟨it,fp,tn,J,H2,e,I2,T,st2,f2,W,⟨m0,w0⟩,turn⟩:=h2
 subst e
 refine DP (wpAny_newFunctionEnv K.nocell (by intro y hy;simp at hy) (λh1 ns1 sb1 =>?_) K.kind)
 dsimp only at ns1 sb1 ⊢
 generalize hP:s2.heap.push { cls :=.type "list",dict:=none,data :=.seq ([]:List CU).toArray }=G at ns1 sb1 ⊢
 have sG:G.objs.size=s2.heap.objs.size+1:=by rw[<- hP,Ek]
 have fl:∀b∈fp,b<s2.heap.objs.size:=λb hb=>by
  obtain ⟨o,e,_⟩:=T.obj _ _ st2 b hb
  exact Dc e
 have hC:s2.heap.objs.size<=G.objs.size:=by rw[sG];exact Jr _
 have aC:s2.heap.objs.size≠G.objs.size:=by rw[sG];exact Dk (EB _)
 have old:∀b o,s2.heap.get? b=some o->h1.get? b=some o:=λb o e=>by
  have lt:=Dc e
  have ne:b≠G.objs.size:=Dk (Dw lt hC)
  rw[sb1.2 b ne]
  exact CQ _ (hP ▸ CQ _ e)
 have accO:h1.PlainList s2.heap.objs.size #[]:=⟨_,by
  rw[sb1.2 _ aC]
  exact CQ _ (hP ▸ C3 _ rfl)⟩
 have IB:=y8 (t:=s2.toks+([]:List (Str×CU)).length) I2 K hC f2 fl old ns1
 have up:∀y c,(aU X.env sc.names []).lookup y=some c->X.env.cells.lookup y=some c:=λy c e=>by
  rcases de sc.names [] hcl e with q | q
  ·cases q
  ·exact q
 have accNotCell:∀y c,(aU X.env sc.names []).lookup y=some c->c≠s2.heap.objs.size:=λy c e z=>by
  obtain ⟨v,q⟩:=I2.cell y c (up y c e)
  exact absurd q.lt (by rw[z];exact D9 _)
 have accFs:s2.heap.objs.size∉frs X.stack:=λz=>by
  rcases Dm.mp (I2.nV _ z) with q | q
  ·exact absurd I2.lt (by rw[<- q];exact D9 _)
  ·exact I2.AH (C0 _) q
 have accFp:s2.heap.objs.size∉fp:=λz=>absurd (fl _ z) (D9 _)
 have stat:∀{H':Hp} {ob:Obj},(∀b∈fp,H' b=none)->∀b∈fp,jf (blk X sc (aU X.env sc.names []) G.objs.size N' s2 H2 fp) [(s2.heap.objs.size,ob)] H' b:=λ{H' ob} hn b hb=>by
  refine ⟨hn b hb,Dk (Dw (fl b hb) hC),IB.ok.exfs b hb,.inl hb,λy c e=>(f2 b hb).2.2.2.2.1 y c (up y c e),λp hp z =>?_⟩
  have ep:p=(s2.heap.objs.size,ob):=by simpa [blk] using hp
  subst ep
  exact accFp (by rw[show s2.heap.objs.size=b from z];exact hb)
 have accPin:∀{pl:List (Addr×Obj)} {σ':St} {H':Hp} {s':CW} {its:Array CU} {n:Nat},Inv (blk X sc (aU X.env sc.names []) G.objs.size N' s2 H2 fp) pl σ' H' s'->s'.heap.get? s2.heap.objs.size=some { cls :=.type "list",data :=.seq its n } →
   H' s2.heap.objs.size=none->Inv (blk X sc (aU X.env sc.names []) G.objs.size N' s2 H2 fp) [(s2.heap.objs.size,{ cls :=.type "list",data :=.seq its n })] σ' H' s':=λ{pl σ' H' s' its n} J' e nn=>J'.iq λp hp=>by
  have ep:p=(s2.heap.objs.size,({ cls :=.type "list",data :=.seq its n }:Obj)):=by simpa [blk] using hp
  subst ep
  exact ⟨e,nn,aC,accFs,λv z=>nomatch z⟩
 have loop:HQ (DG X.prog X.w) X.A (.compLoop (.ListComp elt [⟨target,iter,ifs,0⟩] sc pos) 0 (.ref it) (.ref s2.heap.objs.size) (compEnvC sc (aU X.env sc.names []) G.objs.size X.env))
   (compPost (DG X.prog X.w) X.A X.xe use Q2 (.ref s2.heap.objs.size) G.objs.size) { s2 with heap:=h1,toks:=s2.toks+([]:List (Str×CU)).length }:=by
  refine rQ (λn s'=>∃i ys its nn σ' H',Inv (blk X sc (aU X.env sc.names []) G.objs.size N' s2 H2 fp) [(s2.heap.objs.size,{ cls :=.type "list",data :=.seq its nn })] σ' H' s'/\Vals ys its.toList/\tn i s'.heap/\(∀b∈fp,H' b=none)/\W i n σ' ys H')
   (λn s3 h3 =>?_) m0 ?_
  ·obtain ⟨i,ys,its,nn,σ3,H3,I3,r3,st3,fr3,w3⟩:=h3
   obtain ⟨e3,a3,_,_,_⟩:=I3.pin (s2.heap.objs.size,{ cls :=.type "list",data :=.seq its nn }) (by simp[blk])
   rcases turn i n σ3 ys H3 w3 with ⟨stop,zl,q3⟩ | ⟨go,step⟩
   ·refine thn (T.done (blk X sc (aU X.env sc.names []) G.objs.size N' s2 H2 fp) rfl rfl rfl hcalm i _ s3 σ3 H3 _ I3 (stat fr3) st3 stop) λr s4 ⟨hr,I4⟩ =>?_
    subst hr
    obtain ⟨e4,a4,_,_,_⟩:=I4.pin (s2.heap.objs.size,{ cls :=.type "list",data :=.seq its nn }) (by simp[blk])
    obtain ⟨m4,n4,_⟩:=I4.loc
    obtain ⟨oC,es4,ep4,c4,d4,r4⟩:=id n4
    have ltA:∀b o,s2.heap.get? b=some o->b≠s2.heap.objs.size:=λb o e=>Dk (Dc e)
    have B:=I4.base
    have hok:HOk X.prog X.w (upd H3 s2.heap.objs.size (.lst ys)) s4.heap:=λb o e=>by
     by_cases hb:b=s2.heap.objs.size
     ·subst hb
      rw[ae] at e
      cases e
      exact ⟨zl,its.toList,nn,r3,e4⟩
     ·rw[ay hb] at e
      refine (I4.hok b o e).stay (λc u hc q=>q) (λc q =>?_) (λc xs q =>?_)
      ·rw[ay (aq q a4)];exact q
      ·rw[ay (aq q a4)];exact q
    have I5:Inv X pins σ (upd H3 s2.heap.objs.size (.lst ys)) s4:=by
     refine I2.BO (ch:=fp) I4.os ⟨λb o e n hb hx=>B.keep b o e n hb hx,λb o e n hb hx=>B.slot b o e n hb hx,λb o e n hx =>?_,λb o e hx=>B.there b o e hx,λb xs e =>?_,λb o u e =>?_,λb ps e =>?_⟩ hok I4.bare (λb hb =>?_)
     ·rw[ay (ltA b o e)];exact B.free b o e n hx
     ·have q:=B.tups b xs e
      rw[ay (aq q a4)];exact q
     ·have q:=B.frzs b o u e
      rw[ay (aq q a4)];exact q
     ·obtain ⟨more,q⟩:=B.tbls b ps e
      exact ⟨more,by rw[ay (aq q a4)];exact q⟩
     ·obtain ⟨g0,g1,g2,g3,g4,g5⟩:=f2 b hb
      exact ⟨g3,g1,g4,g5⟩
    have cL:G.objs.size≠X.env.locals:=FK (Dw I2.lt hC)
    have I6:Inv X (pins++[(G.objs.size,oC)]) σ (upd H3 s2.heap.objs.size (.lst ys)) s4:=I5.iq λp hp=>by
     rcases Dd.mp hp with q | q
     ·exact I5.pin p (DA _ q)
     ·have ep:p=(G.objs.size,oC):=by simpa using q
      subst ep
      exact ⟨c4,by rw[ay (Ee aC)];exact I4.free,cL,I2.AH hC,λv z=>by rw[d4] at z;cases z⟩
    refine fin s4 H3 s2.heap.objs.size G.objs.size ys oC I6 ⟨m4,n4⟩ (DZ I2.sz hC) (λy c e z =>?_) (λp hp z =>?_) (q3 _ a4)
    ·obtain ⟨v,q⟩:=I2.cell y c e
     exact absurd (Dw q.lt hC) (by rw[z];exact D9 _)
    ·exact absurd (Dw (Dc (I2.pin p hp).1) hC) (by rw[z];exact D9 _)
   ·refine thn (T.item (blk X sc (aU X.env sc.names []) G.objs.size N' s2 H2 fp) rfl rfl rfl hcalm i _ s3 σ3 H3 _ I3 (stat fr3) st3 go) λr s4 ⟨u,hr,h4⟩ =>?_
    subst hr
    refine thn h4 λ_ s5 ⟨x,H5,I5,r5,y5,st5,fr5⟩ =>?_
    have I5':=I5.pinned (stat fr5) (T.obj _ _ st5)
    refine thn (hg _ _ _ _ _ _ s5 σ3 H5 x u _ I5' r5 (step x H5 y5)) λ_ s6 ⟨σ6,H6,I6,q6⟩ =>?_
    refine thn (hc _ _ _ _ _ _ s6 σ6 H6 _ I6 q6) λok s7 ⟨H7,I7,q7⟩ =>?_
    have back:∀{σ7:St} {H7:Hp} {s7:CW},Inv (blk X sc (aU X.env sc.names []) G.objs.size N' s2 H2 fp) ([(s2.heap.objs.size,{ cls :=.type "list",data :=.seq its nn })]++gL fp s5.heap) σ7 H7 s7->tn (i+1) s7.heap/\∀b∈fp,H7 b=none:=λJ7 =>
     ⟨T.keep _ _ _ st5 λb hb o e=>(J7.pin (b,o) (DA _ (DA _ (dC hb e)))).1,λb hb=>by
      obtain ⟨o,e,d⟩:=T.obj _ _ st5 b hb
      exact (J7.pin (b,o) (DA _ (DA _ (dC hb e)))).2.1⟩
    cases ok with
    | false =>
     rw[if_neg (by decide)] at q7
     obtain ⟨m',lm,w7⟩:=q7
     show ∃m,m<n/\_
     exact ⟨m',lm,i+1,ys,its,nn,σ6,H7,I7.eG,r3,(back I7).1,(back I7).2,w7⟩
    | true =>
     rw[if_pos rfl] at q7
     refine thn (he _ _ _ _ _ _ s7 σ6 H7 _ I7 q7) λz s8 ⟨y,H8,I8,r8,lz,m',lm,w8⟩ =>?_
     obtain ⟨e8,a8,_,_,_⟩:=I8.pin (s2.heap.objs.size,{ cls :=.type "list",data :=.seq its nn }) (by simp[blk])
     have sz:its.size<=Dl:=by
      have l:ys.length=its.size:=r3.length.trans C6
      rw[<- l]
      exact GZ lz
     refine wpAny_list_append_plain ⟨nn,e8⟩ (λh' pl' sb' =>?_) sz
     obtain ⟨n9,e9⟩:=pl'
     have I8p:Inv (blk X sc (aU X.env sc.names []) G.objs.size N' s2 H2 fp) (gL fp s5.heap) σ6 H8 s8:=I8.iq λp hp=>I8.pin p (DA _ (DA _ hp))
     have I9:=I8p.turned (it:=s2.heap.objs.size) (h':=h') (t':=s8.toks) (λb o ne e=>by rw[sb'.2 b ne];exact e) a8 aC (.inr (C0 _)) (λy c e=>accNotCell y c e) (λp hp z=>by
      have hp':p∈gL fp s5.heap:=by simpa [blk] using hp
      exact accFp (by rw[<- z];exact (mz hp').1))
     have b9:tn (i+1) h'/\∀b∈fp,H8 b=none :=
      ⟨T.keep _ _ _ st5 λb hb o e=>(I9.pin (b,o) (DA _ (dC hb e))).1,(back I8).2⟩
     exact ⟨m',lm,i+1,ys++[y],its.push z,n9,σ6,H8,accPin I9 e9 a8,by rw[FC];exact r3.append (.cons r8 .nil),b9.1,b9.2,w8⟩
  ·obtain ⟨n0,e0⟩:=accO
   exact ⟨0,[], #[],n0,_,H2,accPin IB e0 (I2.hok.fresh (C0 _)),.nil,T.keep _ _ _ st2 λb hb o e=>old b o e,λb hb=>(f2 b hb).1,w0⟩
 exact codeAny_compStart_list loop (T.self _ 0 _ _ _ (T.keep _ _ _ st2 λb hb o e=>old b o e) loop)
theorem bj {elt target iter:Expr}{ifs:List Expr}{sc:Scope}{pos:Pos}{wi:TI}{g:TG}{tc:TT}{te:TE}(N':List Str)(ix:List (Option Nat))
  (hcalm:X.calm=true) (hi:PI X target iter wi) (hk:pN X.env.scope.names X.N sc N' ix=true)
  (hg:∀cl C s H fp,PG (blk X sc cl C N' s H fp) target g) (hc:∀cl C s H fp,PF (blk X sc cl C N' s H fp) ifs tc) (he:∀cl C s H fp,PE (blk X sc cl C N' s H fp) elt te)
  (hs:∀x,foldedSetIterable iter X.env x=pure x:=by intro _;rfl):PE X (.ListComp elt [⟨target,iter,ifs,0⟩] sc pos) (w9 ix wi g tc te):=by
 intro pins s σ H Q I h
 rw[eval_ListComp]
 refine mJ hcalm hi hk hg hc he hs (λs4 H3 acc C ys oC I4 ns hC hc hp q =>?_) I h
 obtain ⟨m,ns⟩:=ns
 refine ⟨m,ns,λh' sb=>⟨.ref acc,_,?_,rfl,q⟩⟩
 obtain ⟨_,n0,n1,n2,_⟩:=I4.pin (C,oC) (by simp)
 exact (I4.eG).turned (it:=C) (h':=h') (t':=s4.toks) (λb o ne e=>by rw[sb.2 b ne];exact e) n0 n1 (.inr hC) hc hp
theorem dH {elt target iter:Expr}{ifs:List Expr}{sc:Scope}{pos pos' spos:Pos}{wi:TI}{g:TG}{tc:TT}{te:TE}{i:Nat}{x:Str}(N':List Str)(ix:List (Option Nat))
    (hcalm:X.calm=true) (hN:X.N.Nodup) (hx:X.N[i]? = some x) (hl:X.env.scope.names.lookup x=some .local)
    (hi:PI X target iter wi) (hk:pN X.env.scope.names X.N sc N' ix=true)
    (hg:∀cl C s H fp,PG (blk X sc cl C N' s H fp) target g) (hc:∀cl C s H fp,PF (blk X sc cl C N' s H fp) ifs tc) (he:∀cl C s H fp,PE (blk X sc cl C N' s H fp) elt te)
    (hsw:swapsWith (.ListComp elt [⟨target,iter,ifs,0⟩] sc pos) (some (.Name x pos')) spos.line X.env=pure true:=by rfl)
    (hs:∀x,foldedSetIterable iter X.env x=pure x:=by intro _;rfl):PS X (.Assign [.Name x pos'] (.ListComp elt [⟨target,iter,ifs,0⟩] sc pos) spos) (AM (w9 ix wi g tc te) (gG i)):=by
  intro pins s σ H D I h
  rw[exec_Assign_Name_used _ _ _ _ hsw]
  refine CP (Jy (CP ?_))
  show Dn _ X.A (do let _ ← comprehension (.ListComp elt [⟨target,iter,ifs,0⟩] sc pos) sc X.env _ (newList []) false (eval iter X.env) (some (assign (.Name x pos') X.env))) _ _ s
  refine CP (FG (mJ (Q:=λv H1=>D.nx (σ.set i (some v)) H1) (Q2:=λ_ s'=>SP X pins D .next s') hcalm hi hk hg hc he hs (λs4 H3 acc C ys oC I4 ns hC hc hp q =>?_) I h) (λ_ s' q=>CT (CT q)) λ_ _ e=>e)
  obtain ⟨m,ns⟩:=ns
  obtain ⟨e0,n0,n1,n2,_⟩:=I4.pin (C,oC) (by simp)
  show Dn _ X.A (assign (.Name x pos') X.env (.ref acc)) _ _ s4
  refine thn ((au (i:=i) hN hx (.inl hl) (.inr hl)) (pins++[(C,oC)]) s4 σ _ (.ref acc) (.ref acc) _ I4 rfl q) λ_ s5 ⟨σ5,H5,I5,q5⟩ =>?_
  obtain ⟨e5,k0,k1,k2,_⟩:=I5.pin (C,oC) (by simp)
  obtain ⟨o',es',ep',c',r'⟩:=ns
  have e':=e0.symm.trans c'
  cases e'
  refine ⟨m,⟨_,es',ep',e5,r'⟩,λh' sb=>⟨σ5,H5,?_,q5⟩⟩
  exact (I5.eG).turned (it:=C) (h':=h') (t':=s5.toks) (λb o ne e=>by rw[sb.2 b ne];exact e) k0 k1 (.inr hC) hc hp
end
open PySem PySem.Spec PyProof.Rows
section
variable  {X:Cx}
theorem n6 {j:Int}(h0:0<j)(h:j<2 ^ 200):j.natAbs.log2<9000:=by
 have h1:j.natAbs<2 ^ 200:=by lia
 have h2:j.natAbs.log2<200:=(Nat.log2_lt (by lia)).mpr h1
 lia
def Cg (_ j:Int):Prop:=0<j/\j<2 ^ 200
theorem bC:bB X (.builtin "divmod") (λxs H Q=>∃i j,xs=[.int i,.int j]/\Cg i j/\∀p,H p=none->Q (.ref p) (upd H p (.tup [.int (i/j),.int (i%j)]))):=by
 intro pins s σ H xs us Q I r h
 obtain ⟨i,j,rfl,⟨h1,h2⟩,q⟩:=h
 obtain ⟨u,w',rfl,⟨t,rfl⟩,⟨t',rfl⟩⟩:=vals2 r
 refine divmod_int (by lia) ?_ (.inl (PyProof.noPylong_of_log2 (n6 h1 h2)))
 rw[G9 i (by lia),IJ i (by lia)]
 refine ⟨.ref s.heap.objs.size,_,?_,rfl,q _ I.fresh⟩
 refine I.laid (λb o e=>CQ _ e) (C0 _) ⟨by simp only[DF,FL];rw[F6];decide,[.int (i/j) s.toks,.int (i%j) (s.toks+1)],.cons ⟨_,rfl⟩ (.cons ⟨_,rfl⟩ .nil),?_⟩
 exact ⟨_,C3 s.heap rfl,⟨rfl,rfl⟩,0,rfl⟩
def Ci (K:CZ):R2:=λx y H Q=>∃l b xs zs,x = .ref l/\y = .ref b/\SqL K H l xs/\SqL K H b zs/\xs.length+zs.length<=Dl/\∀p,H p=none->Q (.ref p) (upd H p (.lst (xs++zs)))
theorem tN:OpR X (binaryOp .Add) (Ci X.K):=by
 intro pins s σ H x y v u Q I rx ry h
 obtain ⟨l,b,xs,zs,rfl,rfl,hH,hB,hz,q⟩:=h
 cases rx
 cases ry
 obtain ⟨its,r,e,z⟩:=I.list hH
 obtain ⟨its2,r2,e2,z2⟩:=I.list hB
 obtain ⟨⟨c1,d1,da1,sl1⟩,n,e,k1,k2,k3⟩:=e
 obtain ⟨⟨c2,d2,da2,sl2⟩,n2,e2,g1,g2,g3⟩:=e2
 simp only at k1 k3 g1 g3
 subst k1 k3 g1 g3
 have l1:=r.length
 have l2:=r2.length
 have ea:its.toArray++its2.toArray=(its++its2).toArray:=by simp
 refine Kb ⟨_,e,rfl⟩ ⟨_,e2,rfl⟩ noFill_list_add seq_list_add PySem.F.slot_list_add PySem.F.entry_list_add
  (PySem.F.args_list_add_2 _ _) (list_addW l b its.toArray its2.toArray n n2 d1 d2 sl1 sl2 (by rw[De,De];omega)) ⟨e,e2,?_⟩
 rw[ea]
 exact ⟨.ref _,_,I.Ce (t':=s.toks) (r.append r2) (by rw[C1];omega),rfl,q _ I.fresh⟩
end
def xc (k:Nat)(tc:TT)(te:TE)(τ:St)(Pv:Nat->List V->Hp->Prop)(i:Nat)(x:V)(ys:List V)(H:Hp):Prop :=
 ∀(R1:V->Hp->Prop) (R0:Hp->Prop),(∀y H4,Pv (i+1) (ys++[y]) H4->R1 y H4)->(∀H3,Pv (i+1) ys H3->R0 H3)->tc (τ.set k (some x)) H λb H3=>if b=true then te (τ.set k (some x)) H3 R1 else R0 H3
theorem bT {K:CZ}{a:Addr}{xs:List V}{k:Nat}{tc:TT}{te:TE}{τ:St}{H:Hp}{Q:VK}(Pv:Nat->List V->Hp->Prop)(h0:Pv 0 [] H)(hz:xs.length<=Dl)
  (hl:∀i ys H,i<=xs.length->Pv i ys H->SqL K H a xs) (hs:∀i x ys H,xs[i]? = some x->ys.length<=i->Pv i ys H->xc k tc te τ Pv i x ys H)
  (hd:∀ys H,ys.length<=xs.length->Pv xs.length ys H->∀l,H l=none->Q (.ref l) (upd H l (.lst ys))) :
  mH (Itl K a) (gG k) tc te τ Q H:=by
 refine ⟨λi m σ ys H=>m=xs.length-i/\i<=xs.length/\(∀x,σ.set k (some x)=τ.set k (some x))/\ys.length<=i/\Pv i ys H,⟨xs.length,by simp,DS _,λ_=>rfl,C0 _,h0⟩,?_⟩
 rintro i m σ ys H ⟨rfl,hi,hτ,hy,p⟩
 have q:=hl i ys H hi p
 by_cases hlt:i<xs.length
 ·refine .inr ⟨⟨xs,xs[i],q,by simp[hlt]⟩,λx H' y =>?_⟩
  obtain ⟨e,y⟩:=y
  subst e
  show tc (σ.set k (some x)) _ _
  rw[hτ x]
  have hσ:∀z,(τ.set k (some x)).set k (some z)=τ.set k (some z):=λz=>by rw[Hy]
  refine hs i x ys _ (y xs q) hy p _ _ (λy4 H4 p4=>⟨by lia,xs.length-(i+1),by lia,rfl,hlt,hσ,by rw[C1,D3];lia,p4⟩) λH3 p3=>⟨xs.length-(i+1),by lia,rfl,hlt,hσ,by lia,p3⟩
 ·have e:i=xs.length:=by lia
  subst e
  exact .inl ⟨⟨xs,q,C0 _⟩,by lia,hd ys H hy p⟩
theorem cu {K:CZ}{a:Addr}{xs:List V}{k:Nat}{tc:TT}{te:TE}{τ:St}{H:Hp}{Q:VK}(Pv:Nat->List V->Hp->Prop)(h0:Pv 0 [] H)(hz:xs.length<=Dl)
  (hl:∀i ys H,i<=xs.length->Pv i ys H->SqT K H a xs) (hs:∀i x ys H,xs[i]? = some x->ys.length<=i->Pv i ys H->xc k tc te τ Pv i x ys H)
  (hd:∀ys H,ys.length<=xs.length->Pv xs.length ys H->∀l,H l=none->Q (.ref l) (upd H l (.lst ys))) :
  mH (Itt K a) (gG k) tc te τ Q H:=by
 refine ⟨λi m σ ys H=>m=xs.length-i/\i<=xs.length/\(∀x,σ.set k (some x)=τ.set k (some x))/\ys.length<=i/\Pv i ys H,⟨xs.length,by simp,DS _,λ_=>rfl,C0 _,h0⟩,?_⟩
 rintro i m σ ys H ⟨rfl,hi,hτ,hy,p⟩
 have q:=hl i ys H hi p
 by_cases hlt:i<xs.length
 ·refine .inr ⟨⟨xs,xs[i],q,by simp[hlt]⟩,λx H' y =>?_⟩
  obtain ⟨e,y⟩:=y
  subst e
  show tc (σ.set k (some x)) _ _
  rw[hτ x]
  have hσ:∀z,(τ.set k (some x)).set k (some z)=τ.set k (some z):=λz=>by rw[Hy]
  refine hs i x ys _ (y xs q) hy p _ _ (λy4 H4 p4=>⟨by lia,xs.length-(i+1),by lia,rfl,hlt,hσ,by rw[C1,D3];lia,p4⟩) λH3 p3=>⟨xs.length-(i+1),by lia,rfl,hlt,hσ,by lia,p3⟩
 ·have e:i=xs.length:=by lia
  subst e
  exact .inl ⟨⟨xs,q,C0 _⟩,by lia,hd ys H hy p⟩
theorem cv {lo:Int}{n:Nat}{k:Nat}{tc:TT}{te:TE}{τ:St}{H:Hp}{Q:VK}(Pv:Nat->List V->Hp->Prop)(h0:Pv 0 [] H)(hz:n<=Dl)
  (hs:∀i ys H,i<n->ys.length<=i->Pv i ys H->xc k tc te τ Pv i (.int (lo+i)) ys H)
  (hd:∀ys H,ys.length<=n->Pv n ys H->∀l,H l=none->Q (.ref l) (upd H l (.lst ys))) :
  mH (Itr lo n) (gG k) tc te τ Q H:=by
 refine ⟨λi m σ ys H=>m=n-i/\i<=n/\(∀x,σ.set k (some x)=τ.set k (some x))/\ys.length<=i/\Pv i ys H,⟨n,by simp,DS _,λ_=>rfl,C0 _,h0⟩,?_⟩
 rintro i m σ ys H ⟨rfl,hi,hτ,hy,p⟩
 by_cases hlt:i<n
 ·refine .inr ⟨hlt,λx H' y =>?_⟩
  obtain ⟨e,y⟩:=y
  subst e y
  show tc (σ.set k (some (.int (lo+i)))) _ _
  rw[hτ]
  have hσ:∀z,(τ.set k (some (.int (lo+i)))).set k (some z)=τ.set k (some z):=λz=>by rw[Hy]
  refine hs i ys _ hlt hy p _ _ (λy4 H4 p4=>⟨by lia,n-(i+1),by lia,rfl,hlt,hσ,by rw[C1,D3];lia,p4⟩) λH3 p3=>⟨n-(i+1),by lia,rfl,hlt,hσ,by lia,p3⟩
 ·have e:i=n:=by lia
  subst e
  exact .inl ⟨C0 _,by lia,hd ys H hy p⟩
structure Cal (P:Dp)(w:DW)(K:CZ)(mg:Str->Option CU)(base:Heap)(k:Nat)(x:Str)(ps:List Str)(sp:Sp):Prop where
 ex:∃f fd,bF P w K mg base CX0 k f fd ps sp/\mg x=some (.ref f)/\PySem.W.keepIn K (.ref f)=true/\Binds K fd ps []
theorem aD {X:Cx}{j k:Nat}{x:Str}{ps:List Str}{sp:Sp}{e:Expr}{es:List Expr}{t:TA}{p pos:Pos}(C:Cal X.prog X.w X.K X.mg X.base k x ps sp)(hr:dF j X.A)(hj:k<=j)(hg:Gl X x)(ha:PA X (e :: es) t)
  (hdb:(x == ("__debug__" : Str))=false:=by decide) (he:En (e :: es) X.env=(false,eval e X.env) :: En es X.env:=by rfl) (hpl:(Ig pos (En es X.env)).any (·.1)=false:=by rfl) :
  PE X (.Call (.Name x p) (e :: es) [] pos) (Aj sp [] E0 t):=by
 obtain ⟨f,fd,F,m,kp,b⟩:=C.ex
 exact yU F (hr.mono hj) hg m kp b .nil Cf ha hdb he hpl
theorem af {H:Hp}{p:Addr}(h:H p=none)(o:HO):aA H (upd H p o):=λb u q=>by rw[ay (aq q h)];exact q
theorem small {n:Nat}(h:n<=1000):n<=Dl:=GZ (bW h)
open PySem PySem.Spec PyProof.Rows
section
variable  {X:Cx}
theorem pO {its:List CU}{bs:List Bool}(h:Vals (bs.map V.bl) its){prog:Dp}{w:DW}{A:Ec}:TruthOf prog w A (λi v=>its.toArray[i]? = some v) (λi=>bs.getD i false):=by
 intro i v s Q E hv q
 have l:=h.length
 rw[CS] at l
 have hi:i<its.length:=by
  rw[DJ] at hv
  exact (C9.mp hv).1
 have e:(bs.map V.bl)[i]? = some (.bl (bs.getD i false)):=by
  rw[C8,Df,CV (by lia)]
  rfl
 obtain ⟨u,e1,e2⟩:=h.get e
 rw[DJ,e1] at hv
 have ev:u=v:=DB hv
 subst ev
 cases (show u=Value.bool _ from e2)
 exact E5 q
theorem all_range (bs:List Bool):((EF bs.length).all λi=>bs.getD i false)=bs.all id:=by
 rw[Fo,FR,FR]
 constructor
 ·intro h x hx
  obtain ⟨i,e⟩:=DL.mp hx
  have hi:i<bs.length:=(C9.mp e).1
  have q:=h i (ED.mpr hi)
  rw[Df,e] at q
  exact q
 ·intro h i hi
  have hi':=ED.mp hi
  rw[Df,CV hi']
  exact h _ (GP hi')
theorem kJ (hc:X.calm=true):bB X (.builtin "all") (λxs H Q=>∃(p:Addr) (bs:List Bool),xs=[.ref p]/\SqL X.K H p (bs.map V.bl)/\Q (.bl (bs.all id)) H):=by
 intro pins s σ H xs us Q I r h
 obtain ⟨p,bs,rfl,hs,q⟩:=h
 obtain ⟨u,rfl,ru⟩:=vals1 r
 cases (show u=Dv p from ru)
 obtain ⟨its,rv,pl,hz⟩:=I.list hs
 have l:=rv.length
 rw[CS] at l
 have hpl:p<s.heap.objs.size:=by obtain ⟨o,_,e,_⟩:=pl;exact Dc e
 refine call_all_walk (GB pl.isList ?_)
 have hd:X.A.in1.handled=none:=I.ok.hd hc
 refine ⟨s.heap.objs.size,_,_,_,_,_,_,rfl,K5 hd s.heap.objs.size p (Dk hpl) its.toArray,⟨⟨_,C3 _ rfl,rfl,rfl⟩,?_⟩,pO rv,λh' tk k =>?_⟩
 ·exact pl.isList.at λo e=>CQ _ e
 ·have e:((EF its.toArray.size).all λi=>bs.getD i false)=bs.all id:=by rw[De, <- l,all_range]
  rw[e]
  refine ⟨.bl (bs.all id),H,I.kept (t':=tk) (λb o eb=>k b o ?_ (CQ _ eb)),rfl,q⟩
  intro hb
  have:b=s.heap.objs.size:=by simpa using hb
  exact absurd (Dc eb) (by rw[this];exact D9 _)
end
open PySem PySem.Spec PyProof.Rows
def xf (K:CZ)(k l:Nat):TG:=BW K 2 (wI (gG k) (wI (gG l) BV))
def Ak (k l:Nat)(tc:TT)(te:TE)(τ:St)(Pv:Nat->List V->Hp->Prop)(i:Nat)(a b:V)(ys:List V)(H:Hp):Prop :=
 ∀(R1:V->Hp->Prop) (R0:Hp->Prop),(∀y H4,Pv (i+1) (ys++[y]) H4->R1 y H4)->(∀H3,Pv (i+1) ys H3->R0 H3)->tc ((τ.set k (some a)).set l (some b)) H λc H3=>if c=true then te ((τ.set k (some a)).set l (some b)) H3 R1 else R0 H3
theorem rT {K:CZ}{p:Addr}{ts:List (Addr×V×V)}{k l:Nat}{tc:TT}{te:TE}{τ:St}{H:Hp}{Q:VK}(Pv:Nat->List V->Hp->Prop)(hkl:k≠l)(h0:Pv 0 [] H)(hz:ts.length<=Dl)
  (hl:∀i ys H,i<=ts.length->Pv i ys H->SqL K H p (ts.map λt =>.ref t.1)/\∀t∈ts,SqT K H t.1 [t.2.1,t.2.2])
  (hs:∀i t ys H,ts[i]? = some t->ys.length<=i->Pv i ys H->Ak k l tc te τ Pv i t.2.1 t.2.2 ys H)
  (hd:∀ys H,ys.length<=ts.length->Pv ts.length ys H->∀r,H r=none->Q (.ref r) (upd H r (.lst ys))):mH (Itl K p) (xf K k l) tc te τ Q H:=by
 refine ⟨λi m σ ys H=>m=ts.length-i/\i<=ts.length/\(∀a b,(σ.set k (some a)).set l (some b)=(τ.set k (some a)).set l (some b))/\ys.length<=i/\Pv i ys H,⟨ts.length,by simp,DS _,λ_ _=>rfl,C0 _,h0⟩,?_⟩
 rintro i m σ ys H ⟨rfl,hi,hτ,hy,pv⟩
 obtain ⟨q,qt⟩:=hl i ys H hi pv
 have ln:(ts.map λt:Addr×V×V=>V.ref t.1).length=ts.length:=CS _
 by_cases hlt:i<ts.length
 ·have et:ts[i]? = some ts[i]:=CV hlt
  have em:(ts.map λt:Addr×V×V=>V.ref t.1)[i]? = some (.ref ts[i].1):=by rw[C8,et];rfl
  refine .inr ⟨⟨_,_,q,em⟩,λx H' y =>?_⟩
  obtain ⟨e,y⟩:=y
  subst e
  have ex:=y _ q
  rw[em] at ex
  cases ex
  have st:=qt ts[i] (GP hlt)
  refine ⟨ts[i].1,_,rfl,st,rfl,_,_,rfl,_,_,rfl,rfl,?_⟩
  rw[hτ]
  have hσ:∀a b,((((τ.set k (some ts[i].2.1)).set l (some ts[i].2.2)).set k (some a)).set l (some b))=(τ.set k (some a)).set l (some b):=λa b=>by
   rw[Ma _ _ (Ee hkl),Hy,Hy]
  refine hs i ts[i] ys _ et hy pv _ _ (λy4 H4 p4=>⟨by lia,ts.length-(i+1),by lia,rfl,hlt,hσ,by rw[C1,D3];lia,p4⟩) λH3 p3=>⟨ts.length-(i+1),by lia,rfl,hlt,hσ,by lia,p3⟩
 ·have e:i=ts.length:=by lia
  subst e
  exact .inl ⟨⟨_,q,by rw[ln];exact C0 _⟩,by lia,hd ys H hy pv⟩
open PySem PySem.Spec PyProof.Rows
section
variable  {X:Cx}{K:CZ}
theorem xg (h:X.K=K:=by rfl):IxR X (Cb K):=by subst h;exact dY
theorem fe (h:X.K=K:=by rfl):IxR X (Cc K):=by subst h;exact aN
theorem xh (h:X.K=K:=by rfl):OpR X (E3 .In) (rIn K false):=by subst h;exact vf
theorem gp (h:X.K=K:=by rfl):OpR X (E3 .NotIn) (rIn K true):=by subst h;exact nZ
end
open PySem PySem.Spec PyProof.Rows
theorem Inv.gO {X:Cx}{pins:List (Addr×Obj)}{σ:St}{H:Hp}{s:CW}{h':Heap}{t':Nat}{ch:List Addr}{T:Addr}{o:HO}(I:Inv X pins σ H s)(f:∀b∈ch,jf X pins H b)
  (k:∀b ob,b∉ch->s.heap.get? b=some ob->h'.get? b=some ob) (th:∀b∈ch,∃ob,h'.get? b=some ob) (hT:s.heap.objs.size<=T) (new:bA X.prog X.w (upd H T o) h' T o):Inv X pins σ (upd H T o) { s with heap:=h',toks:=t' }:=by
 have hn:H T=none:=I.hok.fresh hT
 have nT:∀b ob,s.heap.get? b=some ob->b≠T:=λb ob e=>Dk (Dw (Dc e) hT)
 refine I.step (g':=s.gens) (d':=s.drawn) (ch:=ch) (λb hb =>?_) (λb ob _ _ hc e _=>k b ob hc e) (λb ob _ _ hc e _=>⟨ob.slots,k b ob hc e⟩) (λb ob _ e n=>by rw[ay (nT b ob e)];exact n)
  (λb ob hc e=>⟨ob,k b ob hc e⟩) (λb xs e=>by rw[ay (aq e hn)];exact e) (λb ob u e=>by rw[ay (aq e hn)];exact e) (λb ps e=>⟨#[],by rw[ay (aq e hn),e];simp⟩) (λm hm =>?_) (λb u e =>?_) I.bare
 ·obtain ⟨g0,g1,g2,g3,g4,g5⟩:=f b hb
  exact ⟨g3,g1,g4,g5⟩
 ·obtain ⟨ob,es,ep,ho,r⟩:=hm
  exact ⟨ob,es,ep,k _ ob (λz=>(f _ z).2.1 rfl) ho,r⟩
 ·by_cases hb:b=T
  ·subst hb
   rw[ae] at e
   cases e
   exact new
  ·rw[ay hb] at e
   refine (I.hok b u e).stay (λc v hc q=>k c v ?_ q) (λc q=>by rw[ay (aq q hn)];exact q) λc xs q=>by rw[ay (aq q hn)];exact q
   intro z
   have n0:=(f c z).1
   rcases hc with hc | hc
   ·rw[hc,e] at n0;cases n0
   ·rw[hc] at n0;cases n0
def Ite (K:CZ)(a:Addr):It :=
 ⟨λi H=>∃xs v,SqL K H a xs/\xs[i]? = some v,λi H x H'=>∃T v,H T=none/\x = .ref T/\H'=upd H T (.tup [.int i,v])/\∀xs,SqL K H a xs->xs[i]? = some v,λi H=>∃xs,SqL K H a xs/\xs.length<=i⟩
theorem vj {P:Dp}{w:DW}{K:CZ}{elts:List Expr}{k:Nat}{pos:Pos}(a e it:Addr)(hne:e≠it):Turn P w K (.Tuple elts k pos) (Ite K a) [e,it] e (λi h=>(∃old,IsEnum h e it i old)/\h.IsListIter it a i) where
 mem:=by simp
 obj:=λi h ⟨⟨old,h1⟩,h2⟩ b hb=>by
  rcases Dm.mp hb with q | q
  ·subst q
   exact ⟨_,h1,λv z=>nomatch z⟩
  ·have q':b=it:=by simpa using q
   subst q'
   obtain ⟨o,ho,_,hd⟩:=h2
   exact ⟨o,ho,λv z=>by rw[hd] at z;cases z⟩
 keep:=λi h h' ⟨⟨old,h1⟩,h2⟩ kp=>⟨⟨old,kp e (by simp) _ h1⟩,h2.at λo x=>kp it (by simp) o x⟩
 item:=λX eP eW eK hcalm i pins s σ H E I f ⟨⟨old,h1⟩,h2⟩ go=>by
  subst eP eW eK
  obtain ⟨xs,v,hs,hv⟩:=go
  obtain ⟨its,r,pl,hz⟩:=I.list hs
  obtain ⟨u,eu,ru⟩:=r.get hv
  refine wpAny_pyNext_enum_item h1 h2 pl.isList (x:=u) (by rw[DJ];exact eu) hne λh' o1 o2 o3 o4 kp =>?_
  refine ⟨_,rfl,?_⟩
  refine IP o1 λh2' e2 sb =>?_
  have eT:e≠s.heap.objs.size:=Dk (Dc h1)
  have kp2:∀b ob,b∉[e,it]->s.heap.get? b=some ob->h2'.get? b=some ob:=λb ob hb eb=>by
   have n1:b≠e:=λz=>hb (by simp[z])
   have n2:b≠it:=λz=>hb (by simp[z])
   rw[sb.2 b n1]
   exact kp b ob n1 n2 eb
  have li:h2'.IsListIter it a (i+1):=o2.at λob eb=>by rw[sb.2 it (Ee hne)];exact eb
  have tp:h2'.get? s.heap.objs.size=some { cls :=.type "tuple",data :=.seq #[.int i s.toks,u] }:=by rw[sb.2 _ (Ee eT)];exact o3
  refine ⟨.ref s.heap.objs.size,upd H s.heap.objs.size (.tup [.int i,v]),I.gO (ch:=[e,it]) f kp2 (λb hb =>?_) (C0 _) ?_,rfl,⟨s.heap.objs.size,v,I.hok.fresh (C0 _),rfl,rfl,λys hy =>?_⟩,⟨⟨_,e2⟩,li⟩,λb hb =>?_⟩
  ·rcases Dm.mp hb with q | q
   ·subst q;exact ⟨_,e2⟩
   ·have q':b=it:=by simpa using q
    subst q'
    obtain ⟨ob,ho,_⟩:=li
    exact ⟨ob,ho⟩
  ·refine ⟨(by show 2<=Dl;decide),[.int i s.toks,u],.cons ⟨_,rfl⟩ (.cons ru .nil),_,tp,⟨rfl,rfl⟩,_,rfl⟩
  ·rw[I.kr hy hs];exact hv
  ·have ne:b≠s.heap.objs.size:=by
    rcases Dm.mp hb with q | q
    ·rw[q];exact eT
    ·have q':b=it:=by simpa using q
     rw[q']
     obtain ⟨ob,ho,_⟩:=h2
     exact Dk (Dc ho)
   rw[ay ne]
   exact (f b hb).1
 done:=λX eP eW eK hcalm i pins s σ H E I f ⟨⟨old,h1⟩,h2⟩ stop=>by
  subst eP eW eK
  obtain ⟨xs,hs,hl⟩:=stop
  obtain ⟨its,r,pl,hz⟩:=I.list hs
  have l:=r.length
  refine wpAny_pyNext_enum_end (I.ok.hd hcalm) h1 h2 pl.isList (by rw[DJ];exact Fe.mpr (by lia)) λh' ex=>⟨rfl,?_⟩
  obtain ⟨g0,g1,g2,g3,g4,g5⟩:=f it (by simp)
  exact I.turned (it:=it) (h':=h') (t':=s.toks) (λb o ne eb=>ex b o ne eb) g0 g1 g3 g4 g5
 self:=λA i s Q E ⟨⟨old,h1⟩,_⟩ q=>by
  refine HZ ⟨_,h1,rfl⟩ G1 (Ef G1 ⟨_,h1,rfl⟩ JJ ?_ (Js _))
  show Dn _ _ (ret (.ref e)) _ _ s
  exact CT ⟨_,rfl, "enumerate",_,⟨_,h1,rfl⟩,G2.lookup,q⟩
open PySem PySem.Spec PyProof.Rows
open PySem.AutoSeq1 (wpAny_loadPart')
section
variable  {prog:Dp}{w:DW}{A:Ec}{E:CU->CW->Prop}{s:CW}
theorem kK {it t:Addr}{i:Nat}{items:Array CU}{x:CU}{Q:CU->CW->Prop}(hi:s.heap.IsTupleIter it t i)(hl:s.heap.IsTuple t items)(hx:items[i]? = some x)
  (q:∀h',h'.IsTupleIter it t (i+1)->Heap.SameBut it s.heap h'->Q x { s with heap:=h' }):Dn (DG prog w) A (Builtin.SmallTypes.nextOf (.ref it)) Q E s:=by
 obtain ⟨o,eo,oc,od⟩:=id hi
 obtain ⟨ol,el,_,nl,dl⟩:=hl
 unfold Builtin.SmallTypes.nextOf
 refine CP (Et (name:=Str.ofString "__next__") hi.typeIs Gb (Ef Gb hi.typeIs Iy ?_ (Iu _)))
 show Dn _ _ (field (.ref it) 0 >>= _) _ _ s;refine CP (EA eo od (x :=.ref t) rfl ?_)
 show Dn _ _ (if (Dv t == E6)=true then _ else _) _ _ s;rw[if_neg (show ¬ ((Dv t == E6)=true) from Di)]
 show Dn _ _ (field (.ref it) 1 >>= _) _ _ s;refine CP (EA eo od (x :=.int i 0) rfl ?_)
 show Dn _ _ (seqItems? (.ref t) >>= _) _ _ s;refine CP (EE el dl ?_)
 simp only[Ex,hx];refine CP (Ia eo od (by simp) (CT ⟨x,rfl,CT (q _ ?_ (Hu ..))⟩))
 exact ⟨_,DV _ eo (Ib (Ge od _)),(K6 ..).trans oc,by rw[Ge od];simp[GD]⟩
theorem dI {it t:Addr}{i:Nat}{items:Array CU}{Q:CU->CW->Prop}(hh:A.handled=none)(hi:s.heap.IsTupleIter it t i)(hl:s.heap.IsTuple t items)(hx:items[i]? = none)
  (q:∀h' e,Heap.ExtBut it s.heap h'->(∃o,h'.get? e=some o/\o.cls = .type "StopIteration")->E (.ref e) { s with heap:=h' }):Dn (DG prog w) A (Builtin.SmallTypes.nextOf (.ref it)) Q E s:=by
 obtain ⟨o,eo,oc,od⟩:=id hi
 obtain ⟨ol,el,_,nl,dl⟩:=hl
 unfold Builtin.SmallTypes.nextOf
 refine CP (Et (name:=Str.ofString "__next__") hi.typeIs Gb (Ef Gb hi.typeIs Iy ?_ (Iu _)))
 show Dn _ _ (field (.ref it) 0 >>= _) _ _ s;refine CP (EA eo od (x :=.ref t) rfl ?_)
 show Dn _ _ (if (Dv t == E6)=true then _ else _) _ _ s;rw[if_neg (show ¬ ((Dv t == E6)=true) from Di)]
 show Dn _ _ (field (.ref it) 1 >>= _) _ _ s;refine CP (EA eo od (x :=.int i 0) rfl ?_)
 show Dn _ _ (seqItems? (.ref t) >>= _) _ _ s;refine CP (EE el dl ?_)
 simp only[Ex,hx];refine CP (Fi (CP (Ia eo od (by simp) ?_)))
 show Dn _ _ (newExc (.type "StopIteration") [] >>= _) _ _ _;refine CP ?_
 simp only[newExc,newTuple];refine CP (DP ?_ (by size_fits))
 refine CP (m:=firstArgMember _ _) (E9 (a:=E6) (by first | rfl | (simp only[firstArgMember];rfl)) ?_);refine DP ?_ (by size_fits)
 simp only[raiseNew];refine CP (KW ?_)
 first | (rw[show A.in1.handled=none from hh]) | (rw[hh])
 refine CP (CT (LR ?_));exact q _ _ (((Hu ..).extBut.push _).push _) ⟨_,C3 _ rfl,rfl⟩
theorem vk (hh:A.handled=none)(it l:Addr)(hne:l≠it)(items:Array CU) :
  Draws prog w A it [it,l] items.size (λi v=>items[i]? = some v) (λi h=>h.IsTupleIter it l i/\h.IsTuple l items) where
 live:=λ_ _ st=>by obtain ⟨o,ho,_⟩:=st.1;exact ⟨o,ho⟩
 frame:=λ_ _ _ st hk=>⟨st.1.at λo e=>hk it (by simp) o e,by obtain ⟨o,e,r⟩:=st.2;exact ⟨o,hk l (by simp) o e,r⟩⟩
 item:=λi s Q E hi st hQ=>by
  refine kK st.1 st.2 (x:=items[i]) (by simp[hi]) λh' hit' hs' =>?_
  obtain ⟨o,e,r⟩:=st.2
  exact hQ _ h' s.toks (by simp[hi]) ⟨hit',o,by rw[hs'.2 l hne];exact e,r⟩ hs'
 done:=λs Q E st hE=>dI hh st.1 st.2 (by simp) hE
theorem n8 (l:Addr)(items:Array CU)(n:Nat)(dct:Option Addr)(sl:Array (Option CU)) :
  Meets (Builtin.«enumerate.__new__» ⟨[.type "enumerate",.ref l],[]⟩) (λ_ R s=>s.heap.get? l=some { cls :=.type "tuple",dict:=dct,data :=.seq items n,slots:=sl } ∧
   R (.ok (.ret (.ref (s.heap.push { cls :=.type "tuple_iterator",data :=.fields #[.ref l,.int 0 0] }).objs.size)))
    { s with heap:=(s.heap.push { cls :=.type "tuple_iterator",data :=.fields #[.ref l,.int 0 0] }).push { cls :=.type "enumerate",data :=.fields #[.none,.bool false,.ref s.heap.objs.size,GD 0,.none,.none] } }) :=
 .of_wp λprog w A R s h=>by
  obtain ⟨hp,g,d,tk,os⟩:=s;obtain ⟨hl,h⟩:=h
  have hsub:=sub_enumerate
  have hT:Heap.IsTuple (Shared.heap ⟨hp,g,d,tk,os⟩) l items:=⟨_,hl,rfl,n,rfl⟩
  wp_walk using wpAny_loadPart' hl
  refine wpAny_stack_any λst=>CT ?_
  split
  ·rename_i c _ _ _ _ _
   cases (c == Fl "enumerate") <;> (wp_walk using wpAny_loadPart' hl,Fu hT;exact ⟨_,rfl,h⟩)
  ·wp_walk using wpAny_loadPart' hl,Fu hT;exact ⟨_,rfl,h⟩
theorem lY {l:Addr}{items:Array CU}{Q:CU->CW->Prop}(hL:s.heap.IsTuple l items)
  (h:∀h',IsEnum h' (s.heap.objs.size+1) s.heap.objs.size 0 .none->h'.IsTupleIter s.heap.objs.size l 0->h'.objs.size=s.heap.objs.size+2->(∀b o,s.heap.get? b=some o->h'.get? b=some o)->Q (.ref (s.heap.objs.size+1)) { s with heap:=h' }) :
  Dn (DG prog w) A (call (.type "enumerate") [.ref l]) Q E s:=by
 obtain ⟨⟨c,dct,dt,sl⟩,hl,hc,n,hd⟩:=hL
 replace hc:c = .type "tuple" := hc
 replace hd:dt = .seq items n:=hd
 subst hc hd
 refine IS F.called_enumerate (by decide) (F.typeCall_enumerate_1 _) (F.newCall_enumerate_1 _) (λobj=>F.args_object_init_2 obj _) F.entry_enumerate_new (n8 l items n dct sl) ⟨hl,?_⟩
 have hz:(s.heap.push { cls :=.type "tuple_iterator",data :=.fields #[.ref l,.int 0 0] }).objs.size=s.heap.objs.size+1:=Ek ..
 show _/\_
 rw[hz]
 have he:IsEnum ((s.heap.push { cls :=.type "tuple_iterator",data :=.fields #[.ref l,.int 0 0] }).push { cls :=.type "enumerate",data :=.fields #[.none,.bool false,.ref s.heap.objs.size,GD 0,.none,.none] }) (s.heap.objs.size+1) s.heap.objs.size 0 .none:=by
  have:=C3 (s.heap.push { cls :=.type "tuple_iterator",data :=.fields #[.ref l,.int 0 0] }) (o:={ cls :=.type "enumerate",data :=.fields #[.none,.bool false,.ref s.heap.objs.size,GD 0,.none,.none] }) rfl
  rw[hz] at this;exact this
 exact ⟨⟨_,he,rfl⟩,h _ he ⟨_,CQ _ (C3 _ rfl),rfl,rfl⟩ (by rw[Ek,hz]) λb o x=>CQ _ (CQ _ x)⟩
end
theorem ff {prog:Dp}{w:DW}{A:Ec}{E:CU->CW->Prop}{s:CW}{e it t:Addr}{i:Nat}{items:Array CU}{old:CU}{Q:Option CU->CW->Prop}(hh:A.in1.handled=none)(he:IsEnum s.heap e it i old)(hi:s.heap.IsTupleIter it t i)
  (hl:s.heap.IsTuple t items) (hx:items[i]? = none) (q:∀h',Heap.ExtBut it s.heap h'->Q none { s with heap:=h' }):Dn (DG prog w) A (pyNext (.ref e)) Q E s:=by
 have hT:s.TypeIs (.ref e) "enumerate" :=⟨_,he,rfl⟩
 unfold pyNext
 refine CP (FZ (Et (name:=Str.ofString "__next__") hT G2 (Ef G2 hT F.entry_enumerate_next ?_ (F.args_enumerate_next_1 _))))
 show Dn _ _ (field (.ref e) 2 >>= _) _ _ _;refine CP (EA he rfl (x :=.ref it) rfl ?_)
 refine CP (dI hh hi hl hx λh' x he' hx' =>?_)
 obtain ⟨o,ho,hc⟩:=hx'
 refine CP (FU (T := "StopIteration") (b:=true) ⟨o,ho,hc⟩ Jb ?_);exact CT (q _ he')
def ItE (K:CZ)(a:Addr):It :=
 ⟨λi H=>∃xs v,SqT K H a xs/\xs[i]? = some v,λi H x H'=>∃T v,H T=none/\x = .ref T/\H'=upd H T (.tup [.int i,v])/\∀xs,SqT K H a xs->xs[i]? = some v,λi H=>∃xs,SqT K H a xs/\xs.length<=i⟩
theorem rU {P:Dp}{w:DW}{K:CZ}{elts:List Expr}{k:Nat}{pos:Pos}(a e it:Addr)(hne:e≠it)(hai:a≠it)(hae:a≠e):Turn P w K (.Tuple elts k pos) (ItE K a) [e,it] e (λi h=>(∃old,IsEnum h e it i old)/\h.IsTupleIter it a i) where
 mem:=by simp
 obj:=λi h ⟨⟨old,h1⟩,h2⟩ b hb=>by
  rcases Dm.mp hb with q | q
  ·subst q
   exact ⟨_,h1,λv z=>nomatch z⟩
  ·have q':b=it:=by simpa using q
   subst q'
   obtain ⟨o,ho,_,hd⟩:=h2
   exact ⟨o,ho,λv z=>by rw[hd] at z;cases z⟩
 keep:=λi h h' ⟨⟨old,h1⟩,h2⟩ kp=>⟨⟨old,kp e (by simp) _ h1⟩,h2.at λo x=>kp it (by simp) o x⟩
 item:=λX eP eW eK hcalm i pins s σ H E I f ⟨⟨old,h1⟩,h2⟩ go=>by
  subst eP eW eK
  obtain ⟨xs,v,hs,hv⟩:=go
  obtain ⟨its,r,pl,hz⟩:=I.tuple hs
  obtain ⟨u,eu,ru⟩:=r.get hv
  have hi:i<its.toArray.size:=by rw[De];exact (C9.mp eu).1
  have hd:X.A.in1.handled=none:=I.ok.hd hcalm
  refine wpAny_pyNext_enum_itemD (vk hd it a hai its.toArray) h1 ⟨h2,(show s.heap.IsTuple a its.toArray from pl)⟩ hi hne (by simp[hne,Ee hae]) λx h' tk px o1 o2 o3 o4 kp =>?_
  rw[DJ,eu] at px
  have px':u=x:=DB px
  subst px'
  refine ⟨_,rfl,?_⟩
  refine IP o1 λh2' e2 sb =>?_
  have eT:e≠s.heap.objs.size:=Dk (Dc h1)
  have kp2:∀b ob,b∉[e,it]->s.heap.get? b=some ob->h2'.get? b=some ob:=λb ob hb eb=>by
   have n1:b≠e:=λz=>hb (by simp[z])
   have n2:b≠it:=λz=>hb (by simp[z])
   rw[sb.2 b n1]
   exact kp b ob n1 n2 eb
  have li:h2'.IsTupleIter it a (i+1):=o2.1.at λob eb=>by rw[sb.2 it (Ee hne)];exact eb
  have tp:h2'.get? s.heap.objs.size=some { cls :=.type "tuple",data :=.seq #[.int i tk,u] }:=by rw[sb.2 _ (Ee eT)];exact o3
  refine ⟨.ref s.heap.objs.size,upd H s.heap.objs.size (.tup [.int i,v]),I.gO (ch:=[e,it]) f kp2 (λb hb =>?_) (C0 _) ?_,rfl,⟨s.heap.objs.size,v,I.hok.fresh (C0 _),rfl,rfl,λys hy =>?_⟩,⟨⟨_,e2⟩,li⟩,λb hb =>?_⟩
  ·rcases Dm.mp hb with q | q
   ·subst q;exact ⟨_,e2⟩
   ·have q':b=it:=by simpa using q
    subst q'
    obtain ⟨ob,ho,_⟩:=li
    exact ⟨ob,ho⟩
  ·refine ⟨(by show 2<=Dl;decide),[.int i tk,u],.cons ⟨_,rfl⟩ (.cons ru .nil),_,tp,⟨rfl,rfl⟩,_,rfl⟩
  ·rw[I.gn hy hs];exact hv
  ·have ne:b≠s.heap.objs.size:=by
    rcases Dm.mp hb with q | q
    ·rw[q];exact eT
    ·have q':b=it:=by simpa using q
     rw[q']
     obtain ⟨ob,ho,_⟩:=h2
     exact Dk (Dc ho)
   rw[ay ne]
   exact (f b hb).1
 done:=λX eP eW eK hcalm i pins s σ H E I f ⟨⟨old,h1⟩,h2⟩ stop=>by
  subst eP eW eK
  obtain ⟨xs,hs,hl⟩:=stop
  obtain ⟨its,r,pl,hz⟩:=I.tuple hs
  have l:=r.length
  have hd:X.A.in1.handled=none:=I.ok.hd hcalm
  refine ff (A:=X.A) hd h1 h2 (show s.heap.IsTuple a its.toArray from pl) (by rw[DJ];exact Fe.mpr (by lia)) λh' ex=>⟨rfl,?_⟩
  obtain ⟨g0,g1,g2,g3,g4,g5⟩:=f it (by simp)
  exact I.turned (it:=it) (h':=h') (t':=s.toks) (λb o ne eb=>ex b o ne eb) g0 g1 g3 g4 g5
 self:=λA i s Q E ⟨⟨old,h1⟩,_⟩ q=>by
  refine HZ ⟨_,h1,rfl⟩ G1 (Ef G1 ⟨_,h1,rfl⟩ JJ ?_ (Js _))
  show Dn _ _ (ret (.ref e)) _ _ s
  exact CT ⟨_,rfl, "enumerate",_,⟨_,h1,rfl⟩,G2.lookup,q⟩
open PySem PySem.Spec PyProof.Rows
def Cj (K:CZ)(ta:TA):TI:=λσ H R=>ta σ H λvs H1=>∃a,vs=[.ref a]/\(((∃xs,SqL K H1 a xs)/\R (Ite K a) H1)\/((∃xs,SqT K H1 a xs)/\R (ItE K a) H1))
section
variable  {X:Cx}
theorem zc {a:Expr}{ta:TA}{p pos pos':Pos}{elts:List Expr}{k:Nat}(hg:Gl X "enumerate")(hm:X.mg "enumerate" = none)(ha:PA X [a] ta)(hs:En [a] X.env=[(false,eval a X.env)]:=by rfl) :
  PI X (.Tuple elts k pos') (.Call (.Name "enumerate" p) [a] [] pos) (Cj X.K ta):=by
 intro pins s σ H R I h
 refine Call_ (d8 I hg hm boot_enumerate (EH (thn (ha pos pins s σ H _ I h) λus s1 ⟨vs,H1,I1,r1,q1⟩ =>?_) hs rfl))
 obtain ⟨l,e,q1⟩:=q1
 subst e
 obtain ⟨u,rfl,ru⟩:=vals1 r1
 cases (show u=Dv l from ru)
 have fp:∀b∈[s1.heap.objs.size+1,s1.heap.objs.size],jf X pins H1 b:=λb hb=>by
  have ge:s1.heap.objs.size<=b:=by
   rcases Dm.mp hb with q | q
   ·rw[q];exact Jr _
   ·have q':b=s1.heap.objs.size:=by simpa using q
    rw[q'];exact C0 _
  exact I1.wK ge (I1.hok.fresh ge)
 have ne:s1.heap.objs.size+1≠s1.heap.objs.size:=FK (EB _)
 rcases q1 with ⟨⟨xs,hq⟩,q⟩ | ⟨⟨xs,hq⟩,q⟩
 ·obtain ⟨its,rv,pl,hz⟩:=I1.list hq
  refine call_enumerate_list pl.isList λh' he li _ kp =>?_
  have T:=vj (P:=X.prog) (w:=X.w) (K:=X.K) (elts:=elts) (k:=k) (pos:=pos') l _ _ ne
  refine T.self _ 0 _ _ _ ⟨⟨_,he⟩,li⟩ ?_
  exact ⟨_,_,_,_,H1,rfl,I1.kept (t':=s1.toks) kp,T,⟨⟨_,he⟩,li⟩,fp,q⟩
 ·obtain ⟨its,rv,pl,hz⟩:=I1.tuple hq
  have lt:l<s1.heap.objs.size:=by obtain ⟨o,e,_⟩:=pl;exact Dc e
  refine lY (show s1.heap.IsTuple l its.toArray from pl) λh' he li _ kp =>?_
  have T:=rU (P:=X.prog) (w:=X.w) (K:=X.K) (elts:=elts) (k:=k) (pos:=pos') l _ _ ne (Dk lt) (Dk (D4 lt))
  refine T.self _ 0 _ _ _ ⟨⟨_,he⟩,li⟩ ?_
  exact ⟨_,_,_,_,H1,rfl,I1.kept (t':=s1.toks) kp,T,⟨⟨_,he⟩,li⟩,fp,q⟩
end
def A8 (J:It)(g:TG)(tb:TS)(D:Ends)(σ:St)(H:Hp):Prop:=∃W:Nat->Nat->St->Hp->Prop,(∃m,W 0 m σ H)/\∀i m σ H,W i m σ H →
 (J.stop i H/\D.nx σ H)\/(J.go i H/\∃N:St->Hp->Prop,(∀σ' H',N σ' H'->∃m',m'<m/\W (i+1) m' σ' H')/\∀x H',J.yld i H x H'->g x σ H' λσ2 H2=>tb { D with nx:=N,ct:=N,bk:=D.nx } σ2 H2)
theorem BN {K:CZ}{a:Addr}{xs:List V}{g:TG}{tb:TS}{D:Ends}{σ:St}{H:Hp}(Pv:Nat->St->Hp->Prop)(h0:Pv 0 σ H)(hl:∀i σ H,i<=xs.length->Pv i σ H->SqL K H a xs)
  (hs:∀i x σ H T,xs[i]? = some x->H T=none->Pv i σ H->g (.ref T) σ (upd H T (.tup [.int i,x])) λσ2 H2=>tb { D with nx:=Pv (i+1),ct:=Pv (i+1),bk:=D.nx } σ2 H2) (hd:∀σ H,Pv xs.length σ H->D.nx σ H):A8 (Ite K a) g tb D σ H:=by
 refine ⟨λi m σ H=>m=xs.length-i/\i<=xs.length/\Pv i σ H,⟨xs.length,by simp,DS _,h0⟩,?_⟩
 rintro i m σ H ⟨rfl,hi,p⟩
 have q:=hl i σ H hi p
 by_cases hlt:i<xs.length
 ·refine .inr ⟨⟨xs,xs[i],q,by simp[hlt]⟩,Pv (i+1),λσ' H' p'=>⟨xs.length-(i+1),by lia,rfl,hlt,p'⟩,λx H' y =>?_⟩
  obtain ⟨T,v,hT,ex,eH,hv⟩:=y
  subst ex eH
  exact hs i v σ H T (hv xs q) hT p
 ·have e:i=xs.length:=by lia
  subst e
  exact .inl ⟨⟨xs,q,C0 _⟩,hd σ H p⟩
theorem vn {K:CZ}{a:Addr}{xs:List V}{g:TG}{tb:TS}{D:Ends}{σ:St}{H:Hp}(Pv:Nat->St->Hp->Prop)(h0:Pv 0 σ H)(hl:∀i σ H,i<=xs.length->Pv i σ H->SqT K H a xs)
  (hs:∀i x σ H T,xs[i]? = some x->H T=none->Pv i σ H->g (.ref T) σ (upd H T (.tup [.int i,x])) λσ2 H2=>tb { D with nx:=Pv (i+1),ct:=Pv (i+1),bk:=D.nx } σ2 H2) (hd:∀σ H,Pv xs.length σ H->D.nx σ H):A8 (ItE K a) g tb D σ H:=by
 refine ⟨λi m σ H=>m=xs.length-i/\i<=xs.length/\Pv i σ H,⟨xs.length,by simp,DS _,h0⟩,?_⟩
 rintro i m σ H ⟨rfl,hi,p⟩
 have q:=hl i σ H hi p
 by_cases hlt:i<xs.length
 ·refine .inr ⟨⟨xs,xs[i],q,by simp[hlt]⟩,Pv (i+1),λσ' H' p'=>⟨xs.length-(i+1),by lia,rfl,hlt,p'⟩,λx H' y =>?_⟩
  obtain ⟨T,v,hT,ex,eH,hv⟩:=y
  subst ex eH
  exact hs i v σ H T (hv xs q) hT p
 ·have e:i=xs.length:=by lia
  subst e
  exact .inl ⟨⟨xs,q,C0 _⟩,hd σ H p⟩
end L2
namespace Srt
open PySem PyProof.Rows
def gal:Bool->Dy->Array Dy->Nat->Nat->Nat->StateT DR Sem (Option Nat):=sortPriv% PySem.Builtin.gallop
def mLo:Array Dy->Array Dy->StateT DR Sem (Array Dy):=sortPriv% PySem.Builtin.mergeLo
def mHi:Array Dy->Array Dy->StateT DR Sem (Array Dy):=sortPriv% PySem.Builtin.mergeHi
def mAt:Nat->StateT DR Sem Bool:=sortPriv% PySem.Builtin.mergeAt
def Am:StateT DR Sem Unit:=sortPriv% PySem.Builtin.sortRuns
def A9:Nat->Nat->StateT DR Sem (Option Nat):=sortPriv% PySem.Builtin.countRun
def xk:Nat->Nat->Nat->StateT DR Sem Bool:=sortPriv% PySem.Builtin.binarySort
theorem Ba (lf:Bool)(ky:Dy)(ar:Array Dy)(bs n ht:Nat):gal lf ky ar bs n ht=(do
    let far (i:Nat):StateT DR Sem (Option Bool):=do
      let z ← elem' ar (bs+i)
      if lf then lt' z ky else return (← lt' ky z).map (!·)
    let mut la:=0;let mut of:=1
    let mut lo:=0;let mut hi:=0
    let some rt ← far ht | return none
    if rt then
      let mx:=n-ht
      for _ in [0:n] do
        if of≥mx then break
        let some mo ← far (ht+of)
          | return none
        if !mo then break
        la:=of;of:=2*of+1
      lo:=ht+la+1;hi:=ht+min of mx
    else
      let mx:=ht+1
      for _ in [0:n] do
        if of≥mx then break
        let some fd ← far (ht-of)
          | return none
        if fd then break
        la:=of;of:=2*of+1
      lo:=ht+1-min of mx;hi:=ht-la
    for _ in [0:n] do
      if lo≥hi then break
      let md:=lo+(hi-lo)/2
      let some mo ← far md | return none
      if mo then lo:=md+1 else hi:=md
    return some hi):=rfl
section
variable  {prog:Dp}{w:DW}{A:Ec}{E:CU->CW->Prop}{s:CW}
theorem xo {lf:Bool}{ky:Dy}{ar:Array Dy}{bs n ht:Nat}{st:DR}{Q:Option Nat->DR->Prop}(p:Nat->Bool)
    (hf:∀i,i<n->∀(Q:Option Bool->DR->Prop),Q (some (p i)) st->wpS (DG prog w) A E s (do let z ← elem' ar (bs+i);if lf then lt' z ky else return (← lt' ky z).map (!·)) Q st)
    (hp:∀i j,i<=j->j<n->p j=true->p i=true) (hh:ht<n)
    (h:∀k,k<=n->(∀i,i<k->p i=true)->(∀i,k<=i->i<n->p i=false)->Q (some k) st):wpS (DG prog w) A E s (gal lf ky ar bs n ht) Q st:=by
  rw[Ba]
  dsimp only
  refine Dq (hf ht hh _ ?_)
  dsimp only
  cases hr:p ht with
  | true =>
    rw[if_pos rfl]
    refine Dq (FI (EM (I:=λx c st'=>st=st'/\∃la of,c=(none,la,of)/\la<of/\x+1<=of/\ht+la<n/\p (ht+la)=true)
      (Q:=λc st'=>st=st'/\∃la of,c=(none,la,of)/\la<of/\ht+la<n/\p (ht+la)=true/\(n-ht<=of\/(ht+of<n/\p (ht+of)=false))) ?step ?fin ⟨rfl,0,1,rfl,by lia,by lia,by lia,by simpa using hr⟩) ?post)
    case fin =>
      rintro c st' ⟨rfl,la,of,rfl,b1,b2,b3,b4⟩
      exact ⟨rfl,la,of,rfl,b1,b3,b4,.inl (by lia)⟩
    case step =>
      rintro x c st' _ hx ⟨rfl,la,of,rfl,b1,b2,b3,b4⟩
      dsimp only
      by_cases hge:of≥n-ht
      · rw[if_pos hge]
        exact Dz ⟨rfl,la,of,rfl,b1,b3,b4,.inl hge⟩
      · rw[if_neg hge]
        refine Dq (hf _ (by lia) _ ?_)
        dsimp only
        cases hm:p (ht+of) with
        | true =>
          simp only[EX,Dt,if_false]
          exact Dz ⟨rfl,of,2*of+1,rfl,by lia,by lia,by lia,hm⟩
        | false =>
          simp only[Ko,if_true]
          exact Dz ⟨rfl,la,of,rfl,b1,b3,b4,.inr ⟨by lia,hm⟩⟩
    case post =>
      rintro c st' ⟨rfl,la,of,rfl,b1,b3,b4,b5⟩
      have h1:(ht+la+1)<=(ht+min of (n-ht)):=by lia
      have h2:(ht+min of (n-ht))<=n:=by lia
      have h3:∀i,i<(ht+la+1)->p i=true:=λi hi=>hp i (ht+la) (by lia) b3 b4
      have h4:∀i,(ht+min of (n-ht))<=i->i<n->p i=false:=λi hi hn=>by
        rcases b5 with b5 | ⟨b5,b6⟩
        · lia
        · cases hpi:p i with
          | false=>rfl
          | true=>rw[hp (ht+of) i (by lia) hn hpi] at b6;cases b6
      dsimp only
      refine Dq (FI (EM (I:=λx c st'=>st=st'/\∃lo hi,c=(none,lo,hi)/\lo<=hi/\hi<=n/\hi-lo<=n-x/\(∀i,i<lo->p i=true)/\(∀i,hi<=i->i<n->p i=false))
        (Q:=λc st'=>st=st'/\∃k,c=(none,k,k)/\k<=n/\(∀i,i<k->p i=true)/\(∀i,k<=i->i<n->p i=false)) ?step ?fin ⟨rfl,(ht+la+1),(ht+min of (n-ht)),rfl,h1,h2,by lia,h3,h4⟩) ?post)
      case fin =>
        rintro c st' ⟨rfl,lo,hi,rfl,a1,a2,a3,a4,a5⟩
        have e:lo=hi:=by lia
        subst e
        exact ⟨rfl,lo,rfl,a2,a4,a5⟩
      case post =>
        rintro c st' ⟨rfl,k,rfl,a2,a4,a5⟩
        exact Dz (h k a2 a4 a5)
      case step =>
        rintro x c st' _ hx ⟨rfl,lo,hi,rfl,a1,a2,a3,a4,a5⟩
        dsimp only
        by_cases hge:lo≥hi
        · rw[if_pos hge]
          have e:lo=hi:=by lia
          subst e
          exact Dz ⟨rfl,lo,rfl,a2,a4,a5⟩
        · rw[if_neg hge]
          refine Dq (hf _ (by lia) _ ?_)
          dsimp only
          cases hm:p (lo+(hi-lo)/2) with
          | true =>
            rw[if_pos rfl]
            exact Dz ⟨rfl,_,_,rfl,by lia,a2,by lia,λi hi'=>hp i _ (by lia) (by lia) hm,a5⟩
          | false =>
            rw[if_neg (by simp)]
            refine Dz ⟨rfl,_,_,rfl,by lia,by lia,by lia,a4,λi hi' hn =>?_⟩
            cases hpi:p i with
            | false=>rfl
            | true=>rw[hp _ i hi' hn hpi] at hm;cases hm
  | false =>
    rw[if_neg (by simp)]
    refine Dq (FI (EM (I:=λx c st'=>st=st'/\∃la of,c=(none,la,of)/\la<of/\x+1<=of/\la<=ht/\p (ht-la)=false)
      (Q:=λc st'=>st=st'/\∃la of,c=(none,la,of)/\la<of/\la<=ht/\p (ht-la)=false/\(ht+1<=of\/(of<=ht/\p (ht-of)=true))) ?step ?fin ⟨rfl,0,1,rfl,by lia,by lia,by lia,by simpa using hr⟩) ?post)
    case fin =>
      rintro c st' ⟨rfl,la,of,rfl,b1,b2,b3,b4⟩
      exact ⟨rfl,la,of,rfl,b1,b3,b4,.inl (by lia)⟩
    case step =>
      rintro x c st' _ hx ⟨rfl,la,of,rfl,b1,b2,b3,b4⟩
      dsimp only
      by_cases hge:of≥ht+1
      · rw[if_pos hge]
        exact Dz ⟨rfl,la,of,rfl,b1,b3,b4,.inl hge⟩
      · rw[if_neg hge]
        refine Dq (hf _ (by lia) _ ?_)
        dsimp only
        cases hm:p (ht-of) with
        | true =>
          rw[if_pos rfl]
          exact Dz ⟨rfl,la,of,rfl,b1,b3,b4,.inr ⟨by lia,hm⟩⟩
        | false =>
          rw[if_neg (by simp)]
          exact Dz ⟨rfl,of,2*of+1,rfl,by lia,by lia,by lia,hm⟩
    case post =>
      rintro c st' ⟨rfl,la,of,rfl,b1,b3,b4,b5⟩
      have h1:(ht+1-min of (ht+1))<=(ht-la):=by lia
      have h2:(ht-la)<=n:=by lia
      have h3:∀i,i<(ht+1-min of (ht+1))->p i=true:=λi hi=>by
        rcases b5 with b5 | ⟨b5,b6⟩
        · lia
        · exact hp i (ht-of) (by lia) (by lia) b6
      have h4:∀i,(ht-la)<=i->i<n->p i=false:=λi hi hn=>by
        cases hpi:p i with
        | false=>rfl
        | true=>rw[hp (ht-la) i hi hn hpi] at b4;cases b4
      dsimp only
      refine Dq (FI (EM (I:=λx c st'=>st=st'/\∃lo hi,c=(none,lo,hi)/\lo<=hi/\hi<=n/\hi-lo<=n-x/\(∀i,i<lo->p i=true)/\(∀i,hi<=i->i<n->p i=false))
        (Q:=λc st'=>st=st'/\∃k,c=(none,k,k)/\k<=n/\(∀i,i<k->p i=true)/\(∀i,k<=i->i<n->p i=false)) ?step ?fin ⟨rfl,(ht+1-min of (ht+1)),(ht-la),rfl,h1,h2,by lia,h3,h4⟩) ?post)
      case fin =>
        rintro c st' ⟨rfl,lo,hi,rfl,a1,a2,a3,a4,a5⟩
        have e:lo=hi:=by lia
        subst e
        exact ⟨rfl,lo,rfl,a2,a4,a5⟩
      case post =>
        rintro c st' ⟨rfl,k,rfl,a2,a4,a5⟩
        exact Dz (h k a2 a4 a5)
      case step =>
        rintro x c st' _ hx ⟨rfl,lo,hi,rfl,a1,a2,a3,a4,a5⟩
        dsimp only
        by_cases hge:lo≥hi
        · rw[if_pos hge]
          have e:lo=hi:=by lia
          subst e
          exact Dz ⟨rfl,lo,rfl,a2,a4,a5⟩
        · rw[if_neg hge]
          refine Dq (hf _ (by lia) _ ?_)
          dsimp only
          cases hm:p (lo+(hi-lo)/2) with
          | true =>
            rw[if_pos rfl]
            exact Dz ⟨rfl,_,_,rfl,by lia,a2,by lia,λi hi'=>hp i _ (by lia) (by lia) hm,a5⟩
          | false =>
            rw[if_neg (by simp)]
            refine Dz ⟨rfl,_,_,rfl,by lia,by lia,by lia,a4,λi hi' hn =>?_⟩
            cases hpi:p i with
            | false=>rfl
            | true=>rw[hp _ i hi' hn hpi] at hm;cases hm
end
open PySem PyProof.Rows
structure Cmp (prog:Dp)(w:DW)(A:Ec)(s:CW)(O:IH)(key:Dy->O.α)(U:Dy->Prop)(κ:SortKind):Prop where
 lt:∀(E:CU->CW->Prop) (st:DR) (x y:Dy) (Q:Option Bool->DR->Prop),kindOf st=κ -> U x->U y->Q (some (O.blt (key x) (key y))) st->wpS (DG prog w) A E s (lt' x y) Q st
section
variable  {prog:Dp}{w:DW}{A:Ec}{E:CU->CW->Prop}{s:CW}{O:IH}{key:Dy->O.α}{U:Dy->Prop}{κ:SortKind}
theorem aX {ar:Array Dy}{i:Nat}{z:Dy}{st:DR}{Q:Dy->DR->Prop}(h:ar[i]? = some z)(hq:Q z st):wpS (DG prog w) A E s (elem' ar i) Q st:=by
 rw[elem'_eq,h]
 exact Dz hq
theorem Bb (C:Cmp prog w A s O key U κ){ky:Dy}{ar:Array Dy}{bs n ht:Nat}{st:DR}{Q:Option Nat->DR->Prop}(g:Nat->Dy)(hk:kindOf st=κ)(uk:U ky)
  (hg:∀i,i<n->ar[bs+i]? = some (g i)) (hu:∀i,i<n->U (g i)) (hs:∀i j,i<=j->j<n->O.kle (key (g i)) (key (g j))) (hh:ht<n)
  (h:∀k,k<=n->(∀i,i<k->O.kle (key (g i)) (key ky))->(∀i,k<=i->i<n->O.klt (key ky) (key (g i)))->Q (some k) st):wpS (DG prog w) A E s (gal false ky ar bs n ht) Q st:=by
 refine xo (λi => !O.blt (key ky) (key (g i))) (λi hi R hr =>?_) (λi j hij hj hp =>?_) hh (λk hk' h1 h2=>h k hk' (λi hi =>?_) λi hi hn =>?_)
 ·refine Dq (aX (hg i hi) ?_)
  rw[if_neg (by simp)]
  exact Dq (C.lt _ st ky (g i) _ hk uk (hu i hi) (Dz hr))
 ·have a1:O.blt (key ky) (key (g j))=false:=by simpa using hp
  have a2:O.kle (key (g i)) (key ky):=D7 (hs i j hij hj) a1
  have a3:O.blt (key ky) (key (g i))=false:=a2
  simp[a3]
 ·have a1:=h1 i hi
  exact (by simpa using a1:O.blt (key ky) (key (g i))=false)
 ·have a1:=h2 i hi hn
  exact (by simpa using a1:O.blt (key ky) (key (g i))=true)
theorem Bc (C:Cmp prog w A s O key U κ){ky:Dy}{ar:Array Dy}{bs n ht:Nat}{st:DR}{Q:Option Nat->DR->Prop}(g:Nat->Dy)(hk:kindOf st=κ)(uk:U ky)
  (hg:∀i,i<n->ar[bs+i]? = some (g i)) (hu:∀i,i<n->U (g i)) (hs:∀i j,i<=j->j<n->O.kle (key (g i)) (key (g j))) (hh:ht<n)
  (h:∀k,k<=n->(∀i,i<k->O.klt (key (g i)) (key ky))->(∀i,k<=i->i<n->O.kle (key ky) (key (g i)))->Q (some k) st):wpS (DG prog w) A E s (gal true ky ar bs n ht) Q st:=by
 refine xo (λi=>O.blt (key (g i)) (key ky)) (λi hi R hr =>?_) (λi j hij hj hp =>?_) hh (λk hk' h1 h2=>h k hk' (λi hi=>h1 i hi) λi hi hn=>h2 i hi hn)
 ·refine Dq (aX (hg i hi) ?_)
  rw[if_pos rfl]
  exact C.lt _ st (g i) ky _ hk (hu i hi) uk hr
 ·exact KeyOrd.klt_of_kle_of_klt (hs i j hij hj) hp
end
open PySem PyProof.Rows
section
variable  {O:IH}(key:Dy->O.α)
def Le (p q:Dy):Prop:=O.kle (key p) (key q)
structure MW (a b o:Array Dy)(x y:Nat):Prop where
 hx:x<=a.size
 hy:y<=b.size
 perm:(o.toList++(a.toList.drop x++b.toList.drop y)).Perm (a.toList++b.toList)
 sorted:o.toList.Pairwise (Le key)
 below:∀p∈o.toList,∀z∈a.toList.drop x++b.toList.drop y,Le key p z
def eA (a b r:Array Dy):Prop:=r.toList.Perm (a.toList++b.toList)/\r.toList.Pairwise (Le key)
variable  {key}
theorem MW.fin {a b o:Array Dy}{x y:Nat}(m:MW key a b o x y){t:List Dy}{r:Array Dy}(hr:r.toList=o.toList++t)(ht:t.Perm (a.toList.drop x++b.toList.drop y))(hs:t.Pairwise (Le key)):eA key a b r:=by
 unfold eA
 rw[hr]
 exact ⟨(Fh _ ht).trans m.perm,EG.mpr ⟨m.sorted,hs,λp hp q hq=>m.below p hp q (ht.mem_iff.mp hq)⟩⟩
theorem MW.take {a b o:Array Dy}{x y x' y':Nat}(m:MW key a b o x y){t:List Dy}{r:Array Dy}(hr:r.toList=o.toList++t)(hx:x'<=a.size)(hy:y'<=b.size)
  (ht:(t++(a.toList.drop x'++b.toList.drop y')).Perm (a.toList.drop x++b.toList.drop y)) (hs:t.Pairwise (Le key)) (hb:∀p∈t,∀z∈a.toList.drop x'++b.toList.drop y',Le key p z):MW key a b r x' y':=by
 have sub:∀z,z∈t\/z∈a.toList.drop x'++b.toList.drop y'->z∈a.toList.drop x++b.toList.drop y:=λz hz=>ht.mem_iff.mp (Dd.mpr hz)
 refine ⟨hx,hy,?_,?_,?_⟩
 ·rw[hr,DN]
  exact (Fh _ ht).trans m.perm
 ·rw[hr]
  exact EG.mpr ⟨m.sorted,hs,λp hp q hq=>m.below p hp q (sub q (.inl hq))⟩
 ·rw[hr]
  intro p hp z hz
  rcases Dd.mp hp with h | h
  ·exact m.below p h z (sub z (.inr hz))
  ·exact hb p h z hz
theorem drop_cons {α:Type}{l:List α}{i:Nat}{z:α}(h:l[i]? = some z):l.drop i=z :: l.drop (i+1):=by
 obtain ⟨hi,e⟩:=C9.mp h
 rw[IW hi,e]
theorem drop_take {α:Type}(l:List α)(i k:Nat):l.drop i=(l.drop i).take k++l.drop (i+k):=by
 rw[<- LZ,E1]
theorem aE {a:Array Dy}{i:Nat}{z:Dy}(h:a[i]? = some z):a.toList[i]? = some z:=by rw[Dh];exact h
theorem MW.jL {a b o:Array Dy}{x y:Nat}{z:Dy}(m:MW key a b o x y)(h:a[x]? = some z)(ha:a.toList.Pairwise (Le key))(hb:∀t∈b.toList.drop y,Le key z t):MW key a b (o.push z) (x+1) y:=by
 have e:=drop_cons (aE h)
 have hx:x<a.size:=(E7.mp h).1
 have pa:(z :: a.toList.drop (x+1)).Pairwise (Le key):=by rw[<- e];exact ha.sublist (EJ _ _)
 refine m.take (t:=[z]) (by rw[FC]) hx m.hy (by rw[e];exact Hn _) (Fp _ _) λp hp t ht =>?_
 have ep:p=z:=by simpa using hp
 subst ep
 rcases Dd.mp ht with q | q
 ·exact (Gf.mp pa).1 t q
 ·exact hb t q
theorem MW.mK {a b o:Array Dy}{x y:Nat}{z:Dy}(m:MW key a b o x y)(h:b[y]? = some z)(hb:b.toList.Pairwise (Le key))(ha:∀t∈a.toList.drop x,Le key z t):MW key a b (o.push z) x (y+1):=by
 have e:=drop_cons (aE h)
 have hy:y<b.size:=(E7.mp h).1
 have pb:(z :: b.toList.drop (y+1)).Pairwise (Le key):=by rw[<- e];exact hb.sublist (EJ _ _)
 refine m.take (t:=[z]) (by rw[FC]) m.hx hy (by rw[e,List.singleton_append];exact Lu.symm) (Fp _ _) λp hp t ht =>?_
 have ep:p=z:=by simpa using hp
 subst ep
 rcases Dd.mp ht with q | q
 ·exact ha t q
 ·exact (Gf.mp pb).1 t q
theorem ext_toList (a:Array Dy)(x k:Nat):(a.extract x (x+k)).toList=(a.toList.drop x).take k:=by
 rw[FV,Ff,GG]
theorem gq (a:Array Dy)(x:Nat):(a.extract x a.size).toList=a.toList.drop x:=by
 rw[FV,Ff]
 exact Dj (by rw[Ea,C6];exact C0 _)
theorem aG {l:List Dy}(h:l.Pairwise (Le key)){i j:Nat}{p q:Dy}(hi:l[i]? = some p)(hj:l[j]? = some q)(hij:i<=j):Le key p q:=by
 by_cases e:i=j
 ·subst e
  rw[hi] at hj
  cases hj
  exact Fq _
 ·obtain ⟨h1,e1⟩:=C9.mp hi
  obtain ⟨h2,e2⟩:=C9.mp hj
  have:=Gp.mp h i j h1 h2 (by lia)
  rw[e1,e2] at this
  exact this
theorem aW {l:List Dy}{i:Nat}{t:Dy}(h:t∈l.drop i):∃j,i<=j/\l[j]? = some t:=by
 obtain ⟨n,e⟩:=DL.mp h
 rw[GY] at e
 exact ⟨i+n,by lia,e⟩
theorem jM {l:List Dy}{i k:Nat}{t:Dy}(h:t∈(l.drop i).take k):∃j,j<k/\l[i+j]? = some t:=by
 obtain ⟨n,e⟩:=DL.mp h
 rw[EY] at e
 split at e
 ·rw[GY] at e
  exact ⟨n,by omega,e⟩
 ·cases e
theorem MW.xq {a b o:Array Dy}{x y k:Nat}(m:MW key a b o x y)(hk:x+k<=a.size)(ha:a.toList.Pairwise (Le key))(hb:∀j p,j<k->a.toList[x+j]? = some p->∀t∈b.toList.drop y,Le key p t):MW key a b (o++a.extract x (x+k)) (x+k) y:=by
 refine m.take (t:=(a.toList.drop x).take k) (by rw[D8,ext_toList]) hk m.hy ?_ ?_ λp hp t ht =>?_
 ·rw[<- DN, <- drop_take]
 ·exact ha.sublist ((EI _ _).trans (EJ _ _))
 ·obtain ⟨j,hj,e⟩:=jM hp
  rcases Dd.mp ht with q | q
  ·obtain ⟨i,hi,e2⟩:=aW q
   exact aG ha e e2 (by lia)
  ·exact hb j p hj e t q
theorem MW.xr {a b o:Array Dy}{x y k:Nat}(m:MW key a b o x y)(hk:y+k<=b.size)(hb:b.toList.Pairwise (Le key))(ha:∀j p,j<k->b.toList[y+j]? = some p->∀t∈a.toList.drop x,Le key p t):MW key a b (o++b.extract y (y+k)) x (y+k):=by
 refine m.take (t:=(b.toList.drop y).take k) (by rw[D8,ext_toList]) m.hx hk ?_ ?_ λp hp t ht =>?_
 ·rw[drop_take b.toList y k]
  have e:((b.toList.drop y).take k++b.toList.drop (y+k)).take k=(b.toList.drop y).take k:=by rw[<- drop_take]
  rw[e]
  refine (List.perm_append_comm_assoc _ _ _)
 ·exact hb.sublist ((EI _ _).trans (EJ _ _))
 ·obtain ⟨j,hj,e⟩:=jM hp
  rcases Dd.mp ht with q | q
  ·exact ha j p hj e t q
  ·obtain ⟨i,hi,e2⟩:=aW q
   exact aG hb e e2 (by lia)
theorem MW.vo {a b o:Array Dy}{x y:Nat}(m:MW key a b o x y)(ha:a.toList.Pairwise (Le key))(hy:y=b.size):eA key a b (o++a.extract x a.size++b.extract y b.size):=by
 subst hy
 have e:b.toList.drop b.size=[]:=JK (by rw[C6];exact C0 _)
 refine m.fin (t:=a.toList.drop x) (by rw[D8,D8,gq,gq,e,DU]) (by rw[e,DU]) (ha.sublist (EJ _ _))
theorem MW.vq {a b o:Array Dy}{x y:Nat}(m:MW key a b o x y)(hb:b.toList.Pairwise (Le key))(hx:x=a.size):eA key a b (o++a.extract x a.size++b.extract y b.size):=by
 subst hx
 have e:a.toList.drop a.size=[]:=JK (by rw[C6];exact C0 _)
 refine m.fin (t:=b.toList.drop y) (by rw[D8,D8,gq,gq,e,DU]) (by rw[e,HL]) (hb.sublist (EJ _ _))
theorem MW.last {a b o:Array Dy}{x y:Nat}(m:MW key a b o x y)(ha:a.toList.Pairwise (Le key))(hb:b.toList.Pairwise (Le key))(hx:x+1=a.size)(hl:∀p q,p∈b.toList->a[a.size-1]? = some q->Le key p q):eA key a b (o++b.extract y b.size++a.extract x a.size):=by
 refine m.fin (t:=b.toList.drop y++a.toList.drop x) (by rw[D8,D8,gq,gq,DN]) FN ?_
 refine EG.mpr ⟨hb.sublist (EJ _ _),ha.sublist (EJ _ _),λp hp q hq=>hl p q (Gr hp) ?_⟩
 obtain ⟨i,hi,e⟩:=aW hq
 rw[Dh] at e
 have hi2:i<a.size:=(E7.mp e).1
 rw[show a.size-1=i by lia]
 exact e
theorem MW.size {a b o:Array Dy}{x y:Nat}(m:MW key a b o x y):o.size+(a.size-x)+(b.size-y)=a.size+b.size:=by
 have e:=m.perm.length_eq
 simp only[C1,Ea,C6] at e
 lia
end
structure Sm (st st':DR):Prop where
 k:kindOf st'=kindOf st
 a:DE st'=DE st
 p:DQ st'=DQ st
 f:failedOf st'=failedOf st
theorem Sm.refl (st:DR):Sm st st:=⟨rfl,rfl,rfl,rfl⟩
theorem Sm.mg {st st':DR}(h:Sm st st')(n:Nat):Sm st (SortSt.mk' (kindOf st') (DE st') (DQ st') n (failedOf st')):=⟨h.k,h.a,h.p,h.f⟩
open PySem PyProof.Rows
section
variable  {prog:Dp}{w:DW}{A:Ec}{E:CU->CW->Prop}{s:CW}{O:IH}{key:Dy->O.α}{U:Dy->Prop}{κ:SortKind}
theorem aZ {a:Array Dy}{i:Nat}(h:i<a.size):∃z,a[i]? = some z:=⟨a[i],by simp[h]⟩
theorem bN {a:Array Dy}{i:Nat}{z:Dy}(h:a[i]? = some z):z∈a.toList:=DL.mpr ⟨i,by rw[Dh];exact h⟩
theorem ltq {x n:Nat}(h:x<=n)(c:¬ (x == n)=true):x<n:=KJ h λz=>c (beq_iff_eq.mpr z)
abbrev LoC:=Option (Array Dy)×Array Dy×Nat×Nat×Nat×Nat×Nat
def zd (a b o:Array Dy)(x y mg ac bc:Nat):StateT DR Sem (ForInStep LoC):=do
  let z ← elem' a x
  if (x+1+1 == a.size)=true then pure (.done (some (o.push z++b.extract y b.size++a.extract (x+1) a.size),o.push z,x+1,y,mg,ac,bc))
  else if (decide (ac<7) && decide (bc<7))=true then pure (.done (none,o.push z,x+1,y,mg,ac,bc))
  else pure (.yield (none,o.push z,x+1,y,mg,ac,bc))
def ze (a b o:Array Dy)(x y mg ac bc:Nat):StateT DR Sem (ForInStep LoC):=do
  let z ← elem' b y
  if (y+1 == b.size)=true then pure (.done (some (o.push z++a.extract x a.size++b.extract (y+1) b.size),o.push z,x,y+1,mg,ac,bc))
  else do
    let z2 ← elem' a x
    let __x ← gal true z2 b (y+1) (b.size-(y+1)) 0
    match __x with
    | some k =>
      if k>0 then
        if (y+1+k == b.size)=true then pure (.done (some (o.push z++b.extract (y+1) (y+1+k)++a.extract x a.size++b.extract (y+1+k) b.size),o.push z++b.extract (y+1) (y+1+k),x,y+1+k,mg,ac,k))
        else zd a b (o.push z++b.extract (y+1) (y+1+k)) x (y+1+k) mg ac k
      else zd a b (o.push z) x (y+1) mg ac k
    | _=>pure (.done (some (o.push z++a.extract x a.size++b.extract (y+1) b.size),o.push z,x,y+1,mg,ac,bc))
def vt (a b p:Array Dy)(x y ac bc mg:Nat):StateT DR Sem (ForInStep LoC):=do
  modify (λs=>SortSt.mk' (kindOf s) (DE s) (DQ s) mg (failedOf s))
  let z ← elem' b y
  let __x ← gal false z a x (a.size-x) 0
  match __x with
  | some k =>
    if k>0 then
      if (x+k+1 == a.size)=true then pure (.done (some (p++a.extract x (x+k)++b.extract y b.size++a.extract (x+k) a.size),p++a.extract x (x+k),x+k,y,mg,k,bc))
      else if (x+k == a.size)=true then pure (.done (some (p++a.extract x (x+k)++a.extract (x+k) a.size++b.extract y b.size),p++a.extract x (x+k),x+k,y,mg,k,bc))
      else ze a b (p++a.extract x (x+k)) (x+k) y mg k bc
    else ze a b p x y mg k bc
  | _=>pure (.done (some (p++a.extract x a.size++b.extract y b.size),p,x,y,mg,ac,bc))
def LoQ (key:Dy->O.α)(a b:Array Dy)(st:DR)(n:Nat)(r:ForInStep LoC)(st':DR):Prop:=match r with
 | .done c=>Sm st st'/\((∃r p x y mg ac bc,c=(some r,p,x,y,mg,ac,bc)/\eA key a b r)\/∃p x y mg ac bc,c=(none,p,x,y,mg,ac,bc)/\MW key a b p x y/\x+1<a.size/\y<b.size/\n<=p.size)
 | .yield c=>Sm st st'/\∃p x y mg ac bc,c=(none,p,x,y,mg,ac,bc)/\MW key a b p x y/\x+1<a.size/\y<b.size/\n<=p.size
theorem LoQ.out {a b:Array Dy}{st st':DR}{n:Nat}{r:Array Dy}{c:Array Dy×Nat×Nat×Nat×Nat×Nat}(sm:Sm st st')(f:eA key a b r):LoQ key a b st n (.done (some r,c)) st':=by
 obtain ⟨p,x,y,mg,ac,bc⟩:=c
 exact ⟨sm,.inl ⟨_,_,_,_,_,_,_,rfl,f⟩⟩
theorem tO {a b:Array Dy}{st st':DR}(ha:a.toList.Pairwise (Le key))(hb:b.toList.Pairwise (Le key))(hl:∀p q,p∈b.toList->a[a.size-1]? = some q->Le key p q)
  {o:Array Dy} {x y mg ac bc n:Nat} {za:Dy} (sm:Sm st st') (ea:a[x]? = some za) (m4:MW key a b (o.push za) (x+1) y) (hx:x+1<a.size) (hy:y<b.size) (hn:n<=o.size):wpS (DG prog w) A E s (zd a b o x y mg ac bc) (LoQ key a b st n) st':=by
 unfold zd
 refine Dq (aX ea ?_)
 by_cases d5:(x+1+1 == a.size)=true
 ·rw[if_pos d5]
  exact Dz (LoQ.out sm (m4.last ha hb (beq_iff_eq.mp d5) hl))
 rw[if_neg d5]
 have hx2:x+1+1<a.size:=ltq hx d5
 have hn':n<=(o.push za).size:=by rw[Gu];exact G6 hn
 split
 ·exact Dz ⟨sm,.inr ⟨_,_,_,_,_,_,rfl,m4,hx2,hy,hn'⟩⟩
 ·exact Dz ⟨sm,_,_,_,_,_,_,rfl,m4,hx2,hy,hn'⟩
theorem tP (C:Cmp prog w A s O key U κ){a b:Array Dy}{st st':DR}(hκ:kindOf st=κ)(ua:∀p∈a.toList,U p)(ub:∀p∈b.toList,U p)
  (ha:a.toList.Pairwise (Le key)) (hb:b.toList.Pairwise (Le key)) (hl:∀p q,p∈b.toList->a[a.size-1]? = some q->Le key p q)
  {o:Array Dy} {x y mg ac bc n:Nat} {zb:Dy} (sm:Sm st st') (eb:b[y]? = some zb) (mk:MW key a b o x y) (bl:∀t∈a.toList.drop x,Le key zb t) (hx1:x+1<a.size) (hy:y<b.size) (hn:n<=o.size):wpS (DG prog w) A E s (ze a b o x y mg ac bc) (LoQ key a b st n) st':=by
 unfold ze
 refine Dq (aX eb ?_)
 have m2:=mk.mK eb hb bl
 by_cases d3:(y+1 == b.size)=true
 ·rw[if_pos d3]
  exact Dz (LoQ.out sm (m2.vo ha (beq_iff_eq.mp d3)))
 rw[if_neg d3]
 have hy1:y+1<b.size:=ltq hy d3
 have hxa:x<a.size:=FD hx1
 obtain ⟨za,ea⟩:=aZ hxa
 refine Dq (aX ea ?_)
 refine Dq (Bc C (λi=>(b[y+1+i]?).getD za) (sm.k.trans hκ) (ua _ (bN ea)) (λi hi =>?_) (λi hi =>?_) (λi j hij hj =>?_) (K7 hy1) λk1 hk1 g1 g2 =>?_)
 ·obtain ⟨z,e⟩:=aZ (show y+1+i<b.size by omega)
  rw[e];rfl
 ·obtain ⟨z,e⟩:=aZ (show y+1+i<b.size by omega)
  rw[e];exact ub _ (bN e)
 ·obtain ⟨z,e⟩:=aZ (show y+1+i<b.size by omega)
  obtain ⟨z',e'⟩:=aZ (show y+1+j<b.size by omega)
  rw[e,e'];exact aG hb (aE e) (aE e') (Ht hij _)
 dsimp only at g1 g2 ⊢
 have tb:∀j q,j<k1->b.toList[y+1+j]? = some q->∀t∈a.toList.drop x,Le key q t:=λj q hj e t ht=>by
  have z:=g1 j hj
  rw[Dh] at e
  rw[e] at z
  obtain ⟨n,hn,e2⟩:=aW ht
  exact D7 (ET z) (aG ha (aE ea) e2 hn)
 have hk1':y+1+k1<=b.size:=by omega
 have m3:=m2.xr (k:=k1) hk1' hb tb
 have bl2:∀t∈b.toList.drop (y+1+k1),Le key za t:=λt ht=>by
  obtain ⟨n,hn,e2⟩:=aW ht
  rw[Dh] at e2
  have hn2:n<b.size:=(E7.mp e2).1
  have z:=g2 (n-(y+1)) (by omega) (by omega)
  rw[show y+1+(n-(y+1))=n by omega,e2] at z
  exact z
 have hn1:n<=(o.push zb).size:=by rw[Gu];exact G6 hn
 by_cases k2:k1>0
 ·rw[if_pos k2]
  by_cases d4:(y+1+k1 == b.size)=true
  ·rw[if_pos d4]
   exact Dz (LoQ.out sm (m3.vo ha (beq_iff_eq.mp d4)))
  rw[if_neg d4]
  exact tO ha hb hl sm ea (m3.jL ea ha bl2) hx1 (ltq hk1' d4) (DZ hn1 (by rw[G7];exact FT _ _))
 ·rw[if_neg k2]
  obtain rfl:k1=0:=GW k2
  exact tO ha hb hl sm ea (m2.jL ea ha bl2) hx1 hy1 hn1
theorem tQ (C:Cmp prog w A s O key U κ){a b:Array Dy}{st st':DR}(hκ:kindOf st=κ)(ua:∀p∈a.toList,U p)(ub:∀p∈b.toList,U p)
  (ha:a.toList.Pairwise (Le key)) (hb:b.toList.Pairwise (Le key)) (hl:∀p q,p∈b.toList->a[a.size-1]? = some q->Le key p q)
  {p:Array Dy} {x y ac bc n:Nat} (mg:Nat) (sm:Sm st st') (m:MW key a b p x y) (hx:x+1<a.size) (hy:y<b.size) (hn:n<=p.size):wpS (DG prog w) A E s (vt a b p x y ac bc mg) (LoQ key a b st n) st':=by
 unfold vt
 obtain ⟨zb,eb⟩:=aZ hy
 refine Dq (F1 ?_)
 refine Dq (aX eb ?_)
 refine Dq (Bb C (λi=>(a[x+i]?).getD zb) ((sm.mg _).k.trans hκ) (ub _ (bN eb)) (λi hi =>?_) (λi hi =>?_) (λi j hij hj =>?_) (K7 (FD hx)) λk hk h1 h2 =>?_)
 ·obtain ⟨z,e⟩:=aZ (show x+i<a.size by lia)
  rw[e];rfl
 ·obtain ⟨z,e⟩:=aZ (show x+i<a.size by lia)
  rw[e];exact ua _ (bN e)
 ·obtain ⟨z,e⟩:=aZ (show x+i<a.size by lia)
  obtain ⟨z',e'⟩:=aZ (show x+j<a.size by lia)
  rw[e,e'];exact aG ha (aE e) (aE e') (Ht hij _)
 dsimp only at h1 h2 ⊢
 have ta:∀j q,j<k->a.toList[x+j]? = some q->∀t∈b.toList.drop y,Le key q t:=λj q hj e t ht=>by
  have z:=h1 j hj
  rw[Dh] at e
  rw[e] at z
  obtain ⟨n,hn,e2⟩:=aW ht
  exact D7 (show O.kle (key q) (key zb) from z) (aG hb (aE eb) e2 hn)
 have hk':x+k<=a.size:=by lia
 have mk:=m.xq (k:=k) hk' ha ta
 have bl:∀t∈a.toList.drop (x+k),Le key zb t:=λt ht=>by
  obtain ⟨n,hn,e2⟩:=aW ht
  rw[Dh] at e2
  have hn2:n<a.size:=(E7.mp e2).1
  have z:=h2 (n-x) (by lia) (by lia)
  rw[show x+(n-x)=n by lia,e2] at z
  exact ET z
 by_cases k0:k>0
 ·rw[if_pos k0]
  by_cases d1:(x+k+1 == a.size)=true
  ·rw[if_pos d1]
   exact Dz (LoQ.out (sm.mg _) (mk.last ha hb (beq_iff_eq.mp d1) hl))
  rw[if_neg d1]
  by_cases d2:(x+k == a.size)=true
  ·rw[if_pos d2]
   exact Dz (LoQ.out (sm.mg _) (mk.vq hb (beq_iff_eq.mp d2)))
  rw[if_neg d2]
  exact tP C hκ ua ub ha hb hl (sm.mg _) eb mk bl (ltq (ltq hk' d2) d1) hy (DZ hn (by rw[G7];exact FT _ _))
 ·rw[if_neg k0]
  obtain rfl:k=0:=GW k0
  exact tP C hκ ua ub ha hb hl (sm.mg _) eb m bl hx hy hn
theorem zf (C:Cmp prog w A s O key U κ){a b:Array Dy}{st st':DR}(hκ:kindOf st=κ)(ua:∀p∈a.toList,U p)(ub:∀p∈b.toList,U p)
  (ha:a.toList.Pairwise (Le key)) (hb:b.toList.Pairwise (Le key)) (hl:∀p q,p∈b.toList->a[a.size-1]? = some q->Le key p q)
  {p:Array Dy} {x y ac bc n mg:Nat} (sm:Sm st st') (m:MW key a b p x y) (hx:x+1<a.size) (hy:y<b.size) (hn:n<=p.size):wpS (DG prog w) A E s (if mg>1 then vt a b p x y ac bc (mg-1) else vt a b p x y ac bc mg) (LoQ key a b st n) st':=by
 split
 ·exact tQ C hκ ua ub ha hb hl (mg-1) sm m hx hy hn
 ·exact tQ C hκ ua ub ha hb hl mg sm m hx hy hn
abbrev LoD:=Option (Array Dy)×Array Dy×Nat×Nat×Nat×Nat
abbrev LoE:=Option (Array Dy)×Array Dy×Nat×Nat×Nat
def xt (a b:Array Dy)(mg:Nat)(c:LoD):StateT DR Sem (ForInStep LoD):=do
  let u ← elem' b c.2.2.2.1
  let v ← elem' a c.2.2.1
  let __x ← lt' u v
  match __x with
  | some bw =>
    if bw=true then do
      let z ← elem' b c.2.2.2.1
      if (c.2.2.2.1+1 == b.size)=true then pure (.done (some (c.2.1.push z++a.extract c.2.2.1 a.size++b.extract (c.2.2.2.1+1) b.size),c.2.1.push z,c.2.2.1,c.2.2.2.1+1,0,c.2.2.2.2.2+1))
      else if c.2.2.2.2.2+1≥mg then pure (.done (none,c.2.1.push z,c.2.2.1,c.2.2.2.1+1,0,c.2.2.2.2.2+1))
      else pure (.yield (none,c.2.1.push z,c.2.2.1,c.2.2.2.1+1,0,c.2.2.2.2.2+1))
    else do
      let z ← elem' a c.2.2.1
      if (c.2.2.1+1+1 == a.size)=true then pure (.done (some (c.2.1.push z++b.extract c.2.2.2.1 b.size++a.extract (c.2.2.1+1) a.size),c.2.1.push z,c.2.2.1+1,c.2.2.2.1,c.2.2.2.2.1+1,0))
      else if c.2.2.2.2.1+1≥mg then pure (.done (none,c.2.1.push z,c.2.2.1+1,c.2.2.2.1,c.2.2.2.2.1+1,0))
      else pure (.yield (none,c.2.1.push z,c.2.2.1+1,c.2.2.2.1,c.2.2.2.2.1+1,0))
  | _=>pure (.done (some (c.2.1++a.extract c.2.2.1 a.size++b.extract c.2.2.2.1 b.size),c.2.1,c.2.2.1,c.2.2.2.1,c.2.2.2.2.1,c.2.2.2.2.2))
def Bd (a b:Array Dy)(c:LoC):StateT DR Sem (ForInStep LoC) :=
 if c.2.2.2.2.1>1 then vt a b c.2.1 c.2.2.1 c.2.2.2.1 c.2.2.2.2.2.1 c.2.2.2.2.2.2 (c.2.2.2.2.1-1) else vt a b c.2.1 c.2.2.1 c.2.2.2.1 c.2.2.2.2.2.1 c.2.2.2.2.2.2 c.2.2.2.2.1
def rV (a b:Array Dy)(c:LoE):StateT DR Sem (ForInStep LoE):=do
  let d ← forIn [0:a.size+b.size] ((none,c.2.1,c.2.2.1,c.2.2.2.1,0,0):LoD) λ_ d=>xt a b c.2.2.2.2 d
  match d.1 with
  | some r=>pure (.done (some r,d.2.1,d.2.2.1,d.2.2.2.1,c.2.2.2.2))
  | none=>do
    rule "list.sort.gallop"
    let e ← forIn [0:a.size+b.size] ((none,d.2.1,d.2.2.1,d.2.2.2.1,c.2.2.2.2+1,d.2.2.2.2.1,d.2.2.2.2.2):LoC) λ_ e=>Bd a b e
    match e.1 with
    | some r=>pure (.done (some r,e.2.1,e.2.2.1,e.2.2.2.1,e.2.2.2.2.1))
    | none=>do
      modify (λs=>SortSt.mk' (kindOf s) (DE s) (DQ s) (e.2.2.2.2.1+1) (failedOf s))
      pure (.yield (none,e.2.1,e.2.2.1,e.2.2.2.1,e.2.2.2.2.1+1))
theorem zg (a b:Array Dy):mLo a b=(do
    rule "list.sort.merge-lo"
    let z ← elem' b 0
    if (1 == b.size)=true then pure (#[z]++a.extract 0 a.size++b.extract 1 b.size)
    else if (0+1 == a.size)=true then pure (#[z]++b.extract 1 b.size++a.extract 0 a.size)
    else do
      let g ← get
      let c ← forIn [0:a.size+b.size] ((none, #[z],0,1,gallopOf g):LoE) λ_ c=>rV a b c
      match c.1 with
      | some r=>pure r
      | none=>unsupported "internal:list.sort.merge-bound"):=by
  kernel_rfl
def LdI (key:Dy->O.α)(a b:Array Dy)(st:DR)(n:Nat)(c:LoD)(st':DR):Prop:=Sm st st'/\∃o' x y ac bc,c=(none,o',x,y,ac,bc)/\MW key a b o' x y/\x+1<a.size/\y<b.size/\n<=o'.size
def LdQ (key:Dy->O.α)(a b:Array Dy)(st:DR)(n:Nat)(c:LoD)(st':DR):Prop:=Sm st st'/\((∃r o x y ac bc,c=(some r,o,x,y,ac,bc)/\eA key a b r)\/∃o' x y ac bc,c=(none,o',x,y,ac,bc)/\MW key a b o' x y/\x+1<a.size/\y<b.size/\n<=o'.size)
theorem xu (C:Cmp prog w A s O key U κ){a b:Array Dy}{st st':DR}(hκ:kindOf st=κ)(ua:∀p∈a.toList,U p)(ub:∀p∈b.toList,U p)
  (ha:a.toList.Pairwise (Le key)) (hb:b.toList.Pairwise (Le key)) (hl:∀p q,p∈b.toList->a[a.size-1]? = some q->Le key p q)
  {mg n m':Nat} {c:LoD} (I:LdI key a b st n c st') (hm:m'<=n+1) {Q:ForInStep LoD->DR->Prop} (h:∀r st',(match r with | .done c'=>LdQ key a b st (n+1) c' st' | .yield c'=>LdI key a b st m' c' st')->Q r st'):wpS (DG prog w) A E s (xt a b mg c) Q st':=by
 obtain ⟨sm2,o',x,y,ac,bc,rfl,m,hx,hy,hz⟩:=I
 unfold xt
 obtain ⟨za,ea⟩:=aZ (FD hx)
 obtain ⟨zb,eb⟩:=aZ hy
 refine Dq (aX eb (Dq (aX ea (Dq (C.lt _ st' zb za _ (sm2.k.trans hκ) (ub _ (bN eb)) (ua _ (bN ea)) ?_)))))
 dsimp only
 have sz:∀z,n+1<=(o'.push z).size:=λz=>by rw[Gu];exact Lv hz
 cases hlt:O.blt (key zb) (key za) with
 | true =>
  rw[if_pos rfl]
  refine Dq (aX eb ?_)
  have m1:=m.mK eb hb λt ht=>by
   obtain ⟨n,hn,e⟩:=aW ht
   exact D7 (ET hlt) (aG ha (aE ea) e hn)
  by_cases c3:(y+1 == b.size)=true
  ·rw[if_pos c3]
   exact Dz (h _ _ ⟨sm2,.inl ⟨_,_,_,_,_,_,rfl,m1.vo ha (beq_iff_eq.mp c3)⟩⟩)
  ·rw[if_neg c3]
   have c3':=ltq hy c3
   split
   ·exact Dz (h _ _ ⟨sm2,.inr ⟨_,_,_,_,_,rfl,m1,hx,c3',sz _⟩⟩)
   ·exact Dz (h _ _ ⟨sm2,_,_,_,_,_,rfl,m1,hx,c3',DZ hm (sz _)⟩)
 | false =>
  rw[if_neg Di]
  refine Dq (aX ea ?_)
  have m1:=m.jL ea ha λt ht=>by
   obtain ⟨n,hn,e⟩:=aW ht
   exact D7 (show O.kle (key za) (key zb) from hlt) (aG hb (aE eb) e hn)
  by_cases c3:(x+1+1 == a.size)=true
  ·rw[if_pos c3]
   exact Dz (h _ _ ⟨sm2,.inl ⟨_,_,_,_,_,_,rfl,m1.last ha hb (beq_iff_eq.mp c3) hl⟩⟩)
  ·rw[if_neg c3]
   have c3':=ltq hx c3
   split
   ·exact Dz (h _ _ ⟨sm2,.inr ⟨_,_,_,_,_,rfl,m1,c3',hy,sz _⟩⟩)
   ·exact Dz (h _ _ ⟨sm2,_,_,_,_,_,rfl,m1,c3',hy,DZ hm (sz _)⟩)
def LeI (key:Dy->O.α)(a b:Array Dy)(st:DR)(n:Nat)(c:LoE)(st':DR):Prop:=Sm st st'/\∃o x y mg,c=(none,o,x,y,mg)/\MW key a b o x y/\x+1<a.size/\y<b.size/\n+1<=o.size
def LeQ (key:Dy->O.α)(a b:Array Dy)(st:DR)(c:LoE)(st':DR):Prop:=Sm st st'/\((∃r o x y mg,c=(some r,o,x,y,mg)/\eA key a b r)\/∃o x y mg,c=(none,o,x,y,mg)/\MW key a b o x y/\x+1<a.size/\y<b.size/\a.size+b.size+1<=o.size)
theorem vv (C:Cmp prog w A s O key U κ){a b:Array Dy}{st st':DR}(hκ:kindOf st=κ)(ua:∀p∈a.toList,U p)(ub:∀p∈b.toList,U p)
  (ha:a.toList.Pairwise (Le key)) (hb:b.toList.Pairwise (Le key)) (na:0<a.size) (hl:∀p q,p∈b.toList->a[a.size-1]? = some q->Le key p q)
  {n:Nat} {c:LoE} (I:LeI key a b st n c st'):wpS (DG prog w) A E s (rV a b c) (λr st'=>match r with | .done c'=>LeQ key a b st c' st' | .yield c'=>LeI key a b st (n+1) c' st') st':=by
 obtain ⟨sm1,o,x,y,mg,rfl,m,hx,hy,hz⟩:=I
 unfold rV
 have q1:1<=a.size+b.size:=DZ na (FT _ _)
 refine Dq (FI (EM (I:=λj c st'=>LdI key a b st (o.size+min j 1) c st') (Q:=LdQ key a b st (o.size+1)) (λj c st2 _ hj J=>xu (n:=o.size+min j 1) (m':=o.size+min (j+1) 1) C hκ ua ub ha hb hl J (by lia) λr st' k =>?_) (λc st' J =>?_) ⟨sm1,o,x,y,0,0,rfl,m,hx,hy,C0 _⟩) ?_)
 ·cases r with
  | done c'=>exact k.imp id λz=>z.imp id λ⟨o',x,y,ac,bc,e,m,hx,hy,hz⟩=>⟨o',x,y,ac,bc,e,m,hx,hy,by lia⟩
  | yield c'=>exact k
 ·obtain ⟨sm,o',x,y,ac,bc,e,m,hx,hy,hz⟩:=J
  exact ⟨sm,.inr ⟨o',x,y,ac,bc,e,m,hx,hy,by lia⟩⟩
 rintro c st2 ⟨sm2,⟨r,o',x,y,ac,bc,rfl,fr⟩ | ⟨o',x,y,ac,bc,rfl,m,hx,hy,hz2⟩⟩
 ·exact Dz ⟨sm2,.inl ⟨_,_,_,_,_,rfl,fr⟩⟩
 dsimp only
 refine Dq (Jz (Fi ⟨rfl,?_⟩))
 refine Dq (FI (EM (I:=λ_ c st'=>LoQ key a b st o'.size (.yield c) st') (Q:=λc st'=>LoQ key a b st o'.size (.done c) st') (λj c st3 _ hj J =>?_) (λc st' J=>⟨J.1,.inr J.2⟩) ⟨sm2,o',x,y,_,ac,bc,rfl,m,hx,hy,C0 _⟩) ?_)
 ·obtain ⟨sm3,p,x,y,mg,ac,bc,rfl,m,hx,hy,hz3⟩:=J
  refine FI (zf C hκ ua ub ha hb hl sm3 m hx hy hz3) ?_
  intro r st' h
  cases r <;> exact h
 rintro c st3 ⟨sm3,⟨r,p,x,y,mg,ac,bc,rfl,fr⟩ | ⟨p,x,y,mg,ac,bc,rfl,m,hx,hy,hz3⟩⟩
 ·exact Dz ⟨sm3,.inl ⟨_,_,_,_,_,rfl,fr⟩⟩
 ·dsimp only
  exact Dq (F1 (Dz ⟨sm3.mg _,p,x,y,_,rfl,m,hx,hy,by lia⟩))
theorem Be (C:Cmp prog w A s O key U κ){a b:Array Dy}{st:DR}{Q:Array Dy->DR->Prop}(hκ:kindOf st=κ)(ua:∀p∈a.toList,U p)(ub:∀p∈b.toList,U p)
  (ha:a.toList.Pairwise (Le key)) (hb:b.toList.Pairwise (Le key)) (na:0<a.size) (nb:0<b.size) (h0:∀p q,b[0]? = some p->a[0]? = some q->Le key p q) (hl:∀p q,p∈b.toList->a[a.size-1]? = some q->Le key p q)
  (h:∀r st',Sm st st'->eA key a b r->Q r st'):wpS (DG prog w) A E s (mLo a b) Q st:=by
 rw[zg]
 refine Dq (Jz (Fi ⟨rfl,?_⟩))
 obtain ⟨b0,eb0⟩:=aZ nb
 obtain ⟨a0,ea0⟩:=aZ na
 have a0le:∀t∈a.toList,Le key a0 t:=λt ht=>by
  obtain ⟨i,e⟩:=DL.mp ht
  exact aG ha (aE ea0) e (DS _)
 have m0:MW key a b #[] 0 0:=⟨DS _,DS _,Hn _,List.Pairwise.nil,λp hp=>by cases hp⟩
 have m1:MW key a b #[b0] 0 1:=m0.mK eb0 hb λt ht=>D7 (h0 _ _ eb0 ea0) (a0le t ht)
 refine Dq (aX eb0 ?_)
 by_cases c1:(1 == b.size)=true
 ·rw[if_pos c1]
  exact Dz (h _ st (Sm.refl st) (m1.vo ha (beq_iff_eq.mp c1)))
 rw[if_neg c1]
 by_cases c2:(0+1 == a.size)=true
 ·rw[if_pos c2]
  exact Dz (h _ st (Sm.refl st) (m1.last ha hb (beq_iff_eq.mp c2) hl))
 rw[if_neg c2]
 refine Dq (Jc ?_)
 refine Dq (FI (EM (I:=λi c st'=>LeI key a b st i c st') (Q:=LeQ key a b st) (λi c st1 _ _ J=>FI (vv C hκ ua ub ha hb na hl J) λr st' h=>by cases r <;> exact h) (λc st' J =>?_) ⟨Sm.refl st,_,_,_,_,rfl,m1,ltq na c2,ltq nb c1,C0 _⟩) ?_)
 ·obtain ⟨sm,o,x,y,mg,e,m,hx,hy,hz⟩:=J
  exact ⟨sm,.inr ⟨o,x,y,mg,e,m,hx,hy,by lia⟩⟩
 rintro c st' ⟨sm,⟨r,o,x,y,mg,rfl,fr⟩ | ⟨o,x,y,mg,rfl,m,hx,hy,hz⟩⟩
 ·exact Dz (h r st' sm fr)
 ·have:=m.size
  lia
end
open PySem PyProof.Rows
section
variable  {O:IH}(key:Dy->O.α)
structure MV (a b o:Array Dy)(x y:Nat):Prop where
 hx:x<=a.size
 hy:y<=b.size
 perm:((a.toList.take x++b.toList.take y)++o.toList.reverse).Perm (a.toList++b.toList)
 sorted:o.toList.reverse.Pairwise (Le key)
 above:∀p∈a.toList.take x++b.toList.take y,∀q∈o.toList.reverse,Le key p q
variable  {key}
theorem MV.fin {a b o:Array Dy}{x y:Nat}(m:MV key a b o x y){t:List Dy}{r:Array Dy}(hr:r.toList=t++o.toList.reverse)(ht:t.Perm (a.toList.take x++b.toList.take y))(hs:t.Pairwise (Le key)):eA key a b r:=by
 unfold eA
 rw[hr]
 exact ⟨(F7 _ ht).trans m.perm,EG.mpr ⟨hs,m.sorted,λp hp q hq=>m.above p (ht.mem_iff.mp hp) q hq⟩⟩
theorem MV.take {a b o:Array Dy}{x y x' y':Nat}(m:MV key a b o x y){t:List Dy}{r:Array Dy}(hr:r.toList.reverse=t++o.toList.reverse)(hx:x'<=a.size)(hy:y'<=b.size)
  (ht:((a.toList.take x'++b.toList.take y')++t).Perm (a.toList.take x++b.toList.take y)) (hs:t.Pairwise (Le key)) (hb:∀p∈a.toList.take x'++b.toList.take y',∀q∈t,Le key p q):MV key a b r x' y':=by
 have sub:∀z,z∈a.toList.take x'++b.toList.take y'\/z∈t->z∈a.toList.take x++b.toList.take y:=λz hz=>ht.mem_iff.mp (Dd.mpr hz)
 refine ⟨hx,hy,?_,?_,?_⟩
 ·rw[hr, <- DN]
  exact (F7 _ ht).trans m.perm
 ·rw[hr]
  exact EG.mpr ⟨hs,m.sorted,λp hp q hq=>m.above p (sub p (.inr hp)) q hq⟩
 ·rw[hr]
  intro p hp z hz
  rcases Dd.mp hz with h | h
  ·exact hb p hp z h
  ·exact m.above p (sub p (.inl hp)) z h
theorem a9 {l:List Dy}{k:Nat}{t:Dy}(h:t∈l.take k):∃j,j<k/\l[j]? = some t:=by
 obtain ⟨n,e⟩:=DL.mp h
 rw[EY] at e
 split at e
 ·exact ⟨n,by omega,e⟩
 ·cases e
theorem mL {l:List Dy}{x:Nat}{z:Dy}(hx:1<=x)(h:l[x-1]? = some z):l.take x=l.take (x-1)++[z]:=by
 obtain ⟨n,rfl⟩:∃n,x=n+1:=⟨x-1,by lia⟩
 rw[Nat.add_sub_cancel] at h ⊢
 rw[DY,h]
 rfl
theorem tR (a:Array Dy)(c x:Nat)(hx:x<=a.size):(a.extract c x).toList=(a.toList.take x).drop c:=by
 rw[FV,Ff,List.drop_take]
theorem gr (a:Array Dy)(x:Nat):(a.extract 0 x).toList=a.toList.take x:=by
 rw[FV,Ff,IX,JU]
theorem MV.jL {a b o:Array Dy}{x y:Nat}{z:Dy}(m:MV key a b o x y)(h1:1<=x)(h:a[x-1]? = some z)(ha:a.toList.Pairwise (Le key))(hb:∀t∈b.toList.take y,Le key t z):MV key a b (o.push z) (x-1) y:=by
 have e:=mL h1 (aE h)
 refine m.take (t:=[z]) (by rw[FC,GH];rfl) (by have:=m.hx;lia) m.hy ?_ (Fp _ _) λp hp q hq =>?_
 ·rw[e,DN,DN]
  exact Fh _ FN
 ·have eq:q=z:=by simpa using hq
  subst eq
  rcases Dd.mp hp with r | r
  ·obtain ⟨j,hj,e2⟩:=a9 r
   exact aG ha e2 (aE h) (by lia)
  ·exact hb p r
theorem MV.mK {a b o:Array Dy}{x y:Nat}{z:Dy}(m:MV key a b o x y)(h1:1<=y)(h:b[y-1]? = some z)(hb:b.toList.Pairwise (Le key))(ha:∀t∈a.toList.take x,Le key t z):MV key a b (o.push z) x (y-1):=by
 have e:=mL h1 (aE h)
 refine m.take (t:=[z]) (by rw[FC,GH];rfl) m.hx (by have:=m.hy;lia) ?_ (Fp _ _) λp hp q hq =>?_
 ·rw[e,DN]
 ·have eq:q=z:=by simpa using hq
  subst eq
  rcases Dd.mp hp with r | r
  ·exact ha p r
  ·obtain ⟨j,hj,e2⟩:=a9 r
   exact aG hb e2 (aE h) (by lia)
theorem tS (l:List Dy){c x:Nat}(h:c<=x):l.take x=l.take c++(l.take x).drop c:=by
 have e:(l.take x).take c=l.take c:=by rw[List.take_take,Nat.min_eq_left h]
 rw[<- e,E1]
theorem kM {l:List Dy}{c x:Nat}{t:Dy}(h:t∈(l.take x).drop c):∃j,c<=j/\j<x/\l[j]? = some t:=by
 obtain ⟨j,hj,e⟩:=aW h
 rw[EY] at e
 split at e
 ·exact ⟨j,hj,by omega,e⟩
 ·cases e
theorem MV.xq {a b o:Array Dy}{x y c:Nat}(m:MV key a b o x y)(hc:c<=x)(ha:a.toList.Pairwise (Le key))(hb:∀j p,c<=j->j<x->a.toList[j]? = some p->∀t∈b.toList.take y,Le key t p):MV key a b (o++(a.extract c x).reverse) c y:=by
 refine m.take (t:=(a.toList.take x).drop c) (by rw[D8,GH,Gs,Hl,tR _ _ _ m.hx]) (DZ hc m.hx) m.hy ?_ ?_ λp hp q hq =>?_
 ·refine List.Perm.trans ?_ (F7 _ (List.Perm.of_eq (tS a.toList hc).symm))
  rw[DN,DN]
  exact Fh _ FN
 ·exact ha.sublist ((EJ _ _).trans (EI _ _))
 ·obtain ⟨j,h1,h2,e⟩:=kM hq
  rcases Dd.mp hp with r | r
  ·obtain ⟨i,hi,e2⟩:=a9 r
   exact aG ha e2 e (by lia)
  ·exact hb j q h1 h2 e p r
theorem MV.xr {a b o:Array Dy}{x y c:Nat}(m:MV key a b o x y)(hc:c<=y)(hb:b.toList.Pairwise (Le key))(ha:∀j p,c<=j->j<y->b.toList[j]? = some p->∀t∈a.toList.take x,Le key t p):MV key a b (o++(b.extract c y).reverse) x c:=by
 refine m.take (t:=(b.toList.take y).drop c) (by rw[D8,GH,Gs,Hl,tR _ _ _ m.hy]) m.hx (DZ hc m.hy) ?_ ?_ λp hp q hq =>?_
 ·rw[DN, <- tS b.toList hc]
 ·exact hb.sublist ((EJ _ _).trans (EI _ _))
 ·obtain ⟨j,h1,h2,e⟩:=kM hq
  rcases Dd.mp hp with r | r
  ·exact ha j q h1 h2 e p r
  ·obtain ⟨i,hi,e2⟩:=a9 r
   exact aG hb e2 e (by lia)
theorem MV.vq {a b o:Array Dy}{x y:Nat}(m:MV key a b o x y)(hb:b.toList.Pairwise (Le key))(hx:x=0):eA key a b (a.extract 0 x++b.extract 0 y++o.reverse):=by
 subst hx
 refine m.fin (t:=b.toList.take y) (by rw[D8,D8,gr,gr,Gs,Ho,HL]) (by rw[Ho,HL]) (hb.sublist (EI _ _))
theorem MV.vo {a b o:Array Dy}{x y:Nat}(m:MV key a b o x y)(ha:a.toList.Pairwise (Le key))(hy:y=0):eA key a b (a.extract 0 x++b.extract 0 y++o.reverse):=by
 subst hy
 refine m.fin (t:=a.toList.take x) (by rw[D8,D8,gr,gr,Gs,Ho,DU]) (by rw[Ho,DU]) (ha.sublist (EI _ _))
theorem MV.first {a b o:Array Dy}{x y:Nat}(m:MV key a b o x y)(ha:a.toList.Pairwise (Le key))(hb:b.toList.Pairwise (Le key))(hy:y=1)(hl:∀p q,b[0]? = some p->q∈a.toList->Le key p q):eA key a b (b.extract 0 y++a.extract 0 x++o.reverse):=by
 refine m.fin (t:=b.toList.take y++a.toList.take x) (by rw[D8,D8,gr,gr,Gs]) FN ?_
 refine EG.mpr ⟨hb.sublist (EI _ _),ha.sublist (EI _ _),λp hp q hq=>hl p q ?_ (Fw hq)⟩
 obtain ⟨i,hi,e⟩:=a9 hp
 rw[Dh] at e
 rw[show i=0 by lia] at e
 exact e
theorem MV.size {a b o:Array Dy}{x y:Nat}(m:MV key a b o x y):o.size+x+y=a.size+b.size:=by
 have e:=m.perm.length_eq
 have h1:=m.hx
 have h2:=m.hy
 simp only[C1,D6,C6,FE] at e
 lia
end
open PySem PyProof.Rows
section
variable  {prog:Dp}{w:DW}{A:Ec}{E:CU->CW->Prop}{s:CW}{O:IH}{key:Dy->O.α}{U:Dy->Prop}{κ:SortKind}
abbrev HiC:=Option (Array Dy)×Nat×Nat×Array Dy×Nat×Nat×Nat
def zh (a b:Array Dy)(x y:Nat)(o:Array Dy)(mg ac bc:Nat):StateT DR Sem (ForInStep HiC):=do
  let z ← elem' a (x-1)
  if (x-1 == 0)=true then pure (.done (some (a.extract 0 (x-1)++b.extract 0 y++(o.push z).reverse),x-1,y,o.push z,mg,ac,bc))
  else if (decide (ac<7) && decide (bc<7))=true then pure (.done (none,x-1,y,o.push z,mg,ac,bc))
  else pure (.yield (none,x-1,y,o.push z,mg,ac,bc))
def zi (a b:Array Dy)(x y:Nat)(o:Array Dy)(mg ac bc:Nat):StateT DR Sem (ForInStep HiC):=do
  let z ← elem' b (y-1)
  if (y-1 == 1)=true then pure (.done (some (b.extract 0 (y-1)++a.extract 0 x++(o.push z).reverse),x,y-1,o.push z,mg,ac,bc))
  else do
    let z2 ← elem' a (x-1)
    let __x ← gal true z2 b 0 (y-1) (y-1-1)
    match __x with
    | some c =>
      if y-1-c>0 then
        if (c == 1)=true then pure (.done (some (b.extract 0 c++a.extract 0 x++(o.push z++(b.extract c (y-1)).reverse).reverse),x,c,o.push z++(b.extract c (y-1)).reverse,mg,ac,y-1-c))
        else if (c == 0)=true then pure (.done (some (a.extract 0 x++b.extract 0 c++(o.push z++(b.extract c (y-1)).reverse).reverse),x,c,o.push z++(b.extract c (y-1)).reverse,mg,ac,y-1-c))
        else zh a b x c (o.push z++(b.extract c (y-1)).reverse) mg ac (y-1-c)
      else zh a b x (y-1) (o.push z) mg ac (y-1-c)
    | _=>pure (.done (some (a.extract 0 x++b.extract 0 (y-1)++(o.push z).reverse),x,y-1,o.push z,mg,ac,bc))
def vw (a b:Array Dy)(x y:Nat)(p:Array Dy)(ac bc mg:Nat):StateT DR Sem (ForInStep HiC):=do
  modify (λs=>SortSt.mk' (kindOf s) (DE s) (DQ s) mg (failedOf s))
  let z ← elem' b (y-1)
  let __x ← gal false z a 0 x (x-1)
  match __x with
  | some c =>
    if x-c>0 then
      if (c == 0)=true then pure (.done (some (a.extract 0 c++b.extract 0 y++(p++(a.extract c x).reverse).reverse),c,y,p++(a.extract c x).reverse,mg,x-c,bc))
      else zi a b c y (p++(a.extract c x).reverse) mg (x-c) bc
    else zi a b x y p mg (x-c) bc
  | _=>pure (.done (some (a.extract 0 x++b.extract 0 y++p.reverse),x,y,p,mg,ac,bc))
def HiQ (key:Dy->O.α)(a b:Array Dy)(st:DR)(n:Nat)(r:ForInStep HiC)(st':DR):Prop:=match r with
 | .done c=>Sm st st'/\((∃r x y p mg ac bc,c=(some r,x,y,p,mg,ac,bc)/\eA key a b r)\/∃x y p mg ac bc,c=(none,x,y,p,mg,ac,bc)/\MV key a b p x y/\1<=x/\2<=y/\n<=p.size)
 | .yield c=>Sm st st'/\∃x y p mg ac bc,c=(none,x,y,p,mg,ac,bc)/\MV key a b p x y/\1<=x/\2<=y/\n<=p.size
theorem HiQ.out {a b:Array Dy}{st st':DR}{n:Nat}{r:Array Dy}{c:Nat×Nat×Array Dy×Nat×Nat×Nat}(sm:Sm st st')(f:eA key a b r):HiQ key a b st n (.done (some r,c)) st':=by
 obtain ⟨p,x,y,mg,ac,bc⟩:=c
 exact ⟨sm,.inl ⟨_,_,_,_,_,_,_,rfl,f⟩⟩
theorem xv {x:Nat}(c:¬ (x == 0)=true):1<=x:=Nat.pos_of_ne_zero λz=>c (beq_iff_eq.mpr z)
theorem zj {y:Nat}(h:1<=y)(c:¬ (y == 1)=true):2<=y:=KJ h λz=>c (beq_iff_eq.mpr z.symm)
theorem tW {a b:Array Dy}{st st':DR}(hb:b.toList.Pairwise (Le key))
  {o:Array Dy} {x y mg ac bc n:Nat} {za:Dy} (sm:Sm st st') (ea:a[x-1]? = some za) (m4:MV key a b (o.push za) (x-1) y) (hy:2<=y) (hn:n<=o.size):wpS (DG prog w) A E s (zh a b x y o mg ac bc) (HiQ key a b st n) st':=by
 unfold zh
 refine Dq (aX ea ?_)
 by_cases d5:(x-1 == 0)=true
 ·rw[if_pos d5]
  exact Dz (HiQ.out sm (m4.vq hb (beq_iff_eq.mp d5)))
 rw[if_neg d5]
 have hx2:=xv d5
 have hn':n<=(o.push za).size:=by rw[Gu];exact G6 hn
 split
 ·exact Dz ⟨sm,.inr ⟨_,_,_,_,_,_,rfl,m4,hx2,hy,hn'⟩⟩
 ·exact Dz ⟨sm,_,_,_,_,_,_,rfl,m4,hx2,hy,hn'⟩
theorem tX (C:Cmp prog w A s O key U κ){a b:Array Dy}{st st':DR}(hκ:kindOf st=κ)(ua:∀p∈a.toList,U p)(ub:∀p∈b.toList,U p)
  (ha:a.toList.Pairwise (Le key)) (hb:b.toList.Pairwise (Le key)) (h0:∀p q,b[0]? = some p->q∈a.toList->Le key p q)
  {o:Array Dy} {x y mg ac bc n:Nat} {zb:Dy} (sm:Sm st st') (eb:b[y-1]? = some zb) (mk:MV key a b o x y) (bl:∀t∈a.toList.take x,Le key t zb) (hx1:1<=x) (hy:2<=y) (hn:n<=o.size):wpS (DG prog w) A E s (zi a b x y o mg ac bc) (HiQ key a b st n) st':=by
 unfold zi
 refine Dq (aX eb ?_)
 have m2:=mk.mK (K8 hy) eb hb bl
 have y1:1<=y-1:=FW hy
 have bx1:=mk.hx
 have by1:=mk.hy
 by_cases d3:(y-1 == 1)=true
 ·rw[if_pos d3]
  exact Dz (HiQ.out sm (m2.first ha hb (beq_iff_eq.mp d3) h0))
 rw[if_neg d3]
 have hy1:=zj y1 d3
 obtain ⟨za,ea⟩:=aZ (show x-1<a.size by lia)
 refine Dq (aX ea ?_)
 refine Dq (Bc C (λi=>(b[i]?).getD za) (sm.k.trans hκ) (ua _ (bN ea)) (λi hi =>?_) (λi hi =>?_) (λi j hij hj =>?_) (Io y1) λc2 hc2 g1 g2 =>?_)
 ·obtain ⟨z,e⟩:=aZ (show i<b.size by lia)
  rw[GF,e];rfl
 ·obtain ⟨z,e⟩:=aZ (show i<b.size by lia)
  rw[e];exact ub _ (bN e)
 ·obtain ⟨z,e⟩:=aZ (show i<b.size by lia)
  obtain ⟨z',e'⟩:=aZ (show j<b.size by lia)
  rw[e,e'];exact aG hb (aE e) (aE e') hij
 dsimp only at g1 g2 ⊢
 have tb:∀j q,c2<=j->j<y-1->b.toList[j]? = some q->∀t∈a.toList.take x,Le key t q:=λj q hj hj2 e t ht=>by
  have z:=g2 j hj hj2
  rw[Dh] at e
  rw[e] at z
  obtain ⟨n,hn,e2⟩:=a9 ht
  exact D7 (aG ha e2 (aE ea) (FW hn)) z
 have m3:=m2.xr hc2 hb tb
 have bl2:∀t∈b.toList.take c2,Le key t za:=λt ht=>by
  obtain ⟨n,hn,e2⟩:=a9 ht
  rw[Dh] at e2
  have z:=g1 n hn
  rw[e2] at z
  exact ET z
 have hn1:n<=(o.push zb).size:=by rw[Gu];exact G6 hn
 by_cases k2:y-1-c2>0
 ·rw[if_pos k2]
  by_cases d4:(c2 == 1)=true
  ·rw[if_pos d4]
   exact Dz (HiQ.out sm (m3.first ha hb (beq_iff_eq.mp d4) h0))
  rw[if_neg d4]
  by_cases d6:(c2 == 0)=true
  ·rw[if_pos d6]
   exact Dz (HiQ.out sm (m3.vo ha (beq_iff_eq.mp d6)))
  rw[if_neg d6]
  exact tW hb sm ea (m3.jL hx1 ea ha bl2) (zj (xv d6) d4) (DZ hn1 (by rw[G7];exact FT _ _))
 ·rw[if_neg k2]
  have ec2:c2=y-1:=HN hc2 (JV (GW k2))
  rw[ec2] at bl2
  exact tW hb sm ea (m2.jL hx1 ea ha bl2) hy1 hn1
theorem tY (C:Cmp prog w A s O key U κ){a b:Array Dy}{st st':DR}(hκ:kindOf st=κ)(ua:∀p∈a.toList,U p)(ub:∀p∈b.toList,U p)
  (ha:a.toList.Pairwise (Le key)) (hb:b.toList.Pairwise (Le key)) (h0:∀p q,b[0]? = some p->q∈a.toList->Le key p q)
  {p:Array Dy} {x y ac bc n:Nat} (mg:Nat) (sm:Sm st st') (m:MV key a b p x y) (hx:1<=x) (hy:2<=y) (hn:n<=p.size):wpS (DG prog w) A E s (vw a b x y p ac bc mg) (HiQ key a b st n) st':=by
 unfold vw
 have bx:=m.hx
 have by':=m.hy
 obtain ⟨zb,eb⟩:=aZ (show y-1<b.size by lia)
 refine Dq (F1 ?_)
 refine Dq (aX eb ?_)
 refine Dq (Bb C (λi=>(a[i]?).getD zb) ((sm.mg _).k.trans hκ) (ub _ (bN eb)) (λi hi =>?_) (λi hi =>?_) (λi j hij hj =>?_) (Io hx) λc hc h1 h2 =>?_)
 ·obtain ⟨z,e⟩:=aZ (Dw hi bx)
  rw[GF,e];rfl
 ·obtain ⟨z,e⟩:=aZ (Dw hi bx)
  rw[e];exact ua _ (bN e)
 ·obtain ⟨z,e⟩:=aZ (show i<a.size by lia)
  obtain ⟨z',e'⟩:=aZ (show j<a.size by lia)
  rw[e,e'];exact aG ha (aE e) (aE e') hij
 dsimp only at h1 h2 ⊢
 have ta:∀j q,c<=j->j<x->a.toList[j]? = some q->∀t∈b.toList.take y,Le key t q:=λj q hj hj2 e t ht=>by
  have z:=h2 j hj hj2
  rw[Dh] at e
  rw[e] at z
  obtain ⟨n,hn,e2⟩:=a9 ht
  exact D7 (aG hb e2 (aE eb) (FW hn)) (ET z)
 have mk:=m.xq hc ha ta
 have bl:∀t∈a.toList.take c,Le key t zb:=λt ht=>by
  obtain ⟨n,hn,e2⟩:=a9 ht
  rw[Dh] at e2
  have z:=h1 n hn
  rw[e2] at z
  exact z
 by_cases k0:x-c>0
 ·rw[if_pos k0]
  by_cases d1:(c == 0)=true
  ·rw[if_pos d1]
   exact Dz (HiQ.out (sm.mg _) (mk.vq hb (beq_iff_eq.mp d1)))
  rw[if_neg d1]
  exact tX C hκ ua ub ha hb h0 (sm.mg _) eb mk bl (xv d1) hy (DZ hn (by rw[G7];exact FT _ _))
 ·rw[if_neg k0]
  have ec:c=x:=HN hc (JV (GW k0))
  rw[ec] at bl
  exact tX C hκ ua ub ha hb h0 (sm.mg _) eb m bl hx hy hn
theorem zk (C:Cmp prog w A s O key U κ){a b:Array Dy}{st st':DR}(hκ:kindOf st=κ)(ua:∀p∈a.toList,U p)(ub:∀p∈b.toList,U p)
  (ha:a.toList.Pairwise (Le key)) (hb:b.toList.Pairwise (Le key)) (h0:∀p q,b[0]? = some p->q∈a.toList->Le key p q)
  {p:Array Dy} {x y ac bc n mg:Nat} (sm:Sm st st') (m:MV key a b p x y) (hx:1<=x) (hy:2<=y) (hn:n<=p.size):wpS (DG prog w) A E s (if mg>1 then vw a b x y p ac bc (mg-1) else vw a b x y p ac bc mg) (HiQ key a b st n) st':=by
 split
 ·exact tY C hκ ua ub ha hb h0 (mg-1) sm m hx hy hn
 ·exact tY C hκ ua ub ha hb h0 mg sm m hx hy hn
abbrev HiD:=Option (Array Dy)×Nat×Nat×Array Dy×Nat×Nat
abbrev HiE:=Option (Array Dy)×Nat×Nat×Array Dy×Nat
def xw (a b:Array Dy)(mg:Nat)(c:HiD):StateT DR Sem (ForInStep HiD):=do
  let u ← elem' b (c.2.2.1-1)
  let v ← elem' a (c.2.1-1)
  let __x ← lt' u v
  match __x with
  | some aw =>
    if aw=true then do
      let z ← elem' a (c.2.1-1)
      if (c.2.1-1 == 0)=true then pure (.done (some (a.extract 0 (c.2.1-1)++b.extract 0 c.2.2.1++(c.2.2.2.1.push z).reverse),c.2.1-1,c.2.2.1,c.2.2.2.1.push z,c.2.2.2.2.1+1,0))
      else if c.2.2.2.2.1+1≥mg then pure (.done (none,c.2.1-1,c.2.2.1,c.2.2.2.1.push z,c.2.2.2.2.1+1,0))
      else pure (.yield (none,c.2.1-1,c.2.2.1,c.2.2.2.1.push z,c.2.2.2.2.1+1,0))
    else do
      let z ← elem' b (c.2.2.1-1)
      if (c.2.2.1-1 == 1)=true then pure (.done (some (b.extract 0 (c.2.2.1-1)++a.extract 0 c.2.1++(c.2.2.2.1.push z).reverse),c.2.1,c.2.2.1-1,c.2.2.2.1.push z,0,c.2.2.2.2.2+1))
      else if c.2.2.2.2.2+1≥mg then pure (.done (none,c.2.1,c.2.2.1-1,c.2.2.2.1.push z,0,c.2.2.2.2.2+1))
      else pure (.yield (none,c.2.1,c.2.2.1-1,c.2.2.2.1.push z,0,c.2.2.2.2.2+1))
  | _=>pure (.done (some (a.extract 0 c.2.1++b.extract 0 c.2.2.1++c.2.2.2.1.reverse),c.2.1,c.2.2.1,c.2.2.2.1,c.2.2.2.2.1,c.2.2.2.2.2))
def Bf (a b:Array Dy)(c:HiC):StateT DR Sem (ForInStep HiC) :=
 if c.2.2.2.2.1>1 then vw a b c.2.1 c.2.2.1 c.2.2.2.1 c.2.2.2.2.2.1 c.2.2.2.2.2.2 (c.2.2.2.2.1-1) else vw a b c.2.1 c.2.2.1 c.2.2.2.1 c.2.2.2.2.2.1 c.2.2.2.2.2.2 c.2.2.2.2.1
def rW (a b:Array Dy)(c:HiE):StateT DR Sem (ForInStep HiE):=do
  let d ← forIn [0:a.size+b.size] ((none,c.2.1,c.2.2.1,c.2.2.2.1,0,0):HiD) λ_ d=>xw a b c.2.2.2.2 d
  match d.1 with
  | some r=>pure (.done (some r,d.2.1,d.2.2.1,d.2.2.2.1,c.2.2.2.2))
  | none=>do
    rule "list.sort.gallop"
    let e ← forIn [0:a.size+b.size] ((none,d.2.1,d.2.2.1,d.2.2.2.1,c.2.2.2.2+1,d.2.2.2.2.1,d.2.2.2.2.2):HiC) λ_ e=>Bf a b e
    match e.1 with
    | some r=>pure (.done (some r,e.2.1,e.2.2.1,e.2.2.2.1,e.2.2.2.2.1))
    | none=>do
      modify (λs=>SortSt.mk' (kindOf s) (DE s) (DQ s) (e.2.2.2.2.1+1) (failedOf s))
      pure (.yield (none,e.2.1,e.2.2.1,e.2.2.2.1,e.2.2.2.2.1+1))
theorem zo (a b:Array Dy):mHi a b=(do
    rule "list.sort.merge-hi"
    let z ← elem' a (a.size-1)
    if (a.size-1 == 0)=true then pure (a.extract 0 (a.size-1)++b.extract 0 b.size++(#[z]:Array Dy).reverse)
    else if (b.size == 1)=true then pure (b.extract 0 b.size++a.extract 0 (a.size-1)++(#[z]:Array Dy).reverse)
    else do
      let g ← get
      let c ← forIn [0:a.size+b.size] ((none,a.size-1,b.size, #[z],gallopOf g):HiE) λ_ c=>rW a b c
      match c.1 with
      | some r=>pure r
      | none=>unsupported "internal:list.sort.merge-bound"):=by
  kernel_rfl
def HdI (key:Dy->O.α)(a b:Array Dy)(st:DR)(n:Nat)(c:HiD)(st':DR):Prop:=Sm st st'/\∃x y o' ac bc,c=(none,x,y,o',ac,bc)/\MV key a b o' x y/\1<=x/\2<=y/\n<=o'.size
def HdQ (key:Dy->O.α)(a b:Array Dy)(st:DR)(n:Nat)(c:HiD)(st':DR):Prop:=Sm st st'/\((∃r x y o ac bc,c=(some r,x,y,o,ac,bc)/\eA key a b r)\/∃x y o' ac bc,c=(none,x,y,o',ac,bc)/\MV key a b o' x y/\1<=x/\2<=y/\n<=o'.size)
theorem xx (C:Cmp prog w A s O key U κ){a b:Array Dy}{st st':DR}(hκ:kindOf st=κ)(ua:∀p∈a.toList,U p)(ub:∀p∈b.toList,U p)
  (ha:a.toList.Pairwise (Le key)) (hb:b.toList.Pairwise (Le key)) (h0:∀p q,b[0]? = some p->q∈a.toList->Le key p q)
  {mg n m':Nat} {c:HiD} (I:HdI key a b st n c st') (hm:m'<=n+1) {Q:ForInStep HiD->DR->Prop} (h:∀r st',(match r with | .done c'=>HdQ key a b st (n+1) c' st' | .yield c'=>HdI key a b st m' c' st')->Q r st'):wpS (DG prog w) A E s (xw a b mg c) Q st':=by
 obtain ⟨sm2,x,y,o',ac,bc,rfl,m,hx,hy,hz⟩:=I
 unfold xw
 have bx:=m.hx
 have by':=m.hy
 obtain ⟨za,ea⟩:=aZ (show x-1<a.size by omega)
 obtain ⟨zb,eb⟩:=aZ (show y-1<b.size by omega)
 refine Dq (aX eb (Dq (aX ea (Dq (C.lt _ st' zb za _ (sm2.k.trans hκ) (ub _ (bN eb)) (ua _ (bN ea)) ?_)))))
 dsimp only
 have sz:∀z,n+1<=(o'.push z).size:=λz=>by rw[Gu];exact Lv hz
 cases hlt:O.blt (key zb) (key za) with
 | true =>
  rw[if_pos rfl]
  refine Dq (aX ea ?_)
  have m1:=m.jL hx ea ha λt ht=>by
   obtain ⟨n,hn,e⟩:=a9 ht
   exact D7 (aG hb e (aE eb) (FW hn)) (ET hlt)
  by_cases c3:(x-1 == 0)=true
  ·rw[if_pos c3]
   exact Dz (h _ _ ⟨sm2,.inl ⟨_,_,_,_,_,_,rfl,m1.vq hb (beq_iff_eq.mp c3)⟩⟩)
  ·rw[if_neg c3]
   have c3':=xv c3
   split
   ·exact Dz (h _ _ ⟨sm2,.inr ⟨_,_,_,_,_,rfl,m1,c3',hy,sz _⟩⟩)
   ·exact Dz (h _ _ ⟨sm2,_,_,_,_,_,rfl,m1,c3',hy,DZ hm (sz _)⟩)
 | false =>
  rw[if_neg Di]
  refine Dq (aX eb ?_)
  have m1:=m.mK (K8 hy) eb hb λt ht=>by
   obtain ⟨n,hn,e⟩:=a9 ht
   exact D7 (aG ha e (aE ea) (FW hn)) (show O.kle (key za) (key zb) from hlt)
  by_cases c3:(y-1 == 1)=true
  ·rw[if_pos c3]
   exact Dz (h _ _ ⟨sm2,.inl ⟨_,_,_,_,_,_,rfl,m1.first ha hb (beq_iff_eq.mp c3) h0⟩⟩)
  ·rw[if_neg c3]
   have c3':=zj (FW hy) c3
   split
   ·exact Dz (h _ _ ⟨sm2,.inr ⟨_,_,_,_,_,rfl,m1,hx,c3',sz _⟩⟩)
   ·exact Dz (h _ _ ⟨sm2,_,_,_,_,_,rfl,m1,hx,c3',DZ hm (sz _)⟩)
def HeI (key:Dy->O.α)(a b:Array Dy)(st:DR)(n:Nat)(c:HiE)(st':DR):Prop:=Sm st st'/\∃x y o mg,c=(none,x,y,o,mg)/\MV key a b o x y/\1<=x/\2<=y/\n+1<=o.size
def HeQ (key:Dy->O.α)(a b:Array Dy)(st:DR)(c:HiE)(st':DR):Prop:=Sm st st'/\((∃r x y o mg,c=(some r,x,y,o,mg)/\eA key a b r)\/∃x y o mg,c=(none,x,y,o,mg)/\MV key a b o x y/\1<=x/\2<=y/\a.size+b.size+1<=o.size)
theorem vx (C:Cmp prog w A s O key U κ){a b:Array Dy}{st st':DR}(hκ:kindOf st=κ)(ua:∀p∈a.toList,U p)(ub:∀p∈b.toList,U p)
  (ha:a.toList.Pairwise (Le key)) (hb:b.toList.Pairwise (Le key)) (h0:∀p q,b[0]? = some p->q∈a.toList->Le key p q) (na:0<a.size)
  {n:Nat} {c:HiE} (I:HeI key a b st n c st'):wpS (DG prog w) A E s (rW a b c) (λr st'=>match r with | .done c'=>HeQ key a b st c' st' | .yield c'=>HeI key a b st (n+1) c' st') st':=by
 obtain ⟨sm1,x,y,o,mg,rfl,m,hx,hy,hz⟩:=I
 unfold rW
 have q1:1<=a.size+b.size:=DZ na (FT _ _)
 refine Dq (FI (EM (I:=λj c st'=>HdI key a b st (o.size+min j 1) c st') (Q:=HdQ key a b st (o.size+1)) (λj c st2 _ hj J=>xx (n:=o.size+min j 1) (m':=o.size+min (j+1) 1) C hκ ua ub ha hb h0 J (by lia) λr st' k =>?_) (λc st' J =>?_) ⟨sm1,x,y,o,0,0,rfl,m,hx,hy,C0 _⟩) ?_)
 ·cases r with
  | done c'=>exact k.imp id λz=>z.imp id λ⟨x,y,o',ac,bc,e,m,hx,hy,hz⟩=>⟨x,y,o',ac,bc,e,m,hx,hy,by lia⟩
  | yield c'=>exact k
 ·obtain ⟨sm,x,y,o',ac,bc,e,m,hx,hy,hz⟩:=J
  exact ⟨sm,.inr ⟨x,y,o',ac,bc,e,m,hx,hy,by lia⟩⟩
 rintro c st2 ⟨sm2,⟨r,x,y,o',ac,bc,rfl,fr⟩ | ⟨x,y,o',ac,bc,rfl,m,hx,hy,hz2⟩⟩
 ·exact Dz ⟨sm2,.inl ⟨_,_,_,_,_,rfl,fr⟩⟩
 dsimp only
 refine Dq (Jz (Fi ⟨rfl,?_⟩))
 refine Dq (FI (EM (I:=λ_ c st'=>HiQ key a b st o'.size (.yield c) st') (Q:=λc st'=>HiQ key a b st o'.size (.done c) st') (λj c st3 _ hj J =>?_) (λc st' J=>⟨J.1,.inr J.2⟩) ⟨sm2,x,y,o',_,ac,bc,rfl,m,hx,hy,C0 _⟩) ?_)
 ·obtain ⟨sm3,x,y,p,mg,ac,bc,rfl,m,hx,hy,hz3⟩:=J
  refine FI (zk C hκ ua ub ha hb h0 sm3 m hx hy hz3) ?_
  intro r st' h
  cases r <;> exact h
 rintro c st3 ⟨sm3,⟨r,x,y,p,mg,ac,bc,rfl,fr⟩ | ⟨x,y,p,mg,ac,bc,rfl,m,hx,hy,hz3⟩⟩
 ·exact Dz ⟨sm3,.inl ⟨_,_,_,_,_,rfl,fr⟩⟩
 ·dsimp only
  exact Dq (F1 (Dz ⟨sm3.mg _,x,y,p,_,rfl,m,hx,hy,by lia⟩))
theorem Bg (C:Cmp prog w A s O key U κ){a b:Array Dy}{st:DR}{Q:Array Dy->DR->Prop}(hκ:kindOf st=κ)(ua:∀p∈a.toList,U p)(ub:∀p∈b.toList,U p)
  (ha:a.toList.Pairwise (Le key)) (hb:b.toList.Pairwise (Le key)) (na:0<a.size) (nb:0<b.size) (h0:∀p q,b[0]? = some p->q∈a.toList->Le key p q) (hl:∀p q,p∈b.toList->a[a.size-1]? = some q->Le key p q)
  (h:∀r st',Sm st st'->eA key a b r->Q r st'):wpS (DG prog w) A E s (mHi a b) Q st:=by
 rw[zo]
 refine Dq (Jz (Fi ⟨rfl,?_⟩))
 obtain ⟨a0,ea0⟩:=aZ (Io na)
 have m0:MV key a b #[] a.size b.size:=by
  refine ⟨C0 _,C0 _,?_,List.Pairwise.nil,λp _ q hq=>by cases hq⟩
  rw[Dj (by rw[C6];exact C0 _),Dj (by rw[C6];exact C0 _)]
  show (a.toList++b.toList++[]).Perm _
  rw[DU]
 have m1:MV key a b #[a0] (a.size-1) b.size:=m0.jL na ea0 ha λt ht=>hl t a0 (Fw ht) ea0
 refine Dq (aX ea0 ?_)
 by_cases c1:(a.size-1 == 0)=true
 ·rw[if_pos c1]
  exact Dz (h _ st (Sm.refl st) (m1.vq hb (beq_iff_eq.mp c1)))
 rw[if_neg c1]
 by_cases c2:(b.size == 1)=true
 ·rw[if_pos c2]
  exact Dz (h _ st (Sm.refl st) (m1.first ha hb (beq_iff_eq.mp c2) h0))
 rw[if_neg c2]
 refine Dq (Jc ?_)
 refine Dq (FI (EM (I:=λi c st'=>HeI key a b st i c st') (Q:=HeQ key a b st) (λi c st1 _ _ J=>FI (vx C hκ ua ub ha hb h0 na J) λr st' h=>by cases r <;> exact h) (λc st' J =>?_) ⟨Sm.refl st,_,_,_,_,rfl,m1,xv c1,zj nb c2,C0 _⟩) ?_)
 ·obtain ⟨sm,x,y,o,mg,e,m,hx,hy,hz⟩:=J
  exact ⟨sm,.inr ⟨x,y,o,mg,e,m,hx,hy,by lia⟩⟩
 rintro c st' ⟨sm,⟨r,x,y,o,mg,rfl,fr⟩ | ⟨x,y,o,mg,rfl,m,hx,hy,hz⟩⟩
 ·exact Dz (h r st' sm fr)
 ·have:=m.size
  lia
end
open PySem PyProof.Rows
theorem Bh (i:Nat):mAt i=(do
    let s ← get
    let (some (sa,na,pw),some (sb,nb,_)):=((DQ s)[i]?,(DQ s)[i+1]?) | unsupported "internal:list.sort.pending"
    set (SortSt.mk' (kindOf s) (DE s) (((DQ s).setIfInBounds i (sa,na+nb,pw)).eraseIdxIfInBounds (i+1)) (gallopOf s) (failedOf s))
    let some k ← gal false (← elem' (DE s) sb) (DE s) sa na 0 | return false
    let (sa,na):=(sa+k,na-k)
    if na == 0 then return true
    let some nb ← gal true (← elem' (DE s) (sa+na-1)) (DE s) sb nb (nb-1) | return false
    if nb == 0 then return true
    let x:=(DE s).extract sa sb
    let y:=(DE s).extract sb (sb+nb)
    let mm ← if na<=nb then mLo x y else mHi x y
    modify λs=>setArr s (mm.toList.zipIdx.foldl (λa (p,j)=>a.setIfInBounds (sa+j) p) (DE s))
    return (failedOf (← get)).isNone):=rfl
theorem iC {α:Type}(p r:List α)(k:Nat):(p++r).drop (p.length+k)=r.drop k:=by
 rw[<- LZ,IY]
theorem rX {α:Type}(p r:List α)(k:Nat):(p++r)[p.length+k]? = r[k]? := by
 rw[DI (by lia),GG]
theorem An {α:Type}(p a r:List α){k:Nat}(h:k<a.length):(p++(a++r))[p.length+k]? = a[k]? := by
 rw[rX,DC h]
theorem written (l:List Dy):∀(c n:Nat) (a:Array Dy),c+n+l.length<=a.size->((l.zipIdx n).foldl (λ(a:Array Dy) (pj:Dy×Nat)=>a.setIfInBounds (c+pj.2) pj.1) a).toList=a.toList.take (c+n)++l++a.toList.drop (c+n+l.length):=by
 induction l with
 | nil=>intro c n a _;simp
 | cons z l ih =>
  intro c n a h
  rw[DF] at h
  rw[JB,JR,ih c (n+1) _ (by rw[Jf];lia)]
  have e:(a.setIfInBounds (c+n) z).toList=a.toList.set (c+n) z:=IK ..
  rw[e]
  have lt:c+n<a.toList.length:=by rw[C6];lia
  have t1:(a.toList.set (c+n) z).take (c+(n+1))=a.toList.take (c+n)++[z]:=by
   rw[show c+(n+1)=c+n+1 by lia,DY,List.take_set_of_le (C0 _),EV lt]
   rfl
  have t2:(a.toList.set (c+n) z).drop (c+(n+1)+l.length)=a.toList.drop (c+n+(l.length+1)):=by
   rw[List.drop_set_of_lt (by lia),show c+(n+1)+l.length=c+n+(l.length+1) by lia]
  rw[t1,t2,DF]
  simp
section
variable  {prog:Dp}{w:DW}{A:Ec}{E:CU->CW->Prop}{s:CW}{O:IH}{key:Dy->O.α}{U:Dy->Prop}{κ:SortKind}
theorem Bi (C:Cmp prog w A s O key U κ){i pw pw2:Nat}{st:DR}{Q:Bool->DR->Prop}{P X Y S:List Dy}(hκ:kindOf st=κ)(hf:failedOf st=none)
    (ha:(DE st).toList=P++(X++(Y++S))) (hu:∀p∈(DE st).toList,U p) (h1:(DQ st)[i]? = some (P.length,X.length,pw)) (h2:(DQ st)[i+1]? = some (P.length+X.length,Y.length,pw2))
    (nx:0<X.length) (ny:0<Y.length) (sx:X.Pairwise (Le key)) (sy:Y.Pairwise (Le key))
    (h:∀st' M,M.Perm (X++Y)->M.Pairwise (Le key)->(DE st').toList=P++(M++S)->DQ st'=((DQ st).setIfInBounds i (P.length,X.length+Y.length,pw)).eraseIdxIfInBounds (i+1)->kindOf st'=κ -> failedOf st'=none->Q true st') :
    wpS (DG prog w) A E s (mAt i) Q st:=by
  rw[Bh]
  refine Dq (Jc ?_)
  rw[h1,h2]
  dsimp only
  refine Dq (show wpS (DG prog w) A E s (modify λ_=>SortSt.mk' (kindOf st) (DE st) (((DQ st).setIfInBounds i (P.length,X.length+Y.length,pw)).eraseIdxIfInBounds (i+1)) (gallopOf st) (failedOf st)) _ st from F1 ?_)
  generalize hst1:SortSt.mk' (kindOf st) (DE st) (((DQ st).setIfInBounds i (P.length,X.length+Y.length,pw)).eraseIdxIfInBounds (i+1)) (gallopOf st) (failedOf st)=st1
  have k1:kindOf st1=κ:=by rw[<- hst1];exact hκ
  have a1:DE st1=DE st:=by rw[<- hst1]
  have p1:DQ st1=((DQ st).setIfInBounds i (P.length,X.length+Y.length,pw)).eraseIdxIfInBounds (i+1):=by rw[<- hst1]
  have f1:failedOf st1=none:=by rw[<- hst1];exact hf
  have sz:(DE st).size=P.length+X.length+Y.length+S.length:=by
    rw[<- C6,ha];simp only[C1];lia
  have atX:∀j,j<X.length->(DE st)[P.length+j]? = X[j]? := λj hj=>by
    rw[<- Dh,ha,An _ _ _ hj]
  have atY:∀j,j<Y.length->(DE st)[P.length+X.length+j]? = Y[j]? := λj hj=>by
    rw[<- Dh,ha, <- DN,show P.length+X.length+j=(P++X).length+j by rw[C1],An _ _ _ hj]
  have uX:∀p∈X,U p:=λp hp=>hu p (by rw[ha];simp[hp])
  have uY:∀p∈Y,U p:=λp hp=>hu p (by rw[ha];simp[hp])
  have xget:∀j,j<X.length->∃z,X[j]? = some z:=λj hj=>⟨X[j],by simp[hj]⟩
  have yget:∀j,j<Y.length->∃z,Y[j]? = some z:=λj hj=>⟨Y[j],by simp[hj]⟩
  obtain ⟨y0,ey0⟩:=yget 0 ny
  have plain:(∀p∈X,∀q∈Y,Le key p q)->Q true st1:=λhle=>h st1 (X++Y) (Hn _) (EG.mpr ⟨sx,sy,hle⟩) (by rw[a1,ha,DN]) p1 k1 f1
  refine Dq (aX (z:=y0) (by rw[show P.length+X.length=P.length+X.length+0 by lia,atY 0 ny];exact ey0) ?_)
  refine Dq (Bb C (λj=>(X[j]?).getD y0) k1 (uY _ (C7 ey0)) (λj hj =>?_) (λj hj =>?_) (λi j hij hj =>?_) nx λk hk g1 g2 =>?_)
  · obtain ⟨z,e⟩:=xget j hj
    rw[atX j hj,e];rfl
  · obtain ⟨z,e⟩:=xget j hj
    rw[e];exact uX _ (C7 e)
  · obtain ⟨z,e⟩:=xget i (by lia)
    obtain ⟨z',e'⟩:=xget j hj
    rw[e,e'];exact aG sx e e' hij
  dsimp only at g1 g2 ⊢
  have y0le:∀q∈Y,Le key y0 q:=λq hq=>by
    obtain ⟨n,e⟩:=DL.mp hq
    exact aG sy ey0 e (DS _)
  by_cases c1:(X.length-k == 0)=true
  · rw[if_pos c1]
    refine Dz (plain λp hp q hq =>?_)
    obtain ⟨n,e⟩:=DL.mp hp
    have hn:n<X.length:=(C9.mp e).1
    have z:=g1 n (by have:=beq_iff_eq.mp c1;lia)
    rw[e] at z
    exact D7 z (y0le q hq)
  rw[if_neg c1]
  have kx:k<X.length:=by have:X.length-k≠0:=λz=>c1 (beq_iff_eq.mpr z);lia
  obtain ⟨xl,exl⟩:=xget (X.length-1) (by lia)
  have xlle:∀p∈X,Le key p xl:=λp hp=>by
    obtain ⟨n,e⟩:=DL.mp hp
    have hn:n<X.length:=(C9.mp e).1
    exact aG sx e exl (by lia)
  refine Dq (aX (z:=xl) (by rw[show P.length+k+(X.length-k)-1=P.length+(X.length-1) by lia,atX _ (by lia)];exact exl) ?_)
  refine Dq (Bc C (λj=>(Y[j]?).getD xl) k1 (uX _ (C7 exl)) (λj hj =>?_) (λj hj =>?_) (λi j hij hj =>?_) (by lia) λm hm e1 e2 =>?_)
  · obtain ⟨z,e⟩:=yget j hj
    rw[atY j hj,e];rfl
  · obtain ⟨z,e⟩:=yget j hj
    rw[e];exact uY _ (C7 e)
  · obtain ⟨z,e⟩:=yget i (by lia)
    obtain ⟨z',e'⟩:=yget j hj
    rw[e,e'];exact aG sy e e' hij
  dsimp only at e1 e2 ⊢
  by_cases c2:(m == 0)=true
  · rw[if_pos c2]
    refine Dz (plain λp hp q hq =>?_)
    obtain ⟨n,e⟩:=DL.mp hq
    have hn:n<Y.length:=(C9.mp e).1
    have z:=e2 n (by have:=beq_iff_eq.mp c2;lia) hn
    rw[e] at z
    exact D7 (xlle p hp) z
  rw[if_neg c2]
  have m0:0<m:=by have:m≠0:=λz=>c2 (beq_iff_eq.mpr z);lia
  have ex:((DE st).extract (P.length+k) (P.length+X.length)).toList=X.drop k:=by
    rw[FV,Ff,ha,iC,Ii (by lia)]
    rw[List.take_left' (by rw[Ea];lia)]
  have ey:((DE st).extract (P.length+X.length) (P.length+X.length+m)).toList=Y.take m:=by
    have e:=iC (P++X) (Y++S) 0
    rw[C1,Ll,IX,DN] at e
    rw[FV,Ff,ha,e,GG,GQ hm]
  have sX:((DE st).extract (P.length+k) (P.length+X.length)).size=X.length-k:=by rw[<- C6,ex,Ea]
  have sY:((DE st).extract (P.length+X.length) (P.length+X.length+m)).size=m:=by rw[<- C6,ey,D6];lia
  generalize (DE st).extract (P.length+k) (P.length+X.length)=xa at ex sX ⊢
  generalize (DE st).extract (P.length+X.length) (P.length+X.length+m)=ya at ey sY ⊢
  have xa0:∀q∈xa.toList,Le key y0 q:=λq hq=>by
    rw[ex] at hq
    obtain ⟨n,hn,e⟩:=aW hq
    have hn2:n<X.length:=(C9.mp e).1
    have z:=g2 n hn hn2
    rw[e] at z
    exact ET z
  have yaL:∀p∈ya.toList,Le key p xl:=λp hp=>by
    rw[ey] at hp
    obtain ⟨n,hn,e⟩:=a9 hp
    have z:=e1 n hn
    rw[e] at z
    exact ET z
  have first:∀p q,ya[0]? = some p->q∈xa.toList->Le key p q:=λp q hp hq=>by
    rw[<- Dh,ey,EY,if_pos m0,ey0] at hp
    cases hp
    exact xa0 q hq
  have lst:∀p q,p∈ya.toList->xa[xa.size-1]? = some q->Le key p q:=λp q hp hq=>by
    rw[<- Dh,ex,GY,sX,show k+(X.length-k-1)=X.length-1 by lia,exl] at hq
    cases hq
    exact yaL p hp
  have sxa:xa.toList.Pairwise (Le key):=by rw[ex];exact sx.sublist (EJ _ _)
  have sya:ya.toList.Pairwise (Le key):=by rw[ey];exact sy.sublist (EI _ _)
  have uxa:∀p∈xa.toList,U p:=λp hp=>by rw[ex] at hp;exact uX p (Gr hp)
  have uya:∀p∈ya.toList,U p:=λp hp=>by rw[ey] at hp;exact uY p (Fw hp)
  have post:∀r st',Sm st1 st'->eA key xa ya r->wpS (DG prog w) A E s (do modify λs=>setArr s (r.toList.zipIdx.foldl (λa (p,j)=>a.setIfInBounds (P.length+k+j) p) (DE s));return (failedOf (← get)).isNone) Q st':=by
    rintro r st' sm ⟨fp,fs⟩
    refine Dq (F1 (Dq (Jc (Dz ?_))))
    have rl:r.toList.length=X.length-k+m:=by rw[fp.length_eq,C1,C6,C6,sX,sY]
    have wr:=written r.toList (P.length+k) 0 (DE st') (by rw[sm.a,a1,sz,rl];lia)
    have e:(failedOf (setArr st' (r.toList.zipIdx.foldl (λa (p,j)=>a.setIfInBounds (P.length+k+j) p) (DE st')))).isNone=true:=by
      show (failedOf st').isNone=true
      rw[sm.f,f1];rfl
    rw[e]
    have t1:(P++(X++(Y++S))).take (P.length+k+0)=P++X.take k:=by
      rw[Ll,List.take_append,Dj (by lia),GG,GQ (by lia)]
    have t2:(P++(X++(Y++S))).drop (P.length+k+0+r.toList.length)=Y.drop m++S:=by
      rw[rl,show P.length+k+0+(X.length-k+m)=P.length+(X.length+m) by lia,iC,iC,Ii hm]
    have perm:(X.take k++(r.toList++Y.drop m)).Perm (X++Y):=by
      rw[ex,ey] at fp
      have q:(X.take k++(r.toList++Y.drop m)).Perm (X.take k++((X.drop k++Y.take m)++Y.drop m)):=Fh _ (F7 _ fp)
      have e3:X.take k++((X.drop k++Y.take m)++Y.drop m)=X++Y:=by
        rw[DN (X.drop k),E1, <- DN,E1]
      rw[e3] at q
      exact q
    have inr:∀z∈r.toList,z∈X.drop k\/z∈Y.take m:=λz hz=>by
      have q:=fp.mem_iff.mp hz
      rw[ex,ey] at q
      exact Dd.mp q
    refine h _ (X.take k++(r.toList++Y.drop m)) perm ?_ ?_ ?_ (sm.k.trans k1) (sm.f.trans f1)
    · refine EG.mpr ⟨sx.sublist (EI _ _),EG.mpr ⟨fs,sy.sublist (EJ _ _),λp hp q hq =>?_⟩,λp hp q hq =>?_⟩
      · obtain ⟨n,hn,en⟩:=aW hq
        have hn2:n<Y.length:=(C9.mp en).1
        rcases inr p hp with z | z
        · have g:=e2 n hn hn2
          rw[en] at g
          exact D7 (xlle p (Gr z)) g
        · obtain ⟨j,hj,ej⟩:=a9 z
          exact aG sy ej en (by lia)
      · obtain ⟨n,hn,en⟩:=a9 hp
        have g:=g1 n hn
        rw[en] at g
        rcases Dd.mp hq with z | z
        · rcases inr q z with z | z
          · obtain ⟨j,hj,ej⟩:=aW z
            exact aG sx en ej (by lia)
          · exact D7 g (y0le q (Fw z))
        · exact D7 g (y0le q (Gr z))
    · show (r.toList.zipIdx.foldl (λa (p,j)=>a.setIfInBounds (P.length+k+j) p) (DE st')).toList=_
      rw[wr,sm.a,a1,ha,t1,t2]
      simp only[DN]
    · show DQ st'=_
      rw[sm.p,p1]
  by_cases c3:X.length-k<=m
  · rw[if_pos c3]
    exact Dq (Be C k1 uxa uya sxa sya (by lia) (by lia) (λp q hp hq=>first p q hp (bN hq)) lst λr st' sm fr=>post r st' sm fr)
  · rw[if_neg c3]
    exact Dq (Bg C k1 uxa uya sxa sya (by lia) (by lia) first lst λr st' sm fr=>post r st' sm fr)
end
open PySem PyProof.Rows
theorem zp (lo m:Nat):A9 lo m=(do
    let mut n:=1
    for _ in [1:m] do
      let some sm ← ltAt' (lo+n) (lo+n-1)
        | return none
      if sm then break
      n:=n+1
    if n == m then return some n
    if n>1 then
      let some ro ← ltAt' lo (lo+n-1)
        | return none
      if ro then return some n
      reverseSlice' lo (lo+n)
    rule "list.sort.descending-run"
    n:=n+1
    let mut q:=0
    for _ in [n:m] do
      let some sm ← ltAt' (lo+n) (lo+n-1)
        | return none
      if sm then
        if q>0 then reverseSlice' (lo+n-(q+1)) (lo+n)
        q:=0
      else
        let some lg ← ltAt' (lo+n-1) (lo+n)
          | return none
        if lg then break
        q:=q+1
      n:=n+1
    if q>0 then reverseSlice' (lo+n-(q+1)) (lo+n)
    reverseSlice' lo (lo+n)
    for _ in [n:m] do
      let some sm ← ltAt' (lo+n) (lo+n-1)
        | return none
      if sm then break
      n:=n+1
    return some n):=rfl
theorem xA (lo n ok:Nat):xk lo n ok=(do
    for k in [max ok 1:n] do
      let mut l:=0;let mut r:=k
      for _ in [0:k] do
        if l≥r then break
        let m:=(l+r)/2
        let some le ← ltAt' (lo+k) (lo+m)
          | return false
        if le then r:=m else l:=m+1
      moveDown' (lo+k) (lo+l)
    return true):=rfl
section
variable  {O:IH}(key:Dy->O.α)
def kk (xs:Array Dy)(i:Nat):O.α:=key ((xs[i]?).getD (E6,E6))
def Up (xs:Array Dy)(lo n:Nat):Prop:=∀i j,lo<=i->i<=j->j<lo+n->O.kle (kk key xs i) (kk key xs j)
def Down (xs:Array Dy)(lo n:Nat):Prop:=∀i j,lo<=i->i<=j->j<lo+n->O.kle (kk key xs j) (kk key xs i)
variable  {key}
theorem iD {xs ys:Array Dy}{i j:Nat}(h:xs[i]? = ys[j]?):kk key xs i=kk key ys j:=by unfold kk;rw[h]
theorem mN {xs:Array Dy}{i j:Nat}(hj:j<=xs.size)(k:Nat):kk key (mirror xs i j ((j-i)/2)) k=if i<=k/\k<j then kk key xs (i+j-1-k) else kk key xs k:=by
 have e:=Kx (i:=i) hj k
 by_cases h:i<=k/\k<j
 ·rw[if_pos h] at e ⊢;exact iD e
 ·rw[if_neg h] at e ⊢;exact iD e
theorem fg {xs:Array Dy}{i j:Nat}(hj:j<=xs.size)(he:∀k,i<=k->k<j->kk key xs k=kk key xs (j-1))(k:Nat):kk key (mirror xs i j ((j-i)/2)) k=kk key xs k:=by
 rw[mN hj]
 split
 ·rw[he _ (by omega) (by omega),he k (by omega) (by omega)]
 ·rfl
end
structure SA (lo:Nat)(st st':DR):Prop where
 perm:(DE st').Perm (DE st)
 pre:∀k,k<lo->(DE st')[k]? = (DE st)[k]?
 k:kindOf st'=kindOf st
 p:DQ st'=DQ st
 f:failedOf st'=failedOf st
theorem SA.refl (lo:Nat)(st:DR):SA lo st st:=⟨Array.Perm.refl _,λ_ _=>rfl,rfl,rfl,rfl⟩
theorem SA.size {lo:Nat}{st st':DR}(h:SA lo st st'):(DE st').size=(DE st).size:=h.perm.size_eq
theorem SA.mirror {lo:Nat}{st st':DR}(h:SA lo st st'){i j:Nat}(hi:lo<=i)(hj:j<=(DE st').size):SA lo st (setArr st' (mirror (DE st') i j ((j-i)/2))) :=
 ⟨(mirror_perm _ _ _ _).trans h.perm,λk hk=>by
  show (PyProof.Rows.mirror (DE st') i j ((j-i)/2))[k]? = _
  rw[Kx hj,if_neg (by lia)]
  exact h.pre k hk,h.k,h.p,h.f⟩
theorem SA.mem {lo:Nat}{st st':DR}(h:SA lo st st'){p:Dy}(hp:p∈(DE st').toList):p∈(DE st).toList:=(IL.mp h.perm).mem_iff.mp hp
section
variable  {prog:Dp}{w:DW}{A:Ec}{E:CU->CW->Prop}{s:CW}{O:IH}{key:Dy->O.α}{U:Dy->Prop}{κ:SortKind}
theorem gs (C:Cmp prog w A s O key U κ){st:DR}{i j:Nat}{Q:Option Bool->DR->Prop}(hκ:kindOf st=κ)(hu:∀p∈(DE st).toList,U p)(hi:i<(DE st).size)(hj:j<(DE st).size)
  (h:Q (some (O.blt (kk key (DE st) i) (kk key (DE st) j))) st):wpS (DG prog w) A E s (ltAt' i j) Q st:=by
 rw[ltAt'_eq]
 refine Dq (Jc ?_)
 obtain ⟨x,ex⟩:=aZ hi
 obtain ⟨y,ey⟩:=aZ hj
 dsimp only
 refine Dq (aX ex (Dq (aX ey (C.lt _ st x y _ hκ (hu _ (bN ex)) (hu _ (bN ey)) ?_))))
 unfold kk at h
 rw[ex,ey] at h
 exact h
theorem zq (C:Cmp prog w A s O key U κ){st:DR}{lo m:Nat}{Q:Option Nat->DR->Prop}(hκ:kindOf st=κ)(hu:∀p∈(DE st).toList,U p)(hm:1<=m)(hz:lo+m=(DE st).size)
  (h:∀n st',1<=n->n<=m->SA lo st st'->Up key (DE st') lo n->Q (some n) st'):wpS (DG prog w) A E s (A9 lo m) Q st:=by
 rw[zp]
 dsimp only
 refine Dq (FI (EM (I:=λx c st'=>st=st'/\c=(none,x)/\Up key (DE st) lo x)
  (Q:=λc st'=>st=st'/\∃n,c=(none,n)/\1<=n/\n<=m/\Up key (DE st) lo n/\(n<m->O.klt (kk key (DE st) (lo+n)) (kk key (DE st) (lo+n-1)))) ?step ?fin ⟨rfl,rfl,λi j h1 h2 h3=>by rw[show i=j by lia];exact Fq _⟩) ?post)
 case fin =>
  rintro c st' ⟨rfl,rfl,up⟩
  exact ⟨rfl,_,rfl,by lia,by lia,by rw[show max 1 m=m by lia] at up ⊢;exact up,by lia⟩
 case step =>
  rintro x c st' h1 h2 ⟨rfl,rfl,up⟩
  dsimp only
  refine Dq (gs C hκ hu (by lia) (by lia) ?_)
  dsimp only
  cases hb:O.blt (kk key (DE st) (lo+x)) (kk key (DE st) (lo+x-1)) with
  | true =>
   rw[if_pos rfl]
   exact Dz ⟨rfl,x,rfl,h1,by lia,up,λ_=>hb⟩
  | false =>
   rw[if_neg (by simp)]
   refine Dz ⟨rfl,rfl,λi j k1 k2 k3 =>?_⟩
   by_cases hj:j=lo+x
   ·by_cases hi:i=j
    ·rw[hi];exact Fq _
    ·rw[hj]
     exact D7 (up i (lo+x-1) k1 (by lia) (by lia)) hb
   ·exact up i j k1 k2 (by lia)
 case post =>
  rintro c st' ⟨rfl,n,rfl,n1,n2,up,br⟩
  dsimp only
  by_cases c1:(n == m)=true
  ·rw[if_pos c1]
   exact Dz (h n st n1 n2 (SA.refl _ _) up)
  rw[if_neg c1]
  have nm:n<m:=by have:n≠m:=λz=>c1 (beq_iff_eq.mpr z);lia
  have br:=br nm
  by_cases c2:n>1
  case' pos =>
   rw[if_pos c2]
   refine Dq (gs C hκ hu (by lia) (by lia) ?_)
   dsimp only
   cases hro:O.blt (kk key (DE st) lo) (kk key (DE st) (lo+n-1))
   case' true =>
    rw[if_pos rfl]
    exact Dz (h n st n1 n2 (SA.refl _ _) up)
   rw[if_neg (by simp)]
   have eqs:∀k,lo<=k->k<lo+n->kk key (DE st) k=kk key (DE st) (lo+n-1):=λk k1 k2 =>
    Kr (up k (lo+n-1) k1 (by lia) (by lia)) (D7 (show O.kle (kk key (DE st) (lo+n-1)) (kk key (DE st) lo) from hro) (up lo k (C0 _) k1 k2))
   rw[Im]
   refine Dq (F1 ?_)
   have sa:=(SA.refl lo st).mirror (i:=lo) (j:=lo+n) (C0 _) (by lia)
   have ke:=fg (key:=key) (xs:=DE st) (i:=lo) (j:=lo+n) (by lia) eqs
   have ka:∀k,kk key (DE (setArr st (mirror (DE st) lo (lo+n) ((lo+n-lo)/2)))) k=kk key (DE st) k:=ke
   generalize setArr st (mirror (DE st) lo (lo+n) ((lo+n-lo)/2))=st1 at sa ka ⊢
   clear ke
  case' neg =>
   rw[if_neg c2]
   have eqs:∀k,lo<=k->k<lo+n->kk key (DE st) k=kk key (DE st) (lo+n-1):=λk k1 k2=>by rw[show k=lo+n-1 by lia]
   obtain ⟨st1,e1⟩:∃st1,st1=st:=⟨_,rfl⟩
   have sa:SA lo st st1:=by rw[e1];exact SA.refl _ _
   have ka:∀k,kk key (DE st1) k=kk key (DE st) k:=λk=>by rw[e1]
   rw[<- e1]
   clear e1
  all_goals
   refine Dq (Jz (Fi ⟨rfl,?_⟩))
   have dn:Down key (DE st1) lo (n+1):=λi j k1 k2 k3=>by
    rw[ka,ka]
    by_cases hj:j=lo+n
    ·by_cases hi:i=j
     ·rw[hi];exact Fq _
     ·rw[hj,eqs i k1 (by lia)]
      exact ET br
    ·rw[eqs i k1 (by lia),eqs j (by lia) (by lia)]
     exact Fq _
   clear eqs up br ka
   refine Dq (FI (EM (I:=λx c st'=>∃q,c=(none,x,q)/\x<=m/\SA lo st st'/\Down key (DE st') lo x/\q+1<=x/\∀k,lo+x-(q+1)<=k->k<lo+x->kk key (DE st') k=kk key (DE st') (lo+x-1))
    (Q:=λc st'=>∃x q,c=(none,x,q)/\1<=x/\x<=m/\SA lo st st'/\Down key (DE st') lo x/\q+1<=x/\∀k,lo+x-(q+1)<=k->k<lo+x->kk key (DE st') k=kk key (DE st') (lo+x-1)) ?step ?fin
    ⟨0,rfl,by lia,sa,dn,by lia,λk k1 k2=>by rw[show k=lo+(n+1)-1 by lia]⟩) ?post)
   case fin =>
    rintro c st' ⟨q,rfl,xm,sa,dn,hq,he⟩
    exact ⟨_,q,rfl,by lia,xm,sa,dn,hq,he⟩
   case step =>
    rintro x c st2 h1 h2 ⟨q,rfl,xm,sa2,dn2,hq,he⟩
    dsimp only
    have sz:=sa2.size
    have u2:∀p∈(DE st2).toList,U p:=λp hp=>hu p (sa2.mem hp)
    refine Dq (gs C (sa2.k.trans hκ) u2 (by lia) (by lia) ?_)
    dsimp only
    cases hb:O.blt (kk key (DE st2) (lo+x)) (kk key (DE st2) (lo+x-1)) with
    | true =>
     rw[if_pos rfl]
     have dn3:Down key (DE st2) lo (x+1):=λi j k1 k2 k3=>by
      by_cases hj:j=lo+x
      ·by_cases hi:i=j
       ·rw[hi];exact Fq _
       ·rw[hj];exact D7 (ET hb) (dn2 i (lo+x-1) k1 (by lia) (by lia))
      ·exact dn2 i j k1 k2 (by lia)
     by_cases q0:q>0
     ·rw[if_pos q0,Im]
      refine Dq (F1 (Dz ?_))
      have ke:=fg (key:=key) (xs:=DE st2) (i:=lo+x-(q+1)) (j:=lo+x) (by lia) he
      refine ⟨0,rfl,by lia,sa2.mirror (by lia) (by lia),λi j k1 k2 k3 =>?_,by lia,λk k1 k2=>by rw[show k=lo+(x+1)-1 by lia]⟩
      show O.kle (kk key (mirror (DE st2) (lo+x-(q+1)) (lo+x) ((lo+x-(lo+x-(q+1)))/2)) j) (kk key (mirror (DE st2) (lo+x-(q+1)) (lo+x) ((lo+x-(lo+x-(q+1)))/2)) i)
      rw[ke,ke]
      exact dn3 i j k1 k2 k3
     ·rw[if_neg q0]
      exact Dz ⟨0,rfl,by lia,sa2,dn3,by lia,λk k1 k2=>by rw[show k=lo+(x+1)-1 by lia]⟩
    | false =>
     rw[if_neg (by simp)]
     refine Dq (gs C (sa2.k.trans hκ) u2 (by lia) (by lia) ?_)
     dsimp only
     cases hb2:O.blt (kk key (DE st2) (lo+x-1)) (kk key (DE st2) (lo+x)) with
     | true =>
      rw[if_pos rfl]
      exact Dz ⟨x,q,rfl,by lia,xm,sa2,dn2,hq,he⟩
     | false =>
      rw[if_neg (by simp)]
      have eq:=Kr (show O.kle (kk key (DE st2) (lo+x)) (kk key (DE st2) (lo+x-1)) from hb2) hb
      refine Dz ⟨q+1,rfl,by lia,sa2,λi j k1 k2 k3 =>?_,by lia,λk k1 k2 =>?_⟩
      ·by_cases hj:j=lo+x
       ·by_cases hi:i=j
        ·rw[hi];exact Fq _
        ·rw[hj,eq];exact dn2 i (lo+x-1) k1 (by lia) (by lia)
       ·exact dn2 i j k1 k2 (by lia)
      ·rw[show lo+(x+1)-1=lo+x by lia,eq]
       by_cases hk:k=lo+x
       ·rw[hk,eq]
       ·exact he k (by lia) (by lia)
   case post =>
    rintro c st2 ⟨x,q,rfl,x1,xm,sa2,dn2,hq,he⟩
    dsimp only
    have sz:=sa2.size
    by_cases q0:q>0
    case' pos =>
     rw[if_pos q0,Im]
     refine Dq (F1 ?_)
     have ke:=fg (key:=key) (xs:=DE st2) (i:=lo+x-(q+1)) (j:=lo+x) (by lia) he
     have sa3:=sa2.mirror (i:=lo+x-(q+1)) (j:=lo+x) (by lia) (by lia)
     have dn3:Down key (DE (setArr st2 (mirror (DE st2) (lo+x-(q+1)) (lo+x) ((lo+x-(lo+x-(q+1)))/2)))) lo x:=λi j k1 k2 k3=>by
      show O.kle (kk key (mirror (DE st2) (lo+x-(q+1)) (lo+x) ((lo+x-(lo+x-(q+1)))/2)) j) (kk key (mirror (DE st2) (lo+x-(q+1)) (lo+x) ((lo+x-(lo+x-(q+1)))/2)) i)
      rw[ke,ke]
      exact dn2 i j k1 k2 k3
     generalize setArr st2 (mirror (DE st2) (lo+x-(q+1)) (lo+x) ((lo+x-(lo+x-(q+1)))/2))=st3 at sa3 dn3 ⊢
     clear ke
    case' neg =>
     rw[if_neg q0]
     obtain ⟨st3,e3⟩:∃st3,st3=st2:=⟨_,rfl⟩
     have sa3:SA lo st st3:=by rw[e3];exact sa2
     have dn3:Down key (DE st3) lo x:=by rw[e3];exact dn2
     rw[<- e3]
     clear e3
    all_goals
     rw[Im]
     refine Dq (F1 ?_)
     have sz3:=sa3.size
     have sa4:=sa3.mirror (i:=lo) (j:=lo+x) (C0 _) (by lia)
     have km:=mN (key:=key) (xs:=DE st3) (i:=lo) (j:=lo+x) (by lia)
     have up4:Up key (DE (setArr st3 (mirror (DE st3) lo (lo+x) ((lo+x-lo)/2)))) lo x:=λi j k1 k2 k3=>by
      show O.kle (kk key (mirror (DE st3) lo (lo+x) ((lo+x-lo)/2)) i) (kk key (mirror (DE st3) lo (lo+x) ((lo+x-lo)/2)) j)
      rw[km,km,if_pos ⟨by lia,by lia⟩,if_pos ⟨by lia,by lia⟩]
      exact dn3 _ _ (by lia) (by lia) (by lia)
     generalize setArr st3 (mirror (DE st3) lo (lo+x) ((lo+x-lo)/2))=st4 at sa4 up4 ⊢
     clear km
     have u4:∀p∈(DE st4).toList,U p:=λp hp=>hu p (sa4.mem hp)
     have sz4:=sa4.size
     refine Dq (FI (EM (I:=λz c st'=>st4=st'/\c=(none,z)/\z<=m/\Up key (DE st4) lo z)
      (Q:=λc st'=>st4=st'/\∃z,c=(none,z)/\1<=z/\z<=m/\Up key (DE st4) lo z) ?step ?fin ⟨rfl,rfl,xm,up4⟩) ?post)
     case fin =>
      rintro c st' ⟨rfl,rfl,zm,up⟩
      exact ⟨rfl,_,rfl,by lia,zm,up⟩
     case post =>
      rintro c st' ⟨rfl,z,rfl,z1,zm,up⟩
      exact Dz (h z st4 z1 zm sa4 up)
     case step =>
      rintro z c st' h1 h2 ⟨rfl,rfl,zm,up⟩
      dsimp only
      refine Dq (gs C (sa4.k.trans hκ) u4 (by lia) (by lia) ?_)
      dsimp only
      cases hb:O.blt (kk key (DE st4) (lo+z)) (kk key (DE st4) (lo+z-1)) with
      | true =>
       rw[if_pos rfl]
       exact Dz ⟨rfl,z,rfl,by lia,zm,up⟩
      | false =>
       rw[if_neg (by simp)]
       refine Dz ⟨rfl,rfl,by lia,λi j k1 k2 k3 =>?_⟩
       by_cases hj:j=lo+z
       ·by_cases hi:i=j
        ·rw[hi];exact Fq _
        ·rw[hj];exact D7 (up i (lo+z-1) k1 (by lia) (by lia)) hb
       ·exact up i j k1 k2 (by lia)
theorem mO {xs:Array Dy}{src d:Nat}(hs:src<xs.size)(hd:d<=src)(k:Nat) :
  kk key (bubble xs src d) k=if k=src-d then kk key xs src else if src-d<k/\k<=src then kk key xs (k-1) else kk key xs k:=by
 have e:=getElem?_bubble hs d hd k
 by_cases h1:k=src-d
 ·rw[if_pos h1] at e ⊢;exact iD e
 ·rw[if_neg h1] at e ⊢
  by_cases h2:src-d<k/\k<=src
  ·rw[if_pos h2] at e ⊢;exact iD e
  ·rw[if_neg h2] at e ⊢;exact iD e
theorem SA.bubble {lo:Nat}{st st':DR}(h:SA lo st st'){src d:Nat}(hs:src<(DE st').size)(hd:lo+d<=src):SA lo st (setArr st' (bubble (DE st') src d)) :=
 ⟨(bubble_perm _ _ _).trans h.perm,λk hk=>by
  show (PyProof.Rows.bubble (DE st') src d)[k]? = _
  rw[getElem?_bubble hs d (by lia),if_neg (by lia),if_neg (by lia)]
  exact h.pre k hk,h.k,h.p,h.f⟩
theorem xB (C:Cmp prog w A s O key U κ){st:DR}{lo n ok:Nat}{Q:Bool->DR->Prop}(hκ:kindOf st=κ)(hu:∀p∈(DE st).toList,U p)(hn:lo+n<=(DE st).size)(hok:ok<=n)(up:Up key (DE st) lo ok)
  (h:∀st',SA lo st st'->Up key (DE st') lo n->Q true st'):wpS (DG prog w) A E s (xk lo n ok) Q st:=by
 rw[xA]
 dsimp only
 refine Dq (FI (EM (I:=λx c st'=>c=(none,())/\SA lo st st'/\Up key (DE st') lo (min x n)) (Q:=λc st'=>c=(none,())/\SA lo st st'/\Up key (DE st') lo n) ?step ?fin ⟨rfl,SA.refl _ _,λi j k1 k2 k3 =>?_⟩) ?post)
 case post =>
  rintro c st' ⟨rfl,sa,up⟩
  exact Dz (h st' sa up)
 case fin =>
  rintro c st' ⟨rfl,sa,up⟩
  refine ⟨rfl,sa,?_⟩
  rw[show min (max (max ok 1) n) n=n by lia] at up
  exact up
 case step =>
  rintro k c st1 h1 h2 ⟨rfl,sa1,up1⟩
  rw[show min k n=k by lia] at up1
  have sz:=sa1.size
  have u1:∀p∈(DE st1).toList,U p:=λp hp=>hu p (sa1.mem hp)
  refine Dq (FI (EM (I:=λx c st'=>st1=st'/\∃l r,c=(none,l,r)/\l<=r/\r<=k/\r-l<=k-x/\(∀i,i<l->O.kle (kk key (DE st1) (lo+i)) (kk key (DE st1) (lo+k)))/\(∀i,r<=i->i<k->O.klt (kk key (DE st1) (lo+k)) (kk key (DE st1) (lo+i))))
   (Q:=λc st'=>st1=st'/\∃l r,c=(none,l,r)/\l<=k/\(∀i,i<l->O.kle (kk key (DE st1) (lo+i)) (kk key (DE st1) (lo+k)))/\(∀i,l<=i->i<k->O.klt (kk key (DE st1) (lo+k)) (kk key (DE st1) (lo+i)))) ?istep ?ifin ⟨rfl,0,k,rfl,by lia,by lia,by lia,λi hi=>by lia,λi a1 a2=>by lia⟩) ?ipost)
  case ifin =>
   rintro c st' ⟨rfl,l,r,rfl,b1,b2,b3,b4,b5⟩
   have e:l=r:=by lia
   subst e
   exact ⟨rfl,l,l,rfl,b2,b4,b5⟩
  case istep =>
   rintro x c st' _ hx ⟨rfl,l,r,rfl,b1,b2,b3,b4,b5⟩
   dsimp only
   by_cases hge:l≥r
   ·rw[if_pos hge]
    have e:l=r:=by lia
    subst e
    exact Dz ⟨rfl,l,l,rfl,b2,b4,b5⟩
   ·rw[if_neg hge]
    refine Dq (gs C (sa1.k.trans hκ) u1 (by lia) (by lia) ?_)
    dsimp only
    cases hb:O.blt (kk key (DE st1) (lo+k)) (kk key (DE st1) (lo+(l+r)/2)) with
    | true =>
     rw[if_pos rfl]
     exact Dz ⟨rfl,l,(l+r)/2,rfl,by lia,by lia,by lia,b4,λi a1 a2=>KeyOrd.klt_of_klt_of_kle hb (up1 _ _ (by lia) (by lia) (by lia))⟩
    | false =>
     rw[if_neg (by simp)]
     exact Dz ⟨rfl,(l+r)/2+1,r,rfl,by lia,by lia,by lia,λi a1=>D7 (up1 (lo+i) (lo+(l+r)/2) (by lia) (by lia) (by lia)) hb,b5⟩
  case ipost =>
   rintro c st' ⟨rfl,l,r,rfl,b2,b4,b5⟩
   dsimp only
   rw[moveDown'_eq]
   have e:lo+k-(lo+l)=k-l:=by lia
   refine Dq (F1 (Dz ⟨rfl,?_,?_⟩))
   ·rw[e]
    exact sa1.bubble (by lia) (by lia)
   ·rw[show min (k+1) n=k+1 by lia]
    intro i j k1 k2 k3
    show O.kle (kk key (bubble (DE st1) (lo+k) (lo+k-(lo+l))) i) (kk key (bubble (DE st1) (lo+k) (lo+k-(lo+l))) j)
    have lt:lo+k<(DE st1).size:=by lia
    rw[e,mO lt (by lia),mO lt (by lia),show lo+k-(k-l)=lo+l by lia]
    have b4':∀z,lo<=z->z<lo+l->O.kle (kk key (DE st1) z) (kk key (DE st1) (lo+k)):=λz z1 z2=>by
     have:=b4 (z-lo) (by lia)
     rw[show lo+(z-lo)=z by lia] at this
     exact this
    have b5':∀z,lo+l<=z->z<lo+k->O.kle (kk key (DE st1) (lo+k)) (kk key (DE st1) z):=λz z1 z2=>by
     have:=b5 (z-lo) (by lia) (by lia)
     rw[show lo+(z-lo)=z by lia] at this
     exact ET this
    repeat' split
    all_goals first
     | (exfalso;lia)
     | exact Fq _
     | exact b4' _ (by lia) (by lia)
     | exact b5' _ (by lia) (by lia)
     | exact up1 _ _ (by lia) (by lia) (by lia)
 ·by_cases h1:ok=0
  ·rw[show i=j by lia];exact Fq _
  ·exact up i j k1 k2 (by lia)
end
open PySem PyProof.Rows
def pwr:Nat->Nat->Nat->Nat->Nat:=sortPriv% PySem.Builtin.power
def mrn:Nat->Nat->Nat->Nat:=sortPriv% PySem.Builtin.minRun
theorem xC:Am=(do
    let sz:=(DE (← get)).size
    let mr:=mrn sz sz 0
    let mut lo:=0
    for _ in [0:sz] do
      if lo≥sz then break
      let some fd ← A9 lo (sz-lo)
        | return
      let mut n:=fd
      if n<mr then
        rule "list.sort.binary-insertion"
        let fo:=min (sz-lo) mr
        if !(← xk lo fo n) then return
        n:=fo
      if let some (s1,n1,_):=(DQ (← get)).back? then
        let pw:=pwr sz (2*s1+n1) (2*s1+n1+n1+n) sz
        for _ in [0:sz] do
          let p:=DQ (← get)
          let some (_,_,old):=(if p.size>1 then p[p.size-2]? else none)
            | break
          if old<=pw then break
          if !(← mAt (p.size-2)) then return
        modify λs=>SortSt.mk' (kindOf s) (DE s) ((DQ s).modify ((DQ s).size-1) λ(st,len,_)=>(st,len,pw)) (gallopOf s) (failedOf s)
      modify λs=>SortSt.mk' (kindOf s) (DE s) ((DQ s).push (lo,n,0)) (gallopOf s) (failedOf s)
      lo:=lo+n
    for _ in [0:sz] do
      let p:=DQ (← get)
      if p.size<=1 then break
      let i:=p.size-2
      let bf:=if i>0 then p[i-1]?.map (·.2.1) else none
      let i:=if bf.any (· < (p[i+1]?.elim 0 (·.2.1))) then i-1 else i
      if !(← mAt i) then return):=rfl
def Mt:Nat->List (List Dy)->List (Nat×Nat×Nat)->Prop
 | _,[],[]=>True
 | off,r :: rs,p :: ps=>p.1=off/\p.2.1=r.length/\Mt (off+r.length) rs ps
 | _,_,_=>False
theorem Mt.length:∀{off:Nat} {rs:List (List Dy)} {ps:List (Nat×Nat×Nat)},Mt off rs ps->ps.length=rs.length
 | _,[],[],_=>rfl
 | _,_ :: _,_ :: _,h=>by rw[DF,DF,Mt.length h.2.2]
theorem Mt.append:∀{off:Nat} {rs ts:List (List Dy)} {ps us:List (Nat×Nat×Nat)},Mt off rs ps->Mt (off+rs.flatten.length) ts us->Mt off (rs++ts) (ps++us)
 | _,[],_,[],_,_,h=>by simpa using h
 | off,r :: rs,ts,p :: ps,us,h,h'=>by
  refine ⟨h.1,h.2.1,Mt.append h.2.2 ?_⟩
  rw[FA,C1, <- Mb] at h'
  exact h'
theorem Mt.split:∀{off:Nat} {rs:List (List Dy)} {ps:List (Nat×Nat×Nat)} (i:Nat),Mt off rs ps->i+1<ps.length →
  ∃R1 X Y R2 L1 w1 w2 L2,rs=R1++X :: Y :: R2/\ps=L1++(off+R1.flatten.length,X.length,w1) :: (off+R1.flatten.length+X.length,Y.length,w2) :: L2/\L1.length=i/\Mt off R1 L1/\Mt (off+R1.flatten.length+X.length+Y.length) R2 L2
 | off,r :: r2 :: rs,p :: p2 :: ps,0,h,_=>by
  obtain ⟨a,b,w1⟩:=p
  obtain ⟨c,d,w2⟩:=p2
  obtain ⟨h1,h2,h3,h4,h5⟩:=h
  dsimp only at h1 h2 h3 h4
  subst h1 h2 h3 h4
  exact ⟨[],r,r2,rs,[],w1,w2,ps,rfl,rfl,rfl,trivial,h5⟩
 | off,r :: rs,p :: ps,i+1,h,hl=>by
  rw[DF] at hl
  obtain ⟨R1,X,Y,R2,L1,w1,w2,L2,e1,e2,e3,m1,m2⟩:=Mt.split i h.2.2 (by lia)
  have ea:off+(r :: R1).flatten.length=off+r.length+R1.flatten.length:=by rw[FA,C1];lia
  refine ⟨r :: R1,X,Y,R2,p :: L1,w1,w2,L2,by rw[e1];rfl,?_,by rw[DF,e3],⟨h.1,h.2.1,m1⟩,?_⟩
  ·rw[ea,e2];rfl
  ·rw[ea];exact m2
 | off,[],[],i,_,hl=>by simp at hl
 | off,[_],[_],0,_,hl=>by simp at hl
theorem Mt.modify (f:Nat×Nat×Nat->Nat×Nat×Nat)(hf:∀p,(f p).1=p.1/\(f p).2.1=p.2.1):∀{off:Nat} {rs:List (List Dy)} {ps:List (Nat×Nat×Nat)} (i:Nat),Mt off rs ps->Mt off rs (ps.modify i f)
 | _,[],[],i,_=>by cases i <;> exact trivial
 | off,r :: rs,p :: ps,0,h=>⟨(hf p).1.trans h.1,(hf p).2.trans h.2.1,h.2.2⟩
 | off,r :: rs,p :: ps,i+1,h=>⟨h.1,h.2.1,Mt.modify f hf i h.2.2⟩
theorem vy {α:Type}(l:List α)(a b c:α)(r:List α):((l++a :: b :: r).set l.length c).eraseIdx (l.length+1)=l++c :: r:=by
 induction l with
 | nil=>rfl
 | cons x l ih=>simp only[List.cons_append,DF,List.set_cons_succ,HK,ih]
section
variable  {O:IH}(key:Dy->O.α)(U:Dy->Prop)(κ:SortKind)
structure Rn (a0:List Dy)(lo:Nat)(st:DR):Prop where
 ex:∃runs rest,(DE st).toList=runs.flatten++rest/\runs.flatten.length=lo/\(∀r∈runs,r.Pairwise (Le key)/\0<r.length)/\Mt 0 runs (DQ st).toList
 perm:(DE st).toList.Perm a0
 k:kindOf st=κ
 f:failedOf st=none
end
section
variable  {prog:Dp}{w:DW}{A:Ec}{E:CU->CW->Prop}{s:CW}{O:IH}{key:Dy->O.α}{U:Dy->Prop}{κ:SortKind}
theorem pP (C:Cmp prog w A s O key U κ){a0:List Dy}{lo i:Nat}{st:DR}{Q:Bool->DR->Prop}(hu:∀p∈a0,U p)(R:Rn key κ a0 lo st)(hi:i+1<(DQ st).size)
  (h:∀st',Rn key κ a0 lo st'->(DQ st').size+1=(DQ st).size->(DE st').toList.drop lo=(DE st).toList.drop lo->Q true st'):wpS (DG prog w) A E s (mAt i) Q st:=by
 obtain ⟨runs,rest,ea,el,er,em⟩:=R.ex
 obtain ⟨R1,X,Y,R2,L1,w1,w2,L2,e1,e2,e3,m1,m2⟩:=Mt.split i em (by rw[C6];exact hi)
 subst e1
 rw[GF] at e2 m2
 have hx:=er X (by simp)
 have hy:=er Y (by simp)
 have ga:(DQ st)[i]? = some (R1.flatten.length,X.length,w1):=by
  rw[<- Dh,e2, <- e3,show L1.length=L1.length+0 by lia,rX];rfl
 have gb:(DQ st)[i+1]? = some (R1.flatten.length+X.length,Y.length,w2):=by
  rw[<- Dh,e2, <- e3,rX];rfl
 refine Bi C (P:=R1.flatten) (X:=X) (Y:=Y) (S:=R2.flatten++rest) R.k R.f (by rw[ea];simp) (λp hp=>hu p (R.perm.mem_iff.mp hp)) ga gb hx.2 hy.2 hx.1 hy.1 λst' M pm sm ar pd kd fl =>?_
 have lm:M.length=X.length+Y.length:=by rw[pm.length_eq,C1]
 have ep:(DQ st').toList=L1++(R1.flatten.length,X.length+Y.length,w1) :: L2:=by
  rw[pd,Array.toList_eraseIdxIfInBounds,IK,e2, <- e3]
  exact vy _ _ _ _ _
 refine h st' ⟨⟨R1++M :: R2,rest,?_,?_,λr hr =>?_,?_⟩,?_,kd,fl⟩ ?_ ?_
 ·rw[ar];simp
 ·rw[<- el];simp[lm];lia
 ·rcases Dd.mp hr with q | q
  ·exact er r (by simp[q])
  ·rcases Dm.mp q with q | q
   ·rw[q];exact ⟨sm,by have:=hx.2;lia⟩
   ·exact er r (by simp[q])
 ·rw[ep]
  refine Mt.append m1 ⟨by rw[GF],lm.symm,?_⟩
  rw[GF,lm, <- Mb]
  exact m2
 ·rw[ar]
  refine List.Perm.trans ?_ R.perm
  rw[ea,show (R1++X :: Y :: R2).flatten++rest=R1.flatten++((X++Y)++(R2.flatten++rest)) by simp]
  exact Fh _ (F7 _ pm)
 ·rw[<- C6, <- C6,ep,e2]
  simp only[C1,DF]
  lia
 ·have l1:(R1++M :: R2).flatten.length=lo:=by rw[<- el];simp[lm];lia
  have q1:(DE st').toList=(R1++M :: R2).flatten++rest:=by rw[ar];simp
  rw[q1,ea, <- l1,IY,l1, <- el,IY]
theorem Rn.sa {a0:List Dy}{lo:Nat}{st st':DR}(R:Rn key κ a0 lo st)(sa:SA lo st st'):Rn key κ a0 lo st':=by
 obtain ⟨runs,rest,ea,el,er,em⟩:=R.ex
 have et:(DE st').toList.take lo=runs.flatten:=by
  have e1:(DE st').toList.take lo=(DE st).toList.take lo:=by
   refine HV λi =>?_
   rw[EY,EY]
   split
   ·rw[Dh,Dh];exact sa.pre i (by assumption)
   ·rfl
  rw[e1,ea, <- el,L0]
 refine ⟨⟨runs,(DE st').toList.drop lo,by rw[<- et,E1],el,er,by rw[sa.p];exact em⟩,(IL.mp sa.perm).trans R.perm,sa.k.trans R.k,sa.f.trans R.f⟩
theorem vz {xs:Array Dy}{lo n:Nat}(h:Up key xs lo n):((xs.toList.drop lo).take n).Pairwise (Le key):=by
 refine Gp.mpr λi j hi hj hij =>?_
 have get:∀k (hk:k<((xs.toList.drop lo).take n).length),key ((xs.toList.drop lo).take n)[k]=kk key xs (lo+k)/\k<n:=λk hk=>by
  have hk':=hk
  rw[D6] at hk'
  refine ⟨?_,by lia⟩
  have e:((xs.toList.drop lo).take n)[k]? = xs[lo+k]? := by
   rw[EY,if_pos (by lia),GY,Dh]
  rw[CV hk] at e
  unfold kk
  rw[<- e];rfl
 obtain ⟨e1,l1⟩:=get i hi
 obtain ⟨e2,l2⟩:=get j hj
 show O.kle (key _) (key _)
 rw[e1,e2]
 exact h _ _ (by lia) (by lia) (by lia)
theorem Rn.push {a0:List Dy}{lo n:Nat}{st:DR}(R:Rn key κ a0 lo st)(hn:0<n)(hz:lo+n<=(DE st).size)(hs:(((DE st).toList.drop lo).take n).Pairwise (Le key)) :
  Rn key κ a0 (lo+n) (SortSt.mk' (kindOf st) (DE st) ((DQ st).push (lo,n,0)) (gallopOf st) (failedOf st)):=by
 obtain ⟨runs,rest,ea,el,er,em⟩:=R.ex
 have ed:(DE st).toList.drop lo=rest:=by rw[ea, <- el,IY]
 rw[ed] at hs
 have lr:n<=rest.length:=by
  have:=congrArg List.length ea
  rw[C6,C1,el] at this
  lia
 have lt:(rest.take n).length=n:=by rw[D6];lia
 refine ⟨⟨runs++[rest.take n],rest.drop n,?_,?_,λr hr =>?_,?_⟩,R.perm,R.k,R.f⟩
 ·show (DE st).toList=_
  rw[ea];simp
 ·simp[lt,el]
 ·rcases Dd.mp hr with q | q
  ·exact er r q
  ·have e:r=rest.take n:=by simpa using q
   rw[e];exact ⟨hs,by lia⟩
 ·show Mt 0 _ ((DQ st).push (lo,n,0)).toList
  rw[FC]
  exact Mt.append em ⟨by show lo=_;lia,lt.symm,trivial⟩
theorem Rn.mod {a0:List Dy}{lo:Nat}{st:DR}(R:Rn key κ a0 lo st)(i:Nat)(f:Nat×Nat×Nat->Nat×Nat×Nat)(hf:∀p,(f p).1=p.1/\(f p).2.1=p.2.1):Rn key κ a0 lo (SortSt.mk' (kindOf st) (DE st) ((DQ st).modify i f) (gallopOf st) (failedOf st)):=by
 obtain ⟨runs,rest,ea,el,er,em⟩:=R.ex
 refine ⟨⟨runs,rest,ea,el,er,?_⟩,R.perm,R.k,R.f⟩
 show Mt 0 runs ((DQ st).modify i f).toList
 rw[Array.toList_modify]
 exact Mt.modify f hf i em
theorem Bj {c:Prop}[Decidable c]{n:Nat}(h:1<n):(if c then n-2-1 else n-2)+1<n:=by split <;> omega
theorem mP:∀{runs:List (List Dy)},(∀r∈runs,0<r.length)->runs.length<=runs.flatten.length
 | [],_=>C0 _
 | r :: rs,h=>by
  have h1:=h r Dr
  have h2:=mP λq hq=>h q (Ds _ hq)
  rw[FA,C1,DF]
  lia
theorem xD (C:Cmp prog w A s O key U κ){a0:List Dy}{st:DR}{Q:Unit->DR->Prop}(hu:∀p∈a0,U p)(ha:(DE st).toList=a0)(hp:DQ st = #[])(hk:kindOf st=κ)(hf:failedOf st=none)(h1:1<=a0.length)
  (h:∀st',(DE st').toList.Perm a0->(DE st').toList.Pairwise (Le key)->failedOf st'=none->Q () st'):wpS (DG prog w) A E s Am Q st:=by
 rw[xC]
 refine Dq (Jc ?_)
 dsimp only
 have sz0:(DE st).size=a0.length:=by rw[<- C6,ha]
 have szR:∀{lo:Nat} {st':DR},Rn key κ a0 lo st'->(DE st').size=(DE st).size:=λR=>by rw[<- C6,R.perm.length_eq,sz0]
 have uR:∀{lo:Nat} {st':DR},Rn key κ a0 lo st'->∀p∈(DE st').toList,U p:=λR p hp=>hu p (R.perm.mem_iff.mp hp)
 have R0:Rn key κ a0 0 st:=⟨⟨[],a0,by rw[ha];rfl,rfl,λr hr=>(by cases hr),by rw[hp];exact trivial⟩,by rw[ha],hk,hf⟩
 refine Dq (FI (EM (I:=λx c st'=>∃lo,c=(none,lo)/\x<=lo/\lo<=(DE st).size/\Rn key κ a0 lo st') (Q:=λc st'=>c=(none,(DE st).size)/\Rn key κ a0 (DE st).size st') ?step ?fin ⟨0,rfl,C0 _,DS _,R0⟩) ?post)
 case fin =>
  rintro c st' ⟨lo,rfl,l1,l2,R⟩
  obtain rfl:lo=(DE st).size:=by lia
  exact ⟨rfl,R⟩
 case post =>
  rintro c st1 ⟨rfl,R⟩
  dsimp only
  have p0:(DQ st1).size<=(DE st).size:=by
   obtain ⟨runs,rest,ea,el,er,em⟩:=R.ex
   have q:=em.length
   rw[C6] at q
   have:=mP λr hr=>(er r hr).2
   lia
  refine Dq (FI (EM (I:=λx c st'=>c=(none,())/\Rn key κ a0 (DE st).size st'/\((DQ st').size<=1\/(DQ st').size+x<=(DE st).size)) (Q:=λc st'=>c=(none,())/\Rn key κ a0 (DE st).size st'/\(DQ st').size<=1) ?stepB ?finB ⟨rfl,R,.inr (by lia)⟩) ?postB)
  case finB =>
   rintro c st' ⟨rfl,R,q⟩
   exact ⟨rfl,R,by lia⟩
  case stepB =>
   rintro x c st' _ hx ⟨rfl,R,q⟩
   refine Dq (Jc ?_)
   by_cases c1:(DQ st').size<=1
   ·rw[if_pos c1]
    exact Dz ⟨rfl,R,c1⟩
   rw[if_neg c1]
   refine Dq (pP C hu R (Bj (by lia)) λst2 R2 s2 _ =>?_)
   simp only[EX,Dt,if_false]
   exact Dz ⟨rfl,R2,by lia⟩
  case postB =>
   rintro c st' ⟨rfl,R,q⟩
   obtain ⟨runs,rest,ea,el,er,em⟩:=R.ex
   have lm:=em.length
   rw[C6] at lm
   have lr:=congrArg List.length ea
   rw[C6,szR R,C1,el] at lr
   have er0:rest=[]:=FX.mp (by lia)
   subst er0
   rw[DU] at ea
   match runs,er,lm,el,ea with
   | [],_,_,el,_=>simp at el;lia
   | [r],er,_,_,ea =>
    have e:(DE st').toList=r:=by rw[ea];simp
    exact Dz (h st' R.perm (by rw[e];exact (er r (by simp)).1) R.f)
   | _ :: _ :: _,_,lm,_,_=>simp at lm;lia
 case step =>
  rintro x c st1 _ hx ⟨lo,rfl,l1,l2,R⟩
  dsimp only
  by_cases cl:lo≥(DE st).size
  ·rw[if_pos cl]
   obtain rfl:lo=(DE st).size:=by lia
   exact Dz ⟨rfl,R⟩
  rw[if_neg cl]
  have s1:=szR R
  refine Dq (zq C R.k (uR R) (by lia) (by lia) λn st2 n1 n2 sa2 up2 =>?_)
  dsimp only
  have R2:=R.sa sa2
  have s2:=szR R2
  by_cases cm:n<mrn (DE st).size (DE st).size 0
  case' pos =>
   rw[if_pos cm]
   refine Dq (Jz (Fi ⟨rfl,?_⟩))
   obtain ⟨fo,e⟩:∃fo,fo=min ((DE st).size-lo) (mrn (DE st).size (DE st).size 0):=⟨_,rfl⟩
   rw[<- e]
   refine Dq (xB C R2.k (uR R2) (by lia) (by lia) up2 λst3 sa3 up3 =>?_)
   simp only[EX,Dt,if_false]
   have R3:=R2.sa sa3
   have f0:0<fo:=by lia
   have f1:lo+fo<=(DE st).size:=by lia
  case' neg =>
   rw[if_neg cm]
   obtain ⟨fo,e⟩:∃fo,fo=n:=⟨_,rfl⟩
   subst e
   obtain ⟨st3,e3⟩:∃st3,st3=st2:=⟨_,rfl⟩
   subst e3
   have R3:=R2
   have up3:=up2
   have f0:0<fo:=n1
   have f1:lo+fo<=(DE st).size:=by lia
  all_goals
   have srt:=vz up3
   have s3:=szR R3
   refine Dq (Jc ?_)
   cases hbk:(DQ st3).back? with
   | none =>
    dsimp only
    exact Dq (F1 (Dz ⟨lo+fo,rfl,by lia,f1,R3.push f0 (by lia) srt⟩))
   | some t =>
    obtain ⟨t1,t2,t3⟩:=t
    dsimp only
    refine Dq (FI (EM (I:=λ_ c st'=>c=(none,())/\Rn key κ a0 lo st'/\(DE st').toList.drop lo=(DE st3).toList.drop lo) (Q:=λc st'=>c=(none,())/\Rn key κ a0 lo st'/\(DE st').toList.drop lo=(DE st3).toList.drop lo) ?stepC ?finC ⟨rfl,R3,rfl⟩) ?postC)
    case finC=>exact λc st' q=>q
    case stepC =>
     rintro z c st4 _ _ ⟨rfl,R4,d4⟩
     refine Dq (Jc ?_)
     by_cases p1:(DQ st4).size>1
     ·rw[if_pos p1]
      have lt:(DQ st4).size-2<(DQ st4).size:=by lia
      have e:(DQ st4)[(DQ st4).size-2]? = some (DQ st4)[(DQ st4).size-2]:=by simp[lt]
      rw[e]
      dsimp only
      split
      ·exact Dz ⟨rfl,R4,d4⟩
      ·refine Dq (pP C hu R4 (by lia) λst5 R5 _ d5 =>?_)
       simp only[EX,Dt,if_false]
       exact Dz ⟨rfl,R5,d5.trans d4⟩
     ·rw[if_neg p1]
      exact Dz ⟨rfl,R4,d4⟩
    case postC =>
     rintro c st4 ⟨rfl,R4,d4⟩
     dsimp only
     have s4:=szR R4
     refine Dq (F1 (Dq (F1 (Dz ⟨lo+fo,rfl,by lia,f1,?_⟩))))
     refine Rn.push ?_ f0 ?_ ?_
     ·refine Rn.mod R4 _ _ ?_
      exact λp=>⟨rfl,rfl⟩
     ·show lo+fo<=(DE st4).size
      lia
     ·show (((DE st4).toList.drop lo).take fo).Pairwise (Le key)
      rw[d4]
      exact srt
end
open PySem PyProof.Rows
structure iE (prog:Dp)(w:DW)(s:CW)(vs:List CU)(O:IH)(key:CU->O.α):Prop where
 ok:2<=vs.length->∀(A:Ec) (h6:Heap),(∀b o,s.heap.get? b=some o->h6.get? b=some o)->∃κ,(∀(Q:SortKind->CW->Prop) (E:CU->CW->Prop),Q κ { s with heap:=h6 }->Dn (DG prog w) A (keyKind' vs.toArray) Q E { s with heap:=h6 }) ∧
  Cmp prog w A { s with heap:=h6 } O (λp=>key p.1) (λp=>p.1=p.2/\p.1∈vs) κ
section
variable  {prog:Dp}{w:DW}{A:Ec}{E:CU->CW->Prop}{s:CW}{O:IH}{key:CU->O.α}
theorem zs:∀vs:List CU,(vs.zip vs).map (·.2)=vs
 | []=>rfl
 | v :: vs=>by rw[HH,DK,zs vs]
theorem pQ {l:List Dy}{vs:List CU}(h:l.Perm (vs.zip vs)):(l.map (·.2)).Perm vs/\∀p∈l,p.1=p.2/\p.1∈vs:=by
 have e:=zs vs
 refine ⟨by have:=h.map (·.2);rw[e] at this;exact this,λp hp =>?_⟩
 have m:=h.mem_iff.mp hp
 obtain ⟨i,hi⟩:=DL.mp m
 rw[IV] at hi
 have e1:=hi.1.symm.trans hi.2
 exact ⟨DB e1,C7 hi.1⟩
theorem eB {a:Addr}{vs:List CU}{n:Nat}{P:Fin->CW->Prop}(ho:s.heap.get? a=some (seqObj "list" vs.toArray n))(hz:vs.length<=Dl)
    (hc:2<=vs.length->∀h6,(∀b o,b≠a->s.heap.get? b=some o->h6.get? b=some o)->∃κ,(∀(Q:SortKind->CW->Prop) (E:CU->CW->Prop),Q κ { s with heap:=h6 }->Dn (DG prog w) A (keyKind' vs.toArray) Q E { s with heap:=h6 }) ∧
      Cmp prog w A { s with heap:=h6 } O (λp=>key p.1) (λp=>p.1=p.2/\p.1∈vs) κ)
    (h:∀out:List CU,out.Perm vs->out.Pairwise (λx y=>O.kle (key x) (key y))->P (.done (.ret .none)) { s with heap:=sortedHeap s.heap a vs out.toArray }):Dn (DG prog w) A (Builtin.«list.sort» ⟨[.ref a],[]⟩) P E s:=by
  rw[list_sort_plain]
  have ha:a<s.heap.objs.size:=Dc ho
  refine CP (Lo ho rfl ?_)
  refine CP (KY ho rfl ?_ (by rw[De];exact hz) (DS _))
  obtain ⟨e1,ho1⟩:∃e1,(s.heap.update a (EZ λ_ => #[])).get? a=some (seqObj "list" #[] e1):=⟨_,get?_update_seq ho (λ_ => #[])⟩
  refine CP (seqEpoch_at ho1 rfl (CP (wpAny_newTuple ?_ (by exact hz))))
  refine CP (Iv ?_ (DS _))
  refine Er ?_
  generalize hH:((s.heap.update a (EZ λ_ => #[])).push (seqObj "tuple" vs.toArray 0)).push (seqObj "list" #[] 0)=h6
  have kp:∀b o,b≠a->s.heap.get? b=some o->h6.get? b=some o:=λb o nb e=>by
    rw[<- hH]
    refine CQ _ (CQ _ ?_)
    rw[Ks _ _ _ _ nb]
    exact e
  have ho6:h6.get? a=some (seqObj "list" #[] e1):=by
    rw[<- hH]
    exact CQ _ (CQ _ ho1)
  have eH:∀out:List CU,sortedHeap s.heap a vs out.toArray=h6.update a (EZ λ_=>out.toArray):=λout=>by rw[<- hH];rfl
  have go:∀st':DR,(DE st').toList.Perm (vs.zip vs)->(DE st').toList.Pairwise (λp q=>O.kle (key p.1) (key q.1))->failedOf st'=none →
      Dn (DG prog w) A (do
        let sorted:=(DE st').map (·.2)
        let touched:=(← seqEpoch a) != e1
        Builtin.List.listUpdate (.ref a) λ_=>sorted
        if let some e:=failedOf st' then rule "list.sort.comparison-raised";throw e
        if touched then rule "list.sort.modified";raiseError "ValueError" "list modified during sort"
        ret .none) P E { s with heap:=h6 }:=by
    intro st' pm ps hf
    obtain ⟨z1,z2⟩:=pQ pm
    have em:(DE st').map (·.2)=((DE st').toList.map (·.2)).toArray:=by
      apply Lw.mp
      rw[Ij]
    dsimp only
    refine CP (seqEpoch_at ho6 rfl ?_)
    refine CP (KY ho6 rfl ?_ (DS _) (by rw[Eb, <- C6,pm.length_eq,LH,JW];lia))
    rw[hf]
    simp only[bne_self_eq_false,Dt,if_false]
    refine CT ?_
    rw[em, <- eH]
    refine h _ z1 (Ep.mpr (ps.imp_of_mem λ{p q} hp hq le =>?_))
    rw[<- (z2 p hp).1, <- (z2 q hq).1]
    exact le
  by_cases h2:vs.toArray.size<2
  · rw[if_pos h2,if_pos h2]
    refine CP (CT ?_)
    dsimp only
    rw[StateT.run_pure]
    refine CP (CT ?_)
    refine go (SortSt.mk' general' (vs.toArray.zip vs.toArray) #[] 7 none) (by show (vs.toArray.zip vs.toArray).toList.Perm _;simp) ?_ rfl
    rw[De] at h2
    have et:(vs.toArray.zip vs.toArray).toList=vs.zip vs:=by simp
    show (vs.toArray.zip vs.toArray).toList.Pairwise (λ(p q:Dy)=>O.kle (key p.1) (key q.1))
    rw[et]
    have short:∀us:List CU,us.length<2->(us.zip us).Pairwise (λ(p q:Dy)=>O.kle (key p.1) (key q.1)):=λus hu=>by
      match us,hu with
      | [],_=>exact List.Pairwise.nil
      | [v],_=>exact Fp _ _
      | _ :: _ :: _,hu=>simp only[DF] at hu;lia
    exact short vs h2
  · rw[if_neg h2,if_neg h2]
    rw[De] at h2
    obtain ⟨κ,k1,C⟩:=hc (by lia) h6 kp
    refine CP (k1 _ _ ?_)
    have et:(vs.toArray.zip vs.toArray).toList=vs.zip vs:=by simp
    refine CP (FG (xD C (E:=E) (a0:=vs.zip vs) (st:=SortSt.mk' κ (vs.toArray.zip vs.toArray) #[] 7 none)
      (Q:=λ_ st'=>(DE st').toList.Perm (vs.zip vs)/\(DE st').toList.Pairwise (Le λ(p:Dy)=>key p.1)/\failedOf st'=none)
      (pQ (Hn _)).2 et rfl rfl rfl (by rw[LH,JW];lia) λst' a1 a2 a3=>⟨a1,a2,a3⟩) ?_ λ_ _ e=>e)
    rintro ⟨⟨⟩,st'⟩ s' ⟨rfl,hp,hs,hf⟩
    exact go st' hp hs hf
def pS (prog:Dp)(w:DW)(s:CW)(v:CU)(vs:List CU):Prop :=
 ∀(A:Ec) (E:CU->CW->Prop) (R:List CU->CW->Prop),(∀h1,(∀b o,s.heap.get? b=some o->h1.get? b=some o)->s.heap.objs.size<=h1.objs.size->R vs { s with heap:=h1 })->Dn (DG prog w) A (collect v) R E s
theorem kN {v:CU}{vs:List CU}{Q:CU->CW->Prop}(hv:pS prog w s v vs)(hz:vs.length<=Dl)(C:iE prog w s vs O key)
  (h:∀(h':Heap) (p:Addr) (out:List CU) (n:Nat),(∀b o,s.heap.get? b=some o->h'.get? b=some o)->s.heap.objs.size<=p->h'.get? p=some (seqObj "list" out.toArray n)->out.Perm vs->out.Pairwise (λx y=>O.kle (key x) (key y))->Q (.ref p) { s with heap:=h' }) :
  Dn (DG prog w) A (call (.builtin "sorted") [v]) Q E s:=by
 refine Hq LS Lp Lq (Lr _) ?_
 unfold Builtin.«sorted»
 refine CP (m:=checkCount "sorted" 1 1 _) (CT ?_)
 refine CP (hv _ _ _ λh1 k1 z1=>CP (Iv ?_ hz))
 have hoL:(h1.push (seqObj "list" vs.toArray 0)).get? h1.objs.size=some (seqObj "list" vs.toArray 0):=C3 _ rfl
 have kL:∀b o,s.heap.get? b=some o->(h1.push (seqObj "list" vs.toArray 0)).get? b=some o:=λb o e=>CQ _ (k1 b o e)
 refine CP (Er (Ef slot_list_sort ⟨_,hoL,rfl⟩ entry_list_sort (eB (key:=key) (O:=O) hoL hz (λh2 h6 k6 =>?_) λout pm ps=>⟨_,rfl,?_⟩) (Kp _)))
 ·exact C.ok h2 _ h6 λb o e=>k6 b o (Dk (Dw (Dc e) z1)) (kL b o e)
 ·obtain ⟨n,en⟩:=KZ (out:=out.toArray) hoL
  refine CT ⟨_,rfl,h _ _ out n (λb o e =>?_) z1 en pm ps⟩
  have lt:=Dw (Dc e) z1
  rw[Kq (Dk lt) (by rw[Lj];exact D4 lt)]
  exact kL b o e
theorem iF {l:Addr}{o:Obj}{vs:List CU}{n:Nat}(ho:s.heap.get? l=some o)(hc:o.cls = .type "list" \/ o.cls = .type "tuple")(hd:o.data = .seq vs.toArray n)(hz:vs.length<=Dl):pS prog w s (.ref l) vs:=by
  intro A E R h
  unfold collect
  refine CP (GV (D2 entry_proto_collect' ?_))
  show Dn _ _ (do again (.builtin "list.__iadd__" ⟨[<- newList [],.ref l],[]⟩)) _ _ s
  refine CP (Iv (CT ⟨IQ _ (by decide +kernel),D2 entry_list_iadd' ?_⟩))
  show Dn _ _ (Ed (.ref s.heap.objs.size) (.ref l) (.ref s.heap.objs.size)) _ _ { s with heap:=s.heap.push (seqObj "list" #[] 0) }
  unfold Ed
  have ho':(s.heap.push (seqObj "list" #[] 0)).get? l=some o:=CQ _ ho
  have cond:∀T,o.cls = .type T->(T = "list" \/ T = "tuple")->Dn (DG prog w) A (typeOf (.ref l)) (λt s'=>t = .type T/\s'={ s with heap:=s.heap.push (seqObj "list" #[] 0) }) E { s with heap:=s.heap.push (seqObj "list" #[] 0) }:=λT e _=>Fx (T:=T) ⟨o,ho',e⟩ ⟨rfl,rfl⟩
  obtain ⟨T,eT,hT⟩:∃T,o.cls = .type T/\(T = "list" \/ T = "tuple"):=by
    rcases hc with hc | hc
    · exact ⟨_,hc,.inl rfl⟩
    · exact ⟨_,hc,.inr rfl⟩
  refine CP (Fx (T:=T) ⟨o,ho',eT⟩ ?_)
  rw[if_pos (by rcases hT with rfl | rfl <;> simp)]
  refine CP (Lo ho' hd ?_)
  refine CP (Lo (xs := #[]) (n:=0) (C3 _ rfl) rfl ?_)
  rw[if_neg (by simp)]
  refine CP (KY (xs := #[]) (n:=0) (C3 _ rfl) rfl ?_ (DS _) (by show (#[]++vs.toArray).size<=Dl+1;simp only[G7,De,FL];lia))
  refine CT ?_
  show Dn (DG prog w) A (do
      let o ← load s.heap.objs.size
      match o.data with
      | .seq xs _=>pure xs.toList
      | _=>unsupported "internal:collect") R E { s with heap:=(s.heap.push (seqObj "list" #[] 0)).update s.heap.objs.size (EZ (· ++ vs.toArray)) }
  refine CP (Jp (get?_update_seq (C3 _ rfl) _) ?_)
  show Dn _ _ (pure ((#[]:Array CU)++vs.toArray).toList) R E _
  rw[show ((#[]:Array CU)++vs.toArray).toList=vs by simp]
  refine CT (h _ (λb ob e =>?_) ?_)
  · rw[Ks _ _ _ _ (Dk (Dc e))]
    exact CQ _ e
  · rw[Heap.size_update,Lj]
    exact Jr _
end
open PySem PyProof.Rows
def rY:IH where
 α:=Int
 blt:=λa b=>decide (a<b)
 irrefl:=λa=>by simp
 trans:=λa b c h1 h2=>by simp at *;lia
 negTrans:=λa b c h=>by simp at *;lia
 total:=λa b h1 h2=>by simp at *;lia
theorem lex_irrefl:∀a,HT.lexLt a a=false
 | []=>rfl
 | x :: xs=>by rw[HT.dG,if_pos rfl];exact lex_irrefl xs
theorem lex_trans:∀a b c,HT.lexLt a b=true->HT.lexLt b c=true->HT.lexLt a c=true
 | [],[],_,h,_=>by cases h
 | [],_ :: _,[],_,h=>by cases h
 | [],_ :: _,_ :: _,_,_=>rfl
 | _ :: _,[],_,h,_=>by cases h
 | _ :: _,_ :: _,[],_,h=>by cases h
 | x :: xs,y :: ys,z :: zs,h1,h2=>by
  rw[HT.dG] at *
  by_cases e1:x=y
  ·subst e1
   rw[if_pos rfl] at h1
   by_cases e2:x=z
   ·rw[if_pos e2] at h2 ⊢
    exact lex_trans xs ys zs h1 h2
   ·rw[if_neg e2] at h2 ⊢
    exact h2
  ·rw[if_neg e1] at h1
   have l1:=of_decide_eq_true h1
   by_cases e2:y=z
   ·subst e2
    rw[if_neg e1]
    exact h1
   ·rw[if_neg e2] at h2
    have l2:=of_decide_eq_true h2
    rw[if_neg (by omega)]
    exact decide_eq_true (by omega)
theorem ji:∀a b,HT.lexLt a b=false->HT.lexLt b a=false->a=b
 | [],[],_,_=>rfl
 | [],_ :: _,h,_=>by cases h
 | _ :: _,[],_,h=>by cases h
 | x :: xs,y :: ys,h1,h2=>by
  rw[HT.dG] at *
  by_cases e:x=y
  ·subst e
   rw[if_pos rfl] at h1 h2
   rw[ji xs ys h1 h2]
  ·rw[if_neg e] at h1
   rw[if_neg (Ee e)] at h2
   have a1:=of_decide_eq_false h1
   have a2:=of_decide_eq_false h2
   omega
theorem zr (a b c:List Int)(h:HT.lexLt a c=true):HT.lexLt a b=true\/HT.lexLt b c=true:=by
 cases h1:HT.lexLt a b with
 | true=>exact .inl rfl
 | false =>
  right
  cases h2:HT.lexLt b a with
  | true=>exact lex_trans b a c h2 h
  | false=>rw[<- ji a b h1 h2];exact h
def lexOrd:IH where
 α:=List Int
 blt:=HT.lexLt
 irrefl:=lex_irrefl
 trans:=lex_trans
 negTrans:=zr
 total:=ji
def intOf:CU->Int
 | .int i _=>i
 | _=>0
section
variable  {prog:Dp}{w:DW}{A:Ec}{E:CU->CW->Prop}{s:CW}
theorem iG:∀{vs:List CU} {ns:List Int},FH vs ns->∀v∈vs,∃i t,v = .int i t
 | _,_,.nil,v,h=>by cases h
 | _,_,.cons n t r,v,h=>by
  rcases Dm.mp h with e | e
  ·exact ⟨n,t,e⟩
  ·exact iG r v e
theorem iH {vs:List CU}{ns:List Int}(hI:FH vs ns):iE prog w s vs rY intOf:=by
 refine ⟨λh2 A h6 _=>⟨oneType',λQ E q =>?_,⟨λE st x y Q hk hx hy q =>?_⟩⟩⟩
 ·match vs,h2,hI with
  | v1 :: v2 :: rest,_,hI =>
   rw[keyKind_ints hI]
   exact CT q
  | [],h2,_=>simp at h2
  | [_],h2,_=>simp at h2
 ·obtain ⟨i,t,e1⟩:=iG hI _ hx.2
  obtain ⟨j,u,e2⟩:=iG hI _ hy.2
  rw[lt'_eq]
  refine Dq (Jc ?_)
  rw[hk,keyLt'_oneType,e1,e2]
  refine Dq (Jz (FZ (oneLt_int ⟨rfl,?_⟩)))
  refine Dz ?_
  have q':Q (some (decide (intOf x.1<intOf y.1))) st:=q
  rw[e1,e2] at q'
  exact q'
def cM (h:Heap)(v:CU):List Int:=match v with
 | .ref p=>match h.get? p with
  | some o=>match o.data with
   | .seq xs _=>xs.toList.map intOf
   | _=>[]
  | none=>[]
 | _=>[]
def dJ (h:Heap)(v:CU)(ns:List Int):Prop:=∃p o xs n,v = .ref p/\h.get? p=some o/\o.cls = .type "tuple" /\ o.data = .seq xs n/\FH xs.toList ns
theorem ints_map:∀{vs:List CU} {ns:List Int},FH vs ns->vs.map intOf=ns
 | _,_,.nil=>rfl
 | _,_,.cons n t r=>by rw[DK,ints_map r];rfl
theorem dJ.ints {h:Heap}{v:CU}{ns:List Int}(x:dJ h v ns):cM h v=ns:=by
 obtain ⟨p,o,xs,n,rfl,e,_,d,r⟩:=x
 unfold cM
 dsimp only
 rw[e]
 dsimp only
 rw[d]
 exact ints_map r
theorem dJ.keeps {h h':Heap}{v:CU}{ns:List Int}(x:dJ h v ns)(k:∀b o,h.get? b=some o->h'.get? b=some o):dJ h' v ns:=by
 obtain ⟨p,o,xs,n,rfl,e,r⟩:=x
 exact ⟨p,o,xs,n,rfl,k _ _ e,r⟩
theorem pW {fin:Bool}{Q:Bool->CW->Prop}:∀{us ws:List CU} {ns ms:List Int} (i:Nat),FH us ns->FH ws ms->(fin=true↔(decide (ns.length<ms.length)=true))->Q (HT.lexLt ns ms) s →
  PySem.W.KatLex prog w A true fin Q (us.zip ws) i s
 | _,_,_,_,i,.nil,.nil,hf,q=>by
  refine JX ?_
  have e:fin=false:=by cases fin with
   | false=>rfl
   | true=>have:=hf.mp rfl;simp at this
  rw[e];exact q
 | _,_,_,_,i,.nil,.cons _ _ _,hf,q=>by
  refine JX ?_
  have e:fin=true:=hf.mpr (by simp)
  rw[e];exact q
 | _,_,_,_,i,.cons _ _ _,.nil,hf,q=>by
  refine JX ?_
  have e:fin=false:=by cases fin with
   | false=>rfl
   | true=>have:=hf.mp rfl;simp at this
  rw[e];exact q
 | _,_,_,_,i,.cons (ns:=ns) a t r,.cons (ns:=ms) c u r',hf,q=>by
  rw[HH]
  refine PySem.W.kat_cons (wpAny_eqBool_int ?_)
  rw[HT.dG] at q
  by_cases e:a=c
  ·rw[if_pos e] at q
   rw[beq_iff_eq.mpr e]
   exact PySem.W.kat_yes (pW (i+1) r r' (by rw[hf];simp) q)
  ·rw[if_neg e] at q
   rw[beq_eq_false_iff_ne.mpr e]
   refine PySem.W.kat_no ?_
   by_cases i0:(true && i == 0)=true
   ·rw[i0]
    exact oneLt_int q
   ·rw[F0.mpr i0,oneLt'_eq]
    simp only[Dt,if_false]
    refine CP (HT.pL _ _ a t c u prog w _ _ ?_)
    exact E5 q
theorem kO {h:Heap}:∀{vs:List CU},(∀v∈vs,∃ns,dJ h v ns/\ns≠[])->∃fs,PySem.W.KatTups h vs fs/\fs.length=vs.length/\∀f∈fs,∃i t,f = .int i t
 | [],_=>⟨[],trivial,rfl,λf hf=>by cases hf⟩
 | v :: vs,hv=>by
  obtain ⟨fs,t,l,hf⟩:=kO λu hu=>hv u (Ds _ hu)
  obtain ⟨ns,⟨p,o,xs,n,rfl,e,c,d,r⟩,ne⟩:=hv v Dr
  have hx:∃i t,xs[0]? = some (.int i t):=by
   rw[<- Dh]
   generalize xs.toList=l at r
   cases r with
   | nil=>exact absurd rfl ne
   | cons i t r=>exact ⟨i,t,rfl⟩
  obtain ⟨i,t',hx⟩:=hx
  exact ⟨.int i t' :: fs,Ml e c d hx t,by rw[DF,DF,l],λf hf'=>by
   rcases Dm.mp hf' with q | q
   ·exact ⟨i,t',q⟩
   ·exact hf f q⟩
theorem iI {vs:List CU}(hv:∀v∈vs,∃ns,dJ s.heap v ns/\ns≠[]):iE prog w s vs lexOrd (cM s.heap):=by
 refine ⟨λh2 A h6 k6=>⟨tuples' true,λQ E q =>?_,⟨λE st x y Q hk hx hy q =>?_⟩⟩⟩
 ·obtain ⟨fs,t,l,hf⟩:=kO (h:=h6) (vs:=vs) λv hv'=>by
   obtain ⟨ns,i,ne⟩:=hv v hv'
   exact ⟨ns,i.keeps k6,ne⟩
  refine PySem.W.kat_kind (T :=.type "int") t (by lia) (λf hf' =>?_) rfl q
  obtain ⟨i,t',rfl⟩:=hf f hf'
  exact Mi rfl
 ·obtain ⟨ns,i1,_⟩:=hv _ hx.2
  obtain ⟨ms,i2,_⟩:=hv _ hy.2
  have q':Q (some (HT.lexLt (cM s.heap x.1) (cM s.heap y.1))) st:=q
  rw[i1.ints,i2.ints] at q'
  obtain ⟨p1,o1,xs1,n1,e1,g1,c1,d1,r1⟩:=i1.keeps k6
  obtain ⟨p2,o2,xs2,n2,e2,g2,c2,d2,r2⟩:=i2.keeps k6
  rw[lt'_eq]
  refine Dq (Jc ?_)
  rw[hk,e1,e2]
  have l1:=r1.length
  have l2:=r2.length
  refine Dq (Jz (FZ (PySem.W.kat_lt g1 d1 g2 d2 (pW 0 r1 r2 ?_ ⟨rfl,?_⟩))))
  ·rw[<- l1, <- l2,C6,C6]
  ·exact Dz q'
end
end Srt
namespace L2
open PySem PySem.Spec PyProof.Rows
theorem kP {α β:Type}{f:α -> β}:∀{l:List β} {m:List α},l.Perm (m.map f)->∃m':List α,m'.Perm m/\l=m'.map f:=by
 intro l m h
 generalize hk:m.map f=k at h
 induction h generalizing m with
 | nil =>
  have:m=[]:=List.map_eq_nil_iff.mp hk
  exact ⟨[],by rw[this],rfl⟩
 | cons x _ ih =>
  match m,hk with
  | y :: m,hk =>
   rw[DK] at hk
   injection hk with h1 h2
   obtain ⟨m',p,e⟩:=ih h2
   exact ⟨y :: m',p.cons y,by rw[DK, <- e,h1]⟩
  | [],hk=>cases hk
 | swap x y l =>
  match m,hk with
  | a :: b :: m,hk =>
   rw[DK,DK] at hk
   injection hk with h1 h2
   injection h2 with h2 h3
   exact ⟨b :: a :: m,List.Perm.swap a b m,by rw[DK,DK,h1,h2,h3]⟩
  | [],hk=>cases hk
  | [_],hk=>simp at hk
 | trans _ _ ih1 ih2 =>
  obtain ⟨m',p,e⟩:=ih2 hk
  obtain ⟨m'',p',e'⟩:=ih1 e.symm
  exact ⟨m'',p'.trans p,e'⟩
theorem cE:∀{ns:List Int} {us:List CU},Vals (ns.map V.int) us->FH us ns:=λr=>intsAre_of r
theorem fj:∀{us:List CU} {ns:List Int},FH us ns->Vals (ns.map V.int) us:=λr=>jh r
theorem eJ:∀{us:List CU},(∀u∈us,∃i t,u=ES i t)->FH us (us.map Srt.intOf)
 | [],_ =>.nil
 | u :: us,h=>by
  obtain ⟨i,t,e⟩:=h u Dr
  subst e
  exact .cons i t (eJ λv hv=>h v (Ds _ hv))
theorem eL:∀{α:Type} {f:α -> Addr} {ps:List α} {us:List CU},Vals (ps.map λx=>V.ref (f x)) us->us=ps.map λx=>Dv (f x)
 | _,_,[],_,r=>by cases r;rfl
 | _,f,p :: ps,_,r=>by
  cases r with
  | cons h t=>rw[DK, <- eL t,show _=Dv (f p) from h]
theorem gu {α:Type}{f:α -> Addr}:∀{ps:List α},Vals (ps.map λx=>V.ref (f x)) (ps.map λx=>Dv (f x))
 | [] =>.nil
 | p :: ps =>.cons rfl gu
section
variable  {X:Cx}
theorem Inv.pX {pins:List (Addr×Obj)}{σ:St}{H:Hp}{s:CW}{p:Addr}{ys:List V}(I:Inv X pins σ H s)(h:SqL X.K H p ys\/SqT X.K H p ys) :
  ∃(its:List CU) (o:Obj) (n:Nat),Vals ys its/\s.heap.get? p=some o/\(o.cls = .type "list" \/ o.cls = .type "tuple")/\o.data = .seq its.toArray n/\ys.length<=Dl:=by
 rcases h with h | h
 ·obtain ⟨its,r,⟨o,n,e,c,_,d⟩,z⟩:=I.list h
  exact ⟨its,o,n,r,e,.inl c,d,z⟩
 ·obtain ⟨its,r,⟨o,e,c,n,d⟩,z⟩:=I.tuple h
  exact ⟨its,o,n,r,e,.inr c,d,z⟩
theorem Inv.newList {pins:List (Addr×Obj)}{σ:St}{H:Hp}{s:CW}{h':Heap}{p:Addr}{ys:List V}{its:List CU}{n:Nat}(I:Inv X pins σ H s)(k:∀b o,s.heap.get? b=some o->h'.get? b=some o)(hp:s.heap.objs.size<=p)
  (e:h'.get? p=some { cls :=.type "list",data :=.seq its.toArray n }) (r:Vals ys its) (hz:ys.length<=Dl):Inv X pins σ (upd H p (.lst ys)) { s with heap:=h' } :=
 I.laid (t':=s.toks) k hp ⟨hz,its,n,r,e⟩
theorem oa:bB X (.builtin "sorted") (λxs H Q=>∃(p:Addr) (ns:List Int),xs=[.ref p]/\(SqL X.K H p (ns.map V.int)\/SqT X.K H p (ns.map V.int))/\∀(l:Addr) (out:List Int),H l=none->out.Perm ns->out.Pairwise (· <= ·)->Q (.ref l) (upd H l (.lst (out.map V.int)))):=by
 intro pins s σ H xs us Q I r h
 obtain ⟨p,ns,rfl,hs,q⟩:=h
 obtain ⟨u,rfl,ru⟩:=vals1 r
 cases (show u=Dv p from ru)
 obtain ⟨its,o,n,rv,e,c,d,z⟩:=I.pX hs
 have hI:=cE rv
 have lz:its.length<=Dl:=by rw[<- rv.length];exact z
 refine Srt.kN (Srt.iF e c d lz) lz (Srt.iH hI) λh' l out m k hl el pm ps =>?_
 have hm:∀v∈out,∃i t,v=ES i t:=λv hv=>Srt.iG hI v (pm.mem_iff.mp hv)
 have hO:=eJ hm
 have pm':(out.map Srt.intOf).Perm ns:=by
  have:=pm.map Srt.intOf
  rw[Srt.ints_map hI] at this
  exact this
 refine ⟨.ref l,_,I.newList k hl el (fj hO) (by rw[CS,pm'.length_eq, <- CS (f:=V.int)];exact z),rfl,q l _ (I.hok.fresh hl) pm' ?_⟩
 refine Ep.mpr (ps.imp λ{x y} le =>?_)
 have le':decide (Srt.intOf y<Srt.intOf x)=false:=le
 have:=of_decide_eq_false le'
 lia
theorem og:bB X (.builtin "sorted") (λxs H Q=>∃(p:Addr) (ts:List (Addr×List Int)),xs=[.ref p]/\(SqL X.K H p (ts.map λt =>.ref t.1)\/SqT X.K H p (ts.map λt =>.ref t.1))/\(∀t∈ts,SqT X.K H t.1 (t.2.map V.int)/\t.2≠[]) ∧
  ∀(l:Addr) (out:List (Addr×List Int)),H l=none->out.Perm ts->out.Pairwise (λa b=>HT.lexLt b.2 a.2=false)->Q (.ref l) (upd H l (.lst (out.map λt =>.ref t.1)))):=by
 intro pins s σ H xs us Q I r h
 obtain ⟨p,ts,rfl,hs,ht,q⟩:=h
 obtain ⟨u,rfl,ru⟩:=vals1 r
 cases (show u=Dv p from ru)
 obtain ⟨its,o,n,rv,e,c,d,z⟩:=I.pX hs
 have ei:=eL rv
 have lz:its.length<=Dl:=by rw[<- rv.length];exact z
 have tup:∀t∈ts,Srt.dJ s.heap (Dv t.1) t.2:=λt hm=>by
  obtain ⟨jts,jr,⟨jo,je,jc,jn,jd⟩,_⟩:=I.tuple (ht t hm).1
  exact ⟨t.1,jo,_,jn,rfl,je,jc,jd,by simpa using cE jr⟩
 have hv:∀v∈its,∃ns,Srt.dJ s.heap v ns/\ns≠[]:=λv hv=>by
  rw[ei] at hv
  obtain ⟨t,hm,rfl⟩:=DH.mp hv
  exact ⟨t.2,tup t hm,(ht t hm).2⟩
 refine Srt.kN (Srt.iF e c d lz) lz (Srt.iI hv) λh' l out m k hl el pm ps =>?_
 rw[ei] at pm
 obtain ⟨out',pm',rfl⟩:=kP pm
 refine ⟨.ref l,_,I.newList k hl el gu (by rw[CS,pm'.length_eq, <- CS (f:=λt:Addr×List Int=>V.ref t.1)];exact z),rfl,q l _ (I.hok.fresh hl) pm' ?_⟩
 refine (Ep.mp ps).imp_of_mem λ{a b} ha hb le =>?_
 have le':HT.lexLt (Srt.cM s.heap (Dv b.1)) (Srt.cM s.heap (Dv a.1))=false:=le
 rw[(tup a (pm'.mem_iff.mp ha)).ints,(tup b (pm'.mem_iff.mp hb)).ints] at le'
 exact le'
end
open PySem PySem.Spec PyProof.Rows
def SB (r:Addr)(H H':Hp):Prop:=∀b u,b≠r->H b=some u->H' b=some u
theorem SB.refl (r:Addr)(H:Hp):SB r H H:=λ_ _ _ h=>h
theorem SB.trans {r:Addr}{H H1 H2:Hp}(a:SB r H H1)(b:SB r H1 H2):SB r H H2:=λc u n h=>b c u n (a c u n h)
theorem SB.put {r:Addr}{H:Hp}(o:HO):SB r H (upd H r o):=λc u n h=>by rw[ay n];exact h
def Tp (H H':Hp):Prop:=∀b xs,H b=some (.tup xs)->H' b=some (.tup xs)
theorem aA.tp {H H':Hp}(a:aA H H'):Tp H H':=λc u h=>a c _ h
def mnI (a b:Int):Int:=if b<a then b else a
def mxI (a b:Int):Int:=if b>a then b else a
def nrm (a b:Int):List Int:=[mnI a b,mxI a b]
theorem bL (a b:Int):nrm a b=nrm b a:=by
 have h1:mnI a b=mnI b a:=by unfold mnI;split <;> split <;> lia
 have h2:mxI a b=mxI b a:=by unfold mxI;split <;> split <;> lia
 unfold nrm
 rw[h1,h2]
open PySem PySem.Spec PyProof.Rows
section
variable  {X:Cx}{tg:Expr}
end
theorem pZ {X:Cx}{K:CZ}{x y:Str}{i j k:Nat}{p p' pos:Pos}(hN:X.N.Nodup)(hi:X.N[i]? = some x)(hj:X.N[j]? = some y)(hx:Loc X.env.scope x)(hy:Loc X.env.scope y)(hc:X.calm=true:=by rfl)(h:X.K=K:=by rfl)
  (hf:X.fn x=true\/X.env.scope.names.lookup x=some .local:=by first | exact .inl rfl | exact .inr rfl) (hg:X.fn y=true\/X.env.scope.names.lookup y=some .local:=by first | exact .inl rfl | exact .inr rfl):PG X (.Tuple [.Name x p,.Name y p'] k pos) (xf K i j):=by
 subst h
 exact dB hc (aR (au hN hi hx hf) (aR (au hN hj hy hg) cB))
end L2
namespace STab
open PySem PySem.SetTable
def oh (xs:Array Nat):Prop:=∀i j a b:Nat,xs[i]? = some a->xs[j]? = some b->i<j->a<b
theorem xE {xs:Array Nat}(R:oh xs)(j:Nat):∀(fuel lo hi:Nat),lo<=hi->hi<=xs.size->hi-lo<=fuel →
  (∀i a,i<lo->xs[i]? = some a->a<j)->(∀i a,hi<=i->xs[i]? = some a->j<=a) →
  below.go xs j fuel lo hi<=xs.size/\(∀i a,xs[i]? = some a->(i<below.go xs j fuel lo hi↔a<j)):=by
 intro fuel
 induction fuel with
 | zero =>
  intro lo hi h1 h2 h3 h4 h5
  unfold below.go
  refine ⟨by lia,λi a e=>⟨λq=>h4 i a q e,λq =>?_⟩⟩
  apply GR
  intro q2
  have:=h5 i a (by lia) e
  lia
 | succ fuel ih =>
  intro lo hi h1 h2 h3 h4 h5
  unfold below.go
  by_cases hl:lo<hi
  ·rw[if_pos hl]
   dsimp only
   have hm:(lo+hi)/2<xs.size:=by lia
   have em:xs[(lo+hi)/2]? = some xs[(lo+hi)/2]:=DD hm
   have eg:xs.getD ((lo+hi)/2) j=xs[(lo+hi)/2]:=by simp[Array.getD,hm]
   rw[eg]
   by_cases hc:xs[(lo+hi)/2]<j
   ·rw[if_pos hc]
    refine ih _ _ (by lia) h2 (by lia) (λi a q e =>?_) h5
    by_cases q2:i=(lo+hi)/2
    ·rw[q2,em] at e;cases e;exact hc
    ·exact Nat.lt_trans (R i _ _ _ e em (by lia)) hc
   ·rw[if_neg hc]
    refine ih _ _ (by lia) (by lia) (by lia) h4 (λi a q e =>?_)
    by_cases q2:i=(lo+hi)/2
    ·rw[q2,em] at e;cases e;lia
    ·have:=R _ i _ _ em e (by lia)
     lia
  ·rw[if_neg hl]
   refine ⟨by lia,λi a e=>⟨λq=>h4 i a q e,λq =>?_⟩⟩
   apply GR
   intro q2
   have:=h5 i a (by lia) e
   lia
theorem dM {xs:Array Nat}(R:oh xs)(j:Nat):below xs j<=xs.size/\∀i a,xs[i]? = some a->(i<below xs j↔a<j) :=
 xE R j _ _ _ (DS _) (C0 _) (by lia) (λi a h=>by lia) λi a h e=>by
  rw[F8 (by lia)] at e;cases e
theorem below_at {xs:Array Nat}(R:oh xs){i j:Nat}(h:xs[i]? = some j):below xs j=i:=by
 obtain ⟨h1,h2⟩:=dM R j
 have hi:i<xs.size:=by
  apply GR;intro q;rw[F8 q] at h;cases h
 have a1:¬ i<below xs j:=λq=>by have:=(h2 i j h).mp q;lia
 apply HN (by lia)
 apply Ih
 intro q
 have e:=DD (xs:=xs) (i:=below xs j) (by lia)
 have l1:=R _ _ _ _ e h q
 have:=(h2 _ _ e).mpr l1
 lia
theorem rZ {xs:Array Nat}(R:oh xs){i j:Nat}(h:xs[i]? = some j):below xs (j+1)=i+1:=by
 obtain ⟨h1,h2⟩:=dM R (j+1)
 have a1:i<below xs (j+1):=(h2 i j h).mpr (by lia)
 apply HN _ a1
 apply Ih
 intro q
 have hk:i+1<xs.size:=by lia
 have e:=DD (xs:=xs) hk
 have l1:=R _ _ _ _ h e (by lia)
 have:=(h2 _ _ e).mp q
 lia
theorem r6 {xs:Array Nat}(R:oh xs):below xs 0=0:=by
 obtain ⟨h1,h2⟩:=dM R 0
 apply HN _ (DS _)
 apply Ih
 intro q
 have:=(h2 0 _ (DD (by lia))).mp q
 lia
theorem bQ {α:Type}(xs:Array α)(p:Nat)(x:α):(insertAt xs p x).toList=xs.toList.take p++x :: xs.toList.drop p:=by
 unfold insertAt
 simp
 rw[Dj (by simp)]
theorem bX {α:Type}(xs:Array α){p:Nat}(hp:p<=xs.size)(x:α)(i:Nat) :
  (insertAt xs p x)[i]? = if i<p then xs[i]? else if i=p then some x else xs[i-1]? := by
 rw[<- Dh,bQ]
 have hl:(xs.toList.take p).length=p:=by rw[D6,C6];lia
 by_cases h1:i<p
 ·rw[if_pos h1,DC (by lia),EY,if_pos h1,Dh]
 ·rw[if_neg h1,DI (by lia),hl]
  by_cases h2:i=p
  ·rw[if_pos h2,h2,Lm];rfl
  ·rw[if_neg h2]
   obtain ⟨d,hd⟩:∃d,i-p=d+1:=⟨i-p-1,by lia⟩
   rw[hd,Fs,GY,Dh]
   congr 1;lia
theorem cf {α:Type}(xs:Array α)(p:Nat)(x:α):(insertAt xs p x).size=xs.size+1:=by
 rw[<- C6,bQ,C1,DF,D6,Ea,C6]
 lia
theorem insertAt_perm {α:Type}(xs:Array α)(p:Nat)(x:α):(insertAt xs p x).toList.Perm (x :: xs.toList):=by
 rw[bQ]
 exact Lu.trans (by rw[E1])
theorem fk {α β:Type}(xs:Array α)(p:Nat)(x:α)(f:α -> β):(insertAt xs p x).map f=insertAt (xs.map f) p (f x):=by
 apply Lw.mp
 rw[Ij,bQ,bQ,Ij,Dg,DK,GI,Gg]
theorem ma {xs:Array Nat}(R:oh xs){j:Nat}(hj:∀i:Nat,xs[i]? ≠ some j):oh (insertAt xs (below xs j) j):=by
 obtain ⟨h1,h2⟩:=dM R j
 intro a b x y ea eb hab
 rw[bX _ h1] at ea eb
 by_cases a1:a<below xs j
 ·rw[if_pos a1] at ea
  have:=(h2 _ _ ea).mp a1
  by_cases b1:b<below xs j
  ·rw[if_pos b1] at eb;exact R _ _ _ _ ea eb hab
  ·rw[if_neg b1] at eb
   by_cases b2:b=below xs j
   ·rw[if_pos b2] at eb;cases eb;exact this
   ·rw[if_neg b2] at eb
    exact R _ _ _ _ ea eb (by lia)
 ·rw[if_neg a1] at ea
  rw[if_neg (by lia),if_neg (by lia)] at eb
  have l1:¬ y<j:=λq=>by have:=(h2 _ _ eb).mpr q;lia
  by_cases a2:a=below xs j
  ·rw[if_pos a2] at ea;cases ea
   have:y≠j:=λq=>hj _ (q ▸ eb)
   lia
  ·rw[if_neg a2] at ea
   exact R _ _ _ _ ea eb (by lia)
def occ (t:SetTable)(j:Nat):Prop:=∃i:Nat,t.place[i]? = some j
theorem jj {t:SetTable}(R:oh t.place){i j:Nat}(h:t.place[i]? = some j):t.slot j = .live i:=by
 unfold SetTable.slot
 dsimp only
 rw[below_at R h,h]
 simp
theorem r9 {t:SetTable}(D:t.dummies = #[]){j:Nat}(h:¬ occ t j):t.slot j = .empty:=by
 unfold SetTable.slot
 dsimp only
 have h1:(t.place[below t.place j]? == some j)=false:=by
  rw[beq_eq_false_iff_ne];exact λq=>h ⟨_,q⟩
 rw[h1,D]
 simp[has]
def adv (mask:Nat)(p:Probe):Probe :=
 if p.more>0 then { p with j:=p.j+1,more:=p.more-1 } else
 let (i,perturb):=leap mask p.i p.perturb
 { p with j:=i,more:=runEnd mask i-i,i,perturb }
def cO (mask i perturb:Nat):Probe:={ j:=i,more:=runEnd mask i-i,i,perturb,dummy:=none }
def start (mask:Nat)(h:Int):Probe:=cO mask (bits h%(mask+1)) (bits h)
inductive Way (oc:Nat->Prop)(mask:Nat):Nat->Probe->Probe->Prop
 | here (p:Probe):Way oc mask 0 p p
 | step {n:Nat} {p q:Probe}:oc p.j->Way oc mask n (adv mask p) q->Way oc mask (n+1) p q
theorem Way.mono {oc oc':Nat->Prop}{mask n:Nat}{p q:Probe}(m:∀j,oc j->oc' j)(h:Way oc mask n p q):Way oc' mask n p q:=by
 induction h with
 | here p=>exact .here p
 | step a _ ih=>exact .step (m _ a) ih
theorem Way.dummy {oc:Nat->Prop}{mask n:Nat}{p q:Probe}(h:Way oc mask n p q):q.dummy=p.dummy:=by
 induction h with
 | here p=>rfl
 | @step n p q _ _ ih =>
  rw[ih];unfold adv;split <;> rfl
theorem Bk {mask:Nat}{p:Probe}(h:p.j+p.more<=mask):(adv mask p).j+(adv mask p).more<=mask:=by
 unfold adv
 split
 ·dsimp only;lia
 ·dsimp only[leap]
  have:(p.i*5+1+p.perturb/32)%(mask+1)<mask+1:=HW _ (Hz mask)
  unfold runEnd
  split <;> lia
theorem p9 (mask:Nat)(h:Int):(start mask h).j+(start mask h).more<=mask:=by
 unfold start cO
 dsimp only
 have:bits h%(mask+1)<mask+1:=HW _ (Hz mask)
 unfold runEnd
 split <;> lia
theorem Way.le {oc:Nat->Prop}{mask n:Nat}{p q:Probe}(h:Way oc mask n p q):p.j+p.more<=mask->q.j<=mask:=by
 induction h with
 | here p=>intro;lia
 | step _ _ ih=>intro h;exact ih (Bk h)
def oj (mask:Nat):Nat->Probe->Probe
 | 0,p=>p
 | n+1,p=>oj mask n (adv mask p)
theorem qa (mask:Nat):∀(a b:Nat) (p:Probe),oj mask (a+b) p=oj mask b (oj mask a p)
 | 0,b,p=>by rw[GF];rfl
 | a+1,b,p=>by rw[show a+1+b=(a+b)+1 by lia];exact qa mask a b (adv mask p)
theorem vA (oc:Nat->Prop)(mask:Nat):∀(n:Nat) (p:Probe),¬ oc (oj mask n p).j->∃k q,k<=n/\Way oc mask k p q/\¬ oc q.j:=by
 intro n
 induction n with
 | zero=>intro p h;exact ⟨0,p,C0 _,.here p,h⟩
 | succ n ih =>
  intro p h
  by_cases hp:oc p.j
  ·obtain ⟨k,q,a,b,c⟩:=ih (adv mask p) h
   exact ⟨k+1,q,by lia,.step hp b,c⟩
  ·exact ⟨0,p,DS _,.here p,hp⟩
theorem zt (mask:Nat):∀(m:Nat) (p:Probe),p.more=m->p.dummy=none->oj mask (m+1) p=cO mask (leap mask p.i p.perturb).1 (leap mask p.i p.perturb).2:=by
 intro m
 induction m with
 | zero =>
  intro p h d
  show adv mask p=_
  unfold adv
  rw[if_neg (by lia)]
  obtain ⟨j,mo,i,pe,dm⟩:=p
  cases d
  rfl
 | succ m ih =>
  intro p h d
  show oj mask (m+1) (adv mask p)=_
  have e:adv mask p={ p with j:=p.j+1,more:=p.more-1 }:=by unfold adv;rw[if_pos (by lia)]
  rw[e]
  exact ih _ (by dsimp only;lia) d
def cw (mask:Nat):Nat->Nat×Nat->Nat×Nat
 | 0,x=>x
 | k+1,x=>cw mask k (leap mask x.1 x.2)
theorem mQ (mask:Nat):∀(a b:Nat) (x:Nat×Nat),cw mask (a+b) x=cw mask b (cw mask a x)
 | 0,b,x=>by rw[GF];rfl
 | a+1,b,x=>by rw[show a+1+b=(a+b)+1 by lia];exact mQ mask a b _
theorem more_le (mask i:Nat):runEnd mask i-i<=9:=by unfold runEnd;split <;> lia
theorem sg (mask:Nat):∀(k i pe:Nat),∃n,n<=10*k/\oj mask n (cO mask i pe)=cO mask (cw mask k (i,pe)).1 (cw mask k (i,pe)).2:=by
 intro k
 induction k with
 | zero=>intro i pe;exact ⟨0,by lia,rfl⟩
 | succ k ih =>
  intro i pe
  obtain ⟨n,h1,h2⟩:=ih (leap mask i pe).1 (leap mask i pe).2
  refine ⟨(runEnd mask i-i+1)+n,by have:=more_le mask i;lia,?_⟩
  rw[qa,zt mask (runEnd mask i-i) (cO mask i pe) rfl rfl]
  exact h2
theorem gH (mask:Nat):∀(k i pe:Nat),(cw mask k (i,pe)).2=pe/32 ^ k
 | 0,i,pe=>by simp[cw]
 | k+1,i,pe=>by
  show (cw mask k (leap mask i pe)).2=_
  rw[show leap mask i pe=((leap mask i pe).1,pe/32) from rfl,gH mask k,Nat.div_div_eq_div_mul,Nat.pow_succ,Nat.mul_comm 32]
theorem qb (mask:Nat):∀(k i pe:Nat),i<=mask->(cw mask k (i,pe)).1<=mask
 | 0,i,pe,h=>h
 | k+1,i,pe,h=>by
  show (cw mask k (leap mask i pe)).1<=mask
  rw[show leap mask i pe=((leap mask i pe).1,pe/32) from rfl]
  exact qb mask k _ _ (Gv (HW _ (Hz mask)))
def ste (m i:Nat):Nat:=(i*5+1)%m
def its (m:Nat):Nat->Nat->Nat
 | 0,i=>i
 | n+1,i=>its m n (ste m i)
theorem j3 (m:Nat):∀(a b i:Nat),its m (a+b) i=its m b (its m a i)
 | 0,b,i=>by rw[GF];rfl
 | a+1,b,i=>by rw[show a+1+b=(a+b)+1 by lia];exact j3 m a b _
def orb (m:Nat):Nat->Nat->List Nat
 | 0,_=>[]
 | n+1,i=>i :: orb m n (ste m i)
theorem om (m:Nat):∀(n i j:Nat),j∈orb m n i->∃r,r<n/\its m r i=j
 | 0,i,j,h=>by cases h
 | n+1,i,j,h=>by
  rcases Dm.mp h with h | h
  ·exact ⟨0,by lia,h.symm⟩
  ·obtain ⟨r,a,b⟩:=om m n _ _ h
   exact ⟨r+1,by lia,b⟩
def whole (m:Nat):Bool:=((EF m).all λj=>(orb m m 0).contains j) && (its m m 0 == 0)
theorem vB {m:Nat}(h:whole m=true){i j:Nat}(hi:i<m)(hj:j<m):∃r,r<m/\its m r i=j:=by
 unfold whole at h
 rw[Ey,FR,beq_iff_eq] at h
 obtain ⟨h1,h2⟩:=h
 obtain ⟨a,a1,a2⟩:=om m m 0 i (JY.mp (h1 i (ED.mpr hi)))
 obtain ⟨b,b1,b2⟩:=om m m 0 j (JY.mp (h1 j (ED.mpr hj)))
 by_cases hab:a<=b
 ·refine ⟨b-a,by lia,?_⟩
  rw[<- a2, <- j3,show a+(b-a)=b by lia]
  exact b2
 ·refine ⟨m+b-a,by lia,?_⟩
  rw[<- a2, <- j3,show a+(m+b-a)=m+b by lia,j3,h2]
  exact b2
theorem Bl:whole 8=true:=by decide +kernel
theorem zu:whole 32=true:=by decide +kernel
theorem xF:whole 128=true:=by decide +kernel
theorem xG:whole 512=true:=by decide +kernel
def Msk (mask:Nat):Prop:=mask=7\/mask=31\/mask=127\/mask=511
theorem Msk.whole {mask:Nat}(h:Msk mask):whole (mask+1)=true:=by
 rcases h with rfl | rfl | rfl | rfl
 ·exact Bl
 ·exact zu
 ·exact xF
 ·exact xG
theorem mR (mask:Nat):∀(r i:Nat),cw mask r (i,0)=(its (mask+1) r i,0)
 | 0,i=>rfl
 | r+1,i=>by
  show cw mask r (leap mask i 0)=_
  rw[show leap mask i 0=(ste (mask+1) i,0) from rfl,mR mask r];rfl
theorem zv (h:Int):bits h<2 ^ 64:=by
 unfold bits
 have h1:=Gh h (show (0:Int)<2 ^ 64 by decide)
 have h0:=Gw h (show (2 ^ 64:Int)≠0 by decide)
 have:((2 ^ 64:Nat):Int)=2 ^ 64:=by decide
 lia
theorem kQ {mask:Nat}(hm:Msk mask){h:Int}{j:Nat}(hj:j<=mask):∃k,k<turns mask/\(cw mask k (bits h%(mask+1),bits h)).1=j:=by
 have p0:(cw mask 13 (bits h%(mask+1),bits h)).2=0:=by
  rw[gH]
  exact Nat.div_eq_of_lt (Dw (zv h) (by decide))
 have i0:=qb mask 13 (bits h%(mask+1)) (bits h) (Gv (HW _ (Hz mask)))
 obtain ⟨r,r1,r2⟩:=vB hm.whole (i:=(cw mask 13 (bits h%(mask+1),bits h)).1) (j:=j) (by lia) (by lia)
 refine ⟨13+r,by unfold turns;lia,?_⟩
 rw[mQ,show cw mask 13 (bits h%(mask+1),bits h)=((cw mask 13 (bits h%(mask+1),bits h)).1,0) from KG rfl p0,mR]
 exact r2
theorem xH {mask:Nat}(hm:Msk mask)(oc:Nat->Prop)(h:Int){j:Nat}(hj:j<=mask)(he:¬ oc j):∃n q,n<10*turns mask/\Way oc mask n (start mask h) q/\¬ oc q.j/\q.j<=mask/\q.dummy=none:=by
 obtain ⟨k,k1,k2⟩:=kQ hm (h:=h) hj
 obtain ⟨n,n1,n2⟩:=sg mask k (bits h%(mask+1)) (bits h)
 obtain ⟨n',q,a,b,c⟩:=vA oc mask n (start mask h) (by
  show ¬ oc (oj mask n (cO mask _ _)).j
  rw[n2]
  show ¬ oc (cw mask k (bits h%(mask+1),bits h)).1
  rw[k2]
  exact he)
 exact ⟨n',q,by lia,b,c,b.le (p9 mask h),b.dummy⟩
theorem mW {mask n:Nat}(oc:Nat->Prop)(f:Nat->Nat)(hf:∀j,j<=mask->oc j->f j<n)(inj:∀i j,i<=mask->j<=mask->oc i->oc j->f i=f j->i=j)(hn:n<=mask):∃j,j<=mask/\¬ oc j:=by
 by_cases q:∃j,j<=mask/\¬ oc j
 ·exact q
 ·exfalso
  have all:∀j,j<=mask->oc j:=λj hj=>by
   by_cases o:oc j
   ·exact o
   ·exact absurd ⟨j,hj,o⟩ q
  have nd:((EF (mask+1)).map f).Nodup:=by
   unfold List.Nodup
   rw[Ep]
   refine HA (λ{a b} ha hb hab e=>hab (inj a b ?_ ?_ (all _ ?_) (all _ ?_) e)) (Lx)
   all_goals (rw[ED] at ha hb;lia)
  have:=Fb nd (l₂:=EF n) (λx hx=>by
   obtain ⟨j,hj,e⟩:=DH.mp hx
   rw[ED] at hj ⊢
   rw[<- e]
   exact hf j (by lia) (all j (by lia)))
  rw[CS,FF,FF] at this
  lia
open PySem PySem.SetTable
structure Tab (t:SetTable)(hs:Array Int):Prop where
 dm:t.dummies = #[]
 rise:oh t.place
 size:t.place.size=hs.size
 le:∀i j:Nat,t.place[i]? = some j->j<=t.mask
 msk:Msk t.mask
 fit:hs.size<=t.mask
 reach:∀(i j:Nat) (h:Int),t.place[i]? = some j->hs[i]? = some h->∃n q,Way (occ t) t.mask n (start t.mask h) q/\q.j=j
theorem eM {α:Type}{xs:Array α}{i:Nat}{a:α}(h:xs[i]? = some a):i<xs.size:=by
 apply GR;intro q;rw[F8 q] at h;cases h
theorem Tab.fill {t:SetTable}{hs:Array Int}(T:Tab t hs):t.fill=hs.size:=by
 unfold SetTable.fill;rw[T.dm,T.size];rfl
theorem Tab.fits {t:SetTable}{hs:Array Int}(T:Tab t hs):t.fits hs.size=true:=by
 unfold SetTable.fits
 rw[T.fill,T.size]
 simp[T.fit]
theorem Tab.ends {t:SetTable}{hs:Array Int}(T:Tab t hs)(h:Int):∃n q,n<10*turns t.mask/\Way (occ t) t.mask n (start t.mask h) q/\¬ occ t q.j/\q.j<=t.mask/\q.dummy=none:=by
 obtain ⟨j,hj,he⟩:=mW (mask:=t.mask) (n:=hs.size) (occ t) (λj=>below t.place j)
  (λj _ ⟨i,e⟩=>by show below t.place j<hs.size;rw[below_at T.rise e, <- T.size];exact eM e)
  (λi j _ _ ⟨a,ea⟩ ⟨b,eb⟩ e=>by
   have e':below t.place i=below t.place j:=e
   rw[below_at T.rise ea,below_at T.rise eb] at e'
   subst e'
   exact DB (ea.symm.trans eb)) T.fit
 exact xH T.msk (occ t) h hj he
theorem xI {t:SetTable}{hs:Array Int}(T:Tab t hs){H:Nat->Int}{h:Int}:∀(n:Nat) (p q:Probe) (fuel:Nat),Way (occ t) t.mask n p q->¬ occ t q.j->n<fuel->p.dummy=none →
  (SetTable.probe.go t H h fuel p=some (.empty q.j none)/\∀k r i,Way (occ t) t.mask k p r->t.place[i]? = some r.j->H i≠h) ∨
  (∃k r i,k<n/\Way (occ t) t.mask k p r/\t.place[i]? = some r.j/\H i=h/\SetTable.probe.go t H h fuel p=some (.candidate r.j i (adv t.mask r))/\Way (occ t) t.mask (n-k-1) (adv t.mask r) q/\(adv t.mask r).dummy=none
   /\ ∀k' r' i',k'<k->Way (occ t) t.mask k' p r'->t.place[i']? = some r'.j->H i'≠h):=by
 intro n
 induction n with
 | zero =>
  intro p q fuel W he hf hd
  cases W
  obtain ⟨fuel,rfl⟩:∃f,fuel=f+1:=⟨fuel-1,by lia⟩
  refine .inl ⟨?_,λk r i Wr er =>?_⟩
  ·unfold SetTable.probe.go
   rw[r9 T.dm he]
   dsimp only
   rw[hd]
  ·cases Wr with
   | here=>exact absurd ⟨i,er⟩ he
   | step a _=>exact absurd a he
 | succ n ih =>
  intro p q fuel W he hf hd
  obtain ⟨fuel,rfl⟩:∃f,fuel=f+1:=⟨fuel-1,by lia⟩
  cases W with
  | step a W =>
   obtain ⟨i,ei⟩:=a
   have hd':(adv t.mask p).dummy=none:=by rw[<- hd];unfold adv;split <;> rfl
   by_cases hh:H i=h
   ·refine .inr ⟨0,p,i,by lia,.here p,ei,hh,?_,W,hd',λk' r' i' hk=>by lia⟩
    unfold SetTable.probe.go
    rw[jj T.rise ei]
    dsimp only
    rw[if_pos (by rw[hh];exact beq_self_eq_true h)]
    rfl
   ·have e0:SetTable.probe.go t H h (fuel+1) p=SetTable.probe.go t H h fuel (adv t.mask p):=by
     conv=>lhs;unfold SetTable.probe.go
     rw[jj T.rise ei]
     dsimp only
     rw[if_neg (by rw[beq_iff_eq];exact hh)]
     rfl
    rcases ih (adv t.mask p) q fuel W he (by lia) hd' with ⟨r1,r2⟩ | ⟨k,r,i',k1,w1,e1,h1,g1,w2,d2,no⟩
    ·refine .inl ⟨e0.trans r1,λk r j Wr er =>?_⟩
     cases Wr with
     | here =>
      obtain rfl:i=j:=by
       have x:=below_at T.rise ei
       have y:=below_at T.rise er
       exact x.symm.trans y
      exact hh
     | step _ Wr=>exact r2 _ _ _ Wr er
    ·refine .inr ⟨k+1,r,i',by lia,.step ⟨i,ei⟩ w1,e1,h1,e0.trans g1,by rw[show n+1-(k+1)-1=n-k-1 by lia];exact w2,d2,λk' r' j hk Wr er =>?_⟩
     cases Wr with
     | here =>
      obtain rfl:i=j:=by
       have x:=below_at T.rise ei
       have y:=below_at T.rise er
       exact x.symm.trans y
      exact hh
     | step _ Wr=>exact no _ _ _ (by lia) Wr er
theorem qc {t:SetTable}{hs:Array Int}(T:Tab t hs){H:Nat->Int}{h:Int}{n:Nat}{p q:Probe}(W:Way (occ t) t.mask n p q)(he:¬ occ t q.j)(hn:n<10*turns t.mask)(hd:p.dummy=none) :
  (t.probe H h p=some (.empty q.j none)/\∀k r i,Way (occ t) t.mask k p r->t.place[i]? = some r.j->H i≠h) ∨
  (∃k r i,k<n/\Way (occ t) t.mask k p r/\t.place[i]? = some r.j/\H i=h/\t.probe H h p=some (.candidate r.j i (adv t.mask r))/\Way (occ t) t.mask (n-k-1) (adv t.mask r) q/\(adv t.mask r).dummy=none
   /\ ∀k' r' i',k'<k->Way (occ t) t.mask k' p r'->t.place[i']? = some r'.j->H i'≠h) :=
 xI T n p q _ W he hn hd
theorem Tab.xJ {t:SetTable}{hs:Array Int}(T:Tab t hs)(j:Nat):t.put j=({ t with place:=insertAt t.place (below t.place j) j },below t.place j):=by
 unfold SetTable.put
 dsimp only
 have:has t.dummies j=false:=by rw[T.dm];simp[has]
 rw[this]
 rfl
theorem Tab.put {t:SetTable}{hs:Array Int}(T:Tab t hs){h:Int}{n:Nat}{q:Probe}(W:Way (occ t) t.mask n (start t.mask h) q)(he:¬ occ t q.j)(hq:q.j<=t.mask)(hf:hs.size+1<=t.mask) :
  Tab { t with place:=insertAt t.place (below t.place q.j) q.j } (insertAt hs (below t.place q.j) h):=by
 have hp:=(dM T.rise q.j).1
 have hp':below t.place q.j<=hs.size:=by rw[<- T.size];exact hp
 have up:∀j,occ t j->occ { t with place:=insertAt t.place (below t.place q.j) q.j } j:=by
  rintro j ⟨i,e⟩
  by_cases l:i<below t.place q.j
  ·exact ⟨i,by show (insertAt _ _ _)[i]? = _;rw[bX _ hp,if_pos l];exact e⟩
  ·exact ⟨i+1,by show (insertAt _ _ _)[i+1]? = _;rw[bX _ hp,if_neg (by lia),if_neg (by lia)];exact e⟩
 refine ⟨T.dm,ma T.rise λi e=>he ⟨i,e⟩,?_,λi j e =>?_,T.msk,by rw[cf];exact hf,λi j h' e eh =>?_⟩
 ·show (insertAt _ _ _).size=_
  rw[cf,cf,T.size]
 ·have e':(insertAt t.place (below t.place q.j) q.j)[i]? = some j:=e
  rw[bX _ hp] at e'
  split at e'
  ·exact T.le _ _ e'
  ·split at e'
   ·cases e';exact hq
   ·exact T.le _ _ e'
 ·have e':(insertAt t.place (below t.place q.j) q.j)[i]? = some j:=e
  rw[bX _ hp] at e'
  rw[bX _ hp'] at eh
  by_cases l1:i<below t.place q.j
  ·rw[if_pos l1] at e' eh
   obtain ⟨n',q',w,eq⟩:=T.reach _ _ _ e' eh
   exact ⟨n',q',w.mono up,eq⟩
  ·rw[if_neg l1] at e' eh
   by_cases l2:i=below t.place q.j
   ·rw[if_pos l2] at e' eh
    cases e';cases eh
    exact ⟨n,q,W.mono up,rfl⟩
   ·rw[if_neg l2] at e' eh
    obtain ⟨n',q',w,eq⟩:=T.reach _ _ _ e' eh
    exact ⟨n',q',w.mono up,eq⟩
def ocw (owner:Array (Option Nat))(j:Nat):Prop:=∃k,owner[j]? = some (some k)
theorem Way.trans {oc:Nat->Prop}{mask n m:Nat}{p q r:Probe}(h:Way oc mask n p q)(h2:Way oc mask m q r):∃k,Way oc mask k p r:=by
 induction h with
 | here=>exact ⟨m,h2⟩
 | step a _ ih=>obtain ⟨k,w⟩:=ih h2;exact ⟨k+1,.step a w⟩
theorem oo (oc:Nat->Prop)(mask:Nat):∀(k:Nat) (p:Probe),k<=p.more->(∀k',k'<k->oc (p.j+k'))->Way oc mask k p { p with j:=p.j+k,more:=p.more-k }
 | 0,p,_,_ =>.here p
 | k+1,p,h,ho=>by
  have e:adv mask p={ p with j:=p.j+1,more:=p.more-1 }:=by unfold adv;rw[if_pos (by lia)]
  refine .step (ho 0 (by lia)) ?_
  rw[e]
  have:=oo oc mask k { p with j:=p.j+1,more:=p.more-1 } (by dsimp only;lia) λk' hk=>by
   have:=ho (k'+1) (by lia)
   rw[show p.j+(k'+1)=p.j+1+k' by lia] at this
   exact this
  dsimp only at this
  rw[show p.j+1+k=p.j+(k+1) by lia,show p.more-1-k=p.more-(k+1) by lia] at this
  exact this
theorem fL {owner:Array (Option Nat)}{mask j:Nat}(hs:owner.size=mask+1)(hj:j<=mask):(owner.getD j (some 0)).isNone=true↔¬ ocw owner j:=by
 have hl:j<owner.size:=by lia
 have e:owner[j]? = some owner[j]:=DD hl
 rw[show owner.getD j (some 0)=owner[j] by simp[Array.getD,hl]]
 unfold ocw
 rw[e]
 cases owner[j] with
 | none=>simp
 | some k=>simp
theorem mX {mask i:Nat}(h:i<=mask):runEnd mask i<=mask/\i<=runEnd mask i:=by
 unfold runEnd;split <;> lia
theorem vC {mask:Nat}{owner:Array (Option Nat)}(hs:owner.size=mask+1):∀(fuel i pe j:Nat),i<=mask->SetTable.layClean.free mask owner fuel i pe=some j →
  ¬ ocw owner j/\∃n q,Way (ocw owner) mask n (cO mask i pe) q/\q.j=j:=by
 intro fuel
 induction fuel with
 | zero=>intro i pe j hi h;unfold SetTable.layClean.free at h;cases h
 | succ fuel ih =>
  intro i pe j hi h
  unfold SetTable.layClean.free at h
  obtain ⟨r1,r2⟩:=mX hi
  have no:∀k,k<runEnd mask i+1-i->((owner.getD (i+k) (some 0)).isNone=false)->ocw owner (i+k):=λk hk e=>by
   by_cases o:ocw owner (i+k)
   ·exact o
   ·rw[(fL hs (by lia)).mpr o] at e;cases e
  cases hf:(EF (runEnd mask i+1-i)).find? λk=>(owner.getD (i+k) (some 0)).isNone with
  | some k =>
   rw[hf] at h
   dsimp only at h
   cases h
   rw[List.find?_range_eq_some] at hf
   obtain ⟨f1,f2,f3⟩:=hf
   rw[ED] at f2
   refine ⟨(fL hs (by lia)).mp f1,k,_,oo (ocw owner) mask k (cO mask i pe) (by show k<=runEnd mask i-i;lia) λk' hk =>?_,rfl⟩
   refine no k' (by lia) ?_
   have:=f3 k' hk
   simpa using this
  | none =>
   rw[hf] at h
   dsimp only at h
   rw[Jg] at hf
   have all:∀k,k<runEnd mask i+1-i->ocw owner (i+k):=λk hk=>no k hk (by simpa using hf k hk)
   obtain ⟨g1,n,q,w,eq⟩:=ih _ _ _ (Gv (HW _ (Hz mask))) h
   refine ⟨g1,?_⟩
   have w0:=oo (ocw owner) mask (runEnd mask i-i) (cO mask i pe) (C0 _) λk' hk=>all k' (by lia)
   have w1:Way (ocw owner) mask (n+1) { (cO mask i pe) with j:=(cO mask i pe).j+(runEnd mask i-i),more:=(cO mask i pe).more-(runEnd mask i-i) } q:=by
    refine .step (all (runEnd mask i-i) (by lia)) ?_
    have e:adv mask { (cO mask i pe) with j:=(cO mask i pe).j+(runEnd mask i-i),more:=(cO mask i pe).more-(runEnd mask i-i) }=cO mask (leap mask i pe).1 (leap mask i pe).2:=by
     unfold adv
     rw[if_neg (by show ¬ (runEnd mask i-i-(runEnd mask i-i))>0;lia)]
     rfl
    rw[e]
    exact w
   obtain ⟨k,w2⟩:=w0.trans w1
   exact ⟨k,q,w2,eq⟩
theorem vD {mask:Nat}{owner:Array (Option Nat)}(hs:owner.size=mask+1):∀(fuel i pe k:Nat),i<=mask->k<fuel->¬ ocw owner (cw mask k (i,pe)).1->∃j,SetTable.layClean.free mask owner fuel i pe=some j:=by
 intro fuel
 induction fuel with
 | zero=>intro i pe k _ h;lia
 | succ fuel ih =>
  intro i pe k hi hk he
  unfold SetTable.layClean.free
  obtain ⟨r1,r2⟩:=mX hi
  cases hf:(EF (runEnd mask i+1-i)).find? λk=>(owner.getD (i+k) (some 0)).isNone with
  | some k=>exact ⟨_,rfl⟩
  | none =>
   dsimp only
   rw[Jg] at hf
   cases k with
   | zero =>
    have h0:=hf 0 (by lia)
    have:(owner.getD (i+0) (some 0)).isNone=true:=(fL hs (by lia)).mpr he
    rw[this] at h0
    cases h0
   | succ k=>exact ih _ _ k (Gv (HW _ (Hz mask))) (by lia) he
structure Own (mask:Nat)(owner:Array (Option Nat))(hs:List Int):Prop where
 size:owner.size=mask+1
 cov:∀(k:Nat) (h:Int),hs[k]? = some h->∃j n q,owner[j]? = some (some k)/\Way (ocw owner) mask n (start mask h) q/\q.j=j
 bnd:∀j k:Nat,owner[j]? = some (some k)->k<hs.length
 inj:∀i j k:Nat,owner[i]? = some (some k)->owner[j]? = some (some k)->i=j
theorem Own.step {mask:Nat}(hm:Msk mask){owner:Array (Option Nat)}{hs:List Int}(O:Own mask owner hs)(h:Int)(hl:hs.length<=mask) :
  ∃j,SetTable.layClean.free mask owner (turns mask) (bits h%(mask+1)) (bits h)=some j/\Own mask (owner.setIfInBounds j (some hs.length)) (hs++[h]):=by
 obtain ⟨e,he,hne⟩:=mW (mask:=mask) (n:=hs.length) (ocw owner) (λj=>(owner.getD j none).getD 0)
  (λj _ ⟨k,ek⟩=>by
   have:=eM ek
   show (owner.getD j none).getD 0<_
   rw[show owner.getD j none=some k by rw[Ft,ek];rfl]
   exact O.bnd j k ek)
  (λi j _ _ ⟨a,ea⟩ ⟨b,eb⟩ q=>by
   have q':(owner.getD i none).getD 0=(owner.getD j none).getD 0:=q
   rw[show owner.getD i none=some a by rw[Ft,ea];rfl,show owner.getD j none=some b by rw[Ft,eb];rfl] at q'
   have q'':a=b:=q'
   subst q''
   exact O.inj i j a ea eb) hl
 have i0:bits h%(mask+1)<=mask:=Gv (HW _ (Hz mask))
 obtain ⟨k,k1,k2⟩:=kQ hm (h:=h) he
 obtain ⟨j,hj⟩:=vD O.size (turns mask) _ _ k i0 k1 (by rw[k2];exact hne)
 obtain ⟨hno,n,q,w,eq⟩:=vC O.size _ _ _ _ i0 hj
 have hjm:j<=mask:=by rw[<- eq];exact w.le (p9 mask h)
 have hjs:j<owner.size:=by rw[O.size];lia
 have ej:owner[j]? = some none:=by
  rw[DD hjs]
  cases ho:owner[j] with
  | none=>rfl
  | some k=>exact absurd ⟨k,by rw[DD hjs,ho]⟩ hno
 have get:∀i:Nat,(owner.setIfInBounds j (some hs.length))[i]? = if i=j then some (some hs.length) else owner[i]? := λi=>by
  rw[Array.getElem?_setIfInBounds]
  by_cases q:j=i
  ·rw[if_pos q,if_pos q.symm,if_pos hjs]
  ·rw[if_neg q,if_neg (Ee q)]
 have up:∀i,ocw owner i->ocw (owner.setIfInBounds j (some hs.length)) i:=by
  rintro i ⟨k,ek⟩
  refine ⟨k,?_⟩
  rw[get,if_neg (λq=>by rw[q,ej] at ek;cases ek)]
  exact ek
 refine ⟨j,hj,by rw[Jf];exact O.size,λk h' eh =>?_,λi k ek =>?_,λi i' k ei ei' =>?_⟩
 ·by_cases lk:k<hs.length
  ·rw[DC lk] at eh
   obtain ⟨j',n',q',a,b,c⟩:=O.cov k h' eh
   refine ⟨j',n',q',?_,b.mono up,c⟩
   rw[get,if_neg (λq=>by rw[q,ej] at a;cases a)]
   exact a
  ·rw[DI (by lia)] at eh
   have:k-hs.length=0:=by
    cases hk:k-hs.length with
    | zero=>rfl
    | succ m=>rw[hk] at eh;cases eh
   rw[this] at eh
   cases eh
   obtain rfl:k=hs.length:=by lia
   exact ⟨j,n,q,by rw[get,if_pos rfl],w.mono up,eq⟩
 ·rw[C1,D3]
  rw[get] at ek
  split at ek
  ·cases ek;lia
  ·have:=O.bnd _ _ ek;lia
 ·rw[get] at ei ei'
  by_cases q1:i=j
  ·by_cases q2:i'=j
   ·rw[q1,q2]
   ·rw[if_pos q1] at ei;rw[if_neg q2] at ei'
    cases ei
    have:=O.bnd _ _ ei';lia
  ·rw[if_neg q1] at ei
   by_cases q2:i'=j
   ·rw[if_pos q2] at ei'
    cases ei'
    have:=O.bnd _ _ ei;lia
   ·rw[if_neg q2] at ei'
    exact O.inj _ _ _ ei ei'
theorem qd {mask:Nat}(hm:Msk mask):∀(l:List Int) (owner:Array (Option Nat)) (hs:List Int),Own mask owner hs->hs.length+l.length<=mask+1 →
    ∃owner',l.foldl (λacc h=>do
      let (owner,k) ← acc
      let j ← SetTable.layClean.free mask owner (turns mask) (bits h%(mask+1)) (bits h)
      pure (owner.setIfInBounds j (some k),k+1)) (some (owner,hs.length))=some (owner',hs.length+l.length)/\Own mask owner' (hs++l)
  | [],owner,hs,O,_=>⟨owner,rfl,by rw[DU];exact O⟩
  | h :: l,owner,hs,O,hl=>by
    rw[DF] at hl
    obtain ⟨j,hj,O'⟩:=O.step hm h (by lia)
    obtain ⟨owner',e,O''⟩:=qd hm l _ _ O' (by rw[C1,D3];lia)
    refine ⟨owner',?_,by rw[DN] at O'';exact O''⟩
    rw[JR]
    have:(do
      let (owner,k) ← some (owner,hs.length)
      let j ← SetTable.layClean.free mask owner (turns mask) (bits h%(mask+1)) (bits h)
      pure (owner.setIfInBounds j (some k),k+1):Option (Array (Option Nat)×Nat))=some (owner.setIfInBounds j (some hs.length),(hs++[h]).length):=by
      show (SetTable.layClean.free mask owner (turns mask) (bits h%(mask+1)) (bits h)).bind _=_
      rw[hj,C1]
      rfl
    rw[this,e]
    rw[C1,D3,DF]
    congr 2
    lia
theorem qe {mask:Nat}(hm:Msk mask)(hs:Array Int)(hl:hs.size<=mask+1):∃owner,SetTable.layClean mask hs=some owner/\Own mask owner hs.toList:=by
  have O0:Own mask (Array.replicate (mask+1) none) []:=by
    refine ⟨by simp,λk h e=>by simp at e,λj k e =>?_,λi j k e =>?_⟩
    · rw[Jh] at e;split at e <;> cases e
    · rw[Jh] at e;split at e <;> cases e
  obtain ⟨owner,e,O⟩:=qd hm hs.toList _ [] O0 (by rw[FL,C6];lia)
  refine ⟨owner,?_,by rw[HL] at O;exact O⟩
  unfold SetTable.layClean
  rw[<- Array.foldl_toList]
  have e':hs.toList.foldl (λacc h=>do
      let (owner,k) ← acc
      let j ← SetTable.layClean.free mask owner (turns mask) (bits h%(mask+1)) (bits h)
      pure (owner.setIfInBounds j (some k),k+1)) (some (Array.replicate (mask+1) none,0))=some (owner,0+hs.toList.length):=e
  rw[e']
  rfl
theorem filterMap_get {α β:Type}{f:α -> Option β}:∀(l:List α),(∀x∈l,(f x).isSome=true)->∀i:Nat,(l.filterMap f)[i]? = l[i]?.bind f
 | [],_,i=>by simp
 | x :: l,h,i=>by
  obtain ⟨y,hy⟩:=Je.mp (h x Dr)
  rw[List.filterMap_cons_some hy]
  cases i with
  | zero=>simp[hy]
  | succ i =>
   rw[Fs,Fs]
   exact filterMap_get l (λz hz=>h z (Ds _ hz)) i
theorem zw {mask:Nat}(hm:Msk mask)(finger moves:Nat)(led plain:Bool)(es:Array (Int×CU))(hl:es.size<=mask) :
  ∃t order,SetTable.laid mask finger moves led plain (es.map (·.1))=some (t,order)/\order.toList.Perm (EF es.size)/\Tab t ((order.filterMap (es[·]?)).map (·.1))/\(order.filterMap (es[·]?)).toList.Perm es.toList/\t.led=led/\t.plain=plain/\t.mask=mask:=by
 obtain ⟨owner,e,O⟩:=qe hm (es.map (·.1)) (by rw[Eb];lia)
 refine ⟨_,_,by unfold SetTable.laid;rw[e];rfl,?_⟩
 generalize hlive:((EF (mask+1)).filterMap λj=>(owner.getD j none).map (j, ·))=live
 have mem:∀j k,(j,k)∈live↔owner[j]? = some (some k):=λj k=>by
  rw[<- hlive,HF]
  constructor
  ·rintro ⟨a,ha,ea⟩
   rw[Ft] at ea
   cases ho:owner[a]? with
   | none=>rw[ho] at ea;cases ea
   | some x =>
    rw[ho] at ea
    cases x with
    | none=>cases ea
    | some k'=>cases ea;exact ho
  ·intro ho
   refine ⟨j,?_,?_⟩
   ·rw[ED, <- O.size];exact eM ho
   ·rw[Ft,ho];rfl
 have pw:live.Pairwise (λa b=>a.1<b.1):=by
  rw[<- hlive,List.pairwise_filterMap]
  refine Mp (λ{a b} hab x hx y hy =>?_) JL
  have hx':x.1=a:=by cases ho:owner.getD a none with
   | none=>rw[ho] at hx;cases hx
   | some k=>rw[ho] at hx;cases hx;rfl
  have hy':y.1=b:=by cases ho:owner.getD b none with
   | none=>rw[ho] at hy;cases hy
   | some k=>rw[ho] at hy;cases hy;rfl
  rw[hx',hy'];exact hab
 have nd:(live.map (·.2)).Nodup:=by
  unfold List.Nodup
  rw[Ep]
  refine HA (λ{a b} ha hb hab q =>?_) pw
  have:=O.inj a.1 b.1 a.2 ((mem _ _).mp ha) (by rw[q];exact (mem _ _).mp hb)
  lia
 have hlen:(es.map (·.1)).toList.length=es.size:=by rw[C6,Eb]
 have perm:(live.map (·.2)).Perm (EF es.size):=by
  rw[Hj nd Lx]
  intro k
  rw[ED,DH]
  constructor
  ·rintro ⟨⟨j,k'⟩,hm',rfl⟩
   have:=O.bnd _ _ ((mem _ _).mp hm')
   rw[hlen] at this
   exact this
  ·intro hk
   obtain ⟨j,_,_,ej,_⟩:=O.cov k _ (CV (by rw[hlen];exact hk))
   exact ⟨(j,k),(mem _ _).mpr ej,rfl⟩
 have all:∀x∈live.map (·.2),(es[x]?).isSome=true:=λx hx=>by
  have:=(perm.mem_iff).mp hx
  rw[ED] at this
  rw[DD this];rfl
 have tl:(live.map (·.2)).toArray.toList=live.map (·.2):=rfl
 have ll:live.length=es.size:=by have:=perm.length_eq;rw[CS,FF] at this;exact this
 have fm:((live.map (·.2)).toArray.filterMap (es[·]?)).toList=(live.map (·.2)).filterMap (es[·]?):=by simp
 have fl:((live.map (·.2)).filterMap (es[·]?)).Perm es.toList:=by
  have p1:=perm.filterMap (es[·]?)
  have:(EF es.size).filterMap (es[·]?)=es.toList:=by
   apply HV
   intro i
   rw[filterMap_get _ (λx hx=>by rw[ED] at hx;rw[DD hx];rfl)]
   by_cases hi:i<es.size
   ·rw[Hv hi,Dh];rfl
   ·rw[Eu (by rw[FF];lia),Eu (by rw[C6];lia)];rfl
  rw[this] at p1
  exact p1
 refine ⟨perm,?_,by rw[fm];exact fl,rfl,rfl,rfl⟩
 have sz:(((live.map (·.2)).toArray.filterMap (es[·]?)).map (·.1)).size=es.size:=by
  rw[Eb, <- C6,fm,fl.length_eq,C6]
 have occ_of:∀j,ocw owner j->occ { mask:=mask,place:=(live.map (·.1)).toArray,dummies := #[],finger:=finger,led:=led,moves:=moves,plain:=plain } j:=by
  rintro j ⟨k,ek⟩
  obtain ⟨i,hi,ei⟩:=GJ ((mem j k).mpr ek)
  refine ⟨i,?_⟩
  show (live.map (·.1)).toArray[i]? = some j
  rw[DJ,C8,CV hi,ei]
  rfl
 refine ⟨rfl,λi j a b ea eb hij =>?_,?_,λi j ej =>?_,hm,by rw[sz];exact hl,λi j h ej eh =>?_⟩
 ·have ea':(live.map (·.1)).toArray[i]? = some a:=ea
  have eb':(live.map (·.1)).toArray[j]? = some b:=eb
  rw[DJ] at ea' eb'
  have pw':(live.map (·.1)).Pairwise (· < ·):=by rw[Ep];exact pw
  obtain ⟨hi,xi⟩:=C9.mp ea'
  obtain ⟨hj,xj⟩:=C9.mp eb'
  rw[<- xi, <- xj]
  exact Gp.mp pw' i j hi hj hij
 ·show (live.map (·.1)).toArray.size=_
  rw[sz,De,CS,ll]
 ·have ej':(live.map (·.1)).toArray[i]? = some j:=ej
  rw[DJ,C8] at ej'
  cases hx:live[i]? with
  | none=>rw[hx] at ej';cases ej'
  | some x =>
   rw[hx] at ej'
   cases ej'
   have:=eM ((mem x.1 x.2).mp (C7 hx))
   show x.1<=mask
   rw[O.size] at this
   lia
 ·have ej':(live.map (·.1)).toArray[i]? = some j:=ej
  rw[DJ,C8] at ej'
  cases hx:live[i]? with
  | none=>rw[hx] at ej';cases ej'
  | some x =>
   rw[hx] at ej'
   cases ej'
   have ho:=(mem x.1 x.2).mp (C7 hx)
   have hk:=O.bnd _ _ ho
   rw[KL, <- Dh,fm,filterMap_get _ all,C8,hx] at eh
   have eh':(es[x.2]?).map (·.1)=some h:=eh
   obtain ⟨j',n,q,a,b,c⟩:=O.cov x.2 h (by rw[Ij,C8,Dh];exact eh')
   obtain rfl:=O.inj _ _ _ ho a
   exact ⟨n,q,b.mono occ_of,c⟩
open PySem PySem.SetTable PyProof.Rows
section
variable  {prog:Dp}{w:DW}{A:Ec}{E:CU->CW->Prop}{s:CW}
abbrev TK (prog:Dp)(w:DW):=IsTupleKey (prog:=prog) (w:=w) (intKind prog w)
def cg (prog:Dp)(w:DW)(ks:List Int):Int:=tupleKeyHash (intKind prog w) ks
def aQ (es:Array (Int×CU))(ep:Nat)(t:SetTable):Obj:={ cls :=.type "set",dict:=none,data :=.set es ep t }
def ElT (prog:Dp)(w:DW)(h:Heap)(e:Int×CU)(ks:List Int):Prop:=∃b,e=(cg prog w ks,.ref b)/\TK prog w h ks b
theorem oq (d:Nat){v:CU}(h:carriedByValue v=true):ofAClassStatement d v=pure false:=by
 cases v with
 | ref a=>simp[carriedByValue] at h
 | _=>cases d <;> rfl
theorem iJ {ks:List Int}{b:Addr}{Q:Bool->CW->Prop}(hk:TK prog w s.heap ks b)(h:Q false s):Dn (DG prog w) A (ofAClassStatement 8 (.ref b)) Q E s:=by
 have hT:=hk.typeIs
 obtain ⟨o,items,n,ho,_,hd,hi⟩:=hk
 unfold ofAClassStatement
 refine CP (Fx hT ?_)
 dsimp only
 rw[if_pos (by decide)]
 refine CP (CT ?_)
 simp only[EX,Dt,if_false]
 refine CP (EE ho hd ?_)
 dsimp only
 refine CP ?_
 rw[<- KN]
 refine Hs _ (λrest r s'=>r.1=none/\s'=s/\∀v∈rest,carriedByValue v=true) _ ?_ ?_ _ _ ⟨rfl,rfl,hi.byValue⟩
 ·rintro v rest r s' ⟨hr,rfl,hall⟩
  rw[oq _ (hall v Dr)]
  refine CP (CT ?_)
  simp only[Dt,if_false]
  exact CT ⟨rfl,rfl,λu hu'=>hall u (Ds _ hu')⟩
 ·rintro ⟨r1,r2⟩ s' ⟨hr,rfl,_⟩
  simp only at hr
  subst hr
  exact CT h
theorem Bm {ks:List Int}{b:Addr}{vs:List CU}{Q:Bool->CW->Prop}(hk:TK prog w s.heap ks b)(hv:∀v∈vs,∃ks' b',v = .ref b'/\TK prog w s.heap ks' b')(h:Q false s) :
  Dn (DG prog w) A (searchCouldBeSeen (.ref b) vs) Q E s:=by
 unfold searchCouldBeSeen
 refine CP ?_
 refine Hs _ (λrest r s'=>r.1=none/\s'=s/\∀v∈rest,∃ks' b',v = .ref b'/\TK prog w s.heap ks' b') _ ?_ ?_ _ _ ⟨rfl,rfl,hv⟩
 ·rintro v rest r s' ⟨hr,rfl,hall⟩
  obtain ⟨ks',b',rfl,hk'⟩:=hall v Dr
  have go:∀u∈rest,∃ks' b',u = .ref b'/\TK prog w s'.heap ks' b':=λu hu'=>hall u (Ds _ hu')
  dsimp only
  split
  ·exact CT ⟨rfl,rfl,go⟩
  ·refine CP (Kc hk ?_)
   simp only[EX,Dt,if_false]
   refine CP (Kc hk' ?_)
   simp only[EX,Dt,if_false]
   refine CP (iJ hk ?_)
   simp only[Dt,if_false]
   refine CP (iJ hk' ?_)
   simp only[Dt,if_false]
   exact CT ⟨rfl,rfl,go⟩
 ·rintro ⟨r1,r2⟩ s' ⟨hr,rfl,_⟩
  simp only at hr
  subst hr
  exact CT h
theorem zx {m:Nat}(h:Msk m):(m%2 == 0)=false:=by rcases h with rfl | rfl | rfl | rfl <;> rfl
theorem bD {a:Addr}{es:Array (Int×CU)}{ep:Nat}{t:SetTable}{Q:(Array (Int×CU)×Nat×SetTable)->CW->Prop}(ho:s.heap.get? a=some (aQ es ep t))(T:Tab t (es.map (·.1)))(h:Q (es,ep,t) s) :
  Dn (DG prog w) A (setState a) Q E s:=wpAny_setState_of ho rfl (by have:=T.fits;rwa [Eb] at this) h
theorem sj (es:Array (Int×CU))(i:Nat)(e:Int×CU)(h:es[i]? = some e):(es.map (·.1))[i]? = some e.1:=by rw[KL,h];rfl
theorem Way.split {oc:Nat->Prop}{mask k:Nat}{p r:Probe}(h:Way oc mask k p r):∀{k':Nat} {r':Probe},Way oc mask k' p r'->k<=k'->Way oc mask (k'-k) r r':=by
 induction h with
 | here p=>intro k' r' h2 _;exact h2
 | @step n p q a _ ih =>
  intro k' r' h2 l
  cases h2 with
  | here=>lia
  | @step m _ _ _ h2=>rw[show m+1-(n+1)=m-n by lia];exact ih h2 (by lia)
theorem sk {a b:Addr}{es:Array (Int×CU)}{ep:Nat}{t:SetTable}{ks:List Int}{Q:SetFound->CW->Prop}(hu:A.units<cLine)(ho:s.heap.get? a=some (aQ es ep t))(T:Tab t (es.map (·.1)))
    (els:∀e∈es,∃ks',ElT prog w s.heap e ks') (hk:TK prog w s.heap ks b) {q:Probe} (he:¬ occ t q.j) :
    ∀(fuel n:Nat) (st:Option Probe) (p:Probe),st.getD (start t.mask (cg prog w ks))=p->Way (occ t) t.mask n p q->n<fuel->n<10*turns t.mask->p.dummy=none →
      ((∃(k:Nat) (r:Probe) (i:Nat) (e:Int×CU),Way (occ t) t.mask k p r/\t.place[i]? = some r.j/\es[i]? = some e/\ElT prog w s.heap e ks)->Q (.there none) s) →
      ((¬ ∃(k:Nat) (r:Probe) (i:Nat) (e:Int×CU),Way (occ t) t.mask k p r/\t.place[i]? = some r.j/\es[i]? = some e/\ElT prog w s.heap e ks)->Q (.free q.j false) s) →
      Dn (DG prog w) A (setSearchFrom a (.ref b) (cg prog w ks) true fuel st) Q E s:=by
  intro fuel
  induction fuel with
  | zero=>intro n st p _ _ h;omega
  | succ fuel ih =>
    intro n st p hst W hn hn2 hd hit mis
    unfold setSearchFrom
    refine CP (bD ho T ?_)
    dsimp only
    rw[show t.gaveWay=false from zx T.msk]
    simp only[Dt,if_false]
    rw[show st.getD (t.probeStart (cg prog w ks))=p from hst]
    rcases qc T (H:=λi=>(es[i]?.map (·.1)).getD 0) (h:=cg prog w ks) W he hn2 hd with ⟨g,no⟩ | ⟨k,r,i,k1,w1,e1,h1,g,w2,d2,no⟩
    · erw [g]
      dsimp only
      refine CT (mis ?_)
      rintro ⟨k,r,i,e,wr,er,ee,eb,rfl,_⟩
      refine no k r i wr er ?_
      show (es[i]?.map (·.1)).getD 0=_
      rw[ee]
      rfl
    · erw [g]
      dsimp only
      have hi:i<es.size:=by have:=eM e1;rw[T.size,Eb] at this;exact this
      have ee:es[i]? = some es[i]:=DD hi
      obtain ⟨ks',b',eq,hk'⟩:=els es[i] (K9 hi)
      rw[eq] at ee
      have hh:cg prog w ks'=cg prog w ks:=by
        have h1':(es[i]?.map (·.1)).getD 0=cg prog w ks:=h1
        rw[ee] at h1'
        exact h1'
      have tail:Dn (DG prog w) A (do
          let equal ← Jd [Dv b'] (eqBool (.ref b') (.ref b))
          let (es',_,t') ← setState a
          if (true && equal)=true then return .there none
          let some same:=t'.sameMemory t.moves t.mask | unsupported "set.changed-during-lookup:is-the-new-block-at-the-old-address"
          let still ← match (if same then t'.slot r.j else .empty) with
            | .live i'=>match es'[i']? with
              | some (_,y')=>do pure (if ← isSame y' (.ref b') then some i' else none)
              | none=>pure none
            | _=>pure none
          match still with
          | none=>rule "set.search.anew";setSearchFrom a (.ref b) (cg prog w ks) true fuel none
          | some i'=>if equal then return .there (some i') else setSearchFrom a (.ref b) (cg prog w ks) true fuel (some (adv t.mask r))) Q E s:=by
        refine CP (Er (K0 hu hk' hk ?_))
        refine CP (bD ho T ?_)
        dsimp only
        by_cases hks:ks'=ks
        · subst hks
          rw[decide_eq_true rfl]
          simp only[Bool.and_self,if_true]
          exact CT (hit ⟨k,r,i,_,w1,e1,ee,b',rfl,hk'⟩)
        · rw[decide_eq_false hks]
          simp only[IU,Dt,if_false]
          rw[show t.sameMemory t.moves t.mask=some true by unfold SetTable.sameMemory;simp]
          dsimp only
          simp only[if_true]
          rw[jj T.rise e1]
          dsimp only
          rw[ee]
          dsimp only
          refine CP (wpAny_isSame_ref_self (CP (CT ?_)))
          simp only[if_true]
          refine ih (n-k-1) _ _ rfl w2 (by omega) (by omega) d2 (λx=>hit ?_) λx=>mis λy=>x ?_
          · obtain ⟨k',r',i',e',a1,a2,a3,a4⟩:=x
            obtain ⟨k'',w''⟩:=w1.trans (.step ⟨i,e1⟩ a1)
            exact ⟨k'',r',i',e',w'',a2,a3,a4⟩
          · obtain ⟨k',r',i',e',a1,a2,a3,a4⟩:=y
            have hx:(es[i']?.map (·.1)).getD 0=cg prog w ks:=by
              obtain ⟨bb,rfl,_⟩:=a4
              rw[a3];rfl
            by_cases lt:k'<k
            · exact absurd hx (no k' r' i' lt a1 a2)
            · have w3:=w1.split a1 (by omega)
              cases hd3:k'-k with
              | zero =>
                rw[hd3] at w3
                cases w3
                obtain rfl:i=i':=(below_at T.rise e1).symm.trans (below_at T.rise a2)
                obtain ⟨bb,rfl,hbb⟩:=a4
                rw[ee] at a3
                injection a3 with a3
                injection a3 with a31 a32
                injection a32 with a32
                subst a32
                exact absurd (hk'.inj hbb) hks
              | succ m =>
                rw[hd3] at w3
                cases w3 with
                | step _ w3=>exact ⟨m,r',i',e',w3,a2,a3,a4⟩
      cases hl:t.led with
      | true =>
        simp only[EX,Dt,if_false]
        rw[ee]
        exact tail
      | false =>
        simp only[Ko,if_true]
        refine CP (Bm hk (λv hv =>?_) ?_)
        · obtain ⟨e',he',rfl⟩:=DH.mp hv
          obtain ⟨ks2,b2,e2,hk2⟩:=els e' (Array.mem_of_mem_filter (DT.mp he'))
          exact ⟨ks2,b2,by rw[e2],hk2⟩
        · simp only[Dt,if_false]
          rw[ee]
          exact tail
end
open PySem PySem.SetTable PyProof.Rows
section
variable  {prog:Dp}{w:DW}{A:Ec}{E:CU->CW->Prop}{s:CW}
def df (w:DW)(h:Heap)(a:Addr)(es:Array (Int×CU)):Prop :=
 ∃ep t,h.get? a=some (aQ es ep t)/\Tab t (es.map (·.1))/\es.size*5<t.mask*3/\t.led = !w.params.followText "set-order" /\ t.plain=true
theorem df.at {h h':Heap}{a:Addr}{es:Array (Int×CU)}(x:df w h a es)(e:∀o,h.get? a=some o->h'.get? a=some o):df w h' a es :=
 let ⟨ep,t,ho,r⟩:=x;⟨ep,t,e _ ho,r⟩
theorem qf {m n:Nat}(hm:Msk m)(h1:n*5<m*3)(h2:(n+1)*5≥m*3)(h3:n<300):Msk (sizeAbove (grown (n+1))-1)/\n+1<=sizeAbove (grown (n+1))-1/\(n+1)*5<(sizeAbove (grown (n+1))-1)*3/\sizeAbove (grown (n+1))<=512:=by
 have c:n=4\/n=18\/n=76:=by
  rcases hm with rfl | rfl | rfl | rfl <;> lia
 unfold Msk
 rcases c with rfl | rfl | rfl <;> decide
theorem mY:512<=Dl:=by rw[F6];lia
theorem iK {a:Addr}{es es':Array (Int×CU)}{ep:Nat}{t t':SetTable}{Q:Unit->CW->Prop}(ho:s.heap.get? a=some (aQ es ep t))(hz:es'.size<=512)
  (h:∀h',Heap.SameBut a s.heap h'->h'.get? a=some (aQ es' (ep+1) t')->Q () { s with heap:=h' }):Dn (DG prog w) A (storeSet a es' t') Q E s:=by
 refine wpAny_storeSet_of (o:=aQ es ep t) ho rfl ?_ (DZ hz mY)
 refine h _ (Hu s.heap a _) ?_
 have:=DV (Obj.putSet es' t') ho (by rw[putSet_of es' t' (o:=aQ es ep t) rfl];rfl)
 rw[putSet_of es' t' (o:=aQ es ep t) rfl] at this
 exact this
theorem Tab.tooFull {t:SetTable}{hs:Array Int}(T:Tab t hs):t.tooFull=decide (hs.size*5≥t.mask*3):=by
 unfold SetTable.tooFull;rw[T.fill]
theorem mZ {t:SetTable}{es:Array (Int×CU)}(T:Tab t (es.map (·.1))){n:Nat}(hn:es.size=n+1)(h1:n*5<t.mask*3)(h2:(n+1)*5≥t.mask*3)(h3:n<300) :
  ∃t' order,t.relaid (es.map (·.1)) (grown (n+1))=some (t',order)/\order.toList.Perm (EF es.size)/\Tab t' ((order.filterMap (es[·]?)).map (·.1))/\(order.filterMap (es[·]?)).toList.Perm es.toList/\t'.led=t.led/\t'.plain=t.plain/\(n+1)*5<t'.mask*3:=by
 obtain ⟨k1,k2,k3,k4⟩:=qf T.msk h1 h2 h3
 obtain ⟨t',order,e,pm,T',pe,l,p,m⟩:=zw k1 t.finger (t.movedTo (sizeAbove (grown (n+1))-1)) t.led t.plain es (by lia)
 exact ⟨t',order,e,pm,T',pe,l,p,by rw[m];exact k3⟩
theorem so {ks:List Int}{b:Addr}{Q:Bool->CW->Prop}(hk:TK prog w s.heap ks b)(h:Q true s):Dn (DG prog w) A (hashByValue 8 (.ref b)) Q E s:=by
 have hT:=hk.typeIs
 obtain ⟨o,items,n,ho,_,hd,hi⟩:=hk
 unfold hashByValue
 refine CP (FP hT F.slot_tuple_hash.lookup ?_)
 dsimp only
 refine CP (EE ho hd ?_)
 refine CP ?_
 show Dn _ _ (forIn items _ _) _ _ s
 rw[<- KN]
 have hall0:∀v∈items.toList,∃k t,v = .int k t:=by
  clear hd ho
  generalize items.toList=l at hi
  induction hi with
  | nil=>intro v hv;cases hv
  | cons h1 _ ih =>
   intro v hv
   rcases Dm.mp hv with rfl | hv
   ·obtain ⟨t,e⟩:=G5 h1;exact ⟨_,t,e⟩
   ·exact ih v hv
 refine Hs _ (λrest r s'=>r.1=none/\s'=s/\∀v∈rest,∃k t,v=ES k t) _ ?_ ?_ _ _ ⟨rfl,rfl,hall0⟩
 ·rintro v rest r s' ⟨hr,rfl,hall⟩
  obtain ⟨k,t,rfl⟩:=hall v Dr
  rw[show hashByValue 7 (.int k t)=pure true from rfl]
  refine CP (CT ?_)
  simp only[EX,Dt,if_false]
  exact CT ⟨rfl,rfl,λu hu'=>hall u (Ds _ hu')⟩
 ·rintro ⟨r1,r2⟩ s' ⟨hr,rfl,_⟩
  simp only at hr
  subst hr
  exact CT h
theorem zy {a b:Addr}{es:Array (Int×CU)}{ks:List Int}{Q:Bool->CW->Prop}(hu:A.units<cLine)(I:df w s.heap a es)(els:∀e∈es,∃ks',ElT prog w s.heap e ks')(hk:TK prog w s.heap ks b)(hz:es.size<300)
  (hin:(∃e∈es,ElT prog w s.heap e ks)->Q false s)
  (hnew:(¬ ∃e∈es,ElT prog w s.heap e ks)->∀h' es',Heap.SameBut a s.heap h'->df w h' a es'->es'.toList.Perm ((cg prog w ks,.ref b) :: es.toList)->Q true { s with heap:=h' }) :
  Dn (DG prog w) A (setAddHashed a (.ref b) (cg prog w ks)) Q E s:=by
 obtain ⟨ep,t,ho,T,rm,hl,hp⟩:=I
 unfold setAddHashed setAddHashedIn
 refine Er (CP (bD ho T ?_))
 dsimp only
 rw[show byScan (.ref b) es=false from rfl]
 simp only[Dt,if_false]
 obtain ⟨n,q,hn,W,he,hq,hd⟩:=T.ends (cg prog w ks)
 have hn':n<100000:=by
  have:t.mask<=511:=by rcases T.msk with e | e | e | e <;> lia
  unfold turns at hn
  lia
 unfold setSearch
 refine CP (sk hu ho T els hk he 100000 n none _ rfl W hn' hn rfl (λx =>?_) λx =>?_)
 ·obtain ⟨k,r,i,e,_,_,ee,el⟩:=x
  exact CT (hin ⟨e,Array.mem_of_getElem? ee,el⟩)
 ·have nx:¬ ∃e∈es,ElT prog w s.heap e ks:=by
   rintro ⟨e,he',el⟩
   obtain ⟨i,hi,ei⟩:=Array.getElem_of_mem he'
   have ee:es[i]? = some e:=by rw[DD hi,ei]
   have hpl:i<t.place.size:=by rw[T.size,Eb];exact hi
   obtain ⟨bb,rfl,hbb⟩:=el
   obtain ⟨k,r,w1,er⟩:=T.reach i _ _ (DD hpl) (sj es i _ ee)
   exact x ⟨k,r,i,_,w1,by rw[er];exact DD hpl,ee,bb,rfl,hbb⟩
  dsimp only
  refine CP (bD ho T ?_)
  dsimp only
  rw[T.xJ]
  dsimp only
  rw[hp]
  simp only[if_true]
  have hz':(es.map (·.1)).size+1<=t.mask:=by
   rw[Eb];have:=T.fit;rw[Eb] at this
   rcases T.msk with e | e | e | e <;> rw[e] at rm ⊢ <;> lia
  have T':=T.put W he hq hz'
  rw[<- fk es (below t.place q.j) (cg prog w ks,Dv b) (·.1),hp] at T'
  have sz:(insertAt es (below t.place q.j) (cg prog w ks,Dv b)).size=es.size+1:=cf _ _ _
  refine CP (so hk ?_)
  simp only[if_true]
  refine CP (iK ho (by rw[sz];lia) λh1 sb1 ho1 =>?_)
  have pm1:=insertAt_perm es (below t.place q.j) (cg prog w ks,Dv b)
  rw[T'.tooFull,Eb,sz]
  by_cases full:(es.size+1)*5≥t.mask*3
  ·rw[if_pos (by simpa using full)]
   unfold setRelay
   obtain ⟨t2,order,e2,pm2,T2,pe2,l2,p2,rm2⟩:=mZ T' sz (n:=es.size) (by simpa using rm) full hz
   obtain ⟨_,_,_,sa⟩:=qf T.msk rm full hz
   refine CP (CP (bD (s:={ s with heap:=h1 }) ho1 T' ?_))
   dsimp only
   rw[if_neg (Nat.not_lt.mpr (DZ sa mY))]
   rw[e2]
   have z2:(order.filterMap ((insertAt es (below t.place q.j) (cg prog w ks,Dv b))[·]?)).size=es.size+1:=by
    rw[<- C6,pe2.length_eq,C6,sz]
   refine CP ?_
   show Dn _ _ (if ((order.filterMap ((insertAt es (below t.place q.j) (cg prog w ks,Dv b))[·]?)).size != (insertAt es (below t.place q.j) (cg prog w ks,Dv b)).size)=true then _ else _) _ _ _
   rw[if_neg (by rw[z2,sz];simp)]
   refine CT ?_
   dsimp only
   refine iK (s:={ s with heap:=h1 }) ho1 (by rw[z2];lia) λh2 sb2 ho2 =>?_
   refine CT (hnew nx h2 _ (sb1.trans sb2) ⟨_,_,ho2,T2,by rw[z2];exact rm2,by rw[l2];exact hl,by rw[p2]⟩ (pe2.trans pm1))
  ·rw[if_neg (by simpa using full)]
   refine CT (hnew nx h1 _ sb1 ⟨_,_,ho1,T',?_,hl,rfl⟩ pm1)
   rw[sz]
   exact GR full
end
open PySem PySem.SetTable PyProof.Rows
section
variable  {prog:Dp}{w:DW}{A:Ec}{E:CU->CW->Prop}{s:CW}
def ElI (e:Int×CU)(k:Int):Prop:=∃t,e=(hashInt k,ES k t)
theorem vE {es:Array (Int×CU)}(els:∀e∈es,∃k,ElI e k):ElemsOf (intKind prog w) es.toList:=by
 intro e he
 obtain ⟨k,t,rfl⟩:=els e (DT.mp he)
 exact ⟨⟨k,Jq _ _ _ _,rfl⟩,rfl⟩
theorem vF {t:SetTable}{es:Array (Int×CU)}(T:Tab t (es.map (·.1)))(h:Int)(x:CU){n:Nat}{q:Probe}(hn:n<10*turns t.mask)(W:Way (occ t) t.mask n (start t.mask h) q)(he:¬ occ t q.j)(hq:q.j<=t.mask)(hz:es.size+1<=t.mask) :
  layNew t es h x=(insertAt es (below t.place q.j) (h,x),{ t with place:=insertAt t.place (below t.place q.j) q.j },false,false):=by
 have hf:t.freeSlot h=some (q.j,false):=by
  unfold SetTable.freeSlot
  rcases qc T (H:=λ_=>h+1) (h:=h) W he hn rfl with ⟨g,_⟩ | ⟨_,_,i,_,_,_,h1,_⟩
  ·rw[show t.probe (λ_=>h+1) h (t.probeStart h)=some (.empty q.j none) from g]
   rfl
  ·have:h+1=h:=h1
   lia
 have T':=T.put W he hq (by rw[Eb];exact hz)
 rw[<- fk es (below t.place q.j) (h,x) (·.1)] at T'
 have ft:=T'.fits
 rw[Eb] at ft
 unfold layNew
 rw[hf]
 dsimp only
 rw[T.xJ]
 dsimp only
 unfold SetTable.orStandIn
 rw[if_pos ft,ft]
 rfl
theorem qg {t:SetTable}{es:Array (Int×CU)}{n:Nat}{t':SetTable}{order:Array Nat}(e:t.relaid (es.map (·.1)) n=some (t',order))(pm:order.toList.Perm (EF es.size))(T':Tab t' ((order.filterMap (es[·]?)).map (·.1))) :
  relayAll t es n=(order.filterMap (es[·]?),t',false):=by
 unfold relayAll
 rw[e]
 dsimp only
 have c:coversAll order es.size=true:=by unfold coversAll;rw[List.isPerm_iff];exact pm
 have f:=T'.fits
 rw[Eb] at f
 rw[c,f]
 rfl
theorem add_int {a:Addr}{es:Array (Int×CU)}{k:Int}{tok:Tok}{Q:Bool->CW->Prop}(I:df w s.heap a es)(els:∀e∈es,∃k',ElI e k')(hz:es.size<300)
  (hin:(∃e∈es,ElI e k)->Q false s)
  (hnew:(¬ ∃e∈es,ElI e k)->∀h' es',Heap.SameBut a s.heap h'->df w h' a es'->es'.toList.Perm ((hashInt k,.int k tok) :: es.toList)->Q true { s with heap:=h' }) :
  Dn (DG prog w) A (setAddHashed a (.int k tok) (hashInt k)) Q E s:=by
 obtain ⟨ep,t,ho,T,rm,hl,hp⟩:=I
 have hel:=vE (prog:=prog) (w:=w) els
 have hb:es.size<scanBound:=by unfold scanBound;lia
 have hf:t.fits es.size=true:=by have:=T.fits;rwa [Eb] at this
 unfold setAddHashed setAddHashedIn
 refine Er (CP (bD ho T ?_))
 dsimp only
 rw[byScan_of (knd:=intKind prog w) rfl hb hel]
 simp only[↓reduceIte]
 unfold setAddByScan
 refine CP ?_
 refine CP (Fi ?_)
 refine CP (wpAny_setScan_of (knd:=intKind prog w) (k:=k) (Jq _ _ _ _) ho rfl hf hel ?_)
 cases hr:List.findIdx? (λe=>(intKind prog w).is k e.2) es.toList with
 | some j =>
  dsimp only
  obtain ⟨hj,hpj,_⟩:=List.findIdx?_eq_some_iff_getElem.mp hr
  refine CT (CT (hin ⟨es.toList[j],DT.mp (GP hj),?_⟩))
  obtain ⟨k',t',e'⟩:=els es.toList[j] (DT.mp (GP hj))
  obtain ⟨u,e2⟩:=G5 hpj
  rw[e'] at e2
  cases e2
  exact ⟨_,e'⟩
 | none =>
  dsimp only
  have nx:¬ ∃e∈es,ElI e k:=by
   rintro ⟨e,he,t',rfl⟩
   have:=List.findIdx?_eq_none_iff.mp hr _ (DT.mpr he)
   rw[Jq] at this
   cases this
  have hgw:∀(b:Bool) {s₁:CW} {Q':Unit->CW->Prop},Q' () s₁->Dn (DG prog w) A (match b with | true=>rule "set.scan.the-table-gave-way" | false=>pure ()) Q' E s₁ :=
   λb s₁ Q' hq=>by cases b <;> first | exact CT hq | exact Fi hq
  obtain ⟨n,q,hn,W,he,hq,hd⟩:=T.ends (hashInt k)
  have hz':es.size+1<=t.mask:=by
   rcases T.msk with e | e | e | e <;> rw[e] at rm ⊢ <;> lia
  rw[vF T (hashInt k) (.int k tok) hn W he hq hz']
  dsimp only
  refine CP (CT (a:=()) ?_)
  have T':=T.put W he hq (by rw[Eb];exact hz')
  rw[<- fk es (below t.place q.j) (hashInt k,ES k tok) (·.1),hp] at T'
  rw[hp]
  simp only[↓reduceIte]
  refine CP ?_
  rw[show hashByValue 8 (.int k tok)=pure true from rfl]
  refine CT ?_
  simp only[↓reduceIte]
  have sz:(insertAt es (below t.place q.j) (hashInt k,ES k tok)).size=es.size+1:=cf _ _ _
  refine CP (iK ho (by rw[sz];lia) λh1 sb1 ho1 =>?_)
  have pm1:=insertAt_perm es (below t.place q.j) (hashInt k,ES k tok)
  rw[T'.tooFull,Eb,sz]
  by_cases full:(es.size+1)*5≥t.mask*3
  ·rw[if_pos (by simpa using full)]
   obtain ⟨t2,order,e2,pm2,T2,pe2,l2,p2,rm2⟩:=mZ T' sz (n:=es.size) (by simpa using rm) full hz
   rw[qg e2 pm2 T2]
   dsimp only
   have z2:(order.filterMap ((insertAt es (below t.place q.j) (hashInt k,ES k tok))[·]?)).size=es.size+1:=by
    rw[<- C6,pe2.length_eq,C6,sz]
   refine CP (CT (a:=()) ?_)
   refine CP (iK (s:={ s with heap:=h1 }) ho1 (by rw[z2];lia) λh2 sb2 ho2 =>?_)
   refine CT (CT (hnew nx h2 _ (sb1.trans sb2) ⟨_,_,ho2,T2,by rw[z2];exact rm2,by rw[l2];exact hl,by rw[p2]⟩ (pe2.trans pm1)))
  ·rw[if_neg (by simpa using full)]
   refine CT (CT (hnew nx h1 _ sb1 ⟨_,_,ho1,T',?_,hl,rfl⟩ pm1))
   rw[sz]
   exact GR full
end
open PySem PySem.SetTable PyProof.Rows PySem.Spec
def TS (h h':Heap):Prop:=∀b o,o.cls = .type "tuple" -> h.get? b=some o->h'.get? b=some o
structure Kd (prog:Dp)(w:DW)(κ:Type) where
 El:Heap->CU -> κ -> Prop
 hash:κ -> Int
 room:Ec->Prop
 keeps:∀{h h':Heap} {v:CU} {k:κ},El h v k->TS h h'->El h' v k
 inj:∀{h:Heap} {v:CU} {k k':κ},El h v k->El h v k'->k=k'
 add:∀{A:Ec} {E:CU->CW->Prop} {s:CW} {a:Addr} {es:Array (Int×CU)} {v:CU} {k:κ} {Q:Bool->CW->Prop},room A->df w s.heap a es->(∀e∈es,∃k',e.1=hash k'/\El s.heap e.2 k')->El s.heap v k->es.size<300 →
  ((∃e∈es,El s.heap e.2 k)->∀tk,s.toks<=tk->Q false { s with toks:=tk }) →
  ((¬ ∃e∈es,El s.heap e.2 k)->∀h' es' tk,s.toks<=tk->Heap.SameBut a s.heap h'->df w h' a es'->es'.toList.Perm ((hash k,v) :: es.toList)->Q true { s with heap:=h',toks:=tk }) →
  Dn (DG prog w) A (setAdd a v) Q E s
theorem TK.keep {prog:Dp}{w:DW}{h h':Heap}{ks:List Int}{b:Addr}(x:TK prog w h ks b)(t:TS h h'):TK prog w h' ks b :=
 let ⟨o,items,n,ho,hc,r⟩:=x;⟨o,items,n,t b o hc ho,hc,r⟩
def jN (prog:Dp)(w:DW):Kd prog w (List Int) where
 El:=λh v ks=>∃b,v = .ref b/\TK prog w h ks b
 hash:=cg prog w
 room:=λA=>A.units<cLine
 keeps:=λ⟨b,e,x⟩ t=>⟨b,e,x.keep t⟩
 inj:=λ⟨b,e,x⟩ ⟨b',e',x'⟩=>by
  rw[e] at e';injection e' with e';subst e';exact x.inj x'
 add:=by
  intro A E s a es v k Q hu I els hv hz hin hnew
  obtain ⟨b,rfl,hk⟩:=hv
  unfold setAdd
  refine Er (CP (wpAny_pyHash_tuple hu hk ?_))
  have els':∀e∈es,∃ks',ElT prog w s.heap e ks':=λe he=>by
   obtain ⟨k',e1,b',e2,x⟩:=els e he
   exact ⟨k',b',KG e1 e2,x⟩
  have conv:∀e∈es,(ElT prog w s.heap e k↔∃b,e.2 = .ref b/\TK prog w s.heap k b):=λe he=>by
   constructor
   ·rintro ⟨b',rfl,x⟩;exact ⟨b',rfl,x⟩
   ·rintro ⟨b',e2,x⟩
    obtain ⟨k',e1,b2,e3,x2⟩:=els e he
    rw[e2] at e3;injection e3 with e3;subst e3
    obtain rfl:=x.inj x2
    exact ⟨b',KG e1 e2,x⟩
  refine zy (s:={ s with toks:=s.toks+(k.length+1) }) hu I els' hk hz (λx=>hin ?_ _ (FT _ _)) λx h' es' sb I' pm=>hnew ?_ h' es' _ (FT _ _) sb I' pm
  ·obtain ⟨e,he,x⟩:=x;exact ⟨e,he,(conv e he).mp x⟩
  ·rintro ⟨e,he,y⟩;exact x ⟨e,he,(conv e he).mpr y⟩
def tZ (prog:Dp)(w:DW):Kd prog w Int where
 El:=λ_ v k=>∃t,v = .int k t
 hash:=hashInt
 room:=λ_=>True
 keeps:=λx _=>x
 inj:=λ⟨t,e⟩ ⟨t',e'⟩=>by rw[e] at e';injection e'
 add:=by
  intro A E s a es v k Q _ I els hv hz hin hnew
  obtain ⟨t,rfl⟩:=hv
  unfold setAdd
  refine Er (CP ((intKind prog w).pyHash (k:=k) (Jq _ _ _ _) ?_))
  have els':∀e∈es,∃k',ElI e k':=λe he=>by
   obtain ⟨k',e1,t',e2⟩:=els e he
   exact ⟨k',t',KG e1 e2⟩
  have conv:∀e∈es,(ElI e k↔∃t,e.2=ES k t):=λe he=>by
   constructor
   ·rintro ⟨t',rfl⟩;exact ⟨t',rfl⟩
   ·rintro ⟨t',e2⟩
    obtain ⟨k',e1,t2,e3⟩:=els e he
    rw[e2] at e3;injection e3 with e3 e4;subst e3
    exact ⟨t',KG e1 e2⟩
  refine add_int (s:={ s with toks:=s.toks+1 }) I els' hz (λx=>hin ?_ _ (Jr _)) λx h' es' sb I' pm=>hnew ?_ h' es' _ (Jr _) sb I' pm
  ·obtain ⟨e,he,x⟩:=x;exact ⟨e,he,(conv e he).mp x⟩
  ·rintro ⟨e,he,y⟩;exact x ⟨e,he,(conv e he).mpr y⟩
section
variable  {prog:Dp}{w:DW}{κ:Type}(kd:Kd prog w κ)
structure Good (h:Heap)(es:Array (Int×CU))(l:List κ):Prop where
 el:∀e∈es,∃k,k∈l/\e.1=kd.hash k/\kd.El h e.2 k
 all:∀k∈l,∃e∈es,kd.El h e.2 k
 dis:es.toList.Pairwise (λe e'=>∀k,kd.El h e.2 k->¬ kd.El h e'.2 k)
 len:es.size<=l.length
variable  {kd}
theorem Good.keeps {h h':Heap}{es:Array (Int×CU)}{l:List κ}(G:Good kd h es l)(t:TS h h'):Good kd h' es l:=by
 refine ⟨λe he =>?_,λk hk =>?_,?_,G.len⟩
 ·obtain ⟨k,a,b,c⟩:=G.el e he;exact ⟨k,a,b,kd.keeps c t⟩
 ·obtain ⟨e,a,b⟩:=G.all k hk;exact ⟨e,a,kd.keeps b t⟩
 ·refine HA (λ{e e'} he he' x k y z =>?_) G.dis
  obtain ⟨k1,_,_,c1⟩:=G.el e (DT.mp he)
  obtain ⟨k2,_,_,c2⟩:=G.el e' (DT.mp he')
  obtain rfl:=kd.inj y (kd.keeps c1 t)
  obtain rfl:=kd.inj z (kd.keeps c2 t)
  exact x _ c1 c2
theorem Good.nil (h:Heap):Good kd h #[] []:=⟨λe he=>(by simp at he),λk hk=>(by cases hk),(by simp),C0 _⟩
theorem Good.same {h:Heap}{es:Array (Int×CU)}{l:List κ}(G:Good kd h es l){k:κ}(x:∃e∈es,kd.El h e.2 k):Good kd h es (l++[k]):=by
 refine ⟨λe he =>?_,λk' hk =>?_,G.dis,by rw[C1];have:=G.len;lia⟩
 ·obtain ⟨k,a,b⟩:=G.el e he;exact ⟨k,Du _ a,b⟩
 ·rcases Dd.mp hk with hk | hk
  ·exact G.all k' hk
  ·rw[C2] at hk;subst hk;exact x
theorem Good.more {h:Heap}{es es':Array (Int×CU)}{l:List κ}(G:Good kd h es l){k:κ}{v:CU}(hv:kd.El h v k)(x:¬ ∃e∈es,kd.El h e.2 k)(pm:es'.toList.Perm ((kd.hash k,v) :: es.toList)):Good kd h es' (l++[k]):=by
 have mem:∀e,e∈es'↔e=(kd.hash k,v)\/e∈es:=λe=>by
  rw[<- DT,pm.mem_iff,Dm,DT]
 refine ⟨λe he =>?_,λk' hk =>?_,?_,?_⟩
 ·rcases (mem e).mp he with rfl | he
  ·exact ⟨k,DA _ (C2.mpr rfl),rfl,hv⟩
  ·obtain ⟨k,a,b⟩:=G.el e he;exact ⟨k,Du _ a,b⟩
 ·rcases Dd.mp hk with hk | hk
  ·obtain ⟨e,a,b⟩:=G.all k' hk;exact ⟨e,(mem e).mpr (.inr a),b⟩
  ·rw[C2] at hk;subst hk;exact ⟨_,(mem _).mpr (.inl rfl),hv⟩
 ·rw[pm.pairwise_iff (λ{a b} z k y1 y2=>z k y2 y1)]
  refine List.Pairwise.cons (λe he k' y1 y2 =>?_) G.dis
  obtain rfl:=kd.inj y1 hv
  exact x ⟨e,DT.mp he,y2⟩
 ·have:=pm.length_eq
  rw[DF,C6,C6] at this
  rw[C1,D3]
  have:=G.len
  lia
end
section
variable  {prog:Dp}{w:DW}{A:Ec}{R:Result->CW->Prop}{I:Addr}{fp:List Addr}{G:Array GenState->Array GenState->Prop}{n:Nat}{P:Nat->CU->Prop}{St:Nat->CW->Prop}{κ:Type}{kd:Kd prog w κ}
theorem qh (W:WalksS prog w A.in1 I fp [I] G n P St)(hrm:kd.room A.in1)(hI:∀i s,St i s->∃o,s.heap.get? I=some o/\o.cls ≠ .type "tuple")(S:Addr)(hSf:S∉fp)(hIf:I∈fp)(ks:List κ)(hn:n=ks.length)(hb:n<300) :
  ∀(k i:Nat) (s:CW) (es:Array (Int×CU)),n-i=k->i<=n->St i s->(∀j v,P j v->∃q,ks[j]? = some q/\kd.El s.heap v q) →
   df w s.heap S es->Good kd s.heap es (ks.take i) →
   (∀s' es',Moved [S,I] G s s'->df w s'.heap S es'->Good kd s'.heap es' ks->R (.ok (.ret .none)) s') →
   HQ (DG prog w) A (.builtin "set.update.loop" ⟨[.ref S,.ref I],[]⟩) R s:=by
 have hSI:S≠I:=λe=>hSf (e ▸ hIf)
 have ts:∀i s s',St i s->Moved [I] G s s'->TS s.heap s'.heap:=λi s s' hst hm b o hc e=>by
  refine hm.heap b o (λhb =>?_) e
  rw[C2] at hb
  obtain ⟨o',e',c'⟩:=hI i s hst
  rw[hb,e'] at e;cases e;exact c' hc
 intro k
 induction k with
 | zero =>
  intro i s es hk hi hst hv hS hG hR
  have hin:i=n:=by omega
  subst hin
  refine D2 Jt ?_
  rw[DM GK _]
  show Dn _ A.in1 (pyNext (.ref I) >>= _) _ _ s
  refine CP (W.done s _ _ hst λs' hm =>?_)
  show Dn _ A.in1 (ret E6) _ _ s'
  rw[Dj (by omega)] at hG
  exact CT (hR s' es (hm.mono λb hb=>by rw[C2] at hb;simp[hb]) (hS.at λo e=>hm.heap S o (by rw[C2];exact hSI) e) (hG.keeps (ts _ _ _ hst hm)))
 | succ k ih =>
  intro i s es hk hi hst hv hS hG hR
  have hlt:i<n:=by omega
  refine D2 Jt ?_
  rw[DM GK _]
  show Dn _ A.in1 (pyNext (.ref I) >>= _) _ _ s
  refine CP (W.item i s _ _ hlt hst λv s' hP hst' hm =>?_)
  have t0:=ts _ _ _ hst hm
  obtain ⟨q,eq,hq⟩:=hv i v hP
  have hS':df w s'.heap S es:=hS.at λo e=>hm.heap S o (by rw[C2];exact hSI) e
  have hG':=hG.keeps t0
  have tk:ks.take (i+1)=ks.take i++[q]:=by rw[L3,eq];rfl
  show Dn _ A.in1 (Jd [v] (setAdd S v) >>= _) _ _ s'
  have hm2:Moved [S,I] G s s':=hm.mono λb hb=>by rw[C2] at hb;simp[hb]
  refine CP (Er (kd.add hrm hS' (λe he =>?_) (kd.keeps hq t0) ?_ (λx tk' htk =>?_) λx h' es' tk' htk sb I' pm =>?_))
  ·obtain ⟨k',_,a,b⟩:=hG'.el e he;exact ⟨k',a,b⟩
  ·have:=hG'.len;rw[D6] at this;omega
  ·refine CT ⟨Es GK _,ih (i+1) _ es (by omega) hlt (W.frame _ s' _ _ hst' htk λb _ o e=>e) (λj v' p =>?_) hS' (by rw[tk];exact hG'.same x) λs'' es'' hm'' a b =>?_⟩
   ·obtain ⟨q',a,b⟩:=hv j v' p;exact ⟨q',a,kd.keeps b t0⟩
   ·exact hR s'' es'' (Mm W.gtrans (hm2.then_heap htk λb o _ e=>e) hm'') a b
  ·have t1:TS s'.heap h':=λb o hc e=>by
    rw[sb.2 b (λhb=>by
     obtain ⟨ep,t,ho,_⟩:=hS'
     rw[hb,ho] at e;cases e;simp[aQ] at hc)]
    exact e
   refine CT ⟨Es GK _,ih (i+1) _ es' (by omega) hlt (W.frame _ s' _ _ hst' htk λb hb o e =>?_) (λj v' p =>?_) I' (by rw[tk];exact (hG'.more (kd.keeps hq t0) x pm).keeps t1) λs'' es'' hm'' a b =>?_⟩
   ·rw[sb.2 b (λh:b=S=>hSf (h ▸ hb))];exact e
   ·obtain ⟨q',a,b⟩:=hv j v' p;exact ⟨q',a,kd.keeps (kd.keeps b t0) t1⟩
   ·refine hR s'' es'' (Mm W.gtrans (hm2.then_heap htk λb o hb e =>?_) hm'') a b
    rw[sb.2 b (λh:b=S=>hb (by rw[h];exact Dr))];exact e
end
section
variable  {prog:Dp}{w:DW}{A:Ec}{E:CU->CW->Prop}{s:CW}
theorem t6 (a:CU){Q₁:CU->CW->Prop}
    (h:Q₁ (.ref s.heap.objs.size) { s with heap:=s.heap.push (aQ #[] 0 (.fresh 0 0 (!w.params.followText "set-order"))) }) :
    HQ (DG prog w) A (.call (.builtin "set.__new__") ⟨[.type "set",a],[]⟩) (wants Q₁ E) s:=by
  refine Ke ?_
  show Dn _ A.in1 (do checkBuiltinCall "set.__new__" ⟨[.type "set",a],[]⟩;again (.builtin "set.__new__" ⟨[.type "set",a],[]⟩)) _ _ s
  refine CP (E9 (PySem.F.newCall_set_1 a) (CT ⟨Es LI _,D2 F.entry_set_new ?_⟩))
  rw[DM LI _]
  unfold Builtin.«set.__new__» Builtin.Frozenset.newClass
  have hsub:=sub_set_self
  obtain ⟨hp,g,d,tk,os⟩:=s
  dsimp only
  wp_walk
  refine JG (CT ?_)
  dsimp only
  simp only[newObj]
  refine CP (wpAny_alloc (CT ?_))
  exact CT h
theorem vH (led:Bool):Tab (.fresh 0 0 led) #[]:=by
 refine ⟨rfl,λi j a b e =>?_,rfl,λi j e =>?_,.inl rfl,DS _,λi j h e =>?_⟩ <;> (simp[SetTable.fresh] at e)
theorem kR {h:Heap}{a:Addr}(ho:h.get? a=some (aQ #[] 0 (.fresh 0 0 (!w.params.followText "set-order")))):df w h a #[] :=
 ⟨0,_,ho,(by rw[Array.map_empty];exact vH _),(by show 0*5<7*3;decide),rfl,rfl⟩
theorem sub_tuple_set:isSubtype (.type "tuple") (.type "set")=pure false:=by rw[FJ];kernel_rfl
theorem sub_tuple_frozenset:isSubtype (.type "tuple") (.type "frozenset")=pure false:=by rw[FJ];kernel_rfl
end
open PySem PySem.SetTable PyProof.Rows PySem.Spec
section
variable  {prog:Dp}{w:DW}{A:Ec}{E:CU->CW->Prop}{s:CW}
set_option maxHeartbeats 3200000 in
theorem fM {κ:Type}{kd:Kd prog w κ}{l:Addr}{items:Array CU}{ks:List κ}{Q:CU->CW->Prop}
  (hh:A.handled=none) (hrm:kd.room A.in1.in1.in1) (hl:s.heap.IsTuple l items) (hz:items.size=ks.length) (hi:∀(i:Nat) v,items[i]? = some v->∃q,ks[i]? = some q/\kd.El s.heap v q) (hb:items.size<300)
  (h:∀(h':Heap) (es:Array (Int×CU)) (tk:Nat),s.toks<=tk->df w h' s.heap.objs.size es->Good kd h' es ks →
   (∀b o,s.heap.get? b=some o->h'.get? b=some o)->Q (.ref s.heap.objs.size) { s with heap:=h',toks:=tk }) :
  Dn (DG prog w) A (call (.type "set") [.ref l]) Q E s:=by
 obtain ⟨c,tl,hmro⟩:=E2.mro
 have hmade:=E2.made
 have hsub:=E2.sub
 refine Lh (Ke ?_)
 show Dn _ _ (callAny (.type "set") _) _ _ _
 refine CT ⟨IQ _ (by decide +kernel),D2 La ?_⟩
 rw[KO (Kf "set" [.ref l] []) rfl]
 have h1:=E2.notType
 have h2:=E2.canCreate
 have hct:=JM (.ref l)
 repeat (any_goals (first | assumption | wp_step))
 have gd:(s.heap.push (aQ #[] 0 (.fresh 0 0 (!w.params.followText "set-order")))).objs.size=s.heap.objs.size+1:=Ek _ _
 refine HD (t6 (w:=w) (.ref l) (E:=E) (Q₁:=λobj s₁=>obj = .ref s.heap.objs.size/\s₁={ s with heap:=s.heap.push (aQ #[] 0 (.fresh 0 0 (!w.params.followText "set-order"))) }) ⟨rfl,rfl⟩) λr s₁ hr =>?_
 cases r with
 | error e=>exact hr
 | ok fl =>
  cases fl with
  | ret obj =>
   obtain ⟨rfl,rfl⟩:=hr
   generalize hled:(!w.params.followText "set-order")=led at gd ⊢
   have hS:(s.heap.push (aQ #[] 0 (.fresh 0 0 led))).get? s.heap.objs.size=some (aQ #[] 0 (.fresh 0 0 led)):=C3 _ rfl
   have hT:Shared.TypeIs { s with heap:=s.heap.push (aQ #[] 0 (.fresh 0 0 led)) } (.ref s.heap.objs.size) "set" :=⟨_,hS,rfl⟩
   have hli:=E2.init.lookup
   have hbi:=E2.init.bind (.ref s.heap.objs.size)
   repeat (any_goals (first | assumption | wp_step))
   refine HD (Ip (R:=wants (λr s₂=>r = .none/\∃h' es tk,s₂={ s with heap:=h',toks:=tk }/\s.toks<=tk ∧
     df w h' s.heap.objs.size es/\Good kd h' es ks ∧
     (∀b o,s.heap.get? b=some o->h'.get? b=some o)) E) E2.init.plain Ly (check_set_init_1 hT ?_)) λr₂ s₂ hr₂ =>?_
   ·obtain ⟨ol,hol,hcl,nl,hdl⟩:=id hl
    obtain ⟨ocls,odict,odata,oslots⟩:=ol
    simp only at hcl hdl
    subst hcl;subst hdl
    have hol':(s.heap.push (aQ #[] 0 (.fresh 0 0 led))).get? l=some { cls :=.type "tuple",dict:=odict,data :=.seq items nl,slots:=oslots }:=CQ _ hol
    have hsls:=sub_tuple_set
    have hslf:=sub_tuple_frozenset
    have hne:(Fl "tuple" == Fl "dict")=false:=by decide
    have hl1:(s.heap.push (aQ #[] 0 (.fresh 0 0 led))).IsTuple l items:=⟨_,hol',rfl,nl,rfl⟩
    unfold Builtin.«set.__init__» noKeywords Builtin.Frozenset.updateFrom
    generalize hPI:pyIter=PI
    wp_walk
    subst hPI
    refine Fu hl1 ?_
    refine CP (GV ?_)
    have hlS:l<s.heap.objs.size:=Dc hol
    have hh3:A.in1.in1.in1.handled=none:=by simp[hh]
    have hneI:l≠(s.heap.push (aQ #[] 0 (.fresh 0 0 led))).objs.size:=by
     rw[gd];exact Dk (D4 hlS)
    have hSf:s.heap.objs.size∉[(s.heap.push (aQ #[] 0 (.fresh 0 0 led))).objs.size,l]:=by
     rw[gd];simp only[Dm,C2,GS,or_false,not_or]
     exact ⟨Dk (EB _),FK hlS⟩
    refine qh (kd:=kd) ((Ju hh3 _ l hneI items).toS) hrm (λi s' st =>?hI) s.heap.objs.size hSf Dr ks hz hb (items.size-0) 0 _ #[] (by lia) (DS _)
     ⟨⟨_,C3 _ rfl,rfl,rfl⟩,(hl1.push _)⟩ ?hv (by subst hled;exact kR (CQ _ hS)) (Good.nil _) ?hR
    case hI =>
     obtain ⟨o,ho,hc,_⟩:=st.1
     exact ⟨o,ho,by rw[hc];decide⟩
    case hv =>
     intro j v hv
     obtain ⟨q,e,x⟩:=hi j v hv
     exact ⟨q,e,kd.keeps x λb o _ e=>CQ _ (CQ _ e)⟩
    case hR =>
     intro s' es' hm hS' hG'
     obtain ⟨h',g',d',tk',os'⟩:=s'
     have eg:g'=s.gens:=hm.gens
     have ed:d'=s.drawn:=hm.drawn
     have eo:os'=s.os:=hm.os
     subst eg;subst ed;subst eo
     show Dn _ _ _ _ _ _
     refine CT ?_
     show Dn _ _ (ret E6) _ _ _
     refine CT ⟨rfl,h',es',tk',rfl,hm.toks,hS',hG',λb o e =>?_⟩
     have hbb:=Dc e
     have hb1:b≠s.heap.objs.size:=Dk hbb
     have hb2:b≠(s.heap.push (aQ #[] 0 (.fresh 0 0 led))).objs.size:=by
      rw[gd];exact Dk (D4 hbb)
     exact hm.heap b o (by simp only[Dm,C2,GS,or_false,not_or];exact ⟨hb1,hb2⟩) (CQ _ (CQ _ e))
   ·cases r₂ with
    | error e=>exact hr₂
    | ok fl₂ =>
     cases fl₂ with
     | ret r =>
      obtain ⟨rfl,h',es,tk,rfl,htk,hS',hG',hk'⟩:=hr₂
      repeat (any_goals (first | assumption | wp_step))
      exact h _ _ _ htk hS' hG' hk'
     | _=>exact hr₂.elim
  | _=>exact hr.elim
end
open PySem PySem.SetTable PyProof.Rows PySem.Spec
section
variable  {prog:Dp}{w:DW}{A:Ec}{E:CU->CW->Prop}{s:CW}
set_option maxHeartbeats 3200000 in
theorem call_set_list {κ:Type}{kd:Kd prog w κ}{l:Addr}{items:Array CU}{ks:List κ}{Q:CU->CW->Prop}
  (hh:A.handled=none) (hrm:kd.room A.in1.in1.in1) (hl:s.heap.IsList l items) (hz:items.size=ks.length) (hi:∀(i:Nat) v,items[i]? = some v->∃q,ks[i]? = some q/\kd.El s.heap v q) (hb:items.size<300)
  (h:∀(h':Heap) (es:Array (Int×CU)) (tk:Nat),s.toks<=tk->df w h' s.heap.objs.size es->Good kd h' es ks →
   (∀b o,s.heap.get? b=some o->h'.get? b=some o)->Q (.ref s.heap.objs.size) { s with heap:=h',toks:=tk }) :
  Dn (DG prog w) A (call (.type "set") [.ref l]) Q E s:=by
 obtain ⟨c,tl,hmro⟩:=E2.mro
 have hmade:=E2.made
 have hsub:=E2.sub
 refine Lh (Ke ?_)
 show Dn _ _ (callAny (.type "set") _) _ _ _
 refine CT ⟨IQ _ (by decide +kernel),D2 La ?_⟩
 rw[KO (Kf "set" [.ref l] []) rfl]
 have h1:=E2.notType
 have h2:=E2.canCreate
 have hct:=JM (.ref l)
 repeat (any_goals (first | assumption | wp_step))
 have gd:(s.heap.push (aQ #[] 0 (.fresh 0 0 (!w.params.followText "set-order")))).objs.size=s.heap.objs.size+1:=Ek _ _
 refine HD (t6 (w:=w) (.ref l) (E:=E) (Q₁:=λobj s₁=>obj = .ref s.heap.objs.size/\s₁={ s with heap:=s.heap.push (aQ #[] 0 (.fresh 0 0 (!w.params.followText "set-order"))) }) ⟨rfl,rfl⟩) λr s₁ hr =>?_
 cases r with
 | error e=>exact hr
 | ok fl =>
  cases fl with
  | ret obj =>
   obtain ⟨rfl,rfl⟩:=hr
   generalize hled:(!w.params.followText "set-order")=led at gd ⊢
   have hS:(s.heap.push (aQ #[] 0 (.fresh 0 0 led))).get? s.heap.objs.size=some (aQ #[] 0 (.fresh 0 0 led)):=C3 _ rfl
   have hT:Shared.TypeIs { s with heap:=s.heap.push (aQ #[] 0 (.fresh 0 0 led)) } (.ref s.heap.objs.size) "set" :=⟨_,hS,rfl⟩
   have hli:=E2.init.lookup
   have hbi:=E2.init.bind (.ref s.heap.objs.size)
   repeat (any_goals (first | assumption | wp_step))
   refine HD (Ip (R:=wants (λr s₂=>r = .none/\∃h' es tk,s₂={ s with heap:=h',toks:=tk }/\s.toks<=tk ∧
     df w h' s.heap.objs.size es/\Good kd h' es ks ∧
     (∀b o,s.heap.get? b=some o->h'.get? b=some o)) E) E2.init.plain Ly (check_set_init_1 hT ?_)) λr₂ s₂ hr₂ =>?_
   ·obtain ⟨ol,hol,hcl,nl,hdl⟩:=id hl
    obtain ⟨ocls,odict,odata,oslots⟩:=ol
    simp only at hcl hdl
    subst hcl;subst hdl
    have hol':(s.heap.push (aQ #[] 0 (.fresh 0 0 led))).get? l=some { cls :=.type "list",dict:=odict,data :=.seq items nl,slots:=oslots }:=CQ _ hol
    have hsls:=PySem.F.sub_list_set
    have hslf:=PySem.F.sub_list_frozenset
    have hne:(Fl "list" == Fl "dict")=false:=by decide
    have hl1:(s.heap.push (aQ #[] 0 (.fresh 0 0 led))).IsList l items:=⟨_,hol',rfl,nl,rfl⟩
    unfold Builtin.«set.__init__» noKeywords Builtin.Frozenset.updateFrom
    generalize hPI:pyIter=PI
    wp_walk
    subst hPI
    refine GB hl1 ?_
    refine CP (GV ?_)
    have hlS:l<s.heap.objs.size:=Dc hol
    have hh3:A.in1.in1.in1.handled=none:=by simp[hh]
    have hneI:l≠(s.heap.push (aQ #[] 0 (.fresh 0 0 led))).objs.size:=by
     rw[gd];exact Dk (D4 hlS)
    have hSf:s.heap.objs.size∉[(s.heap.push (aQ #[] 0 (.fresh 0 0 led))).objs.size,l]:=by
     rw[gd];simp only[Dm,C2,GS,or_false,not_or]
     exact ⟨Dk (EB _),FK hlS⟩
    refine qh (kd:=kd) ((K5 hh3 _ l hneI items).toS) hrm (λi s' st =>?hI) s.heap.objs.size hSf Dr ks hz hb (items.size-0) 0 _ #[] (by lia) (DS _)
     ⟨⟨_,C3 _ rfl,rfl,rfl⟩,(hl1.push _)⟩ ?hv (by subst hled;exact kR (CQ _ hS)) (Good.nil _) ?hR
    case hI =>
     obtain ⟨o,ho,hc,_⟩:=st.1
     exact ⟨o,ho,by rw[hc];decide⟩
    case hv =>
     intro j v hv
     obtain ⟨q,e,x⟩:=hi j v hv
     exact ⟨q,e,kd.keeps x λb o _ e=>CQ _ (CQ _ e)⟩
    case hR =>
     intro s' es' hm hS' hG'
     obtain ⟨h',g',d',tk',os'⟩:=s'
     have eg:g'=s.gens:=hm.gens
     have ed:d'=s.drawn:=hm.drawn
     have eo:os'=s.os:=hm.os
     subst eg;subst ed;subst eo
     show Dn _ _ _ _ _ _
     refine CT ?_
     show Dn _ _ (ret E6) _ _ _
     refine CT ⟨rfl,h',es',tk',rfl,hm.toks,hS',hG',λb o e =>?_⟩
     have hbb:=Dc e
     have hb1:b≠s.heap.objs.size:=Dk hbb
     have hb2:b≠(s.heap.push (aQ #[] 0 (.fresh 0 0 led))).objs.size:=by
      rw[gd];exact Dk (D4 hbb)
     exact hm.heap b o (by simp only[Dm,C2,GS,or_false,not_or];exact ⟨hb1,hb2⟩) (CQ _ (CQ _ e))
   ·cases r₂ with
    | error e=>exact hr₂
    | ok fl₂ =>
     cases fl₂ with
     | ret r =>
      obtain ⟨rfl,h',es,tk,rfl,htk,hS',hG',hk'⟩:=hr₂
      repeat (any_goals (first | assumption | wp_step))
      exact h _ _ _ htk hS' hG' hk'
     | _=>exact hr₂.elim
  | _=>exact hr.elim
end
open PySem PySem.SetTable PyProof.Rows
namespace F9
theorem fq:Slot "set_iterator" "__next__" "set_iterator.__next__" :=
 .of (owner := "set_iterator") (n := "__next__") (by rw[GC,Fj];kernel_rfl) (by decide +kernel) (by decide +kernel) (by decide +kernel)
  (by first | exact .inl (by decide +kernel) | exact .inr (by decide +kernel)) (by rw[FJ];kernel_rfl)
theorem me:entryFor table "set_iterator.__next__" = some Builtin.«set_iterator.__next__» := JH (by kernel_rfl)
theorem ou (a:CU):argsOk "set_iterator.__next__" ⟨[a],[]⟩:=by
 unfold argsOk;kernel_rfl
theorem kS:entryFor table "set.__iter__" = some Builtin.«frozenset.__iter__» :=
 entryFor_alias (id' := "frozenset.__iter__") (by kernel_rfl) rfl (by decide +kernel) (by kernel_rfl)
end F9
theorem kT {α:Type}:∀(l:List α) (i:Nat) (x:α),l[i]? = some x->(x :: l.eraseIdx i).Perm l
 | [],i,x,h=>by simp at h
 | y :: l,0,x,h=>by simp at h;subst h;exact Hn _
 | y :: l,i+1,x,h=>by
  rw[Fs] at h
  rw[HK]
  exact (List.Perm.swap y x _).trans (List.Perm.cons y (kT l i x h))
theorem t7 {α:Type}(next:Nat->Nat):∀(fuel k:Nat) (left:List α) (out:Array α),left.length=fuel->(pickOrder.go next fuel k left out).toList.Perm (out.toList++left)
 | 0,k,left,out,h=>by
  have:left=[]:=FX.mp h
  subst this
  unfold pickOrder.go
  rw[DU]
 | fuel+1,k,left,out,h=>by
  unfold pickOrder.go
  have hl:next k%left.length<left.length:=HW _ (by lia)
  have e:=CV hl
  rw[e]
  dsimp only
  have ih:=t7 next fuel (k+1) (left.eraseIdx (next k%left.length)) (out.push left[next k%left.length]) (by rw[List.length_eraseIdx,if_pos hl];lia)
  refine ih.trans ?_
  rw[FC,DN]
  exact Fh _ (kT _ _ _ e)
theorem vI {α:Type}(next:Nat->Nat)(xs:Array α):(pickOrder next xs).toList.Perm xs.toList:=by
 unfold pickOrder
 have:=t7 next xs.size 0 xs.toList #[] (by simp)
 simpa using this
section
variable  {prog:Dp}{w:DW}{A:Ec}{E:CU->CW->Prop}{s:CW}
def walkVals (w:DW)(a:Addr)(es:Array (Int×CU))(ep:Nat):List CU :=
 if w.params.followText "set-order" = true then (pickOrder (w.params.setOrder a ep) es).toList.map (·.2) else es.toList.map (·.2)
theorem m5 (w:DW)(a:Addr)(es:Array (Int×CU))(ep:Nat):(walkVals w a es ep).Perm (es.toList.map (·.2)):=by
 unfold walkVals
 split
 ·exact (vI _ _).map _
 ·exact Hn _
theorem jk {Q:Bool->CW->Prop}(h:Q (w.params.followText "set-order") s):Dn (DG prog w) A setsByText Q E s:=by
 unfold setsByText
 exact CP (JG (CT h))
theorem sq {a:Addr}{es:Array (Int×CU)}{ep:Nat}{t:SetTable}{Q:Option (CU×Nat)->CW->Prop}(ho:s.heap.get? a=some (aQ es ep t))(T:Tab t (es.map (·.1)))(hl:t.led = !w.params.followText "set-order")(hp:t.plain=true){slot i:Nat}
  (hs:w.params.followText "set-order" = false->below t.place slot=i)
  (hy:∀x slot',(walkVals w a es ep)[i]? = some x->(w.params.followText "set-order" = false->below t.place slot'=i+1)->Q (some (x,slot')) s)
  (hn:(walkVals w a es ep)[i]? = none->Q none s):Dn (DG prog w) A (setNext a slot i ep) Q E s:=by
 unfold setNext
 refine CP (bD ho T ?_)
 dsimp only
 refine CP (jk ?_)
 cases hb:w.params.followText "set-order" with
 | true =>
  rw[hb] at hs hy
  simp only[bne_self_eq_false,Dt,if_true,if_false]
  refine CP ?_
  unfold setWalk
  refine CP (bD ho T ?_)
  dsimp only
  refine CP (jk ?_)
  rw[hb]
  simp only[if_true]
  refine CP (JG (CT ?_))
  refine CT ?_
  have ew:(walkVals w a es ep)[i]? = ((pickOrder (w.params.setOrder a ep) es)[i]?).map (·.2):=by
   unfold walkVals
   rw[if_pos hb,C8,Dh]
  show Q (((pickOrder (w.params.setOrder a ep) es)[i]?).map λe=>(e.2,slot)) s
  cases hx:(pickOrder (w.params.setOrder a ep) es)[i]? with
  | none=>rw[hx] at ew;exact hn ew
  | some e=>rw[hx] at ew;exact hy _ _ ew (λq=>by cases q)
 | false =>
  have hs':=hs hb
  simp only[Dt,if_false]
  have ew:(walkVals w a es ep)[i]? = (es[i]?).map (·.2):=by
   unfold walkVals
   rw[if_neg (by rw[hb];exact Di),C8,Dh]
  show Dn _ _ (if (!t.plain && decide (es.size>1))=true then _ else _) _ _ _
  rw[hp]
  simp only[EX,Hm,Dt,if_false]
  refine CP ?_
  show Dn _ _ (if (!t.led && !es.isEmpty)=true then _ else _) _ _ _
  rw[hl,hb]
  simp only[Ko,EX,Hm,Dt,if_false]
  refine CT ?_
  rw[hs']
  by_cases hi:i<es.size
  ·have ee:es[i]? = some es[i]:=DD hi
   have hpl:i<t.place.size:=by rw[T.size,Eb];exact hi
   have ep':t.place[i]? = some t.place[i]:=DD hpl
   rw[ee,ep']
   rw[ee] at ew
   exact CT (hy _ _ ew λ_=>rZ T.rise ep')
  ·have ee:es[i]? = none:=F8 (by lia)
   rw[ee]
   rw[ee] at ew
   exact CT (hn ew)
def jl (h:Heap)(it a:Addr)(slot i n ep:Nat):Prop:=h.get? it=some { cls :=.type "set_iterator",data :=.fields #[.int slot 0,.int i 0,.ref a,.int n 0,.int ep 0] }
theorem jl.typeIs {it a:Addr}{slot i n ep:Nat}(x:jl s.heap it a slot i n ep):s.TypeIs (.ref it) "set_iterator" :=⟨_,x,rfl⟩
end
open PySem PySem.SetTable PyProof.Rows
section
variable  {prog:Dp}{w:DW}{A:Ec}{E:CU->CW->Prop}{s:CW}
structure sr (w:DW)(h:Heap)(it a:Addr)(es:Array (Int×CU))(ep i:Nat):Prop where
 st:∃t slot,h.get? a=some (aQ es ep t)/\Tab t (es.map (·.1))/\t.led=(!w.params.followText "set-order")/\t.plain=true/\(w.params.followText "set-order" = false->below t.place slot=i)/\jl h it a slot i es.size ep
theorem t8 {it a:Addr}{es:Array (Int×CU)}{ep i:Nat}{Q:Option CU->CW->Prop}(hh:A.handled=none)(hne:it≠a)(O:sr w s.heap it a es ep i)
  (hy:∀x h',(walkVals w a es ep)[i]? = some x->sr w h' it a es ep (i+1)->Heap.SameBut it s.heap h'->Q (some x) { s with heap:=h' })
  (hn:(walkVals w a es ep)[i]? = none->∀h',Heap.ExtBut it s.heap h'->Q none { s with heap:=h' }) :
  Dn (DG prog w) A (pyNext (.ref it)) Q E s:=by
 obtain ⟨t,slot,ho,T,hl,hp,hs,hit⟩:=O.st
 have hf:t.fits es.size=true:=by have:=T.fits;rwa [Eb] at this
 unfold pyNext
 refine CP (FZ (Et (name:=Str.ofString "__next__") hit.typeIs F9.fq
  (Ef F9.fq hit.typeIs F9.me ?_ (F9.ou _))))
 show Dn _ _ (fieldsOf (.ref it) >>= _) _ _ s
 refine CP (wpAny_fieldsOf hit rfl ?_)
 show Dn _ _ (setEntries a >>= _) _ _ s
 refine CP (Ky ho rfl hf ?_)
 rw[if_neg (by simp)]
 show Dn _ _ (setNext a ((slot:Int).toNat) ((i:Int).toNat) ((ep:Int).toNat) >>= _) _ _ s
 rw[Ex,Ex,Ex]
 refine CP (sq ho T hl hp hs (λx slot' ex hs' =>?_) λex =>?_)
 ·dsimp only
  refine CP (Fd hit (by simp) λh1 e1 sb1 =>?_)
  refine CP (Fd e1 (by simp) λh2 e2 sb2 =>?_)
  refine CT ⟨x,rfl,CT (hy x h2 ex ⟨t,slot',?_,T,hl,hp,hs',?_⟩ (sb1.trans sb2))⟩
  ·rw[(sb1.trans sb2).2 a (Ee hne)];exact ho
  ·unfold jl
   rw[e2]
   simp[GD]
 ·dsimp only
  refine CP (Fd hit (by simp) λh1 e1 sb1 =>?_)
  show Dn _ _ (newExc (.type "StopIteration") [] >>= _) _ _ _
  refine CP ?_
  simp only[newExc,newTuple]
  refine CP (DP ?_ (by size_fits))
  refine CP (m:=firstArgMember _ _) (E9 (a:=E6) (by first | rfl | (simp only[firstArgMember];rfl)) ?_)
  refine DP ?_ (by size_fits)
  simp only[raiseNew]
  refine CP (KW ?_)
  first | rw[show A.in1.handled=none from hh] | rw[hh]
  refine CP (CT (LR ?_))
  refine CP (FU (T := "StopIteration") (b:=true) ⟨_,C3 _ rfl,rfl⟩ Jb ?_)
  exact CT (hn ex _ ((sb1.extBut.push _).push _))
theorem qi {it a S:Addr}{es:Array (Int×CU)}{ep:Nat}{res:CU}{R:Result->CW->Prop}(hh:A.in1.handled=none)(hne:it≠a)(hSI:S≠it)(hSa:S≠a)(hz:es.size<300) :
  ∀(k i:Nat) (h:Heap) (acc:Array CU) (c:Nat),es.size-i=k->i<=es.size->sr w h it a es ep i->h.get? S=some { cls :=.type "list",dict:=none,data :=.seq acc c,slots := #[] }->acc.toList=(walkVals w a es ep).take i →
  (∀h' acc' c',(∀b o,b≠S->b≠it->h.get? b=some o->h'.get? b=some o)->h'.get? S=some { cls :=.type "list",dict:=none,data :=.seq acc' c',slots := #[] }->acc'.toList=walkVals w a es ep->R (.ok (.ret res)) { s with heap:=h' }) →
  HQ (DG prog w) A (.builtin "list.extend.loop" ⟨[.ref S,.ref it,res],[]⟩) R { s with heap:=h }:=by
 have lw:(walkVals w a es ep).length=es.size:=by rw[(m5 w a es ep).length_eq,CS,C6]
 have zl:300<=Dl:=by rw[F6];lia
 intro k
 induction k with
 | zero =>
  intro i h acc c hk hi O hS ha hR
  have hin:i=es.size:=by lia
  subst hin
  refine D2 Kt ?_
  rw[DM GL _]
  show Dn _ A.in1 (pyNext (.ref it) >>= _) _ _ { s with heap:=h }
  refine CP (t8 hh hne O (λx h' ex =>?_) λex h' xb =>?_)
  ·rw[Eu (by lia)] at ex;cases ex
  ·refine CT (hR h' acc c (λb o _ hb e=>xb b o hb e) (xb S _ hSI hS) ?_)
   rw[ha,Dj (by lia)]
 | succ k ih =>
  intro i h acc c hk hi O hS ha hR
  have hlt:i<es.size:=by lia
  refine D2 Kt ?_
  rw[DM GL _]
  show Dn _ A.in1 (pyNext (.ref it) >>= _) _ _ { s with heap:=h }
  refine CP (t8 hh hne O (λx h' ex O' sb =>?_) λex =>?_)
  ·have hS':h'.get? S=some { cls :=.type "list",dict:=none,data :=.seq acc c,slots := #[] }:=by rw[sb.2 S hSI];exact hS
   have hal:acc.size=i:=by rw[<- C6,ha,D6];lia
   show Dn _ A.in1 (updateSeq S (·.push x) >>= _) _ _ _
   refine CP ?_
   refine ER (s:={ s with heap:=h' }) hS' rfl (CT ⟨Es GL _,ih (i+1) _ (acc.push x) _ (by lia) hlt ?_ (DV _ hS' rfl) ?_ λh'' acc' c' kk hS'' ha' =>?_⟩)
    (by rw[hal];lia) (by show (acc.push x).size<=Dl+1;rw[Gu,hal];lia)
   ·obtain ⟨t,slot,ho,T,hl,hp,hs,hit⟩:=O'.st
    exact ⟨t,slot,(Dx _ _ hSa).trans ho,T,hl,hp,hs,(Dx _ _ hSI).trans hit⟩
   ·rw[FC,ha,L3,ex];rfl
   ·refine hR h'' acc' c' (λb o hb hb2 e=>kk b o hb hb2 ?_) hS'' ha'
    refine (Dx _ _ (Ee hb)).trans ?_
    rw[sb.2 b hb2];exact e
  ·rw[CV (by lia)] at ex;cases ex
theorem qj {a:Addr}{es:Array (Int×CU)}{R:List CU->CW->Prop}(hh:A.handled=none)(I:df w s.heap a es)(hz:es.size<300)
  (h:∀h1 vs,vs.Perm (es.toList.map (·.2))->(∀b o,s.heap.get? b=some o->h1.get? b=some o)->s.heap.objs.size<=h1.objs.size->R vs { s with heap:=h1 }) :
  Dn (DG prog w) A (collect (.ref a)) R E s:=by
 obtain ⟨ep,t,ho,T,rm,hl,hp⟩:=I
 have hf:t.fits es.size=true:=by have:=T.fits;rwa [Eb] at this
 have hlt:=Dc ho
 unfold collect
 refine CP (GV (D2 JZ ?_))
 rw[DM J0 _]
 show Dn _ A.in1 (newList [] >>= λl=>again (.builtin "list.__iadd__" ⟨[l,.ref a],[]⟩)) _ _ s
 refine CP (DP ?_)
 refine CT ⟨Es HX _,D2 Lb ?_⟩
 rw[DM HX _]
 show Dn _ A.in1 (Ed (.ref s.heap.objs.size) (.ref a) (.ref s.heap.objs.size)) _ _ _
 unfold Ed
 have hSa:s.heap.objs.size≠a:=FK hlt
 have z1:(s.heap.push { cls :=.type "list",data :=.seq ([]:List CU).toArray }).objs.size=s.heap.objs.size+1:=Ek _ _
 have ho1:(s.heap.push { cls :=.type "list",data :=.seq ([]:List CU).toArray }).get? a=some (aQ es ep t):=CQ _ ho
 have hT1:Shared.TypeIs { s with heap:=s.heap.push { cls :=.type "list",data :=.seq ([]:List CU).toArray } } (.ref a) "set" :=⟨_,ho1,rfl⟩
 refine CP (Fx hT1 ?_)
 have h1:Fm (.ref s.heap.objs.size) (.ref a)=false:=by simp[Fm,hSa]
 have h2:(Fl "set" == Fl "list")=false:=by decide
 have h3:(Fl "set" == Fl "tuple")=false:=by decide
 simp only[h1,h2,h3,KP,Dt,if_false]
 refine CP (HZ hT1 LJ (Ef LJ hT1 F9.kS ?_ (F.args_set_iter_1 _)))
 unfold Builtin.«frozenset.__iter__» Builtin.Frozenset.slot0 slotArgs
 simp only[List.isEmpty_nil,EX,Dt, ↓reduceIte,bind_assoc,FL,bne_self_eq_false]
 unfold Builtin.Frozenset.addrOf Builtin.Frozenset.sizeOf
 refine CP (CT ?_)
 try dsimp only
 refine CP (CT ?_)
 refine CP (CP (Ky ho1 rfl hf (CT ?_)))
 refine CP ?_
 unfold setDrawn
 refine CP (bD ho1 T ?_)
 dsimp only
 refine CP (jk ?_)
 show Dn _ _ (pure (!w.params.followText "set-order" && (!t.plain && decide (es.size>1)))) _ _ _
 rw[hp]
 simp only[EX,Hm,IU]
 refine CT ?_
 simp only[Dt,if_false]
 refine CP (CT ?_)
 refine CP (wpAny_setEpoch_of ho1 rfl hf ?_)
 refine CP (DP (CT ⟨_,rfl, "set_iterator",_,⟨_,C3 _ rfl,rfl⟩,F9.fq.lookup,?_⟩))
 have zit:(s.heap.push { cls :=.type "list",data :=.seq ([]:List CU).toArray }).objs.size=s.heap.objs.size+1:=z1
 show Dn _ A.in1 (Jd [.ref (s.heap.push { cls :=.type "list",data :=.seq ([]:List CU).toArray }).objs.size] (E4 (.ref a)) >>= _) _ _ { s with heap:=(s.heap.push { cls :=.type "list",data :=.seq ([]:List CU).toArray }).push { cls :=.type "set_iterator",data :=.fields #[GD 0,GD 0,.ref a,GD es.size,GD ep] } }
 rw[zit]
 generalize hH:(s.heap.push { cls :=.type "list",data :=.seq ([]:List CU).toArray }).push { cls :=.type "set_iterator",data :=.fields #[GD 0,GD 0,.ref a,GD es.size,GD ep] }=H
 have kH:∀b o,(s.heap.push { cls :=.type "list",data :=.seq ([]:List CU).toArray }).get? b=some o->H.get? b=some o:=λb o e=>by rw[<- hH];exact CQ _ e
 have zH:H.objs.size=s.heap.objs.size+2:=by rw[<- hH,Ek,z1]
 have hit:jl H (s.heap.objs.size+1) a 0 0 es.size ep:=by
  unfold jl
  rw[<- hH, <- z1]
  exact C3 _ rfl
 have hT2:Shared.TypeIs { s with heap:=H } (.ref a) "set" :=⟨_,kH _ _ ho1,rfl⟩
 refine CP (Er ?_)
 unfold E4
 refine CP (FP hT2 F.slot_set_len.lookup ?_)
 dsimp only
 rw[show splitId "set.__len__" = some ("set", "__len__") by kernel_rfl]
 dsimp only
 refine CP (FU hT2 sub_set_self ?_)
 simp only[EX,Dt,if_false]
 show Dn _ _ (typeOf (.ref a) >>= _) _ _ _
 refine CP (Fx hT2 ?_)
 refine CT ?_
 show Dn _ A.in1 (rule "list.extend.makes-room" >>= λ_=>Builtin.List.listTouch (.ref s.heap.objs.size) >>= λ_ =>
  again (.builtin "list.extend.loop" ⟨[.ref s.heap.objs.size,.ref (s.heap.objs.size+1),.ref s.heap.objs.size],[]⟩)) _ _ _
 refine CP (Fi ?_)
 have hS₁:H.get? s.heap.objs.size=some { cls :=.type "list",data :=.seq ([]:List CU).toArray }:=kH _ _ (C3 _ rfl)
 refine CP ?_
 show Dn _ A.in1 (updateSeq s.heap.objs.size (·.push .none) >>= λ_=>updateSeq s.heap.objs.size (·.pop)) _ _ _
 refine CP (ER (s:={ s with heap:=H }) hS₁ rfl ?_)
 have hS₂:=DV (EZ (·.push E6)) hS₁ rfl
 refine ER hS₂ rfl ?_
 have hS₃:=DV (EZ (·.pop)) hS₂ rfl
 have oth:∀b o,b≠s.heap.objs.size->H.get? b=some o->((H.update s.heap.objs.size (EZ (·.push E6))).update s.heap.objs.size (EZ (·.pop))).get? b=some o :=
  λb o hb e=>(Dx _ _ (Ee hb)).trans ((Dx _ _ (Ee hb)).trans e)
 refine CT ⟨Es GL _,qi (it:=s.heap.objs.size+1) (a:=a) (es:=es) (ep:=ep) (s:=s) hh (FK (D4 hlt)) (Dk (EB _)) hSa hz es.size 0 _ _ _ rfl (DS _)
  ⟨t,0,oth a _ (Ee hSa) (kH _ _ ho1),T,hl,hp,λ_=>r6 T.rise,oth _ _ (FK (EB _)) hit⟩ hS₃ rfl λh' acc' c' kk hS' ha =>?_⟩
 show Dn _ A (load s.heap.objs.size >>= _) _ _ { s with heap:=h' }
 refine CP (Jp hS' ?_)
 have kf:∀b o,s.heap.get? b=some o->h'.get? b=some o:=λb o e=>by
  have:=Dc e
  exact kk b o (Dk this) (Dk (D4 this)) (oth b o (Dk this) (kH b o (CQ _ e)))
 refine CT ?_
 rw[ha]
 exact h h' _ (m5 w a es ep) kf (GZ (Dc hS'))
end
open PySem PySem.SetTable PyProof.Rows Srt
def Kd.sub {prog:Dp}{w:DW}{κ:Type}(kd:Kd prog w κ)(M:CU->Prop):Kd prog w κ where
 El:=λh v k=>kd.El h v k/\M v
 hash:=kd.hash
 room:=kd.room
 keeps:=λx t=>⟨kd.keeps x.1 t,x.2⟩
 inj:=λx y=>kd.inj x.1 y.1
 add:=by
  intro A E s a es v k Q hr I els hv hz hin hnew
  refine kd.add hr I (λe he =>?_) hv.1 hz (λx tk htk=>hin ?_ tk htk) λx h' es' tk htk sb I' pm=>hnew ?_ h' es' tk htk sb I' pm
  ·obtain ⟨k',a1,a2,a3⟩:=els e he;exact ⟨k',a1,a2⟩
  ·obtain ⟨e,he,y⟩:=x
   obtain ⟨k',a1,a2,a3⟩:=els e he
   exact ⟨e,he,y,a3⟩
  ·rintro ⟨e,he,y,_⟩;exact x ⟨e,he,y⟩
section
variable  {prog:Dp}{w:DW}{A:Ec}{E:CU->CW->Prop}{s:CW}{O:IH}{key:CU->O.α}
theorem su {a:Addr}{es:Array (Int×CU)}{Q:CU->CW->Prop}(hh:A.handled=none)(I:df w s.heap a es)(hz:es.size<300)(C:∀vs:List CU,vs.Perm (es.toList.map (·.2))->iE prog w s vs O key)
  (h:∀(h':Heap) (p:Addr) (out:List CU) (n:Nat),(∀b o,s.heap.get? b=some o->h'.get? b=some o)->s.heap.objs.size<=p->h'.get? p=some (seqObj "list" out.toArray n)->out.Perm (es.toList.map (·.2))->out.Pairwise (λx y=>O.kle (key x) (key y))->Q (.ref p) { s with heap:=h' }) :
  Dn (DG prog w) A (call (.builtin "sorted") [.ref a]) Q E s:=by
 refine Hq LS Lp Lq (Lr _) ?_
 unfold Builtin.«sorted»
 refine CP (m:=checkCount "sorted" 1 1 _) (CT ?_)
 refine CP (qj (by simpa using hh) I hz λh1 vs pv k1 z1 =>?_)
 have hz':vs.length<=Dl:=by
  rw[pv.length_eq,CS,C6]
  have:300<=Dl:=by rw[F6];lia
  lia
 refine CP (Iv ?_ hz')
 have hoL:(h1.push (seqObj "list" vs.toArray 0)).get? h1.objs.size=some (seqObj "list" vs.toArray 0):=C3 _ rfl
 have kL:∀b o,s.heap.get? b=some o->(h1.push (seqObj "list" vs.toArray 0)).get? b=some o:=λb o e=>CQ _ (k1 b o e)
 refine CP (Er (Ef slot_list_sort ⟨_,hoL,rfl⟩ entry_list_sort (eB (key:=key) (O:=O) hoL hz' (λh2 h6 k6 =>?_) λout pm ps=>⟨_,rfl,?_⟩) (Kp _)))
 ·exact (C vs pv).ok h2 _ h6 λb o e=>k6 b o (Dk (Dw (Dc e) z1)) (kL b o e)
 ·obtain ⟨n,en⟩:=KZ (out:=out.toArray) hoL
  refine CT ⟨_,rfl,h _ _ out n (λb o e =>?_) z1 en (pm.trans pv) ps⟩
  have lt:=Dw (Dc e) z1
  rw[Kq (Dk lt) (by rw[Lj];exact D4 lt)]
  exact kL b o e
end
end STab
namespace L2
open PySem PySem.Spec PyProof.Rows
section
variable  {X:Cx}
def eD (w:DW)(a:Addr)(ys:List V):HO :=.ext λh=>∃es,STab.df w h a es/\Vals ys (es.toList.map (·.2))
theorem t9 {prog:Dp}{w:DW}{H:Hp}{h:Heap}{a:Addr}{ys:List V}{es:Array (Int×CU)}(I:STab.df w h a es)(r:Vals ys (es.toList.map (·.2))):bA prog w (upd H a (eD w a ys)) h a (eD w a ys):=by
 refine ⟨⟨es,I,r⟩,?_,λh1 h2 ⟨es',I',r'⟩ k=>⟨es',I'.at k,r'⟩⟩
 obtain ⟨ep,t,ho,_⟩:=I
 exact ⟨_,ho⟩
theorem qk:∀{ns:List Int} {xs:List CU} {prog:Dp} {w:DW},FH xs ns->ItemsAre (intKind prog w) ns xs
 | _,_,_,_,.nil =>.nil
 | _,_,_,_,.cons n t r =>.cons (Jq _ _ _ _) (qk r)
theorem Inv.tk {pins:List (Addr×Obj)}{σ:St}{H:Hp}{s:CW}(I:Inv X pins σ H s){b:Addr}{ns:List Int}(h:SqT X.K H b (ns.map V.int)):STab.TK X.prog X.w s.heap ns b:=by
 obtain ⟨its,r,⟨o,e,c,n,d⟩,_⟩:=I.tuple h
 exact ⟨o,_,n,e,c,d,qk (by simpa using cE r)⟩
theorem pull {α β:Type}{f:α -> β}{ts:List α}:∀{l:List β},(∀v∈l,∃t∈ts,v=f t)->∃us:List α,l=us.map f/\∀t∈us,t∈ts
 | [],_=>⟨[],rfl,λt h=>by cases h⟩
 | v :: l,h=>by
  obtain ⟨t,ht,e⟩:=h v Dr
  obtain ⟨us,e2,m⟩:=pull (l:=l) λv' hv=>h v' (Ds _ hv)
  refine ⟨t :: us,by rw[DK, <- e, <- e2],λt' ht' =>?_⟩
  rcases Dm.mp ht' with rfl | h'
  ·exact ht
  ·exact m _ h'
theorem vJ (hh:X.A.handled=none)(hu:X.A.units+64<cLine):bB X (.type "set") (λxs H Q=>∃(p:Addr) (ts:List (Addr×List Int)),xs=[.ref p]/\(SqL X.K H p (ts.map λt =>.ref t.1)\/SqT X.K H p (ts.map λt =>.ref t.1))/\(∀t∈ts,SqT X.K H t.1 (t.2.map V.int))/\ts.length<300 ∧
  ∀(a:Addr) (us:List (Addr×List Int)),H a=none->(∀t∈us,t∈ts)->(us.map (·.2)).Nodup->(∀t∈ts,t.2∈us.map (·.2))->us.length<=ts.length->Q (.ref a) (upd H a (eD X.w a (us.map λt =>.ref t.1)))):=by
 intro pins s σ H xs vs Q I r h
 obtain ⟨p,ts,rfl,hs,ht,hl,q⟩:=h
 obtain ⟨u,rfl,ru⟩:=vals1 r
 cases (show u=Dv p from ru)
 have goal:∀(items:Array CU),items.toList=(ts.map λt=>Dv t.1)->∀(h':Heap) (es:Array (Int×CU)) (tk:Nat),s.toks<=tk->STab.df X.w h' s.heap.objs.size es->STab.Good ((STab.jN X.prog X.w).sub (· ∈ items.toList)) h' es (ts.map (·.2)) →
   (∀b o,s.heap.get? b=some o->h'.get? b=some o)->EP X pins σ Q (.ref s.heap.objs.size) { s with heap:=h',toks:=tk }:=by
  intro items ei h' es tk _ S G k
  obtain ⟨us,eu,mu⟩:=pull (f:=λt:Addr×List Int=>Dv t.1) (ts:=ts) (l:=es.toList.map (·.2)) (λv hv=>by
   obtain ⟨e,he,rfl⟩:=DH.mp hv
   obtain ⟨_,_,_,_,m⟩:=G.el e (DT.mp he)
   rw[ei] at m
   obtain ⟨t,ht',e'⟩:=DH.mp m
   exact ⟨t,ht',e'.symm⟩)
  have tk':∀t∈us,STab.TK X.prog X.w h' t.2 t.1:=λt m=>(I.tk (ht t (mu t m))).keep λb o _ e=>k b o e
  have elu:∀t∈us,((STab.jN X.prog X.w).sub (· ∈ items.toList)).El h' (.ref t.1) t.2:=λt m=>⟨⟨t.1,rfl,tk' t m⟩,by
   rw[ei];exact DH.mpr ⟨t,mu t m,rfl⟩⟩
  have nd:(us.map (·.2)).Nodup:=by
   have d:=G.dis
   have d2:(es.toList.map (·.2)).Pairwise (λv v'=>∀k,((STab.jN X.prog X.w).sub (· ∈ items.toList)).El h' v k->¬ ((STab.jN X.prog X.w).sub (· ∈ items.toList)).El h' v' k):=by
    rw[Ep];exact d
   rw[eu,Ep] at d2
   unfold List.Nodup
   rw[Ep]
   refine d2.imp_of_mem λ{t t'} m m' x e=>x t.2 (elu t m) ?_
   have:=elu t' m'
   rw[<- e] at this
   exact this
  have cov:∀t∈ts,t.2∈us.map (·.2):=λt m=>by
   obtain ⟨e,he,x,_⟩:=G.all t.2 (DH.mpr ⟨t,m,rfl⟩)
   have:e.2∈us.map λt=>Dv t.1:=by rw[<- eu];exact DH.mpr ⟨e,DT.mpr he,rfl⟩
   obtain ⟨u,hu',e'⟩:=DH.mp this
   obtain ⟨b,eb,x⟩:=x
   rw[<- e'] at eb
   injection eb with eb
   subst eb
   exact DH.mpr ⟨u,hu',(tk' u hu').inj x⟩
  have hlen:us.length<=ts.length:=by
   have:=G.len
   rw[CS] at this
   have e2:=congrArg List.length eu
   rw[CS,CS,C6] at e2
   lia
  refine ⟨.ref s.heap.objs.size,_,I.laid k (C0 _) (t9 (ys:=us.map λt=>V.ref t.1) S (by rw[eu];exact gu)),rfl,q _ us (I.hok.fresh (C0 _)) mu nd cov hlen⟩
 have rm:((STab.jN X.prog X.w).sub (λv=>True)).room X.A.in1.in1.in1:=by show X.A.units+1+1+1<cLine;lia
 have itm:∀(its:List CU),its=(ts.map λt=>Dv t.1)->∀(i:Nat) (v:CU),its.toArray[i]? = some v->∃q,(ts.map (·.2))[i]? = some q/\((STab.jN X.prog X.w).sub (· ∈ its.toArray.toList)).El s.heap v q:=by
  intro its ei i v hv
  rw[DJ,ei,C8] at hv
  cases ht':ts[i]? with
  | none=>rw[ht'] at hv;cases hv
  | some t =>
   rw[ht'] at hv
   cases hv
   have m:=C7 ht'
   refine ⟨t.2,by rw[C8,ht'];rfl,⟨t.1,rfl,I.tk (ht t m)⟩,?_⟩
   show Dv t.1∈its
   rw[ei]
   exact DH.mpr ⟨t,m,rfl⟩
 rcases hs with hs | hs
 ·obtain ⟨its,rv,⟨o,n,e,c,dn,d⟩,z⟩:=I.list hs
  have ei:=eL rv
  have lz:its.length=ts.length:=by rw[ei,CS]
  refine STab.call_set_list (kd:=(STab.jN X.prog X.w).sub (· ∈ its.toArray.toList)) (items:=its.toArray) (ks:=ts.map (·.2)) hh rm ⟨o,e,c,n,d⟩ (by simp[lz]) (λi v hv =>?_) (by simpa [lz] using hl) (goal its.toArray (by simpa using ei))
  exact itm its ei i v hv
 ·obtain ⟨its,rv,⟨o,e,c,n,d⟩,z⟩:=I.tuple hs
  have ei:=eL rv
  have lz:its.length=ts.length:=by rw[ei,CS]
  refine STab.fM (kd:=(STab.jN X.prog X.w).sub (· ∈ its.toArray.toList)) (items:=its.toArray) (ks:=ts.map (·.2)) hh rm ⟨o,e,c,n,d⟩ (by simp[lz]) (λi v hv =>?_) (by simpa [lz] using hl) (goal its.toArray (by simpa using ei))
  exact itm its ei i v hv
theorem vK (hh:X.A.handled=none):bB X (.type "set") (λxs H Q=>∃(p:Addr) (ns:List Int),xs=[.ref p]/\(SqL X.K H p (ns.map V.int)\/SqT X.K H p (ns.map V.int))/\ns.length<300 ∧
  ∀(a:Addr) (us:List Int),H a=none->(∀k,k∈us↔k∈ns)->us.Nodup->us.length<=ns.length->Q (.ref a) (upd H a (eD X.w a (us.map V.int)))):=by
 intro pins s σ H xs vs Q I r h
 obtain ⟨p,ns,rfl,hs,hl,q⟩:=h
 obtain ⟨u,rfl,ru⟩:=vals1 r
 cases (show u=Dv p from ru)
 have goal:∀(h':Heap) (es:Array (Int×CU)) (tk:Nat),s.toks<=tk->STab.df X.w h' s.heap.objs.size es->STab.Good (STab.tZ X.prog X.w) h' es ns →
   (∀b o,s.heap.get? b=some o->h'.get? b=some o)->EP X pins σ Q (.ref s.heap.objs.size) { s with heap:=h',toks:=tk }:=by
  intro h' es tk _ S G k
  have sh:∀v∈es.toList.map (·.2),∃k t,v=ES k t:=λv hv=>by
   obtain ⟨e,he,rfl⟩:=DH.mp hv
   obtain ⟨k',_,_,t,e'⟩:=G.el e (DT.mp he)
   exact ⟨k',t,e'⟩
  have ru:=fj (eJ sh)
  have mem:∀k,k∈(es.toList.map (·.2)).map Srt.intOf↔k∈ns:=λk=>by
   constructor
   ·intro m
    obtain ⟨v,hv,rfl⟩:=DH.mp m
    obtain ⟨e,he,rfl⟩:=DH.mp hv
    obtain ⟨k',mk,_,t,e'⟩:=G.el e (DT.mp he)
    rw[e'];exact mk
   ·intro m
    obtain ⟨e,he,t,e'⟩:=G.all k m
    exact DH.mpr ⟨e.2,DH.mpr ⟨e,DT.mpr he,rfl⟩,by rw[e'];rfl⟩
  have nd:((es.toList.map (·.2)).map Srt.intOf).Nodup:=by
   unfold List.Nodup
   rw[Ep,Ep]
   refine G.dis.imp_of_mem λ{e e'} m m' x y =>?_
   obtain ⟨k1,_,_,t1,e1⟩:=G.el e (DT.mp m)
   obtain ⟨k2,_,_,t2,e2⟩:=G.el e' (DT.mp m')
   rw[e1,e2] at y
   have y':k1=k2:=y
   subst y'
   exact x k1 ⟨t1,e1⟩ ⟨t2,e2⟩
  refine ⟨.ref s.heap.objs.size,_,I.laid k (C0 _) (t9 S ru),rfl,q _ _ (I.hok.fresh (C0 _)) mem nd (by rw[CS,CS,C6];exact G.len)⟩
 have itm:∀(its:List CU),Vals (ns.map V.int) its->∀(i:Nat) (v:CU),its.toArray[i]? = some v->∃q,ns[i]? = some q/\(STab.tZ X.prog X.w).El s.heap v q:=by
  intro its rv i v hv
  have hI:=cE rv
  obtain ⟨t,e⟩:=IntsAre.int_at hI i v (by rw[DJ] at hv;exact hv)
  have hlt:i<ns.length:=by
   have:=hI.length
   rw[DJ] at hv
   have:=(C9.mp hv).1
   lia
  refine ⟨ns.getD i 0,?_,t,e⟩
  rw[Df,CV hlt]
  rfl
 rcases hs with hs | hs
 ·obtain ⟨its,rv,⟨o,n,e,c,dn,d⟩,z⟩:=I.list hs
  have lz:its.length=ns.length:=by have:=rv.length;rw[CS] at this;exact this.symm
  exact STab.call_set_list (kd:=STab.tZ X.prog X.w) (items:=its.toArray) (ks:=ns) hh trivial ⟨o,e,c,n,d⟩ (by simp[lz]) (itm its rv) (by simpa [lz] using hl) goal
 ·obtain ⟨its,rv,⟨o,e,c,n,d⟩,z⟩:=I.tuple hs
  have lz:its.length=ns.length:=by have:=rv.length;rw[CS] at this;exact this.symm
  exact STab.fM (kd:=STab.tZ X.prog X.w) (items:=its.toArray) (ks:=ns) hh trivial ⟨o,e,c,n,d⟩ (by simp[lz]) (itm its rv) (by simpa [lz] using hl) goal
theorem Inv.eD {pins:List (Addr×Obj)}{σ:St}{H:Hp}{s:CW}(I:Inv X pins σ H s){a:Addr}{ys:List V}(h:H a=some (eD X.w a ys)):∃es,STab.df X.w s.heap a es/\Vals ys (es.toList.map (·.2)):=by
 exact (I.hok a _ h).1
theorem mf (hh:X.A.handled=none):bB X (.builtin "sorted") (λxs H Q=>∃(a:Addr) (ts:List (Addr×List Int)),xs=[.ref a]/\H a=some (eD X.w a (ts.map λt =>.ref t.1))/\(∀t∈ts,SqT X.K H t.1 (t.2.map V.int)/\t.2≠[])/\ts.length<300 ∧
  ∀(l:Addr) (out:List (Addr×List Int)),H l=none->out.Perm ts->out.Pairwise (λa b=>HT.lexLt b.2 a.2=false)->Q (.ref l) (upd H l (.lst (out.map λt =>.ref t.1)))):=by
 intro pins s σ H xs us Q I r h
 obtain ⟨a,ts,rfl,hs,ht,hl,q⟩:=h
 obtain ⟨u,rfl,ru⟩:=vals1 r
 cases (show u=Dv a from ru)
 obtain ⟨es,S,rv⟩:=I.eD hs
 have ei:=eL rv
 have lz:es.size=ts.length:=by have:=rv.length;simp at this;lia
 have tup:∀t∈ts,Srt.dJ s.heap (Dv t.1) t.2:=λt hm=>by
  obtain ⟨jts,jr,⟨jo,je,jc,jn,jd⟩,_⟩:=I.tuple (ht t hm).1
  exact ⟨t.1,jo,_,jn,rfl,je,jc,jd,by simpa using cE jr⟩
 have hv:∀v∈es.toList.map (·.2),∃ns,Srt.dJ s.heap v ns/\ns≠[]:=λv hv=>by
  rw[ei] at hv
  obtain ⟨t,hm,rfl⟩:=DH.mp hv
  exact ⟨t.2,tup t hm,(ht t hm).2⟩
 refine STab.su (O:=Srt.lexOrd) (key:=Srt.cM s.heap) hh S (by lia) (λvs pv=>Srt.iI λv hm=>hv v (pv.mem_iff.mp hm)) λh' l out m k hl' el pm ps =>?_
 rw[ei] at pm
 obtain ⟨out',pm',rfl⟩:=kP pm
 have z:ts.length<=Dl:=by have:300<=Dl:=(by rw[F6];lia);lia
 refine ⟨.ref l,_,I.newList k hl' el gu (by rw[CS,pm'.length_eq];exact z),rfl,q l _ (I.hok.fresh hl') pm' ?_⟩
 refine (Ep.mp ps).imp_of_mem λ{a b} ha hb le =>?_
 have le':HT.lexLt (Srt.cM s.heap (Dv b.1)) (Srt.cM s.heap (Dv a.1))=false:=le
 rw[(tup a (pm'.mem_iff.mp ha)).ints,(tup b (pm'.mem_iff.mp hb)).ints] at le'
 exact le'
end
open PySem PySem.Spec PyProof.Rows
section
variable  {X:Cx}{w:DW}
theorem kU (hw:X.w=w)(hh:X.A.handled=none)(hu:X.A.units+64<cLine):bB X (.type "set") (λxs H Q=>∃(p:Addr) (ts:List (Addr×List Int)),xs=[.ref p]/\(SqL X.K H p (ts.map λt =>.ref t.1)\/SqT X.K H p (ts.map λt =>.ref t.1))/\(∀t∈ts,SqT X.K H t.1 (t.2.map V.int))/\ts.length<300 ∧
  ∀(a:Addr) (us:List (Addr×List Int)),H a=none->(∀t∈us,t∈ts)->(us.map (·.2)).Nodup->(∀t∈ts,t.2∈us.map (·.2))->us.length<=ts.length->Q (.ref a) (upd H a (eD w a (us.map λt =>.ref t.1)))):=by
 subst hw
 exact vJ hh hu
theorem sv (hw:X.w=w)(hh:X.A.handled=none):bB X (.type "set") (λxs H Q=>∃(p:Addr) (ns:List Int),xs=[.ref p]/\(SqL X.K H p (ns.map V.int)\/SqT X.K H p (ns.map V.int))/\ns.length<300 ∧
  ∀(a:Addr) (us:List Int),H a=none->(∀k,k∈us↔k∈ns)->us.Nodup->us.length<=ns.length->Q (.ref a) (upd H a (eD w a (us.map V.int)))):=by
 subst hw
 exact vK hh
theorem fN (hw:X.w=w)(hh:X.A.handled=none):bB X (.builtin "sorted") (λxs H Q=>∃(a:Addr) (ts:List (Addr×List Int)),xs=[.ref a]/\H a=some (eD w a (ts.map λt =>.ref t.1))/\(∀t∈ts,SqT X.K H t.1 (t.2.map V.int)/\t.2≠[])/\ts.length<300 ∧
  ∀(l:Addr) (out:List (Addr×List Int)),H l=none->out.Perm ts->out.Pairwise (λa b=>HT.lexLt b.2 a.2=false)->Q (.ref l) (upd H l (.lst (out.map λt =>.ref t.1)))):=by
 subst hw
 exact mf hh
end
open PySem PySem.Spec PyProof.Rows
section
variable  {X:Cx}
def tBMT (r:V->List V->Hp->VK->Prop)(to:TE)(t:TA):TE:=λσ H Q=>to σ H λx H1=>(∃p xs,x = .ref p/\H1 p=some (.tup xs))/\t σ H1 λxs H2=>r x xs H2 Q
theorem sC {o e:Expr}{es:List Expr}{to:TE}{t:TA}{name:Str}{apos cpos:Pos}{id:String}{r:V->List V->Hp->VK->Prop}(slot:Slot "tuple" name id)(hty:typeOf (.builtin id)=pure (.type "method_descriptor"))(hm:MtR X id r)(ho:PE X o to)(ha:PA X (e :: es) t)
  (hbase:attributeBase o name X.env (eval o X.env)=eval o X.env:=by rfl)
  (hfew:((Ig cpos (En (e :: es) X.env)).all (λx => !x.1) && (backToKw cpos (keywordEach [] X.env)).all (λx=>x.1.isSome)
   && decide ((e :: es).length+([]:List Keyword).length+(if ([]:List Keyword).isEmpty then 0 else 1)<30))=true:=by rfl)
  (hline:(apos.endLine == cpos.line)=true:=by rfl) (hs:En (e :: es) X.env=(false,eval e X.env) :: En es X.env:=by rfl) (hplain:(Ig cpos (En es X.env)).any (·.1)=false:=by rfl) :
  PE X (.Call (.Attribute o name apos) (e :: es) [] cpos) (tBMT r to t):=by
 intro pins s σ H Q I h
 refine JO hbase hfew hline rfl (thn (ho pins s σ H _ I h) λv s1 ⟨x,H1,I1,r1,ty,q1⟩ =>?_)
 obtain ⟨p,xs,rfl,hp⟩:=ty
 cases (show v=Dv p from r1)
 obtain ⟨_,its,_,ob,e1,⟨c1,d1⟩,n,s1'⟩:=(show bA X.prog X.w H1 s1.heap p (.tup xs) from I1.hok p _ hp)
 refine ⟨"tuple",id,PySem.F.plainAttrs_tuple,slot,hty,⟨ob,e1,c1⟩,λa e=>by cases e;exact ⟨ob,e1,d1⟩,?_⟩
 have hA:=ha cpos pins s1 σ H1 _ I1 q1
 rw[hs] at hA ⊢
 refine HS (by show (false || (Ig cpos (En es X.env)).any (·.1))=false;rw[hplain] <;> rfl) (Kj ?_)
 exact thn hA λus s2 ⟨vs,H2,I2,r2,q2⟩=>hm pins s2 σ H2 (.ref p) vs _ us Q I2 rfl r2 q2
theorem m7 {A:Ec}{s:CW}{k:Int}{t:Tok}{its:List CU}{ns:List Int}(hi:FH its ns):∀y,y∈its.toArray->Ki A s y (.int k t) (isInt k y):=λy hy =>
 (eq_isInt k t hi y (by simpa using hy)).at _ _
theorem vL:MtR X "tuple.count" (λx vs H Q=>∃(p:Addr) (ns:List Int) (k:Int),x = .ref p/\vs=[.int k]/\H p=some (.tup (ns.map V.int))/\Q (.int (ns.count k:Nat)) H):=by
 intro pins s σ H x vs v us Q I rx rv h
 obtain ⟨p,ns,k,rfl,rfl,hp,q⟩:=h
 cases rx
 obtain ⟨u,rfl,⟨t,rfl⟩⟩:=vals1 rv
 obtain ⟨z,its,r,ob,e1,⟨c1,d1⟩,n,s1⟩:=(show bA X.prog X.w H s.heap p (.tup _) from I.hok p _ hp)
 have hi:FH its ns:=intsAre_of r
 obtain ⟨cls,dd,data,sl⟩:=ob
 simp only at c1 s1
 subst c1 s1
 refine HY Gx ⟨_,e1,rfl⟩ IZ (IM _ _) (Ku p its.toArray n dd sl (.int k t) (isInt k)) ⟨e1,λy hy=>m7 hi y hy,?_⟩
 rw[show its.toArray.toList=its from rfl,countP_isInt k hi]
 exact ⟨.int _,H,I.tok _,⟨_,rfl⟩,q⟩
theorem m8:∀{ns:List Int} {xs:List CU} {prog:Dp} {w:DW},FH xs ns->ItemsAre (intKind prog w) ns xs
 | _,_,_,_,.nil =>.nil
 | _,_,_,_,.cons n t r =>.cons (Jq _ _ _ _) (m8 r)
theorem Inv.tkA {pins:List (Addr×Obj)}{σ:St}{H:Hp}{s:CW}(I:Inv X pins σ H s){b:Addr}{ns:List Int}(h:SqT X.K H b (ns.map V.int))(prog:Dp)(w:DW):IsTupleKey (intKind prog w) s.heap ns b:=by
 obtain ⟨its,r,⟨o,e,c,n,d⟩,_⟩:=I.tuple h
 exact ⟨o,_,n,e,c,d,m8 (by simpa using intsAre_of r)⟩
theorem Inv.eqT {pins:List (Addr×Obj)}{σ:St}{H:Hp}{s:CW}(I:Inv X pins σ H s){A:Ec}(hu:A.units<cLine){a b:Addr}{ns ms:List Int}(h1:SqT X.K H a (ns.map V.int))(h2:SqT X.K H b (ms.map V.int)):Ki A s (.ref a) (.ref b) (decide (ns=ms)) :=
 λprog w E Q q=>K0 hu (I.tkA h1 prog w) (I.tkA h2 prog w) q
theorem kX:∀{ps:List (Addr×List Int)} {us:List CU},Vals (ps.map λx=>V.ref x.1) us->us=ps.map λx=>Dv x.1
 | [],_,r=>by cases r;rfl
 | p :: ps,_,r=>by
  cases r with
  | cons h t=>rw[DK, <- kX t,show _=Dv p.1 from h]
noncomputable def ow (ts:List (Addr×List Int))(m:List Int):CU->Bool:=λv=>decide (∃t∈ts,v = .ref t.1/\t.2=m)
theorem ng {pins:List (Addr×Obj)}{σ:St}{H:Hp}{s:CW}(I:Inv X pins σ H s){ts:List (Addr×List Int)}(ht:∀t∈ts,SqT X.K H t.1 (t.2.map V.int)){m:List Int}{t:Addr×List Int}(hm:t∈ts):ow ts m (.ref t.1)=decide (t.2=m):=by
 unfold ow
 by_cases e:t.2=m
 ·rw[decide_eq_true e,decide_eq_true ⟨t,hm,rfl,e⟩]
 ·rw[decide_eq_false e,decide_eq_false]
  rintro ⟨t',m',e1,e2⟩
  injection e1 with e1
  have:=I.gn (ht t hm) (by rw[e1];exact ht t' m')
  have inj:Function.Injective V.int:=λa b h=>by injection h
  have:t.2=t'.2:=(List.map_inj_right (λx y h=>inj h)).mp this
  exact e (this.trans e2)
theorem kY {pins:List (Addr×Obj)}{σ:St}{H:Hp}{s:CW}(I:Inv X pins σ H s){ts:List (Addr×List Int)}(ht:∀t∈ts,SqT X.K H t.1 (t.2.map V.int)){m:List Int}:∀us:List (Addr×List Int),(∀t∈us,t∈ts)->(us.map λt=>Dv t.1).countP (ow ts m)=(us.map (·.2)).count m
 | [],_=>rfl
 | u :: us,h=>by
  rw[DK,DK,List.countP_cons,G3,kY I ht us (λt hm=>h t (Ds _ hm)),ng I ht (h u Dr)]
  by_cases e:u.2=m
  ·rw[decide_eq_true e,e];simp
  ·rw[decide_eq_false e];simp[e]
theorem sD (hu:X.A.units+8<cLine):MtR X "tuple.count" (λx vs H Q=>∃(p b:Addr) (ts:List (Addr×List Int)) (m:List Int),x = .ref p/\vs=[.ref b]/\H p=some (.tup (ts.map λt =>.ref t.1))/\(∀t∈ts,H t.1=some (.tup (t.2.map V.int)))/\H b=some (.tup (m.map V.int))/\Q (.int ((ts.map (·.2)).count m:Nat)) H):=by
 intro pins s σ H x vs v us Q I rx rv h
 obtain ⟨p,b,ts,m,rfl,rfl,hp,ht,hb,q⟩:=h
 cases rx
 obtain ⟨u,rfl,ru⟩:=vals1 rv
 cases (show u=Dv b from ru)
 have ht':∀t∈ts,SqT X.K H t.1 (t.2.map V.int):=λt hm=>SqT.of (ht t hm)
 obtain ⟨z,its,r,ob,e1,⟨c1,d1⟩,n,s1⟩:=(show bA X.prog X.w H s.heap p (.tup _) from I.hok p _ hp)
 have ei:=kX r
 obtain ⟨cls,dd,data,sl⟩:=ob
 simp only at c1 s1
 subst c1 s1
 refine HY Gx ⟨_,e1,rfl⟩ IZ (IM _ _) (Ku p its.toArray n dd sl (.ref b) (ow ts m)) ⟨e1,λy hy =>?_,?_⟩
 ·have hy':y∈its:=by simpa using hy
  rw[ei] at hy'
  obtain ⟨t,hm,rfl⟩:=DH.mp hy'
  rw[ng I ht' hm]
  exact I.eqT (by show X.A.units+1<cLine;lia) (ht' t hm) (SqT.of hb)
 ·rw[show its.toArray.toList=its from rfl,ei,kY I ht' ts (λt h=>h)]
  exact ⟨.int _,H,I.tok _,⟨_,rfl⟩,q⟩
theorem fO:∀{its:List CU} {ns:List Int},FH its ns->∃xs:List (Int×Tok),its=xs.map (λp=>ES p.1 p.2)/\xs.map (·.1)=ns
 | _,_,.nil=>⟨[],rfl,rfl⟩
 | _,_,.cons n t r=>by
  obtain ⟨xs,e1,e2⟩:=fO r
  exact ⟨(n,t) :: xs,by rw[DK, <- e1],by rw[DK,e2]⟩
theorem xK (hh:X.A.handled=none):bB X (.builtin "sum") (λxs H Q=>∃(p:Addr) (ns:List Int),xs=[.ref p]/\H p=some (.lst (ns.map V.int))/\Q (.int ns.sum) H):=by
 intro pins s σ H xs us Q I r h
 obtain ⟨p,ns,rfl,hp,q⟩:=h
 obtain ⟨u,rfl,ru⟩:=vals1 r
 cases (show u=Dv p from ru)
 obtain ⟨z,its,n,r,e1⟩:=(show bA X.prog X.w H s.heap p (.lst _) from I.hok p _ hp)
 obtain ⟨zs,e2,e3⟩:=fO (intsAre_of r)
 have ei:its.toArray=FQ zs.toArray:=by rw[e2];simp[FQ]
 refine sum_intListG hh (xs:=zs.toArray) ⟨_,e1,rfl,n,by rw[ei]⟩ λh' tk t' k =>?_
 rw[preSum_eq,Dj (by simp),e3]
 exact ⟨.int _,H,I.kept k,⟨_,rfl⟩,q⟩
end
end L2
namespace HT
open PySem PySem.Spec PyProof.Rows
section
variable  {prog:Dp}{w:DW}{A:Ec}{E:CU->CW->Prop}{s:CW}
theorem gC {t sl:Addr}{items:Array CU}{vl vu:CU}{lo hi:Option Int}{Q:CU->CW->Prop}(ht:IsTup s.heap t items)(hs:s.heap.IsSliceOf sl vl vu .none)(pl:IsPart vl lo)(pu:IsPart vu hi)
  (hw:sIx items.size 0 lo=0/\sIx items.size items.size hi=items.size) (h:Q (.ref t) s):Dn (DG prog w) A (getItem (.ref t) (.ref sl)) Q E s:=by
 obtain ⟨os,hos,hcs,hds⟩:=id hs
 have hTs:s.TypeIs (.ref sl) "slice" :=⟨os,hos,hcs⟩
 unfold getItem
 try with_reducible refine Er ?_
 first | refine CP (CT ?_) | skip
 refine CP (Li ht.typeIs (by decide) ?_)
 refine CP (Et (name:=Str.ofString "__getitem__") ht.typeIs Ej
  (Ef Ej ht.typeIs entry_tuple_getitem ?_ (KU _ _)))
 show Dn _ _ (Builtin.Tuple.tupleItemsOf (.ref t) >>= _) _ _ s
 refine CP (tupleItemsOf_ ht ?_)
 refine CP (Fx hTs ?_)
 rw[if_pos (by decide)]
 refine CP (eI hs pl pu ?_)
 show Dn _ _ (if (((sIx items.size 0 lo:Nat):Int) == 0 && (1:Int) == 1 && (sIx items.size items.size hi-sIx items.size 0 lo) == items.size)=true then _ else _) _ _ s
 rw[hw.1,hw.2,if_pos (by simp)]
 unfold Builtin.Tuple.tupleIsExact
 refine CP (CP (Fx ht.typeIs (CT ?_)))
 rw[if_pos (by decide)]
 exact CP (Fi (CT ⟨_,rfl,CT h⟩))
end
end HT
namespace L2
open PySem PySem.Spec PyProof.Rows
section
variable  {X:Cx}
theorem zz:SlR X (λx lo hi H Q=>∃a xs,x = .ref a/\SqT X.K H a xs/\((HT.sIx xs.length 0 lo=0/\HT.sIx xs.length xs.length hi=xs.length)->Q (.ref a) H) ∧
  (¬ (HT.sIx xs.length 0 lo=0/\HT.sIx xs.length xs.length hi=xs.length)->∀p,H p=none->Q (.ref p) (upd H p (.tup (e6 xs lo hi))))):=by
 intro pins s σ H x v vl vu lo hi sl Q I rx hs pl pu h
 obtain ⟨a,xs,rfl,hx,q1,q2⟩:=h
 by_cases hw:HT.sIx xs.length 0 lo=0/\HT.sIx xs.length xs.length hi=xs.length
 ·cases rx
  obtain ⟨its,r,ht,hz⟩:=I.tuple hx
  have hlen:its.toArray.size=xs.length:=by rw[De];exact r.length.symm
  refine ⟨"tuple",_,Ej.lookup,ht.typeIs,?_⟩
  exact HT.gC ht hs pl pu (by rw[hlen];exact hw) ⟨.ref a,H,I,rfl,q1 hw⟩
 ·exact A1 pins s σ H _ v vl vu lo hi sl Q I rx hs pl pu ⟨a,xs,rfl,hx,hw,q2 hw⟩
theorem ql:bB X (.type "range") (λxs H Q=>∃n:Int,xs=[.int n]/\∀a,H a=none->Q (.ref a) (upd H a (.rng 0 n))):=by
 intro pins s σ H xs us Q I r h
 obtain ⟨n,rfl,q⟩:=h
 obtain ⟨u,rfl,⟨t,rfl⟩⟩:=vals1 r
 refine call_range_1 ?_
 exact ⟨.ref s.heap.objs.size,_,I.laid (o :=.rng 0 n) (λb ob q=>CQ _ q) (C0 _) ⟨_,_,_,C3 _ rfl⟩,rfl,q _ (I.hok.fresh (C0 _))⟩
end
section
variable  {prog:Dp}{w:DW}{A:Ec}{E:CU->CW->Prop}{s:CW}
theorem mh {R:List CU->CW->Prop}{r:Addr}{n:Nat}{t u v:Tok}(hh:A.handled=none)(hr:IsRange s.heap r 0 n 1 t u v)(hn:n<=2 ^ 24)
    (h:∀(h1:Heap) (tk:Nat) (vs:List CU),vs.length=n->(∀(i:Nat) (x:CU),vs[i]? = some x->∃t,x = .int i t)->(∀b o,s.heap.get? b=some o->h1.get? b=some o)->R vs { s with heap:=h1,toks:=tk }) :
    Dn (DG prog w) A (collect (.ref r)) R E s:=by
  have hlt:r<s.heap.objs.size:=Dc (show s.heap.get? r=some _ from hr)
  unfold collect
  refine CP (GV (D2 Iz ?_))
  rw[DM IA _]
  show Dn _ A.in1 (newList [] >>= λl=>again (.builtin "list.__iadd__" ⟨[l,.ref r],[]⟩)) _ _ s
  refine CP (DP ?_)
  refine CT ⟨Es GN _,D2 Jv ?_⟩
  rw[DM GN _]
  show Dn _ A.in1 (Ed (.ref s.heap.objs.size) (.ref r) (.ref s.heap.objs.size)) _ _ { s with heap:=s.heap.push { cls :=.type "list",data :=.seq ([]:List CU).toArray } }
  have hr1:IsRange (s.heap.push { cls :=.type "list",data :=.seq ([]:List CU).toArray }) r 0 n 1 t u v:=CQ _ hr
  have rs:Builtin.Range.rangeSize 0 (n:Int) 1=(n:Int):=by
    rw[rangeSize_one]
    split <;> lia
  have hlen24:n<=16777216:=hn
  have hS0:(s.heap.push { cls :=.type "list",data :=.seq ([]:List CU).toArray }).get? s.heap.objs.size=some { cls :=.type "list",data :=.seq #[] 0 }:=C3 _ rfl
  refine wpAny_extend_range (A:=A) (R:=λres s'=>match res with
      | .ok (.ret v)=>Dn (DG prog w) A (match v with | .ref a=>(do match (← load a).data with | .seq xs _=>pure xs.toList | _=>unsupported "internal:collect") | _=>unsupported "internal:collect") R E s'
      | .ok _=>False
      | .error e=>E e s') (s:={ s with heap:=s.heap.push { cls :=.type "list",data :=.seq ([]:List CU).toArray } }) hh hr1 (small_one (by lia) (by lia) (by lia) (by lia)) rs hn s.heap.objs.size (.ref s.heap.objs.size) 0 hS0 λh' tk acc' c' kk hS' hacc =>?_
  show Dn _ A (load s.heap.objs.size >>= _) _ _ { s with heap:=h',toks:=tk }
  refine CP (Jp hS' ?_)
  refine CT (h h' tk acc'.toList (by rw[C6];exact hacc.1) (λi x hx =>?_) λb o e=>kk b o (Dk (Dc e)) (CQ _ e))
  rw[Dh] at hx
  obtain ⟨t',e⟩:=hacc.2 i x hx
  exact ⟨t',by rw[e];simp⟩
theorem fH (r:Addr)(n:Nat)(t u v:Tok)(hn:n<=1000) :
  Meets (Builtin.«tuple.__new__» ⟨[.type "tuple",.ref r],[]⟩)
   (λA R s=>A.handled=none/\IsRange s.heap r 0 n 1 t u v/\∀(h':Heap) (tk:Nat) (vs:List CU),vs.length=n->(∀(i:Nat) (x:CU),vs[i]? = some x->∃t,x = .int i t)->(∀b o',s.heap.get? b=some o'->h'.get? b=some o')->R (.ok (.ret (.ref h'.objs.size))) { s with heap:=h'.push { cls :=.type "tuple",data :=.seq vs.toArray },toks:=tk }) :=
 .of_wp λprog w A R s h=>by
  obtain ⟨hp,g,d,tk,os⟩:=s;obtain ⟨hh,ht,h⟩:=h
  have hsub:=sub_tuple_self
  have hinit:=Lk
  have hmh:=madeHere_tuple
  have hT:Shared.TypeIs ⟨hp,g,d,tk,os⟩ (.ref r) "range" :=⟨_,ht,rfl⟩
  wp_walk using Fx hT,mh (by simpa using hh) ht (by lia)
  intro h' tk' vs lv hv hk
  show Dn _ _ (Builtin.Tuple.tupleExact vs.toArray >>= λv=>ret v) _ _ _
  unfold Builtin.Tuple.tupleExact
  refine CP (DP ?_ (by show vs.toArray.size<=Dl;rw[De,lv];exact small hn))
  exact CT ⟨_,rfl,h h' tk' vs lv hv hk⟩
end
section
variable  {X:Cx}
theorem sE:∀{vs:List CU},(∀(i:Nat) (x:CU),vs[i]? = some x->∃t,x=ES i t)->Vals ((EF vs.length).map λi=>V.int (i:Nat)) vs:=by
 suffices h:∀(vs:List CU) (k:Nat),(∀(i:Nat) (x:CU),vs[i]? = some x->∃t,x=ES ((i+k:Nat):Int) t)->Vals ((List.range' k vs.length).map λi=>V.int (i:Nat)) vs by
  intro vs hv
  have:=h vs 0 hv
  rw[List.range_eq_range']
  exact this
 intro vs
 induction vs with
 | nil=>intro k _;exact .nil
 | cons x vs ih =>
  intro k hv
  rw[DF,JC,DK]
  refine .cons ?_ (ih (k+1) λi y hy =>?_)
  ·obtain ⟨t,e⟩:=hv 0 x rfl
   exact ⟨t,by rw[e,GF]⟩
  ·obtain ⟨t,e⟩:=hv (i+1) y (by rw[Fs];exact hy)
   exact ⟨t,by rw[e,show i+1+k=i+(k+1) by lia]⟩
theorem qm (hh:X.A.handled=none):bB X (.type "tuple") (λxs H Q=>∃(a:Addr) (n:Nat),xs=[.ref a]/\H a=some (.rng 0 n)/\n<=1000/\∀l,H l=none->Q (.ref l) (upd H l (.tup ((EF n).map λi=>V.int (i:Nat))))):=by
 intro pins s σ H xs us Q I r h
 obtain ⟨a,n,rfl,ha,hn,q⟩:=h
 obtain ⟨u,rfl,ru⟩:=vals1 r
 cases (show u=Dv a from ru)
 obtain ⟨t,u,v,e⟩:=(show bA X.prog X.w H s.heap a (.rng 0 n) from I.hok a _ ha)
 refine IS Kk (by decide) (Ji _) (Jw _) (λobj=>Hk obj _) Jx
  (fH a n t u v hn) ⟨by simpa using hh,e,λh' tk vs lv hv k=>⟨⟨_,C3 _ rfl,rfl⟩,?_⟩⟩
 have I1:Inv X pins σ H { s with heap:=h',toks:=tk }:=I.kept k
 have rv:=sE hv
 rw[lv] at rv
 exact ⟨.ref h'.objs.size,_,I1.laid (o :=.tup ((EF n).map λi=>V.int (i:Nat))) (λb ob q=>CQ _ q) (C0 _) ⟨by rw[CS,FF];exact small hn,vs,rv,dA.new _ _⟩,rfl,q _ (I1.hok.fresh (C0 _))⟩
end
open PySem PySem.Spec PyProof.Rows
section
variable  {κ:Type}[DecidableEq κ]
def cP (kvs:List (κ×V))(k:κ):Option V:=(kvs.find? λkv=>decide (kv.1=k)).map (·.2)
def putK (kvs:List (κ×V))(k:κ)(v:V):List (κ×V) :=
 if (kvs.any λkv=>decide (kv.1=k))=true then kvs.map (λkv=>if kv.1=k then (kv.1,v) else kv) else kvs++[(k,v)]
theorem fP {p:κ×V}{r:List (κ×V)}{k:κ}(e:p.1=k):cP (p :: r) k=some p.2:=by simp[cP,G4,e]
theorem fQ {p:κ×V}{r:List (κ×V)}{k:κ}(e:¬ p.1=k):cP (p :: r) k=cP r k:=by simp[cP,G4,e]
theorem kZ (k:κ):∀kvs:List (κ×V),(kvs.any λkv=>decide (kv.1=k))=(cP kvs k).isSome
 | []=>rfl
 | p :: r=>by
  rw[HJ]
  by_cases e:p.1=k
  ·simp only[fP e,decide_eq_true e,Bool.true_or,Option.isSome_some]
  ·rw[fQ e,decide_eq_false e,Mc];exact kZ k r
theorem fR (kvs:List (κ×V))(k:κ)(v:V):(putK kvs k v).length<=kvs.length+1:=by
 unfold putK
 split
 ·rw[CS];lia
 ·rw[C1,DF,FL];lia
theorem qo {kvs:List (κ×V)}{k:κ}(v:V)(h:cP kvs k=none):putK kvs k v=kvs++[(k,v)]:=by
 unfold putK
 rw[kZ,h]
 exact if_neg (by decide)
theorem lS.jm {o:Option V}{u:Option CU}(r:lS o u):o.isSome=u.isSome:=by
 cases o with
 | none=>cases u with
  | none=>rfl
  | some _=>exact (show False from r).elim
 | some _=>cases u with
  | none=>exact (show False from r).elim
  | some _=>rfl
theorem KV.val {kvs:List (κ×V)}{vs:List (κ×CU)}(r:KV kvs vs)(k:κ):lS (cP kvs k) (valueAt vs k):=by
 unfold KV at r
 induction r with
 | nil=>exact True.intro
 | @cons p q ps qs h t ih =>
  obtain ⟨h1,h2⟩:=h
  by_cases e:p.1=k
  ·have e':q.1=k:=h1.symm.trans e
   have b:valueAt (q :: qs) k=some q.2:=by simp[valueAt,G4,e']
   rw[fP e,b];exact h2
  ·have e':¬ q.1=k:=λz=>e (h1.trans z)
   have b:valueAt (q :: qs) k=valueAt qs k:=by simp[valueAt,G4,e']
   rw[fQ e,b];exact ih
theorem KV.any {kvs:List (κ×V)}{vs:List (κ×CU)}(r:KV kvs vs)(k:κ):(kvs.any λkv=>decide (kv.1=k))=vs.any λkv=>decide (kv.1=k):=by
 unfold KV at r
 induction r with
 | nil=>rfl
 | cons h t ih=>rw[HJ,HJ,ih,h.1]
theorem KV.Bn {kvs:List (κ×V)}{vs:List (κ×CU)}(r:KV kvs vs)(k:κ){y:V}{u:CU}(ry:RelV y u) :
  KV (kvs.map λkv=>if kv.1=k then (kv.1,y) else kv) (vs.map λkv=>if kv.1=k then (kv.1,u) else kv):=by
 unfold KV at r ⊢
 induction r with
 | nil=>exact .nil
 | @cons p q ps qs h t ih =>
  rw[DK,DK]
  refine .cons ?_ ih
  obtain ⟨h1,h2⟩:=h
  by_cases e:p.1=k
  ·rw[if_pos e,if_pos (h1.symm.trans e)];exact ⟨h1,ry⟩
  ·rw[if_neg e,if_neg (λz=>e (h1.trans z))];exact ⟨h1,h2⟩
theorem KV.put {kvs:List (κ×V)}{vs:List (κ×CU)}(r:KV kvs vs)(k:κ){y:V}{u:CU}(ry:RelV y u):KV (putK kvs k y) (stored vs k u):=by
 unfold putK stored
 rw[r.any k]
 by_cases e:(vs.any λkv=>decide (kv.1=k))=true
 ·rw[if_pos e,if_pos e];exact r.Bn k ry
 ·rw[if_neg e,if_neg e];exact Mn r ⟨rfl,ry⟩
theorem KV.length {kvs:List (κ×V)}{vs:List (κ×CU)}(r:KV kvs vs):kvs.length=vs.length:=HE r
end
theorem qp {P:Dp}{w:DW}{k:Key}{u:CU}(r:RelV (kV k) u):(bz P w).is k u=true:=by
 cases k with
 | inl i=>obtain ⟨t,e⟩:=(show ∃t,u=ES i t from r);subst e;exact pE P w i t
 | inr x=>obtain ⟨t,e⟩:=(show ∃t,u=Value.str x t from r);subst e;exact pF P w x t
theorem nh {P:Dp}{w:DW}:∀{ks:List Key} {us:List CU},Vals (ks.map kV) us->ItemsAre (bz P w) ks us
 | [],_,r=>by rw[JQ] at r;cases r;exact .nil
 | k :: ks,_,r=>by
  rw[DK] at r
  cases r with
  | cons h t=>exact .cons (qp h) (nh t)
abbrev KT (H:Hp):List (List Key×V)->List (List Key×Addr×CU)->Prop:=Paired λp q=>p.1=q.1/\H q.2.1=some (.tup (p.1.map kV))/\RelV p.2 q.2.2
theorem KT.val {H:Hp}{kvs:List (List Key×V)}{xs:List (List Key×Addr×CU)}(r:KT H kvs xs)(k:List Key):lS (cP kvs k) ((atKey xs k).map (·.2)):=by
 induction r with
 | nil=>exact True.intro
 | @cons p q ps qs h t ih =>
  obtain ⟨h1,_,h2⟩:=h
  by_cases e:p.1=k
  ·have e':q.1=k:=h1.symm.trans e
   have b:atKey (q :: qs) k=some q.2:=by simp[atKey,G4,e']
   rw[fP e,b];exact h2
  ·have e':¬ q.1=k:=λz=>e (h1.trans z)
   have b:atKey (q :: qs) k=atKey qs k:=by simp[atKey,G4,e']
   rw[fQ e,b];exact ih
theorem KT.Bn {H:Hp}{kvs:List (List Key×V)}{xs:List (List Key×Addr×CU)}(r:KT H kvs xs)(k:List Key){y:V}{u:CU}(ry:RelV y u) :
  KT H (kvs.map λkv=>if kv.1=k then (kv.1,y) else kv) (xs.map (putAt k u)):=by
 induction r with
 | nil=>exact .nil
 | @cons p q ps qs h t ih =>
  rw[DK,DK]
  refine .cons ?_ ih
  obtain ⟨h1,h2,h3⟩:=h
  unfold putAt
  by_cases e:p.1=k
  ·rw[if_pos e,if_pos (h1.symm.trans e)];exact ⟨h1,h2,ry⟩
  ·rw[if_neg e,if_neg (λz=>e (h1.trans z))];exact ⟨h1,h2,h3⟩
theorem KT.put {H:Hp}{kvs:List (List Key×V)}{xs:List (List Key×Addr×CU)}(r:KT H kvs xs)(k:List Key){b:Addr}{y:V}{u:CU}(hb:H b=some (.tup (k.map kV)))(ry:RelV y u) :
  KT H (putK kvs k y) (storedH xs k b u):=by
 have e:(kvs.any λkv=>decide (kv.1=k))=(atKey xs k).isSome:=by
  rw[kZ,(r.val k).jm,Lc]
 unfold putK storedH
 rw[e]
 by_cases q:(atKey xs k).isSome=true
 ·rw[if_pos q,if_pos q];exact r.Bn k ry
 ·rw[if_neg q,if_neg q];exact Mn r ⟨rfl,hb,ry⟩
theorem KT.keeps {H H':Hp}{kvs:List (List Key×V)}{xs:List (List Key×Addr×CU)}(r:KT H kvs xs)(ht:∀b ys,H b=some (.tup ys)->H' b=some (.tup ys)):KT H' kvs xs :=
 Paired.AG r λ_ _ z=>⟨z.1,ht _ _ z.2.1,z.2.2⟩
section
variable  {P:Dp}{w:DW}{H:Hp}{h:Heap}{a:Addr}
theorem Ao {u:HO}(ok:HOk P w H h)(e:Rd H a u):bA P w H h a u:=e.ok ok
theorem uc {kvs:List (Key×V)}(ok:HOk P w H h)(e:Rd H a (.dK kvs)):kvs.length<=Dl/\(a == sysModules)=false/\∃vs,KV kvs vs/\h.DictOf (bz P w) a vs :=
 show bA P w H h a (.dK kvs) from Ao ok e
theorem ud {kvs:List (Key×V)}(ok:HOk P w H h)(e:H a=some (.dK kvs)):kvs.length<=Dl/\(a == sysModules)=false/\∃vs,KV kvs vs/\h.DictOf (bz P w) a vs:=uc ok (.inl e)
theorem ox {ks:List Key}(ok:HOk P w H h)(e:H a=some (.tup (ks.map kV))):(tupleKind (bz P w)).is h ks a:=by
 obtain ⟨_,its,r,o,h1,h2,n,h3⟩:=(show bA P w H h a (.tup (ks.map kV)) from ok a _ e)
 exact ⟨o,its.toArray,n,h1,h2.1,h3,by simpa using nh r⟩
theorem ue {kvs:List (List Key×V)}(ok:HOk P w H h)(e:Rd H a (.dT kvs)):kvs.length<=Dl/\(a == sysModules)=false ∧
  ∃xs,KT H kvs xs/\h.DictOfH (tupleKind (bz P w)) a xs:=by
 obtain ⟨z,y,xs,r,o,es,ep,h1,h2,h3,h4,h5⟩:=(show bA P w H h a (.dT kvs) from Ao ok e)
 refine ⟨z,y,xs,r,o,es,ep,h1,h2,h3,h4,λx hx =>?_,h5⟩
 have all:∀{l:List (List Key×V)} {m:List (List Key×Addr×CU)},KT H l m->∀x∈m,(tupleKind (bz P w)).is h x.1 x.2.1:=by
  intro l m q
  induction q with
  | nil=>intro x hx;exact nomatch hx
  | @cons p q ps qs hq t ih =>
   intro x hx
   rcases Dm.mp hx with e | hx
   ·subst e
    exact ox ok (by rw[<- hq.1];exact hq.2.1)
   ·exact ih x hx
 exact all r x hx
theorem Ck {kvs:List (List Key×V)}(ok:HOk P w H h)(e:H a=some (.dT kvs)):kvs.length<=Dl/\(a == sysModules)=false ∧
  ∃xs,KT H kvs xs/\h.DictOfH (tupleKind (bz P w)) a xs:=ue ok (.inl e)
end
def iL (H:Hp)(a:Addr)(y:V)(r:Option V):Prop :=
 (∃kvs k,Rd H a (.dK kvs)/\y=kV k/\r=cP kvs k)\/∃kvs k b,Rd H a (.dT kvs)/\y = .ref b/\H b=some (.tup (k.map kV))/\r=cP kvs k
def mj (H:Hp)(a:Addr)(y v:V)(H':Hp):Prop :=
 (∃kvs k,H a=some (.dK kvs)/\y=kV k/\kvs.length<Dl/\H'=upd H a (.dK (putK kvs k v))) ∨
 ∃kvs k b,H a=some (.dT kvs)/\y = .ref b/\H b=some (.tup (k.map kV))/\kvs.length<Dl/\H'=upd H a (.dT (putK kvs k v))
theorem iL.k {H:Hp}{a:Addr}{kvs:List (Key×V)}{k:Key}(e:H a=some (.dK kvs)):iL H a (kV k) (cP kvs k) :=.inl ⟨kvs,k,.inl e,rfl,rfl⟩
theorem mj.k {H:Hp}{a:Addr}{kvs:List (Key×V)}{k:Key}{v:V}(e:H a=some (.dK kvs))(hl:kvs.length<Dl):mj H a (kV k) v (upd H a (.dK (putK kvs k v))) :=.inl ⟨kvs,k,e,rfl,hl,rfl⟩
section
variable  {X:Cx}{pins:List (Addr×Obj)}{σ:St}{H:Hp}{s:CW}{a:Addr}{y v:V}{u r:CU}{o:Option V}{A:Ec}{E:CU->CW->Prop}
theorem Inv.big (I:Inv X pins σ H s):sysModules<s.heap.objs.size:=by
 have h:Eg<s.heap.objs.size:=(I.mod.glob.keeps I.bk).lt
 exact Nat.lt_trans (by decide) h
theorem vM {Q:CU->CW->Prop}(hu:A.units+1<cLine)(I:Inv X pins σ H s)(g:iL H a y (some v))(ry:RelV y u)(h:∀w' s',Inv X pins σ H s'->RelV v w'->Q w' s') :
  Dn (DG X.prog X.w) A (getItem (.ref a) u) Q E s:=by
 rcases g with ⟨kvs,k,e,ey,l⟩ | ⟨kvs,k,b,e,ey,eb,l⟩
 ·subst ey
  obtain ⟨z,hd,vs,rel,dd⟩:=uc I.hok e
  obtain ⟨w',hw,rw'⟩:=lS.some_of (v:=v) (o:=valueAt vs k) (by rw[l];exact rel.val k)
  exact wpAny_getItem_of (qp ry) dd.mapOf hw (h w' _ (I.tok _) rw')
 ·subst ey
  cases (show u=Dv b from ry)
  obtain ⟨z,hd,xs,rel,dd⟩:=ue I.hok e
  obtain ⟨w',hw,rw'⟩:=lS.some_of (v:=v) (o:=(atKey xs k).map (·.2)) (by rw[l];exact rel.val k)
  obtain ⟨p,hp,hp2⟩:=EW.mp hw
  refine wpAny_getItem_heap (IT hu) (ox I.hok eb) dd hp ?_
  rw[hp2]
  exact h w' _ (I.tok _) rw'
theorem zA {Q:CU->CW->Prop}(hu:A.units+1<cLine)(I:Inv X pins σ H s)(g:iL H a y o)(ry:RelV y u)(h:∀s',Inv X pins σ H s'->Q (.bool (!o.isSome)) s') :
  Dn (DG X.prog X.w) A (E3 .NotIn u (.ref a)) Q E s:=by
 rcases g with ⟨kvs,k,e,ey,l⟩ | ⟨kvs,k,b,e,ey,eb,l⟩
 ·subst ey
  obtain ⟨z,hd,vs,rel,dd⟩:=uc I.hok e
  refine wpAny_notIn_of (qp ry) hd dd.mapOf ?_
  rw[<- (rel.val k).jm, <- l]
  exact h _ (I.tok _)
 ·subst ey
  cases (show u=Dv b from ry)
  obtain ⟨z,hd,xs,rel,dd⟩:=ue I.hok e
  refine wpAny_notIn_heap (IT hu) (ox I.hok eb) hd dd ?_
  have q:=(rel.val k).jm
  rw[Lc] at q
  rw[<- q, <- l]
  exact h _ (I.tok _)
theorem oy {h':Heap}{t':Nat}{ob:HO}(I:Inv X pins σ H s)(mu:Mut (H a))(hs:Heap.SameBut a s.heap h')(he:∃q,h'.get? a=some q)(new:bA X.prog X.w (upd H a ob) h' a ob) :
  Inv X pins σ (upd H a ob) { s with heap:=h',toks:=t' } :=
 I.write (x:=a) (e:=a) mu (.inl rfl) (λb q hb z=>(hs.2 b hb).trans z) he new
theorem xM {P:Dp}{w:DW}{H':Hp}{h':Heap}{kvs:List (Key×V)}{vs:List (Key×CU)}(z:kvs.length<=Dl)(hd:(a == sysModules)=false)(rel:KV kvs vs)(dd:h'.DictOf (bz P w) a vs) :
  bA P w H' h' a (.dK kvs):=⟨z,hd,vs,rel,dd⟩
theorem vN {H':Hp}{Q:Unit->CW->Prop}(hu:A.units+1<cLine)(I:Inv X pins σ H s)(g:mj H a y v H')(ry:RelV y u)(rv:RelV v r)(h:∀s',Inv X pins σ H' s'->Q () s') :
  Dn (DG X.prog X.w) A (setItem (.ref a) u r) Q E s:=by
 rcases g with ⟨kvs,k,e,ey,l,eH⟩ | ⟨kvs,k,b,e,ey,eb,l,eH⟩
 ·subst ey eH
  obtain ⟨z,hd,vs,rel,dd⟩:=ud I.hok e
  have hz:vs.length<=Dl:=by rw[<- rel.length];exact z
  have hl:(putK kvs k v).length<=Dl:=by have:=fR kvs k v;lia
  refine wpAny_setItem_pairs (hsz:=hz) (qp ry) dd λh' dd' hs=>h _ ?_
  have he:∃q,h'.get? a=some q:=let ⟨q,_,_,hq,_⟩:=dd';⟨q,hq⟩
  exact oy I (by rw[e];exact True.intro) hs he (xM hl hd (rel.put k rv) dd')
 ·subst ey eH
  cases (show u=Dv b from ry)
  obtain ⟨z,hd,xs,rel,dd⟩:=Ck I.hok e
  have hz:xs.length<=Dl:=by rw[<- HE rel];exact z
  have hl:(putK kvs k v).length<=Dl:=by have:=fR kvs k v;lia
  refine wpAny_setItem_heap (hsz:=hz) (IT hu) (ox I.hok eb) dd λh' dd' hs=>h _ ?_
  obtain ⟨q,es,ep,hq,h2,h3,h4,_,h5⟩:=dd'
  refine oy I (by rw[e];exact True.intro) hs ⟨q,hq⟩ ⟨hl,hd,_,(rel.put k eb rv).keeps λc ys ec =>?_,q,es,ep,hq,h2,h3,h4,h5⟩
  rw[ay (fE ec e (λz=>nomatch z))]
  exact ec
end
section
variable  {X:Cx}{pins:List (Addr×Obj)}{σ:St}{H:Hp}{s:CW}{a:Addr}{kvs:List (Key×V)}{k:Key}{u:CU}{A:Ec}{E:CU->CW->Prop}
end
def Cm (i:Expr):Prop:=∀ov iv,subscripted i false ov iv=operate [ov,iv] (getItem ov iv)
theorem zB {prog:Dp}{w:DW}{A:Ec}{E:CU->CW->Prop}{s:CW}{env:Env}{value slice:Expr}{pos:Pos}{T id:String}{Q:CU->CW->Prop}
  (hl:typeLookup (.type T) "__getitem__" = pure (some (.builtin id))) (hs:Cm slice)
  (h:Dn (DG prog w) A (eval value env) (λo s₁=>Dn (DG prog w) A (eval slice env) (λi s₂=>s₂.TypeIs o T/\Dn (DG prog w) A (getItem o i) Q E s₂) E s₁) E s) :
  Dn (DG prog w) A (eval (.Subscript value slice pos) env) Q E s:=by
 refine Subscript_ (FG h (λo s₁ h₁=>FG h₁ (λi s₂ h₂ =>?_) λ_ _ x=>x) λ_ _ x=>x)
 obtain ⟨hT,h₂⟩:=h₂
 unfold subscriptTail
 refine CP ?_
 rw[getitemInPython_of_ne hT.not_modules]
 refine CP (FP hT hl ?_)
 have fin:Dn (DG prog w) A (subscripted slice false o i) (λr s₃=>Dn (DG prog w) A (letTemporaryGo value o r >>= λ_=>pure r) Q E s₃) E s₂:=by
  rw[hs o i]
  exact wpAny_operating (FG h₂ (λr s₃ h₃=>CP (wpAny_letTemporaryGo (CT h₃))) λ_ _ x=>x)
 first
  | exact CT (CP fin)
  | exact CP (CT (CP fin))
  | exact CP fin
theorem qq {X:Cx}{pins:List (Addr×Obj)}{σ:St}{H:Hp}{s:CW}{a:Addr}{y:V}{o:Option V}(I:Inv X pins σ H s)(g:iL H a y o):s.TypeIs (.ref a) "dict" := by
 rcases g with ⟨kvs,k,e,_,_⟩ | ⟨kvs,k,b,e,_,_,_⟩
 ·obtain ⟨_,_,vs,_,dd⟩:=uc I.hok e
  exact dd.typeIs
 ·obtain ⟨_,_,xs,_,dd⟩:=ue I.hok e
  exact dd.typeIs
def Cn (td ty:TE):TE:=λσ H Q=>td σ H λx H1=>ty σ H1 λy H2=>∃a v,x = .ref a/\iL H2 a y (some v)/\Q v H2
def zC (ty td:TE):TE:=λσ H Q=>ty σ H λy H1=>td σ H1 λx H2=>∃a o,x = .ref a/\iL H2 a y o/\Q (.bl (!o.isSome)) H2
def Co (td ty tv:TE):TS:=λD σ H=>tv σ H λv H1=>td σ H1 λx H2=>ty σ H2 λy H3=>∃a H4,x = .ref a/\mj H3 a y v H4/\D.nx σ H4
section
variable  {X:Cx}{o i e value:Expr}{pos pos' tpos:Pos}{td ty tv:TE}
theorem zD (hu:X.A.units+1<cLine)(ho:PE X o td)(hi:PE X i ty)(hs:Cm i):PE X (.Subscript o i pos) (Cn td ty):=by
 intro pins s σ H Q I h
 refine zB PySem.F.slot_dict_getitem.lookup hs (thn (ho pins s σ H _ I h) λu s1 ⟨x,H1,I1,rx,q1⟩=>thn (hi pins s1 σ H1 _ I1 q1) λiv s2 ⟨y,H2,I2,ry,a,v,ex,g,q2⟩ =>?_)
 subst ex
 obtain rfl:u=Dv a:=rx
 exact ⟨qq I2 g,vM hu I2 g ry λw' s3 I3 rw'=>⟨v,H2,I3,rw',q2⟩⟩
theorem dy (hu:X.A.units+1<cLine)(hi:PE X i ty)(ho:PE X o td):PC X .NotIn i o (zC ty td):=by
 intro pins s σ H Q I h
 refine thn (hi pins s σ H _ I h) λiv s1 ⟨y,H1,I1,ry,q1⟩=>thn (ho pins s1 σ H1 _ I1 q1) λu s2 ⟨x,H2,I2,rx,a,ov,ex,g,q2⟩ =>?_
 subst ex
 obtain rfl:u=Dv a:=rx
 exact zA hu I2 g ry λs3 I3=>⟨.bl (!ov.isSome),H2,I3,rfl,q2⟩
theorem j4 (hu:X.A.units+1<cLine)(ho:PE X o td)(hi:PE X i ty)(hv:PE X value tv)(hs:swapsWith value (some (.Subscript o i pos')) pos.line X.env=pure false) :
  PS X (.Assign [.Subscript o i pos'] value pos) (Co td ty tv):=by
 intro pins s σ H D I h
 refine wpAny_Assign_Subscript (thn (hv pins s σ H _ I h) λr s1 ⟨v,H1,I1,rv,q1⟩=>thn (ho pins s1 σ H1 _ I1 q1) λu s2 ⟨x,H2,I2,rx,q2⟩=>thn (hi pins s2 σ H2 _ I2 q2) λiv s3 ⟨y,H3,I3,ry,a,H4,ex,g,q3⟩ =>?_) hs
 subst ex
 obtain rfl:u=Dv a:=rx
 exact vN hu I3 g ry rv λs4 I4=>⟨σ,H4,I4,q3⟩
end
theorem qr {P:Dp}{w:DW}{H:Hp}(h:Heap)(hb:sysModules<h.objs.size):bA P w H (h.push { cls :=.type "dict",data :=.dict #[] }) h.objs.size (.dK []) :=
 ⟨DS _,beq_eq_false_iff_ne.mpr (Ee (Dk hb)),[],.nil,Heap.DictOf.new h⟩
def Bo:TE:=λ_ H Q=>∀p,H p=none->Q (.ref p) (upd H p (.dK []))
section
variable  {X:Cx}{pos:Pos}
theorem qu:PE X (.Dict [] [] pos) Bo:=λpins s σ H Q I h =>
 wpAny_Dict_empty ⟨.ref s.heap.objs.size,_,I.laid (a:=s.heap.objs.size) (o :=.dK []) (t':=s.toks) (λ_ _ q=>CQ _ q) (C0 _) (qr s.heap I.big),rfl,h _ (I.hok.fresh (C0 _))⟩
end
def sF:List (TE×TE)->St->Hp->(List (V×V)->Hp->Prop)->Prop
 | [],_,H,Q=>Q [] H
 | (tk,tv) :: r,σ,H,Q=>tk σ H λx H1=>tv σ H1 λy H2=>sF r σ H2 λps H3=>Q ((x,y) :: ps) H3
abbrev VV:List (V×V)->List (CU×CU)->Prop:=Paired λp q=>RelV p.1 q.1/\RelV p.2 q.2
def PPs (X:Cx)(pos:Pos)(keys:List (Option Expr))(values:List Expr)(trs:List (TE×TE)):Prop :=
 ∀(pins:List (Addr×Obj)) (s:CW) (σ:St) (H:Hp) (Q:List (V×V)->Hp->Prop),Inv X pins σ H s->sF trs σ H Q →
  Dn (DG X.prog X.w) X.A (evalPairs (pairTrees keys values X.env pos)) (λvs s'=>∃ps H',Inv X pins σ H' s'/\VV ps vs/\Q ps H') X.xe s
theorem uf {X:Cx}{pos:Pos}:PPs X pos [] [] []:=λpins s σ H Q I h=>pairTrees_nil_walk ⟨[],H,I,.nil,h⟩
theorem qv {X:Cx}{pos:Pos}{k v:Expr}{ks:List (Option Expr)}{vs:List Expr}{tk tv:TE}{trs:List (TE×TE)}(hk:PE X k tk)(hv:PE X v tv)(hr:PPs X pos ks vs trs) :
  PPs X pos (some k :: ks) (v :: vs) ((tk,tv) :: trs):=λpins s σ H Q I h =>
 pairTrees_cons_walk (thn (hk pins s σ H _ I h) λu s1 ⟨x,H1,I1,rx,q1⟩=>thn (hv pins s1 σ H1 _ I1 q1) λw2 s2 ⟨y,H2,I2,ry,q2⟩ =>
  thn (hr pins s2 σ H2 _ I2 q2) λws s3 ⟨ps,H3,I3,rel,q3⟩=>⟨(x,y) :: ps,H3,I3,.cons ⟨rx,ry⟩ rel,q3⟩)
def cY (kvs more:List (Key×V)):List (Key×V):=more.foldl (λacc kv=>putK acc kv.1 kv.2) kvs
theorem KV.merge:∀{more:List (Key×V)} {rs:List (Key×CU)} {kvs:List (Key×V)} {vs:List (Key×CU)},KV more rs->KV kvs vs->KV (cY kvs more) (merged vs rs):=by
 intro more rs kvs vs r
 unfold KV at r
 induction r generalizing kvs vs with
 | nil=>intro q;exact q
 | @cons p q ps qs h t ih =>
  intro r0
  have e:KV (putK kvs p.1 p.2) (stored vs q.1 q.2):=by
   have:=r0.put p.1 h.2
   rw[<- h.1];exact this
  exact ih e
theorem gI:∀(more kvs:List (Key×V)),(cY kvs more).length<=kvs.length+more.length
 | [],kvs=>by show kvs.length<=kvs.length+0;lia
 | p :: r,kvs=>by
  have h1:=gI r (putK kvs p.1 p.2)
  have h2:=fR kvs p.1 p.2
  show (cY (putK kvs p.1 p.2) r).length<=_
  rw[DF];lia
theorem k7 {P:Dp}{w:DW}:∀{kvs:List (Key×V)} {ws:List (CU×CU)},VV (kvs.map λkv=>(kV kv.1,kv.2)) ws->∃rs,Carries (bz P w) ws rs/\KV kvs rs
 | [],_,r=>by rw[JQ] at r;cases r;exact ⟨[],True.intro,.nil⟩
 | p :: kvs,_,r=>by
  rw[DK] at r
  cases r with
  | @cons a b as bs h t =>
   obtain ⟨rs,c,q⟩:=k7 (P:=P) (w:=w) t
   obtain ⟨b1,b2⟩:=b
   exact ⟨(p.1,b2) :: rs,⟨qp h.1,rfl,c⟩,.cons ⟨rfl,h.2⟩ q⟩
def Cp (trs:List (TE×TE)):TE:=λσ H Q=>∀p,H p=none->sF trs σ (upd H p (.dK [])) λps H2=>H2 p=some (.dK [])/\∃kvs:List (Key×V),ps=kvs.map (λkv=>(kV kv.1,kv.2))/\kvs.length<=15/\Q (.ref p) (upd H2 p (.dK (cY [] kvs)))
theorem ug {X:Cx}{pos:Pos}{keys:List (Option Expr)}{values:List Expr}{trs:List (TE×TE)}(h:PPs X pos keys values trs)(hall:keys.all (·.isSome)=true)(hl:keys.length=values.length)(h0:keys≠[])
  (h15:keys.length<=15):PE X (.Dict keys values pos) (Cp trs):=by
 intro pins s σ H Q I q
 have hn:=I.hok.fresh (C0 s.heap.objs.size)
 have I1:=I.laid (a:=s.heap.objs.size) (o :=.dK []) (h':=s.heap.push { cls :=.type "dict",data :=.dict #[] }) (t':=s.toks) (λ_ _ q=>CQ _ q) (C0 _) (qr s.heap I.big)
 refine wpAny_Dict_walk (knd:=bz X.prog X.w) hall hl h0 h15 (thn (h pins _ σ _ _ I1 (q _ hn)) λws s2 ⟨ps,H2,I2,rel,e,kvs,ep,lk,q2⟩ =>?_)
 subst ep
 obtain ⟨rs,c,rk⟩:=k7 (P:=X.prog) (w:=X.w) rel
 obtain ⟨z,hd,vs0,r0,dd⟩:=ud I2.hok e
 cases r0
 refine ⟨rs,c,dd,λh' dd' hs=>⟨.ref s.heap.objs.size,_,?_,rfl,q2⟩⟩
 have hz:(cY [] kvs).length<=Dl:=by
  have h1:=gI kvs []
  rw[FL] at h1
  rw[F6];lia
 have he:∃q,h'.get? s.heap.objs.size=some q:=let ⟨q,_,_,hq,_⟩:=dd';⟨q,hq⟩
 exact oy I2 (by rw[e];exact True.intro) hs he (xM hz hd (rk.merge .nil) dd')
section
variable  {X:Cx}{pins:List (Addr×Obj)}{σ:St}{H:Hp}{s:CW}{a:Addr}{y d:V}{u r:CU}{o:Option V}{A:Ec}{E:CU->CW->Prop}
end
section
variable  {X:Cx}{o e f:Expr}{apos cpos:Pos}{td ty tx:TE}
end
section
variable  {X:Cx}{pins:List (Addr×Obj)}{σ:St}{H:Hp}{s:CW}{a:Addr}{kvs:List (Key×V)}{A:Ec}{E:CU->CW->Prop}
end
section
variable  {X:Cx}{pins:List (Addr×Obj)}{σ:St}{H:Hp}{s:CW}{a:Addr}{y:V}{u:CU}{A:Ec}{E:CU->CW->Prop}
end
open PySem PySem.Spec PyProof.Rows
section
variable  {X:Cx}
end
section
variable  {κ:Type}[DecidableEq κ]
end
end L2
namespace SDct
open PySem PyProof.Rows Srt
section
variable  {prog:Dp}{w:DW}{K:Type}[DecidableEq K]{knd:KeyKind prog w K}{A:Ec}{E:CU->CW->Prop}{s:CW}
theorem oz {d:Addr}{kvs:List (K×CU)}{ep:Nat}{R:List CU->CW->Prop}(hh:A.handled=none)(hd:(d == sysModules)=false)(hm:s.heap.DictAt knd d kvs ep)(hz:kvs.length<=Dl)
  (h:∀h1 tk vs,vs.length=kvs.length->(∀(i:Nat) v,vs[i]? = some v->∃k x,kvs[i]? = some (k,x)/\knd.is k v=true)->(∀b o,s.heap.get? b=some o->h1.get? b=some o)->s.heap.objs.size<=h1.objs.size->R vs { s with heap:=h1,toks:=tk }) :
  Dn (DG prog w) A (collect (.ref d)) R E s:=by
 have hlt:=hm.lt_size
 unfold collect
 refine CP (GV (D2 JZ ?_))
 rw[DM J0 _]
 show Dn _ A.in1 (newList [] >>= λl=>again (.builtin "list.__iadd__" ⟨[l,.ref d],[]⟩)) _ _ s
 refine CP (DP ?_)
 refine CT ⟨Es HX _,D2 Lb ?_⟩
 rw[DM HX _]
 show Dn _ A.in1 (Ed (.ref s.heap.objs.size) (.ref d) (.ref s.heap.objs.size)) _ _ _
 unfold Ed
 have hSa:s.heap.objs.size≠d:=FK hlt
 have z1:(s.heap.push { cls :=.type "list",data :=.seq ([]:List CU).toArray }).objs.size=s.heap.objs.size+1:=Ek _ _
 have hm1:=hm.push { cls :=.type "list",data :=.seq ([]:List CU).toArray }
 have hT1:Shared.TypeIs { s with heap:=s.heap.push { cls :=.type "list",data :=.seq ([]:List CU).toArray } } (.ref d) "dict" := hm1.dictOf.typeIs
 refine CP (Fx hT1 ?_)
 have h1:Fm (.ref s.heap.objs.size) (.ref d)=false:=by simp[Fm,hSa]
 have h2:(Fl "dict" == Fl "list")=false:=by decide
 have h3:(Fl "dict" == Fl "tuple")=false:=by decide
 simp only[h1,h2,h3,KP,Dt,if_false]
 refine CP (wpAny_pyIter_dict hd hm1 ?_)
 show Dn _ A.in1 (Jd [.ref (s.heap.push { cls :=.type "list",data :=.seq ([]:List CU).toArray }).objs.size] (E4 (.ref d)) >>= _) _ _ { s with heap:=(s.heap.push { cls :=.type "list",data :=.seq ([]:List CU).toArray }).push { cls :=.type "dict_keyiterator",data :=.fields #[.ref d,.int 0 0,.int kvs.length 0,.int ep 0] } }
 rw[z1]
 generalize hH:(s.heap.push { cls :=.type "list",data :=.seq ([]:List CU).toArray }).push { cls :=.type "dict_keyiterator",data :=.fields #[.ref d,.int 0 0,.int kvs.length 0,.int ep 0] }=H
 have kH:∀b o,(s.heap.push { cls :=.type "list",data :=.seq ([]:List CU).toArray }).get? b=some o->H.get? b=some o:=λb o e=>by rw[<- hH];exact CQ _ e
 have hit:H.IsKeyIter (s.heap.objs.size+1) d 0 kvs.length ep:=by
  refine ⟨{ cls :=.type "dict_keyiterator",data :=.fields #[.ref d,.int 0 0,.int kvs.length 0,.int ep 0] },?_,rfl,rfl⟩
  rw[<- hH, <- z1]
  exact C3 _ rfl
 have hm2:H.DictAt knd d kvs ep:=hm1.keep kH
 have hT2:Shared.TypeIs { s with heap:=H } (.ref d) "dict" := hm2.dictOf.typeIs
 refine CP (Er ?_)
 unfold E4
 refine CP (FP hT2 F.slot_dict_len.lookup ?_)
 dsimp only
 rw[show splitId "dict.__len__" = some ("dict", "__len__") by kernel_rfl]
 dsimp only
 refine CP (FU hT2 (show isSubtype (.type "dict") (.type "dict")=pure true by rw[FJ];kernel_rfl) ?_)
 simp only[EX,Dt,if_false]
 show Dn _ _ (typeOf (.ref d) >>= _) _ _ _
 refine CP (Fx hT2 ?_)
 refine CT ?_
 show Dn _ A.in1 (rule "list.extend.makes-room" >>= λ_=>Builtin.List.listTouch (.ref s.heap.objs.size) >>= λ_ =>
  again (.builtin "list.extend.loop" ⟨[.ref s.heap.objs.size,.ref (s.heap.objs.size+1),.ref s.heap.objs.size],[]⟩)) _ _ _
 refine CP (Fi ?_)
 have hS₁:H.get? s.heap.objs.size=some { cls :=.type "list",data :=.seq ([]:List CU).toArray }:=kH _ _ (C3 _ rfl)
 refine CP ?_
 show Dn _ A.in1 (updateSeq s.heap.objs.size (·.push .none) >>= λ_=>updateSeq s.heap.objs.size (·.pop)) _ _ _
 refine CP (ER (s:={ s with heap:=H }) hS₁ rfl ?_)
 have hS₂:=DV (EZ (·.push E6)) hS₁ rfl
 refine ER hS₂ rfl ?_
 have hS₃:=DV (EZ (·.pop)) hS₂ rfl
 have oth:∀b o,b≠s.heap.objs.size->H.get? b=some o->((H.update s.heap.objs.size (EZ (·.push E6))).update s.heap.objs.size (EZ (·.pop))).get? b=some o :=
  λb o hb e=>(Dx _ _ (Ee hb)).trans ((Dx _ _ (Ee hb)).trans e)
 have W:=(Walks.dictKeys (prog:=prog) (w:=w) (knd:=knd) (A:=A.in1) hh (s.heap.objs.size+1) d (Dk (D4 hlt)) kvs ep).toS
 have hSf:s.heap.objs.size∉[s.heap.objs.size+1,d]:=by
  simp only[Dm,GS,or_false,not_or]
  exact ⟨Dk (EB _),hSa⟩
 refine CT ⟨Es GL _,Iq W hz _ hSf _ kvs.length 0 _ _ _ rfl (DS _) ⟨hit.at λo e=>oth _ o (FK (EB _)) e,hm2.at' λo e=>oth _ o (Ee hSa) e⟩ hS₃ (LK _) λs' acc' c' hmv hS' ha =>?_⟩
 obtain ⟨h',g',d',tk',os'⟩:=s'
 have eg:g'=s.gens:=hmv.gens
 have ed:d'=s.drawn:=hmv.drawn
 have eo:os'=s.os:=hmv.os
 subst eg;subst ed;subst eo
 show Dn _ A (load s.heap.objs.size >>= _) _ _ _
 refine CP (Jp hS' ?_)
 refine CT (h h' tk' acc'.toList (by rw[C6];exact ha.1) (λi v hv=>ha.2 i v (by rw[Dh] at hv;exact hv)) (λb o e =>?_) (GZ (Dc hS')))
 have lt:=Dc e
 refine hmv.heap b o ?_ (oth b o (Dk lt) (kH b o (CQ _ e)))
 simp only[Dm,GS,or_false,not_or]
 exact ⟨Dk lt,Dk (D4 lt)⟩
end
end SDct
namespace L2
open PySem PySem.Spec PyProof.Rows Srt
section
variable  {X:Cx}
theorem oB:∀{kvs:List (Key×V)} {vs:List (Key×CU)},KV kvs vs->vs.map (·.1)=kvs.map (·.1)
 | _,_,.nil=>rfl
 | _,_,.cons h t=>by rw[DK,DK,oB t,h.1]
theorem oD (hh:X.A.handled=none):bB X (.builtin "sorted") (λxs H Q=>∃(a:Addr) (kvs:List (Key×V)) (ks:List Int),xs=[.ref a]/\H a=some (.dK kvs)/\kvs.map (·.1)=ks.map Sum.inl/\∀(l:Addr) (out:List Int),H l=none->out.Perm ks->out.Pairwise (· <= ·)->Q (.ref l) (upd H l (.lst (out.map V.int)))):=by
 intro pins s σ H xs us Q I r h
 obtain ⟨a,kvs,ks,rfl,ha,ek,q⟩:=h
 obtain ⟨u,rfl,ru⟩:=vals1 r
 cases (show u=Dv a from ru)
 obtain ⟨z,hd,vs,rel,dd⟩:=ud I.hok ha
 obtain ⟨ep,dd⟩:=dd.dictAt
 have lv:kvs.length=vs.length:=HE rel
 have keys:vs.map (·.1)=kvs.map (·.1):=oB rel
 have lk:ks.length=vs.length:=by
  have:=congrArg List.length ek
  rw[CS,CS] at this
  lia
 refine Hq LS Lp Lq (Lr _) ?_
 unfold Builtin.«sorted»
 refine CP (m:=checkCount "sorted" 1 1 _) (CT ?_)
 refine CP (SDct.oz (by simpa using hh) hd dd (by lia) λh1 tk ws lw hw k1 z1 =>?_)
 have sh:∀(i:Nat) v,ws[i]? = some v->∃t,ks[i]? = some (intOf v)/\v = .int (intOf v) t:=λi v hv=>by
  obtain ⟨k,x,e1,e2⟩:=hw i v hv
  have e3:(vs.map (·.1))[i]? = some k:=by rw[C8,e1];rfl
  rw[keys,ek,C8] at e3
  cases hk:ks[i]? with
  | none=>rw[hk] at e3;cases e3
  | some n =>
   rw[hk] at e3
   cases e3
   obtain ⟨t,rfl⟩:=G5 (show Value.isInt n v=true from e2)
   exact ⟨t,rfl,rfl⟩
 have si:∀v∈ws,∃i t,v=ES i t:=λv hv=>by
  obtain ⟨i,hi,e⟩:=GJ hv
  obtain ⟨t,_,e2⟩:=sh i v (by rw[CV hi,e])
  exact ⟨_,t,e2⟩
 have ew:ws.map intOf=ks:=by
  apply HV
  intro i
  rw[C8]
  cases hv:ws[i]? with
  | some v=>obtain ⟨t,e,_⟩:=sh i v hv;rw[e];rfl
  | none =>
   rw[Fe] at hv
   rw[Eu (by lia)]
   rfl
 have hI:=eJ si
 rw[ew] at hI
 have hz':ws.length<=Dl:=by lia
 refine CP (Iv ?_ hz')
 have hoL:(h1.push (seqObj "list" ws.toArray 0)).get? h1.objs.size=some (seqObj "list" ws.toArray 0):=C3 _ rfl
 have kL:∀b o,s.heap.get? b=some o->(h1.push (seqObj "list" ws.toArray 0)).get? b=some o:=λb o e=>CQ _ (k1 b o e)
 have C:iE X.prog X.w { s with heap:=h1,toks:=tk } ws rY intOf:=iH hI
 refine CP (Er (Ef slot_list_sort ⟨_,hoL,rfl⟩ entry_list_sort (eB (key:=intOf) (O:=rY) hoL hz' (λh2 h6 k6 =>?_) λout pm ps=>⟨_,rfl,?_⟩) (Kp _)))
 ·exact C.ok h2 _ h6 λb o e=>k6 b o (Dk (Dc e)) (CQ _ e)
 ·obtain ⟨n,en⟩:=KZ (out:=out.toArray) hoL
  have hm:∀v∈out,∃i t,v=ES i t:=λv hv=>si v (pm.mem_iff.mp hv)
  have hO:=eJ hm
  have pm':(out.map intOf).Perm ks:=by
   have:=pm.map intOf
   rw[ew] at this
   exact this
  have kf:∀b o,s.heap.get? b=some o->(sortedHeap (h1.push (seqObj "list" ws.toArray 0)) h1.objs.size ws out.toArray).get? b=some o:=λb o e=>by
   have lt:=Dw (Dc e) z1
   rw[Kq (Dk lt) (by rw[Lj];exact D4 lt)]
   exact kL b o e
  have fr:H h1.objs.size=none:=I.hok.fresh z1
  refine CT ⟨_,rfl,.ref h1.objs.size,_,I.laid (t':=tk) (o :=.lst ((out.map intOf).map V.int)) kf z1 ⟨?_,out,n,fj hO,en⟩,rfl,q _ _ fr pm' ?_⟩
  ·rw[CS,pm'.length_eq];lia
  ·refine Ep.mpr (ps.imp λ{x y} le =>?_)
   have le':decide (intOf y<intOf x)=false:=le
   have:=of_decide_eq_false le'
   lia
end
end L2
namespace HT
open PySem PySem.Spec PyProof.Rows
section
variable  {prog:Dp}{w:DW}{A:Ec}{E:CU->CW->Prop}{s:CW}{l:Addr}{xs:Array (Int×Tok)}
theorem ni {items:Array CU}{Q:CU->CW->Prop}(hl:s.heap.IsTuple l items)
  (h:∀s₂:CW,s₂={ s with heap:=s.heap.push { cls :=.type "tuple_iterator",data :=.fields #[.ref l,.int 0 0] } } →
   (s₂.heap.IsTupleIter s.heap.objs.size l 0/\s₂.heap.IsTuple l items)->(∀b∈[s.heap.objs.size,l],b<s₂.heap.objs.size)->l≠s.heap.objs.size->Q (.ref s.heap.objs.size) s₂) :
  Dn (DG prog w) A (pyIter (.ref l)) Q E s:=by
 have hlt:l<s.heap.objs.size:=by obtain ⟨_,e,_⟩:=hl;exact Dc e
 refine Fu hl (h _ rfl ⟨⟨_,C3 _ rfl,rfl,rfl⟩,?_⟩ (λb hb =>?_) (Dk hlt))
 ·obtain ⟨o,e,c,d⟩:=hl
  exact ⟨o,CQ _ e,c,d⟩
 show b<(s.heap.push _).objs.size
 rw[Ek]
 rcases Dm.mp hb with rfl | hb
 ·exact EB _
 ·rcases Dm.mp hb with rfl | hb
  ·exact D4 hlt
  ·cases hb
theorem nj {h':Heap}(hk:∀b o,b∉[s.heap.objs.size]->(s.heap.push { cls :=.type "tuple_iterator",data :=.fields #[.ref l,.int 0 0] }).get? b=some o->h'.get? b=some o) :
  ∀b o,s.heap.get? b=some o->h'.get? b=some o:=λb o e=>by
 refine hk b o (λhm =>?_) (CQ _ e)
 rcases Dm.mp hm with e1 | hm
 ·exact absurd (e1 ▸ Dc e) (D9 _)
 ·cases hm
theorem zE {Q:CU->CW->Prop}(hh:A.handled=none)(hl:s.heap.IsTuple l (FQ xs))(hne:0<xs.size)
  (h:∀v h' tk,(FQ xs)[argBest (λi j=>decide (numAt xs i>numAt xs j)) (xs.size-1)]? = some v->(∀b o,s.heap.get? b=some o->h'.get? b=some o)->Q v { s with heap:=h',toks:=tk }) :
  Dn (DG prog w) A (call (.builtin "max") [.ref l]) Q E s:=by
 refine call_max_walk (ni hl λs₂ e st hfp hlI =>?_)
 subst e
 refine ⟨_,_,_,_,_,_,_,rfl,Ju (A:=A.in1) hh _ l hlI (FQ xs),st,hfp,by simpa [FQ] using hne,CmpOf.ints_gt (numAt xs) (λ_ _=>Kz),λv h' tk hP hk =>?_⟩
 exact h v h' tk (by simpa [FQ] using hP) (nj hk)
theorem zF {Q:CU->CW->Prop}(hh:A.handled=none)(hl:s.heap.IsTuple l (FQ xs))(hne:0<xs.size)
  (h:∀v h' tk,(FQ xs)[argBest (λi j=>decide (numAt xs i<numAt xs j)) (xs.size-1)]? = some v->(∀b o,s.heap.get? b=some o->h'.get? b=some o)->Q v { s with heap:=h',toks:=tk }) :
  Dn (DG prog w) A (call (.builtin "min") [.ref l]) Q E s:=by
 refine call_min_walk (ni hl λs₂ e st hfp hlI =>?_)
 subst e
 refine ⟨_,_,_,_,_,_,_,rfl,Ju (A:=A.in1) hh _ l hlI (FQ xs),st,hfp,by simpa [FQ] using hne,Md (numAt xs) (λ_ _=>Kz),λv h' tk hP hk =>?_⟩
 exact h v h' tk (by simpa [FQ] using hP) (nj hk)
end
end HT
namespace L2
open PySem PyProof.Rows
section
variable  {X:Cx}{K:CZ}
theorem ii2 {i j:Int}{t1 t2:Tok}:FQ #[(i,t1),(j,t2)] = #[ES i t1,ES j t2]:=by simp[FQ]
theorem vO (hc:X.calm=true)(hk:X.K=K:=by rfl):bB X (.builtin "min") (λxs H Q=>∃(p:Addr) (i j:Int),xs=[.ref p]/\SqT K H p [.int i,.int j]/\Q (.int (if j<i then j else i)) H):=by
 subst hk
 intro pins s σ H xs us Q I r h
 obtain ⟨p,i,j,rfl,hq,q⟩:=h
 obtain ⟨u,rfl,ru⟩:=vals1 r
 cases (show u=Dv p from ru)
 obtain ⟨its,rv,ht,_⟩:=I.tuple hq
 obtain ⟨x,y,rfl,⟨t1,rfl⟩,⟨t2,rfl⟩⟩:=vals2 rv
 refine HT.zF (I.ok.hd hc) (xs := #[(i,t1),(j,t2)]) (by rw[ii2];exact ht) (by simp) λv h' tk hv k =>?_
 have ev:∃t,v = .int (if j<i then j else i) t:=by
  have hb:argBest (λa b=>decide (numAt #[(i,t1),(j,t2)] a<numAt #[(i,t1),(j,t2)] b)) (#[(i,t1),(j,t2)].size-1)=if j<i then 1 else 0:=by
   show (if decide (j<i)=true then 1 else 0)=_
   by_cases h:j<i
   ·rw[decide_eq_true h,if_pos h,if_pos rfl]
   ·rw[decide_eq_false h,if_neg h,if_neg Di]
  rw[hb,ii2] at hv
  by_cases h:j<i
  ·rw[if_pos h] at hv ⊢
   exact ⟨t2,(DB (show some (ES j t2)=some v from hv)).symm⟩
  ·rw[if_neg h] at hv ⊢
   exact ⟨t1,(DB (show some (ES i t1)=some v from hv)).symm⟩
 obtain ⟨t,rfl⟩:=ev
 exact ⟨.int _,H,I.kept k,⟨_,rfl⟩,q⟩
theorem vP (hc:X.calm=true)(hk:X.K=K:=by rfl):bB X (.builtin "max") (λxs H Q=>∃(p:Addr) (i j:Int),xs=[.ref p]/\SqT K H p [.int i,.int j]/\Q (.int (if j>i then j else i)) H):=by
 subst hk
 intro pins s σ H xs us Q I r h
 obtain ⟨p,i,j,rfl,hq,q⟩:=h
 obtain ⟨u,rfl,ru⟩:=vals1 r
 cases (show u=Dv p from ru)
 obtain ⟨its,rv,ht,_⟩:=I.tuple hq
 obtain ⟨x,y,rfl,⟨t1,rfl⟩,⟨t2,rfl⟩⟩:=vals2 rv
 refine HT.zE (I.ok.hd hc) (xs := #[(i,t1),(j,t2)]) (by rw[ii2];exact ht) (by simp) λv h' tk hv k =>?_
 have ev:∃t,v = .int (if j>i then j else i) t:=by
  have hb:argBest (λa b=>decide (numAt #[(i,t1),(j,t2)] a>numAt #[(i,t1),(j,t2)] b)) (#[(i,t1),(j,t2)].size-1)=if j>i then 1 else 0:=by
   show (if decide (j>i)=true then 1 else 0)=_
   by_cases h:j>i
   ·rw[decide_eq_true h,if_pos h,if_pos rfl]
   ·rw[decide_eq_false h,if_neg h,if_neg Di]
  rw[hb,ii2] at hv
  by_cases h:j>i
  ·rw[if_pos h] at hv ⊢
   exact ⟨t2,(DB (show some (ES j t2)=some v from hv)).symm⟩
  ·rw[if_neg h] at hv ⊢
   exact ⟨t1,(DB (show some (ES i t1)=some v from hv)).symm⟩
 obtain ⟨t,rfl⟩:=ev
 exact ⟨.int _,H,I.kept k,⟨_,rfl⟩,q⟩
end
open PySem PyProof.Rows
section
variable  {X:Cx}
def zG (ns ms:List Int)(j:Nat):Bool:=ns.getD j 0 == ms.getD j 0
theorem qw {ns ms:List Int}(h:ns.length=ms.length):((EF ns.length).all λj=>zG ns ms j)=decide (ns=ms):=by
 rw[Fo,decide_eq_true_iff,FR]
 constructor
 ·intro hh
  refine Lz h λj h1 h2 =>?_
  have:=hh j (ED.mpr h1)
  unfold zG at this
  rw[Df,Df,CV h1,CV h2] at this
  exact of_decide_eq_true (by simpa using this)
 ·rintro rfl j _
  exact beq_self_eq_true _
theorem intAt {ns:List Int}{us:List CU}(r:Vals (ns.map V.int) us){j:Nat}(h:j<us.toArray.size):∃t,us.toArray[j] = .int (ns.getD j 0) t:=by
 have l:=r.length
 rw[CS] at l
 rw[De] at h
 have e1:(ns.map V.int)[j]? = some (.int (ns.getD j 0)):=by
  rw[C8,Df,CV (by lia)]
  rfl
 obtain ⟨u,g1,q1⟩:=r.get e1
 have f1:us.toArray[j]=u:=by simp[C9] at g1;obtain ⟨_,g⟩:=g1;simpa using g
 rw[f1]
 exact q1
theorem zI {k:Nat}(hr:dF k X.A):OpR X (E3 .NotEq) (λx y H Q=>∃(a b:Addr) (ns ms:List Int),x = .ref a/\y = .ref b/\SqL X.K H a (ns.map V.int)/\SqL X.K H b (ms.map V.int)/\Q (.bl (!decide (ns=ms))) H):=by
 intro pins s σ H x y v u Q I rx ry h
 obtain ⟨a,b,ns,ms,rfl,rfl,h1,h2,q⟩:=h
 cases (show v=Dv a from rx)
 cases (show u=Dv b from ry)
 obtain ⟨its,r1,⟨⟨c1,d1,da1,sl1⟩,n1,e1,k1,_,k3⟩,_⟩:=I.list h1
 obtain ⟨its2,r2,⟨⟨c2,d2,da2,sl2⟩,n2,e2,g1,_,g3⟩,_⟩:=I.list h2
 simp only at k1 k3 g1 g3
 subst k1 k3 g1 g3
 have l1:=r1.length
 have l2:=r2.length
 rw[CS] at l1 l2
 have hu:=hr.un
 have hu1:X.A.units<cLine:=by lia
 by_cases hl:ns.length=ms.length
 ·refine Ga (op :=.NotEq) ⟨_,e1,rfl⟩ ⟨_,e2,rfl⟩ F.slot_list_ne LL (LA _ _) (SeqAt.list_neAt a b its.toArray its2.toArray n1 n2 d1 d2 sl1 sl2 (by rw[De,De];lia) (zG ns ms)) ⟨e1,e2,?_,?_⟩ hu1
  ·intro j h1 h2
   obtain ⟨t1,g1⟩:=intAt r1 h1
   obtain ⟨t2,g2⟩:=intAt r2 h2
   rw[g1,g2]
   exact GX _ t1 _ t2
  ·have ez:its.toArray.size=ns.length:=by rw[De];lia
   rw[ez,qw hl]
   exact ⟨(λz=>nomatch z),⟨.bl _,H,I,rfl,q⟩⟩
 ·have ne:ns≠ms:=λz=>hl (by rw[z])
  rw[decide_eq_false ne] at q
  refine Ga (op :=.NotEq) ⟨_,e1,rfl⟩ ⟨_,e2,rfl⟩ F.slot_list_ne LL (LA _ _) (SeqAt.list_ne_lengthsAt a b its.toArray its2.toArray n1 n2 d1 d2 sl1 sl2 (by simp;lia)) ⟨e1,e2,?_⟩ hu1
  exact ⟨(λz=>nomatch z),⟨.bl true,H,I,rfl,q⟩⟩
end
end L2
namespace HT
open PySem PySem.Spec PyProof.Rows
section
variable  {prog:Dp}{w:DW}{A:Ec}{R:Result->CW->Prop}{I:Addr}{fp wr:List Addr}{n:Nat}{P:Nat->CU->Prop}{St:Nat->Heap->Prop}{kw:List (Str×CU)}
end
section
variable  {prog:Dp}{w:DW}{A:Ec}{E:CU->CW->Prop}{s:CW}{l:Addr}{xs:Array (Int×Tok)}
end
end HT
namespace L2
open PySem PyProof.Rows
section
variable  {X:Cx}{x:Str}{id:String}{e:Expr}{es:List Expr}{kws:List Keyword}{p pos:Pos}{t tk:TA}{ks:List Str}{r:List V->List V->Hp->VK->Prop}
end
open PySem PyProof.Rows
section
variable  {X:Cx}
theorem Bp {ns:List Int}{j:Nat}(h:j<ns.length):ns.getD j 0∈ns:=by
 rw[Df,CV h]
 exact GP h
theorem Bq {ns:List Int}{a:Int}(h:a∈ns):∃j,j<ns.length/\ns.getD j 0=a:=by
 obtain ⟨j,hj,e⟩:=GJ h
 exact ⟨j,hj,by rw[Df,CV hj];exact e⟩
end
open PySem PyProof.Rows
section
variable  {X:Cx}
def uh (ns ms:List Int)(j:Nat):Bool:=ns.getD j 0 == ms.getD j 0
theorem vQ {ns ms:List Int}(h:ns.length=ms.length):((EF ns.length).all λj=>uh ns ms j)=decide (ns=ms):=by
 rw[Fo,decide_eq_true_iff,FR]
 constructor
 ·intro hh
  refine Lz h λj h1 h2 =>?_
  have:=hh j (ED.mpr h1)
  unfold uh at this
  rw[Df,Df,CV h1,CV h2] at this
  exact of_decide_eq_true (by simpa using this)
 ·rintro rfl j _
  exact beq_self_eq_true _
theorem vR {ns ms:List Int}:((EF (min ns.length ms.length)).all (uh ns ms) && ns.length == ms.length)=decide (ns=ms):=by
 by_cases h:ns.length=ms.length
 ·rw[<- h,JW,show (ns.length == ns.length)=true from beq_self_eq_true _,KQ]
  exact vQ h
 ·have ne:ns≠ms:=λz=>h (by rw[z])
  rw[decide_eq_false ne,show (ns.length == ms.length)=false from by simpa using h,IU]
theorem xN {ns:List Int}{us:List CU}(r:Vals (ns.map V.int) us){j:Nat}(h:j<us.toArray.size):∃t,us.toArray[j] = .int (ns.getD j 0) t:=by
 have l:=r.length
 rw[CS] at l
 rw[De] at h
 have e1:(ns.map V.int)[j]? = some (.int (ns.getD j 0)):=by
  rw[C8,Df,CV (by lia)]
  rfl
 obtain ⟨u,g1,q1⟩:=r.get e1
 have f1:us.toArray[j]=u:=by simp[C9] at g1;obtain ⟨_,g⟩:=g1;simpa using g
 rw[f1]
 exact q1
theorem zJ {k:Nat}(hr:dF k X.A):OpR X (E3 .Eq) (λx y H Q=>∃(a b:Addr) (ns ms:List Int),x = .ref a/\y = .ref b/\SqT X.K H a (ns.map V.int)/\SqT X.K H b (ms.map V.int)/\Q (.bl (decide (ns=ms))) H):=by
 intro pins s σ H x y v u Q I rx ry h
 obtain ⟨a,b,ns,ms,rfl,rfl,h1,h2,q⟩:=h
 cases (show v=Dv a from rx)
 cases (show u=Dv b from ry)
 obtain ⟨its,r1,p1,_⟩:=I.tuple h1
 obtain ⟨its2,r2,p2,_⟩:=I.tuple h2
 have l1:=r1.length
 have l2:=r2.length
 rw[CS] at l1 l2
 have hu:=hr.un
 have hu1:X.A.units<cLine:=by lia
 have R:=SeqAt.RcAt.tuples (A:=X.A) (e:=uh ns ms) (show s.heap.IsTuple a its.toArray from p1) (show s.heap.IsTuple b its2.toArray from p2) hu1 (by
  intro j h1 h2
  obtain ⟨t1,g1⟩:=xN r1 h1
  obtain ⟨t2,g2⟩:=xN r2 h2
  rw[g1,g2]
  exact GX _ t1 _ t2)
 rw[De,De, <- l1, <- l2,vR] at R
 exact R _ _ _ _ ⟨.bl _,H,I,rfl,q⟩
end
section
variable  {P:Dp}{w:DW}{K:CZ}{mg:Str->Option CU}{base:Heap}
end
end L2
namespace L2.Rev
open PySem
open Sem (wp)
section
variable  {prog:Dp}{w:DW}{A:Ec}{E:CU->CW->Prop}{s:CW}
end
end L2.Rev
namespace L2
open PySem PySem.Spec PyProof.Rows
section
variable  {X:Cx}
theorem qx:Ez "reversed" = some (.type "reversed"):=by decide +kernel
theorem qy:∀{xs:List V} {us:List CU},Vals xs us->Vals xs.reverse us.reverse
 | [],[],_ =>.nil
 | x :: xs,u :: us,.cons h t=>by
  rw[G8,G8]
  exact (qy t).append (.cons h .nil)
end
open PySem PySem.Spec PyProof.Rows
section
variable  {X:Cx}
theorem qz:bB X (.builtin "len") (λxs H Q=>∃(a:Addr) (ys:List V),xs=[.ref a]/\H a=some (eD X.w a ys)/\ys.length<1000/\Q (.int ys.length) H):=by
 intro pins s σ H xs us Q I r h
 obtain ⟨a,ys,rfl,ha,hl,q⟩:=h
 obtain ⟨u,rfl,ru⟩:=vals1 r
 cases (show u=Dv a from ru)
 obtain ⟨⟨es,⟨ep,t,ho,T,_⟩,rv⟩,_⟩:=(show bA X.prog X.w H s.heap a (eD X.w a ys) from I.hok a _ ha)
 have l:=rv.length
 have l2:es.size=ys.length:=by simpa using l.symm
 refine call_len_set ho ⟨rfl,rfl,rfl⟩ rfl (by have:=T.fits;rwa [Eb] at this) (by lia) ?_
 rw[l2]
 exact ⟨.int ys.length,H,I.tok _,⟨_,rfl⟩,q⟩
end
open PySem PySem.Spec PyProof.Rows
theorem Inv.vS {X:Cx}{pins:List (Addr×Obj)}{σ:St}{H:Hp}{s:CW}{h':Heap}{t':Nat}{ch:List Addr}(I:Inv X pins σ H s)(f:∀b∈ch,jf X pins H b)
  (k:∀b ob,b∉ch->s.heap.get? b=some ob->h'.get? b=some ob):Inv X pins σ H { s with heap:=h',toks:=t' }:=by
 have nit:∀b u,H b=some u->b∉ch:=λb u e z=>by have:=(f b z).1;rw[this] at e;cases e
 refine I.step (g':=s.gens) (d':=s.drawn) (ch:=ch) (λb hb =>?_) (λb o _ _ hc e _=>k b o hc e) (λb o _ _ hc e _=>⟨o.slots,k b o hc e⟩) (λ_ _ _ _ n=>n)
  (λb o hc e=>⟨o,k b o hc e⟩) (λ_ _ e=>e) (λ_ _ _ e=>e) (λb ps e=>⟨#[],by rw[e];simp⟩) (λm hm =>?_) (λb u e =>?_) I.bare
 ·obtain ⟨g0,g1,g2,g3,g4,g5⟩:=f b hb
  exact ⟨g3,g1,g4,g5⟩
 ·obtain ⟨o,es,ep,ho,r⟩:=hm
  exact ⟨o,es,ep,k _ o (λz=>(f _ z).2.1 rfl) ho,r⟩
 ·refine (I.hok b u e).stay (λc v hc q=>k c v ?_ q) (λ_ q=>q) λ_ _ q=>q
  rcases hc with z | z
  ·rw[z];exact nit b u e
  ·exact nit c _ z
theorem Br (n a b:Nat)(h1:a<n)(h2:b<n):ZipApart (n+4) (n+2) (n+3) n (n+1) a b :=
  ⟨λz=>absurd (show n+2=n+4 from z) (by lia),λz=>absurd (show n+3=n+4 from z) (by lia),λz=>absurd (show n=n+4 from z) (by lia),λz=>absurd (show n+1=n+4 from z) (by lia),λz=>absurd (show n+2=n+3 from z) (by lia),λz=>absurd (show n+2=n from z) (by lia),λz=>absurd (show n+2=n+1 from z) (by lia),λz=>absurd (show n+3=n from z) (by lia),λz=>absurd (show n+3=n+1 from z) (by lia),λz=>absurd (show n=n+1 from z) (by lia),
   λz=>absurd (show a=n+4 from z) (by lia),λz=>absurd (show a=n+3 from z) (by lia),λz=>absurd (show a=n from z) (by lia),λz=>absurd (show a=n+1 from z) (by lia),λz=>absurd (show b=n+4 from z) (by lia),λz=>absurd (show b=n+3 from z) (by lia),λz=>absurd (show b=n from z) (by lia),λz=>absurd (show b=n+1 from z) (by lia)⟩
theorem boot_zip:Ez "zip" = some (.type "zip"):=by decide +kernel
section
variable  {X:Cx}
end
open PySem PySem.Spec PyProof.Rows
section
variable  {X:Cx}
theorem xO {k:Int}:∀{ns:List Int} {m:Nat} (h:m<ns.length),m<ns.idxOf k->ns[m]≠k
 | [],m,h,_=>absurd h (F3 _)
 | n :: ns,0,_,l=>by
  intro z
  have e:(n :: ns)[0]=n:=rfl
  rw[e] at z
  subst z
  simp at l
 | n :: ns,m+1,h,l=>by
  have h':m<ns.length:=Nat.lt_of_succ_lt_succ h
  show ns[m]≠k
  refine xO h' ?_
  by_cases e:n=k
  ·subst e;simp at l
  ·rw[List.idxOf_cons,show (n == k)=false by simpa using e] at l
   simp at l
   exact l
def uj (K:CZ):R2:=λx y H Q=>∃a b xs ys,x = .ref a/\y = .ref b/\SqT K H a xs/\SqT K H b ys/\xs.length+ys.length<=Dl/\(xs=[]->Q (.ref b) H)/\(ys=[]->Q (.ref a) H)/\(xs≠[]->ys≠[]->∀p,H p=none->Q (.ref p) (upd H p (.tup (xs++ys))))
theorem xP:OpR X (binaryOp .Add) (uj X.K):=by
 intro pins s σ H x y v u Q I rx ry h
 obtain ⟨a,b,xs,ys,rfl,rfl,ha,hb,hz,q1,q2,q3⟩:=h
 by_cases hx:xs=[]
 ·cases rx
  cases ry
  obtain ⟨its,r1,p1,_⟩:=I.tuple ha
  obtain ⟨its2,r2,p2,_⟩:=I.tuple hb
  obtain ⟨⟨c1,d1,da1,s1⟩,o1,k1,n1,g1⟩:=id p1
  obtain ⟨⟨c2,d2,da2,s2⟩,o2,k2,n2,g2⟩:=id p2
  simp only at k1 g1 k2 g2
  subst k1 g1 k2 g2
  have e0:its=[]:=r1.j0.mpr hx
  exact Kb ⟨_,o1,rfl⟩ ⟨_,o2,rfl⟩ JF KS HR HI (Hx _ _)
   (tuple_addW0 a b its.toArray its2.toArray n1 n2 d1 d2 s1 s2 (by simp[e0])) ⟨o1,o2,⟨.ref b,H,I,rfl,q1 hx⟩⟩
 ·exact yX pins s σ H _ _ v u Q I rx ry ⟨a,b,xs,ys,rfl,rfl,ha,hb,hx,hz,q2,λhy=>q3 hx hy⟩
theorem uj.one {K:CZ}{H:Hp}{Q:VK}{a b:Addr}{xs ys:List V}(ha:H a=some (.tup xs))(hb:H b=some (.tup ys))(hz:xs.length+ys.length<=Dl)(q:∀p H',aA H H'->H' p=some (.tup (xs++ys))->Q (.ref p) H'):uj K (.ref a) (.ref b) H Q:=by
 refine ⟨a,b,xs,ys,rfl,rfl,SqT.of ha,SqT.of hb,hz,λz =>?_,λz =>?_,λ_ _ p hp=>q p _ (af hp _) ae⟩
 ·subst z;exact q b H (aA.refl _) hb
 ·subst z;exact q a H (aA.refl _) (by rw[DU];exact ha)
end
open PySem PySem.Spec PyProof.Rows
def ItB:Bool->Heap->Addr->Addr->Nat->Prop
 | true,h,it,l,i=>h.IsListIter it l i
 | false,h,it,l,i=>h.IsTupleIter it l i
def SB':Bool->Heap->Addr->Array CU->Prop
 | true,h,l,xs=>h.IsList l xs
 | false,h,l,xs=>h.IsTuple l xs
theorem ItB.to {b:Bool}{h h':Heap}{it l:Addr}{i:Nat}(x:ItB b h it l i)(k:∀o,h.get? it=some o->h'.get? it=some o):ItB b h' it l i:=by
 cases b
 ·exact Heap.IsTupleIter.at (show h.IsTupleIter it l i from x) k
 ·exact Heap.IsListIter.at (show h.IsListIter it l i from x) k
theorem SB'.to {b:Bool}{h h':Heap}{l:Addr}{xs:Array CU}(x:SB' b h l xs)(k:∀o,h.get? l=some o->h'.get? l=some o):SB' b h' l xs:=by
 cases b
 ·obtain ⟨o,e,r⟩:=(show h.IsTuple l xs from x);exact ⟨o,k o e,r⟩
 ·obtain ⟨o,e,r⟩:=(show h.IsList l xs from x);exact ⟨o,k o e,r⟩
theorem ItB.lt {b:Bool}{h:Heap}{it l:Addr}{i:Nat}(x:ItB b h it l i):it<h.objs.size:=by
 cases b
 ·obtain ⟨o,e,_⟩:=(show h.IsTupleIter it l i from x);exact Dc e
 ·obtain ⟨o,e,_⟩:=(show h.IsListIter it l i from x);exact Dc e
theorem ItB.obj {b:Bool}{h:Heap}{it l:Addr}{i:Nat}(x:ItB b h it l i):∃o,h.get? it=some o/\∀v,o.data ≠ .cell v:=by
 cases b
 ·obtain ⟨o,e,_,d⟩:=(show h.IsTupleIter it l i from x);exact ⟨o,e,λv z=>by rw[d] at z;cases z⟩
 ·obtain ⟨o,e,_,d⟩:=(show h.IsListIter it l i from x);exact ⟨o,e,λv z=>by rw[d] at z;cases z⟩
section
variable  {prog:Dp}{w:DW}{A:Ec}{E:CU->CW->Prop}{s:CW}
theorem xQ {b:Bool}{it l:Addr}{i:Nat}{xs:Array CU}{x:CU}{Q:CU->CW->Prop}(hi:ItB b s.heap it l i)(hl:SB' b s.heap l xs)(hx:xs[i]? = some x)
  (q:∀h',ItB b h' it l (i+1)->Heap.SameBut it s.heap h'->Q x { s with heap:=h' }):Dn (DG prog w) A (Builtin.SmallTypes.nextOf (.ref it)) Q E s:=by
 cases b
 ·exact kK hi hl hx q
 ·exact wpAny_nextOf_list_item hi hl hx q
theorem nk {b:Bool}{it l:Addr}{i:Nat}{xs:Array CU}{Q:CU->CW->Prop}(hh:A.handled=none)(hi:ItB b s.heap it l i)(hl:SB' b s.heap l xs)(hx:xs[i]? = none)
  (q:∀h' e,Heap.ExtBut it s.heap h'->(∃o,h'.get? e=some o/\o.cls = .type "StopIteration")->E (.ref e) { s with heap:=h' }):Dn (DG prog w) A (Builtin.SmallTypes.nextOf (.ref it)) Q E s:=by
 cases b
 ·exact dI hh hi hl hx q
 ·exact wpAny_nextOf_list_end hh hi hl hx q
theorem vT {c d:Bool}{z TI TO i1 i2 l1 l2:Addr}{k1 k2:Nat}{xs ys:Array CU}{x y a b:CU}{Q:CU->CW->Prop}(D:ZipApart z TI TO i1 i2 l1 l2)
  (hz:IsZip s.heap z TI TO .none) (hTI:IsPair s.heap TI (.ref i1) (.ref i2)) (hTO:IsPair s.heap TO a b)
  (j1:ItB c s.heap i1 l1 k1) (j2:ItB d s.heap i2 l2 k2) (m1:SB' c s.heap l1 xs) (m2:SB' d s.heap l2 ys) (hx:xs[k1]? = some x) (hy:ys[k2]? = some y)
  (hQ:∀h',IsZip h' z TI TO (GD s.heap.objs.size)->IsPair h' TO x y->ItB c h' i1 l1 (k1+1)->ItB d h' i2 l2 (k2+1)->IsPair h' s.heap.objs.size x y->h'.objs.size=s.heap.objs.size+1 →
   (∀c o,c≠z->c≠TO->c≠i1->c≠i2->s.heap.get? c=some o->h'.get? c=some o)->Q (.ref s.heap.objs.size) { s with heap:=h' }) :
  Dn (DG prog w) A (Builtin.«zip.__next__» ⟨[.ref z],[]⟩) (λfin s'=>∃v,fin = .done (.ret v)/\Q v s') E s:=by
 show Dn _ _ (field (.ref z) 2 >>= _) _ _ _;refine CP (EA hz rfl (x :=.bool false) rfl ?_)
 show Dn _ _ (field (.ref z) 3 >>= _) _ _ _;refine CP (EA hz rfl (x :=.ref TI) rfl ?_)
 refine CP (EE hTI rfl ?_);show Dn _ _ (Builtin.SmallTypes.ownedTupleIsFree (.ref z) >>= _) _ _ _
 refine CP ?_;unfold Builtin.SmallTypes.ownedTupleIsFree
 refine CP (EA hz rfl (x :=.none) rfl (CT ?_));simp only[if_true]
 refine CP (Fi ?_);refine CP (EA hz rfl (x :=.ref TO) rfl ?_)
 refine CP (Fd hz (by simp) λg1 hz1 s1 =>?_);replace hz1:IsZip g1 z TI TO .ellipsis:=hz1
 refine CP ?_;simp only[JB,LM,JS,L4]
 refine CP (CP (JA ?_));show Dn _ _ (Builtin.SmallTypes.nextOf (.ref i1) >>= _) _ _ _
 refine CP (xQ (j1.to λo e=>s1.extBut _ _ D.i1z e) (m1.to λo e=>s1.extBut _ _ D.l1z e) hx λg2 j1' s2=>CT ?_)
 have t2:IsPair g2 TO a b:=s2.extBut _ _ D.TOi1 (s1.extBut _ _ D.TOz hTO)
 refine CP (EE t2 rfl ?_);refine CP (Ir t2 λg3 t3 s3 =>?_)
 replace t3:IsPair g3 TO x b:=t3;refine CP (Gq (CT ?_))
 refine CP (CP (JA ?_));show Dn _ _ (Builtin.SmallTypes.nextOf (.ref i2) >>= _) _ _ _
 refine CP (xQ (((j2.to λo e=>s1.extBut _ _ D.i2z e).to λo e=>s2.extBut _ _ D.i12.symm e).to λo e=>s3.extBut _ _ D.TOi2.symm e) (((m2.to λo e=>s1.extBut _ _ D.l2z e).to λo e=>s2.extBut _ _ D.l2i1 e).to λo e=>s3.extBut _ _ D.l2TO e) hy λg4 j2' s4=>CT ?_)
 have t4:IsPair g4 TO x b:=s4.extBut _ _ D.TOi2 t3
 refine CP (EE t4 rfl ?_);refine CP (Ir t4 λg5 t5 s5 =>?_)
 replace t5:IsPair g5 TO x y:=t5;refine CP (Gq (CT (CT ?_)))
 refine CP (EE t5 rfl ?_);refine CP (wpAny_newTuple ?_)
 have sz:g5.objs.size=s.heap.objs.size:=by rw[s5.1,s4.1,s3.1,s2.1,s1.1]
 have z5:IsZip g5 z TI TO .ellipsis:=s5.extBut _ _ D.TOz.symm (s4.extBut _ _ D.i2z.symm (s3.extBut _ _ D.TOz.symm (s2.extBut _ _ D.i1z.symm hz1)))
 have k5:∀c o,c≠z->c≠TO->c≠i1->c≠i2->s.heap.get? c=some o->g5.get? c=some o:=λc o c1 c2 c3 c4 e=>s5.extBut _ _ c2 (s4.extBut _ _ c4 (s3.extBut _ _ c2 (s2.extBut _ _ c3 (s1.extBut _ _ c1 e))))
 have n1:ItB c g5 i1 l1 (k1+1):=((j1'.to λo e=>s3.extBut _ _ D.TOi1.symm e).to λo e=>s4.extBut _ _ D.i12 e).to λo e=>s5.extBut _ _ D.TOi1.symm e
 have n2:ItB d g5 i2 l2 (k2+1):=j2'.to λo e=>s5.extBut _ _ D.TOi2.symm e
 have zl:z<g5.objs.size:=Dc z5
 show Dn _ _ (Builtin.SmallTypes.ownedTupleHandOut (.ref z) (.ref g5.objs.size) >>= _) _ _ _;refine CP ?_
 unfold Builtin.SmallTypes.ownedTupleHandOut
 have z6:IsZip (g5.push { cls :=.type "tuple",data :=.seq #[x,y] }) z TI TO .ellipsis:=CQ _ z5
 refine CP (Fd z6 (by simp) λg7 z7 s7 =>?_);replace z7:IsZip g7 z TI TO (GD g5.objs.size):=z7
 refine Fd z7 (by simp) λg8 z8 s8 =>?_;replace z8:IsZip g8 z TI TO (GD g5.objs.size):=z8
 have up:∀c o,c≠z->g5.get? c=some o->g8.get? c=some o:=λc o c1 e=>s8.extBut _ _ c1 (s7.extBut _ _ c1 (CQ _ e))
 have p8:IsPair g8 g5.objs.size x y:=s8.extBut _ _ (FK zl) (s7.extBut _ _ (FK zl) (C3 _ rfl))
 have e8:g8.objs.size=g5.objs.size+1:=by rw[s8.1,s7.1,Ek]
 rw[sz] at z8 p8 e8
 refine CT ⟨_,rfl,?_⟩;show Q (.ref g5.objs.size) _;rw[sz]
 exact hQ g8 z8 (up _ _ D.TOz t5) (n1.to λo e=>up _ o D.i1z e) (n2.to λo e=>up _ o D.i2z e) p8 e8 λc o c1 c2 c3 c4 e=>up c o c1 (k5 c o c1 c2 c3 c4 e)
theorem xR {c d:Bool}{z TI TO i1 i2 l1 l2:Addr}{k1 k2:Nat}{xs ys:Array CU}{a b:CU}{Q:Fin->CW->Prop}(hh:A.handled=none)(D:ZipApart z TI TO i1 i2 l1 l2)
  (hz:IsZip s.heap z TI TO .none) (hTI:IsPair s.heap TI (.ref i1) (.ref i2)) (hTO:IsPair s.heap TO a b)
  (j1:ItB c s.heap i1 l1 k1) (j2:ItB d s.heap i2 l2 k2) (m1:SB' c s.heap l1 xs) (m2:SB' d s.heap l2 ys) (hend:xs[k1]? = none\/ys[k2]? = none)
  (hE:∀h' e,(∀c o,c≠z->c≠TO->c≠i1->c≠i2->s.heap.get? c=some o->h'.get? c=some o)->(∃o,h'.get? e=some o/\o.cls = .type "StopIteration")->E (.ref e) { s with heap:=h' }) :
  Dn (DG prog w) A (Builtin.«zip.__next__» ⟨[.ref z],[]⟩) Q E s:=by
 show Dn _ _ (field (.ref z) 2 >>= _) _ _ _;refine CP (EA hz rfl (x :=.bool false) rfl ?_)
 show Dn _ _ (field (.ref z) 3 >>= _) _ _ _;refine CP (EA hz rfl (x :=.ref TI) rfl ?_)
 refine CP (EE hTI rfl ?_);show Dn _ _ (Builtin.SmallTypes.ownedTupleIsFree (.ref z) >>= _) _ _ _
 refine CP ?_;unfold Builtin.SmallTypes.ownedTupleIsFree
 refine CP (EA hz rfl (x :=.none) rfl (CT ?_));simp only[if_true]
 refine CP (Fi ?_);refine CP (EA hz rfl (x :=.ref TO) rfl ?_)
 refine CP (Fd hz (by simp) λg1 hz1 s1 =>?_);replace hz1:IsZip g1 z TI TO .ellipsis:=hz1
 refine CP ?_;simp only[JB,LM,JS,L4]
 refine CP (CP (JA ?_));show Dn _ _ (Builtin.SmallTypes.nextOf (.ref i1) >>= _) _ _ _
 cases hx:xs[k1]? with
 | none =>
  refine CP (nk hh (j1.to λo e=>s1.extBut _ _ D.i1z e) (m1.to λo e=>s1.extBut _ _ D.l1z e) hx λg2 e s2 he =>?_)
  obtain ⟨oe,hoe,hce⟩:=he
  have z2:IsZip g2 z TI TO .ellipsis:=s2 _ _ D.i1z.symm hz1
  have hez:e≠z:=λx=>by subst x;rw[z2] at hoe;cases hoe;simp at hce
  refine Fd z2 (by simp) λg3 _ s3=>hE g3 e (λc o c1 _ c3 _ x=>s3.extBut _ _ c1 (s2 _ _ c3 (s1.extBut _ _ c1 x))) ⟨oe,s3.extBut _ _ hez hoe,hce⟩
 | some x =>
  have hy:ys[k2]? = none:=by rcases hend with h | h;rw[hx] at h;cases h;exact h
  refine CP (xQ (j1.to λo e=>s1.extBut _ _ D.i1z e) (m1.to λo e=>s1.extBut _ _ D.l1z e) hx λg2 j1' s2=>CT ?_)
  have t2:IsPair g2 TO a b:=s2.extBut _ _ D.TOi1 (s1.extBut _ _ D.TOz hTO)
  refine CP (EE t2 rfl ?_);refine CP (Ir t2 λg3 t3 s3 =>?_)
  refine CP (Gq (CT ?_));refine CP (CP (JA ?_))
  show Dn _ _ (Builtin.SmallTypes.nextOf (.ref i2) >>= _) _ _ _;refine CP (nk hh (((j2.to λo e=>s1.extBut _ _ D.i2z e).to λo e=>s2.extBut _ _ D.i12.symm e).to λo e=>s3.extBut _ _ D.TOi2.symm e) (((m2.to λo e=>s1.extBut _ _ D.l2z e).to λo e=>s2.extBut _ _ D.l2i1 e).to λo e=>s3.extBut _ _ D.l2TO e) hy λg4 e s4 he =>?_)
  obtain ⟨oe,hoe,hce⟩:=he
  have z4:IsZip g4 z TI TO .ellipsis:=s4 _ _ D.i2z.symm (s3.extBut _ _ D.TOz.symm (s2.extBut _ _ D.i1z.symm hz1))
  have hez:e≠z:=λx=>by subst x;rw[z4] at hoe;cases hoe;simp at hce
  refine Fd z4 (by simp) λg5 _ s5=>hE g5 e (λc o c1 c2 c3 c4 x=>s5.extBut _ _ c1 (s4 _ _ c4 (s3.extBut _ _ c2 (s2.extBut _ _ c3 (s1.extBut _ _ c1 x))))) ⟨oe,s5.extBut _ _ hez hoe,hce⟩
theorem qA {c d:Bool}{z TI TO i1 i2 l1 l2:Addr}{k1 k2:Nat}{xs ys:Array CU}{x y a b:CU}{Q:Option CU->CW->Prop}(D:ZipApart z TI TO i1 i2 l1 l2)
  (hz:IsZip s.heap z TI TO .none) (hTI:IsPair s.heap TI (.ref i1) (.ref i2)) (hTO:IsPair s.heap TO a b)
  (j1:ItB c s.heap i1 l1 k1) (j2:ItB d s.heap i2 l2 k2) (m1:SB' c s.heap l1 xs) (m2:SB' d s.heap l2 ys) (hx:xs[k1]? = some x) (hy:ys[k2]? = some y)
  (hQ:∀h',IsZip h' z TI TO (GD s.heap.objs.size)->IsPair h' TO x y->ItB c h' i1 l1 (k1+1)->ItB d h' i2 l2 (k2+1)->IsPair h' s.heap.objs.size x y->h'.objs.size=s.heap.objs.size+1 →
   (∀c o,c≠z->c≠TO->c≠i1->c≠i2->s.heap.get? c=some o->h'.get? c=some o)->Q (some (.ref s.heap.objs.size)) { s with heap:=h' }):Dn (DG prog w) A (pyNext (.ref z)) Q E s:=by
 have hT:s.TypeIs (.ref z) "zip" :=⟨_,hz,rfl⟩
 unfold pyNext;exact CP (FZ (Et (name:=Str.ofString "__next__") hT IC (Ef IC hT LB (vT D hz hTI hTO j1 j2 m1 m2 hx hy λh' a1 a2 a3 a4 a5 a6 a7=>CT (hQ h' a1 a2 a3 a4 a5 a6 a7)) (Ld _))))
theorem jV {c d:Bool}{z TI TO i1 i2 l1 l2:Addr}{k1 k2:Nat}{xs ys:Array CU}{a b:CU}{Q:Option CU->CW->Prop}(hh:A.handled=none)(D:ZipApart z TI TO i1 i2 l1 l2)
  (hz:IsZip s.heap z TI TO .none) (hTI:IsPair s.heap TI (.ref i1) (.ref i2)) (hTO:IsPair s.heap TO a b)
  (j1:ItB c s.heap i1 l1 k1) (j2:ItB d s.heap i2 l2 k2) (m1:SB' c s.heap l1 xs) (m2:SB' d s.heap l2 ys) (hend:xs[k1]? = none\/ys[k2]? = none)
  (hQ:∀h',(∀c o,c≠z->c≠TO->c≠i1->c≠i2->s.heap.get? c=some o->h'.get? c=some o)->Q none { s with heap:=h' }):Dn (DG prog w) A (pyNext (.ref z)) Q E s:=by
 have hT:s.TypeIs (.ref z) "zip" :=⟨_,hz,rfl⟩
 unfold pyNext;refine CP (FZ (Et (name:=Str.ofString "__next__") hT IC (Ef IC hT LB (xR hh D hz hTI hTO j1 j2 m1 m2 hend λh' e hk he =>?_) (Ld _))))
 obtain ⟨o,ho,hc⟩:=he
 refine CP (FU (T := "StopIteration") (b:=true) ⟨o,ho,hc⟩ Jb ?_);exact CT (hQ _ hk)
def uo:Bool->String
 | true => "list_iterator"
 | false => "tuple_iterator"
def zB1 (c:Bool)(h:Heap)(l1:Addr):Heap:=h.push { cls :=.type (uo c),data :=.fields #[.ref l1,.int 0 0] }
def zB2 (c d:Bool)(h:Heap)(l1 l2:Addr):Heap:=(zB1 c h l1).push { cls :=.type (uo d),data :=.fields #[.ref l2,.int 0 0] }
def zB3 (c d:Bool)(h:Heap)(l1 l2:Addr):Heap:=(zB2 c d h l1 l2).push { cls :=.type "tuple",data :=.seq #[.ref h.objs.size,.ref (zB1 c h l1).objs.size] }
def zB4 (c d:Bool)(h:Heap)(l1 l2:Addr):Heap:=(zB3 c d h l1 l2).push { cls :=.type "tuple",data :=.seq #[.none,.none] }
def zB5 (c d:Bool)(h:Heap)(l1 l2:Addr):Heap:=(zB4 c d h l1 l2).push { cls :=.type "zip",data :=.fields #[.none,.bool false,.bool false,.ref (zB2 c d h l1 l2).objs.size,.ref (zB3 c d h l1 l2).objs.size] }
theorem Ap {c:Bool}{l:Addr}{xs:Array CU}{Q:CU->CW->Prop}(hl:SB' c s.heap l xs)(q:Q (.ref s.heap.objs.size) { s with heap:=zB1 c s.heap l }):Dn (DG prog w) A (pyIter (.ref l)) Q E s:=by
 cases c
 ·exact Fu hl q
 ·exact GB hl q
theorem xS (c d:Bool)(l1 l2:Addr)(xs ys:Array CU):Meets (Builtin.«zip.__new__» ⟨[.type "zip",.ref l1,.ref l2],[]⟩) (λ_ R s=>SB' c s.heap l1 xs/\SB' d s.heap l2 ys ∧
   R (.ok (.ret (.ref (zB4 c d s.heap l1 l2).objs.size))) { s with heap:=zB5 c d s.heap l1 l2 }) :=
 .of_wp λprog w A R s h=>by
  obtain ⟨hp,g,dr,tk,os⟩:=s;obtain ⟨hl1,hl2,h⟩:=h
  have hsub:=sub_zip
  have m1:SB' c (Shared.heap ⟨hp,g,dr,tk,os⟩) l1 xs:=hl1
  have m2:SB' d (Shared.heap ⟨zB1 c hp l1,g,dr,tk,os⟩) l2 ys:=hl2.to λo e=>CQ _ e
  wp_walk using Ap m1,Ap m2
  exact ⟨_,rfl,h⟩
theorem vU {c d:Bool}{l1 l2:Addr}{xs ys:Array CU}{Q:CU->CW->Prop}(m1:SB' c s.heap l1 xs)(m2:SB' d s.heap l2 ys)
  (h:∀h',IsZip h' (s.heap.objs.size+4) (s.heap.objs.size+2) (s.heap.objs.size+3) .none->IsPair h' (s.heap.objs.size+2) (.ref s.heap.objs.size) (.ref (s.heap.objs.size+1)) →
   IsPair h' (s.heap.objs.size+3) .none .none->ItB c h' s.heap.objs.size l1 0->ItB d h' (s.heap.objs.size+1) l2 0 →
   (∀c o,s.heap.get? c=some o->h'.get? c=some o)->Q (.ref (s.heap.objs.size+4)) { s with heap:=h' }):Dn (DG prog w) A (call (.type "zip") [.ref l1,.ref l2]) Q E s:=by
 refine IS F.called_zip (by decide) (F.typeCall_zip_2 _ _) (F.newCall_zip_2 _ _) (λobj=>F.args_object_init_3 obj _ _) F.entry_zip_new (xS c d l1 l2 xs ys) ⟨m1,m2,?_⟩
 have z1:(zB1 c s.heap l1).objs.size=s.heap.objs.size+1:=Ek ..
 have z2:(zB2 c d s.heap l1 l2).objs.size=s.heap.objs.size+2:=(Ek ..).trans (by rw[z1])
 have z3:(zB3 c d s.heap l1 l2).objs.size=s.heap.objs.size+3:=(Ek ..).trans (by rw[z2])
 have z4:(zB4 c d s.heap l1 l2).objs.size=s.heap.objs.size+4:=(Ek ..).trans (by rw[z3])
 have g5:(zB5 c d s.heap l1 l2).get? (zB4 c d s.heap l1 l2).objs.size=some { cls :=.type "zip",data :=.fields #[.none,.bool false,.bool false,.ref (zB2 c d s.heap l1 l2).objs.size,.ref (zB3 c d s.heap l1 l2).objs.size] }:=C3 _ rfl
 have g4:(zB5 c d s.heap l1 l2).get? (zB3 c d s.heap l1 l2).objs.size=some { cls :=.type "tuple",data :=.seq #[.none,.none] }:=CQ _ (C3 _ rfl)
 have g3:(zB5 c d s.heap l1 l2).get? (zB2 c d s.heap l1 l2).objs.size=some { cls :=.type "tuple",data :=.seq #[.ref s.heap.objs.size,.ref (zB1 c s.heap l1).objs.size] }:=CQ _ (CQ _ (C3 _ rfl))
 have g2:(zB5 c d s.heap l1 l2).get? (zB1 c s.heap l1).objs.size=some { cls :=.type (uo d),data :=.fields #[.ref l2,.int 0 0] }:=CQ _ (CQ _ (CQ _ (C3 _ rfl)))
 have g1:(zB5 c d s.heap l1 l2).get? s.heap.objs.size=some { cls :=.type (uo c),data :=.fields #[.ref l1,.int 0 0] }:=CQ _ (CQ _ (CQ _ (CQ _ (C3 _ rfl))))
 show _/\_
 rw[z2,z3,z4] at g5
 rw[z1,z2] at g3
 rw[z3] at g4
 rw[z1] at g2
 rw[z4]
 refine ⟨⟨_,g5,rfl⟩,h _ g5 g3 g4 ?_ ?_ λc' o x=>CQ _ (CQ _ (CQ _ (CQ _ (CQ _ x))))⟩
 ·cases c
  ·exact ⟨_,g1,rfl,rfl⟩
  ·exact ⟨_,g1,rfl,rfl⟩
 ·cases d
  ·exact ⟨_,g2,rfl,rfl⟩
  ·exact ⟨_,g2,rfl,rfl⟩
end
def SqB (K:CZ):Bool->Hp->Addr->List V->Prop
 | true,H,a,xs=>SqL K H a xs
 | false,H,a,xs=>SqT K H a xs
theorem SqB.row {X:Cx}{c:Bool}{pins:List (Addr×Obj)}{σ:St}{H:Hp}{s:CW}(I:Inv X pins σ H s){a:Addr}{xs:List V}(h:SqB X.K c H a xs):∃its:List CU,Vals xs its/\SB' c s.heap a its.toArray:=by
 cases c
 ·obtain ⟨its,r,p,_⟩:=I.tuple (show SqT X.K H a xs from h);exact ⟨its,r,p⟩
 ·obtain ⟨its,r,p,_⟩:=I.list (show SqL X.K H a xs from h);exact ⟨its,r,p.isList⟩
theorem SB'.lt {c:Bool}{h:Heap}{l:Addr}{xs:Array CU}(x:SB' c h l xs):l<h.objs.size:=by
 cases c
 ·obtain ⟨o,e,_⟩:=(show h.IsTuple l xs from x);exact Dc e
 ·obtain ⟨o,e,_⟩:=(show h.IsList l xs from x);exact Dc e
theorem SqB.inj {X:Cx}{c:Bool}{pins:List (Addr×Obj)}{σ:St}{H:Hp}{s:CW}(I:Inv X pins σ H s){a:Addr}{xs ys:List V}(h:SqB X.K c H a xs)(g:SqB X.K c H a ys):xs=ys:=by
 cases c
 ·exact I.gn h g
 ·exact I.kr h g
def ItZ (K:CZ)(c d:Bool)(a b:Addr):It :=
 ⟨λi H=>∃xs ys u v,SqB K c H a xs/\SqB K d H b ys/\xs[i]? = some u/\ys[i]? = some v,λi H x H'=>∃T u v,H T=none/\x = .ref T/\H'=upd H T (.tup [u,v])/\(∀xs,SqB K c H a xs->xs[i]? = some u)/\∀ys,SqB K d H b ys->ys[i]? = some v,λi H=>∃xs ys,SqB K c H a xs/\SqB K d H b ys/\(xs.length<=i\/ys.length<=i)⟩
theorem vV {P:Dp}{w:DW}{K:CZ}{elts:List Expr}{k:Nat}{pos:Pos}(c d:Bool)(a b z TI TO i1 i2:Addr)(D:ZipApart z TI TO i1 i2 a b):Turn P w K (.Tuple elts k pos) (ItZ K c d a b) [z,TI,TO,i1,i2] z (λi h=>IsZip h z TI TO .none/\IsPair h TI (.ref i1) (.ref i2)/\(∃x y,IsPair h TO x y)/\ItB c h i1 a i/\ItB d h i2 b i) where
 mem:=by simp
 obj:=λi h ⟨hz,hI,⟨x,y,hO⟩,h1,h2⟩ e he=>by
  have he':e=z\/e=TI\/e=TO\/e=i1\/e=i2:=by simpa using he
  rcases he' with q | q | q | q | q
  ·subst q;exact ⟨_,hz,λv z=>nomatch z⟩
  ·subst q;exact ⟨_,hI,λv z=>nomatch z⟩
  ·subst q;exact ⟨_,hO,λv z=>nomatch z⟩
  ·subst q;exact h1.obj
  ·subst q;exact h2.obj
 keep:=λi h h' ⟨hz,hI,⟨x,y,hO⟩,h1,h2⟩ kp=>⟨kp z (by simp) _ hz,kp TI (by simp) _ hI,⟨x,y,kp TO (by simp) _ hO⟩,h1.to λo e=>kp i1 (by simp) o e,h2.to λo e=>kp i2 (by simp) o e⟩
 item:=λX eP eW eK hcalm i pins s σ H E I f ⟨hz,hI,⟨x,y,hO⟩,h1,h2⟩ go=>by
  subst eP eW eK
  obtain ⟨xs,ys,u,v,ha,hb,hu,hv⟩:=go
  obtain ⟨its,r,pl⟩:=SqB.row I ha
  obtain ⟨jts,r',pl'⟩:=SqB.row I hb
  obtain ⟨u',eu,ru⟩:=r.get hu
  obtain ⟨v',ev,rv⟩:=r'.get hv
  refine qA D hz hI hO h1 h2 pl pl' (x:=u') (y:=v') (by rw[DJ];exact eu) (by rw[DJ];exact ev) λh' o1 o2 o3 o4 o5 o6 kp =>?_
  refine ⟨_,rfl,?_⟩
  refine wpAny_letOwnedTupleGo_zip o1 λh2' e2 sb =>?_
  have ez:z≠s.heap.objs.size:=Dk (Dc hz)
  have lt:∀e∈[z,TI,TO,i1,i2],e≠s.heap.objs.size:=λe he=>by
   have he':e=z\/e=TI\/e=TO\/e=i1\/e=i2:=by simpa using he
   rcases he' with q | q | q | q | q
   ·rw[q];exact ez
   ·rw[q];exact Dk (Dc hI)
   ·rw[q];exact Dk (Dc hO)
   ·rw[q];exact Dk h1.lt
   ·rw[q];exact Dk h2.lt
  have kp2:∀e ob,e∉[z,TI,TO,i1,i2]->s.heap.get? e=some ob->h2'.get? e=some ob:=λe ob he eb=>by
   have n1:e≠z:=λq=>he (by simp[q])
   have n2:e≠TO:=λq=>he (by simp[q])
   have n3:e≠i1:=λq=>he (by simp[q])
   have n4:e≠i2:=λq=>he (by simp[q])
   rw[sb.2 e n1];exact kp e ob n1 n2 n3 n4 eb
  have j1:ItB c h2' i1 a (i+1):=o3.to λob eb=>by rw[sb.2 i1 D.i1z];exact eb
  have j2:ItB d h2' i2 b (i+1):=o4.to λob eb=>by rw[sb.2 i2 D.i2z];exact eb
  have jI:IsPair h2' TI (.ref i1) (.ref i2):=by
   show h2'.get? TI=_
   rw[sb.2 TI D.TIz]
   exact kp TI _ D.TIz D.TITO D.TIi1 D.TIi2 hI
  have jO:IsPair h2' TO u' v':=by
   show h2'.get? TO=_
   rw[sb.2 TO D.TOz]
   exact o2
  have tp:h2'.get? s.heap.objs.size=some { cls :=.type "tuple",data :=.seq #[u',v'] }:=by rw[sb.2 _ (Ee ez)];exact o5
  refine ⟨.ref s.heap.objs.size,upd H s.heap.objs.size (.tup [u,v]),I.gO (ch:=[z,TI,TO,i1,i2]) f kp2 (λe he =>?_) (C0 _) ?_,rfl,⟨s.heap.objs.size,u,v,I.hok.fresh (C0 _),rfl,rfl,λzs hy =>?_,λzs hy =>?_⟩,⟨e2,jI,⟨_,_,jO⟩,j1,j2⟩,λe he =>?_⟩
  ·have he':e=z\/e=TI\/e=TO\/e=i1\/e=i2:=by simpa using he
   rcases he' with q | q | q | q | q
   ·rw[q];exact ⟨_,e2⟩
   ·rw[q];exact ⟨_,jI⟩
   ·rw[q];exact ⟨_,jO⟩
   ·rw[q];obtain ⟨o,ho,_⟩:=j1.obj;exact ⟨o,ho⟩
   ·rw[q];obtain ⟨o,ho,_⟩:=j2.obj;exact ⟨o,ho⟩
  ·refine ⟨(by show 2<=Dl;decide),[u',v'],.cons ru (.cons rv .nil),_,tp,⟨rfl,rfl⟩,_,rfl⟩
  ·rw[SqB.inj I hy ha];exact hu
  ·rw[SqB.inj I hy hb];exact hv
  ·rw[ay (lt e he)];exact (f e he).1
 done:=λX eP eW eK hcalm i pins s σ H E I f ⟨hz,hI,⟨x,y,hO⟩,h1,h2⟩ stop=>by
  subst eP eW eK
  obtain ⟨xs,ys,ha,hb,hl⟩:=stop
  obtain ⟨its,r,pl⟩:=SqB.row I ha
  obtain ⟨jts,r',pl'⟩:=SqB.row I hb
  have l:=r.length
  have l':=r'.length
  refine jV (I.ok.hd hcalm) D hz hI hO h1 h2 pl pl' (hl.imp (λ_=>by rw[DJ];exact Fe.mpr (by lia)) (λ_=>by rw[DJ];exact Fe.mpr (by lia))) λh' ex=>⟨rfl,?_⟩
  exact I.vS (ch:=[z,TI,TO,i1,i2]) (h':=h') (t':=s.toks) f λe o he eb=>ex e o (λq=>he (by simp[q])) (λq=>he (by simp[q])) (λq=>he (by simp[q])) (λq=>he (by simp[q])) eb
 self:=λA i s Q E ⟨hz,_⟩ q=>wpAny_pyIter_zip hz q
def Cq (K:CZ)(c d:Bool)(ta:TA):TI:=λσ H R=>ta σ H λvs H1=>∃a b,vs=[.ref a,.ref b]/\(∃xs,SqB K c H1 a xs)/\(∃ys,SqB K d H1 b ys)/\R (ItZ K c d a b) H1
theorem zK {X:Cx}(c d:Bool){a b:Expr}{ta:TA}{p pos pos':Pos}{elts:List Expr}{k:Nat}(hg:Gl X "zip")(hm:X.mg "zip" = none)(ha:PA X [a,b] ta)(hs:En [a,b] X.env=[(false,eval a X.env),(false,eval b X.env)]:=by rfl)(hs2:En [b] X.env=[(false,eval b X.env)]:=by rfl) :
  PI X (.Tuple elts k pos') (.Call (.Name "zip" p) [a,b] [] pos) (Cq X.K c d ta):=by
 intro pins s σ H R I h
 refine Call_ (d8 I hg hm boot_zip (EH (thn (ha pos pins s σ H _ I h) λus s1 ⟨vs,H1,I1,r1,q1⟩ =>?_) (by rw[hs,hs2]) (by rw[hs2];rfl)))
 obtain ⟨l1,l2,e,⟨xs,hx⟩,⟨ys,hy⟩,q⟩:=q1
 subst e
 cases r1 with
 | cons r rr =>
  cases rr with
  | cons r' rr =>
   cases rr
   cases r
   cases r'
   have fp:∀b∈[s1.heap.objs.size+4,s1.heap.objs.size+2,s1.heap.objs.size+3,s1.heap.objs.size,s1.heap.objs.size+1],jf X pins H1 b:=λb hb=>by
    have ge:s1.heap.objs.size<=b:=by
     simp at hb
     lia
    exact I1.wK ge (I1.hok.fresh ge)
   obtain ⟨its,rv,pl⟩:=SqB.row I1 hx
   obtain ⟨jts,rv',pl'⟩:=SqB.row I1 hy
   have D:=Br _ _ _ pl.lt pl'.lt
   refine vU pl pl' λh' hz hI hO h1 h2 kp =>?_
   have T:=vV (P:=X.prog) (w:=X.w) (K:=X.K) (elts:=elts) (k:=k) (pos:=pos') c d l1 l2 _ _ _ _ _ D
   refine T.self _ 0 _ _ _ ⟨hz,hI,⟨_,_,hO⟩,h1,h2⟩ ?_
   exact ⟨_,_,_,_,H1,rfl,I1.kept (t':=s1.toks) kp,T,⟨hz,hI,⟨_,_,hO⟩,h1,h2⟩,fp,q⟩
theorem Cr {K:CZ}{c d:Bool}{a b:Addr}{xs ys:List V}{g:TG}{tb:TS}{D:Ends}{σ:St}{H:Hp}(n:Nat)(n1:n<=xs.length)(n2:n<=ys.length)(n3:n=xs.length\/n=ys.length)(Pv:Nat->St->Hp->Prop)(h0:Pv 0 σ H)(hl:∀i σ H,i<=n->Pv i σ H->SqB K c H a xs/\SqB K d H b ys)
  (hs:∀i x y σ H T,xs[i]? = some x->ys[i]? = some y->H T=none->Pv i σ H->g (.ref T) σ (upd H T (.tup [x,y])) λσ2 H2=>tb { D with nx:=Pv (i+1),ct:=Pv (i+1),bk:=D.nx } σ2 H2) (hd:∀σ H,Pv n σ H->D.nx σ H):A8 (ItZ K c d a b) g tb D σ H:=by
 refine ⟨λi m σ H=>m=n-i/\i<=n/\Pv i σ H,⟨n,by simp,DS _,h0⟩,?_⟩
 rintro i m σ H ⟨rfl,hi,p⟩
 obtain ⟨q1,q2⟩:=hl i σ H hi p
 by_cases hlt:i<n
 ·refine .inr ⟨⟨xs,ys,xs[i]'(by lia),ys[i]'(by lia),q1,q2,by simp[show i<xs.length by lia],by simp[show i<ys.length by lia]⟩,Pv (i+1),λσ' H' p'=>⟨n-(i+1),by lia,rfl,hlt,p'⟩,λx H' y =>?_⟩
  obtain ⟨T,u,v,hT,ex,eH,hu,hv⟩:=y
  subst ex eH
  exact hs i u v σ H T (hu xs q1) (hv ys q2) hT p
 ·have e:i=n:=by lia
  subst e
  exact .inl ⟨⟨xs,ys,q1,q2,n3.elim (λz =>.inl (by lia)) (λz =>.inr (by lia))⟩,hd σ H p⟩
theorem Cs {K:CZ}{c d:Bool}{a b:Addr}{xs ys:List V}{k l:Nat}{tc:TT}{te:TE}{τ:St}{H:Hp}{Q:VK}(n:Nat)(n1:n<=xs.length)(n2:n<=ys.length)(n3:n=xs.length\/n=ys.length)(Pv:Nat->List V->Hp->Prop)(hkl:k≠l)(h0:Pv 0 [] H)(hz:n<=Dl)
  (hl:∀i zs H,i<=n->Pv i zs H->SqB K c H a xs/\SqB K d H b ys)
  (hs:∀i x y zs H T,xs[i]? = some x->ys[i]? = some y->zs.length<=i->H T=none->Pv i zs H->Ak k l tc te τ Pv i x y zs (upd H T (.tup [x,y])))
  (hd:∀zs H,zs.length<=n->Pv n zs H->∀r,H r=none->Q (.ref r) (upd H r (.lst zs))):mH (ItZ K c d a b) (xf K k l) tc te τ Q H:=by
 refine ⟨λi m σ zs H=>m=n-i/\i<=n/\(∀a b,(σ.set k (some a)).set l (some b)=(τ.set k (some a)).set l (some b))/\zs.length<=i/\Pv i zs H,⟨n,by simp,DS _,λ_ _=>rfl,C0 _,h0⟩,?_⟩
 rintro i m σ zs H ⟨rfl,hi,hτ,hy,pv⟩
 obtain ⟨q1,q2⟩:=hl i zs H hi pv
 by_cases hlt:i<n
 ·refine .inr ⟨⟨xs,ys,xs[i]'(by lia),ys[i]'(by lia),q1,q2,by simp[show i<xs.length by lia],by simp[show i<ys.length by lia]⟩,λx H' y =>?_⟩
  obtain ⟨T,u,v,hT,ex,eH,hu,hv⟩:=y
  subst ex eH
  refine ⟨T,_,rfl,SqT.of ae,rfl,_,_,rfl,_,_,rfl,rfl,?_⟩
  rw[hτ]
  have hσ:∀a b,((((τ.set k (some u)).set l (some v)).set k (some a)).set l (some b))=(τ.set k (some a)).set l (some b):=λa b=>by
   rw[Ma _ _ (Ee hkl),Hy,Hy]
  refine hs i u v zs _ T (hu xs q1) (hv ys q2) hy hT pv _ _ (λy4 H4 p4=>⟨by lia,n-(i+1),by lia,rfl,hlt,hσ,by rw[C1,D3];lia,p4⟩) λH3 p3=>⟨n-(i+1),by lia,rfl,hlt,hσ,by lia,p3⟩
 ·have e:i=n:=by lia
  subst e
  exact .inl ⟨⟨xs,ys,q1,q2,n3.elim (λz =>.inl (by lia)) (λz =>.inr (by lia))⟩,by lia,hd zs H hy pv⟩
open PySem PySem.Spec PyProof.Rows
section
variable  {X:Cx}
theorem jP:∀{ks:List Int} {ws:List CU},ws.length=ks.length->(∀(i:Nat) v,ws[i]? = some v->∃k t,ks[i]? = some k/\v = .int k t)->Vals (ks.map V.int) ws
 | [],[],_,_ =>.nil
 | k :: ks,v :: ws,hl,h=>by
  obtain ⟨k',t,e1,e2⟩:=h 0 v rfl
  cases e1
  exact .cons ⟨t,e2⟩ (jP (by simpa using hl) λi v hv=>h (i+1) v hv)
theorem sH (hh:X.A.handled=none):bB X (.type "list") (λxs H Q=>∃(a:Addr) (kvs:List (Key×V)) (ks:List Int),xs=[.ref a]/\H a=some (.dK kvs)/\kvs.map (·.1)=ks.map Sum.inl/\∀l,H l=none->Q (.ref l) (upd H l (.lst (ks.map V.int)))):=by
 intro pins s σ H xs us Q I r h
 obtain ⟨a,kvs,ks,rfl,ha,ek,q⟩:=h
 obtain ⟨u,rfl,ru⟩:=vals1 r
 cases (show u=Dv a from ru)
 obtain ⟨z,hd,vs,rel,dd⟩:=ud I.hok ha
 obtain ⟨ep,dd⟩:=dd.dictAt
 have lv:kvs.length=vs.length:=HE rel
 have keys:vs.map (·.1)=kvs.map (·.1):=oB rel
 have lk:ks.length=vs.length:=by
  have:=congrArg List.length ek
  rw[CS,CS] at this
  lia
 refine W.kdl_call (W.kdl_dict (knd:=bz X.prog X.w) hd) hh dd (by lia) λh' tk acc' c' kp e' it =>?_
 have sh:Vals (ks.map V.int) acc'.toList:=jP (by rw[C6,it.1];lia) λi v hv=>by
  rw[Dh] at hv
  obtain ⟨k,x,e1,e2⟩:=it.2 i v hv
  have e3:(vs.map (·.1))[i]? = some k:=by rw[C8,e1];rfl
  rw[keys,ek,C8] at e3
  cases hk:ks[i]? with
  | none=>rw[hk] at e3;cases e3
  | some n =>
   rw[hk] at e3
   cases e3
   obtain ⟨t,rfl⟩:=G5 (show Value.isInt n v=true from e2)
   exact ⟨n,t,rfl,rfl⟩
 exact ⟨.ref s.heap.objs.size,_,I.laid (o :=.lst (ks.map V.int)) kp (C0 _) ⟨by rw[CS];lia,acc'.toList,c',sh,by simpa using e'⟩,rfl,q _ (I.hok.fresh (C0 _))⟩
end
open PySem PySem.Spec PyProof.Rows
section
variable  {X:Cx}
theorem vW:BY X (λo i H Q=>∃(p:Addr) (xs:List V) (k:Nat) (v:V),o = .ref p/\i = .int k/\SqL X.K H p xs/\xs[k]? = some v/\Q v H):=by
 intro pins s σ H o i ov iv Q I ro ri h
 obtain ⟨p,xs,k,v,rfl,rfl,hq,he,q⟩:=h
 cases (show ov=Dv p from ro)
 obtain ⟨t,rfl⟩:=(show ∃t,iv=ES k t from ri)
 obtain ⟨its,r,pl,hz⟩:=I.list hq
 obtain ⟨w,ew,rw'⟩:=r.get he
 have hk:k<xs.length:=(C9.mp he).1
 have hn:=jg
 exact wpAny_getItem_list pl.isList (by lia) (by lia) (by simpa using ew) ⟨v,H,I,rw',q⟩
end
end L2
namespace L2.RvT
open PySem PyProof.Rows
open Sem (wp)
theorem jq:Manifest.owners.lookup (String.ofList ['d', 'e', 's', 'r', 'e', 'v', 'e', 'r'].reverse)=some Manifest.sig_reversed:=by kernel_rfl
theorem slot_next:Slot "reversed" "__next__" "reversed.__next__" :=
 .of (owner := "reversed") (n := "__next__") (by rw[GC,Fj];kernel_rfl) (by decide +kernel) (by decide +kernel) (by decide +kernel)
  (by first | exact .inl (by decide +kernel) | exact .inr (by decide +kernel)) (by rw[FJ];kernel_rfl)
theorem entry_next:entryFor table "reversed.__next__" = some Builtin.«reversed.__next__» := JH (by kernel_rfl)
theorem args_next (a:CU):argsOk "reversed.__next__" ⟨[a],[]⟩:=by
 unfold argsOk;rw[K1 (id := "reversed.__next__") (n:=['_', '_', 't', 'x', 'e', 'n', '_', '_']) (o:=['d', 'e', 's', 'r', 'e', 'v', 'e', 'r']) (by kernel_rfl) jq];kernel_rfl
theorem nr:Slot "reversed" "__iter__" "reversed.__iter__" :=
 .of (owner := "reversed") (n := "__iter__") (by rw[GC,Fj];kernel_rfl) (by decide +kernel) (by decide +kernel) (by decide +kernel)
  (by first | exact .inl (by decide +kernel) | exact .inr (by decide +kernel)) (by rw[FJ];kernel_rfl)
theorem vX (a:CU):argsOk "reversed.__iter__" ⟨[a],[]⟩:=by
 unfold argsOk;rw[K1 (id := "reversed.__iter__") (n:=['_', '_', 'r', 'e', 't', 'i', '_', '_']) (o:=['d', 'e', 's', 'r', 'e', 'v', 'e', 'r']) (by kernel_rfl) jq];kernel_rfl
theorem sI:entryFor table "reversed.__iter__" = some Builtin.«dict_keyiterator.__iter__» :=
 entryFor_alias (id' := "dict_keyiterator.__iter__") (by kernel_rfl) (by first | rfl | decide +kernel | (unfold String.splitOn;simp +decide [String.splitOnAux])) (by decide +kernel) (by kernel_rfl)
theorem Bs:typeLookup (.type "tuple") "__reversed__" = pure none:=by rw[GC,Fj];kernel_rfl
theorem Bt:typeLookup (.type "reversed") "__len__" = pure none:=by rw[GC,Fj];kernel_rfl
theorem qB:typeLookup (.type "reversed") "__length_hint__" = pure (some (.builtin "reversed.__length_hint__")):=by rw[GC,Fj];kernel_rfl
theorem sub_self:isSubtype (.type "reversed") (.type "reversed")=pure true:=by rw[FJ];kernel_rfl
theorem xT:isSubtype (.type "tuple") (.type "dict")=pure false:=by rw[FJ];kernel_rfl
theorem vY:Slot "reversed" "__init__" "object.__init__" :=
 .of (owner := "object") (n := "__init__") (by rw[GC,Fj];kernel_rfl) (by decide +kernel) (by decide +kernel) (by decide +kernel)
  (by first | exact .inl (by decide +kernel) | exact .inr (by decide +kernel)) (by rw[FJ];kernel_rfl)
theorem called:TypeCalled "reversed" "reversed.__new__" "object.__init__" :=
 ⟨by decide +kernel,by decide +kernel,⟨_,_,Kl⟩,madeBy_type Kl PySem.F.lookup_reversed_new (by decide +kernel),by decide +kernel,by rw[FJ];kernel_rfl,vY⟩
def rvO (t:Addr)(i:Int):Obj:={ cls :=.type "reversed",data :=.fields #[.ref t,GD i] }
def gD (h:Heap)(a t:Addr)(i:Int):Prop:=∃o,h.get? a=some o/\o.cls = .type "reversed" /\ o.data = .fields #[.ref t,GD i]
section
variable  {prog:Dp}{w:DW}{A:Ec}{E:CU->CW->Prop}{s:CW}
theorem gD.typeIs {a t:Addr}{i:Int}(x:gD s.heap a t i):s.TypeIs (.ref a) "reversed" := let ⟨o,ho,hc,_⟩:=x;⟨o,ho,hc⟩
theorem gD.at {h h':Heap}{a t:Addr}{i:Int}(x:gD h a t i)(e:∀o,h.get? a=some o->h'.get? a=some o):gD h' a t i:=let ⟨o,ho,r⟩:=x;⟨o,e _ ho,r⟩
theorem qC {h h':Heap}{a:Addr}{its:Array CU}(x:IsTup h a its)(e:∀o,h.get? a=some o->h'.get? a=some o):IsTup h' a its:=let ⟨o,ho,r⟩:=x;⟨o,e _ ho,r⟩
theorem vZ (t:Addr)(its:Array CU)(hz:(its.size:Int)<2 ^ 63) :
  Meets (Builtin.«reversed.__new__» ⟨[.type "reversed",.ref t],[]⟩) (λ_ R s=>IsTup s.heap t its/\R (.ok (.ret (.ref s.heap.objs.size))) { s with heap:=s.heap.push (rvO t ((its.size:Int)-1)),toks:=s.toks+1+1 }) :=
 .of_wp λprog w A R s h=>by
  obtain ⟨ht,h⟩:=h
  unfold Builtin.«reversed.__new__»
  refine CP (E9 (newClass_reversed _) ?_)
  try dsimp only
  refine CP (E9 (a:=()) (by first | rfl | kernel_rfl) ?_)
  refine CP (E9 (a:=()) (by first | rfl | kernel_rfl) ?_)
  try dsimp only
  refine CP (FP ht.typeIs Bs ?_)
  try dsimp only
  refine CP ?_
  show Dn _ _ (isInstance (.ref t) (.type "dict") >>= _) _ _ s
  refine CP (FU (T := "tuple") (b:=false) ht.typeIs xT ?_)
  refine Fg (λhab=>absurd hab (by decide)) (λ_ =>?_)
  refine CP (FP ht.typeIs Ej.lookup ?_)
  refine Fg (λ_=>CT ?_) (λhab=>absurd (by decide +kernel) hab)
  refine Fg (λhab=>absurd hab (by decide)) (λ_ =>?_)
  refine CP (LQ ht hz ?_)
  refine CP (E9 (a:=some (its.size:Int)) rfl ?_)
  refine CP ?_
  show Dn _ _ (newObj (.type "reversed") (.fields #[.ref t,GD ((its.size:Int)-1)])) _ _ _
  exact DP (CT ⟨_,rfl,h⟩)
theorem xU {t:Addr}{its:Array CU}{Q:CU->CW->Prop}(ht:IsTup s.heap t its)(hz:(its.size:Int)<2 ^ 63)
  (h:Q (.ref s.heap.objs.size) { s with heap:=s.heap.push (rvO t ((its.size:Int)-1)),toks:=s.toks+1+1 }):Dn (DG prog w) A (call (.type "reversed") [.ref t]) Q E s:=by
 refine IS called (by decide) (PySem.F.typeCall_reversed_1 _) (PySem.F.newCall_reversed_1 _) (λobj=>Hk obj _) PySem.F.entry_reversed_new (vZ t its hz) ⟨ht,?_⟩
 exact ⟨⟨_,C3 _ rfl,rfl⟩,h⟩
theorem next_item {I t:Addr}{i:Nat}{its:Array CU}{x:CU}{Q:Option CU->CW->Prop}(hit:gD s.heap I t (i:Int))(ht:IsTup s.heap t its)(hx:its[i]? = some x)(hi:(i:Int)<2 ^ 63)
  (hQ:∀h' tk,gD h' I t ((i:Int)-1)->Heap.SameBut I s.heap h'->Q (some x) { s with heap:=h',toks:=tk }):Dn (DG prog w) A (pyNext (.ref I)) Q E s:=by
 obtain ⟨o,ho,hc,hd⟩:=id hit
 unfold pyNext
 refine CP (FZ (Et (name:=Str.ofString "__next__") hit.typeIs slot_next (Ef slot_next hit.typeIs entry_next ?_ (args_next _))))
 unfold Builtin.«reversed.__next__»
 refine CP (E9 (a:=(Dv I,[])) rfl ?_)
 try dsimp only
 refine CP (EA ho hd (x :=.ref t) rfl ?_)
 refine CP (EA ho hd (x:=GD (i:Int)) rfl ?_)
 show Dn _ _ (if (i:Int)<0 then _ else _) _ _ s
 rw[if_neg (by lia)]
 show Dn _ _ (specialOf (.ref t) "__getitem__" >>= _) _ _ s
 refine CP (FP ht.typeIs Ej.lookup ?_)
 refine Fg (λhab=>absurd hab (by decide)) (λ_ =>?_)
 refine CP (LU ?_)
 refine CP (FZ ?_)
 refine PyProof.Rows.getItem_tuple (j:=i) ht (by lia) hi (Kw (by lia) (by have:=(E7.mp hx).1;lia)) hx ?_
 refine CP (EA ho hd (x:=GD (i:Int)) rfl ?_)
 show Dn _ _ (setField (.ref I) 1 (GD ((i:Int)-1)) >>= λ_=>ret x) _ _ _
 refine CP (Ia ho hd (by simp) ?_)
 refine CT ⟨x,rfl,CT (hQ _ _ ?_ (Hu ..))⟩
 exact ⟨_,DV _ ho (Ib (Ge hd _)),(K6 ..).trans hc,by rw[Ge hd];simp⟩
theorem next_end {I t:Addr}{Q:Option CU->CW->Prop}(hh:A.handled=none)(hit:gD s.heap I t (-1))
  (hQ:∀h',Heap.ExtBut I s.heap h'->Q none { s with heap:=h' }):Dn (DG prog w) A (pyNext (.ref I)) Q E s:=by
 obtain ⟨o,ho,hc,hd⟩:=id hit
 unfold pyNext
 refine CP (FZ (Et (name:=Str.ofString "__next__") hit.typeIs slot_next (Ef slot_next hit.typeIs entry_next ?_ (args_next _))))
 unfold Builtin.«reversed.__next__»
 refine CP (E9 (a:=(Dv I,[])) rfl ?_)
 try dsimp only
 refine CP (EA ho hd (x :=.ref t) rfl ?_)
 refine CP (EA ho hd (x:=GD (-1)) rfl ?_)
 show Dn _ _ (if (-1:Int)<0 then _ else _) _ _ s
 rw[if_pos (by decide)]
 refine CP (Fi ?_)
 refine CP ?_
 show Dn _ _ (setField (.ref I) 1 (GD (-1)) >>= λ_=>setField (.ref I) 0 .none) _ _ s
 refine CP (Ia ho hd (by simp) ?_)
 have h1:=DV (Obj.mapFields λfs=>fs.setIfInBounds 1 (GD (-1))) ho (Ib (Ge hd _))
 refine Ia h1 (Ge hd _) (by simp) ?_
 refine CP ?_
 show Dn _ _ (newExc (.type "StopIteration") [] >>= _) _ _ _
 refine CP ?_
 simp only[newExc,newTuple]
 refine CP (DP ?_ (by size_fits))
 refine CP (m:=firstArgMember _ _) (E9 (a:=E6) (by first | rfl | (simp only[firstArgMember];rfl)) ?_)
 refine DP ?_ (by size_fits)
 simp only[raiseNew]
 refine CP (KW ?_)
 first | rw[show A.in1.handled=none from hh] | rw[hh]
 refine CP (CT (LR ?_))
 refine CP (FU (T := "StopIteration") (b:=true) ⟨_,C3 _ rfl,rfl⟩ Jb ?_)
 refine CT (hQ _ ?_)
 refine LC (LC (λb o hb eo =>?_) _) _
 exact (Dx _ _ (Ee hb)).trans ((Dx _ _ (Ee hb)).trans eo)
theorem uq {I t:Addr}{i:Int}{Q:CU->CW->Prop}(hit:gD s.heap I t i)(h:Q (.ref I) s):Dn (DG prog w) A (pyIter (.ref I)) Q E s:=by
 refine HZ hit.typeIs nr (Ef nr hit.typeIs sI ?_ (vX _))
 show Dn _ _ (ret (.ref I)) _ _ s
 exact CT ⟨_,rfl, "reversed",_,hit.typeIs,slot_next.lookup,h⟩
theorem nA:Slot "reversed" "__length_hint__" "reversed.__length_hint__" :=
 .of (owner := "reversed") (n := "__length_hint__") qB (by decide +kernel) (by decide +kernel) (by decide +kernel)
  (by first | exact .inl (by decide +kernel) | exact .inr (by decide +kernel)) sub_self
theorem sJ:entryFor table "reversed.__length_hint__" = some Builtin.«reversed.__length_hint__» := JH (by kernel_rfl)
theorem v5 (a:CU):argsOk "reversed.__length_hint__" ⟨[a],[]⟩:=by
 unfold argsOk;rw[K1 (id := "reversed.__length_hint__") (n:=['_', '_', 't', 'n', 'i', 'h', '_', 'h', 't', 'g', 'n', 'e', 'l', '_', '_']) (o:=['d', 'e', 's', 'r', 'e', 'v', 'e', 'r']) (by kernel_rfl) jq];kernel_rfl
theorem v7 {I t:Addr}{its:Array CU}{Q:CU->CW->Prop}(hit:gD s.heap I t ((its.size:Int)-1))(ht:IsTup s.heap t its)(hz:(its.size:Int)<2 ^ 63)
  (h:∀u tk,Q (.int its.size u) { s with toks:=tk }):Dn (DG prog w) A (call (.builtin "reversed.__length_hint__") [.ref I]) Q E s:=by
 obtain ⟨o,ho,hc,hd⟩:=id hit
 refine Ef nA hit.typeIs sJ ?_ (v5 _)
 unfold Builtin.«reversed.__length_hint__»
 refine CP (E9 (a:=Dv I) rfl ?_)
 refine CP (EA ho hd (x :=.ref t) rfl ?_)
 refine Fg (λhab=>absurd hab (show ¬ (false=true) from Di)) (λ_ =>?_)
 refine CP (LQ ht hz ?_)
 refine CP (E9 (a:=some (its.size:Int)) rfl ?_)
 refine CP (EA ho hd (x:=GD ((its.size:Int)-1)) rfl ?_)
 show Dn _ _ (if (its.size:Int)<((its.size:Int)-1)+1 then _ else retInt (((its.size:Int)-1)+1)) _ _ _
 rw[if_neg (by lia),show ((its.size:Int)-1)+1=its.size by lia]
 exact CP (LU (CT ⟨_,rfl,h _ _⟩))
theorem zL {I t:Addr}{its:Array CU}{Q:Bool->CW->Prop}(hit:gD s.heap I t ((its.size:Int)-1))(ht:IsTup s.heap t its)(hz:its.size<=2 ^ 24)(h:∀b tk,Q b { s with toks:=tk }):Dn (DG prog w) A (E4 (.ref I)) Q E s:=by
 unfold E4
 refine CP (FP hit.typeIs Bt ?_)
 wp_delta
 refine CP (FP hit.typeIs qB ?_)
 generalize hid:("reversed.__length_hint__" : String)=id0
 wp_delta
 rw[show splitId id0=some ("reversed", "__length_hint__") from by subst hid;decide +kernel]
 subst hid
 refine CP (FU (T := "reversed") (b:=true) hit.typeIs sub_self ?_)
 refine Fg (λhab=>absurd hab (by decide)) (λ_ =>?_)
 refine Fg (λhab=>absurd hab (by decide +kernel)) (λ_ =>?_)
 refine CP (Fi ?_)
 refine CP (E9 (nA.bind _) ?_)
 refine CP (FZ (v7 hit ht (by lia) λu tk =>?_))
 show Dn _ A (asInt? (.int (its.size:Int) u) >>= _) Q E _
 have ea:asInt? (ES (its.size:Int) u)=pure (some (its.size:Int)):=rfl
 rw[ea,pure_bind]
 generalize hn:(its.size:Int)=n
 dsimp only
 refine Fg (λhab=>absurd hab ?_) (λ_ =>?_)
 ·unfold Builtin.List.listFitsIndex;simp;lia
 refine Fg (λhab=>absurd hab (by lia)) (λ_ =>?_)
 refine Fg (λhab=>absurd hab ?_) (λ_ =>?_)
 ·rw[L2.kE (by rw[F6];lia)];exact Di
 exact CT (h _ _)
end
theorem walk {prog:Dp}{w:DW}{A:Ec}(hh:A.handled=none)(I t:Addr)(hne:t≠I)(its:Array CU)(hz:(its.size:Int)<2 ^ 63) :
  Walks prog w A I [I,t] [I] its.size (λi v=>its[its.size-1-i]? = some v) (λi h=>i<=its.size/\gD h I t ((its.size:Int)-1-(i:Int))/\IsTup h t its) where
 sub:=λb hb=>by simp at hb;simp[hb]
 frame:=λ_ _ _ x hk=>⟨x.1,x.2.1.at λo e=>hk I (by simp) o e,qC x.2.2 λo e=>hk t (by simp) o e⟩
 item:=λi s Q E hi x hQ=>by
  have e:(its.size:Int)-1-(i:Int)=((its.size-1-i:Nat):Int):=by omega
  have hit:=x.2.1
  rw[e] at hit
  have hx:its[its.size-1-i]? = some (its[its.size-1-i]'(by omega)):=DD (by omega)
  refine next_item hit x.2.2 hx (by omega) λh' tk hit' hs' =>?_
  have e2:((its.size-1-i:Nat):Int)-1=(its.size:Int)-1-((i+1:Nat):Int):=by omega
  rw[e2] at hit'
  exact hQ _ h' tk hx ⟨hi,hit',qC x.2.2 λo eo=>(hs'.2 t hne).trans eo⟩ λb o hb eo=>hs'.extBut b o (λh=>hb (by simp[h])) eo
 done:=λs Q E x hQ=>by
  have e:(its.size:Int)-1-(its.size:Int) = -1:=by omega
  have hit:=x.2.1
  rw[e] at hit
  exact next_end hh hit λh' he'=>hQ h' s.toks λb o hb eo=>he' b o (λh=>hb (by simp[h])) eo
 self:=λ_ _ _ _ x hQ=>uq x.2.1 hQ
section
variable  {prog:Dp}{w:DW}{A:Ec}{E:CU->CW->Prop}{s:CW}
theorem v8 {R:Result->CW->Prop}{I t:Addr}{items:Array CU}(hh:A.handled=none)(hit:gD s.heap I t ((items.size:Int)-1))(hl:IsTup s.heap t items)(hne:t≠I)(hlen:items.size<=2 ^ 24)
  (S:Addr) (hSI:S≠I) (hSl:S≠t) (res:CU) (c₀:Nat) (hS:s.heap.get? S=some { cls :=.type "list",data :=.seq #[] c₀ })
  (hR:∀h' tk acc' c',(∀b o,b≠S->b≠I->s.heap.get? b=some o->h'.get? b=some o)->h'.get? S=some { cls :=.type "list",dict:=none,data :=.seq acc' c',slots := #[] } →
   ItemsOf (λi v=>items[items.size-1-i]? = some v) acc' items.size->R (.ok (.ret res)) { s with heap:=h',toks:=tk }) :
  Dn (DG prog w) A.in1 (Ed (.ref S) (.ref I) res)
   (λfin s'=>match fin with | .done f=>R (.ok f) s' | .again c'=>c'.quiet=true/\HQ (DG prog w) A c' R s') (λe s'=>R (.error e) s') s:=by
 have hSf:S∉[I,t]:=λhm=>by
  rcases Dm.mp hm with e | hm
  ·exact hSI e
  ·exact hSl (C2.mp hm)
 have W:=(walk (prog:=prog) (w:=w) (A:=A.in1) hh I t hne items (by omega)).toS
 unfold Ed
 refine CP (Fx (T := "reversed") hit.typeIs ?_)
 have h1:Fm (.ref S) (.ref I)=false:=by simp[Fm,hSI]
 have h2:(Fl "reversed" == Fl "list")=false:=by decide +kernel
 have h3:(Fl "reversed" == Fl "tuple")=false:=by decide +kernel
 simp only[h1,h2,h3,KP,Dt,if_false]
 refine CP (uq hit ?_)
 refine CP (Er (zL hit hl hlen λb tk =>?_))
 refine Fg (λ_ =>?_) (λ_=>CT ⟨Es I0 _,?_⟩)
 ·refine CP (Fi ?_)
  refine CP ?_
  show Dn _ A.in1 (updateSeq S (·.push .none) >>= λ_=>updateSeq S (·.pop)) _ _ _
  refine CP (ER hS rfl ?_)
  have hS₂:=DV (EZ (·.push E6)) hS rfl
  refine ER (hz:=by seq_fits) hS₂ rfl ?_
  have hS₃:=DV (EZ (·.pop)) hS₂ rfl
  have oth:∀b o,b≠S->s.heap.get? b=some o->((s.heap.update S (EZ (·.push E6))).update S (EZ (·.pop))).get? b=some o :=
   λb o hb e=>(Dx _ _ (Ee hb)).trans ((Dx _ _ (Ee hb)).trans e)
  refine CT ⟨Es I0 _,Iq W (by rw[F6];omega) S hSf res items.size 0 _ _ _ rfl (DS _) ⟨DS _,by simpa using hit.at λo e=>oth I o (Ee hSI) e,qC hl λo e=>oth t o (Ee hSl) e⟩ hS₃ (LK _) λs' acc' c' hm hS' hacc =>?_⟩
  rw[Me hm]
  refine hR s'.heap s'.toks acc' c' (λb o hb hbI e=>hm.heap b o (λhmem =>?_) (oth b o hb e)) hS' hacc
  rcases Dm.mp hmem with e' | hmem
  ·exact hb e'
  ·exact hbI (C2.mp hmem)
 refine Iq W (by rw[F6];omega) S hSf res items.size 0 _ #[] c₀ rfl (DS _) ⟨DS _,by simpa using hit,hl⟩ hS (LK _) λs' acc' c' hm hS' hacc =>?_
 rw[Me hm]
 refine hR s'.heap s'.toks acc' c' (λb o hb hbI e=>hm.heap b o (λhmem =>?_) e) hS' hacc
 rcases Dm.mp hmem with e' | hmem
 ·exact hb e'
 ·exact hbI (C2.mp hmem)
theorem sL {R:List CU->CW->Prop}{I t:Addr}{items:Array CU}(hh:A.handled=none)(hit:gD s.heap I t ((items.size:Int)-1))(hl:IsTup s.heap t items)(hne:t≠I)(hlen:items.size<=2 ^ 24)
    (h:∀(h1:Heap) (tk:Nat) (vs:List CU),vs=items.toList.reverse->(∀b o,b≠I->s.heap.get? b=some o->h1.get? b=some o)->R vs { s with heap:=h1,toks:=tk }) :
    Dn (DG prog w) A (collect (.ref I)) R E s:=by
  obtain ⟨oi,hoi,_⟩:=id hit
  obtain ⟨ol,hol,_⟩:=id hl
  unfold collect
  refine CP (GV (D2 Iz ?_))
  rw[DM IA _]
  show Dn _ A.in1 (newList [] >>= λl=>again (.builtin "list.__iadd__" ⟨[l,.ref I],[]⟩)) _ _ s
  refine CP (DP ?_)
  refine CT ⟨Es GN _,D2 Jv ?_⟩
  rw[DM GN _]
  show Dn _ A.in1 (Ed (.ref s.heap.objs.size) (.ref I) (.ref s.heap.objs.size)) _ _ { s with heap:=s.heap.push { cls :=.type "list",data :=.seq ([]:List CU).toArray } }
  have hS0:(s.heap.push { cls :=.type "list",data :=.seq ([]:List CU).toArray }).get? s.heap.objs.size=some { cls :=.type "list",data :=.seq #[] 0 }:=C3 _ rfl
  refine v8 (A:=A) (R:=λres s'=>match res with
      | .ok (.ret v)=>Dn (DG prog w) A (match v with | .ref a=>(do match (← load a).data with | .seq xs _=>pure xs.toList | _=>unsupported "internal:collect") | _=>unsupported "internal:collect") R E s'
      | .ok _=>False
      | .error e=>E e s') (s:={ s with heap:=s.heap.push { cls :=.type "list",data :=.seq ([]:List CU).toArray } }) hh (hit.at λo e=>CQ _ e) (qC hl λo e=>CQ _ e) hne hlen s.heap.objs.size (Ee (Dk (Dc hoi))) (Ee (Dk (Dc hol))) (.ref s.heap.objs.size) 0 hS0 λh' tk acc' c' kk hS' it =>?_
  show Dn _ A (load s.heap.objs.size >>= _) _ _ { s with heap:=h',toks:=tk }
  refine CP (Jp hS' ?_)
  refine CT (h h' tk acc'.toList ?_ λb o hb e=>kk b o (Dk (Dc e)) hb (CQ _ e))
  refine HV λj =>?_
  rw[Dh]
  have h1:acc'.size=items.toList.length:=it.1
  by_cases hj:j<items.toList.length
  · obtain ⟨v,hv⟩:∃v,acc'[j]? = some v:=⟨acc'[j]'(by lia),DD _⟩
    have:=it.2 j v hv
    dsimp only at this
    rw[<- Dh] at this
    rw[hv,List.getElem?_reverse hj, <- this]
    rfl
  · rw[F8 (by lia),Eu (by rw[FE];lia)]
theorem jW (I t:Addr)(items:Array CU)(hne:t≠I)(hn:items.size<=1000) :
  Meets (Builtin.«tuple.__new__» ⟨[.type "tuple",.ref I],[]⟩)
   (λA R s=>A.handled=none/\gD s.heap I t ((items.size:Int)-1)/\IsTup s.heap t items/\∀(h':Heap) (tk:Nat),(∀b o',b≠I->s.heap.get? b=some o'->h'.get? b=some o')->R (.ok (.ret (.ref h'.objs.size))) { s with heap:=h'.push { cls :=.type "tuple",data :=.seq items.toList.reverse.toArray },toks:=tk }) :=
 .of_wp λprog w A R s h=>by
  obtain ⟨hp,g,d,tk,os⟩:=s;obtain ⟨hh,hr,ht,h⟩:=h
  have hsub:=sub_tuple_self
  have hinit:=Lk
  have hmh:=madeHere_tuple
  have hT:Shared.TypeIs ⟨hp,g,d,tk,os⟩ (.ref I) "reversed" := gD.typeIs (s:=⟨hp,g,d,tk,os⟩) hr
  wp_walk using Fx hT,sL (by simpa using hh) hr ht hne (by lia)
  rintro h' tk' vs rfl hk
  show Dn _ _ (Builtin.Tuple.tupleExact items.toList.reverse.toArray >>= λv=>ret v) _ _ _
  unfold Builtin.Tuple.tupleExact
  refine CP (DP ?_ (by show items.toList.reverse.toArray.size<=Dl;rw[De,FE,C6];exact small hn))
  exact CT ⟨_,rfl,h h' tk' hk⟩
end
end L2.RvT
namespace L2
open PySem PySem.Spec PyProof.Rows
section
variable  {X:Cx}
theorem v9:Ez "tuple" = some (.type "tuple"):=by decide +kernel
def zM (K:CZ)(te:TE):TE:=λσ H Q=>te σ H λx H1=>∃l xs,x = .ref l/\SqT K H1 l xs/\xs.length<=1000/\∀p,H1 p=none->Q (.ref p) (upd H1 p (.tup xs.reverse))
theorem wa {e:Expr}{te:TE}{p1 p2 pos1 pos2:Pos}(hh:X.A.handled=none)(hg1:Gl X "tuple")(hm1:X.mg "tuple" = none)(hg2:Gl X "reversed")(hm2:X.mg "reversed" = none)(he:PE X e te)
  (hs1:En [Expr.Call (.Name "reversed" p2) [e] [] pos2] X.env=(false,eval (.Call (.Name "reversed" p2) [e] [] pos2) X.env) :: En [] X.env:=by rfl) (hp1:(Ig pos1 (En [] X.env)).any (·.1)=false:=by rfl)
  (hs2:En [e] X.env=(false,eval e X.env) :: En [] X.env:=by rfl) (hp2:(Ig pos2 (En [] X.env)).any (·.1)=false:=by rfl) :
  PE X (.Call (.Name "tuple" p1) [.Call (.Name "reversed" p2) [e] [] pos2] [] pos1) (zM X.K te):=by
 intro pins s σ H Q I h
 refine Gn (d8 I hg1 hm1 v9 ?_ (by decide) (by decide))
 refine EH ?_ hs1 hp1
 rw[hs1]
 show Dn _ _ (spliced ((false,eval (.Call (.Name "reversed" p2) [e] [] pos2) X.env) :: Ig pos1 (En [] X.env))) _ _ s
 refine KD ?_
 refine Gn (d8 I hg2 hm2 qx ?_ (by decide) (by decide))
 refine EH (thn ((aa he ag hs2) pos2 pins s σ H (λvs H1=>match vs with | [x]=>∃l xs,x = .ref l/\SqT X.K H1 l xs/\xs.length<=1000/\∀p,H1 p=none->Q (.ref p) (upd H1 p (.tup xs.reverse)) | _=>False) I ?_) λus s1 ⟨vs,H1,I1,r1,q1⟩ =>?_) hs2 hp2
 ·exact h
 ·match vs,q1 with
  | [x],q1 =>
  obtain ⟨t,xs,rfl,hx,h1000,q⟩:=q1
  obtain ⟨u,rfl,ru⟩:=vals1 r1
  cases (show u=Dv t from ru)
  obtain ⟨its,r,ht,hz⟩:=I1.tuple hx
  have ll:=r.length
  have lz:its.toArray.size=xs.length:=by rw[De];exact ll.symm
  refine RvT.xU ht (by rw[lz];omega) ?_
  refine K4 ?_
  obtain ⟨ot,hot,_⟩:=id ht
  refine IS Kk (by decide) (Ji _) (Jw _) (λobj=>Hk obj _) Jx
   (RvT.jW s1.heap.objs.size t its.toArray (Dk (Dc hot)) (by rw[lz];exact h1000)) ⟨by simpa using hh,⟨_,C3 _ rfl,rfl,rfl⟩,RvT.qC ht (λo e=>CQ _ e),λh' tk k=>⟨⟨_,C3 _ rfl,rfl⟩,?_⟩⟩
  have I2:Inv X pins σ H1 { s1 with heap:=h',toks:=tk }:=I1.kept λb o e=>k b o (Dk (Dc e)) (CQ _ e)
  exact ⟨.ref h'.objs.size,_,I2.laid (o :=.tup xs.reverse) (λb ob q=>CQ _ q) (C0 _) ⟨by rw[FE];exact small h1000,its.reverse,qy r,dA.new _ _⟩,rfl,q _ (I2.hok.fresh (C0 _))⟩
theorem ur {k:Nat}(hr:dF k X.A):OpR X (E3 .Eq) (λx y H Q=>∃(a b:Addr) (ns ms:List Int),x = .ref a/\y = .ref b/\SqL X.K H a (ns.map V.int)/\SqL X.K H b (ms.map V.int)/\Q (.bl (decide (ns=ms))) H):=by
 intro pins s σ H x y v u Q I rx ry h
 obtain ⟨a,b,ns,ms,rfl,rfl,h1,h2,q⟩:=h
 cases (show v=Dv a from rx)
 cases (show u=Dv b from ry)
 obtain ⟨its,r1,⟨⟨c1,d1,da1,sl1⟩,n1,e1,k1,_,k3⟩,_⟩:=I.list h1
 obtain ⟨its2,r2,⟨⟨c2,d2,da2,sl2⟩,n2,e2,g1,_,g3⟩,_⟩:=I.list h2
 simp only at k1 k3 g1 g3
 subst k1 k3 g1 g3
 have l1:=r1.length
 have l2:=r2.length
 rw[CS] at l1 l2
 have hu:=hr.un
 have hu1:X.A.units<cLine:=by lia
 by_cases hl:ns.length=ms.length
 ·refine Ga (op :=.Eq) ⟨_,e1,rfl⟩ ⟨_,e2,rfl⟩ F.slot_list_eq LN (LD _ _) (SeqAt.list_eqAt a b its.toArray its2.toArray n1 n2 d1 d2 sl1 sl2 (by rw[De,De];lia) (zG ns ms)) ⟨e1,e2,?_,?_⟩ hu1
  ·intro j h1 h2
   obtain ⟨t1,g1⟩:=intAt r1 h1
   obtain ⟨t2,g2⟩:=intAt r2 h2
   rw[g1,g2]
   exact GX _ t1 _ t2
  ·have ez:its.toArray.size=ns.length:=by rw[De];lia
   rw[ez,qw hl]
   exact ⟨(λz=>nomatch z),⟨.bl _,H,I,rfl,q⟩⟩
 ·have ne:ns≠ms:=λz=>hl (by rw[z])
  rw[decide_eq_false ne] at q
  refine Ga (op :=.Eq) ⟨_,e1,rfl⟩ ⟨_,e2,rfl⟩ F.slot_list_eq LN (LD _ _) (SeqAt.list_eq_lengthsAt a b its.toArray its2.toArray n1 n2 d1 d2 sl1 sl2 (by simp;lia)) ⟨e1,e2,?_⟩ hu1
  exact ⟨(λz=>nomatch z),⟨.bl false,H,I,rfl,q⟩⟩
theorem dg:SlR X (λx lo hi H Q=>∃a xs,x = .ref a/\H a=some (.tup xs)/\∀p2 H2,aA H H2->H2 p2=some (.tup (e6 xs lo hi))->Q (.ref p2) H2):=by
 intro pins s σ H x v vl vu lo hi sl Q I rx hs pl pu h
 obtain ⟨a,xs,rfl,ep,key⟩:=h
 refine zz pins s σ H _ v vl vu lo hi sl Q I rx hs pl pu ⟨a,xs,rfl,SqT.of ep,λz=>key a H (aA.refl _) ?_,λ_ p2 hp2=>key p2 _ (af hp2 _) ae⟩
 unfold e6
 rw[z.1,z.2,IX,JU,JD]
 exact ep
theorem iM:OpR X (binaryOp .Add) (λx y H Q=>∃a b xs ys,x = .ref a/\y = .ref b/\H a=some (.tup xs)/\H b=some (.tup ys)/\xs.length+ys.length<=Dl/\∀p H',aA H H'->H' p=some (.tup (xs++ys))->Q (.ref p) H'):=by
 intro pins s σ H x y v u Q I rx ry h
 obtain ⟨a,b,xs,ys,rfl,rfl,ha,hb,hz,q⟩:=h
 exact xP pins s σ H _ _ v u Q I rx ry (uj.one ha hb hz q)
end
end L2
namespace L2.MnT
open PySem PyProof.Rows
section
variable  {prog:Dp}{w:DW}{A:Ec}{E:CU->CW->Prop}{I:Addr}{fp wr:List Addr}{n:Nat}{P:Nat->CU->Prop}{St:Nat->Heap->Prop}
def Cmp (prog:Dp)(w:DW)(A:Ec)(P:Nat->CU->Prop)(St:Nat->Heap->Prop)(bt:Nat->Nat->Bool):Prop :=
 ∀k i j x y (s:CW) (Q E:CU->CW->Prop),St k s.heap->P i x->P j y->Q (.bool (bt i j)) s->Dn (DG prog w) A (richCompare .Lt x y) Q E s
abbrev Bag (S:Addr)(xs:Array CU)(c:Nat)(h:Heap):Prop:=h.get? S=some { cls :=.type "list",dict:=none,data :=.seq xs c,slots := #[] }
abbrev Kept (wr:List Addr)(S:Addr)(h h':Heap):Prop:=∀b o,b∉wr->b≠S->h.get? b=some o->h'.get? b=some o
theorem loop {R:Result->CW->Prop}(W:Walks prog w A.in1 I fp wr n P St){bt:Nat->Nat->Bool}(C:Cmp prog w A.in1 P St bt){S:Addr}(nS:S∉fp):∀(d j:Nat) (s:CW) (best:CU) (c:Nat),n=j+1+d->St (j+1) s.heap->P (argBest bt j) best->Bag S #[best,best] c s.heap →
  (∀v h' tk,P (argBest bt (n-1)) v->Kept wr S s.heap h'->R (.ok (.ret v)) { s with heap:=h',toks:=tk })->HQ (DG prog w) A (.builtin "min.loop" ⟨[.ref I,.none,.ref S],[]⟩) R s:=by
 have nw:S∉wr:=λh=>nS (W.sub _ h)
 have nm:(toString "min" ++ toString ".loop" : String) = "min.loop" := by decide
 intro d
 induction d with
 | zero =>
  intro j s best c hn st pb bg hR
  have e:j+1=n:=by lia
  rw[e] at st
  refine D2 Fy ?_
  rw[DM DX _]
  show Dn _ _ (seqItems? (.ref S) >>= _) _ _ s
  refine CP (EE bg rfl ?_)
  show Dn _ _ (tryCatch (pyNext (.ref I)) _ >>= _) _ _ s
  refine CP (Fn (W.done s _ _ st λh1 tk kp =>?_))
  show Dn _ _ (updateSeq S (λ_ => #[]) >>= _) _ _ _
  refine CP ?_
  refine ER (kp S _ nw bg) rfl (CP (Gq (CT (hR best _ tk (by rw[<- e];exact pb) ?_))))
  exact λb o nb ns eb=>(Dx _ _ (Ee ns)).trans (kp b o nb eb)
 | succ d ih =>
  intro j s best c hn st pb bg hR
  refine D2 Fy ?_
  rw[DM DX _]
  show Dn _ _ (seqItems? (.ref S) >>= _) _ _ s
  refine CP (EE bg rfl ?_)
  show Dn _ _ (tryCatch (pyNext (.ref I)) _ >>= _) _ _ s
  refine CP (Fn (W.item (j+1) s _ _ (by lia) st λv h1 tk pv st1 kp =>?_))
  have bg1:=kp S _ nw bg
  show Dn _ _ (tryCatch (Jd [v,v] (richCompare .Lt v best >>= _)) _ >>= _) _ _ _
  refine CP (Fn (Er (CP (C (j+1+1) (j+1) (argBest bt j) v best _ _ _ st1 pv pb ?_))))
  refine CP (Er (E5 ?_))
  refine CP (Gq (CT ?_))
  by_cases hb:bt (j+1) (argBest bt j)=true
  ·have ea:argBest bt (j+1)=j+1:=by simp only[argBest,hb,if_true]
   rw[hb]
   simp only[if_true]
   refine CP ?_
   refine ER bg1 rfl (CP (Gq ?_))
   rw[nm]
   refine CT ⟨Es DX _,ih (j+1) _ v _ (by lia) (W.frame _ _ _ st1 λb fb o eb =>?_) (by rw[ea];exact pv) (DV _ bg1 rfl) λv2 h2 tk2 p2 k2=>hR v2 h2 tk2 p2 λb o nb ns eb=>k2 b o nb ns ?_⟩
   ·exact (Dx _ _ (λz:S=b=>nS (z ▸ fb))).trans eb
   ·exact (Dx _ _ (Ee ns)).trans (kp b o nb eb)
  ·have ea:argBest bt (j+1)=argBest bt j:=by simp only[argBest,hb];rfl
   rw[F0.mpr hb]
   simp only[Dt,if_false]
   refine CP (Gq ?_)
   rw[nm]
   exact CT ⟨Es DX _,ih (j+1) _ best c (by lia) st1 (by rw[ea];exact pb) bg1 λv2 h2 tk2 p2 k2=>hR v2 h2 tk2 p2 λb o nb ns eb=>k2 b o nb ns (kp b o nb eb)⟩
theorem first {R:Result->CW->Prop}(W:Walks prog w A.in1 I fp wr n P St){bt:Nat->Nat->Bool}(C:Cmp prog w A.in1 P St bt){S:Addr}(nS:S∉fp)(hn:0<n){s:CW}{c:Nat}(st:St 0 s.heap)(bg:Bag S #[] c s.heap)
  (hR:∀v h' tk,P (argBest bt (n-1)) v->Kept wr S s.heap h'->R (.ok (.ret v)) { s with heap:=h',toks:=tk }):HQ (DG prog w) A (.builtin "min.loop" ⟨[.ref I,.none,.ref S],[]⟩) R s:=by
 have nw:S∉wr:=λh=>nS (W.sub _ h)
 have nm:(toString "min" ++ toString ".loop" : String) = "min.loop" := by decide
 refine D2 Fy ?_
 rw[DM DX _]
 show Dn _ _ (seqItems? (.ref S) >>= _) _ _ s
 refine CP (EE bg rfl ?_)
 show Dn _ _ (tryCatch (pyNext (.ref I)) _ >>= _) _ _ s
 refine CP (Fn (W.item 0 s _ _ hn st λv h1 tk pv st1 kp =>?_))
 have bg1:=kp S _ nw bg
 show Dn _ _ (updateSeq S (λ_ => #[v,v]) >>= _) _ _ _
 refine CP ?_
 refine ER bg1 rfl ?_
 rw[nm]
 refine CT ⟨Es DX _,loop W C nS (n-1) 0 _ v _ (by lia) (W.frame _ _ _ st1 λb fb o eb =>?_) pv (DV _ bg1 rfl) λv2 h2 tk2 p2 k2=>hR v2 h2 tk2 p2 λb o nb ns eb=>k2 b o nb ns ?_⟩
 ·exact (Dx _ _ (λz:S=b=>nS (z ▸ fb))).trans eb
 ·exact (Dx _ _ (Ee ns)).trans (kp b o nb eb)
def Goes (prog:Dp)(w:DW)(A:Ec)(Q:CU->CW->Prop)(it:CU)(s:CW):Prop:=∃I fp wr n P St bt,it = .ref I/\Walks prog w A.in1 I fp wr n P St/\St 0 s.heap/\(∀b∈fp,b<s.heap.objs.size)/\0<n/\Cmp prog w A.in1 P St bt ∧
 ∀v h' tk,P (argBest bt (n-1)) v->(∀b o,b∉wr->s.heap.get? b=some o->h'.get? b=some o)->Q v { s with heap:=h',toks:=tk }
theorem Ct {s:CW}{x:CU}{Q:CU->CW->Prop}(h:Dn (DG prog w) A.in1 (pyIter x) (Goes prog w A Q) E s):Dn (DG prog w) A (call (.builtin "min") [x]) Q E s:=by
 have nm:(toString "min" ++ toString ".loop" : String) = "min.loop" := by decide
 refine K2 JE Jj Jk (PySem.F.args_min1 _) ?_
 show Dn _ _ (Builtin.Builtins.bindParams "min" ["key", "default"] 0 ⟨[],[]⟩ >>= _) _ _ s
 refine CP (E9 (a:=[none,none]) rfl ?_)
 refine CP (CT ?_)
 refine CP (FG h (λit s2 g =>?_) λ_ _ e=>e)
 obtain ⟨I,fp,wr,n,P,St,bt,rfl,W,st,hf,hn,C,hq⟩:=g
 refine CP (DP ?_)
 rw[nm]
 refine CT ⟨Es DX _,first W C (S:=s2.heap.objs.size) (λhm=>D9 _ (hf _ hm)) hn (W.frame _ _ _ st λb _ o e=>CQ _ e) (C3 _ rfl) λv h' tk pv kp =>?_⟩
 exact hq v h' tk pv λb o nb e=>kp b o nb (Dk (Dc e)) (CQ _ e)
theorem call2 {s:CW}{a b:CU}{Q:CU->CW->Prop}(h:Dn (DG prog w) A.in1 (pyIter (.ref s.heap.objs.size)) (Goes prog w A Q) E { s with heap:=s.heap.push { cls :=.type "tuple",data :=.seq #[a,b] } }):Dn (DG prog w) A (call (.builtin "min") [a,b]) Q E s:=by
 have nm:(toString "min" ++ toString ".loop" : String) = "min.loop" := by decide
 refine K2 JE Jj Jk (PySem.F.args_min2 _ _) ?_
 show Dn _ _ (Builtin.Builtins.bindParams "min" ["key", "default"] 0 ⟨[],[]⟩ >>= _) _ _ s
 refine CP (E9 (a:=[none,none]) rfl ?_)
 show Dn _ _ (newTuple [a,b] >>= _) _ _ s
 refine CP (DP ?_)
 refine CP (FG h (λit s2 g =>?_) λ_ _ e=>e)
 obtain ⟨I,fp,wr,n,P,St,bt,rfl,W,st,hf,hn,C,hq⟩:=g
 refine CP (DP ?_)
 rw[nm]
 refine CT ⟨Es DX _,first W C (S:=s2.heap.objs.size) (λhm=>D9 _ (hf _ hm)) hn (W.frame _ _ _ st λb _ o e=>CQ _ e) (C3 _ rfl) λv h' tk pv kp =>?_⟩
 exact hq v h' tk pv λb o nb e=>kp b o nb (Dk (Dc e)) (CQ _ e)
def TI (h:Heap)(t:Addr×List Int):Prop:=∃its:Array CU,IsTup h t.1 its/\FH its.toList t.2
theorem TI.at {h h':Heap}{t:Addr×List Int}(x:TI h t)(e:∀o,h.get? t.1=some o->h'.get? t.1=some o):TI h' t:=let ⟨its,⟨o,ho,r⟩,y⟩:=x;⟨its,⟨o,e o ho,r⟩,y⟩
theorem more (W:Walks prog w A I fp wr n P St)(ts:List (Addr×List Int))(nw:∀t∈ts,t.1∉wr):Walks prog w A I (fp++ts.map (·.1)) wr n P (λi h=>St i h/\∀t∈ts,TI h t) where
 sub:=λb hb=>Dd.mpr (.inl (W.sub b hb))
 frame:=λi h h' x hk=>⟨W.frame i h h' x.1 λb hb o e=>hk b (Dd.mpr (.inl hb)) o e,λt ht=>(x.2 t ht).at (hk t.1 (Dd.mpr (.inr (EN (f:=(·.1)) ht))))⟩
 item:=λi s Q E hi x hQ=>W.item i s Q E hi x.1 λv h' tk pv st' kp=>hQ v h' tk pv ⟨st',λt ht=>(x.2 t ht).at λo=>kp t.1 o (nw t ht)⟩ kp
 done:=λs Q E x hQ=>W.done s Q E x.1 hQ
 self:=λi s Q E x hQ=>W.self i s Q E x.1 hQ
theorem cmp (ts:List (Addr×List Int))(hu:A.units<cLine)(hP:∀i v,P i v->∃t,ts[i]? = some t/\v = .ref t.1):Cmp prog w A P (λi h=>St i h/\∀t∈ts,TI h t) (λi j=>HT.lexLt (ts.getD i (0,[])).2 (ts.getD j (0,[])).2):=by
 intro k i j x y s Q E st hx hy h
 obtain ⟨t,et,rfl⟩:=hP i x hx
 obtain ⟨u,eu,rfl⟩:=hP j y hy
 obtain ⟨i1,p1,a1⟩:=st.2 t (C7 et)
 obtain ⟨i2,p2,a2⟩:=st.2 u (C7 eu)
 dsimp only at h
 rw[Df,Df,et,eu] at h
 exact HT.rJ p1 p2 a1 a2 hu h
theorem best (g:Nat->List Int):∀k,(argBest (λi j=>HT.lexLt (g i) (g j)) k<=k)/\∀j,j<=k->HT.lexLt (g j) (g (argBest (λi j=>HT.lexLt (g i) (g j)) k))=false
 | 0=>⟨C0 _,λj hj=>by rw[LO.mp hj];exact Srt.lex_irrefl _⟩
 | k+1=>by
  obtain ⟨l,ih⟩:=best g k
  by_cases hb:HT.lexLt (g (k+1)) (g (argBest (λi j=>HT.lexLt (g i) (g j)) k))=true
  ·have ea:argBest (λi j=>HT.lexLt (g i) (g j)) (k+1)=k+1:=by simp only[argBest,hb,if_true]
   rw[ea]
   refine ⟨C0 _,λj hj =>?_⟩
   by_cases e:j=k+1
   ·rw[e];exact Srt.lex_irrefl _
   ·refine F0.mpr λz =>?_
    have:=ih j (by lia)
    rw[Srt.lex_trans _ _ _ z hb] at this
    cases this
  ·have ea:argBest (λi j=>HT.lexLt (g i) (g j)) (k+1)=argBest (λi j=>HT.lexLt (g i) (g j)) k:=by simp only[argBest,hb];rfl
   rw[ea]
   refine ⟨by lia,λj hj =>?_⟩
   by_cases e:j=k+1
   ·rw[e];exact F0.mpr hb
   ·exact ih j (by lia)
end
end L2.MnT
namespace L2
open PySem PySem.Spec PyProof.Rows
section
variable  {X:Cx}
theorem Bu (hc:X.calm=true)(hu:X.A.units+8<cLine):bB X (.builtin "min") (λxs H Q=>∃(p:Addr) (ts:List (Addr×List Int)),xs=[.ref p]/\SqL X.K H p (ts.map λt =>.ref t.1)/\(∀t∈ts,SqT X.K H t.1 (t.2.map V.int))/\ts≠[]/\∀t∈ts,(∀u∈ts,HT.lexLt u.2 t.2=false)->Q (.ref t.1) H):=by
 intro pins s σ H xs us Q I r h
 obtain ⟨p,ts,rfl,hS,hT,hne,q⟩:=h
 obtain ⟨u,rfl,ru⟩:=vals1 r
 cases (show u=Dv p from ru)
 obtain ⟨its,r1,p1,_⟩:=I.list hS
 have hl:s.heap.IsList p its.toArray:=p1.isList
 have ll:=r1.length
 rw[CS] at ll
 have hp:0<ts.length:=GO.mpr hne
 have TIs:∀t∈ts,MnT.TI s.heap t:=λt ht=>by
  obtain ⟨i2,r2,p2,_⟩:=I.tuple (hT t ht)
  exact ⟨_,p2,intsAre_of r2⟩
 have hlt:∀t∈ts,t.1<s.heap.objs.size:=λt ht=>by
  obtain ⟨_,⟨o,ho,_⟩,_⟩:=TIs t ht
  exact Dc ho
 have hpl:p<s.heap.objs.size:=by obtain ⟨_,e,_⟩:=hl;exact Dc e
 have at_:∀(i:Nat) (v:CU),its.toArray[i]? = some v->∃t:Addr×List Int,ts[i]? = some t/\v=Dv t.1:=λi v hv=>by
  rw[DJ] at hv
  have hi:i<ts.length:=by rw[ll];exact (C9.mp hv).1
  have e1:(ts.map λt=>V.ref t.1)[i]? = some (.ref ts[i].1):=by rw[C8,CV hi];rfl
  obtain ⟨w',ew,rw'⟩:=r1.get e1
  rw[ew] at hv
  exact ⟨ts[i],CV hi,(DB hv).symm.trans rw'⟩
 refine MnT.Ct (GB hl ?_)
 refine ⟨s.heap.objs.size,_,_,its.toArray.size,_,_,_,rfl,MnT.more (K5 (A:=X.A.in1) (I.ok.hd hc) s.heap.objs.size p (Dk hpl) its.toArray) ts (λt ht hm =>?_),⟨⟨⟨_,C3 _ rfl,rfl,rfl⟩,hl.push _⟩,λt ht=>(TIs t ht).at λo e=>CQ _ e⟩,λb hb =>?_,by rw[De];lia,MnT.cmp ts ?_ at_,λv h' tk pv kp =>?_⟩
 ·have:=hlt t ht
  rw[C2.mp hm] at this
  exact D9 _ this
 ·show b<(s.heap.push _).objs.size
  rw[Ek]
  rcases Dd.mp hb with hb | hb
  ·rcases Dm.mp hb with rfl | hb
   ·exact EB _
   ·rw[C2.mp hb];exact D4 hpl
  ·obtain ⟨t,ht,rfl⟩:=DH.mp hb
   exact D4 (hlt t ht)
 ·show X.A.units+_<cLine
  lia
 ·obtain ⟨t,et,rfl⟩:=at_ _ v pv
  obtain ⟨b1,b2⟩:=MnT.best (λi=>(ts.getD i (0,[])).2) (its.toArray.size-1)
  have kept:∀b o,s.heap.get? b=some o->h'.get? b=some o:=λb o e=>kp b o (λhm=>by
   have:=Dc e
   rw[C2.mp hm] at this
   exact D9 _ this) (CQ _ e)
  refine ⟨.ref t.1,H,I.kept kept,rfl,q t (C7 et) λu hu' =>?_⟩
  obtain ⟨j,hj,eu⟩:=GJ hu'
  have:=b2 j (by rw[De];lia)
  rw[Df,Df,et,CV hj,eu] at this
  exact this
theorem sM (hc:X.calm=true)(hu:X.A.units+8<cLine):bB X (.builtin "min") (λxs H Q=>∃(a b:Addr) (ns ms:List Int),xs=[.ref a,.ref b]/\SqT X.K H a (ns.map V.int)/\SqT X.K H b (ms.map V.int)/\(HT.lexLt ms ns=true->Q (.ref b) H)/\(HT.lexLt ms ns=false->Q (.ref a) H)):=by
 intro pins s σ H xs us Q I r h
 obtain ⟨a,b,ns,ms,rfl,ha,hb,q1,q2⟩:=h
 obtain ⟨u,v,rfl,ru,rv⟩:=vals2 r
 cases (show u=Dv a from ru)
 cases (show v=Dv b from rv)
 have TIs:∀t∈[(a,ns),(b,ms)],MnT.TI s.heap t:=λt ht=>by
  rcases Dm.mp ht with rfl | ht
  ·obtain ⟨i2,r2,p2,_⟩:=I.tuple ha
   exact ⟨_,p2,intsAre_of r2⟩
  ·rw[C2.mp ht]
   obtain ⟨i2,r2,p2,_⟩:=I.tuple hb
   exact ⟨_,p2,intsAre_of r2⟩
 have hlt:∀t∈[(a,ns),(b,ms)],t.1<s.heap.objs.size:=λt ht=>by
  obtain ⟨_,⟨o,ho,_⟩,_⟩:=TIs t ht
  exact Dc ho
 have hT:(s.heap.push { cls :=.type "tuple",data :=.seq #[.ref a,.ref b] }).IsTuple s.heap.objs.size #[.ref a,.ref b]:=⟨_,C3 _ rfl,rfl,0,rfl⟩
 have hz:(s.heap.push { cls :=.type "tuple",data :=.seq #[.ref a,.ref b] }).objs.size=s.heap.objs.size+1:=Ek ..
 have at_:∀(i:Nat) (v:CU),(#[.ref a,.ref b]:Array CU)[i]? = some v->∃t:Addr×List Int,[(a,ns),(b,ms)][i]? = some t/\v=Dv t.1:=λi v hv=>by
  match i,hv with
  | 0,hv=>exact ⟨_,rfl,(DB hv).symm⟩
  | 1,hv=>exact ⟨_,rfl,(DB hv).symm⟩
  | i+2,hv=>simp at hv
 refine MnT.call2 (Fu hT ?_)
 refine ⟨_,_,_,_,_,_,_,rfl,MnT.more (Ju (A:=X.A.in1) (I.ok.hd hc) _ s.heap.objs.size (by rw[hz];exact Dk (EB _)) #[.ref a,.ref b]) [(a,ns),(b,ms)] (λt ht hm =>?_),⟨⟨⟨_,C3 _ rfl,rfl,rfl⟩,hT.push _⟩,λt ht=>(TIs t ht).at λo e=>CQ _ (CQ _ e)⟩,λc hc' =>?_,Nat.zero_lt_two,MnT.cmp [(a,ns),(b,ms)] ?_ at_,λv h' tk pv kp =>?_⟩
 ·have:=hlt t ht
  rw[C2.mp hm,hz] at this
  exact D9 _ (FD this)
 ·show c<((s.heap.push _).push _).objs.size
  rw[Ek,hz]
  rcases Dd.mp hc' with hc' | hc'
  ·rcases Dm.mp hc' with rfl | hc'
   ·rw[hz];exact EB _
   ·rw[C2.mp hc'];exact D4 (EB _)
  ·obtain ⟨t,ht,rfl⟩:=DH.mp hc'
   exact D4 (D4 (hlt t ht))
 ·show X.A.units+_<cLine
  lia
 ·have kept:∀b o,s.heap.get? b=some o->h'.get? b=some o:=λb o e=>kp b o (λhm=>by
   have:=Dc e
   rw[C2.mp hm,hz] at this
   exact D9 _ (FD this)) (CQ _ (CQ _ e))
  by_cases z:HT.lexLt ms ns=true
  ·have e:argBest (λi j=>HT.lexLt ([(a,ns),(b,ms)].getD i (0,[])).2 ([(a,ns),(b,ms)].getD j (0,[])).2) 1=1:=by
    show (if HT.lexLt ms ns=true then 1 else 0)=1
    rw[if_pos z]
   rw[show (#[Dv a,Dv b]:Array CU).size-1=1 from rfl,e] at pv
   have pv:=(DB pv).symm
   exact ⟨.ref b,H,I.kept kept,pv,q1 z⟩
  ·have e:argBest (λi j=>HT.lexLt ([(a,ns),(b,ms)].getD i (0,[])).2 ([(a,ns),(b,ms)].getD j (0,[])).2) 1=0:=by
    show (if HT.lexLt ms ns=true then 1 else 0)=0
    rw[if_neg z]
   rw[show (#[Dv a,Dv b]:Array CU).size-1=1 from rfl,e] at pv
   have pv:=(DB pv).symm
   exact ⟨.ref a,H,I.kept kept,pv,q2 (F0.mpr z)⟩
end
open PySem PySem.Spec PyProof.Rows
section
variable  {X:Cx}
theorem sN (hc:X.calm=true):bB X (.builtin "min") (λxs H Q=>∃(a:Addr) (ns:List Int),xs=[.ref a]/\SqT X.K H a (ns.map V.int)/\ns≠[]/\∀M:Int,M∈ns->(∀b∈ns,M<=b)->Q (.int M) H):=by
 intro pins s σ H xs us Q I r h
 obtain ⟨a,ns,rfl,hS,hne,q⟩:=h
 obtain ⟨u,rfl,ru⟩:=vals1 r
 cases (show u=Dv a from ru)
 obtain ⟨its,r1,p1,_⟩:=I.tuple hS
 obtain ⟨ps,e2,e3⟩:=fO (intsAre_of r1)
 have ei:its.toArray=FQ ps.toArray:=by rw[e2];simp[FQ]
 have hT:s.heap.IsTuple a (FQ ps.toArray):=by
  obtain ⟨o,ho,hc',n,hd⟩:=p1
  exact ⟨o,ho,hc',n,by rw[<- ei];exact hd⟩
 have hz:ps.toArray.size=ns.length:=by rw[De, <- e3,CS]
 have hp:0<ns.length:=GO.mpr hne
 have ht:ps.toArray.toList.map (·.1)=ns:=e3
 have hal:a<s.heap.objs.size:=by obtain ⟨o,ho,_⟩:=p1;exact Dc ho
 refine call_min_walk (Fu hT ?_)
 refine ⟨_,[_,a],[_],_,_,_,_,rfl,Ju (A:=X.A.in1) (I.ok.hd hc) _ a (Dk hal) (FQ ps.toArray),⟨⟨_,C3 _ rfl,rfl,rfl⟩,hT.push _⟩,λc hc' =>?_,by simp only[FQ,Eb];lia,Md (numAt ps.toArray) (λ_ _=>Kz),λv h' tk hv hk =>?_⟩
 ·show c<(s.heap.push _).objs.size
  rw[Ek]
  rcases Dm.mp hc' with rfl | hc'
  ·exact EB _
  ·rw[C2.mp hc'];exact D4 hal
 ·have k:∀b o,s.heap.get? b=some o->h'.get? b=some o:=λb o e=>hk b o (λhm=>by
   have:=Dc e
   rw[C2.mp hm] at this
   exact D9 _ this) (CQ _ e)
  have hsz:(FQ ps.toArray).size=ns.length:=by simp only[FQ,Eb];exact hz
  rw[hsz] at hv
  obtain ⟨t,rfl⟩:=Kz hv
  obtain ⟨h1,h2⟩:=argBest_lt (numAt ps.toArray) (ns.length-1)
  refine ⟨.int _,H,I.kept k,⟨_,rfl⟩,q _ ?_ λb hb =>?_⟩
  ·rw[Mh,ht];exact Bp (by lia)
  ·obtain ⟨j,hj,rfl⟩:=Bq hb
   have:=h2 j (by lia)
   rw[Mh,Mh,ht] at this
   rw[Mh,ht]
   exact this
end
open PySem PySem.Spec PyProof.Rows SeqAt
theorem ml (l:Addr)(items:Array CU)(n:Nat)(dd:Option Addr)(sl:Array (Option CU))(x:CU)(e:CU->Bool)(j:Nat)(hj:j<items.size)(hit:e items[j]=true)(hno:∀m (hm:m<items.size),m<j->e items[m]=false) :
  Meets (Builtin.«tuple.index» ⟨[.ref l,x],[]⟩)
   (λA R s=>s.heap.get? l=some { cls :=.type "tuple",dict:=dd,data :=.seq items n,slots:=sl }/\(∀y,y∈items->EqAt A.in1 s y x (e y))/\R (.ok (.ret (.int j s.toks))) { s with toks:=s.toks+1 }) :=
 .of_wp λprog w A R s h=>by
  obtain ⟨hl,he,h⟩:=h
  unfold Builtin.«tuple.index»
  refine CP (E9 (a:=(Dv l,[x])) rfl ?_)
  refine CP (PyProof.Rows.tupleItemsOf_ (⟨_,hl,rfl,_,rfl⟩:IsTup s.heap l items) ?_)
  dsimp only
  refine CP (CT (CP (CT ?_)))
  rw[JW,Kg]
  refine CP (Hs _ (λrest b s'=>s'=s/\b=(none,())/\∃i,rest=List.range' i (items.size-i)/\i<=j) _ ?_ ?_ _ _ ⟨rfl,rfl,0,?_,DS _⟩)
  ·rintro k rest b s' ⟨rfl,rfl,i,er,hi⟩
   rw[show items.size-i=(items.size-(i+1))+1 by lia,JC] at er
   injection er with e1 e2
   subst e1
   have hk:k<items.size:=by lia
   rw[DD hk]
   refine CP (he _ (K9 hk) prog w _ _ ?_)
   by_cases z:k=j
   ·subst z
    rw[hit]
    refine CP (CP (LU (CT (CT ?_))))
    exact CT ⟨_,rfl,h⟩
   ·rw[hno k hk (by lia)]
    exact CT ⟨rfl,rfl,k+1,e2,by lia⟩
  ·rintro b s' ⟨rfl,rfl,i,er,hi⟩
   rw[show items.size-i=(items.size-(i+1))+1 by lia,JC] at er
   cases er
  ·simp[Std.Legacy.Range.size]
section
variable  {X:Cx}
theorem wb:MtR X "tuple.index" (λx vs H Q=>∃(p:Addr) (ns:List Int) (k:Int),x = .ref p/\vs=[.int k]/\H p=some (.tup (ns.map V.int))/\k∈ns/\Q (.int (ns.idxOf k:Nat)) H):=by
 intro pins s σ H x vs v us Q I rx rv h
 obtain ⟨p,ns,k,rfl,rfl,hp,hk,q⟩:=h
 cases rx
 obtain ⟨u,rfl,⟨t,rfl⟩⟩:=vals1 rv
 obtain ⟨z,its,r,ob,e1,⟨c1,d1⟩,n,s1⟩:=(show bA X.prog X.w H s.heap p (.tup _) from I.hok p _ hp)
 have hi:FH its ns:=intsAre_of r
 have hlen:=hi.length
 have hj:ns.idxOf k<ns.length:=HB.mpr hk
 obtain ⟨cls,dd,data,sl⟩:=ob
 simp only at c1 s1
 subst c1 s1
 refine HY Jl ⟨_,e1,rfl⟩ PySem.F.entry_tuple_index (PySem.F.args_tuple_index_2 _ _) (ml p its.toArray n dd sl (.int k t) (isInt k) (ns.idxOf k) (by simpa [hlen] using hj) ?_ ?_) ⟨e1,λy hy=>m7 hi y hy,⟨.int _,H,I.tok _,⟨_,rfl⟩,q⟩⟩
 ·show isInt k its[ns.idxOf k]=true
  rw[isInt_at k hi _ (by omega) hj];simpa using KR hj
 ·intro j hjs hlt
  show isInt k its[j]=false
  rw[isInt_at k hi j (by simpa using hjs) (by omega)]
  simpa using xO (by omega) hlt
end
end L2
namespace L2.MnT
open PySem PyProof.Rows
section
variable  {prog:Dp}{w:DW}{A:Ec}{E:CU->CW->Prop}{I:Addr}{fp wr:List Addr}{n:Nat}{P:Nat->CU->Prop}{St:Nat->Heap->Prop}
abbrev eO (ts:List (Addr×List Int)):Nat->Nat->Bool:=λi j=>decide ((ts.getD i (0,[])).2.length<(ts.getD j (0,[])).2.length)
theorem xV {s:CW}{t:Addr×List Int}{Q:CU->CW->Prop}(x:TI s.heap t)(hz:t.2.length<2 ^ 63)(h:∀u tk,Q (.int t.2.length u) { s with toks:=tk }):Dn (DG prog w) A (call (.builtin "len") [.ref t.1]) Q E s:=by
 obtain ⟨its,ht,hi⟩:=x
 have e:its.size=t.2.length:=by rw[<- hi.length,C6]
 refine LQ ht (by rw[e];lia) ?_
 rw[e]
 exact h _ _
theorem Cu {R:Result->CW->Prop}{ts:List (Addr×List Int)}{kw:List (Str×CU)}(W:Walks prog w A.in1 I fp wr n P St)(hI:∀k h,St k h->∀t∈ts,TI h t)(hP:∀i v,P i v->∃t,ts[i]? = some t/\v = .ref t.1)(hz:∀t∈ts,t.2.length<2 ^ 63){S:Addr}(nS:S∉fp):∀(d j:Nat) (s:CW) (t:Addr×List Int) (tk c:Nat),n=j+1+d->St (j+1) s.heap->ts[argBest (eO ts) j]? = some t->Bag S #[.ref t.1,.int t.2.length tk] c s.heap →
  (∀t h' tk,ts[argBest (eO ts) (n-1)]? = some t->Kept wr S s.heap h'->R (.ok (.ret (.ref t.1))) { s with heap:=h',toks:=tk })->HQ (DG prog w) A (.builtin "min.loop" ⟨[.ref I,.builtin "len",.ref S],kw⟩) R s:=by
 have nw:S∉wr:=λh=>nS (W.sub _ h)
 have nm:(toString "min" ++ toString ".loop" : String) = "min.loop" := by decide
 intro d
 induction d with
 | zero =>
  intro j s t tk c hn st et bg hR
  have e:j+1=n:=by lia
  rw[e] at st
  refine D2 Fy ?_
  rw[DM DX _]
  show Dn _ _ (seqItems? (.ref S) >>= _) _ _ s
  refine CP (EE bg rfl ?_)
  show Dn _ _ (tryCatch (pyNext (.ref I)) _ >>= _) _ _ s
  refine CP (Fn (W.done s _ _ st λh1 tk kp =>?_))
  show Dn _ _ (updateSeq S (λ_ => #[]) >>= _) _ _ _
  refine CP ?_
  refine ER (kp S _ nw bg) rfl (CP (Gq (CT (hR t _ tk (by rw[<- e];exact et) ?_))))
  exact λb o nb ns eb=>(Dx _ _ (Ee ns)).trans (kp b o nb eb)
 | succ d ih =>
  intro j s t tk c hn st et bg hR
  refine D2 Fy ?_
  rw[DM DX _]
  show Dn _ _ (seqItems? (.ref S) >>= _) _ _ s
  refine CP (EE bg rfl ?_)
  show Dn _ _ (tryCatch (pyNext (.ref I)) _ >>= _) _ _ s
  refine CP (Fn (W.item (j+1) s _ _ (by lia) st λv h1 tk1 pv st1 kp =>?_))
  obtain ⟨u,eu,rfl⟩:=hP _ _ pv
  have bg1:=kp S _ nw bg
  show Dn _ _ (tryCatch (Jd [Dv u.1] (call (.builtin "len") [.ref u.1])) _ >>= _) _ _ _
  refine CP (Fn (Er (xV (hI _ _ st1 u (C7 eu)) (hz u (C7 eu)) λtu tk2 =>?_)))
  show Dn _ _ (tryCatch (Jd [Dv u.1,.int u.2.length tu] (richCompare .Lt (.int u.2.length tu) (.int t.2.length tk) >>= _)) _ >>= _) _ _ _
  refine CP (Fn (Er (CP (richCompare_gives (op :=.Lt) (Kh _ _ tu) (Kh _ _ tk) PySem.F.slot_int_lt PySem.F.entry_int_lt (PySem.F.args_int_lt_2 _ _) (gives_int_lt _ _ tu tk) (λx=>nomatch x) ?_))))
  refine CP (Er (E5 ?_))
  refine CP (Gq (CT ?_))
  have eb':eO ts (j+1) (argBest (eO ts) j)=decide (u.2.length<t.2.length):=by
   show decide _=_
   rw[Df,Df,eu,et];rfl
  by_cases hb:u.2.length<t.2.length
  ·have ea:argBest (eO ts) (j+1)=j+1:=by
    show (if eO ts (j+1) (argBest (eO ts) j)=true then _ else _)=_
    rw[eb',if_pos (decide_eq_true hb)]
   rw[show decide ((u.2.length:Int)<(t.2.length:Int))=true from decide_eq_true (by lia)]
   simp only[if_true]
   refine CP ?_
   refine ER bg1 rfl (CP (Gq ?_))
   rw[nm]
   refine CT ⟨Es DX _,ih (j+1) _ u tu _ (by lia) (W.frame _ _ _ st1 λb fb o eb =>?_) (by rw[ea];exact eu) (DV _ bg1 rfl) λv2 h2 tk2 p2 k2=>hR v2 h2 tk2 p2 λb o nb ns eb=>k2 b o nb ns ?_⟩
   ·exact (Dx _ _ (λz:S=b=>nS (z ▸ fb))).trans eb
   ·exact (Dx _ _ (Ee ns)).trans (kp b o nb eb)
  ·have ea:argBest (eO ts) (j+1)=argBest (eO ts) j:=by
    show (if eO ts (j+1) (argBest (eO ts) j)=true then _ else _)=_
    rw[eb',if_neg (by simpa using hb)]
   rw[show decide ((u.2.length:Int)<(t.2.length:Int))=false from decide_eq_false (by lia)]
   simp only[Dt,if_false]
   refine CP (Gq ?_)
   rw[nm]
   exact CT ⟨Es DX _,ih (j+1) _ t tk c (by lia) st1 (by rw[ea];exact et) bg1 λv2 h2 tk2 p2 k2=>hR v2 h2 tk2 p2 λb o nb ns eb=>k2 b o nb ns (kp b o nb eb)⟩
theorem Bv {R:Result->CW->Prop}{ts:List (Addr×List Int)}{kn:Str}{d:CU}(W:Walks prog w A.in1 I fp wr n P St)(hI:∀k h,St k h->∀t∈ts,TI h t)(hP:∀i v,P i v->∃t,ts[i]? = some t/\v = .ref t.1)(hz:∀t∈ts,t.2.length<2 ^ 63){S:Addr}(nS:S∉fp){s:CW}{c:Nat}(st:St 0 s.heap)(bg:Bag S #[] c s.heap)
  (hR:∀v h' tk,((0<n/\∃t,ts[argBest (eO ts) (n-1)]? = some t/\v = .ref t.1)\/(n=0/\v=d))->Kept wr S s.heap h'->R (.ok (.ret v)) { s with heap:=h',toks:=tk }):HQ (DG prog w) A (.builtin "min.loop" ⟨[.ref I,.builtin "len",.ref S],[(kn,d)]⟩) R s:=by
 have nw:S∉wr:=λh=>nS (W.sub _ h)
 have nm:(toString "min" ++ toString ".loop" : String) = "min.loop" := by decide
 refine D2 Fy ?_
 rw[DM DX _]
 show Dn _ _ (seqItems? (.ref S) >>= _) _ _ s
 refine CP (EE bg rfl ?_)
 show Dn _ _ (tryCatch (pyNext (.ref I)) _ >>= _) _ _ s
 by_cases hn:n=0
 ·subst hn
  refine CP (Fn (W.done s _ _ st λh1 tk kp =>?_))
  exact CP (Fi (CT (hR d h1 tk (.inr ⟨rfl,rfl⟩) λb o nb _ eb=>kp b o nb eb)))
 refine CP (Fn (W.item 0 s _ _ (by lia) st λv h1 tk pv st1 kp =>?_))
 obtain ⟨u,eu,rfl⟩:=hP _ _ pv
 have bg1:=kp S _ nw bg
 show Dn _ _ (tryCatch (Jd [Dv u.1] (call (.builtin "len") [.ref u.1])) _ >>= _) _ _ _
 refine CP (Fn (Er (xV (hI _ _ st1 u (C7 eu)) (hz u (C7 eu)) λtu tk2 =>?_)))
 show Dn _ _ (updateSeq S (λ_ => #[.ref u.1,.int u.2.length tu]) >>= _) _ _ _
 refine CP ?_
 refine ER bg1 rfl ?_
 rw[nm]
 refine CT ⟨Es DX _,Cu W hI hP hz nS (n-1) 0 _ u tu _ (by lia) (W.frame _ _ _ st1 λb fb o eb =>?_) eu (DV _ bg1 rfl) λt2 h2 tk2 p2 k2=>hR _ h2 tk2 (.inl ⟨by lia,t2,p2,rfl⟩) λb o nb ns eb=>k2 b o nb ns ?_⟩
 ·exact (Dx _ _ (λz:S=b=>nS (z ▸ fb))).trans eb
 ·exact (Dx _ _ (Ee ns)).trans (kp b o nb eb)
theorem wc (a f d:CU):argsOk "min" ⟨[a],[("key",f),("default",d)]⟩:=by unfold argsOk;kernel_rfl
theorem Cv {s:CW}{l:Addr}{its:Array CU}{ts:List (Addr×List Int)}{d:CU}{Q:CU->CW->Prop}(hh:A.handled=none)(hl:s.heap.IsList l its)(hT:∀t∈ts,TI s.heap t)(hP:∀(i:Nat) (v:CU),its[i]? = some v->∃t,ts[i]? = some t/\v = .ref t.1)(hz:∀t∈ts,t.2.length<2 ^ 63)
  (h:∀v h' tk,((0<its.size/\∃t,ts[argBest (eO ts) (its.size-1)]? = some t/\v = .ref t.1)\/(its.size=0/\v=d))->(∀b o,s.heap.get? b=some o->h'.get? b=some o)->Q v { s with heap:=h',toks:=tk }) :
  Dn (DG prog w) A (call (.builtin "min") [.ref l] [("key",.builtin "len"),("default",d)]) Q E s:=by
 have nm:(toString "min" ++ toString ".loop" : String) = "min.loop" := by decide
 have hlt:∀t∈ts,t.1<s.heap.objs.size:=λt ht=>by
  obtain ⟨_,⟨o,ho,_⟩,_⟩:=hT t ht
  exact Dc ho
 have hpl:l<s.heap.objs.size:=by obtain ⟨_,e,_⟩:=hl;exact Dc e
 refine Lh (Ip Jj Jk ?_)
 have hg:Dn (DG prog w) A.in1 (Builtin.«min» ⟨[.ref l],[("key",.builtin "len"),("default",d)]⟩) (λfin s'=>match fin with
   | .done f=>(match (Except.ok f:Result) with | .ok (.ret v)=>Q v s' | .ok _=>False | .error e=>E e s')
   | .again c'=>c'.quiet=true/\HQ (DG prog w) A c' (λr s'=>match r with | .ok (.ret v)=>Q v s' | .ok _=>False | .error e=>E e s') s') E s:=by
  show Dn _ A.in1 (Builtin.Builtins.bindParams "min" ["key", "default"] 0 ⟨[],[("key",.builtin "len"),("default",d)]⟩ >>= _) _ _ s
  refine CP (E9 (a:=[some (.builtin "len"),some d]) rfl ?_)
  refine CP (CT ?_)
  refine CP (GB hl ?_)
  refine CP (DP ?_)
  have W:=more (K5 (prog:=prog) (w:=w) (A:=A.in1) hh s.heap.objs.size l (Dk hpl) its) ts (λt ht hm=>by
   have:=hlt t ht
   rw[C2.mp hm] at this
   exact D9 _ this)
  rw[nm]
  refine CT ⟨Es DX _,Bv W (λk h x=>x.2) hP hz ?_ ⟨⟨⟨_,CQ _ (C3 _ rfl),rfl,rfl⟩,(hl.push _).push _⟩,λt ht=>(hT t ht).at λo e=>CQ _ (CQ _ e)⟩ (C3 _ rfl) λv h' tk hv kp =>?_⟩
  ·intro hm
   rw[Ek] at hm
   rcases Dd.mp hm with hm | hm
   ·rcases Dm.mp hm with e | hm
    ·exact Nat.succ_ne_self _ e
    ·have:=C2.mp hm
     rw[<- this] at hpl
     exact D9 _ (FD hpl)
   ·obtain ⟨t,ht,e⟩:=DH.mp hm
    have:=hlt t ht
    rw[e] at this
    exact D9 _ (FD this)
  ·refine h v h' tk hv λb o e=>kp b o (λhm =>?_) (λz =>?_) (CQ _ (CQ _ e))
   ·have:=Dc e
    rw[C2.mp hm] at this
    exact D9 _ this
   ·have:=Dc e
    rw[z,Ek] at this
    exact D9 _ (FD this)
 simp only[checkBuiltinCall,JE]
 cases hsig:Manifest.signature? "min" with
 | none=>exact CT hg
 | some sig =>
  have ha':Bind.checkArgs "min" sig ⟨[.ref l],[("key",.builtin "len"),("default",d)]⟩=pure ():=by simpa only[argsOk,hsig] using wc (.ref l) (.builtin "len") d
  simp only[ha']
  exact CT hg
end
end L2.MnT
namespace L2
open PySem PySem.Spec PyProof.Rows
theorem MnT.xW (g:Nat->Nat):∀k,∀j,j<=k->g (argBest (λi j=>decide (g i<g j)) k)<=g j
 | 0,j,hj=>by rw[LO.mp hj];exact C0 _
 | k+1,j,hj=>by
  have ih:=MnT.xW g k
  by_cases hb:g (k+1)<g (argBest (λi j=>decide (g i<g j)) k)
  ·have ea:argBest (λi j=>decide (g i<g j)) (k+1)=k+1:=by simp only[argBest,decide_eq_true hb,if_true]
   rw[ea]
   by_cases e:j=k+1
   ·rw[e];exact C0 _
   ·have:=ih j (by lia);lia
  ·have ea:argBest (λi j=>decide (g i<g j)) (k+1)=argBest (λi j=>decide (g i<g j)) k:=by simp only[argBest,decide_eq_false hb];rfl
   rw[ea]
   by_cases e:j=k+1
   ·rw[e];lia
   ·exact ih j (by lia)
section
variable  {X:Cx}
end
open PySem PySem.Spec PyProof.Rows
theorem MnT.Aq (g:Nat->Nat):∀k,∀j,j<argBest (λi j=>decide (g i<g j)) k->g (argBest (λi j=>decide (g i<g j)) k)<g j
 | 0,j,hj=>absurd hj (F3 _)
 | k+1,j,hj=>by
  by_cases hb:g (k+1)<g (argBest (λi j=>decide (g i<g j)) k)
  ·have ea:argBest (λi j=>decide (g i<g j)) (k+1)=k+1:=by simp only[argBest,decide_eq_true hb,if_true]
   rw[ea] at hj ⊢
   have:=MnT.xW g k j (by lia)
   lia
  ·have ea:argBest (λi j=>decide (g i<g j)) (k+1)=argBest (λi j=>decide (g i<g j)) k:=by simp only[argBest,decide_eq_false hb];rfl
   rw[ea] at hj ⊢
   exact MnT.Aq g k j hj
section
variable  {X:Cx}
def xX (K:CZ)(te:TE):TE:=λσ H Q=>te σ H λx H1=>∃(p:Addr) (ts:List (Addr×List Int)),[x]=[.ref p]/\SqL K H1 p (ts.map λt =>.ref t.1)/\(∀t∈ts,SqT K H1 t.1 (t.2.map V.int))/\(ts=[]->Q .non H1)/\∀(i:Nat) (t:Addr×List Int),ts[i]? = some t->(∀u∈ts,t.2.length<=u.2.length)->(∀(j:Nat) (u:Addr×List Int),j<i->ts[j]? = some u->t.2.length<u.2.length)->Q (.ref t.1) H1
theorem sO {e:Expr}{te:TE}{j:Nat}{p p2 p3 pos kpos kpos2:Pos}(hc:X.calm=true)(hg:Gl X "min")(hm:X.mg "min" = none)(hg2:Gl X "len")(hm2:X.mg "len" = none)(hv:Ez "min" = some (.builtin "min"))(he:PE X e te)
    (hs:En (e :: []) X.env=(false,eval e X.env) :: En [] X.env:=by rfl)
    (ha:Ig pos (En (e :: []) X.env)=(false,eval e X.env) :: Ig pos (En [] X.env):=by rfl)
    (hplain:(Ig pos (En (e :: []) X.env)).any (·.1)=false:=by rfl) :
    PE X (.Call (.Name "min" p) [e] [⟨some "key",.Name "len" p2,kpos⟩,⟨some "default",.Constant .none j p3,kpos2⟩] pos) (xX X.K te):=by
  intro pins s σ H Q I h
  refine Gn (d8 I hg hm hv ?_)
  refine PyProof.Rows.callWith_kw (thn ((aa he ag hs) pos pins s σ H (λvs H1=>∃(p:Addr) (ts:List (Addr×List Int)),vs=[.ref p]/\SqL X.K H1 p (ts.map λt:Addr×List Int=>V.ref t.1)/\(∀t∈ts,SqT X.K H1 t.1 (t.2.map V.int))/\(ts=[]->Q .non H1)/\∀(i:Nat) (t:Addr×List Int),ts[i]? = some t->(∀u∈ts,t.2.length<=u.2.length)->(∀(j:Nat) (u:Addr×List Int),j<i->ts[j]? = some u->t.2.length<u.2.length)->Q (.ref t.1) H1) I h) λus s1 ⟨vs,H1,I1,r1,q1⟩ =>?_) ha hplain rfl rfl
  show Dn _ _ (evalAll ((do let v ← eval (.Name "len" p2) X.env;standAt pos;pure v) :: (do let v ← eval (.Constant .none j p3) X.env;standAt pos;pure v) :: [])) _ _ s1
  refine K3 (CP (d8 I1 hg2 hm2 Ja (CP (Jy (CT ?_)))))
  refine K3 (CP (Constant_none (CP (Jy (CT (wpAny_evalAll_nil ?_))))))
  show Dn _ _ (call (.builtin "min") us [("key",.builtin "len"),("default",.none)]) _ _ s1
  obtain ⟨a,ts,rfl,hq,ht,q0,q⟩:=q1
  obtain ⟨u,rfl,ru⟩:=vals1 r1
  cases (show u=Dv a from ru)
  obtain ⟨its,rv,p1,_⟩:=I1.list hq
  have ll:=rv.length
  rw[CS] at ll
  refine MnT.Cv (ts:=ts) (I1.ok.hd hc) p1.isList (λt h' =>?_) (λi v hv =>?_) (λt h' =>?_) λv h' tk hv k =>?_
  · obtain ⟨i2,r2,p2,_⟩:=I1.tuple (ht t h')
    exact ⟨_,p2,intsAre_of r2⟩
  · rw[DJ] at hv
    have hi:i<ts.length:=by rw[ll];exact (C9.mp hv).1
    have e1:(ts.map λt=>V.ref t.1)[i]? = some (.ref ts[i].1):=by rw[C8,CV hi];rfl
    obtain ⟨w',ew,rw'⟩:=rv.get e1
    rw[ew] at hv
    exact ⟨ts[i],CV hi,(DB hv).symm.trans rw'⟩
  · obtain ⟨i2,r2,p2,z2⟩:=I1.tuple (ht t h')
    rw[CS,F6] at z2
    lia
  · rw[De, <- ll] at hv
    rcases hv with ⟨hn,t,et,rfl⟩ | ⟨hn,rfl⟩
    · refine ⟨.ref t.1,H1,I1.kept k,rfl,q _ t et (λu hu =>?_) λj u hj eu =>?_⟩
      · obtain ⟨i,hi,eu⟩:=GJ hu
        have:=MnT.xW (λi=>(ts.getD i (0,[])).2.length) (ts.length-1) i (by lia)
        rw[Df,Df,et,CV hi,eu] at this
        exact this
      · have:=MnT.Aq (λi=>(ts.getD i (0,[])).2.length) (ts.length-1) j hj
        rw[Df,Df,et,eu] at this
        exact this
    · exact ⟨.non,H1,I1.kept k,rfl,q0 (FX.mp hn)⟩
end
open PySem PySem.Spec PyProof.Rows
theorem uv {X:Cx}:OpR X (E3 .IsNot) (λx y H Q=>∃a b:Bool,x = .bl a/\y = .bl b/\Q (.bl (a != b)) H):=by
 intro pins s σ H x y v u Q I rx ry h
 obtain ⟨a,b,rfl,rfl,q⟩:=h
 cases rx
 cases ry
 exact isnot_bool ⟨.bl _,H,I,rfl,q⟩
open PySem PySem.Spec PyProof.Rows
def bR (K:CZ)(x:Str)(st:Stmt):Prop:=∃(f:Addr) (od an:Option Addr) (sl:Array (Option CU)) (oc kV dc pm cd ct:CU),EU K Eg x=some (some (.ref f))/\K.lookup f=some ⟨oc,od,.func (PySem.W.fnOf x x (dZ st) (bV st) (az st) .none kV dc pm an cd ct),sl⟩/\PySem.W.codeIn K cd x=true/\PySem.W.keepIn K (.ref f)=true
theorem bR.mk {K:CZ}{x:Str}{st:Stmt}{f:Addr}{od an:Option Addr}{sl:Array (Option CU)}{oc kV dc pm cd ct:CU}(a:EU K Eg x=some (some (.ref f)))(l:K.lookup f=some ⟨oc,od,.func (PySem.W.fnOf x x (dZ st) (bV st) (az st) .none kV dc pm an cd ct),sl⟩)(c:PySem.W.codeIn K cd x=true)(k:PySem.W.keepIn K (.ref f)=true):bR K x st:=⟨_,_,_,_,_,_,_,_,_,_,a,l,c,k⟩
theorem bR.cal {K:CZ}{x:Str}{st:Stmt}(hf:bR K x st)(P:Dp)(w:DW)(base:Heap){h:Heap}{mg:Str->Option CU}(X:K.In h)(G:h.Ns Eg mg){lv:Nat}{ps:List Str}{sp:Sp}(ok:∀{f:Addr} {fd:Eo},Fun K x x st f fd->bF P w K mg base CX0 lv f fd ps sp)
  (hb:∀(kV doc pm:CU) (an:Option Addr) (cdv ct:CU) (us:List CU),us.length=ps.length->bindArgs (PySem.W.fnOf x x (dZ st) (bV st) (az st) .none kV doc pm an cdv ct) ⟨us,[]⟩=pure (ps.zip us)):Cal P w K mg base lv x ps sp:=by
 obtain ⟨f,od,an,sl,oc,kV,dc,pm,cd,ct,a,l,c,k⟩:=hf
 have F:=w5 l c k
 exact ⟨_,_,ok F,Mf X G a,k,F.binds hb⟩
end L2
set_option maxHeartbeats 800000
namespace K18
open PySem L2
def top (i:Nat):Stmt:=PySem.Challenge.pw_ringfell_k18_whole_thinned_are_least.main.body.getD i (.Pass ⟨0,0,0,0⟩)
abbrev xY:Stmt:=top 4
abbrev uw:Stmt:=top 5
abbrev k8:Stmt:=top 6
abbrev k9:Stmt:=top 7
abbrev js:Stmt:=top 8
abbrev lb:Stmt:=top 9
abbrev ux:Stmt:=top 10
abbrev iN:Stmt:=top 11
abbrev gJ:Stmt:=top 12
abbrev lq:Stmt:=top 13
abbrev oE:Stmt:=top 15
abbrev jt:Stmt:=top 16
abbrev eQ:Stmt:=top 17
abbrev gP:Stmt:=top 18
abbrev fS:Stmt:=top 19
abbrev fT:Stmt:=top 20
abbrev gQ:Stmt:=top 21
abbrev oF:Stmt:=top 22
abbrev cN:Stmt:=top 24
abbrev gR:Stmt:=top 25
abbrev gS:Stmt:=top 27
abbrev fU:Stmt:=top 28
abbrev eE:Stmt:=top 29
abbrev lA:Stmt:=top 30
abbrev fV:Stmt:=top 31
abbrev gW:Stmt:=top 32
abbrev fW:Stmt:=top 33
abbrev xZ:Stmt:=top 35
abbrev x6:Stmt:=top 36
abbrev Ar:Stmt:=top 37
abbrev sP:Stmt:=top 38
abbrev fX:Stmt:=top 39
abbrev we:Stmt:=top 40
structure Blt (mg:Str->Option CU):Prop where
 b_all:mg "all" = none
 b_divmod:mg "divmod" = none
 b_enumerate:mg "enumerate" = none
 b_int:mg "int" = none
 b_len:mg "len" = none
 b_list:mg "list" = none
 b_max:mg "max" = none
 b_min:mg "min" = none
 b_range:mg "range" = none
 b_reversed:mg "reversed" = none
 b_set:mg "set" = none
 b_sorted:mg "sorted" = none
 b_sum:mg "sum" = none
 b_tuple:mg "tuple" = none
 b_zip:mg "zip" = none
theorem sQ:Ez "all" = some (.builtin "all"):=by decide +kernel
theorem cy:Ez "divmod" = some (.builtin "divmod"):=by decide +kernel
theorem x8:Ez "int" = some (.type "int"):=by decide +kernel
theorem gX:Ez "len" = some (.builtin "len"):=by decide +kernel
theorem zN:Ez "list" = some (.type "list"):=by decide +kernel
theorem x9:Ez "max" = some (.builtin "max"):=by decide +kernel
theorem lB:Ez "min" = some (.builtin "min"):=by decide +kernel
theorem yb:Ez "range" = some (.type "range"):=by decide +kernel
theorem yc:Ez "set" = some (.type "set"):=by decide +kernel
theorem eR:Ez "sorted" = some (.builtin "sorted"):=by decide +kernel
theorem Bw:Ez "sum" = some (.builtin "sum"):=by decide +kernel
theorem cQ:Ez "tuple" = some (.type "tuple"):=by decide +kernel
theorem hu8 {A:Ec}{k:Nat}(hr:dF k A):A.units+8<cLine:=HM (Ht (by decide:8<=64) _) hr.units
abbrev As:Stmt:=xZ
abbrev Au:Stmt:=x6
abbrev qD:Stmt:=Ar
abbrev yd:Stmt:=k8
abbrev Cw:Stmt:=ux
abbrev Cy:Stmt:=xY
abbrev ye:Stmt:=k9
abbrev sAt:Stmt:=uw
abbrev yf:Stmt:=iN
abbrev Av:Stmt:=gJ
abbrev yg:Stmt:=lq
structure Wb (H:Hp)(r:Addr)(m:Int)(ts:List (Addr×List Int)):Prop where
 at':∃t,H r=some (.tup [.int m,.ref t])/\H t=some (.tup (ts.map λu =>.ref u.1))
 tup:∀u∈ts,H u.1=some (.tup (u.2.map V.int))
 pr:∀u∈ts,∃a b:Int,u.2=[a,b]/\0<=a/\a<=b/\b<m
 len:ts.length<=200
theorem Wb.tp {H H':Hp}{r:Addr}{m:Int}{ts:List (Addr×List Int)}(h:Wb H r m ts)(t:Tp H H'):Wb H' r m ts :=
 let ⟨p,e1,e2⟩:=h.at'
 ⟨⟨p,t _ _ e1,t _ _ e2⟩,λu hu=>t _ _ (h.tup u hu),h.pr,h.len⟩
theorem Wb.same {H H':Hp}{r:Addr}{m:Int}{ts:List (Addr×List Int)}(h:Wb H r m ts)(s:aA H H'):Wb H' r m ts:=h.tp s.tp
theorem item {ts:List (Addr×List Int)}{i:Nat}{x:V}(e:(ts.map λt:Addr×List Int=>V.ref t.1)[i]? = some x):∃u,ts[i]? = some u/\x = .ref u.1:=by
 rw[C8] at e
 cases z:ts[i]? with
 | none=>rw[z] at e;cases e
 | some tt=>rw[z] at e;exact ⟨tt,rfl,(DB e).symm⟩
theorem Cz {ts:List (Addr×Int×Int)}{i:Nat}{x:V}(e:(ts.map λt:Addr×Int×Int=>V.ref t.1)[i]? = some x):∃u,ts[i]? = some u/\x = .ref u.1:=by
 rw[C8] at e
 cases z:ts[i]? with
 | none=>rw[z] at e;cases e
 | some tt=>rw[z] at e;exact ⟨tt,rfl,(DB e).symm⟩
theorem take_snoc {α β:Type}{f:α -> β}{l:List α}{i:Nat}{x:α}(e:l[i]? = some x):(l.take (i+1)).map f=(l.take i).map f++[f x]:=by
 rw[DY,e,Dg];rfl
structure cF (H:Hp)(l:Addr)(many:Int)(ts:List (Addr×Int×Int)):Prop where
 at':H l=some (.lst (ts.map λt =>.ref t.1))
 tup:∀t∈ts,H t.1=some (.tup [.int t.2.1,.int t.2.2])
 bnd:∀t∈ts,0<=t.2.1/\t.2.1<many/\0<=t.2.2/\t.2.2<many
theorem cF.same {H H':Hp}{l:Addr}{many:Int}{ts:List (Addr×Int×Int)}(h:cF H l many ts)(s:aA H H'):cF H' l many ts:=⟨s _ _ h.at',λt m=>s _ _ (h.tup t m),h.bnd⟩
theorem cF.put {H H':Hp}{l:Addr}{many:Int}{ts us:List (Addr×Int×Int)}(h:cF H' l many ts)(tu:∀t∈us,H' t.1=some (.tup [.int t.2.1,.int t.2.2]))(b:∀t∈us,0<=t.2.1/\t.2.1<many/\0<=t.2.2/\t.2.2<many) :
  cF (upd H' l (.lst (us.map λt =>.ref t.1))) l many us:=by
 refine ⟨ae,λt ht =>?_,b⟩
 rw[ay (fE (tu t ht) h.at' (by intro z;cases z))]
 exact tu t ht
theorem aA.cJ {H H':Hp}{l:Addr}(s:aA H H')(hl:H l=none)(o:HO):aA H (upd H' l o):=λb u e=>by
 rw[ay (aq e hl)];exact s _ _ e
def key (t:Addr×Int×Int):List Int:=nrm t.2.1 t.2.2
def sR (H:Hp)(ys:List V)(us:List (Addr×List Int)):Prop:=ys=us.map (λu =>.ref u.1)/\∀u∈us,H u.1=some (.tup (u.2.map V.int))
theorem sR.add {H:Hp}{ys:List V}{us:List (Addr×List Int)}(h:sR H ys us){t:Addr}(ht:H t=none)(ns:List Int):sR (upd H t (.tup (ns.map V.int))) (ys++[.ref t]) (us++[(t,ns)]):=by
 refine ⟨by rw[h.1,Dg];rfl,λu hu =>?_⟩
 rcases Dd.mp hu with z | z
 ·rw[ay (aq (h.2 u z) ht)]
  exact h.2 u z
 ·have e:u=(t,ns):=by simpa using z
  rw[e]
  exact ae
theorem sR.same {H H':Hp}{ys:List V}{us:List (Addr×List Int)}(h:sR H ys us)(s:aA H H'):sR H' ys us:=⟨h.1,λu hu=>s _ _ (h.2 u hu)⟩
theorem Bx {a b m:Int}(h:0<=a/\a<m/\0<=b/\b<m):∃x y:Int,nrm a b=[x,y]/\0<=x/\x<=y/\y<m:=by
 refine ⟨mnI a b,mxI a b,rfl,?_,?_,?_⟩ <;> (try unfold mnI) <;> (try unfold mxI) <;> (repeat' split) <;> lia
theorem dmN {n j:Int}(h:0<=n)(hj:0<j):0<=n/j/\0<=n%j/\n%j<j:=⟨LP h (by lia),Gw _ (by lia),Gh _ hj⟩
@[irreducible] def oG (K:CZ):Sp:=λvs H Q _=>∃(a:Addr) (ns:List Int) (k:Int),vs=[.ref a,.int k]/\SqL K H a (ns.map V.int)/\0<=k/\∀c:Int,Q (.int c) H
theorem gY {K:CZ}{vs:List V}{H:Hp}{Q:VK}{E:XK}:oG K vs H Q E↔∃(a:Addr) (ns:List Int) (k:Int),vs=[.ref a,.int k]/\SqL K H a (ns.map V.int)/\0<=k/\∀c:Int,Q (.int c) H:=by
 delta oG
 exact E8
abbrev uy:Sp:=λvs H Q _=>∃c s:Int,vs=[.int c,.int s]/\0<=s/\s<=1000/\∀n:Int,0<=n->Q (.int n) H
@[irreducible] def oH:Sp:=uy
theorem gZ {vs:List V}{H:Hp}{Q:VK}{E:XK}:oH vs H Q E↔uy vs H Q E:=by
 delta oH
 exact E8
section
variable  {P:Dp}{w:DW}{K:CZ}{mg:Str->Option CU}{base:Heap}{f:Addr}{fd:Eo}
theorem By:aF ["script", "k"] ["script", "k"] (az As):=⟨rfl,rfl,rfl,by decide +kernel,rfl,by decide +kernel,by decide +kernel⟩
theorem Bz (F:Fun K "_law_cell" "_law_cell" As f fd)(B:Blt mg):bF P w K mg base CX0 1 f fd ["script", "k"] (oG K):=by
 refine F.ok By (λvs H Q E h =>?_) (λcdv A outer s H vs Q E hr h =>?_)
 ·obtain ⟨c,k,k',rfl,_⟩:=gY.mp h
  rfl
 obtain ⟨a,ns,k,rfl,hS,k0,q⟩:=gY.mp h
 refine ⟨_,ah (bJ (aJ tH (pv 1) (aB bh rfl B.b_len Ja (aa (pv 0) ag)) (aM _)) (ak (aH (aL dY (pv 0) (pv 1) (λ_ _=>rfl)))) aP)
  (ak (aH ai)),?_⟩
 refine ⟨_,rfl,_,rfl,a,_,rfl,.inl hS,_,_,rfl,rfl,_,rfl,iB (λc =>?_) λ_=>q 0⟩
 have c':k<((ns.map V.int).length:Int):=of_decide_eq_true c
 rw[CS] at c'
 obtain ⟨n,rfl⟩:∃n:Nat,k=n:=⟨k.toNat,by lia⟩
 exact ⟨_,rfl,_,rfl,a,_,_,.int (ns[n]'(by lia)),rfl,rfl,hS,da (by rw[C8,CV (by lia)];rfl),q _⟩
theorem hJ:aF ["cell", "salt", "one", "number", "j"] ["cell", "salt"] (az Au):=⟨rfl,rfl,rfl,by decide +kernel,rfl,by decide +kernel,by decide +kernel⟩
theorem BA (F:Fun K "_law_deal" "_law_deal" Au f fd)(B:Blt mg):bF P w K mg base CX0 1 f fd ["cell", "salt"] oH:=by
 refine F.ok hJ (λvs H Q E h =>?_) (λcdv A outer s H vs Q E hr h =>?_)
 ·obtain ⟨c,k,rfl,_⟩:=gZ.mp h
  rfl
 obtain ⟨c,salt,rfl,s0,s1,q⟩:=gZ.mp h
 refine ⟨_,ah (bJ (aJ wO (pv 0) (aO wM ai ai) (aM _)) (ak (aH (aO gM (pv 0) (aO wM ai ai)))) aP)
  (ah (aK (i:=2) hJ.nd rfl (Or.inl rfl) (aO gN (pv 0) ai))
  (ah (aK (i:=3) hJ.nd rfl (Or.inl rfl) ai)
  (ah (cj Eh rfl (bK rfl B.b_range (aa ai ag)) (au (i:=4) hJ.nd rfl (Or.inl rfl))
   (ah (aK (i:=2) hJ.nd rfl (Or.inl rfl) (aO gN (aO eZ (aO cW (aO cW (aO cW (pv 2) (aO eZ (aO eZ ai (pv 4)) (pv 4))) (aO eZ ai (pv 1))) ai) ai) ai))
   (ah (aK (i:=2) hJ.nd rfl (Or.inl rfl) (aO gN (aO eZ (pv 2) (pv 2)) ai))
   (ak (aK (i:=3) hJ.nd rfl (Or.inl rfl) (aO cW (aO eZ (pv 3) ai) (aO yS (aO gN (aO eZ (pv 2) ai) ai) ai)))))))
  (ak (aH (pv 3)))))),?_⟩
 refine ⟨_,rfl,_,_,rfl,rfl,⟨by decide,by decide,by decide⟩,_,_,rfl,rfl,_,rfl,?_⟩
 refine iB (λc1 =>?_) (λc1 =>?_)
 ·have c':(10:Int) ^ (18:Int).toNat<=c:=of_decide_eq_true c1
  exact ⟨_,rfl,_,_,rfl,rfl,⟨by decide,by decide,by decide⟩,_,_,rfl,rfl,q _ (by lia)⟩
 ·refine ⟨_,rfl,_,_,rfl,rfl,(by show (0:Int)<_;decide),_,rfl,by decide,by decide,du (λk σ H'=>(∃(o g:Int) (lv:Option V),0<=g/\σ=[some (.int c),some (.int salt),some (.int o),some (.int g),lv])/\H'=H) ⟨⟨_,0,none,by decide,rfl⟩,rfl⟩ ?_ ?_⟩
  ·rintro k σ H' hk ⟨⟨o,g,lv,hg,rfl⟩,rfl⟩
   have hk':k<24:=hk
   refine ⟨_,rfl,_,rfl,_,_,rfl,rfl,.inl ⟨by decide,by decide⟩,_,rfl,_,_,rfl,rfl,.inl ⟨by lia,by lia⟩,_,_,rfl,rfl,_,rfl,_,_,rfl,rfl,.inl ⟨by decide,by decide⟩,_,_,rfl,rfl,_,_,rfl,rfl,_,_,rfl,rfl,.inr ⟨by decide,by decide⟩,_,_,rfl,rfl,(by show (0:Int)<_;decide),?_⟩
   generalize ((o+15*(0+(k:Int))*(0+(k:Int))+31*salt+11)*48271)=z1
   have b1:=Gw z1 (b:=2147483647) (by decide)
   have b2:=Gh z1 (b:=2147483647) (by decide)
   refine ⟨_,rfl,_,rfl,_,_,rfl,rfl,.inl ⟨by lia,by lia⟩,_,_,rfl,rfl,(by show (0:Int)<_;decide),?_⟩
   refine ⟨_,rfl,_,_,rfl,rfl,.inr ⟨by decide,by decide⟩,_,rfl,_,_,rfl,rfl,.inr ⟨by decide,by decide⟩,_,_,rfl,rfl,(by show (0:Int)<_;decide),_,_,rfl,rfl,⟨by decide,by decide⟩,_,_,rfl,rfl,⟨_,_,_,?_,rfl⟩,rfl⟩
   generalize (z1%2147483647*(z1%2147483647)%2147483629*69621)=z2
   have a1:0<=g*998244353:=Int.mul_nonneg hg (by decide)
   have a2:0<=z2%2147483587/7:=LP (Gw z2 (by decide)) (by decide)
   lia
  ·rintro σ H' ⟨⟨o,g,lv,hg,rfl⟩,rfl⟩
   exact ⟨_,rfl,q g hg⟩
end
open PySem L2
theorem gw {X:Cx}{body:List Stmt}{D0:Ends}{σ0:St}{H0:Hp}(sts:List Stmt)(M:St->Hp->Prop)(h:∃t2,PSs X sts t2/\∀σ H,M σ H->t2 D0 σ H)
  (g:∀t2,PSs X sts t2->(∀σ H,M σ H->t2 D0 σ H)->∃t,PSs X body t/\t D0 σ0 H0):∃t,PSs X body t/\t D0 σ0 H0:=by
 obtain ⟨t2,p2,m2⟩:=h
 exact g t2 p2 m2
def T3 (H:Hp)(ys:List V)(us:List (Addr×Int×Int)):Prop:=ys=us.map (λu =>.ref u.1)/\∀u∈us,H u.1=some (.tup [.int u.2.1,.int u.2.2])
theorem T3.add {H:Hp}{ys:List V}{us:List (Addr×Int×Int)}(h:T3 H ys us){t:Addr}(ht:H t=none)(a b:Int):T3 (upd H t (.tup [.int a,.int b])) (ys++[.ref t]) (us++[(t,a,b)]):=by
 refine ⟨by rw[h.1,Dg];rfl,λu hu =>?_⟩
 rcases Dd.mp hu with z | z
 ·rw[ay (aq (h.2 u z) ht)]
  exact h.2 u z
 ·have e:u=(t,a,b):=by simpa using z
  rw[e]
  exact ae
theorem T3.CA {H:Hp}{ys:List V}{us:List (Addr×Int×Int)}{m:Int}(h:T3 H ys us){l:Addr}(hl:H l=none)(b:∀t∈us,0<=t.2.1/\t.2.1<m/\0<=t.2.2/\t.2.2<m):cF (upd H l (.lst ys)) l m us:=by
 refine ⟨by rw[ae,h.1],λu hu =>?_,b⟩
 rw[ay (aq (h.2 u hu) hl)]
 exact h.2 u hu
theorem lC {m a b:Int}{t:Addr}{us:List (Addr×Int×Int)}(h:∀t∈us,0<=t.2.1/\t.2.1<m/\0<=t.2.2/\t.2.2<m)(hab:0<=a/\a<m/\0<=b/\b<m):∀x∈us++[(t,a,b)],0<=x.2.1/\x.2.1<m/\0<=x.2.2/\x.2.2<m:=λx hx=>by
 rcases Dd.mp hx with z | z
 ·exact h x z
 ·rw[C2] at z;subst z;exact hab
theorem cF.push {H0 H:Hp}{l:Addr}{m:Int}{ts:List (Addr×Int×Int)}(h:cF H l m ts){t:Addr}(ht:H t=none){a b:Int}(hab:0<=a/\a<m/\0<=b/\b<m) :
  cF (upd (upd H t (.tup [.int a,.int b])) l (.lst ((ts.map λt =>.ref t.1)++[.ref t]))) l m (ts++[(t,a,b)]):=by
 have nt:∀{c:Addr} {xs:List V},H c=some (.tup xs)->c≠l:=λe=>fE e h.at' (by intro z;cases z)
 have ntl:t≠l:=Ee (aq h.at' ht)
 refine ⟨by rw[ae,Dg];rfl,λu hu =>?_,lC h.bnd hab⟩
 rcases Dd.mp hu with z | z
 ·rw[ay (nt (h.tup u z)),ay (aq (h.tup u z) ht)];exact h.tup u z
 ·rw[C2] at z;subst z
  rw[ay ntl];exact ae
theorem uz {α:Type}(x:α):∀k:Nat,(D5 k [x]).flatten=D5 k x
 | 0=>rfl
 | k+1=>by rw[Fz,FA,uz x k,Fz];rfl
abbrev uA:Sp:=λvs H Q _=>∃n most:Int,vs=[.int n,.int most]/\0<=n/\0<=most/\most<=30/\∀(p b:Addr) (n' m:Int) (ts:List (Addr×List Int)) (H':Hp),aA H H'->H' p=some (.tup [.ref b,.int n'])->Wb H' b m ts->0<=m->m<=most->0<=n'->Q (.ref p) H'
@[irreducible] def oI:Sp:=uA
theorem hW {vs:List V}{H:Hp}{Q:VK}{E:XK}:oI vs H Q E↔uA vs H Q E:=by
 delta oI
 exact E8
def MT (H:Hp)(most:Int)(k:Nat)(σ:St)(H':Hp):Prop:=∃(n m wy c t:Int) (l:Addr) (ts:List (Addr×Int×Int)) (c7 c8 c9 c10 c11:Option V),
 σ=[some (.int n),some (.int most),some (.int m),some (.int wy),some (.int c),some (.int t),some (.ref l),c7,c8,c9,c10,c11]/\0<=n/\0<=m/\m<=most/\0<=c/\c<=60/\aA H H'/\H l=none/\cF H' l m ts/\ts.length<=k
section
variable  {P:Dp}{w:DW}{K:CZ}{mg:Str->Option CU}{base:Heap}{f:Addr}{fd:Eo}
theorem ndPM:(["place", "many"]:List Str).Nodup:=by decide +kernel
theorem CB:(["one", "other", "many"]:List Str).Nodup:=by decide +kernel
theorem ndP:(["pair"]:List Str).Nodup:=by decide +kernel
theorem bo:aF ["number", "most", "many", "way", "count", "turn", "ties", "place", "other", "k", "one", "again"] ["number", "most"] (az qD):=⟨rfl,rfl,rfl,by decide +kernel,rfl,by decide +kernel,by decide +kernel⟩
theorem BB (F:Fun K "_law_web" "_law_web" qD f fd)(B:Blt mg):bF P w K mg base CX0 1 f fd ["number", "most"] oI:=by
 refine F.ok bo (λvs H Q E h =>?_) (λcdv A outer s H vs Q E hr h =>?_)
 ·obtain ⟨c,k,rfl,_⟩:=hW.mp h
  rfl
 obtain ⟨n,most,rfl,n0,h0,h1,q⟩:=hW.mp h
 refine gw ((bV qD).drop 9) (MT H most 200) ?hT λtT pT mT =>?gT
 case hT =>
  refine ⟨_,ak (aH (ck (aa (ck (aa (pv 2) (aa (aS aY rfl B.b_tuple ID (aa (aB og rfl B.b_sorted eR (aa
   (bj ["pair"] [none] rfl (bI (pv 6)) rfl (λ_ _ _ _ _=>au (i:=0) ndP rfl (Or.inl rfl)) (λ_ _ _ _ _=>cD)
    (λ_ _ _ _ _=>ck (aa (aB (vO (K:=K) rfl) rfl B.b_min lB (aa (pv 0) ag)) (aa (aB (vP (K:=K) rfl) rfl B.b_max x9 (aa (pv 0) ag)) ag)))) ag)) ag)) ag))) (aa (pv 0) ag)))),?_⟩
  rintro σ H8 ⟨n,m,wy,c,t,l,ts,c7,c8,c9,c10,c11,rfl,n0,m0,m1,_,_,s8,hl,tA,lt⟩
  refine ⟨_,rfl,_,rfl,l,rfl,⟨_,SqL.of tA.at'⟩,bT (xs:=ts.map λt =>.ref t.1) (λi ys H'=>aA H8 H'/\∃us,sR H' ys us/\us.map (·.2)=(ts.take i).map key) ⟨aA.refl _,[],⟨rfl,λu hu=>by cases hu⟩,rfl⟩ (by rw[CS];exact small (by lia)) (λi ys H'' _ z=>SqL.of (z.1 _ _ tA.at')) ?_ ?_⟩
  ·rintro i x ys H' hx hy ⟨s',us,tu,eu⟩ R1 R0 r1 r0
   obtain ⟨tt,ht,rfl⟩:=Cz hx
   have e2:=s' _ _ (tA.tup tt (C7 ht))
   refine bH ⟨_,rfl,_,_,_,rfl,SqT.of e2,_,rfl,_,_,_,rfl,SqT.of e2,(by show 2<=Dl;decide),λtn htn=>r1 _ _ ⟨s'.trans (af htn _),us++[(tn,key tt)],tu.add htn _,?_⟩⟩
   rw[Dg,eu,DY,ht,Dg]
   rfl
  rintro ys H9 hy ⟨s9,us,tu,eu⟩ L hL
  have eu':us.map (·.2)=ts.map key:=by rw[eu,CS,Dj (C0 _)]
  have s10:=s9.trans (af hL (.lst ys))
  have tu10:=tu.same (af hL (.lst ys))
  have ey:=tu.1
  have keys:∀u∈us,∃x y:Int,u.2=[x,y]/\0<=x/\x<=y/\y<m:=λu hu=>by
   have:u.2∈ts.map key:=by rw[<- eu'];exact EN hu
   obtain ⟨t,ht,e⟩:=DH.mp this
   rw[<- e]
   exact Bx (tA.bnd t ht)
  have nn:∀u∈us,u.2≠[]:=λu hu z=>by
   obtain ⟨a,b,e,_⟩:=keys u hu
   rw[z] at e
   cases e
  refine ⟨L,us,rfl,.inl (SqL.of (by rw[ae,ey])),λu hu=>⟨SqT.of (tu10.2 u hu),nn u hu⟩,λL2 out hL2 po ps =>?_⟩
  have s11:=s10.trans (af hL2 (.lst (out.map λt =>.ref t.1)))
  have tu11:=tu10.same (af hL2 (.lst (out.map λt =>.ref t.1)))
  refine ⟨L2,_,rfl,.inl ⟨SqL.of ae,λl3 hl3 =>?_⟩⟩
  have s12:=s11.trans (af hl3 (.tup (out.map λt =>.ref t.1)))
  have tu12:=tu11.same (af hl3 (.tup (out.map λt =>.ref t.1)))
  refine ⟨(by show 2<=Dl;decide),λb hb=>⟨_,rfl,(by show 2<=Dl;decide),λp hp =>?_⟩⟩
  have sb:=af hb (.tup [.int m,.ref l3])
  have sp:=af hp (.tup [.ref b,.int n])
  have lu:us.length=ts.length:=by have:=congrArg List.length eu';rwa [CS,CS] at this
  refine q p b n m out _ (s8.trans (s12.trans (sb.trans sp))) ae ⟨⟨l3,sp _ _ ae,sp _ _ (sb _ _ ae)⟩,λu hu=>sp _ _ (sb _ _ (tu12.2 u (po.mem_iff.mp hu))),λu hu=>keys u (po.mem_iff.mp hu),?_⟩ m0 m1 n0
  rw[po.length_eq];lia
 refine gw ((bV qD).drop 7) (MT H most 30) ?hU λtU pU mU =>?gU
 case hU =>
  refine ⟨_,ah (cj Eh rfl (bK rfl B.b_range (aa (aO eZ (pv 4) (aS mC rfl B.b_int x8 (aa (cK B4 (pv 2) ai (aM _)) ag))) ag)) (au (i:=9) bo.nd rfl (Or.inl rfl))
    (ah (eX (aB bC rfl B.b_divmod cy (aa (pv 0) (aa (pv 2) ag))) (dB rfl (aR (au (i:=0) bo.nd rfl (Or.inl rfl)) (aR (au (i:=10) bo.nd rfl (Or.inl rfl)) cB))))
    (ah (eX (aB bC rfl B.b_divmod cy (aa (pv 0) (aa (pv 2) ag))) (dB rfl (aR (au (i:=0) bo.nd rfl (Or.inl rfl)) (aR (au (i:=8) bo.nd rfl (Or.inl rfl)) cB))))
    (ah (eX (aB bC rfl B.b_divmod cy (aa (pv 0) (aa ai ag))) (dB rfl (aR (au (i:=0) bo.nd rfl (Or.inl rfl)) (aR (au (i:=11) bo.nd rfl (Or.inl rfl)) cB))))
    (ak (cZ (iA Em PySem.F.slot_list_extend PySem.F.type_list_extend vg (pv 6) (aa (aO A5 (cX (aa (ck (aa (pv 10) (aa (pv 8) ag))) ag)) (aO cW ai (aS mC rfl B.b_int x8 (aa (cK dE (pv 11) ai (aM _)) ag)))) ag))))))))
   (ah (bJ (aJ dE (pv 5) ai (aM _)) (ak (dH (i:=6) ["one", "other", "many"] [none,none,some 2] rfl bo.nd rfl rfl (bI (pv 6)) rfl (λ_ _ _ _ _=>pZ (K:=K) (i:=0) (j:=1) CB rfl rfl (Or.inl rfl) (Or.inl rfl)) (λ_ _ _ _ _=>cD)
     (λ_ _ _ _ _=>ck (aa (aO gM (aO gM (pv 2) ai) (pv 0)) (aa (aO gM (aO gM (pv 2) ai) (pv 1)) ag))))) aP) pT),?_⟩
  rintro σ H2 ⟨n,m,wy,c,t,l,ts,c7,c8,c9,c10,c11,rfl,n0,m0,m1,cc0,cc1,s2,hl,tA,lt⟩
  have hN:∃N:Int,c*(if decide (0<m)=true then 1 else 0)=N/\0<=N/\N<=c/\(0<N->0<m):=by
   by_cases h:0<m
   ·exact ⟨c,by rw[if_pos (decide_eq_true h)];lia,cc0,by lia,λ_=>h⟩
   ·exact ⟨0,by rw[if_neg (by simpa using h)];lia,by lia,by lia,λz=>by lia⟩
  obtain ⟨N,eN,N0,N1,Nm⟩:=hN
  refine ⟨_,rfl,_,rfl,_,_,rfl,rfl,.inr ⟨_,rfl,_,_,rfl,rfl,.inl ⟨by lia,by lia⟩,N,by rw[<- eN],by lia,by lia,?_⟩⟩
  let W0:Nat->St->Hp->Prop:=λi σ H'=>(∃(n:Int) (c8 c9 c10 c11:Option V),0<=n/\σ=[some (.int n),some (.int most),some (.int m),some (.int wy),some (.int c),some (.int t),some (.ref l),c7,c8,c9,c10,c11])/\aA H H'/\∃ts,cF H' l m ts/\ts.length<=30+2*i
  refine du W0 ⟨⟨_,_,_,_,_,n0,rfl⟩,s2,ts,tA,by lia⟩ ?_ ?_
  ·rintro i σ H3 hi ⟨⟨n,c8,c9,c10,c11,n0,rfl⟩,s3,ts,tA,lt⟩
   have hi':(i:Int)<N:=by lia
   have mp:0<m:=Nm (by lia)
   obtain ⟨q0,x0,x1⟩:=dmN n0 mp
   refine ⟨_,rfl,_,rfl,n,m,rfl,⟨mp,by lia⟩,λp hp=>⟨p,_,rfl,SqT.of ae,rfl,_,_,rfl,_,_,rfl,rfl,?_⟩⟩
   have tA1:=tA.same (af hp (.tup [.int (n/m),.int (n%m)]))
   have s4:=s3.trans (af hp (.tup [.int (n/m),.int (n%m)]))
   generalize upd H3 p (.tup [.int (n/m),.int (n%m)])=H4 at tA1 s4
   generalize n/m=n1 at q0
   generalize n%m=x at x0 x1
   obtain ⟨q1,y0,y1⟩:=dmN q0 mp
   refine ⟨_,rfl,_,rfl,n1,m,rfl,⟨mp,by lia⟩,λp hp=>⟨p,_,rfl,SqT.of ae,rfl,_,_,rfl,_,_,rfl,rfl,?_⟩⟩
   have tA2:=tA1.same (af hp (.tup [.int (n1/m),.int (n1%m)]))
   have s5:=s4.trans (af hp (.tup [.int (n1/m),.int (n1%m)]))
   generalize upd H4 p (.tup [.int (n1/m),.int (n1%m)])=H5 at tA2 s5
   generalize n1/m=n2 at q1
   generalize n1%m=y at y0 y1
   obtain ⟨q2,z0,z1⟩:=dmN (j:=8) q1 (by decide)
   refine ⟨_,rfl,n2,8,rfl,⟨by decide,by decide⟩,λp hp=>⟨p,_,rfl,SqT.of ae,rfl,_,_,rfl,_,_,rfl,rfl,?_⟩⟩
   have tA3:=tA2.same (af hp (.tup [.int (n2/8),.int (n2%8)]))
   have s6:=s5.trans (af hp (.tup [.int (n2/8),.int (n2%8)]))
   generalize upd H5 p (.tup [.int (n2/8),.int (n2%8)])=H6 at tA3 s6
   generalize n2/8=n3 at q2
   generalize n2%8=z at z0 z1
   refine ⟨_,rfl,.inl ⟨rfl,_,SqL.of tA3.at'⟩,_,rfl,_,rfl,(by show 2<=Dl;decide),λt1 ht1=>⟨(by show 1<=Dl;decide),λb1 hb1 =>?_⟩⟩
   have hk:∃k:Nat,(1+(if decide (V.int z=V.int 0)=true then 1 else 0):Int)=(k:Int)/\1<=k/\k<=2:=by
    by_cases h:V.int z=V.int 0
    ·exact ⟨2,by rw[if_pos (decide_eq_true h)];rfl,by lia,by lia⟩
    ·exact ⟨1,by rw[if_neg (by simpa using h)];rfl,by lia,by lia⟩
   obtain ⟨k,ek,k1,k2⟩:=hk
   refine ⟨_,rfl,rfl,.inr ⟨_,rfl,_,_,rfl,rfl,b1,(k:Int),[.ref t1],rfl,by rw[<- ek],ae,by lia,by lia,?_,λb2 hb2 =>?_⟩⟩
   ·show 1*(k:Int).toNat<=Dl
    exact small (by lia)
   have g1:=af ht1 (.tup [.int x,.int y])
   have g2:=af hb1 (.lst [.ref t1])
   have g3:=af hb2 (.lst (D5 (k:Int).toNat [V.ref t1]).flatten)
   have tA6:=((tA3.same g1).same g2).same g3
   have et:upd (upd (upd H6 t1 (.tup [.int x,.int y])) b1 (.lst [.ref t1])) b2 (.lst (D5 (k:Int).toNat [V.ref t1]).flatten) t1=some (.tup [.int x,.int y]):=g3 _ _ (g2 _ _ ae)
   have eb2:upd (upd (upd H6 t1 (.tup [.int x,.int y])) b1 (.lst [.ref t1])) b2 (.lst (D5 (k:Int).toNat [V.ref t1]).flatten) b2=some (.lst (((D5 k (t1,x,y))).map λu=>V.ref u.1)):=by
    rw[ae,Ex]
    rw[uz,List.map_replicate]
   have s9:=s6.trans (g1.trans (g2.trans g3))
   generalize upd (upd (upd H6 t1 (.tup [.int x,.int y])) b1 (.lst [.ref t1])) b2 (.lst (D5 (k:Int).toNat [V.ref t1]).flatten)=H9 at tA6 et eb2 s9
   refine ⟨l,b2,_,_,rfl,rfl,tA6.at',eb2,?_,⟨_,_,_,_,_,q2,rfl⟩,aA.cJ s9 hl _,ts++D5 k (t1,x,y),?_,?_⟩
   ·rw[CS,CS,Gd];exact small (by lia)
   ·rw[<- Dg]
    refine tA6.put (H:=H) (λu hu =>?_) λu hu =>?_
    ·rcases Dd.mp hu with h | h
     ·exact tA6.tup u h
     ·rw[Jm h];exact et
    ·rcases Dd.mp hu with h | h
     ·exact tA6.bnd u h
     ·rw[Jm h];exact ⟨x0,x1,y0,y1⟩
   ·rw[C1,Gd];lia
  ·rintro σ H3 ⟨⟨n,c8,c9,c10,c11,n0,rfl⟩,s3,ts,tA,lt⟩
   have lt':ts.length<=150:=by lia
   refine ⟨_,rfl,rfl,_,rfl,iB (λ_ =>?_) λ_=>mT _ _ ⟨n,m,wy,c,t,l,ts,_,_,_,_,_,rfl,n0,m0,m1,cc0,cc1,s3,hl,tA,by lia⟩⟩
   have em:(ts.map λt=>(t.1,V.int t.2.1,V.int t.2.2)).map (λt=>V.ref t.1)=ts.map λt=>V.ref t.1:=by rw[HC];rfl
   refine ⟨_,rfl,l,rfl,⟨_,SqL.of tA.at'⟩,rT (ts:=ts.map λt=>(t.1,V.int t.2.1,V.int t.2.2)) (λi ys H'=>aA H3 H'/\∃us,T3 H' ys us/\us.length=i/\∀t∈us,0<=t.2.1/\t.2.1<m/\0<=t.2.2/\t.2.2<m) (by decide) ⟨aA.refl _,[],⟨rfl,λu hu=>by cases hu⟩,rfl,λu hu=>by cases hu⟩ (by rw[CS];exact small (by lia)) ?_ ?_ ?_⟩
   ·rintro i ys H' _ ⟨s',_⟩
    rw[em]
    refine ⟨SqL.of (s' _ _ tA.at'),λt ht =>?_⟩
    obtain ⟨tt,htt,rfl⟩:=DH.mp ht
    exact SqT.of (s' _ _ (tA.tup tt htt))
   ·rintro i t ys H' ht hy ⟨s',us,tu,lu,bu⟩ R1 R0 r1 r0
    rw[C8] at ht
    cases hi:ts[i]? with
    | none=>rw[hi] at ht;cases ht
    | some tt =>
    rw[hi] at ht
    have ht':=DB ht
    subst ht'
    have bb:=tA.bnd tt (C7 hi)
    refine bH ⟨_,rfl,_,_,rfl,rfl,_,rfl,_,_,rfl,rfl,_,rfl,_,_,rfl,rfl,_,rfl,_,_,rfl,rfl,(by show 2<=Dl;decide),λtn htn=>r1 _ _ ⟨s'.trans (af htn _),us++[(tn,m-1-tt.2.1,m-1-tt.2.2)],tu.add htn _ _,by rw[C1,lu];rfl,lC bu (by lia)⟩⟩
   ·rintro ys H9 hy ⟨s9,us,tu,lu,bu⟩ L hL
    rw[CS] at lu
    exact mT _ _ ⟨n,m,wy,c,t,L,us,_,_,_,_,_,rfl,n0,m0,m1,cc0,cc1,s3.trans (s9.trans (af hL _)),(s3.trans s9).free hL,tu.CA hL bu,by lia⟩
 refine gw ((bV qD).drop 6) (MT H most 30) ?hV λtV pV mV =>?gV
 case hV =>
  refine ⟨_,ah (bJ (aJ dE (pv 3) ai (aM _)) (ah (dH (i:=6) ["place", "many"] [none,some 2] rfl bo.nd rfl rfl (bK rfl B.b_range (aa (pv 2) ag)) rfl (λ_ _ _ _ _=>au (i:=0) ndPM rfl (Or.inl rfl)) (λ_ _ _ _ _=>cD)
    (λ_ _ _ _ _=>ck (aa (pv 0) (aa (aO gN (aO cW (pv 0) ai) (pv 1)) ag))))
   (ak (aK (i:=4) bo.nd rfl (Or.inl rfl) (aO gN (pv 4) ai)))) aP) pU,?_⟩
  rintro σ H2 ⟨n,m,wy,c,t,l,ts,c7,c8,c9,c10,c11,rfl,n0,m0,m1,cc0,cc1,s2,hl,tA,lt⟩
  refine ⟨_,rfl,rfl,_,rfl,iB (λ_ =>?_) λ_=>mU _ _ ⟨n,m,wy,c,t,l,ts,_,_,_,_,_,rfl,n0,m0,m1,cc0,cc1,s2,hl,tA,lt⟩⟩
  let W1:Nat->List V->Hp->Prop:=λi ys H'=>aA H2 H'/\∃us,T3 H' ys us/\us.length=i/\∀t∈us,0<=t.2.1/\t.2.1<m/\0<=t.2.2/\t.2.2<m
  refine ⟨_,rfl,m,rfl,by lia,by lia,cv W1 ⟨aA.refl _,[],⟨rfl,λu hu=>by cases hu⟩,rfl,λu hu=>by cases hu⟩ (small (by lia)) ?_ ?_⟩
  ·rintro i ys H' hi hy ⟨s',us,tu,lu,bu⟩ R1 R0 r1 r0
   have mp:0<m:=by lia
   have b1:=Gw (0+(i:Int)+1) (b:=m) (by lia)
   have b2:=Gh (0+(i:Int)+1) mp
   exact bH ⟨_,rfl,_,rfl,_,_,rfl,rfl,_,rfl,_,_,rfl,rfl,mp,(by show 2<=Dl;decide),λtn htn=>r1 _ _ ⟨s'.trans (af htn _),us++[(tn,0+(i:Int),(0+(i:Int)+1)%m)],tu.add htn _ _,by rw[C1,lu];rfl,lC bu (by lia)⟩⟩
  ·rintro ys H9 hy ⟨s9,us,tu,lu,bu⟩ L hL
   have z0:=Gw c (b:=5) (by decide)
   have z1:=Gh c (b:=5) (by decide)
   exact ⟨_,rfl,_,_,rfl,rfl,(by show (0:Int)<5;decide),mU _ _ ⟨n,m,wy,c%5,t,L,us,_,_,_,_,_,rfl,n0,m0,m1,z0,by lia,s2.trans (s9.trans (af hL _)),(s2.trans s9).free hL,tu.CA hL bu,by lia⟩⟩
 refine ⟨_,ah (eX (aB bC rfl B.b_divmod cy (aa (pv 0) (aa (aO cW (pv 1) ai) ag))) (dB rfl (aR (au (i:=0) bo.nd rfl (Or.inl rfl)) (aR (au (i:=2) bo.nd rfl (Or.inr rfl)) cB))))
  (ah (eX (aB bC rfl B.b_divmod cy (aa (pv 0) (aa ai ag))) (dB rfl (aR (au (i:=0) bo.nd rfl (Or.inl rfl)) (aR (au (i:=3) bo.nd rfl (Or.inl rfl)) cB))))
  (ah (eX (aB bC rfl B.b_divmod cy (aa (pv 0) (aa (aO cW (aO eZ ai (pv 1)) ai) ag))) (dB rfl (aR (au (i:=0) bo.nd rfl (Or.inl rfl)) (aR (au (i:=4) bo.nd rfl (Or.inl rfl)) cB))))
  (ah (eX (aB bC rfl B.b_divmod cy (aa (pv 0) (aa ai ag))) (dB rfl (aR (au (i:=0) bo.nd rfl (Or.inl rfl)) (aR (au (i:=5) bo.nd rfl (Or.inl rfl)) cB))))
  (ah (aK (i:=6) bo.nd rfl (Or.inl rfl) (cX ag))
  (ah (bJ (aJ tH (pv 3) ai (aM _))
   (ah (cj Eh rfl (va rfl B.b_range (aa ai (aa (pv 2) ag))) (au (i:=7) bo.nd rfl (Or.inl rfl))
    (ah (eX (aB bC rfl B.b_divmod cy (aa (pv 0) (aa (pv 7) ag))) (dB rfl (aR (au (i:=0) bo.nd rfl (Or.inl rfl)) (aR (au (i:=8) bo.nd rfl (Or.inl rfl)) cB))))
    (ak (cZ (iA Em EK EL cq (pv 6) (aa (ck (aa (pv 8) (aa (pv 7) ag))) ag))))))
   (ak (aK (i:=4) bo.nd rfl (Or.inl rfl) (aO gN (pv 4) ai)))) aP) pV))))),?_⟩
 obtain ⟨q0,x0,x1⟩:=dmN n0 (show 0<most+1 by lia)
 refine ⟨_,rfl,_,rfl,_,_,rfl,rfl,n,most+1,rfl,⟨by lia,by lia⟩,λp hp=>⟨p,_,rfl,SqT.of ae,rfl,_,_,rfl,_,_,rfl,rfl,?_⟩⟩
 have s1:=af hp (.tup [.int (n/(most+1)),.int (n%(most+1))])
 generalize upd H p (.tup [.int (n/(most+1)),.int (n%(most+1))])=H1 at s1
 generalize n/(most+1)=n1 at q0
 generalize n%(most+1)=m at x0 x1
 obtain ⟨q1,y0,y1⟩:=dmN (j:=6) q0 (by decide)
 refine ⟨_,rfl,n1,6,rfl,⟨by decide,by decide⟩,λp hp=>⟨p,_,rfl,SqT.of ae,rfl,_,_,rfl,_,_,rfl,rfl,?_⟩⟩
 have s2:=s1.trans (af hp (.tup [.int (n1/6),.int (n1%6)]))
 generalize upd H1 p (.tup [.int (n1/6),.int (n1%6)])=H2 at s2
 generalize n1/6=n2 at q1
 generalize n1%6=wy at y0 y1
 obtain ⟨q2,z0,z1⟩:=dmN q1 (show 0<2*most+1 by lia)
 refine ⟨_,rfl,_,rfl,_,_,rfl,rfl,.inl ⟨by decide,by decide⟩,_,_,rfl,rfl,n2,2*most+1,rfl,⟨by lia,by lia⟩,λp hp=>⟨p,_,rfl,SqT.of ae,rfl,_,_,rfl,_,_,rfl,rfl,?_⟩⟩
 have s3:=s2.trans (af hp (.tup [.int (n2/(2*most+1)),.int (n2%(2*most+1))]))
 generalize upd H2 p (.tup [.int (n2/(2*most+1)),.int (n2%(2*most+1))])=H3 at s3
 generalize n2/(2*most+1)=n3 at q2
 generalize n2%(2*most+1)=c at z0 z1
 obtain ⟨q3,u0,u1⟩:=dmN (j:=2) q2 (by decide)
 refine ⟨_,rfl,n3,2,rfl,⟨by decide,by decide⟩,λp hp=>⟨p,_,rfl,SqT.of ae,rfl,_,_,rfl,_,_,rfl,rfl,?_⟩⟩
 have s4:=s3.trans (af hp (.tup [.int (n3/2),.int (n3%2)]))
 generalize upd H3 p (.tup [.int (n3/2),.int (n3%2)])=H4 at s4
 generalize n3/2=n4 at q3
 generalize n3%2=t at u0 u1
 refine ⟨(by show 0<=Dl;decide),λl hl4 =>?_⟩
 have hl:=s4.free hl4
 have s5:=s4.trans (af hl4 (.lst []))
 have tA:cF (upd H4 l (.lst [])) l m []:=⟨ae,λt z=>(by cases z),λt z=>(by cases z)⟩
 generalize upd H4 l (.lst [])=H5 at s5 tA
 refine ⟨_,rfl,_,_,rfl,rfl,_,rfl,iB (λ_ =>?_) λ_=>mV _ _ ⟨n4,m,wy,c,t,l,[],_,_,_,_,_,rfl,q3,x0,by lia,z0,by lia,s5,hl,tA,by simp⟩⟩
 let W2:Nat->St->Hp->Prop:=λj σ H4=>(∃(n:Int) (c7 c8:Option V),0<=n/\σ=[some (.int n),some (.int most),some (.int m),some (.int wy),some (.int c),some (.int t),some (.ref l),c7,c8,none,none,none])/\aA H H4/\∃us,cF H4 l m us/\us.length=j
 refine ⟨_,rfl,1,_,rfl,⟨by decide,by decide,by lia,by lia⟩,du W2 ⟨⟨_,_,_,q3,rfl⟩,s5,[],tA,rfl⟩ ?_ ?_⟩
 ·rintro j σ H6 hj ⟨⟨n,c7,c8,n0,rfl⟩,s6,us,tA6,lu⟩
  have hj':1+(j:Int)<m:=by lia
  obtain ⟨q5,v0,v1⟩:=dmN n0 (show 0<1+(j:Int) by lia)
  refine ⟨_,rfl,_,rfl,n,1+(j:Int),rfl,⟨by lia,by lia⟩,λp hp=>⟨p,_,rfl,SqT.of ae,rfl,_,_,rfl,_,_,rfl,rfl,?_⟩⟩
  have s7:=s6.trans (af hp (.tup [.int (n/(1+(j:Int))),.int (n%(1+(j:Int)))]))
  have tA7:=tA6.same (af hp (.tup [.int (n/(1+(j:Int))),.int (n%(1+(j:Int)))]))
  generalize upd H6 p (.tup [.int (n/(1+(j:Int))),.int (n%(1+(j:Int)))])=H7 at s7 tA7
  generalize n/(1+(j:Int))=n5 at q5
  generalize n%(1+(j:Int))=o at v0 v1
  refine ⟨_,rfl,.inl ⟨rfl,_,SqL.of tA7.at'⟩,_,rfl,_,rfl,(by show 2<=Dl;decide),λtt htt =>?_⟩
  exact ⟨l,_,_,rfl,rfl,(af htt _) _ _ tA7.at',(by rw[CS];exact bW (by lia)),⟨_,_,_,q5,rfl⟩,aA.cJ (s7.trans (af htt _)) hl _,us++[(tt,o,1+(j:Int))],tA7.push (H0:=H) htt (by lia),by rw[C1,lu];rfl⟩
 ·rintro σ H6 ⟨⟨n,c7,c8,n0,rfl⟩,s6,us,tA6,lu⟩
  have w0:=Gw c (b:=4) (by decide)
  have w1:=Gh c (b:=4) (by decide)
  exact ⟨_,rfl,_,_,rfl,rfl,(by show (0:Int)<4;decide),mV _ _ ⟨n,m,wy,c%4,t,l,us,_,_,_,_,_,rfl,n0,x0,by lia,w0,by lia,s6,hl,tA6,by lia⟩⟩
end
open PySem L2
def aI (ns:List (List Int))(k:Int):Int:=(ns.map λp=>(p.count k:Int)).sum
abbrev Aw:Sp:=λvs H Q _=>∃(r:Addr) (m k:Int) (ts:List (Addr×List Int)),vs=[.ref r,.int k]/\Wb H r m ts/\∀H',aA H H'->Q (.int (aI (ts.map (·.2)) k)) H'
@[irreducible] def zO:Sp:=Aw
theorem lD {vs:List V}{H:Hp}{Q:VK}{E:XK}:zO vs H Q E↔Aw vs H Q E:=by
 delta zO
 exact E8
def both (ps:List Int)(p:List Int):Bool:=decide (p.getD 0 0∈ps) && decide (p.getD 1 0∈ps)
theorem dz (ps:List Int):(ps.map V.int).all iy=true:=by
 rw[Mj,FR]
 intro x _
 rfl
theorem dO (k:Int):∀ps:List Int,inV (.int k) (ps.map V.int)=decide (k∈ps)
 | []=>by simp[inV]
 | p :: ps=>by
  have ih:=dO k ps
  unfold inV at ih ⊢
  rw[DK,HJ,ih]
  have e:eqV (.int p) (.int k)=(p == k):=rfl
  rw[e]
  by_cases h:p=k
  ·subst h;simp
  ·rw[beq_eq_false_iff_ne.mpr h,Mc]
   apply decide_eq_decide.mpr
   rw[Dm]
   exact ⟨.inr,λx=>x.elim (λy=>absurd y.symm h) id⟩
section
variable  {P:Dp}{w:DW}{K:CZ}{mg:Str->Option CU}{base:Heap}{f:Addr}{fd:Eo}
theorem ndTP:(["tie", "place"]:List Str).Nodup:=by decide +kernel
theorem CC:(["tie", "places"]:List Str).Nodup:=by decide +kernel
theorem scAt:aF ["web", "place"] ["web", "place"] (az sAt):=⟨rfl,rfl,rfl,by decide +kernel,rfl,by decide +kernel,by decide +kernel⟩
theorem okAt (F:Fun K "ties_at" "ties_at" sAt f fd)(ms:mg "sum" = none):bF P w K mg base CX0 1 f fd ["web", "place"] zO:=by
 refine F.ok scAt (λvs H Q E h =>?_) (λcdv A outer s H vs Q E hr h =>?_)
 ·obtain ⟨a,b,c,d,rfl,_⟩:=lD.mp h
  rfl
 obtain ⟨r,m,k,ts,rfl,W,q⟩:=lD.mp h
 obtain ⟨t,e1,e2⟩:=W.at'
 refine ⟨_,ak (aH (aB (xK hr.hd) rfl ms Bw (aa (bj ["tie", "place"] [none,some 1] rfl (eY (aL aN (pv 0) ai (λ_ _=>rfl))) rfl (λ_ _ _ _ _=>au (i:=0) ndTP rfl (Or.inl rfl)) (λ_ _ _ _ _=>cD)
  (λ_ _ _ _ _=>sC Gx Jn vL (pv 0) (aa (pv 1) ag))) ag))),?_⟩
 refine ⟨_,rfl,r,_,1,_,rfl,rfl,SqT.of e1,rfl,t,rfl,⟨_,SqT.of e2⟩,cu (xs:=ts.map λu =>.ref u.1) (λi ys H'=>H'=H/\ys=((ts.take i).map λu=>(u.2.count k:Int)).map V.int) ⟨rfl,rfl⟩ (by rw[CS];exact small (by have:=W.len;lia)) (λi ys H' _ z=>by rw[z.1];exact SqT.of e2) ?_ ?_⟩
 ·rintro i x ys H3 hx hy ⟨rfl,rfl⟩ R1 R0 r1 r0
  obtain ⟨u,eu,rfl⟩:=item hx
  have hu:=W.tup u (C7 eu)
  refine bH ⟨_,rfl,⟨_,_,rfl,hu⟩,_,rfl,u.1,u.2,k,rfl,rfl,hu,r1 _ _ ⟨rfl,?_⟩⟩
  rw[take_snoc (f:=λu:Addr×List Int=>(u.2.count k:Int)) eu,Dg]
  rfl
 ·rintro ys H3 hy ⟨rfl,rfl⟩ l hl
  rw[CS,Dj (C0 _)]
  refine ⟨l,_,rfl,ae,?_⟩
  have:=q _ (af hl (.lst ((ts.map λu=>(u.2.count k:Int)).map V.int)))
  unfold aI at this
  rw[HC] at this
  exact this
end
def nb1 (p:List Int)(k:Int):List Int:=if p.getD 0 0=p.getD 1 0 then [] else if p.getD 0 0=k then [p.getD 1 0] else if p.getD 1 0=k then [p.getD 0 0] else []
theorem j5 {a b k x:Int}:x∈nb1 [a,b] k↔a≠b/\((a=k/\x=b)\/(b=k/\x=a)):=by
 show x∈(if a=b then [] else if a=k then [b] else if b=k then [a] else [])↔_
 by_cases h1:a=b
 ·rw[if_pos h1];simp[h1]
 ·rw[if_neg h1]
  by_cases h2:a=k
  ·rw[if_pos h2,C2]
   exact ⟨λe=>⟨h1,.inl ⟨h2,e⟩⟩,λ⟨_,h⟩=>h.elim (λz=>z.2) λz=>absurd (h2.trans z.1.symm) h1⟩
  ·rw[if_neg h2]
   by_cases h3:b=k
   ·rw[if_pos h3,C2]
    exact ⟨λe=>⟨h1,.inr ⟨h3,e⟩⟩,λ⟨_,h⟩=>h.elim (λz=>absurd z.1 h2) λz=>z.2⟩
   ·rw[if_neg h3]
    exact ⟨λh=>(by cases h),λ⟨_,h⟩=>h.elim (λz=>absurd z.1 h2) λz=>absurd z.1 h3⟩
def nbs (ns:List (List Int))(k:Int):List Int:=ns.flatMap λp=>nb1 p k
theorem bY {ns:List (List Int)}{k x:Int}:x∈nbs ns k↔∃p∈ns,x∈nb1 p k:=List.mem_flatMap
theorem nB {k:Int}:∀{ns:List (List Int)},ns.Nodup->(∀p∈ns,∃a b:Int,p=[a,b]/\a<=b)->(nbs ns k).Nodup
 | [],_,_=>by simp[nbs]
 | p :: ns,nd,h=>by
  obtain ⟨np,nd'⟩:=EC.mp nd
  have ih:=nB (k:=k) nd' λq hq=>h q (Ds _ hq)
  show (nb1 p k++nbs ns k).Nodup
  rw[Gy]
  refine ⟨?_,ih,λx hx y hy e =>?_⟩
  ·unfold nb1;(repeat' split) <;> simp
  ·subst e
   obtain ⟨a,b,rfl,ab⟩:=h p Dr
   obtain ⟨q,hq,hy⟩:=bY.mp hy
   obtain ⟨c,d,rfl,cd⟩:=h q (Ds _ hq)
   rw[j5] at hx hy
   apply np
   obtain ⟨n1,hx⟩:=hx
   obtain ⟨n2,hy⟩:=hy
   have:a=c/\b=d:=by
    rcases hx with ⟨h1,h2⟩ | ⟨h1,h2⟩ <;> rcases hy with ⟨h3,h4⟩ | ⟨h3,h4⟩ <;> lia
   rw[this.1,this.2]
   exact hq
theorem fY {o:List Int}(h:o.Pairwise (· <= ·))(nd:o.Nodup):o.Pairwise (· < ·):=by
 have:o.Pairwise (λa b=>a<=b/\a≠b):=Mq h nd
 exact this.imp λ{a b} z=>by lia
theorem nC:∀{l m:List Int},l.Pairwise (· < ·)->m.Pairwise (· < ·)->(∀x,x∈l↔x∈m)->l=m
 | [],[],_,_,_=>rfl
 | [],b :: m,_,_,h=>by have:=(h b).mpr Dr;cases this
 | a :: l,[],_,_,h=>by have:=(h a).mp Dr;cases this
 | a :: l,b :: m,h1,h2,h=>by
  obtain ⟨a1,l1⟩:=Gf.mp h1
  obtain ⟨b1,m1⟩:=Gf.mp h2
  have e:a=b:=by
   rcases Dm.mp ((h a).mp Dr) with z | z
   ·exact z
   rcases Dm.mp ((h b).mpr Dr) with y | y
   ·exact y.symm
   have:=a1 b y
   have:=b1 a z
   lia
  subst e
  rw[nC l1 m1 λx=>⟨λhx =>?_,λhx =>?_⟩]
  ·rcases Dm.mp ((h x).mp (Ds _ hx)) with z | z
   ·have:=a1 x hx;lia
   ·exact z
  ·rcases Dm.mp ((h x).mpr (Ds _ hx)) with z | z
   ·have:=b1 x hx;lia
   ·exact z
structure Rows (H2 H':Hp)(as:List Addr)(vs:List (List Int)):Prop where
 len:vs.length=as.length
 row:∀(j:Nat) a v,as[j]? = some a->vs[j]? = some v->H' a=some (.lst (v.map V.int))
 stay:∀b u,b∉as->H2 b=some u->H' b=some u
theorem Rows.push {H2 H':Hp}{as:List Addr}{vs:List (List Int)}(R:Rows H2 H' as vs)(nd:as.Nodup){j:Nat}{a:Addr}{v:List Int}(ea:as[j]? = some a)(ev:vs[j]? = some v)(x:Int) :
  Rows H2 (upd H' a (.lst ((v.map V.int)++[V.int x]))) as (vs.set j (v++[x])):=by
 have hj:j<vs.length:=(C9.mp ev).1
 refine ⟨by rw[G0];exact R.len,λi b u eb eu =>?_,λb u hb e =>?_⟩
 ·by_cases h:i=j
  ·subst h
   rw[ea] at eb;cases eb
   rw[EV hj] at eu;cases eu
   rw[ae,Dg];rfl
  ·rw[Fv (Ee h)] at eu
   have ne:b≠a:=λz=>by
    subst z
    have hi:i<as.length:=(C9.mp eb).1
    exact h ((Jo hi nd).mp (eb.trans ea.symm))
   rw[ay ne]
   exact R.row i b u eb eu
 ·have ne:b≠a:=λz=>hb (z ▸ C7 ea)
  rw[ay ne]
  exact R.stay b u hb e
def BC (vs:List (List Int))(m:Nat)(ns:List (List Int)):Prop:=vs.length=m/\∀(j:Nat) v,vs[j]? = some v->v=nbs ns (j:Int)
theorem uB (k:Int):∀ns:List (List Int),(nbs ns k).length<=ns.length
 | []=>by simp[nbs]
 | p :: ns=>by
  show (nb1 p k++nbs ns k).length<=_
  have:=uB k ns
  have h1:(nb1 p k).length<=1:=by unfold nb1;(repeat' split) <;> simp
  rw[C1,DF]
  lia
theorem qE (ns:List (List Int))(p:List Int)(k:Int):nbs (ns++[p]) k=nbs ns k++nb1 p k:=by unfold nbs;simp
abbrev qF:Sp:=λvs H Q _=>∃(r:Addr) (m:Int) (ts:List (Addr×List Int)),vs=[.ref r]/\Wb H r m ts/\0<=m/\m<=1000/\∀(l:Addr) (H':Hp) (os:List (Addr×List Int)),aA H H'->H' l=some (.lst (os.map λu =>.ref u.1))->os.length=m.toNat->(∀u∈os,H' u.1=some (.lst (u.2.map V.int))) →
 (∀(j:Nat) u,os[j]? = some u->u.2.Pairwise (· < ·)/\∀x,x∈u.2↔x∈nbs (ts.map (·.2)) (j:Int))->Q (.ref l) H'
@[irreducible] def gx:Sp:=qF
theorem cS {vs:List V}{H:Hp}{Q:VK}{E:XK}:gx vs H Q E↔qF vs H Q E:=by
 delta gx
 exact E8
theorem mq {X:Cx}{K:CZ}(h:X.K=K:=by rfl):bB X (.builtin "sorted") (λxs H Q=>∃(p:Addr) (ns:List Int),xs=[.ref p]/\(SqL K H p (ns.map V.int)\/SqT K H p (ns.map V.int))/\∀(l:Addr) (out:List Int),H l=none->out.Perm ns->out.Pairwise (· <= ·)->Q (.ref l) (upd H l (.lst (out.map V.int)))):=by
 subst h;exact oa
section
variable  {P:Dp}{w:DW}{K:CZ}{mg:Str->Option CU}{base:Heap}{f:Addr}{fd:Eo}
theorem ndPl:(["place"]:List Str).Nodup:=by decide +kernel
theorem ndRo:(["row"]:List Str).Nodup:=by decide +kernel
theorem oJ:aF ["web", "near", "tie"] ["web"] (az yd):=⟨rfl,rfl,rfl,by decide +kernel,rfl,by decide +kernel,by decide +kernel⟩
theorem zP (F:Fun K "near_lists" "near_lists" yd f fd)(mr:mg "range" = none)(mst:mg "set" = none)(mso:mg "sorted" = none):bF P w K mg base CX0 1 f fd ["web"] gx:=by
 refine F.ok oJ (λvs H Q E h =>?_) (λcdv A outer s H vs Q E hr h =>?_)
 ·obtain ⟨a,b,c,rfl,_⟩:=cS.mp h
  rfl
 obtain ⟨r,m,ts,rfl,W,m0,m1,q⟩:=cS.mp h
 obtain ⟨t,e1,e2⟩:=W.at'
 refine ⟨_,ah (dH (i:=1) ["place"] [none] rfl oJ.nd rfl rfl (bK rfl mr (aa (aL aN (pv 0) ai (λ_ _=>rfl)) ag)) rfl (λ_ _ _ _ _=>au (i:=0) ndPl rfl (Or.inl rfl)) (λ_ _ _ _ _=>cD) (λ_ _ _ _ _=>cX ag))
  (ah (cj Eh rfl (bI (aB (fN (w:=w) rfl hr.hd) rfl mso eR (aa (aS (kU (w:=w) rfl hr.hd hr.units) rfl mst PySem.Pv.boot_set (aa (aL aN (pv 0) ai (λ_ _=>rfl)) ag)) ag))) (au (i:=2) oJ.nd rfl (Or.inl rfl))
   (ak (bJ (aJ mB (aL aN (pv 2) ai (λ_ _=>rfl)) (aL aN (pv 2) ai (λ_ _=>rfl)) (aM _))
    (ah (cZ (iA Em EK EL cq (aL dY (pv 1) (aL aN (pv 2) ai (λ_ _=>rfl)) (λ_ _=>rfl)) (aa (aL aN (pv 2) ai (λ_ _=>rfl)) ag)))
    (ak (cZ (iA Em EK EL cq (aL dY (pv 1) (aL aN (pv 2) ai (λ_ _=>rfl)) (λ_ _=>rfl)) (aa (aL aN (pv 2) ai (λ_ _=>rfl)) ag))))) aP)))
  (ak (aH (bj ["row"] [none] rfl (bI (pv 1)) rfl (λ_ _ _ _ _=>au (i:=0) ndRo rfl (Or.inl rfl)) (λ_ _ _ _ _=>cD) (λ_ _ _ _ _=>aB (mq (K:=K)) rfl mso eR (aa (pv 0) ag)))))),?_⟩
 let W0:Nat->List V->Hp->Prop:=λi ys H'=>aA H H'/\∃as:List Addr,ys=as.map V.ref/\as.length=i/\as.Nodup/\∀a∈as,H a=none/\H' a=some (.lst [])
 refine ⟨_,rfl,r,_,0,_,rfl,rfl,SqT.of e1,rfl,m,rfl,by lia,by lia,cv (lo:=0) (n:=m.toNat) W0 ⟨aA.refl _,[],rfl,rfl,GU,λa ha=>by cases ha⟩ (small (by lia)) ?_ ?_⟩
 ·rintro i ys H3 hi hy ⟨s3,as,rfl,la,nd,ha⟩ R1 R0 r1 r0
  refine bH ⟨(by show 0<=Dl;decide),λp hp=>r1 _ _ ⟨s3.trans (af hp _),as++[p],by rw[Dg];rfl,by rw[C1,la];rfl,?_,λa m' =>?_⟩⟩
  ·rw[Gy]
   refine ⟨nd,EC.mpr ⟨by simp,GU⟩,λx hx y hy e =>?_⟩
   rw[C2] at hy
   subst hy;subst e
   rw[(ha x hx).2] at hp;cases hp
  ·rcases Dd.mp m' with z | z
   ·exact ⟨(ha a z).1,(af hp _) _ _ (ha a z).2⟩
   ·rw[C2] at z
    subst z
    refine ⟨?_,ae⟩
    cases e:H a with
    | none=>rfl
    | some o=>rw[s3 _ _ e] at hp;cases hp
 rintro ys H3 hy ⟨s3,as,rfl,la,nd,ha⟩ l hl
 have s1:=s3.trans (af hl (.lst (as.map V.ref)))
 have nl:l∉as:=λz=>by rw[(ha l z).2] at hl;cases hl
 have ha1:∀a∈as,upd H3 l (.lst (as.map V.ref)) a=some (.lst []):=λa z=>(af hl _) _ _ (ha a z).2
 have hl1:upd H3 l (.lst (as.map V.ref)) l=some (.lst (as.map V.ref)):=ae
 generalize upd H3 l (.lst (as.map V.ref))=H1 at s1 ha1 hl1
 have tsl:=W.len
 refine ⟨_,rfl,r,_,1,_,rfl,rfl,SqT.of (s1 _ _ e1),rfl,t,ts,rfl,.inr (SqT.of (s1 _ _ e2)),λu hu=>SqT.of (s1 _ _ (W.tup u hu)),by lia,λa us hna mu ndu cov hlu =>?_⟩
 have sa:=af hna (eD w a (us.map λt =>.ref t.1))
 refine ⟨a,us,rfl,ae,λu hu=>⟨SqT.of (sa _ _ (s1 _ _ (W.tup u (mu u hu)))),λz =>?_⟩,by lia,λl2 out hl2 pm ps =>?_⟩
 ·obtain ⟨x,y,e,_⟩:=W.pr u (mu u hu)
  rw[z] at e;cases e
 have s2':=sa.trans (af hl2 (.lst (out.map λt =>.ref t.1)))
 have s2:=s1.trans s2'
 have nl2:l2∉as:=λz=>by rw[sa _ _ (ha1 l2 z)] at hl2;cases hl2
 have h2l2:upd (upd H1 a (eD w a (us.map λt =>.ref t.1))) l2 (.lst (out.map λt =>.ref t.1)) l2=some (.lst (out.map λt =>.ref t.1)):=ae
 generalize upd (upd H1 a (eD w a (us.map λt =>.ref t.1))) l2 (.lst (out.map λt =>.ref t.1))=H2 at s2 s2' h2l2
 have old:∀{b:Addr} {o:HO},H b=some o->b∉as:=λ{b o} e z=>by rw[(ha b z).1] at e;cases e
 let W1:Nat->St->Hp->Prop:=λi σ H'=>(∃c,σ=[some (.ref r),some (.ref l),c])/\∃vs,Rows H2 H' as vs/\BC vs m.toNat ((out.take i).map (·.2))
 refine ⟨l2,rfl,⟨_,SqL.of h2l2⟩,dD (xs:=out.map λu =>.ref u.1) W1 ⟨⟨_,rfl⟩,D5 m.toNat [],⟨by rw[Gd,la],λj b v eb ev =>?_,λb u _ e=>e⟩,Gd ..,λj v ev =>?_⟩ (λi σ H' _ z =>?_) ?_ ?_⟩
 ·rw[HG] at ev
  split at ev
  ·cases ev
   exact s2' _ _ (ha1 b (C7 eb))
  ·cases ev
 ·rw[HG] at ev
  split at ev
  ·cases ev;rfl
  ·cases ev
 ·obtain ⟨_,vs,R,_⟩:=z
  exact SqL.of (R.stay l2 _ nl2 h2l2)
 ·rintro i x σ H' hx ⟨⟨c,rfl⟩,vs,R,lv,RO⟩
  obtain ⟨u,eu,rfl⟩:=item hx
  have mts:=mu u (pm.mem_iff.mp (C7 eu))
  obtain ⟨x,y,e3,x0,xy,ym⟩:=W.pr u mts
  have hu0:=W.tup u mts
  have hu':H' u.1=some (.tup [.int x,.int y]):=by
   rw[e3] at hu0
   exact R.stay _ _ (old hu0) (s2 _ _ hu0)
  have tk:(out.take (i+1)).map (·.2)=(out.take i).map (·.2)++[[x,y]]:=by rw[take_snoc (f:=λu:Addr×List Int=>u.2) eu,e3]
  obtain ⟨xn,rfl⟩:∃n:Nat,x=n:=⟨x.toNat,by lia⟩
  obtain ⟨yn,rfl⟩:∃n:Nat,y=n:=⟨y.toNat,by lia⟩
  have hlst:=R.stay l _ nl (s2' _ _ hl1)
  have axn:as[xn]? = some as[xn]:=CV (by lia)
  have ayn:as[yn]? = some as[yn]:=CV (by lia)
  have vxn:vs[xn]? = some vs[xn]:=CV (by lia)
  have vyn:vs[yn]? = some vs[yn]:=CV (by lia)
  have at1:atI (as.map V.ref) (xn:Int)=some (.ref as[xn]):=da (by rw[C8,axn];rfl)
  have at2:atI (as.map V.ref) (yn:Int)=some (.ref as[yn]):=da (by rw[C8,ayn];rfl)
  have ll:∀(j:Nat) v,vs[j]? = some v->v.length<=200:=λj v ev=>by
   rw[RO j v ev]
   refine DZ (uB _ _) ?_
   rw[CS,D6]
   have:=pm.length_eq
   lia
  refine ⟨_,rfl,u.1,_,0,_,rfl,rfl,SqT.of hu',rfl,_,rfl,u.1,_,1,_,rfl,rfl,SqT.of hu',rfl,rfl,_,rfl,?_⟩
  by_cases hxy:xn=yn
  ·subst hxy
   refine w6 rfl ⟨⟨_,rfl⟩,vs,R,lv,λj v ev =>?_⟩
   have nil:nb1 [(xn:Int),(xn:Int)] j=[]:=by unfold nb1;simp
   rw[tk,qE,nil,DU]
   exact RO j v ev
  ·have hd:decide (V.int (xn:Int)=V.int (yn:Int))=false:=decide_eq_false λz=>hxy (by injection z with z;lia)
   rw[hd]
   have rowx:=R.row xn _ _ axn vxn
   have R1:=R.push nd axn vxn (yn:Int)
   have vyn':(vs.set xn (vs[xn]++[(yn:Int)]))[yn]? = some vs[yn]:=by rw[Fv hxy];exact vyn
   have rowy:=R1.row yn _ _ ayn vyn'
   have R2:=R1.push nd ayn vyn' (xn:Int)
   have hu2:=R1.stay _ _ (old hu0) (s2 _ _ hu0)
   rw[e3] at hu2
   have hlst2:=R1.stay l _ nl (s2' _ _ hl1)
   refine bH ⟨_,rfl,_,rfl,u.1,_,0,_,rfl,rfl,SqT.of hu',rfl,l,_,(xn:Int),_,rfl,rfl,SqL.of hlst,at1,.inl ⟨rfl,_,SqL.of rowx⟩,_,rfl,u.1,_,1,_,rfl,rfl,SqT.of hu',rfl,as[xn],_,_,rfl,rfl,rowx,(by rw[CS];exact bW (by have:=ll _ _ vxn;lia)),?_⟩
   refine ⟨_,rfl,_,rfl,u.1,_,1,_,rfl,rfl,SqT.of hu2,rfl,l,_,(yn:Int),_,rfl,rfl,SqL.of hlst2,at2,.inl ⟨rfl,_,SqL.of rowy⟩,_,rfl,u.1,_,0,_,rfl,rfl,SqT.of hu2,rfl,as[yn],_,_,rfl,rfl,rowy,(by rw[CS];exact bW (by have:=ll _ _ vyn;lia)),?_⟩
   refine ⟨⟨_,rfl⟩,_,R2,by rw[G0,G0];exact lv,λj v ev =>?_⟩
   rw[tk,qE]
   by_cases jy:yn=j
   ·subst jy
    rw[EV (by rw[G0];lia)] at ev
    cases ev
    have e4:nb1 [(xn:Int),(yn:Int)] yn=[(xn:Int)]:=by
     show (if (xn:Int)=yn then [] else if (xn:Int)=yn then [(yn:Int)] else if (yn:Int)=yn then [(xn:Int)] else [])=_
     rw[if_neg (by lia),if_neg (by lia),if_pos rfl]
    rw[e4, <- RO yn _ vyn]
   ·rw[Fv jy] at ev
    by_cases jx:xn=j
    ·subst jx
     rw[EV (by lia)] at ev
     cases ev
     have e4:nb1 [(xn:Int),(yn:Int)] xn=[(yn:Int)]:=by
      show (if (xn:Int)=yn then [] else if (xn:Int)=xn then [(yn:Int)] else if (yn:Int)=xn then [(xn:Int)] else [])=_
      rw[if_neg (by lia),if_pos rfl]
     rw[e4, <- RO xn _ vxn]
    ·rw[Fv jx] at ev
     have e4:nb1 [(xn:Int),(yn:Int)] j=[]:=by
      show (if (xn:Int)=yn then [] else if (xn:Int)=j then [(yn:Int)] else if (yn:Int)=j then [(xn:Int)] else [])=_
      rw[if_neg (by lia),if_neg (by lia),if_neg (by lia)]
     rw[e4,DU]
     exact RO j v ev
 ·rintro σ H' ⟨⟨c,rfl⟩,vs,R,lv,RO⟩
  have hlst:=R.stay l _ nl (s2' _ _ hl1)
  rw[CS,Dj (C0 _)] at RO
  have sH':aA H H':=λb o e=>R.stay b o (old e) (s2 _ _ e)
  have kns:(out.map (·.2)).Nodup:=((pm.map (·.2)).nodup_iff).mpr ndu
  have mns:∀x,x∈out.map (·.2)↔x∈ts.map (·.2):=λx=>by
   rw[(pm.map (·.2)).mem_iff]
   constructor
   ·intro hx
    obtain ⟨u,hu,rfl⟩:=DH.mp hx
    exact DH.mpr ⟨u,mu u hu,rfl⟩
   ·intro hx
    obtain ⟨u,hu,rfl⟩:=DH.mp hx
    exact cov u hu
  have pns:∀p∈out.map (·.2),∃a b:Int,p=[a,b]/\a<=b:=λp hp=>by
   obtain ⟨u,hu,rfl⟩:=DH.mp ((mns p).mp hp)
   obtain ⟨a,b,e,_,ab,_⟩:=W.pr u hu
   exact ⟨a,b,e,ab⟩
  have nbm:∀k x,x∈nbs (out.map (·.2)) k↔x∈nbs (ts.map (·.2)) k:=λk x=>by
   rw[bY,bY]
   exact ⟨λ⟨p,hp,z⟩=>⟨p,(mns p).mp hp,z⟩,λ⟨p,hp,z⟩=>⟨p,(mns p).mpr hp,z⟩⟩
  let W2:Nat->List V->Hp->Prop:=λi ys H5=>aA H' H5/\∃os:List (Addr×List Int),ys=(os.map λu=>V.ref u.1)/\os.length=i/\(∀u∈os,H5 u.1=some (.lst (u.2.map V.int)))/\∀(j:Nat) u v,os[j]? = some u->vs[j]? = some v->u.2.Perm v/\u.2.Pairwise (· <= ·)
  refine ⟨_,rfl,l,rfl,⟨_,SqL.of hlst⟩,bT (xs:=as.map V.ref) W2 ⟨aA.refl _,[],rfl,rfl,λu hu=>(by cases hu),λj u v eu=>by simp at eu⟩ (by rw[CS];exact small (by lia)) (λi ys H5 _ z=>SqL.of (z.1 _ _ hlst)) ?_ ?_⟩
  ·rintro i x ys H5 hx hy ⟨s5,os,rfl,lo,ho,po⟩ R1 R0 r1 r0
   rw[C8] at hx
   cases ea:as[i]? with
   | none=>rw[ea] at hx;cases hx
   | some a5 =>
    rw[ea] at hx
    cases hx
    have hi:i<as.length:=(C9.mp ea).1
    have ev:vs[i]? = some vs[i]:=CV (by lia)
    have rowa:=s5 _ _ (R.row i _ _ ea ev)
    refine bH ⟨_,rfl,a5,vs[i],rfl,.inl (SqL.of rowa),λl5 o5 hl5 pm5 ps5=>r1 _ _ ⟨s5.trans (af hl5 _),os++[(l5,o5)],by rw[Dg];rfl,by rw[C1,lo];rfl,λu hu =>?_,λj u v eu ev' =>?_⟩⟩
    ·rcases Dd.mp hu with z | z
     ·exact (af hl5 _) _ _ (ho u z)
     ·rw[C2] at z;subst z;exact ae
    ·by_cases hj:j<os.length
     ·rw[DC hj] at eu
      exact po j u v eu ev'
     ·have hj2:j=i:=by
       have:=(C9.mp eu).1
       rw[C1,D3] at this
       lia
      subst hj2
      rw[DI (by lia),show j-os.length=0 by lia] at eu
      cases eu
      rw[ev] at ev';cases ev'
      exact ⟨pm5,ps5⟩
  ·rintro ys H5 hy ⟨s5,os,rfl,lo,ho,po⟩ l5 hl5
   rw[CS] at lo
   have s6:=af hl5 (.lst (os.map λu=>V.ref u.1))
   refine q l5 _ os (sH'.trans (s5.trans s6)) ae (by lia) (λu hu=>s6 _ _ (ho u hu)) λj u eu =>?_
   have hj:j<os.length:=(C9.mp eu).1
   have ev:vs[j]? = some vs[j]:=CV (by lia)
   obtain ⟨p1,p2⟩:=po j u _ eu ev
   have e5:=RO j _ ev
   rw[e5] at p1
   refine ⟨fY p2 (p1.nodup_iff.mpr (nB kns pns)),λx =>?_⟩
   rw[p1.mem_iff]
   exact nbm _ _
end
open PySem L2
def Adj (ns:List (List Int))(u v:Int):Prop:=v∈nbs ns u
inductive Con (ns:List (List Int)):Int->Int->Prop
 | refl (u:Int):Con ns u u
 | step {u v w:Int}:Con ns u v->Adj ns v w->Con ns u w
def Ok (m:Nat)(ns:List (List Int)):Prop:=∀p∈ns,∃a b:Int,p=[a,b]/\0<=a/\a<=b/\b<m
theorem bO {m:Nat}{ns:List (List Int)}(O:Ok m ns){u v:Int}:Adj ns u v↔∃a b:Int,[a,b]∈ns/\a≠b/\((a=u/\v=b)\/(b=u/\v=a)):=by
 unfold Adj
 rw[bY]
 constructor
 ·rintro ⟨p,hp,h⟩
  obtain ⟨a,b,rfl,_⟩:=O p hp
  exact ⟨a,b,hp,j5.mp h⟩
 ·rintro ⟨a,b,hp,h⟩
  exact ⟨[a,b],hp,j5.mpr h⟩
theorem iO {m:Nat}{ns:List (List Int)}(O:Ok m ns){u v:Int}(h:Adj ns u v):Adj ns v u:=by
 rw[bO O] at *
 obtain ⟨a,b,hp,ne,h⟩:=h
 refine ⟨a,b,hp,ne,?_⟩
 rcases h with ⟨h1,h2⟩ | ⟨h1,h2⟩
 ·exact .inr ⟨h2.symm,h1.symm⟩
 ·exact .inl ⟨h2.symm,h1.symm⟩
theorem j6 {m:Nat}{ns:List (List Int)}(O:Ok m ns){u v:Int}(h:Adj ns u v):(0<=u/\u<m)/\0<=v/\v<m:=by
 rw[bO O] at h
 obtain ⟨a,b,hp,ne,h⟩:=h
 obtain ⟨a',b',e,h1,h2,h3⟩:=O _ hp
 injection e with e1 e2
 injection e2 with e2 _
 subst e1;subst e2
 rcases h with ⟨h4,h5⟩ | ⟨h4,h5⟩ <;> subst h4 <;> subst h5 <;> omega
theorem Con.trans {ns:List (List Int)}{u v w:Int}(h:Con ns u v)(h2:Con ns v w):Con ns u w:=by
 induction h2 with
 | refl=>exact h
 | step _ a ih=>exact .step ih a
theorem Con.one {ns:List (List Int)}{u v:Int}(h:Adj ns u v):Con ns u v :=.step (.refl u) h
theorem Con.symm {m:Nat}{ns:List (List Int)}(O:Ok m ns){u v:Int}(h:Con ns u v):Con ns v u:=by
 induction h with
 | refl=>exact .refl _
 | step _ a ih=>exact (Con.one (iO O a)).trans ih
theorem Con.rng {m:Nat}{ns:List (List Int)}(O:Ok m ns){u v:Int}(h:Con ns u v)(hu:0<=u/\u<m):0<=v/\v<m:=by
 induction h with
 | refl=>exact hu
 | step _ a _=>exact (j6 O a).2
theorem Con.closed {ns:List (List Int)}{u v:Int}(h:Con ns u v){R:Int->Prop}(hu:R u)(hc:∀x y,R x->Adj ns x y->R y):R v:=by
 induction h with
 | refl=>exact hu
 | step _ a ih=>exact hc _ _ ih a
def rgI (m:Nat):List Int:=(EF m).map λi:Nat=>(i:Int)
theorem cG {m:Nat}{v:Int}:v∈rgI m↔0<=v/\v<m:=by
 unfold rgI
 rw[DH]
 constructor
 ·rintro ⟨i,hi,rfl⟩
  rw[ED] at hi
  lia
 ·intro h
  exact ⟨v.toNat,ED.mpr (by lia),by lia⟩
open Classical in
noncomputable def fF (ns:List (List Int))(m:Nat)(u:Int):List Int:=(rgI m).filter λv=>decide (Con ns u v)
open Classical in
theorem nE {m:Nat}{ns:List (List Int)}(O:Ok m ns){u v:Int}(hu:0<=u/\u<m):v∈fF ns m u↔Con ns u v:=by
 unfold fF
 rw[D1]
 constructor
 ·intro h;exact of_decide_eq_true h.2
 ·intro h
  have:=h.rng O hu
  exact ⟨cG.mpr this,decide_eq_true h⟩
theorem lE (m:Nat):(rgI m).Pairwise (· < ·):=by
 unfold rgI
 rw[Ep]
 exact JL.imp λh=>by lia
theorem lF (ns:List (List Int))(m:Nat)(u:Int):(fF ns m u).Pairwise (· < ·):=(lE m).filter _
def Fst (ns:List (List Int))(u:Int):Prop:=∀w:Int,0<=w->w<u->¬ Con ns w u
open Classical in
noncomputable def aV (ns:List (List Int))(m i:Nat):List (List Int):=((rgI i).filter λu=>decide (Fst ns u)).map (fF ns m)
theorem iP (ns:List (List Int))(m i:Nat)[Decidable (Fst ns (i:Int))]:aV ns m (i+1)=aV ns m i++if Fst ns (i:Int) then [fF ns m i] else []:=by
 unfold aV
 have e:rgI (i+1)=rgI i++[(i:Int)]:=by unfold rgI;rw[List.range_succ,Dg];rfl
 rw[e,Gi,Dg]
 congr 1
 by_cases h:Fst ns (i:Int)
 ·rw[if_pos h];simp[h]
 ·rw[if_neg h];simp[h]
def gt (L:List Int)(a:Int):Int:=L.getD a.toNat 0
def lower (L:List Int)(p:List Int):List Int :=
 let x:=mnI (gt L (p.getD 0 0)) (gt L (p.getD 1 0))
 (L.set (p.getD 0 0).toNat x).set (p.getD 1 0).toNat x
theorem BD {L:List Int}{a b x:Int}(ha:0<=a/\a<L.length)(hb:0<=b):gt (L.set a.toNat x) b=if b=a then x else gt L b:=by
 unfold gt
 by_cases h:b=a
 ·subst h
  rw[if_pos rfl,Df,EV (by lia)];rfl
 ·rw[if_neg h,Df,Fv (by lia), <- Df]
theorem zQ {m:Nat}{ns:List (List Int)}(O:Ok m ns){a b:Int}(hp:[a,b]∈ns):Con ns a b:=by
 by_cases h:a=b
 ·subst h;exact .refl a
 ·exact .one ((bO O).mpr ⟨a,b,hp,h,.inl ⟨rfl,rfl⟩⟩)
def rounds (ns:List (List Int)):Nat->List Int->List Int
 | 0,L=>L
 | r+1,L=>ns.foldl lower (rounds ns r L)
def has (m:Nat)(L:List Int)(c:Int):Nat:=(rgI m).countP λv=>decide (gt L v=c)
theorem yh {m:Nat}{ns:List (List Int)}(O:Ok m ns):∀(n:Nat) (v:Int),0<=v->v<m->v.toNat<=n->∃c,Fst ns c/\0<=c/\c<m/\Con ns c v:=by
 intro n
 induction n with
 | zero =>
  intro v v0 vm hn
  exact ⟨v,λw w0 lt=>by lia,v0,vm,.refl v⟩
 | succ n ih =>
  intro v v0 vm hn
  by_cases hf:Fst ns v
  ·exact ⟨v,hf,v0,vm,.refl v⟩
  ·have:∃w,0<=w/\w<v/\Con ns w v:=Ew λz=>hf λw w0 lt hw=>z ⟨w,w0,lt,hw⟩
   obtain ⟨w,w0,lt,hw⟩:=this
   obtain ⟨c,c1,c2,c3,c4⟩:=ih w w0 (by lia) (by lia)
   exact ⟨c,c1,c2,c3,c4.trans hw⟩
theorem qG {m:Nat}{ns:List (List Int)}(O:Ok m ns){c d:Int}(hc:Fst ns c)(hd:Fst ns d)(c0:0<=c)(d0:0<=d)(h:Con ns c d):c=d:=by
 have h1:¬ c<d:=λlt=>hd c c0 lt h
 have h2:¬ d<c:=λlt=>hc d d0 lt (h.symm O)
 lia
def drawn (m:Nat)(L:List Int):List (List Int):=((rgI m).filter λf=>decide (gt L f=f)).map λf=>(rgI m).filter λv=>decide (gt L v=f)
def eU (R:List Int):List (Key×V):=R.map λk=>(Sum.inl k,V.bl true)
theorem lH (v:Int):∀R:List Int,cP (eU R) (Sum.inl v)=if v∈R then some (.bl true) else none
 | []=>by simp[eU,cP]
 | k :: R=>by
  have ih:=lH v R
  unfold eU at *
  rw[DK]
  by_cases h:k=v
  ·subst h
   rw[fP rfl,if_pos Dr]
  ·rw[fQ (λe=>h (by injection e)),ih]
   by_cases hv:v∈R
   ·rw[if_pos hv,if_pos (Ds _ hv)]
   ·rw[if_neg hv,if_neg (λz=>(Dm.mp z).elim (λy=>h y.symm) hv)]
theorem nF (v:Int)(R:List Int):(cP (eU R) (Sum.inl v)).isSome=decide (v∈R):=by
 rw[lH]
 by_cases h:v∈R
 ·rw[if_pos h,decide_eq_true h];rfl
 ·rw[if_neg h,decide_eq_false h];rfl
theorem qH {v:Int}{R:List Int}(h:v∉R):putK (eU R) (Sum.inl v) (.bl true)=eU (R++[v]):=by
 rw[qo _ (by rw[lH,if_neg h])]
 unfold eU
 rw[Dg]
 rfl
theorem iQ (R:List Int):(eU R).length=R.length:=by unfold eU;rw[CS]
theorem wg (R:List Int):(eU R).map (·.1)=R.map Sum.inl:=by unfold eU;rw[HC];rfl
theorem bE {R:List Int}{m:Nat}(nd:R.Nodup)(h:∀v∈R,0<=v/\v<m):R.length<=m:=by
 have:=Fb nd (l₂:=rgI m) λv hv=>cG.mpr (h v hv)
 unfold rgI at this
 rw[CS,FF] at this
 exact this
theorem dP {R:List Int}{v:Int}(nd:R.Nodup)(h:v∉R):(R++[v]).Nodup:=by
 rw[Gy]
 exact ⟨nd,EC.mpr ⟨by simp,GU⟩,λx hx y hy e=>h (by rw[C2] at hy;subst hy;subst e;exact hx)⟩
structure fZ (H:Hp)(n:Addr)(m:Nat)(ns:List (List Int))(os:List (Addr×List Int)):Prop where
 at':H n=some (.lst (os.map λu =>.ref u.1))
 len:os.length=m
 row:∀u∈os,H u.1=some (.lst (u.2.map V.int))
 is:∀(j:Nat) u,os[j]? = some u->∀x,x∈u.2↔x∈nbs ns (j:Int)
theorem fZ.same {H H':Hp}{n:Addr}{m:Nat}{ns:List (List Int)}{os:List (Addr×List Int)}(h:fZ H n m ns os)(s:aA H H'):fZ H' n m ns os:=⟨s _ _ h.at',h.len,λu hu=>s _ _ (h.row u hu),h.is⟩
abbrev qI:Sp:=λvs H Q _=>∃(n:Addr) (m:Nat) (ns:List (List Int)) (os:List (Addr×List Int)) (s:Int),vs=[.ref n,.int s]/\fZ H n m ns os/\Ok m ns/\m<=400/\0<=s/\s<m/\∀(l:Addr) (H':Hp),aA H H'->H' l=some (.lst ((fF ns m s).map V.int))->Q (.ref l) H'
@[irreducible] def j7:Sp:=qI
theorem f6 {vs:List V}{H:Hp}{Q:VK}{E:XK}:j7 vs H Q E↔qI vs H Q E:=by
 delta j7
 exact E8
def jX (H:Hp)(d:Addr):Nat:=match H d with | some (.dK kvs)=>kvs.length | _=>0
def mv (H:Hp)(y:Addr):Nat:=match H y with | some (.lst xs)=>xs.length | _=>0
structure RY (ns:List (List Int))(m:Nat)(s:Int)(R Y:List Int):Prop where
 nd:R.Nodup
 st:s∈R
 con:∀v∈R,Con ns s v
 sub:∀v∈Y,v∈R
section
variable  {P:Dp}{w:DW}{K:CZ}{mg:Str->Option CU}{base:Heap}{f:Addr}{fd:Eo}
theorem iR:aF ["near", "start", "reached", "ready", "place", "other"] ["near", "start"] (az yf):=⟨rfl,rfl,rfl,by decide +kernel,rfl,by decide +kernel,by decide +kernel⟩
theorem zR (F:Fun K "reached_from" "reached_from" yf f fd)(mso:mg "sorted" = none):bF P w K mg base CX0 1 f fd ["near", "start"] j7:=by
 refine F.ok iR (λvs H Q E h =>?_) (λcdv A outer s0 H vs Q E hr h =>?_)
 ·obtain ⟨a,b,c,d,e,rfl,_⟩:=f6.mp h
  rfl
 obtain ⟨n,m,ns,os,s,rfl,N,O,m9,s0',sm,q⟩:=f6.mp h
 have hu:=tM hr
 refine ⟨_,ah (aK (i:=2) iR.nd rfl (Or.inl rfl) (ug (qv (pv 1) gF uf) rfl rfl (by simp) (by decide)))
  (ah (aK (i:=3) iR.nd rfl (Or.inl rfl) (cX (aa (pv 1) ag)))
  (ah (ir Eh (kz (pv 3) (λ_=>rfl))
   (ah (aK (i:=4) iR.nd rfl (Or.inl rfl) (wX Em J1 J3 wZ (pv 3)))
   (ak (cj Eh rfl (bI (aL dY (pv 0) (pv 4) (λ_ _=>rfl))) (au (i:=5) iR.nd rfl (Or.inl rfl))
    (ak (bJ (ja (dy hu (pv 5) (pv 2)))
     (ah (j4 hu (pv 2) (pv 5) gF rfl) (ak (cZ (iA Em EK EL cq (pv 3) (aa (pv 5) ag))))) aP))))))
  (ak (aH (aB (oD hr.hd) rfl mso eR (aa (pv 2) ag)))))),?_⟩
 refine λd hd=>⟨_,rfl,ae,[(Sum.inl s,.bl true)],rfl,(by show 1<=15;decide),_,rfl,(by show 1<=Dl;decide),λy hy =>?_⟩
 have e1d:upd (upd H d (.dK [])) d (.dK (cY [] [(Sum.inl s,V.bl true)])) d=some (.dK (eU [s])):=ae
 have s1:aA H (upd (upd H d (.dK [])) d (.dK (cY [] [(Sum.inl s,V.bl true)]))):=λb o e=>by
  rw[ay (aq e hd),ay (aq e hd)];exact e
 have hy0:H y=none:=by
  cases e:H y with
  | none=>rfl
  | some o=>rw[s1 _ _ e] at hy;cases hy
 have ndy:d≠y:=aq e1d hy
 have e2d:=(af hy (.lst [.int s])) _ _ e1d
 have e2y:upd (upd (upd H d (.dK [])) d (.dK (cY [] [(Sum.inl s,V.bl true)]))) y (.lst [.int s]) y=some (.lst (([s]:List Int).map V.int)):=ae
 have s2:=s1.trans (af hy (.lst [.int s]))
 generalize upd (upd (upd H d (.dK [])) d (.dK (cY [] [(Sum.inl s,V.bl true)]))) y (.lst [.int s])=H2 at e2d e2y s2
 have rngR:∀{R Y:List Int},RY ns m s R Y->∀v∈R,0<=v/\v<m:=λI v hv=>(I.con v hv).rng O ⟨s0',sm⟩
 dsimp only[gG,AJ]
 refine iu (λσ H'=>∃(c4 c5:Option V) (R Y:List Int),σ=[some (.ref n),some (.int s),some (.ref d),some (.ref y),c4,c5]/\aA H H'/\H' d=some (.dK (eU R))/\H' y=some (.lst (Y.map V.int))/\RY ns m s R Y/\2*(m-R.length)+Y.length<=2*m/\(∀u∈R,u∉Y->∀v,Adj ns u v->v∈R))
  (λ_ H'=>2*(m-jX H' d)+mv H' y) ⟨none,none,[s],[s],rfl,s2,e2d,e2y,⟨EC.mpr ⟨by simp,GU⟩,Dr,λv hv =>?_,λv hv=>hv⟩,by show 2*(m-1)+1<=2*m;lia,λu hu nu=>absurd hu nu⟩ ?_ (by rintro σ H Q Q' h ⟨v,e,k,t,q⟩;exact ⟨v,e,k,t,h _ _ q⟩)
 ·rw[C2] at hv;subst hv;exact .refl _
 rintro σ H' ⟨c4,c5,R,Y,rfl,s',ed,ey,I,ly,cl⟩
 refine ⟨_,rfl, !(Y.map V.int).isEmpty,.inl ⟨_,SqL.of ey,rfl⟩,?_⟩
 have mu0:2*(m-jX H' d)+mv H' y=2*(m-R.length)+Y.length:=by
  unfold jX mv
  rw[ed,ey]
  dsimp only
  rw[iQ,CS]
 rcases Gj Y with hY | ⟨Y',p,hY⟩
 ·subst hY
  refine bM ⟨_,rfl,d,eU R,R,rfl,ed,wg R,λl out hl pm ps =>?_⟩
  have eo:out=fF ns m s:=nC (fY ps (pm.nodup_iff.mpr I.nd)) (lF ns m s) λx=>by
   rw[pm.mem_iff,nE O ⟨s0',sm⟩]
   exact ⟨I.con x,λh=>h.closed I.st λx y hx a=>cl x hx (by simp) y a⟩
  subst eo
  exact q l _ (s'.trans (af hl _)) ae
 ·rw[Gk] at hY
  subst hY
  have hne:(!(List.map V.int (Y'++[p])).isEmpty)=true:=by simp
  rw[hne]
  have pR:p∈R:=I.sub p (by simp)
  have pr:=rngR I p pR
  obtain ⟨pn,rfl⟩:∃k:Nat,p=k:=⟨p.toNat,by lia⟩
  refine bH ⟨_,rfl,.inl ⟨rfl,_,SqL.of ey⟩,y,_,.int pn,rfl,rfl,ey,?_,?_⟩
  ·rw[Dg,C1];simp
  have dl:(List.map V.int (Y'++[(pn:Int)])).dropLast=Y'.map V.int:=by rw[Dg];exact Km
  rw[dl]
  have s3:aA H (upd H' y (.lst (Y'.map V.int))):=λb o e=>by rw[ay (aq e hy0)];exact s' _ _ e
  have ed3:upd H' y (.lst (Y'.map V.int)) d=some (.dK (eU R)):=by rw[ay ndy];exact ed
  have ey3:upd H' y (.lst (Y'.map V.int)) y=some (.lst (Y'.map V.int)):=ae
  generalize upd H' y (.lst (Y'.map V.int))=H3 at s3 ed3 ey3
  have N3:=N.same s3
  have pl:pn<os.length:=by rw[N.len];lia
  obtain ⟨uu,eu⟩:∃u,os[pn]? = some u:=⟨_,CV pl⟩
  have rowu:=N3.row _ (C7 eu)
  have isu:=N.is pn _ eu
  rw[C1,D3] at ly mu0
  refine ⟨_,rfl,_,rfl,n,_,(pn:Int),_,rfl,rfl,SqL.of N3.at',da (by rw[C8,eu];rfl),uu.1,rfl,⟨_,SqL.of rowu⟩,dD (xs:=uu.2.map V.int)
   (λi σ H4=>∃(c5:Option V) (R4 Y4:List Int),σ=[some (.ref n),some (.int s),some (.ref d),some (.ref y),some (.int pn),c5]/\aA H H4/\H4 d=some (.dK (eU R4))/\H4 y=some (.lst (Y4.map V.int))/\RY ns m s R4 Y4/\(pn:Int)∈R4/\(∀u∈R4,u∉Y4->u≠pn->∀v,Adj ns u v->v∈R4)/\(∀v∈uu.2.take i,v∈R4)/\R4.length<=m/\2*(m-R4.length)+Y4.length+1<=2*(m-R.length)+(Y'.length+1))
   ⟨_,R,Y',rfl,s3,ed3,ey3,⟨I.nd,I.st,I.con,λv hv=>I.sub v (Du _ hv)⟩,pR,λu hu nu ne=>cl u hu (λz=>(Dd.mp z).elim nu λz=>ne (by simpa using z)),λv hv=>by simp at hv,bE I.nd (rngR I),by lia⟩ (λi σ H4 _ z =>?_) ?_ ?_⟩
  ·obtain ⟨_,_,_,_,s4,_⟩:=z
   exact SqL.of ((N.same s4).row _ (C7 eu))
  ·rintro i x σ H4 hx ⟨c5,R4,Y4,rfl,s4,ed4,ey4,I4,p4,cl4,tk4,l4,mu4⟩
   rw[C8] at hx
   cases ho:uu.2[i]? with
   | none=>rw[ho] at hx;cases hx
   | some o =>
   rw[ho] at hx
   cases hx
   have tks:uu.2.take (i+1)=uu.2.take i++[o]:=by rw[DY,ho];rfl
   have oA:Adj ns pn o:=(isu o).mp (C7 ho)
   refine ⟨_,rfl,_,rfl,d,_,rfl,iL.k (k:=Sum.inl o) ed4,_,rfl,?_⟩
   rw[nF]
   by_cases hR:o∈R4
   ·rw[decide_eq_true hR]
    refine bM ⟨_,R4,Y4,rfl,s4,ed4,ey4,I4,p4,cl4,λv hv =>?_,l4,mu4⟩
    rw[tks] at hv
    rcases Dd.mp hv with z | z
    ·exact tk4 v z
    ·rw[C2] at z;subst z;exact hR
   ·rw[decide_eq_false hR]
    have I5:RY ns m s (R4++[o]) (Y4++[o]):=by
     refine ⟨dP I4.nd hR,Du _ I4.st,λv hv =>?_,λv hv =>?_⟩
     ·rcases Dd.mp hv with z | z
      ·exact I4.con v z
      ·rw[C2] at z;subst z;exact .step (I4.con _ p4) oA
     ·rcases Dd.mp hv with z | z
      ·exact Du _ (I4.sub v z)
      ·exact DA _ z
    have l5:=bE I5.nd (rngR I5)
    rw[C1,D3] at l5
    refine bH ⟨_,rfl,_,rfl,d,_,rfl,mj.k (k:=Sum.inl o) ed4 (by rw[iQ];exact bW (by lia)),?_⟩
    rw[qH hR]
    have ey5:upd H4 d (.dK (eU (R4++[o]))) y=some (.lst (Y4.map V.int)):=by rw[ay (Ee ndy)];exact ey4
    refine ⟨_,rfl,.inl ⟨rfl,_,SqL.of ey5⟩,_,rfl,y,_,_,rfl,rfl,ey5,(by rw[CS];exact bW (by lia)),_,R4++[o],Y4++[o],rfl,λb ob e =>?_,?_,?_,I5,Du _ p4,λu hu nu ne v a =>?_,λv hv =>?_,by rw[C1,D3];exact l5,?_⟩
    ·rw[ay (aq e hy0),ay (aq e hd)];exact s4 _ _ e
    ·rw[ay ndy];exact ae
    ·rw[ae,Dg];rfl
    ·rcases Dd.mp hu with z | z
     ·exact Du _ (cl4 u z (λy=>nu (Du _ y)) ne v a)
     ·exact absurd (DA _ z) nu
    ·rw[tks] at hv
     rcases Dd.mp hv with z | z
     ·exact Du _ (tk4 v z)
     ·exact DA _ z
    ·rw[C1,C1,D3];lia
  ·rintro σ H4 ⟨c5,R4,Y4,rfl,s4,ed4,ey4,I4,p4,cl4,tk4,l4,mu4⟩
   rw[CS,Dj (C0 _)] at tk4
   have lr:=bE I.nd (rngR I)
   refine ⟨⟨_,_,R4,Y4,rfl,s4,ed4,ey4,I4,?_,λu hu nu v a =>?_⟩,?_⟩
   ·lia
   ·by_cases e:u=pn
    ·subst e
     exact tk4 v ((isu v).mpr a)
    ·exact cl4 u hu nu e v a
   ·show 2*(m-jX H4 d)+mv H4 y<2*(m-jX H' d)+mv H' y
    rw[mu0]
    unfold jX mv
    rw[ed4,ey4]
    dsimp only
    rw[iQ,CS]
    lia
end
open PySem L2
end K18
namespace L2
open PySem PySem.Spec PyProof.Rows
section
variable  {X:Cx}
end
end L2
namespace K18
open PySem L2
theorem Wb.ok {H:Hp}{r:Addr}{m:Nat}{ts:List (Addr×List Int)}(W:Wb H r (m:Int) ts):Ok m (ts.map (·.2)):=λp hp=>by
 obtain ⟨u,hu,rfl⟩:=DH.mp hp
 exact W.pr u hu
abbrev uC:Sp:=λvs H Q _=>∃(r:Addr) (m:Nat) (ts:List (Addr×List Int)),vs=[.ref r]/\Wb H r m ts/\m<=400/\∀(l:Addr) (H':Hp) (os:List (Addr×List Int)),aA H H'->H l=none->H' l=some (.lst (os.map λu =>.ref u.1))->(∀u∈os,H' u.1=some (.tup (u.2.map V.int)))->os.map (·.2)=aV (ts.map (·.2)) m m->Q (.ref l) H'
@[irreducible] def oK:Sp:=uC
theorem hX {vs:List V}{H:Hp}{Q:VK}{E:XK}:oK vs H Q E↔uC vs H Q E:=by
 delta oK
 exact E8
abbrev qJ:Sp:=λvs H Q _=>∃(r:Addr) (m:Nat) (ts:List (Addr×List Int)),vs=[.ref r]/\Wb H r m ts/\m<=400/\∀H',aA H H'->Q (.int ((ts.length:Int)-m+((aV (ts.map (·.2)) m m).length:Nat))) H'
@[irreducible] def j8:Sp:=qJ
theorem f7 {vs:List V}{H:Hp}{Q:VK}{E:XK}:j8 vs H Q E↔qJ vs H Q E:=by
 delta j8
 exact E8
theorem jQ (ns:List (List Int))(m i:Nat):(aV ns m i).length<=i:=by
 unfold aV
 rw[CS]
 refine DZ (Ic _ _) ?_
 unfold rgI
 rw[CS,FF]
 exact C0 _
section
variable  {P:Dp}{w:DW}{K:CZ}{mg:Str->Option CU}{base:Heap}{f:Addr}{fd:Eo}
theorem hZ:aF ["web", "near", "seen", "parts", "place", "part", "other"] ["web"] (az Av):=⟨rfl,rfl,rfl,by decide +kernel,rfl,by decide +kernel,by decide +kernel⟩
theorem BE (F:Fun K "hanging_parts" "hanging_parts" Av f fd)(B:Blt mg)(cL:Cal P w K mg base 1 "near_lists" ["web"] gx)(cR:Cal P w K mg base 1 "reached_from" ["near", "start"] j7):bF P w K mg base CX0 2 f fd ["web"] oK:=by
 refine F.ok hZ (λvs H Q E h =>?_) (λcdv A outer s0 H vs Q E hr h =>?_)
 ·obtain ⟨a,b,c,rfl,_⟩:=hX.mp h
  rfl
 obtain ⟨r,m,ts,rfl,W,m4,q⟩:=hX.mp h
 have O:=W.ok
 have hu:=tM hr
 obtain ⟨t,e1,e2⟩:=W.at'
 refine ⟨_,ah (aK (i:=1) hZ.nd rfl (Or.inl rfl) (aD cL hr (by decide) rfl (aa (pv 0) ag)))
  (ah (aK (i:=2) hZ.nd rfl (Or.inl rfl) qu)
  (ah (aK (i:=3) hZ.nd rfl (Or.inl rfl) (cX ag))
  (ah (cj Eh rfl (bK rfl B.b_range (aa (aL aN (pv 0) ai (λ_ _=>rfl)) ag)) (au (i:=4) hZ.nd rfl (Or.inl rfl))
   (ak (bJ (ja (dy hu (pv 4) (pv 2)))
    (ah (aK (i:=5) hZ.nd rfl (Or.inl rfl) (aD cR hr (by decide) rfl (aa (pv 1) (aa (pv 4) ag))))
    (ah (cj Eh rfl (bI (pv 5)) (au (i:=6) hZ.nd rfl (Or.inl rfl)) (ak (j4 hu (pv 2) (pv 6) gF rfl)))
    (ak (cZ (iA Em EK EL cq (pv 3) (aa (aS aY rfl B.b_tuple ID (aa (pv 5) ag)) ag)))))) aP)))
  (ak (aH (pv 3)))))),?_⟩
 refine ⟨_,rfl,cS.mpr ⟨r,m,ts,rfl,W,by lia,by lia,λn H1 os s1 en lo ho po =>?_⟩⟩
 have N:fZ H1 n m (ts.map (·.2)) os:=⟨en,by rw[lo];simp,ho,λj u eu=>(po j u eu).2⟩
 refine λd hd=>⟨(by show 0<=Dl;decide),λpl hpl =>?_⟩
 have hd0:upd H1 d (.dK []) d=some (.dK (eU [])):=ae
 have ndp:d≠pl:=aq hd0 hpl
 have hpl1:H1 pl=none:=by
  cases e:H1 pl with
  | none=>rfl
  | some o=>rw[(af hd (.dK [])) _ _ e] at hpl;cases hpl
 have hpl0:H pl=none:=by
  cases e:H pl with
  | none=>rfl
  | some o=>rw[s1 _ _ e] at hpl1;cases hpl1
 have e3d:=(af hpl (.lst [])) _ _ hd0
 have e3p:upd (upd H1 d (.dK [])) pl (.lst []) pl=some (.lst []):=ae
 have s3:=(af hd (.dK [])).trans (af hpl (.lst []))
 generalize upd (upd H1 d (.dK [])) pl (.lst [])=H3 at e3d e3p s3
 let W0:Nat->St->Hp->Prop:=λi σ H'=>∃(c4 c5 c6:Option V) (S:List Int) (ps:List (Addr×List Int)),σ=[some (.ref r),some (.ref n),some (.ref d),some (.ref pl),c4,c5,c6]/\aA H1 H'/\H' d=some (.dK (eU S))/\H' pl=some (.lst (ps.map λu =>.ref u.1))/\(∀u∈ps,H' u.1=some (.tup (u.2.map V.int)))/\ps.map (·.2)=aV (ts.map (·.2)) m i/\S.Nodup/\(∀v,v∈S↔∃u:Nat,u<i/\Con (ts.map (·.2)) (u:Int) v)
 refine ⟨_,rfl,r,_,0,_,rfl,rfl,SqT.of (s3 _ _ (s1 _ _ e1)),rfl,m,rfl,by lia,by lia,du W0
  ⟨_,_,_,[],[],rfl,s3,e3d,e3p,λu hu=>(by cases hu),rfl,GU,λv=>⟨λz=>(by cases z),λ⟨u,z,_⟩=>by lia⟩⟩ ?_ ?_⟩
 ·rintro i σ H' hi ⟨c4,c5,c6,S,ps,rfl,s',ed,ep,hp,epp,nS,mS⟩
  have hi':i<m:=by simpa using hi
  refine ⟨_,rfl,_,rfl,d,_,rfl,iL.k (k:=Sum.inl (0+(i:Int))) ed,_,rfl,?_⟩
  rw[nF,J4]
  by_cases hS:(i:Int)∈S
  ·rw[decide_eq_true hS]
   obtain ⟨u,ui,hu⟩:=(mS _).mp hS
   refine bM ⟨_,_,_,S,ps,rfl,s',ed,ep,hp,?_,nS,λv =>?_⟩
   ·have:=Classical.propDecidable (Fst (ts.map (·.2)) (i:Int))
    rw[iP,if_neg (λz=>z (u:Int) (by lia) (by lia) hu),DU]
    exact epp
   ·rw[mS v]
    constructor
    ·rintro ⟨x,xi,hx⟩;exact ⟨x,by lia,hx⟩
    ·rintro ⟨x,xi,hx⟩
     by_cases e:x=i
     ·subst e;exact ⟨u,ui,hu.trans hx⟩
     ·exact ⟨x,by lia,hx⟩
  ·rw[decide_eq_false hS]
   have fi:Fst (ts.map (·.2)) (i:Int):=λx x0 xi hx=>by
    obtain ⟨xn,rfl⟩:∃k:Nat,x=k:=⟨x.toNat,by lia⟩
    exact hS ((mS _).mpr ⟨xn,by lia,hx⟩)
   refine bH ⟨_,rfl,_,rfl,f6.mpr ⟨n,m,ts.map (·.2),os,(i:Int),rfl,N.same s',O,m4,by lia,by lia,λpt H4 s4 ept =>?_⟩⟩
   have ed4:=s4 _ _ ed
   have ep4:=s4 _ _ ep
   have mc:∀v,v∈fF (ts.map (·.2)) m (i:Int)↔Con (ts.map (·.2)) (i:Int) v:=λv=>nE O (by lia)
   have rc:=lF (ts.map (·.2)) m (i:Int)
   generalize hcc:fF (ts.map (·.2)) m (i:Int)=cc at ept mc rc
   have ndpt:d≠pt:=fE ed4 ept (by intro z;cases z)
   have ndcc:cc.Nodup:=rc.imp λ{a b} h=>by lia
   have dj:∀v∈cc,v∉S:=λv hv hs=>by
    obtain ⟨u,ui,hu⟩:=(mS v).mp hs
    exact fi (u:Int) (by lia) (by lia) (hu.trans (((mc v).mp hv).symm O))
   have rS:∀v∈S,0<=v/\v<m:=λv hv=>by
    obtain ⟨u,ui,hu⟩:=(mS v).mp hv
    exact hu.rng O (by lia)
   have rC:∀v∈cc,0<=v/\v<m:=λv hv=>((mc v).mp hv).rng O (by lia)
   have ndj:∀j,(S++cc.take j).Nodup:=λj=>by
    rw[Gy]
    exact ⟨nS,ndcc.sublist (EI _ _),λx hx y hy e=>dj y (Fw hy) (e ▸ hx)⟩
   have lj:∀j,(S++cc.take j).length<=m:=λj=>bE (ndj j) λv hv=>(Dd.mp hv).elim (rS v) λz=>rC v (Fw z)
   let W1:Nat->St->Hp->Prop:=λj σ H5=>(∃c6,σ=[some (.ref r),some (.ref n),some (.ref d),some (.ref pl),some (.int (i:Int)),some (.ref pt),c6])/\SB d H4 H5/\H5 d=some (.dK (eU (S++cc.take j)))
   refine ⟨_,rfl,pt,rfl,⟨_,SqL.of ept⟩,dD (xs:=cc.map V.int) W1 ⟨⟨_,rfl⟩,SB.refl _ _,by rw[Ho,DU];exact ed4⟩ (λj σ H5 _ z=>SqL.of (z.2.1 _ _ (Ee ndpt) ept)) ?_ ?_⟩
   ·rintro j x σ H5 hx ⟨⟨c6,rfl⟩,sb5,ed5⟩
    rw[C8] at hx
    cases ho:cc[j]? with
    | none=>rw[ho] at hx;cases hx
    | some o =>
    rw[ho] at hx
    cases hx
    have tks:cc.take (j+1)=cc.take j++[o]:=by rw[DY,ho];rfl
    have no:o∉S++cc.take j:=λz=>by
     have nd1:=ndj (j+1)
     rw[tks, <- DN,Gy] at nd1
     exact nd1.2.2 o z o (by simp) rfl
    refine ⟨_,rfl,_,rfl,d,_,rfl,mj.k (k:=Sum.inl o) ed5 (by rw[iQ];exact bW (by have:=lj j;lia)),⟨_,rfl⟩,sb5.trans (SB.put _),?_⟩
    rw[qH no,ae,tks,DN]
   ·rintro σ H5 ⟨⟨c6,rfl⟩,sb5,ed5⟩
    rw[CS,Dj (C0 _)] at ed5
    have ep5:=sb5 _ _ (Ee ndp) ep4
    have ept5:=sb5 _ _ (Ee ndpt) ept
    have s5:aA H1 H5:=λb o e=>sb5 _ _ (aq e hd) (s4 _ _ (s' _ _ e))
    have hp5:∀u∈ps,H5 u.1=some (.tup (u.2.map V.int)):=λu hu=>sb5 _ _ (fE (s4 _ _ (hp u hu)) ed4 (by intro z;cases z)) (s4 _ _ (hp u hu))
    refine ⟨_,rfl,.inl ⟨rfl,_,SqL.of ep5⟩,_,rfl,pt,_,rfl,.inl ⟨SqL.of ept5,λtt htt =>?_⟩⟩
    have s6:=af htt (.tup (cc.map V.int))
    have lps:ps.length<=i:=by
     have:=congrArg List.length epp
     rw[CS] at this
     rw[this]
     exact jQ _ _ _
    have ett:upd H5 tt (.tup (cc.map V.int)) tt=some (.tup (cc.map V.int)):=ae
    have ntp:∀{b:Addr} {xs:List V},upd H5 tt (.tup (cc.map V.int)) b=some (.tup xs)->b≠pl:=λe=>fE e (s6 _ _ ep5) (by intro z;cases z)
    refine ⟨pl,_,_,rfl,rfl,s6 _ _ ep5,(by rw[CS];exact bW (by lia)),_,_,_,S++cc,ps++[(tt,cc)],rfl,λb o e =>?_,?_,?_,λu hu =>?_,?_,by have:=ndj cc.length;rwa [Dj (C0 _)] at this,λv =>?_⟩
    ·rw[ay (aq e hpl1)];exact s6 _ _ (s5 _ _ e)
    ·rw[ay ndp];exact s6 _ _ ed5
    ·rw[ae,Dg];rfl
    ·rcases Dd.mp hu with z | z
     ·have:=s6 _ _ (hp5 u z)
      rw[ay (ntp this)];exact this
     ·rw[C2] at z;subst z
      rw[ay (ntp ett)];exact ett
    ·have:=Classical.propDecidable (Fst (ts.map (·.2)) (i:Int))
     rw[iP,if_pos fi,Dg,epp,hcc]
     rfl
    ·rw[Dd,mS v,mc v]
     constructor
     ·rintro (⟨x,xi,hx⟩ | hx)
      ·exact ⟨x,by lia,hx⟩
      ·exact ⟨i,by lia,hx⟩
     ·rintro ⟨x,xi,hx⟩
      by_cases e:x=i
      ·subst e;exact .inr hx
      ·exact .inl ⟨x,by lia,hx⟩
 ·rintro σ H' ⟨c4,c5,c6,S,ps,rfl,s',ed,ep,hp,epp,nS,mS⟩
  exact ⟨_,rfl,q pl H' ps (s1.trans s') hpl0 ep hp (by simpa using epp)⟩
theorem zS:aF ["web"] ["web"] (az yg):=⟨rfl,rfl,rfl,by decide +kernel,rfl,by decide +kernel,by decide +kernel⟩
theorem zT (F:Fun K "spare_ties" "spare_ties" yg f fd)(B:Blt mg)(cH:Cal P w K mg base 2 "hanging_parts" ["web"] oK):bF P w K mg base CX0 3 f fd ["web"] j8:=by
 refine F.ok zS (λvs H Q E h =>?_) (λcdv A outer s0 H vs Q E hr h =>?_)
 ·obtain ⟨a,b,c,rfl,_⟩:=f7.mp h
  rfl
 obtain ⟨r,m,ts,rfl,W,m4,q⟩:=f7.mp h
 obtain ⟨t,e1,e2⟩:=W.at'
 refine ⟨_,ak (aH (aO cW (aO gM (aB bh rfl B.b_len Ja (aa (aL aN (pv 0) ai (λ_ _=>rfl)) ag)) (aL aN (pv 0) ai (λ_ _=>rfl))) (aB bh rfl B.b_len Ja (aa (aD cH hr (by decide) rfl (aa (pv 0) ag)) ag)))),?_⟩
 refine ⟨_,rfl,r,_,1,_,rfl,rfl,SqT.of e1,rfl,t,_,rfl,.inr (SqT.of e2),_,rfl,r,_,0,_,rfl,rfl,SqT.of e1,rfl,_,_,rfl,rfl,_,rfl,hX.mpr ⟨r,m,ts,rfl,W,m4,λl H' os s' _ el _ ep=>⟨l,_,rfl,.inl (SqL.of el),_,_,rfl,rfl,?_⟩⟩⟩
 have:=q H' s'
 rw[<- ep,CS] at this
 rw[CS,CS]
 exact this
end
open PySem L2
theorem oM {ns ms:List (List Int)}(h:∀p∈ns,p∈ms){u v:Int}(c:Con ns u v):Con ms u v:=by
 induction c with
 | refl=>exact .refl _
 | step _ a ih =>
  obtain ⟨p,hp,hx⟩:=bY.mp a
  exact .step ih (bY.mpr ⟨p,h p hp,hx⟩)
theorem wj {ns ms:List (List Int)}(h:∀p,p∈ns↔p∈ms)(u v:Int):Con ns u v↔Con ms u v:=⟨oM λp hp=>(h p).mp hp,oM λp hp=>(h p).mpr hp⟩
open Classical in
theorem f9 {ns ms:List (List Int)}{m:Nat}(h:∀u v:Int,Con ns u v↔Con ms u v):aV ns m m=aV ms m m:=by
 have e1:∀u,Fst ns u↔Fst ms u:=λu=>by
  unfold Fst
  exact ⟨λg w h0 h1 c=>g w h0 h1 ((h w u).mpr c),λg w h0 h1 c=>g w h0 h1 ((h w u).mp c)⟩
 have e2:fF ns m=fF ms m:=by
  funext u
  unfold fF
  refine Gz λv _ =>?_
  rw[decide_eq_decide]
  exact h u v
 unfold aV
 rw[e2]
 congr 1
 refine Gz λu _ =>?_
 rw[decide_eq_decide]
 exact e1 u
structure More (m:Nat)(ns ms:List (List Int))(a b:Int):Prop where
 ok:Ok m ns
 mem:∀p,p∈ms↔p∈ns\/p=[a,b]
 a0:0<=a
 ab:a<=b
 bm:b<m
theorem More.ok' {m:Nat}{ns ms:List (List Int)}{a b:Int}(M:More m ns ms a b):Ok m ms:=λp hp=>by
 rcases (M.mem p).mp hp with h | h
 ·exact M.ok p h
 ·exact ⟨a,b,h,M.a0,M.ab,M.bm⟩
theorem More.sub {m:Nat}{ns ms:List (List Int)}{a b:Int}(M:More m ns ms a b){u v:Int}(c:Con ns u v):Con ms u v:=oM (λp hp=>(M.mem p).mpr (.inl hp)) c
theorem More.adj {m:Nat}{ns ms:List (List Int)}{a b:Int}(M:More m ns ms a b){u v:Int}(h:Adj ms u v):Adj ns u v\/(u=a/\v=b)\/(u=b/\v=a):=by
 obtain ⟨p,hp,hx⟩:=bY.mp h
 rcases (M.mem p).mp hp with z | z
 ·exact .inl (bY.mpr ⟨p,z,hx⟩)
 ·subst z
  rcases (j5.mp hx).2 with ⟨h1,h2⟩ | ⟨h1,h2⟩
  ·exact .inr (.inl ⟨h1.symm,h2⟩)
  ·exact .inr (.inr ⟨h1.symm,h2⟩)
theorem More.tie {m:Nat}{ns ms:List (List Int)}{a b:Int}(M:More m ns ms a b):Con ms a b:=zQ M.ok' ((M.mem _).mpr (.inr rfl))
theorem More.same {m:Nat}{ns ms:List (List Int)}{a b:Int}(M:More m ns ms a b)(h:Con ns a b)(u v:Int):Con ns u v↔Con ms u v:=by
 refine ⟨M.sub,λc =>?_⟩
 induction c with
 | refl=>exact .refl _
 | step _ x ih =>
  rcases M.adj x with z | ⟨rfl,rfl⟩ | ⟨rfl,rfl⟩
  ·exact .step ih z
  ·exact ih.trans h
  ·exact ih.trans (h.symm M.ok)
theorem More.con {m:Nat}{ns ms:List (List Int)}{a b:Int}(M:More m ns ms a b){u v:Int}(c:Con ms u v):Con ns u v\/(Con ns u a/\Con ns b v)\/(Con ns u b/\Con ns a v):=by
 induction c with
 | refl=>exact .inl (.refl _)
 | step _ x ih =>
  rcases M.adj x with z | ⟨rfl,rfl⟩ | ⟨rfl,rfl⟩
  ·rcases ih with i | ⟨i,j⟩ | ⟨i,j⟩
   ·exact .inl (.step i z)
   ·exact .inr (.inl ⟨i,.step j z⟩)
   ·exact .inr (.inr ⟨i,.step j z⟩)
  ·rcases ih with i | ⟨i,j⟩ | ⟨i,j⟩
   ·exact .inr (.inl ⟨i,.refl _⟩)
   ·exact .inr (.inl ⟨i,.refl _⟩)
   ·exact .inl i
  ·rcases ih with i | ⟨i,j⟩ | ⟨i,j⟩
   ·exact .inr (.inr ⟨i,.refl _⟩)
   ·exact .inl i
   ·exact .inr (.inr ⟨i,.refl _⟩)
theorem nH {m:Nat}{ns:List (List Int)}(O:Ok m ns){c w:Int}(hc:Fst ns c)(w0:0<=w)(h:Con ns c w):c<=w:=by
 rcases Int.lt_or_le w c with z | z
 ·exact absurd (h.symm O) (hc w w0 z)
 ·exact z
theorem More.fst {m:Nat}{ns ms:List (List Int)}{a b:Int}(M:More m ns ms a b)(h:¬ Con ns a b):∃hi:Int,0<=hi/\hi<m/\Fst ns hi/\∀u:Int,0<=u->u<m->(Fst ms u↔Fst ns u/\u≠hi):=by
 have a0:=M.a0
 have ab:=M.ab
 have bm:=M.bm
 obtain ⟨ra,fa,ra0,ram,ca⟩:=yh M.ok a.toNat a a0 (by lia) (C0 _)
 obtain ⟨rb,fb,rb0,rbm,cb⟩:=yh M.ok b.toNat b (by lia) bm (C0 _)
 have ne:ra≠rb:=λz=>by
  subst z
  exact h ((ca.symm M.ok).trans cb)
 have cab:Con ms ra rb:=((M.sub ca).trans M.tie).trans ((M.sub cb).symm M.ok')
 have key:∀(lo hi:Int),((lo=ra/\hi=rb)\/(lo=rb/\hi=ra))->lo<hi->0<=lo->0<=hi->hi<m->Fst ns hi->Con ms lo hi->∃hi:Int,0<=hi/\hi<m/\Fst ns hi/\∀u:Int,0<=u->u<m->(Fst ms u↔Fst ns u/\u≠hi):=by
  intro lo hi lh lt lo0 hi0 him fh ch
  refine ⟨hi,hi0,him,fh,λu u0 um=>⟨λf=>⟨λw w0 wu c=>f w w0 wu (M.sub c),λz =>?_⟩,λ⟨f,nz⟩ w w0 wu c =>?_⟩⟩
  ·subst z
   exact f lo lo0 lt ch
  ·rcases M.con c with z | ⟨i,j⟩ | ⟨i,j⟩
   ·exact f w w0 wu z
   ·have e:u=rb:=(qG M.ok fb f rb0 u0 (cb.trans j)).symm
    have g:=nH M.ok fa w0 (ca.trans (i.symm M.ok))
    rcases lh with ⟨x,y⟩ | ⟨x,y⟩ <;> lia
   ·have e:u=ra:=(qG M.ok fa f ra0 u0 (ca.trans j)).symm
    have g:=nH M.ok fb w0 (cb.trans (i.symm M.ok))
    rcases lh with ⟨x,y⟩ | ⟨x,y⟩ <;> lia
 rcases Int.lt_or_gt_of_ne ne with z | z
 ·exact key ra rb (.inl ⟨rfl,rfl⟩) z ra0 rb0 rbm fb cab
 ·exact key rb ra (.inr ⟨rfl,rfl⟩) z rb0 ra0 ram fa (cab.symm M.ok')
theorem gy (m:Nat):(rgI m).Nodup:=(lE m).imp λ{a b} h=>by lia
theorem jR {p q:Int->Bool}{x:Int}:∀{l:List Int},l.Nodup->x∈l->p x=true->(∀u∈l,q u=(p u && decide (u≠x)))->(l.filter q).length+1=(l.filter p).length
 | [],_,h,_,_=>by cases h
 | y :: l,nd,h,hp,hq=>by
  obtain ⟨n1,n2⟩:=EC.mp nd
  have hy:=hq y Dr
  by_cases e:y=x
  ·subst e
   have e2:l.filter q=l.filter p:=Gz λu hu=>by
    rw[hq u (Ds _ hu),decide_eq_true (show u≠y from λz=>n1 (z ▸ hu)),KQ]
   rw[Ik,if_neg (by rw[hy];simp),Ik,if_pos hp,e2]
   rfl
  ·have hx:x∈l:=by rcases Dm.mp h with z | z;exact absurd z.symm e;exact z
   have ih:=jR n2 hx hp (λu hu=>hq u (Ds _ hu))
   rw[decide_eq_true (show y≠x from e),KQ] at hy
   rw[Ik,Ik,hy]
   by_cases hpy:p y=true
   ·rw[if_pos hpy,if_pos hpy,DF,DF, <- ih]
   ·rw[if_neg hpy,if_neg hpy,ih]
theorem ju {ns:List (List Int)}{m:Nat}[DecidablePred (Fst ns)]:(aV ns m m).length=((rgI m).filter λu=>decide (Fst ns u)).length:=by
 unfold aV
 rw[CS]
 congr 1
 refine Gz λu _ =>?_
 rw[decide_eq_decide]
open Classical in
theorem More.less {m:Nat}{ns ms:List (List Int)}{a b:Int}(M:More m ns ms a b)(h:¬ Con ns a b):(aV ms m m).length+1=(aV ns m m).length:=by
 obtain ⟨hi,h0,h1,fh,he⟩:=M.fst h
 rw[ju,ju]
 refine jR (gy m) (cG.mpr ⟨h0,h1⟩) (decide_eq_true fh) λu hu =>?_
 obtain ⟨u0,um⟩:=cG.mp hu
 rw[Fo,decide_eq_true_iff,Ey,decide_eq_true_iff,decide_eq_true_iff]
 exact he u u0 um
open Classical in
theorem qK {m:Nat}:∀{ns:List (List Int)},Ok m ns->m<=ns.length+(aV ns m m).length
 | [],_=>by
  rw[ju]
  have e:(rgI m).filter (λu=>decide (Fst [] u))=rgI m:=Hw.mpr λu _=>by
   refine decide_eq_true λw w0 wu c =>?_
   have:∀{x y:Int},Con [] x y->x=y:=by
    intro x y c
    induction c with
    | refl=>rfl
    | step _ a _=>obtain ⟨p,hp,_⟩:=bY.mp a;cases hp
   have:=this c
   lia
  rw[e]
  unfold rgI
  rw[CS,FF]
  exact Nat.le_add_left _ _
 | p :: ns,O=>by
  obtain ⟨a,b,rfl,a0,ab,bm⟩:=O p Dr
  have O':Ok m ns:=λq hq=>O q (Ds _ hq)
  have ih:=qK O'
  have M:More m ns ([a,b] :: ns) a b:=⟨O',λq=>by rw[Dm,Or.comm],a0,ab,bm⟩
  rw[DF]
  by_cases c:Con ns a b
  ·rw[<- f9 (M.same c)]
   lia
  ·have:=M.less c
   lia
def off (ps:List Int)(p:List Int):Bool := !decide (p.getD 0 0∈ps) && !decide (p.getD 1 0∈ps)
abbrev yi:Sp:=λvs H Q _=>∃(r p:Addr) (m:Int) (ts:List (Addr×List Int)) (ps:List Int),vs=[.ref r,.ref p]/\Wb H r m ts/\(H p=some (.lst (ps.map V.int))\/H p=some (.tup (ps.map V.int))) ∧
 ∀(z:Addr) (us:List (Addr×List Int)) (H':Hp),aA H H'->Wb H' z m us->us.map (·.2)=(ts.map (·.2)).filter (off ps)->Q (.ref z) H'
@[irreducible] def nI:Sp:=yi
theorem eV {vs:List V}{H:Hp}{Q:VK}{E:XK}:nI vs H Q E↔yi vs H Q E:=by
 delta nI
 exact E8
section
variable  {P:Dp}{w:DW}{K:CZ}{mg:Str->Option CU}{base:Heap}{f:Addr}{fd:Eo}
theorem CD:aF ["web", "places"] ["web", "places"] (az Cw):=⟨rfl,rfl,rfl,by decide +kernel,rfl,by decide +kernel,by decide +kernel⟩
theorem cz {α β:Type}{g:α -> Bool}{h:α -> β}{l:List α}{i:Nat}{x:α}(e:l[i]? = some x):((l.take (i+1)).filter g).map h=((l.take i).filter g).map h++if g x=true then [h x] else []:=by
 rw[DY,e,Gi,Dg]
 congr 1
 show (List.filter g [x]).map h=_
 by_cases c:g x=true
 ·rw[if_pos c,EO c];rfl
 ·rw[if_neg c,FY c];rfl
theorem CG (F:Fun K "cut_web" "cut_web" Cw f fd)(B:Blt mg):bF P w K mg base CX0 1 f fd ["web", "places"] nI:=by
 refine F.ok CD (λvs H Q E h =>?_) (λcdv A outer s H vs Q E hr h =>?_)
 ·obtain ⟨a,b,c,d,e,rfl,_⟩:=eV.mp h
  rfl
 obtain ⟨r,p,m,ts,ps,rfl,W,hp,q⟩:=eV.mp h
 obtain ⟨t,e1,e2⟩:=W.at'
 refine ⟨_,ak (aH (ck (aa (aL aN (pv 0) ai (λ_ _=>rfl)) (aa (aS aY rfl B.b_tuple ID (aa (bj ["tie", "places"] [none,some 1] rfl (eY (aL aN (pv 0) ai (λ_ _=>rfl))) rfl (λ_ _ _ _ _=>au (i:=0) CC rfl (Or.inl rfl))
  (λ_ _ _ _ _=>d9 (PW.pt (nW (aJ (gp (K:=K)) (aL (fe (K:=K)) (pv 0) ai (λ_ _=>rfl)) (pv 1) rfl) (jZ (aJ (gp (K:=K)) (aL (fe (K:=K)) (pv 0) ai (λ_ _=>rfl)) (pv 1) rfl)))))
  (λ_ _ _ _ _=>pv 0)) ag)) ag)))),?_⟩
 refine ⟨_,rfl,r,_,0,_,rfl,rfl,SqT.of e1,rfl,_,rfl,r,_,1,_,rfl,rfl,SqT.of e1,rfl,t,rfl,⟨_,SqT.of e2⟩,cu (xs:=ts.map λu =>.ref u.1) (λi ys H'=>H'=H/\ys=((ts.take i).filter λu=>off ps u.2).map λu =>.ref u.1) ⟨rfl,rfl⟩ (by rw[CS];exact small (by have:=W.len;lia)) (λi ys H' _ z=>by rw[z.1];exact SqT.of e2) ?_ ?_⟩
 ·rintro i x ys H3 hx hy ⟨rfl,ey⟩ R1 R0 r1 r0
  obtain ⟨u,eu,rfl⟩:=item hx
  have hu:=W.tup u (C7 eu)
  obtain ⟨a,b,e3,_⟩:=W.pr u (C7 eu)
  rw[e3] at hu
  have bb:off ps u.2=(!decide (a∈ps) && !decide (b∈ps)):=by rw[e3];rfl
  have g1:off ps u.2=true->R1 (.ref u.1) H3:=λec=>r1 _ _ ⟨rfl,by rw[cz eu,if_pos ec,ey]⟩
  have g0:off ps u.2=false->R0 H3:=λec=>r0 _ ⟨rfl,by rw[cz eu,if_neg (by rw[ec];exact Di),ey,DU]⟩
  refine ⟨_,rfl,u.1,_,0,_,rfl,rfl,SqT.of hu,rfl,_,rfl,p,_,rfl,(hp.elim (λz =>.inl (SqL.of z)) (λz =>.inr (SqT.of z))),rfl,dz ps,_,rfl,?_⟩
  show if (if true=true then !inV (.int a) (ps.map V.int) else _)=true then _ else _
  rw[if_pos rfl,dO]
  by_cases ha:a∈ps
  ·rw[decide_eq_true ha] at bb ⊢
   exact bM (bM (g0 bb))
  ·rw[decide_eq_false ha] at bb ⊢
   refine bH ⟨_,rfl,u.1,_,1,_,rfl,rfl,SqT.of hu,rfl,_,rfl,p,_,rfl,(hp.elim (λz =>.inl (SqL.of z)) (λz =>.inr (SqT.of z))),rfl,dz ps,_,rfl,?_⟩
   show if (if true=true then !inV (.int b) (ps.map V.int) else _)=true then _ else _
   rw[if_pos rfl,dO]
   by_cases hb:b∈ps
   ·rw[decide_eq_true hb] at bb ⊢
    exact bM (g0 bb)
   ·rw[decide_eq_false hb] at bb ⊢
    exact bH ⟨_,rfl,g1 bb⟩
 ·rintro ys H3 hy ⟨rfl,ey⟩ l hl
  rw[CS,Dj (C0 _)] at ey
  refine ⟨l,_,rfl,.inl ⟨SqL.of ae,λl2 hl2=>⟨(by show 2<=Dl;decide),λz hz =>?_⟩⟩⟩
  subst ey
  have g1:=af hl (.lst ((ts.filter λu=>off ps u.2).map λu=>V.ref u.1))
  have g2:=af hl2 (.tup ((ts.filter λu=>off ps u.2).map λu=>V.ref u.1))
  have g3:=af hz (.tup [.int m,.ref l2])
  have g:=(g1.trans g2).trans g3
  refine q z (ts.filter λu=>off ps u.2) _ g ⟨⟨l2,ae,g3 _ _ ae⟩,λu hu=>g _ _ (W.tup u (D1.mp hu).1),λu hu=>W.pr u (D1.mp hu).1,?_⟩ ?_
  ·exact DZ (Ic _ _) W.len
  ·rw[List.filter_map];rfl
end
open Classical in
open Classical in
theorem zU {m:Nat}{ns:List (List Int)}{a b:Int}(O:Ok m ([a,b] :: ns)):([a,b] :: ns).length+(aV ([a,b] :: ns) m m).length=ns.length+(aV ns m m).length+if Con ns a b then 1 else 0:=by
 obtain ⟨a',b',e,a0,ab,bm⟩:=O _ Dr
 injection e with e1 e2
 injection e2 with e2 _
 subst e1 e2
 have O':Ok m ns:=λq hq=>O q (Ds _ hq)
 have M:More m ns ([a,b] :: ns) a b:=⟨O',λq=>by rw[Dm,Or.comm],a0,ab,bm⟩
 rw[DF]
 by_cases c:Con ns a b
 ·rw[if_pos c, <- f9 (M.same c)]
  lia
 ·rw[if_neg c]
  have:=M.less c
  lia
theorem BF (m:Nat):(aV [] m m).length=m:=by
 have h1:=qK (m:=m) (ns:=[]) (λp hp=>by cases hp)
 have h2:=jQ [] m m
 simp at h1
 lia
theorem yj {m:Nat}(l:List (List Int)):(aV l.reverse m m).length=(aV l m m).length:=by
 rw[f9 (wj λp=>Il)]
section
variable  {P:Dp}{w:DW}{K:CZ}{mg:Str->Option CU}{base:Heap}{f T:Addr}{fd:Eo}
def Ax:Sp:=λvs H Q _=>∃a b:Int,vs=[.int a,.int b]/\∀t,H t=none->Q (.ref t) (upd H t (.tup ((nrm a b).map V.int)))
theorem CH:aF ["one", "other"] ["one", "other"] (az Cy):=⟨rfl,rfl,rfl,by decide +kernel,rfl,by decide +kernel,by decide +kernel⟩
theorem CI (F:Fun K "tie_of" "tie_of" Cy f fd)(mx:mg "max" = none)(mn:mg "min" = none):bF P w K mg base CX0 1 f fd ["one", "other"] Ax:=by
 refine F.ok CH (λvs H Q E h =>?_) (λcdv A outer s H vs Q E hr h =>?_)
 ·obtain ⟨a,b,rfl,_⟩:=h
  rfl
 obtain ⟨a,b,rfl,q⟩:=h
 refine ⟨_,ak (aH (ck (aa (aB (vd rfl) rfl mn lB (aa (pv 0) (aa (pv 1) ag))) (aa (aB (vb rfl) rfl mx x9 (aa (pv 0) (aa (pv 1) ag))) ag)))),?_⟩
 exact ⟨_,rfl,_,rfl,_,_,rfl,_,rfl,_,rfl,_,_,rfl,(by show 2<=Dl;decide),λt ht=>q t ht⟩
abbrev qL:Sp:=λvs H Q _=>∃(r:Addr) (m a b:Int) (ts:List (Addr×List Int)),vs=[.ref r,.int a,.int b]/\Wb H r m ts/\∀H',aA H H'->Q (.int ((ts.map (·.2)).count (nrm a b):Nat)) H'
@[irreducible] def iT:Sp:=qL
theorem cU {vs:List V}{H:Hp}{Q:VK}{E:XK}:iT vs H Q E↔qL vs H Q E:=by
 delta iT
 exact E8
theorem zV:aF ["web", "one", "other"] ["web", "one", "other"] (az ye):=⟨rfl,rfl,rfl,by decide +kernel,rfl,by decide +kernel,by decide +kernel⟩
theorem zW (F:Fun K "tied_times" "tied_times" ye f fd)(cT:Cal P w K mg base 1 "tie_of" ["one", "other"] Ax):bF P w K mg base CX0 2 f fd ["web", "one", "other"] iT:=by
 refine F.ok zV (λvs H Q E h =>?_) (λcdv A outer s H vs Q E hr h =>?_)
 ·obtain ⟨a,b,c,d,e,rfl,_⟩:=cU.mp h
  rfl
 obtain ⟨r,m,a,b,ts,rfl,W,q⟩:=cU.mp h
 obtain ⟨t,e1,e2⟩:=W.at'
 refine ⟨_,ak (aH (sC Gx Jn (sD (hu8 hr)) (aL aN (pv 0) ai (λ_ _=>rfl)) (aa (aD cT hr (by decide) rfl (aa (pv 1) (aa (pv 2) ag))) ag))),?_⟩
 refine ⟨_,rfl,r,_,1,_,rfl,rfl,SqT.of e1,rfl,⟨_,_,rfl,e2⟩,_,rfl,_,rfl,a,b,rfl,λx hx =>?_⟩
 have s1:=af hx (.tup ((nrm a b).map V.int))
 exact ⟨t,x,ts,nrm a b,rfl,rfl,s1 _ _ e2,λu hu=>s1 _ _ (W.tup u hu),ae,q _ s1⟩
end
open PySem L2
inductive Wk (R:Int->Int->Prop)(s:Int):Nat->Int->Prop
 | z:Wk R s 0 s
 | st {n:Nat} {p o:Int}:Wk R s n p->R p o->Wk R s (n+1) o
def Dst (R:Int->Int->Prop)(s:Int)(n:Nat)(v:Int):Prop:=Wk R s n v/\∀k,k<n->¬ Wk R s k v
theorem Dst.uniq {R:Int->Int->Prop}{s:Int}{a b:Nat}{v:Int}(h1:Dst R s a v)(h2:Dst R s b v):a=b:=by
 rcases Nat.lt_trichotomy a b with h | h | h
 ·exact absurd h1.1 (h2.2 a h)
 ·exact h
 ·exact absurd h2.1 (h1.2 b h)
theorem Wk.zero {R:Int->Int->Prop}{s v:Int}(h:Wk R s 0 v):v=s:=by cases h;rfl
def stp (ns:List (List Int))(s g p o:Int):Prop:=Adj ns p o/\(p≠s\/o≠g)
theorem Wk.rng {m:Nat}{ns:List (List Int)}(O:Ok m ns){s g:Int}(hs:0<=s/\s<m){n:Nat}{v:Int}(h:Wk (stp ns s g) s n v):0<=v/\v<m:=by
 cases h with
 | z=>exact hs
 | st _ r=>exact (j6 O r.1).2
def mp (C:List (Int×V)):List (Key×V):=C.map λe=>(Sum.inl e.1,e.2)
theorem oN (v:Int):∀C:List (Int×V),(v∉C.map (·.1)/\cP (mp C) (Sum.inl v)=none)\/∃x,(v,x)∈C/\cP (mp C) (Sum.inl v)=some x
 | [] =>.inl ⟨by simp,rfl⟩
 | e :: C=>by
  by_cases h:e.1=v
  ·refine .inr ⟨e.2,by rw[<- h];exact Dr,?_⟩
   show cP ((Sum.inl e.1,e.2) :: mp C) (Sum.inl v)=some e.2
   rw[fP (by rw[h])]
  ·have en:cP (mp (e :: C)) (Sum.inl v)=cP (mp C) (Sum.inl v):=by
    show cP ((Sum.inl e.1,e.2) :: mp C) (Sum.inl v)=_
    rw[fQ (λz=>h (by injection z))]
   rw[en]
   rcases oN v C with ⟨h1,h2⟩ | ⟨x,h1,h2⟩
   ·exact .inl ⟨by rw[DK,Dm];exact λz=>z.elim (λy=>h y.symm) h1,h2⟩
   ·exact .inr ⟨x,Ds _ h1,h2⟩
theorem uD (v:Int)(C:List (Int×V)):(cP (mp C) (Sum.inl v)).isSome=decide (v∈C.map (·.1)):=by
 rcases oN v C with ⟨h1,h2⟩ | ⟨x,h1,h2⟩
 ·rw[h2,decide_eq_false h1];rfl
 ·rw[h2,decide_eq_true (EN (f:=(·.1)) h1)];rfl
theorem BG {v:Int}{C:List (Int×V)}(h:v∈C.map (·.1)):∃x,(v,x)∈C/\cP (mp C) (Sum.inl v)=some x:=by
 rcases oN v C with ⟨h1,_⟩ | z
 ·exact absurd h h1
 ·exact z
theorem yk {v:Int}{C:List (Int×V)}(h:v∉C.map (·.1))(x:V):putK (mp C) (Sum.inl v) x=mp (C++[(v,x)]):=by
 rcases oN v C with ⟨_,h2⟩ | ⟨x,h1,_⟩
 ·rw[qo _ h2];unfold mp;rw[Dg];rfl
 ·exact absurd (EN (f:=(·.1)) h1) h
theorem sS (C:List (Int×V)):(mp C).length=C.length:=CS _
structure Rnd (ns:List (List Int))(s g:Int)(d:Nat)(C:List (Int×V))(Y F:List Int):Prop where
 nd:(C.map (·.1)).Nodup
 ent:∀e∈C,(e.1=s/\e.2 = .non)\/∃(p:Int) (n:Nat),e.2 = .int p/\Dst (stp ns s g) s n p/\Dst (stp ns s g) s (n+1) e.1/\stp ns s g p e.1
 key:∀v,v∈C.map (·.1)↔(∃n,n<=d/\Wk (stp ns s g) s n v)\/v∈F
 rdy:∀v,v∈Y↔Dst (stp ns s g) s d v
 fur:∀v∈F,Dst (stp ns s g) s (d+1) v
theorem Rnd.start (ns:List (List Int))(s g:Int):Rnd ns s g 0 [(s,.non)] [s] []:=by
 refine ⟨EC.mpr ⟨by simp,GU⟩,λe he =>?_,λv =>?_,λv =>?_,λv h=>by cases h⟩
 ·rw[C2] at he;subst he;exact .inl ⟨rfl,rfl⟩
 ·show v∈[s]↔_
  rw[C2]
  refine ⟨λh =>.inl ⟨0,C0 _,h ▸ .z⟩,λh =>?_⟩
  rcases h with ⟨n,h1,h2⟩ | h
  ·cases LO.mp h1;exact h2.zero
  ·cases h
 ·rw[C2]
  exact ⟨λh=>⟨h ▸ .z,λk hk=>absurd hk (F3 _)⟩,λh=>h.1.zero⟩
theorem Rnd.add {ns:List (List Int)}{s g:Int}{d:Nat}{C:List (Int×V)}{Y F:List Int}(h:Rnd ns s g d C Y F){p o:Int}(hp:p∈Y)(ha:stp ns s g p o)(hn:o∉C.map (·.1)):Rnd ns s g d (C++[(o,.int p)]) Y (F++[o]):=by
 have dp:=(h.rdy p).mp hp
 have dw:Dst (stp ns s g) s (d+1) o:=⟨.st dp.1 ha,λk hk w=>hn ((h.key o).mpr (.inl ⟨k,Gv hk,w⟩))⟩
 refine ⟨?_,λe he =>?_,λv =>?_,h.rdy,λv hv =>?_⟩
 ·rw[Dg];exact dP h.nd hn
 ·rcases Dd.mp he with z | z
  ·exact h.ent e z
  ·rw[C2] at z;subst z
   exact .inr ⟨p,d,rfl,dp,dw,ha⟩
 ·rw[Dg,Dd,h.key,Dd]
  exact or_assoc
 ·rcases Dd.mp hv with z | z
  ·exact h.fur v z
  ·rw[C2] at z;subst z;exact dw
theorem Rnd.next {ns:List (List Int)}{s g:Int}{d:Nat}{C:List (Int×V)}{Y F:List Int}(h:Rnd ns s g d C Y F)(cl:∀p∈Y,∀o,stp ns s g p o->o∈C.map (·.1)):Rnd ns s g (d+1) C F []:=by
 have lo:∀v,Wk (stp ns s g) s (d+1) v->v∈C.map (·.1):=λv w=>by
  cases w with
  | st w1 r =>
   rename_i p
   by_cases z:∃k,k<d/\Wk (stp ns s g) s k p
   ·obtain ⟨k,hk,wk⟩:=z
    exact (h.key v).mpr (.inl ⟨k+1,hk,.st wk r⟩)
   ·exact cl p ((h.rdy p).mpr ⟨w1,λk hk wk=>z ⟨k,hk,wk⟩⟩) v r
 refine ⟨h.nd,h.ent,λv=>⟨λhv =>?_,λhv =>?_⟩,λv=>⟨h.fur v,λdv =>?_⟩,λv hv=>by cases hv⟩
 ·rcases (h.key v).mp hv with ⟨n,hn,w⟩ | z
  ·exact .inl ⟨n,G6 hn,w⟩
  ·exact .inl ⟨d+1,C0 _,(h.fur v z).1⟩
 ·rcases hv with ⟨n,hn,w⟩ | z
  ·rcases FO d n with c | c
   ·have:n=d+1:=by lia
    subst this;exact lo v w
   ·exact (h.key v).mpr (.inl ⟨n,c,w⟩)
  ·cases z
 ·rcases (h.key v).mp (lo v dv.1) with ⟨n,hn,w⟩ | z
  ·exact absurd w (dv.2 n (Nat.lt_succ_of_le hn))
  ·exact z
theorem Rnd.stop {ns:List (List Int)}{s g:Int}{d:Nat}{C:List (Int×V)}(h:Rnd ns s g d C [] []){k:Nat}{v:Int}(w:Wk (stp ns s g) s k v):v∈C.map (·.1):=by
 refine (h.key v).mpr (.inl ?_)
 induction w with
 | z=>exact ⟨0,DS _,.z⟩
 | st w1 r ih =>
  rename_i n p o
  obtain ⟨n,hn,wn⟩:=ih
  by_cases z:∃k,k<d/\Wk (stp ns s g) s k p
  ·obtain ⟨k,hk,wk⟩:=z
   exact ⟨k+1,hk,.st wk r⟩
  ·have:n=d:=by
    rcases FO n d with c | c
    ·exact absurd ⟨n,c,wn⟩ z
    ·lia
   subst this
   have:=(h.rdy p).mpr ⟨wn,λk hk wk=>z ⟨k,hk,wk⟩⟩
   cases this
theorem Rnd.dst {ns:List (List Int)}{s g:Int}{d:Nat}{C:List (Int×V)}{Y:List Int}(h:Rnd ns s g d C Y []){v:Int}(hv:v∈C.map (·.1)):∃n,n<=d/\Dst (stp ns s g) s n v:=by
 obtain ⟨e,he,rfl⟩:=DH.mp hv
 rcases h.ent e he with ⟨h1,_⟩ | ⟨p,n,_,_,h3,_⟩
 ·exact ⟨0,DS _,h1 ▸ .z,λk hk=>absurd hk (F3 _)⟩
 ·rcases (h.key e.1).mp hv with ⟨k,hk,w⟩ | z
  ·refine ⟨n+1,?_,h3⟩
   rcases FO d (n+1) with c | c
   ·exact absurd w (h3.2 k (by lia))
   ·exact c
  ·cases z
structure Trl (ns:List (List Int))(s g:Int)(N:Nat)(Z:List Int):Prop where
 hd:Z[0]? = some g
 dst:∀i x,Z[i]? = some x->i<=N/\Dst (stp ns s g) s (N-i) x
 ch:∀i x y,Z[i]? = some x->Z[i+1]? = some y->stp ns s g y x
theorem Trl.start {ns:List (List Int)}{s g:Int}{N:Nat}(h:Dst (stp ns s g) s N g):Trl ns s g N [g]:=by
 refine ⟨rfl,λi x e =>?_,λi x y _ e=>by simp at e⟩
 cases i with
 | zero=>cases e;exact ⟨DS _,h⟩
 | succ i=>simp at e
theorem Trl.add {ns:List (List Int)}{s g:Int}{N n:Nat}{W:List Int}{p q:Int}(h:Trl ns s g N (W++[p]))(hn:n+1+W.length=N)(dq:Dst (stp ns s g) s n q)(hs:stp ns s g q p):Trl ns s g N (W++[p]++[q]):=by
 have lz:(W++[p]).length=W.length+1:=by simp
 refine ⟨?_,λi x e =>?_,λi x y e1 e2 =>?_⟩
 ·rw[DC (by lia)];exact h.hd
 ·rcases FO i (W.length+1) with c | c
  ·rw[DC (by lia)] at e;exact h.dst i x e
  ·rw[DI (by lia),lz] at e
   have:i-(W.length+1)=0:=by
    rcases Gm (i-(W.length+1)) with z | z
    ·exact z
    ·rw[Eu (by simp;lia)] at e;cases e
   rw[this] at e;cases e
   refine ⟨by lia,?_⟩
   rw[show N-i=n by lia];exact dq
 ·rcases FO (i+1) (W.length+1) with c | c
  ·rw[DC (by lia)] at e1 e2;exact h.ch i x y e1 e2
  ·rw[DI (by lia),lz] at e2
   have:i+1-(W.length+1)=0:=by
    rcases Gm (i+1-(W.length+1)) with z | z
    ·exact z
    ·rw[Eu (by simp;lia)] at e2;cases e2
   rw[this] at e2;cases e2
   rw[DC (by lia),DI (by lia),show i-W.length=0 by lia] at e1
   cases e1;exact hs
def Way (ns:List (List Int))(s g:Int)(N:Nat)(Z:List Int):Prop:=Trl ns s g N Z/\Z.length=N+1
def chn (P:Int->Int->Prop):List Int->Prop
 | a :: b :: t=>P a b/\chn P (b :: t)
 | _=>True
theorem oO {P:Int->Int->Prop}:∀(l:List Int) (a:Int) (r:List Int),chn P (l++a :: r)↔chn P (l++[a])/\chn P (a :: r)
 | [],a,r=>⟨λh=>⟨trivial,h⟩,λh=>h.2⟩
 | [x],a,r=>⟨λh=>⟨⟨h.1,trivial⟩,h.2⟩,λh=>⟨h.1.1,h.2⟩⟩
 | x :: y :: l,a,r=>by
  have ih:=oO (P:=P) (y :: l) a r
  exact ⟨λh=>⟨⟨h.1,(ih.mp h.2).1⟩,(ih.mp h.2).2⟩,λh=>⟨h.1.1,ih.mpr ⟨h.1.2,h.2⟩⟩⟩
theorem oP {P:Int->Int->Prop}:∀{Z:List Int},(∀(i:Nat) x y,Z[i]? = some x->Z[i+1]? = some y->P x y)->chn P Z
 | [],_=>trivial
 | [_],_=>trivial
 | a :: b :: t,h=>⟨h 0 a b rfl rfl,oP λi x y e1 e2=>h (i+1) x y e1 e2⟩
theorem oQ {P:Int->Int->Prop}:∀{Z:List Int},chn P Z->∀(i:Nat) x y,Z[i]? = some x->Z[i+1]? = some y->P x y
 | [],_,_,_,_,e,_=>by simp at e
 | [_],_,i,_,_,_,e=>by simp at e
 | a :: b :: t,h,0,x,y,e1,e2=>by cases e1;cases e2;exact h.1
 | a :: b :: t,h,i+1,x,y,e1,e2=>oQ h.2 i x y e1 e2
theorem uE {P:Int->Int->Prop}(sy:∀a b,P a b->P b a):∀{Z:List Int},chn P Z->chn P Z.reverse
 | [],_=>trivial
 | [_],_=>trivial
 | a :: b :: t,h=>by
  rw[G8,G8,DN]
  show chn P (t.reverse++b :: [a])
  rw[oO]
  have:=uE sy h.2
  rw[G8] at this
  exact ⟨this,sy _ _ h.1,trivial⟩
def Td (ns:List (List Int))(x y:Int):Prop:=nrm x y∈ns
theorem Td.symm {ns:List (List Int)}(x y:Int)(h:Td ns x y):Td ns y x:=by unfold Td at *;rw[bL];exact h
theorem ba {a b:Int}(h:a<=b):nrm a b=[a,b]:=by
 unfold nrm mnI mxI
 by_cases c:a=b
 ·subst c;simp
 ·rw[if_neg (by lia),if_pos (by lia)]
theorem b8 {m:Nat}{ns:List (List Int)}(O:Ok m ns){u v:Int}:Adj ns u v↔u≠v/\Td ns u v:=by
 rw[bO O]
 unfold Td
 constructor
 ·rintro ⟨a,b,hp,ne,h⟩
  obtain ⟨_,_,e,_,ab,_⟩:=O _ hp
  cases e
  rcases h with ⟨rfl,rfl⟩ | ⟨rfl,rfl⟩
  ·exact ⟨ne,by rw[ba ab];exact hp⟩
  ·exact ⟨Ee ne,by rw[bL,ba ab];exact hp⟩
 ·rintro ⟨ne,h⟩
  rcases Ie u v with c | c
  ·rw[ba c] at h;exact ⟨u,v,h,ne,.inl ⟨rfl,rfl⟩⟩
  ·rw[bL,ba c] at h;exact ⟨v,u,h,Ee ne,.inr ⟨rfl,rfl⟩⟩
structure Ring (m:Nat)(ns:List (List Int))(Z:List Int):Prop where
 ne:Z≠[]
 nd:Z.Nodup
 rng:∀v∈Z,0<=v/\v<m
 ch:chn (Td ns) (Z++Z.take 1)
 two:∀x y,Z=[x,y]->2<=ns.count (nrm x y)
theorem Ring.rot {m:Nat}{ns:List (List Int)}{u v:List Int}(h:Ring m ns (u++v)):Ring m ns (v++u):=by
 cases u with
 | nil=>rw[DU];exact h
 | cons a u =>
  cases v with
  | nil=>rw[DU] at h;exact h
  | cons b v =>
   have pm:((b :: v)++(a :: u)).Perm ((a :: u)++(b :: v)):=FN
   refine ⟨by simp,pm.nodup_iff.mpr h.nd,λx hx=>h.rng x (pm.mem_iff.mp hx),?_,λx y e =>?_⟩
   ·have c:=h.ch
    rw[show (a :: u)++(b :: v)++((a :: u)++(b :: v)).take 1=(a :: u)++b :: (v++[a]) by simp] at c
    rw[show (b :: v)++(a :: u)++((b :: v)++(a :: u)).take 1=(b :: v)++a :: (u++[b]) by simp]
    rw[oO] at c ⊢
    exact ⟨c.2,c.1⟩
   ·have:v=[]:=by
     cases v with
     | nil=>rfl
     | cons c v=>simp at e
    subst this
    have:u=[]:=by
     cases u with
     | nil=>rfl
     | cons c u=>simp at e
    subst this
    simp at e
    obtain ⟨rfl,rfl⟩:=e
    rw[bL]
    exact h.two _ _ rfl
theorem Ring.turn {m:Nat}{ns:List (List Int)}{a:Int}{t:List Int}(h:Ring m ns (a :: t)):Ring m ns (a :: t.reverse):=by
 have pm:(a :: t.reverse).Perm (a :: t):=(Lf t).cons a
 refine ⟨by simp,pm.nodup_iff.mpr h.nd,λx hx=>h.rng x (pm.mem_iff.mp hx),?_,λx y e =>?_⟩
 ·have c:=uE (Td.symm (ns:=ns)) h.ch
  rw[show ((a :: t)++(a :: t).take 1).reverse=(a :: t.reverse)++(a :: t.reverse).take 1 by simp] at c
  exact c
 ·injection e with e1 e2
  have:t=[y]:=by
   have:=congrArg List.reverse e2
   rwa [Hl] at this
  subst this;subst e1
  exact h.two _ _ rfl
theorem Trl.inj {ns:List (List Int)}{s g:Int}{N:Nat}{Z:List Int}(h:Trl ns s g N Z):Z.Nodup:=by
 refine Gp.mpr λi j hi hj hij e =>?_
 have a:=h.dst i Z[i] (CV hi)
 have b:=h.dst j Z[j] (CV hj)
 rw[<- e] at b
 have:=a.2.uniq b.2
 omega
theorem Trl.rng {m:Nat}{ns:List (List Int)}(O:Ok m ns){s g:Int}(hs:0<=s/\s<m){N:Nat}{Z:List Int}(h:Trl ns s g N Z):∀v∈Z,0<=v/\v<m:=λv hv=>by
 obtain ⟨i,e⟩:=DL.mp hv
 exact (h.dst i v e).2.1.rng O hs
theorem Way.last {ns:List (List Int)}{s g:Int}{N:Nat}{Z:List Int}(h:Way ns s g N Z):Z[N]? = some s:=by
 obtain ⟨x,ex⟩:∃x,Z[N]? = some x:=⟨_,CV (by have:=h.2;lia)⟩
 have a:=(h.1.dst N x ex).2
 rw[Lm] at a
 rw[ex,a.1.zero]
theorem Way.two {ns:List (List Int)}{s g:Int}(ne:s≠g){N:Nat}{Z:List Int}(h:Way ns s g N Z):2<=N:=by
 rcases N with _ | _ | N
 ·have a:=(h.1.dst 0 g h.1.hd).2
  exact absurd a.1.zero.symm ne
 ·have:=h.1.ch 0 g s h.1.hd h.last
  exact absurd this.2 (by simp)
 ·lia
theorem Way.ring {m:Nat}{ns:List (List Int)}(O:Ok m ns){s g:Int}(ne:s≠g)(hs:0<=s/\s<m)(td:Td ns s g){N:Nat}{Z:List Int}(h:Way ns s g N Z):Ring m ns Z:=by
 have h2:=h.two ne
 have lz:=h.2
 refine ⟨λz=>by rw[z] at lz;simp at lz,h.1.inj,h.1.rng O hs,?_,λx y e=>by rw[e] at lz;simp at lz;omega⟩
 ·have t1:Z.take 1=[g]:=by
   have:=h.1.hd
   cases Z with
   | nil=>cases this
   | cons a t=>cases this;rfl
  rw[t1]
  refine oP λi x y e1 e2 =>?_
  rcases FO (i+1) Z.length with c | c
  ·rw[DC (by omega)] at e1 e2
   exact Td.symm _ _ ((b8 O).mp (h.1.ch i x y e1 e2).1).2
  ·rw[DI (by omega)] at e2
   have:i+1-Z.length=0:=by
    rcases Gm (i+1-Z.length) with z | z
    ·exact z
    ·rw[Eu (by simp;omega)] at e2;cases e2
   rw[this] at e2;cases e2
   rw[DC (by omega),show i=N by omega,h.last] at e1
   cases e1;exact td
def inn (s g p:Int)(CF:List (Int×V)×List Int)(o:Int):List (Int×V)×List Int :=
 if o∈CF.1.map (·.1)\/¬ (p≠s\/o≠g) then CF else (CF.1++[(o,.int p)],CF.2++[o])
def BH (nb:Int->List Int)(s g:Int)(CF:List (Int×V)×List Int)(p:Int):List (Int×V)×List Int:=(nb p).foldl (inn s g p) CF
def itW (nb:Int->List Int)(s g:Int):Nat->List (Int×V)×List Int
 | 0=>([(s,.non)],[s])
 | k+1=>(itW nb s g k).2.foldl (BH nb s g) ((itW nb s g k).1,[])
def yp (g:Int)(CY:List (Int×V)×List Int):Prop:=CY.2=[]\/g∈CY.1.map (·.1)
def CJ (nb:Int->List Int)(s g:Int)(C:List (Int×V)):Prop:=∃k,(itW nb s g k).1=C/\yp g (itW nb s g k)/\∀j,j<k->¬ yp g (itW nb s g j)
def nxt:Option Int->V
 | some y =>.int y
 | none =>.non
def Tra (C:List (Int×V))(g:Int)(Z:List Int):Prop:=Z[0]? = some g/\∀(i:Nat) x,Z[i]? = some x->cP (mp C) (Sum.inl x)=some (nxt Z[i+1]?)
def CK (nb:Int->List Int)(s g:Int)(Z:List Int):Prop:=∃C,CJ nb s g C/\Tra C g Z
def gc (rows:List (List Int))(p:Int):List Int:=rows.getD p.toNat []
theorem cA {α β:Type}{f:β -> α -> β}{b:β}{l:List α}{i:Nat}{x:α}(e:l[i]? = some x):(l.take (i+1)).foldl f b=f ((l.take i).foldl f b) x:=by
 rw[DY,e,List.foldl_append];rfl
def rot (ns:List Int)(k:Nat):List Int:=ns.drop k++ns.take k
def turn (ns:List Int):List Int:=ns.take 1++(ns.drop 1).reverse
def jv (a b:List Int):List Int:=if HT.lexLt b a=true then b else a
def frm (ns:List Int)(M:Int):List Int:=jv (rot ns (ns.idxOf M)) (turn (rot ns (ns.idxOf M)))
theorem lI (xs:List V){k:Nat}(h:k<=xs.length):e6 xs none (some (k:Int))=xs.take k:=by
 unfold e6 HT.sIx
 simp only[show ¬ ((k:Int)<0) by lia,if_false,Ex,JU,IX,show min k xs.length=k by lia]
theorem lJ (xs:List V){k:Nat}(h:k<=xs.length):e6 xs (some (k:Int)) none=xs.drop k:=by
 unfold e6 HT.sIx
 simp only[show ¬ ((k:Int)<0) by lia,if_false,Ex,show min k xs.length=k by lia]
 exact Dj (by rw[Ea];exact C0 _)
abbrev uF:Sp:=λvs H Q _=>∃(p:Addr) (ns:List Int),vs=[.ref p]/\H p=some (.tup (ns.map V.int))/\ns≠[]/\ns.length<=500/\∀(z:Addr) (H':Hp) (M:Int),aA H H'->M∈ns->(∀b∈ns,M<=b)->H' z=some (.tup ((frm ns M).map V.int))->Q (.ref z) H'
@[irreducible] def oR:Sp:=uF
theorem ia {vs:List V}{H:Hp}{Q:VK}{E:XK}:oR vs H Q E↔uF vs H Q E:=by
 delta oR
 exact E8
section
variable  {P:Dp}{w:DW}{K:CZ}{mg:Str->Option CU}{base:Heap}{f T:Addr}{fd:Eo}
theorem ib:aF ["ring", "at", "onward"] ["ring"] (az jt):=⟨rfl,rfl,rfl,by decide +kernel,rfl,by decide +kernel,by decide +kernel⟩
theorem sT (F:Fun K "ring_form" "ring_form" jt f fd)(B:Blt mg):bF P w K mg base CX0 1 f fd ["ring"] oR:=by
 refine F.ok ib (λvs H Q E h =>?_) (λcdv A outer s H vs Q E hr h =>?_)
 ·obtain ⟨_,_,rfl,_⟩:=ia.mp h
  rfl
 obtain ⟨p,ns,rfl,ep,ne,l5,q⟩:=ia.mp h
 refine ⟨_,(@ah _ _ _ _ _ (@aK _ _ 1 _ _ _ _ ib.nd rfl (Or.inl rfl) (sC Jl PySem.F.type_tuple_index wb (pv 0) (@aa _ _ _ _ _ (aB (sN rfl) rfl B.b_min lB (@aa _ _ _ _ _ (pv 0) ag rfl)) ag rfl)) rfl (by first | exact .inl rfl | exact .inr rfl | assumption))
  (@ah _ _ _ _ _ (@aK _ _ 2 _ _ _ _ ib.nd rfl (Or.inl rfl) (@aO _ _ _ _ _ _ _ _ iM (aS aY rfl B.b_tuple cQ (@aa _ _ _ _ _ (bP dg (pv 0) (bU (pv 1)) cC) ag rfl)) (aS aY rfl B.b_tuple cQ (@aa _ _ _ _ _ (bP dg (pv 0) cC (bU (pv 1))) ag rfl))) rfl (by first | exact .inl rfl | exact .inr rfl | assumption))
  (@ak _ _ _ (@aH _ _ _ _ (aB (sM rfl (hu8 hr)) rfl B.b_min lB (@aa _ _ _ _ _ (pv 2) (@aa _ _ _ _ _ (@aO _ _ _ _ _ _ _ _ iM (bP dg (pv 2) cC (bU ai)) (wa hr.hd rfl B.b_tuple rfl B.b_reversed (bP dg (pv 2) (bU ai) cC))) ag rfl) rfl)))))),?_⟩
 have lm:(ns.map V.int).length=ns.length:=CS _
 refine ⟨_,rfl,⟨p,_,rfl,ep⟩,_,rfl,p,ns,rfl,SqT.of ep,ne,λM hM mn=>⟨p,ns,M,rfl,rfl,ep,hM,?_⟩⟩
 have hk:ns.idxOf M<=ns.length:=GZ (HB.mpr hM)
 have q:=λz H'=>q z H' M
 unfold frm rot at q
 generalize ns.idxOf M=k at hk q
 refine ⟨_,rfl,_,rfl,_,rfl,p,_,rfl,ep,λp1 H1 s1 e1=>⟨p1,_,rfl,.inr ⟨SqT.of e1,?_⟩⟩⟩
 rw[lJ _ (by rw[lm];exact hk), <- Gg] at e1
 refine ⟨_,rfl,_,rfl,_,rfl,p,_,rfl,s1 _ _ ep,λp2 H2 s2 e2=>⟨p2,_,rfl,.inr ⟨SqT.of e2,?_⟩⟩⟩
 rw[lI _ (by rw[lm];exact hk), <- GI] at e2
 refine ⟨p1,p2,_,_,rfl,rfl,s2 _ _ e1,e2,by rw[CS,CS,Ea,D6];exact small (by lia),λp3 H3 s3 e3 =>?_⟩
 rw[<- Dg] at e3
 have lo:(ns.drop k++ns.take k).length=ns.length:=by rw[C1,Ea,D6];lia
 generalize ns.drop k++ns.take k=os at e3 lo q
 have lom:(os.map V.int).length=os.length:=CS _
 have po:=GO.mpr ne
 refine ⟨_,rfl,_,rfl,1,rfl,p3,_,rfl,e3,λp4 H4 s4 e4 =>?_⟩
 rw[show e6 (os.map V.int) none (some 1)=(os.map V.int).take 1 from lI (k:=1) _ (by rw[lom];lia), <- GI] at e4
 refine ⟨_,rfl,1,rfl,p3,_,rfl,s4 _ _ e3,λp5 H5 s5 e5 =>?_⟩
 rw[show e6 (os.map V.int) (some 1) none=(os.map V.int).drop 1 from lJ (k:=1) _ (by rw[lom];lia), <- Gg] at e5
 refine ⟨p5,_,rfl,SqT.of e5,by rw[CS,Ea];lia,λp6 hp6 =>?_⟩
 rw[<- List.map_reverse]
 have g6:=af hp6 (.tup ((os.drop 1).reverse.map V.int))
 have ep6:upd H5 p6 (.tup ((os.drop 1).reverse.map V.int)) p6=some (.tup ((os.drop 1).reverse.map V.int)):=ae
 generalize upd H5 p6 (.tup ((os.drop 1).reverse.map V.int))=H6 at g6 ep6
 refine ⟨p4,p6,_,_,rfl,rfl,g6 _ _ (s5 _ _ e4),ep6,by rw[CS,CS,D6,FE,Ea];exact small (by lia),λp7 H7 s7 e7 =>?_⟩
 rw[<- Dg] at e7
 have s47:=s4.trans (s5.trans (g6.trans s7))
 have sA:=s1.trans (s2.trans (s3.trans s47))
 refine ⟨p3,p7,os,_,rfl,SqT.of (s47 _ _ e3),SqT.of e7,λz=>q p7 H7 sA hM mn ?_,λz=>q p3 H7 sA hM mn ?_⟩
 ·rw[show jv os (turn os)=turn os by unfold jv;exact if_pos z]
  exact e7
 ·rw[show jv os (turn os)=os by unfold jv;exact if_neg (by show ¬ HT.lexLt (turn os) os=true;unfold turn;rw[z];exact Di)]
  exact s47 _ _ e3
end
open PySem L2
def yl (σ:St)(H:Hp):Nat:=match σ with
 | _ :: _ :: _ :: _ :: some (.ref y) :: _=>match H y with
  | some (.lst (_ :: _))=>1
  | _=>0
 | _=>0
theorem Ay {c0 c1 c2 c3:Option V}{y:Addr}{r:St}{H:Hp}{xs:List V}(e:H y=some (.lst xs)):yl (c0 :: c1 :: c2 :: c3 :: some (.ref y) :: r) H=if xs=[] then 0 else 1:=by
 unfold yl
 dsimp only
 rw[e]
 cases xs with
 | nil=>rfl
 | cons a t=>rfl
theorem lL {n:Nat}(h:n<=5000):n<Dl:=HM h (by decide)
theorem fG {ms:List Int}{i:Nat}{x:V}(e:(ms.map V.int)[i]? = some x):∃n,ms[i]? = some n/\x = .int n:=by
 rw[C8] at e
 cases z:ms[i]? with
 | none=>rw[z] at e;cases e
 | some n=>rw[z] at e;exact ⟨n,rfl,(DB e).symm⟩
theorem j9 {H:Hp}{d:Addr}{kvs:List (Key×V)}(e:H d=some (.dK kvs)):jX H d=kvs.length:=by unfold jX;rw[e]
theorem uG {H:Hp}{d:Addr}{xs:List V}(e:H d=some (.lst xs)):mv H d=xs.length:=by unfold mv;rw[e]
theorem gz {l:List Int}{i:Nat}{x v:Int}(e:l[i]? = some x)(h:v∈l.take (i+1)):v∈l.take i\/v=x:=by
 rw[DY,e] at h
 rcases Dd.mp h with z | z
 ·exact .inl z
 ·exact .inr (by simpa using z)
abbrev yq:Sp:=λvs H Q _=>∃(n:Addr) (m:Nat) (ns:List (List Int)) (os:List (Addr×List Int)) (s g:Int),vs=[.ref n,.int s,.int g]/\fZ H n m ns os/\Ok m ns/\m<=400/\(0<=s/\s<m)/\s≠g/\(∀H',aA H H'->(∀k,¬ Wk (stp ns s g) s k g)->Q .non H')/\∀(z:Addr) (H':Hp) (N:Nat) (Z:List Int),aA H H'->H' z=some (.tup (Z.map V.int))->Way ns s g N Z->CK (gc (os.map (·.2))) s g Z->Q (.ref z) H'
@[irreducible] def uH:Sp:=yq
theorem jw {vs:List V}{H:Hp}{Q:VK}{E:XK}:uH vs H Q E↔yq vs H Q E:=by
 delta uH
 exact E8
def WM (H:Hp)(n:Addr)(sa gb:Int)(ns:List (List Int))(os:List (Addr×List Int))(σ:St)(H':Hp):Prop:=∃(c5 c6 c7:Option V) (dd y:Addr) (d:Nat) (C:List (Int×V)) (Y:List Int),σ=[some (.ref n),some (.int sa),some (.int gb),some (.ref dd),some (.ref y),c5,c6,c7,none]/\H dd=none/\aA H H'/\H' dd=some (.dK (mp C))/\H' y=some (.lst (Y.map V.int))/\Rnd ns sa gb d C Y []/\(Y=[]\/gb∈C.map (·.1))/\CJ (gc (os.map (·.2))) sa gb C
def WT (H:Hp)(n dd y wy:Addr)(sa gb:Int)(ns:List (List Int))(C:List (Int×V))(NN:Nat)(c5 c7:Option V)(σ:St)(H':Hp):Prop:=∃(x:V) (W Z:List Int),σ=[some (.ref n),some (.int sa),some (.int gb),some (.ref dd),some (.ref y),c5,some x,c7,some (.ref wy)]/\aA H H'/\H' dd=some (.dK (mp C))/\H' wy=some (.lst (W.map V.int))/\Trl ns sa gb NN Z/\(∀(i:Nat) u v,Z[i]? = some u->Z[i+1]? = some v->cP (mp C) (Sum.inl u)=some (.int v))/\((∃(p:Int) (k:Nat),x = .int p/\Z=W++[p]/\Dst (stp ns sa gb) sa k p/\k+W.length=NN)\/(x = .non/\Z=W/\Z.length=NN+1/\∀u,Z[NN]? = some u->cP (mp C) (Sum.inl u)=some .non))
def WA (H:Hp)(n dd:Addr)(sa gb:Int)(ns:List (List Int))(os:List (Addr×List Int))(σ:St)(H':Hp):Prop:=∃(c5 c6 c7:Option V) (y:Addr) (d:Nat) (C:List (Int×V)) (Y:List Int),σ=[some (.ref n),some (.int sa),some (.int gb),some (.ref dd),some (.ref y),c5,c6,c7,none]/\aA H H'/\H' dd=some (.dK (mp C))/\H' y=some (.lst (Y.map V.int))/\Rnd ns sa gb d C Y []/\∃k,itW (gc (os.map (·.2))) sa gb k=(C,Y)/\∀j,j<k->¬ yp gb (itW (gc (os.map (·.2))) sa gb j)
def WB (H:Hp)(n dd y fu:Addr)(sa gb:Int)(ns:List (List Int))(os:List (Addr×List Int))(d:Nat)(C:List (Int×V))(Y:List Int)(i:Nat)(σ:St)(H4:Hp):Prop:=∃(c6 c7:Option V) (C4:List (Int×V)) (F4:List Int),σ=[some (.ref n),some (.int sa),some (.int gb),some (.ref dd),some (.ref y),some (.ref fu),c6,c7,none]/\aA H H4/\H4 dd=some (.dK (mp C4))/\H4 y=some (.lst (Y.map V.int))/\H4 fu=some (.lst (F4.map V.int))/\Rnd ns sa gb d C4 Y F4/\C4.length=C.length+F4.length/\(∀p∈Y.take i,∀o,stp ns sa gb p o->o∈C4.map (·.1))/\(Y.take i).foldl (BH (gc (os.map (·.2))) sa gb) (C,[])=(C4,F4)
def WC (H:Hp)(n dd y fu:Addr)(pn:Nat)(sa gb:Int)(ns:List (List Int))(uu:Addr×List Int)(d:Nat)(C C4:List (Int×V))(Y F4:List Int)(i:Nat)(j:Nat)(σ:St)(H5:Hp):Prop:=∃(c7:Option V) (C5:List (Int×V)) (F5:List Int),σ=[some (.ref n),some (.int sa),some (.int gb),some (.ref dd),some (.ref y),some (.ref fu),some (.int pn),c7,none]/\aA H H5/\H5 dd=some (.dK (mp C5))/\H5 y=some (.lst (Y.map V.int))/\H5 fu=some (.lst (F5.map V.int))/\Rnd ns sa gb d C5 Y F5/\C5.length=C.length+F5.length/\(∀p∈Y.take i,∀o,stp ns sa gb p o->o∈C5.map (·.1))/\(∀o∈uu.2.take j,stp ns sa gb pn o->o∈C5.map (·.1))/\(uu.2.take j).foldl (inn sa gb pn) (C4,F4)=(C5,F5)
section
variable  {P:Dp}{w:DW}{K:CZ}{mg:Str->Option CU}{base:Heap}{f T:Addr}{fd:Eo}
theorem bG:aF ["near", "start", "goal", "came", "ready", "further", "place", "other", "way"] ["near", "start", "goal"] (az eQ):=⟨rfl,rfl,rfl,by decide +kernel,rfl,by decide +kernel,by decide +kernel⟩
theorem sU (F:Fun K "way_about" "way_about" eQ f fd)(B:Blt mg):bF P w K mg base CX0 1 f fd ["near", "start", "goal"] uH:=by
 refine F.ok bG (λvs H Q E h =>?_) (λcdv A outer s H vs Q E hr h =>?_)
 ·obtain ⟨_,_,_,_,_,_,rfl,_⟩:=jw.mp h
  rfl
 obtain ⟨n,m,ns,os,sa,gb,rfl,N,O,m4,hs,nsg,q0,q1⟩:=jw.mp h
 have hu:(pJ CX0 P w K mg base ["near", "start", "goal", "came", "ready", "further", "place", "other", "way"] "way_about" (az eQ) f cdv A outer s H E).nox.A.units+1<cLine:=tM hr
 have kl:∀{d:Nat} {C:List (Int×V)} {Y F:List Int},Rnd ns sa gb d C Y F->C.length<=m:=λ{d C Y F} I=>by
  have:=bE I.nd (m:=m) λv hv=>by
   rcases (I.key v).mp hv with ⟨k,_,wk⟩ | z
   ·exact wk.rng O hs
   ·exact (I.fur v z).1.rng O hs
  rwa [CS] at this
 refine gw ((bV eQ).drop 3) (WM H n sa gb ns os) ?hT λtT pT mT =>?gT
 case hT =>
  refine ⟨_,(@ah _ _ _ _ _ (@bJ _ _ _ _ _ _ _ _ (ja (dy hu (pv 2) (pv 3))) (@ak _ _ _ (@aH _ _ _ _ i8)) aP)
  (@ah _ _ _ _ _ (@aK _ _ 8 _ _ _ _ bG.nd rfl (Or.inl rfl) (@cX _ _ _ _ ag) rfl (by first | exact .inl rfl | exact .inr rfl | assumption))
  (@ah _ _ _ _ _ (@aK _ _ 6 _ _ _ _ bG.nd rfl (Or.inl rfl) (pv 2) rfl (by first | exact .inl rfl | exact .inr rfl | assumption))
  (@ah _ _ _ _ _ (ir Eh (aJ tI (pv 6) i8 (aM _))
   (@ah _ _ _ _ _ (cZ (iA Em EK EL cq (pv 8) (@aa _ _ _ _ _ (pv 6) ag rfl)))
   (@ak _ _ _ (@aK _ _ 6 _ _ _ _ bG.nd rfl (Or.inl rfl) (zD hu (pv 3) (pv 6) (λ_ _=>rfl)) rfl (by first | exact .inl rfl | exact .inr rfl | assumption)))))
  (@ak _ _ _ (@aH _ _ _ _ (aS aY rfl B.b_tuple cQ (@aa _ _ _ _ _ (pv 8) ag rfl)))))))),?_⟩
  rintro σ H' ⟨c5,c6,c7,dd,y,d,C,Y,rfl,hdd,s',ed,ey,I,h2,fw⟩
  refine ⟨_,rfl,_,rfl,dd,_,rfl,iL.k (k:=Sum.inl gb) ed,_,rfl,?_⟩
  rw[uD]
  by_cases hg:gb∈C.map (·.1)
  ·rw[decide_eq_true hg]
   refine bM ⟨(by show 0<=Dl;decide),λwy hwy =>?_⟩
   have g2:=af hwy (.lst [])
   have ew:upd H' wy (.lst []) wy=some (.lst (([]:List Int).map V.int)):=ae
   have ed2:=g2 _ _ ed
   have hw0:=s'.free hwy
   have ndw:dd≠wy:=aq ed hwy
   have s2:=s'.trans g2
   generalize upd H' wy (.lst [])=H2 at g2 ew ed2 s2
   obtain ⟨NN,hN,dN⟩:=I.dst hg
   refine ⟨_,rfl,?_⟩
   refine iu (WT H n dd y wy sa gb ns C NN c5 c7)
    (λσ H'=>NN+1-mv H' wy) ⟨_,[],[gb],rfl,s2,ed2,ew,Trl.start dN,λi u v _ e=>by simp at e,.inl ⟨gb,NN,rfl,rfl,dN,rfl⟩⟩ ?_ ?_
   ·rintro σ H3 ⟨x,W,Z,rfl,s3,ed3,ew3,tr,vc,cs⟩
    have yw:=uG ew3
    rw[CS] at yw
    rcases cs with ⟨p,k,rfl,rfl,dp,kW⟩ | ⟨rfl,rfl,lZ,vl⟩
    ·refine ⟨_,rfl,rfl,_,rfl,bH ?_⟩
     refine ⟨_,rfl,.inl ⟨rfl,_,SqL.of ew3⟩,_,rfl,wy,_,_,rfl,rfl,ew3,by rw[CS];exact bW (by have:=bE tr.inj (tr.rng O hs);rw[C1] at this;lia),?_⟩
     have ew4:upd H3 wy (.lst (W.map V.int++[.int p])) wy=some (.lst ((W++[p]).map V.int)):=by rw[ae,Dg];rfl
     have ed4:upd H3 wy (.lst (W.map V.int++[.int p])) dd=some (.dK (mp C)):=by rw[ay ndw];exact ed3
     have s4:=aA.cJ s3 hw0 (.lst (W.map V.int++[.int p]))
     generalize upd H3 wy (.lst (W.map V.int++[.int p]))=H4 at ew4 ed4 s4
     have y4:=uG ew4
     rw[CS,C1] at y4
     have y4':mv H4 wy=W.length+1:=y4
     obtain ⟨x,hx,ex⟩:=BG ((I.key p).mpr (.inl ⟨k,by lia,dp.1⟩))
     refine ⟨_,rfl,_,rfl,dd,x,rfl,?_,⟨x,W++[p],?_⟩,by rw[yw,y4'];lia⟩
     ·have:=iL.k (k:=Sum.inl p) ed4
      rw[ex] at this
      exact this
     rcases I.ent _ hx with ⟨e1,e2⟩ | ⟨p',k',e2,d1,d2,st⟩
     ·have k0:k=0:=dp.uniq (b:=0) (by rw[show p=sa from e1];exact ⟨.z,λj hj=>absurd hj (F3 _)⟩)
      refine ⟨W++[p],rfl,s4,ed4,ew4,tr,vc,.inr ⟨e2,rfl,by rw[C1];show W.length+1=_;lia,λu eu =>?_⟩⟩
      rw[DI (by lia),show NN-W.length=0 by lia] at eu
      cases eu
      rw[ex,show x=V.non from e2]
     ·have kk:k=k'+1:=dp.uniq d2
      refine ⟨W++[p]++[p'],rfl,s4,ed4,ew4,tr.add (by lia) d1 st,λi u v e3 e4 =>?_,.inl ⟨p',k',e2,rfl,d1,by rw[C1];show k'+(W.length+1)=_;lia⟩⟩
      have lW:(W++[p]).length=W.length+1:=by simp
      rcases FO (i+1) (W.length+1) with c | c
      ·rw[DC (by lia)] at e3 e4;exact vc i u v e3 e4
      ·rw[DI (by lia),lW] at e4
       have:i+1-(W.length+1)=0:=by
        rcases Gm (i+1-(W.length+1)) with z | z
        ·exact z
        ·rw[Eu (by simp;lia)] at e4;cases e4
       rw[this] at e4;cases e4
       rw[DC (by lia),DI (by lia),show i-W.length=0 by lia] at e3
       cases e3
       rw[ex,show x=V.int p' from e2]
    ·refine ⟨_,rfl,rfl,_,rfl,bM ?_⟩
     refine ⟨_,rfl,wy,_,rfl,.inl ⟨SqL.of ew3,λz hz=>q1 z _ NN Z (s3.trans (af hz _)) ae ⟨tr,lZ⟩ ⟨C,fw,tr.hd,λi u eu =>?_⟩⟩⟩
     cases ev:Z[i+1]? with
     | some v=>exact vc i u v eu ev
     | none =>
      have h1:=(C9.mp eu).1
      have h2:=Fe.mp ev
      exact vl u (by rw[show NN=i by lia];exact eu)
   ·rintro σ H Q Q' h ⟨v,e,k,c,t,q⟩;exact ⟨v,e,k,c,t,h _ _ q⟩
  ·rw[decide_eq_false hg]
   have hY:Y=[]:=h2.resolve_right hg
   subst hY
   exact bH (q0 H' s' λk wk=>hg (I.stop wk))
 case gT =>
 refine ⟨_,(@ah _ _ _ _ _ (@aK _ _ 3 _ _ _ _ bG.nd rfl (Or.inl rfl) (ug (qv (pv 1) i8 uf) rfl rfl (by simp) (by decide)) rfl (by first | exact .inl rfl | exact .inr rfl | assumption))
  (@ah _ _ _ _ _ (@aK _ _ 4 _ _ _ _ bG.nd rfl (Or.inl rfl) (@cX _ _ _ _ (@aa _ _ _ _ _ (pv 1) ag rfl)) rfl (by first | exact .inl rfl | exact .inr rfl | assumption))
  (@ah _ _ _ _ _ (ir Eh (PW.pt (nW (kz (pv 4) (λ_=>rfl)) (jZ (ja (dy hu (pv 2) (pv 3))))))
   (@ah _ _ _ _ _ (@aK _ _ 5 _ _ _ _ bG.nd rfl (Or.inl rfl) (@cX _ _ _ _ ag) rfl (by first | exact .inl rfl | exact .inr rfl | assumption))
   (@ah _ _ _ _ _ (@cj _ _ _ _ _ _ _ _ Eh rfl (@bI _ _ _ _ (pv 4)) (au (i:=6) bG.nd rfl (Or.inl rfl))
    (@ak _ _ _ (@cj _ _ _ _ _ _ _ _ Eh rfl (@bI _ _ _ _ (@aL _ _ _ _ _ _ _ dY (pv 0) (pv 6) (λ_ _=>rfl))) (au (i:=7) bG.nd rfl (Or.inl rfl))
     (@ak _ _ _ (@bJ _ _ _ _ _ _ _ _ (PW.pt (nW (ja (dy hu (pv 7) (pv 3))) (jZ (PW.pt (my (aJ mB (pv 6) (pv 1) (aM _)) (jb (aJ mB (pv 7) (pv 2) (aM _)))))))) (@ah _ _ _ _ _ (j4 hu (pv 3) (pv 7) (pv 6) rfl)
      (@ak _ _ _ (cZ (iA Em EK EL cq (pv 5) (@aa _ _ _ _ _ (pv 7) ag rfl))))) aP)) (λ_=>rfl))) (λ_=>rfl))
   (@ak _ _ _ (@aK _ _ 4 _ _ _ _ bG.nd rfl (Or.inl rfl) (pv 5) rfl (by first | exact .inl rfl | exact .inr rfl | assumption))))))
  pT))),?_⟩
 refine λdd hdd=>⟨_,rfl,ae,[(Sum.inl sa,.non)],rfl,(by show 1<=15;decide),?_⟩
 have e1d:upd (upd H dd (.dK [])) dd (.dK (cY [] [(Sum.inl sa,V.non)])) dd=some (.dK (mp [(sa,.non)])):=ae
 have s1:aA H (upd (upd H dd (.dK [])) dd (.dK (cY [] [(Sum.inl sa,V.non)]))):=λb o e=>by
  rw[ay (aq e hdd),ay (aq e hdd)];exact e
 generalize upd (upd H dd (.dK [])) dd (.dK (cY [] [(Sum.inl sa,V.non)]))=H1 at e1d s1
 refine ⟨_,rfl,(by show 1<=Dl;decide),λy hy =>?_⟩
 have g2:=af hy (.lst [.int sa])
 have e2y:upd H1 y (.lst [.int sa]) y=some (.lst (([sa]:List Int).map V.int)):=ae
 have e2d:=g2 _ _ e1d
 have s2:=s1.trans g2
 generalize upd H1 y (.lst [.int sa])=H2 at g2 e2y e2d s2
 refine iu (WA H n dd sa gb ns os)
  (λσ H'=>2*(m-jX H' dd)+yl σ H') ⟨_,_,_,y,0,_,_,rfl,s2,e2d,e2y,Rnd.start ns sa gb,0,rfl,λj hj=>absurd hj (F3 _)⟩ ?_ ?_
 ·rintro σ H' ⟨c5,c6,c7,y,d,C,Y,rfl,s',ed,ey,I,kk,ekk,nst⟩
  refine ⟨_,rfl, !(Y.map V.int).isEmpty,.inl ⟨_,SqL.of ey,rfl⟩,?_⟩
  by_cases hY:Y=[]
  ·have fin:=mT _ _ ⟨c5,c6,c7,dd,y,d,C,Y,rfl,hdd,s',ed,ey,I,.inl hY,kk,by rw[ekk],by rw[ekk];exact .inl hY,nst⟩
   subst hY
   exact bM fin
  rw[show (!(Y.map V.int).isEmpty)=true by cases Y with | nil=>exact absurd rfl hY | cons a t=>rfl]
  refine bH ⟨_,rfl,_,rfl,dd,_,rfl,iL.k (k:=Sum.inl gb) ed,_,rfl,?_⟩
  rw[uD]
  by_cases hg:gb∈C.map (·.1)
  ·rw[decide_eq_true hg]
   exact bM (mT _ _ ⟨c5,c6,c7,dd,y,d,C,Y,rfl,hdd,s',ed,ey,I,.inr hg,kk,by rw[ekk],by rw[ekk];exact .inr hg,nst⟩)
  rw[decide_eq_false hg]
  refine bH ⟨(by show 0<=Dl;decide),λfu hfu =>?_⟩
  have hf0:=s'.free hfu
  have g3:=af hfu (.lst [])
  have ef:upd H' fu (.lst []) fu=some (.lst (([]:List Int).map V.int)):=ae
  have ed3:=g3 _ _ ed
  have ey3:=g3 _ _ ey
  have ndf:dd≠fu:=aq ed hfu
  have nyf:y≠fu:=aq ey hfu
  have s3:=s'.trans g3
  have nyd:y≠dd:=fE ey ed (by intro z;cases z)
  have mu0:2*(m-jX H' dd)+yl [some (.ref n),some (.int sa),some (.int gb),some (.ref dd),some (.ref y),c5,c6,c7,none] H'=2*(m-C.length)+1:=by
   rw[j9 ed,sS,Ay ey,if_neg (by simpa using hY)]
  rw[mu0]
  generalize upd H' fu (.lst [])=H3 at g3 ef ed3 ey3 s3
  have kC:=kl I
  refine ⟨_,rfl,y,rfl,⟨_,SqL.of ey3⟩,dD (xs:=Y.map V.int) (WB H n dd y fu sa gb ns os d C Y)
   ⟨_,_,C,[],rfl,s3,ed3,ey3,ef,I,rfl,λp hp=>by simp at hp,rfl⟩ (λi σ H4 _ z =>?_) ?_ ?_⟩
  ·obtain ⟨_,_,_,_,_,_,_,e,_⟩:=z
   exact SqL.of e
  ·rintro i x σ H4 hx ⟨c6,c7,C4,F4,rfl,s4,ed4,ey4,ef4,I4,l4,cl4,fo4⟩
   obtain ⟨p,ep,rfl⟩:=fG hx
   have pY:=C7 ep
   have pr:=((I4.rdy p).mp pY).1.rng O hs
   obtain ⟨pn,rfl⟩:∃k:Nat,p=k:=⟨p.toNat,by lia⟩
   have N4:=N.same s4
   have pl:pn<os.length:=by rw[N.len];lia
   obtain ⟨uu,eu⟩:∃u,os[pn]? = some u:=⟨_,CV pl⟩
   have rowu:=N4.row _ (C7 eu)
   have isu:=N.is pn _ eu
   have enb:gc (os.map (·.2)) (pn:Int)=uu.2:=by unfold gc;rw[Ex,Df,C8,eu];rfl
   refine ⟨_,rfl,_,rfl,n,_,(pn:Int),_,rfl,rfl,SqL.of N4.at',da (by rw[C8,eu];rfl),uu.1,rfl,⟨_,SqL.of rowu⟩,dD (xs:=uu.2.map V.int)
    (WC H n dd y fu pn sa gb ns uu d C C4 Y F4 i)
    ⟨_,C4,F4,rfl,s4,ed4,ey4,ef4,I4,l4,cl4,λo ho=>by simp at ho,rfl⟩ (λj σ H5 _ z =>?_) ?_ ?_⟩
   ·obtain ⟨_,_,_,_,s5,_⟩:=z
    exact SqL.of ((N.same s5).row _ (C7 eu))
   ·rintro j x σ H5 hx ⟨c7,C5,F5,rfl,s5,ed5,ey5,ef5,I5,l5,cl5,tk5,fo5⟩
    obtain ⟨o,eo,rfl⟩:=fG hx
    have ao:Adj ns pn o:=(isu o).mp (C7 eo)
    refine ⟨_,rfl,_,rfl,dd,_,rfl,iL.k (k:=Sum.inl o) ed5,_,rfl,?_⟩
    rw[uD]
    by_cases ho:o∈C5.map (·.1)
    ·rw[decide_eq_true ho]
     refine bM (bM ⟨_,C5,F5,rfl,s5,ed5,ey5,ef5,I5,l5,cl5,λo' h' st =>?_,by rw[cA eo,fo5];unfold inn;rw[if_pos (.inl ho)]⟩)
     rcases gz eo h' with z | z
     ·exact tk5 o' z st
     ·rw[z];exact ho
    rw[decide_eq_false ho]
    have k5:=kl I5
    have hd:mj H5 dd (.int o) (.int pn) (upd H5 dd (.dK (putK (mp C5) (Sum.inl o) (.int pn)))):=mj.k (k:=Sum.inl o) ed5 (by rw[sS];exact lL (by lia))
    rw[yk ho] at hd
    have ed6:upd H5 dd (.dK (mp (C5++[(o,.int pn)]))) dd=some (.dK (mp (C5++[(o,.int pn)]))):=ae
    have ef6:upd H5 dd (.dK (mp (C5++[(o,.int pn)]))) fu=some (.lst (F5.map V.int)):=by rw[ay (Ee ndf)];exact ef5
    have ey6:upd H5 dd (.dK (mp (C5++[(o,.int pn)]))) y=some (.lst (Y.map V.int)):=by rw[ay nyd];exact ey5
    have s6:=aA.cJ s5 hdd (.dK (mp (C5++[(o,.int pn)])))
    generalize upd H5 dd (.dK (mp (C5++[(o,.int pn)])))=H6 at hd ed6 ef6 ey6 s6
    have fin:stp ns sa gb pn o->WC H n dd y fu pn sa gb ns uu d C C4 Y F4 i (j+1) [some (.ref n),some (.int sa),some (.int gb),some (.ref dd),some (.ref y),some (.ref fu),some (.int pn),some (.int o),none] (upd H6 fu (.lst (F5.map V.int++[.int o]))):=λst=>by
     refine ⟨_,C5++[(o,.int pn)],F5++[o],rfl,aA.cJ s6 hf0 _,by rw[ay ndf];exact ed6,by rw[ay nyf];exact ey6,by rw[ae,Dg];rfl,I5.add pY st ho,by rw[C1,C1,l5];rfl,λp' hp' o' st' =>?_,λo' h' st' =>?_,by rw[cA eo,fo5];unfold inn;rw[if_neg (λz=>z.elim ho λy=>y st.2)]⟩
     ·rw[Dg];exact Du _ (cl5 p' hp' o' st')
     ·rw[Dg]
      rcases gz eo h' with z | z
      ·exact Du _ (tk5 o' z st')
      ·rw[z];exact DA _ (by simp)
    have lf:F5.length<=400:=by lia
    refine bH ⟨_,rfl,_,rfl,rfl,_,rfl,iB (λz =>?_) λz=>⟨_,rfl,_,rfl,rfl,_,rfl,iB (λz2 =>?_) λz2 =>?_⟩⟩
    ·have h1:(pn:Int)≠sa:=by simpa using z
     exact bH ⟨_,rfl,_,rfl,_,rfl,dd,_,rfl,hd,_,rfl,.inl ⟨rfl,_,SqL.of ef6⟩,_,rfl,fu,_,_,rfl,rfl,ef6,by rw[CS];exact lL (by lia),fin ⟨ao,.inl h1⟩⟩
    ·have h1:o≠gb:=by simpa using z2
     exact ⟨_,rfl,_,rfl,_,rfl,dd,_,rfl,hd,_,rfl,.inl ⟨rfl,_,SqL.of ef6⟩,_,rfl,fu,_,_,rfl,rfl,ef6,by rw[CS];exact lL (by lia),fin ⟨ao,.inr h1⟩⟩
    ·have h1:(pn:Int)=sa:=by simpa using z
     have h2:o=gb:=by simpa using z2
     refine ⟨_,C5,F5,rfl,s5,ed5,ey5,ef5,I5,l5,cl5,λo' h' st =>?_,by rw[cA eo,fo5];unfold inn;rw[if_pos (.inr (λz=>z.elim (λy=>y h1) λy=>y h2))]⟩
     rcases gz eo h' with y' | y'
     ·exact tk5 o' y' st
     ·subst y'
      exact absurd st.2 (by simp[h1,h2])
   ·rintro σ H5 ⟨c7,C5,F5,rfl,s5,ed5,ey5,ef5,I5,l5,cl5,tk5,fo5⟩
    rw[CS,Dj (C0 _)] at tk5 fo5
    refine ⟨_,_,C5,F5,rfl,s5,ed5,ey5,ef5,I5,l5,λp' hp' o st =>?_,by rw[cA ep,fo4];unfold BH;rw[enb];exact fo5⟩
    rcases gz ep hp' with z | z
    ·exact cl5 p' z o st
    ·subst z
     exact tk5 o ((isu o).mpr st.1) st
  ·rintro σ H4 ⟨c6,c7,C4,F4,rfl,s4,ed4,ey4,ef4,I4,l4,cl4,fo4⟩
   rw[CS,Dj (C0 _)] at cl4 fo4
   have I5:=I4.next cl4
   have k4:=kl I4
   refine ⟨_,rfl,⟨_,_,_,fu,d+1,C4,F4,rfl,s4,ed4,ef4,I5,kk+1,by show (itW _ sa gb kk).2.foldl _ ((itW _ sa gb kk).1,[])=_;rw[ekk];exact fo4,λj hj =>?_⟩,?_⟩
   ·rcases FO j kk with c | c
    ·exact nst j c
    ·rw[show j=kk by lia,ekk]
     exact λz=>z.elim hY hg
   show 2*(m-jX H4 dd)+yl [some (.ref n),some (.int sa),some (.int gb),some (.ref dd),some (.ref fu),some (.ref fu),c6,c7,none] H4<_
   rw[j9 ed4,sS,Ay ef4]
   by_cases hF:F4=[]
   ·subst hF;rw[if_pos (show List.map V.int []=[] from rfl),l4];show 2*(m-(C.length+0))+0<_;lia
   ·rw[if_neg (by simpa using hF),l4]
    have:=GO.mpr hF
    lia
 ·rintro σ H Q Q' h ⟨v,e,k,t,q⟩
  refine ⟨v,e,k,t,?_⟩
  cases k with
  | false=>exact h _ _ q
  | true =>
   obtain ⟨v,e,v2,e2,a,o,e3,g,c,e4,q⟩:=q
   exact ⟨v,e,v2,e2,a,o,e3,g,c,e4,h _ _ q⟩
end
open PySem L2
def jY (ns:List (List Int))(a b:Int):Prop:=a≠b/\ns.count [a,b]<2/\∀k,¬ Wk (stp ns a b) a k b
def Al (ns:List (List Int))(a b:Int)(Z:List Int):Prop:=(a=b/\Z=[a])\/(a≠b/\2<=ns.count [a,b]/\Z=[a,b])\/(a≠b/\ns.count [a,b]<2/\∃N,Way ns a b N Z)
def AlD (nb:Int->List Int)(ns:List (List Int))(a b:Int)(Z:List Int):Prop:=(a=b/\Z=[a])\/(a≠b/\2<=ns.count [a,b]/\Z=[a,b])\/(a≠b/\ns.count [a,b]<2/\CK nb a b Z)
theorem iU {H:Hp}{r:Addr}{m:Nat}{ts:List (Addr×List Int)}(W:Wb H r m ts):Ok m (ts.map (·.2)):=λp hp=>by
 obtain ⟨u,hu,rfl⟩:=DH.mp hp
 exact W.pr u hu
theorem Al.ring {m:Nat}{ns:List (List Int)}(O:Ok m ns){a b:Int}(hp:[a,b]∈ns){Z:List Int}(h:Al ns a b Z):Ring m ns Z:=by
 obtain ⟨_,_,e,a0,ab,bm⟩:=O _ hp
 cases e
 rcases h with ⟨rfl,rfl⟩ | ⟨ne,c2,rfl⟩ | ⟨ne,c2,N,w⟩
 ·refine ⟨by simp,by simp,λv hv =>?_,?_,λx y e=>by simp at e⟩
  ·rw[C2] at hv;subst hv;exact ⟨a0,bm⟩
  ·show nrm a a∈ns/\True
   rw[ba ab];exact ⟨hp,trivial⟩
 ·refine ⟨by simp,by simp[ne],λv hv =>?_,?_,λx y e =>?_⟩
  ·rcases Dm.mp hv with z | z
   ·subst z;exact ⟨a0,by lia⟩
   ·rw[C2] at z;subst z;exact ⟨by lia,bm⟩
  ·show nrm a b∈ns/\nrm b a∈ns/\True
   rw[bL b a,ba ab];exact ⟨hp,hp,trivial⟩
  ·cases e;rw[ba ab];exact c2
 ·exact w.ring O ne ⟨a0,by lia⟩ (by unfold Td;rw[ba ab];exact hp)
theorem Al.has {ns:List (List Int)}{a b:Int}{Z:List Int}(h:Al ns a b Z):a∈Z/\b∈Z:=by
 rcases h with ⟨rfl,rfl⟩ | ⟨ne,c2,rfl⟩ | ⟨ne,c2,N,w⟩
 ·simp
 ·simp
 ·exact ⟨C7 w.last,C7 w.1.hd⟩
abbrev qM:Sp:=λvs H Q _=>∃(r n t:Addr) (m:Nat) (ts os:List (Addr×List Int)) (a b:Int),vs=[.ref r,.ref n,.ref t]/\Wb H r m ts/\fZ H n m (ts.map (·.2)) os/\m<=400/\H t=some (.tup [.int a,.int b])/\[a,b]∈ts.map (·.2)/\(∀H',aA H H'->jY (ts.map (·.2)) a b->Q .non H')/\∀(z:Addr) (H':Hp) (Z:List Int),aA H H'->H' z=some (.tup (Z.map V.int))->Al (ts.map (·.2)) a b Z->AlD (gc (os.map (·.2))) (ts.map (·.2)) a b Z->Q (.ref z) H'
@[irreducible] def kg:Sp:=qM
theorem gf {vs:List V}{H:Hp}{Q:VK}{E:XK}:kg vs H Q E↔qM vs H Q E:=by
 delta kg
 exact E8
section
variable  {P:Dp}{w:DW}{K:CZ}{mg:Str->Option CU}{base:Heap}{f T:Addr}{fd:Eo}
theorem qN:aF ["web", "near", "tie"] ["web", "near", "tie"] (az gP):=⟨rfl,rfl,rfl,by decide +kernel,rfl,by decide +kernel,by decide +kernel⟩
theorem qO (F:Fun K "ring_along" "ring_along" gP f fd)(B:Blt mg)(cWayAbout:Cal P w K mg base 1 "way_about" ["near", "start", "goal"] uH)(cTiedTimes:Cal P w K mg base 2 "tied_times" ["web", "one", "other"] iT):bF P w K mg base CX0 3 f fd ["web", "near", "tie"] kg:=by
 refine F.ok qN (λvs H Q E h =>?_) (λcdv A outer s H vs Q E hr h =>?_)
 ·obtain ⟨_,_,_,_,_,_,_,_,rfl,_⟩:=gf.mp h
  rfl
 obtain ⟨r,n,t,m,ts,os,a,b,rfl,W,N,m4,et,hp,q0,q1⟩:=gf.mp h
 refine ⟨_,(@ah _ _ _ _ _ (@bJ _ _ _ _ _ _ _ _ (aJ dE (@aL _ _ _ _ _ _ _ aN (pv 2) ai (λ_ _=>rfl)) (@aL _ _ _ _ _ _ _ aN (pv 2) ai (λ_ _=>rfl)) (aM _)) (@ak _ _ _ (@aH _ _ _ _ (@ck _ _ _ _ _ (@aa _ _ _ _ _ (@aL _ _ _ _ _ _ _ aN (pv 2) ai (λ_ _=>rfl)) ag rfl)))) aP)
  (@ah _ _ _ _ _ (@bJ _ _ _ _ _ _ _ _ (aJ wO (aD cTiedTimes hr (by decide) rfl (@aa _ _ _ _ _ (pv 0) (@aa _ _ _ _ _ (@aL _ _ _ _ _ _ _ aN (pv 2) ai (λ_ _=>rfl)) (@aa _ _ _ _ _ (@aL _ _ _ _ _ _ _ aN (pv 2) ai (λ_ _=>rfl)) ag rfl) rfl) rfl)) ai (aM _)) (@ak _ _ _ (@aH _ _ _ _ (pv 2))) aP)
  (@ak _ _ _ (@aH _ _ _ _ (aD cWayAbout hr (by decide) rfl (@aa _ _ _ _ _ (pv 1) (@aa _ _ _ _ _ (@aL _ _ _ _ _ _ _ aN (pv 2) ai (λ_ _=>rfl)) (@aa _ _ _ _ _ (@aL _ _ _ _ _ _ _ aN (pv 2) ai (λ_ _=>rfl)) ag rfl) rfl) rfl)))))),?_⟩
 have O:=iU W
 obtain ⟨_,_,e,a0,ab,bm⟩:=O _ hp
 cases e
 refine ⟨_,rfl,t,_,0,_,rfl,rfl,SqT.of et,rfl,_,rfl,t,_,1,_,rfl,rfl,SqT.of et,rfl,rfl,_,rfl,iB (λz =>?_) λz =>?_⟩
 ·have eq:a=b:=by simpa using z
  exact ⟨_,rfl,t,_,0,_,rfl,rfl,SqT.of et,rfl,(by show 1<=Dl;decide),λz hz=>q1 z _ [a] (af hz _) ae (.inl ⟨eq,rfl⟩) (.inl ⟨eq,rfl⟩)⟩
 have ne:a≠b:=by simpa using z
 refine ⟨_,rfl,_,rfl,t,_,0,_,rfl,rfl,SqT.of et,rfl,_,rfl,t,_,1,_,rfl,rfl,SqT.of et,rfl,cU.mpr ⟨r,m,a,b,ts,rfl,W,λH1 s1 =>?_⟩⟩
 rw[ba ab]
 refine ⟨_,_,rfl,rfl,_,rfl,iB (λz =>?_) λz =>?_⟩
 ·have c2:2<=(ts.map (·.2)).count [a,b]:=by have z':=of_decide_eq_true z;lia
  exact ⟨_,rfl,q1 t H1 [a,b] s1 (s1 _ _ et) (.inr (.inl ⟨ne,c2,rfl⟩)) (.inr (.inl ⟨ne,c2,rfl⟩))⟩
 have c2:(ts.map (·.2)).count [a,b]<2:=by have z':=of_decide_eq_false (eq_false_of_ne_true z);lia
 refine ⟨_,rfl,_,rfl,t,_,0,_,rfl,rfl,SqT.of (s1 _ _ et),rfl,_,rfl,t,_,1,_,rfl,rfl,SqT.of (s1 _ _ et),rfl,jw.mpr ⟨n,m,_,os,a,b,rfl,N.same s1,O,m4,⟨a0,by lia⟩,ne,λH2 s2 no=>q0 H2 (s1.trans s2) ⟨ne,c2,no⟩,λz H2 NN Z s2 ez w wd=>q1 z H2 Z (s1.trans s2) ez (.inr (.inr ⟨ne,c2,NN,w⟩)) (.inr (.inr ⟨ne,c2,wd⟩))⟩⟩
end
def enc:Option (Addr×List Int)->V
 | none =>.non
 | some u =>.ref u.1
def keep (ws:List (Option (Addr×List Int))):List (Addr×List Int):=ws.filterMap id
def CL (l:List (List Int))(Z:List Int):Prop:=∃i:Nat,l[i]? = some Z/\(∀u∈l,Z.length<=u.length)/\∀(j:Nat) u,j<i->l[j]? = some u->Z.length<u.length
theorem iV {ws:List (Option (Addr×List Int))}{u:Addr×List Int}:u∈keep ws↔some u∈ws:=by
 unfold keep
 rw[HF]
 exact ⟨λ⟨a,h,e⟩=>by rw[<- show a=some u from e];exact h,λh=>⟨some u,h,rfl⟩⟩
abbrev qP:Sp:=λvs H Q _=>∃(l:Addr) (ws:List (Option (Addr×List Int))),vs=[.ref l]/\H l=some (.lst (ws.map enc))/\(∀u,some u∈ws->H u.1=some (.tup (u.2.map V.int)))/\ws.length<=1000/\(∀H',aA H H'->(∀x∈ws,x=none)->Q .non H')/\∀(u:Addr×List Int) (H':Hp),aA H H'->some u∈ws->(∀v,some v∈ws->u.2.length<=v.2.length)->CL ((keep ws).map (·.2)) u.2->Q (.ref u.1) H'
@[irreducible] def kh:Sp:=qP
theorem gg {vs:List V}{H:Hp}{Q:VK}{E:XK}:kh vs H Q E↔qP vs H Q E:=by
 delta kh
 exact E8
section
variable  {P:Dp}{w:DW}{K:CZ}{mg:Str->Option CU}{base:Heap}{f T:Addr}{fd:Eo}
theorem oS:aF ["ways"] ["ways"] (az fS):=⟨rfl,rfl,rfl,by decide +kernel,rfl,by decide +kernel,by decide +kernel⟩
theorem jz:(["way"]:List Str).Nodup:=by decide +kernel
theorem oT (F:Fun K "shortest_of" "shortest_of" fS f fd)(B:Blt mg):bF P w K mg base CX0 1 f fd ["ways"] kh:=by
 refine F.ok oS (λvs H Q E h =>?_) (λcdv A outer s H vs Q E hr h =>?_)
 ·obtain ⟨_,_,rfl,_⟩:=gg.mp h
  rfl
 obtain ⟨l,ws,rfl,el,tu,l9,q0,q1⟩:=gg.mp h
 refine ⟨_,(@ak _ _ _ (@aH _ _ _ _ (sO rfl rfl B.b_min rfl B.b_len lB (bj ["way"] [none] rfl (@bI _ _ _ _ (pv 0)) rfl (λ_ _ _ _ _=>(au (i:=0) jz rfl (Or.inl rfl))) (λ_ _ _ _ _=>(d9 (aJ tI (pv 0) i8 (aM _)))) (λ_ _ _ _ _=>(pv 0)))))),?_⟩
 refine ⟨_,rfl,l,rfl,⟨_,SqL.of el⟩,bT (xs:=ws.map enc) (λi ys H'=>H'=H/\ys=(keep (ws.take i)).map λu =>.ref u.1) ⟨rfl,rfl⟩ (by rw[CS];exact small l9) (λi ys H' _ z=>by rw[z.1];exact SqL.of el) ?_ ?_⟩
 ·rintro i x ys H3 hx hy ⟨eH,rfl⟩ R1 R0 r1 r0
  rw[C8] at hx
  cases z:ws[i]? with
  | none=>rw[z] at hx;cases hx
  | some o =>
   rw[z] at hx
   have hx:enc o=x:=DB hx
   subst hx
   cases o with
   | none =>
    refine ⟨_,rfl,rfl,_,rfl,bM (r0 _ ⟨eH,?_⟩)⟩
    unfold keep
    rw[DY,z,J5]
    show _=((ws.take i).filterMap id++[]).map _
    rw[DU]
   | some u =>
    refine ⟨_,rfl,rfl,_,rfl,bH ⟨_,rfl,r1 _ _ ⟨eH,?_⟩⟩⟩
    unfold keep
    rw[DY,z,J5,Dg];rfl
 ·rintro ys H3 hy ⟨eH,rfl⟩ l2 hl2
  rw[eH] at hl2 ⊢
  rw[CS,Dj (C0 _)]
  have g2:=af hl2 (.lst ((keep ws).map λu =>.ref u.1))
  refine ⟨l2,keep ws,rfl,SqL.of ae,λt ht=>SqT.of (g2 _ _ (tu t (iV.mp ht))),λz=>q0 _ g2 λx hx =>?_,λi t et mn fi=>q1 t _ g2 (iV.mp (C7 et)) (λv hv=>mn v (iV.mpr hv)) ⟨i,by rw[C8,et];rfl,λu hu =>?_,λj u hj eu =>?_⟩⟩
  rotate_left
  ·obtain ⟨v,hv,rfl⟩:=DH.mp hu
   exact mn v hv
  ·rw[C8] at eu
   obtain ⟨v,ev,rfl⟩:=EW.mp eu
   exact fi j v hj ev
  cases x with
  | none=>rfl
  | some u =>
   have:=iV.mpr hx
   rw[z] at this;cases this
end
open PySem L2
def BI (ns:List (List Int))(p:List Int)(o:Option (Addr×List Int)):Prop:=∀a b:Int,p=[a,b]->(o=none/\jY ns a b)\/∃u,o=some u/\Al ns a b u.2
def yr (nb:Int->List Int)(ns:List (List Int))(p:List Int)(o:Option (List Int)):Prop:=∀a b:Int,p=[a,b]->(o=none/\jY ns a b)\/∃Z,o=some Z/\Al ns a b Z/\AlD nb ns a b Z
def uI (m:Nat)(ns rows:List (List Int)):Prop:=rows.length=m/\∀(j:Nat) r,rows[j]? = some r->r.Pairwise (· < ·)/\∀x,x∈r↔x∈nbs ns (j:Int)
def OutD (ns out:List (List Int)):Prop:=out.Nodup/\(∀t,t∈out↔t∈ns)/\out.Pairwise λa b=>HT.lexLt b a=false
def oU (m:Nat)(ns all:List (List Int))(F:List Int):Prop:=∃(rows out:List (List Int)) (ws:List (Option (List Int))) (Z:List Int) (M:Int),uI m ns rows/\OutD all out/\ws.length=out.length/\(∀(k:Nat) t o,out[k]? = some t->ws[k]? = some o->yr (gc rows) ns t o)/\CL (ws.filterMap id) Z/\M∈Z/\(∀b∈Z,M<=b)/\F=frm Z M
abbrev yt:Sp:=λvs H Q _=>∃(r t:Addr) (m:Nat) (ts us:List (Addr×List Int)),vs=[.ref r,.ref t]/\Wb H r m ts/\m<=400/\(H t=some (.lst (us.map λu =>.ref u.1))\/H t=some (.tup (us.map λu =>.ref u.1)))/\(∀u∈us,u∈ts)/\us.length<=200/\(∀H',aA H H'->(∀u∈us,∀a b,u.2=[a,b]->jY (ts.map (·.2)) a b)->Q .non H')/\∀(z:Addr) (H':Hp) (Z:List Int) (M:Int),aA H H'->H' z=some (.tup ((frm Z M).map V.int))->M∈Z->(∀b∈Z,M<=b)->(∃u∈us,∃a b,u.2=[a,b]/\Al (ts.map (·.2)) a b Z)->(∀u∈us,∀a b,u.2=[a,b]->jY (ts.map (·.2)) a b\/∃Z',Al (ts.map (·.2)) a b Z'/\Z.length<=Z'.length)->oU m (ts.map (·.2)) (us.map (·.2)) (frm Z M)->Q (.ref z) H'
@[irreducible] def qQ:Sp:=yt
theorem gA {vs:List V}{H:Hp}{Q:VK}{E:XK}:qQ vs H Q E↔yt vs H Q E:=by
 delta qQ
 exact E8
section
variable  {P:Dp}{w:DW}{K:CZ}{mg:Str->Option CU}{base:Heap}{f T:Addr}{fd:Eo}
theorem fv:aF ["web", "ties", "near", "least"] ["web", "ties"] (az fT):=⟨rfl,rfl,rfl,by decide +kernel,rfl,by decide +kernel,by decide +kernel⟩
theorem dU:(["tie", "web", "near"]:List Str).Nodup:=by decide +kernel
theorem oV (F:Fun K "least_along" "least_along" fT f fd)(B:Blt mg)(cNearLists:Cal P w K mg base 1 "near_lists" ["web"] gx)(cShortestOf:Cal P w K mg base 1 "shortest_of" ["ways"] kh)(cRingForm:Cal P w K mg base 1 "ring_form" ["ring"] oR)(cRingAlong:Cal P w K mg base 3 "ring_along" ["web", "near", "tie"] kg):bF P w K mg base CX0 4 f fd ["web", "ties"] qQ:=by
 refine F.ok fv (λvs H Q E h =>?_) (λcdv A outer s H vs Q E hr h =>?_)
 ·obtain ⟨_,_,_,_,_,rfl,_⟩:=gA.mp h
  rfl
 obtain ⟨r,t,m,ts,us,rfl,W,m4,ht,hin,l2,q0,q1⟩:=gA.mp h
 refine ⟨_,(@ah _ _ _ _ _ (@aK _ _ 2 _ _ _ _ fv.nd rfl (Or.inr rfl) (aD cNearLists hr (by decide) rfl (@aa _ _ _ _ _ (pv 0) ag rfl)) rfl (by first | exact .inl rfl | exact .inr rfl | assumption))
  (@ah _ _ _ _ _ (@aK _ _ 3 _ _ _ _ fv.nd rfl (Or.inl rfl) (aD cShortestOf hr (by decide) rfl (@aa _ _ _ _ _ (bj ["tie", "web", "near"] [none,some 0,some 2] rfl (@bI _ _ _ _ (aB (fN (w:=w) rfl hr.hd) rfl B.b_sorted eR (@aa _ _ _ _ _ (aS (kU (w:=w) rfl hr.hd hr.units) rfl B.b_set yc (@aa _ _ _ _ _ (pv 1) ag rfl)) ag rfl))) rfl (λ_ _ _ _ _=>(au (i:=0) dU rfl (Or.inl rfl))) (λ_ _ _ _ _=>cD) (λ_ _ _ _ _=>(aD cRingAlong hr (by decide) rfl (@aa _ _ _ _ _ (pv 1) (@aa _ _ _ _ _ (pv 2) (@aa _ _ _ _ _ (pv 0) ag rfl) rfl) rfl)))) ag rfl)) rfl (by first | exact .inl rfl | exact .inr rfl | assumption))
  (@ah _ _ _ _ _ (@bJ _ _ _ _ _ _ _ _ (aJ AW (pv 3) i8 (aM _)) (@ak _ _ _ (@aH _ _ _ _ i8)) aP)
  (@ak _ _ _ (@aH _ _ _ _ (aD cRingForm hr (by decide) rfl (@aa _ _ _ _ _ (pv 3) ag rfl))))))),?_⟩
 have O:=iU W
 refine ⟨_,rfl,cS.mpr ⟨r,m,ts,rfl,W,by lia,by lia,λn H1 os s1 en lo ro iso =>?_⟩⟩
 have RD:uI m (ts.map (·.2)) (os.map (·.2)):=⟨by rw[CS,lo];lia,λj r e=>by
  rw[C8] at e
  obtain ⟨u,eu,rfl⟩:=EW.mp e
  exact iso j u eu⟩
 have NA:fZ H1 n m (ts.map (·.2)) os:=⟨en,by rw[lo];lia,ro,λj u e=>(iso j u e).2⟩
 have tu1:∀u∈us,H1 u.1=some (.tup (u.2.map V.int)):=λu hu=>s1 _ _ (W.tup u (hin u hu))
 refine ⟨_,rfl,t,us,rfl,ht.elim (λz =>.inl (SqL.of (s1 _ _ z))) (λz =>.inr (SqT.of (s1 _ _ z))),λu hu=>SqT.of (tu1 u hu),by lia,λa ss hna mu ndu cov hlu =>?_⟩
 have ga:=af hna (eD w a (ss.map λt =>.ref t.1))
 refine ⟨a,ss,rfl,ae,λu hu=>⟨SqT.of (ga _ _ (tu1 u (mu u hu))),λz =>?_⟩,by lia,λl out hl pm ps =>?_⟩
 ·obtain ⟨x,y,e,_⟩:=W.pr u (hin u (mu u hu))
  rw[z] at e;cases e
 have gl:=ga.trans (af hl (.lst (out.map λt =>.ref t.1)))
 have el:upd (upd H1 a (eD w a (ss.map λt =>.ref t.1))) l (.lst (out.map λt =>.ref t.1)) l=some (.lst (out.map λt =>.ref t.1)):=ae
 generalize upd (upd H1 a (eD w a (ss.map λt =>.ref t.1))) l (.lst (out.map λt =>.ref t.1))=H2 at gl el
 have s2:=s1.trans gl
 have lo2:out.length<=200:=by rw[pm.length_eq];lia
 have oin:∀u∈out,u∈us:=λu hu=>mu u (pm.mem_iff.mp hu)
 let W0:Nat->List V->Hp->Prop:=λi ys H'=>aA H2 H'/\∃ws:List (Option (Addr×List Int)),ys=ws.map enc/\ws.length=i/\(∀u,some u∈ws->H' u.1=some (.tup (u.2.map V.int)))/\∀(k:Nat) u o,out[k]? = some u->ws[k]? = some o->BI (ts.map (·.2)) u.2 o/\yr (gc (os.map (·.2))) (ts.map (·.2)) u.2 (o.map (·.2))
 refine ⟨l,rfl,⟨_,SqL.of el⟩,bT (xs:=out.map λu =>.ref u.1) W0 ⟨aA.refl _,[],rfl,rfl,λu h=>by (cases h),λk u o _ e=>by simp at e⟩ (by rw[CS];exact small (by lia)) (λi ys H' _ z=>SqL.of (z.1 _ _ el)) ?_ ?_⟩
 ·rintro i x ys H3 hx hy ⟨s3,ws,rfl,lw,tw,tl⟩ R1 R0 r1 r0
  obtain ⟨u,eu,rfl⟩:=item hx
  have uin:=hin u (oin u (C7 eu))
  obtain ⟨x,y,exy,_⟩:=W.pr u uin
  have s23:=s2.trans s3
  have eu3:H3 u.1=some (.tup [.int x,.int y]):=by rw[s23 _ _ (W.tup u uin),exy];rfl
  have up:∀(o:Option (Addr×List Int)) (H4:Hp),aA H3 H4->(∀v,o=some v->H4 v.1=some (.tup (v.2.map V.int)))->BI (ts.map (·.2)) u.2 o/\yr (gc (os.map (·.2))) (ts.map (·.2)) u.2 (o.map (·.2))->R1 (enc o) H4:=λo H4 s4 ho hT=>by
   refine r1 _ _ ⟨s3.trans s4,ws++[o],by rw[Dg];rfl,by rw[C1,lw];rfl,λv hv =>?_,λk v p e1 e2 =>?_⟩
   ·rcases Dd.mp hv with z | z
    ·exact s4 _ _ (tw v z)
    ·rw[C2] at z;exact ho v z.symm
   ·rcases FO k i with c | c
    ·rw[DC (by lia)] at e2;exact tl k v p e1 e2
    ·rw[DI (by lia)] at e2
     have:k-ws.length=0:=by
      rcases Gm (k-ws.length) with z | z
      ·exact z
      ·rw[Eu (by simp;lia)] at e2;cases e2
     rw[this] at e2;cases e2
     rw[show k=i by lia,eu] at e1;cases e1
     exact hT
  refine bH ⟨_,rfl,_,rfl,_,rfl,gf.mpr ⟨r,n,u.1,m,ts,os,x,y,rfl,W.same s23,NA.same (gl.trans s3),m4,eu3,by rw[<- exy];exact EN (f:=(·.2)) uin,λH4 s4 no=>up none H4 s4 (λv e=>by cases e) ⟨λa b e =>?_,λa b e =>?_⟩,λz H4 Z s4 ez al ald=>up (some (z,Z)) H4 s4 (λv e=>by cases e;exact ez) ⟨λa b e =>?_,λa b e =>?_⟩⟩⟩
  ·rw[exy] at e;cases e;exact .inl ⟨rfl,no⟩
  ·rw[exy] at e;cases e;exact .inl ⟨rfl,no⟩
  ·rw[exy] at e;cases e;exact .inr ⟨_,rfl,al⟩
  ·rw[exy] at e;cases e;exact .inr ⟨_,rfl,al,ald⟩
 ·rintro ys H3 hy ⟨s3,ws,rfl,lw,tw,tl⟩ l3 hl3
  rw[CS] at lw
  have g4:=af hl3 (.lst (ws.map enc))
  have el4:upd H3 l3 (.lst (ws.map enc)) l3=some (.lst (ws.map enc)):=ae
  generalize upd H3 l3 (.lst (ws.map enc))=H4 at g4 el4
  have s4:=s2.trans (s3.trans g4)
  have tell:∀u∈us,∃o∈ws,BI (ts.map (·.2)) u.2 o:=λu hu=>by
   obtain ⟨v,hv,ev⟩:=DH.mp (cov u hu)
   obtain ⟨k,ek⟩:=DL.mp (pm.mem_iff.mpr hv)
   have kl:=(C9.mp ek).1
   have ew:ws[k]? = some (ws[k]'(by lia)):=CV (by lia)
   exact ⟨_,C7 ew,ev ▸ (tl k v _ ek ew).1⟩
  refine gg.mpr ⟨l3,ws,rfl,el4,λu hu=>g4 _ _ (tw u hu),by lia,λH5 s5 no =>?_,λu H5 s5 hu mn fm =>?_⟩
  ·refine ⟨_,rfl,rfl,_,rfl,bH (q0 H5 (s4.trans s5) λu hu a b e =>?_)⟩
   obtain ⟨o,ho,hT⟩:=tell u hu
   rw[no o ho] at hT
   rcases hT a b e with ⟨_,z⟩ | ⟨v,e2,_⟩
   ·exact z
   ·cases e2
  ·refine ⟨_,rfl,rfl,_,rfl,bM ?_⟩
   obtain ⟨k,ek⟩:=DL.mp hu
   have kl:=(C9.mp ek).1
   have ev:out[k]? = some (out[k]'(by lia)):=CV (by lia)
   have vin:=oin _ (C7 ev)
   obtain ⟨x,y,exy,_⟩:=W.pr _ (hin _ vin)
   rcases (tl k _ _ ev ek).1 x y exy with ⟨e,_⟩ | ⟨v,e,al⟩
   ·cases e
   cases e
   have rg:=al.ring O (by rw[<- exy];exact EN (f:=(·.2)) (hin _ vin))
   refine ⟨_,rfl,ia.mpr ⟨u.1,u.2,rfl,s5 _ _ (g4 _ _ (tw u hu)),rg.ne,?_,λz H6 M s6 hM mM ez=>q1 z H6 u.2 M (s4.trans (s5.trans s6)) ez hM mM ⟨_,vin,x,y,exy,al⟩ (λv hv a b e =>?_) ?_⟩⟩
   ·have:=bE rg.nd rg.rng;lia
   ·obtain ⟨o,ho,hT⟩:=tell v hv
    rcases hT a b e with ⟨_,z⟩ | ⟨p,e2,al'⟩
    ·exact .inl z
    ·subst e2;exact .inr ⟨p.2,al',mn p ho⟩
   ·refine ⟨os.map (·.2),out.map (·.2),ws.map (Option.map (·.2)),u.2,M,RD,⟨?_,λt =>?_,?_⟩,by rw[CS,CS,lw],λk t o e1 e2 =>?_,?_,hM,mM,rfl⟩
    ·exact (pm.map _).nodup_iff.mpr ndu
    ·rw[(pm.map (·.2)).mem_iff]
     refine ⟨λh =>?_,λh =>?_⟩
     ·obtain ⟨v,hv,rfl⟩:=DH.mp h
      exact EN (f:=(·.2)) (mu v hv)
     ·obtain ⟨v,hv,rfl⟩:=DH.mp h
      exact cov v hv
    ·exact Ep.mpr ps
    ·rw[C8] at e1 e2
     obtain ⟨v,ev',rfl⟩:=EW.mp e1
     obtain ⟨w',ew',rfl⟩:=EW.mp e2
     exact (tl k v w' ev' ew').2
    ·rw[show (ws.map (Option.map (·.2))).filterMap id=(keep ws).map (·.2) by unfold keep;rw[KH,List.map_filterMap];rfl]
     exact fm
end
abbrev qR:Sp:=λvs H Q _=>∃(r:Addr) (m:Nat) (ts:List (Addr×List Int)),vs=[.ref r]/\Wb H r m ts/\m<=400/\(∀H',aA H H'->(∀a b,[a,b]∈ts.map (·.2)->jY (ts.map (·.2)) a b)->Q .non H')/\∀(z:Addr) (H':Hp) (Z:List Int) (M:Int),aA H H'->H' z=some (.tup ((frm Z M).map V.int))->M∈Z->(∀b∈Z,M<=b)->(∃a b,[a,b]∈ts.map (·.2)/\Al (ts.map (·.2)) a b Z)->(∀a b,[a,b]∈ts.map (·.2)->jY (ts.map (·.2)) a b\/∃Z',Al (ts.map (·.2)) a b Z'/\Z.length<=Z'.length)->oU m (ts.map (·.2)) (ts.map (·.2)) (frm Z M)->Q (.ref z) H'
@[irreducible] def ki:Sp:=qR
theorem gh {vs:List V}{H:Hp}{Q:VK}{E:XK}:ki vs H Q E↔qR vs H Q E:=by
 delta ki
 exact E8
section
variable  {P:Dp}{w:DW}{K:CZ}{mg:Str->Option CU}{base:Heap}{f T:Addr}{fd:Eo}
theorem qS:aF ["web"] ["web"] (az gQ):=⟨rfl,rfl,rfl,by decide +kernel,rfl,by decide +kernel,by decide +kernel⟩
theorem qT (F:Fun K "least_ring" "least_ring" gQ f fd)(B:Blt mg)(cLeastAlong:Cal P w K mg base 4 "least_along" ["web", "ties"] qQ):bF P w K mg base CX0 5 f fd ["web"] ki:=by
 refine F.ok qS (λvs H Q E h =>?_) (λcdv A outer s H vs Q E hr h =>?_)
 ·obtain ⟨_,_,_,rfl,_⟩:=gh.mp h
  rfl
 obtain ⟨r,m,ts,rfl,W,m4,q0,q1⟩:=gh.mp h
 refine ⟨_,(@ak _ _ _ (@aH _ _ _ _ (aD cLeastAlong hr (by decide) rfl (@aa _ _ _ _ _ (pv 0) (@aa _ _ _ _ _ (@aL _ _ _ _ _ _ _ aN (pv 0) ai (λ_ _=>rfl)) ag rfl) rfl)))),?_⟩
 obtain ⟨t,e1,e2⟩:=W.at'
 refine ⟨_,rfl,_,rfl,r,_,1,_,rfl,rfl,SqT.of e1,rfl,gA.mpr ⟨r,t,m,ts,ts,rfl,W,m4,.inr e2,λu hu=>hu,W.len,λH' s no=>q0 H' s λa b h =>?_,λz H' Z M s ez hM mM hx hn ld=>q1 z H' Z M s ez hM mM ?_ (λa b h =>?_) ld⟩⟩
 ·obtain ⟨u,hu,e⟩:=DH.mp h
  exact no u hu a b e
 ·obtain ⟨u,hu,a,b,e,al⟩:=hx
  exact ⟨a,b,by rw[<- e];exact EN (f:=(·.2)) hu,al⟩
 ·obtain ⟨u,hu,e⟩:=DH.mp h
  exact hn u hu a b e
end
abbrev nJ:Sp:=λvs H Q _=>∃(r:Addr) (m:Nat) (p:Int) (ts:List (Addr×List Int)),vs=[.ref r,.int p]/\Wb H r m ts/\m<=400/\(∀H',aA H H'->(∀a b,[a,b]∈ts.map (·.2)->p=a\/p=b->jY (ts.map (·.2)) a b)->Q .non H')/\∀(z:Addr) (H':Hp) (Z:List Int) (M:Int),aA H H'->H' z=some (.tup ((frm Z M).map V.int))->M∈Z->(∀b∈Z,M<=b)->(∃a b,[a,b]∈ts.map (·.2)/\(p=a\/p=b)/\Al (ts.map (·.2)) a b Z)->Q (.ref z) H'
@[irreducible] def iW:Sp:=nJ
theorem fz {vs:List V}{H:Hp}{Q:VK}{E:XK}:iW vs H Q E↔nJ vs H Q E:=by
 delta iW
 exact E8
section
variable  {P:Dp}{w:DW}{K:CZ}{mg:Str->Option CU}{base:Heap}{f T:Addr}{fd:Eo}
theorem yu:aF ["web", "place"] ["web", "place"] (az oF):=⟨rfl,rfl,rfl,by decide +kernel,rfl,by decide +kernel,by decide +kernel⟩
theorem ic:(["tie", "place"]:List Str).Nodup:=by decide +kernel
theorem yv (F:Fun K "ring_at" "ring_at" oF f fd)(B:Blt mg)(cLeastAlong:Cal P w K mg base 4 "least_along" ["web", "ties"] qQ):bF P w K mg base CX0 5 f fd ["web", "place"] iW:=by
 refine F.ok yu (λvs H Q E h =>?_) (λcdv A outer s H vs Q E hr h =>?_)
 ·obtain ⟨_,_,_,_,rfl,_⟩:=fz.mp h
  rfl
 obtain ⟨r,m,p,ts,rfl,W,m4,q0,q1⟩:=fz.mp h
 refine ⟨_,(@ak _ _ _ (@aH _ _ _ _ (aD cLeastAlong hr (by decide) rfl (@aa _ _ _ _ _ (pv 0) (@aa _ _ _ _ _ (bj ["tie", "place"] [none,some 1] rfl (@eY _ _ _ _ (@aL _ _ _ _ _ _ _ aN (pv 0) ai (λ_ _=>rfl))) rfl (λ_ _ _ _ _=>(au (i:=0) ic rfl (Or.inl rfl))) (λ_ _ _ _ _=>(d9 (aJ (xh (K:=K)) (pv 1) (pv 0) rfl))) (λ_ _ _ _ _=>(pv 0))) ag rfl) rfl)))),?_⟩
 obtain ⟨t,e1,e2⟩:=W.at'
 refine ⟨_,rfl,_,rfl,r,_,1,_,rfl,rfl,SqT.of e1,rfl,t,rfl,⟨_,SqT.of e2⟩,cu (xs:=ts.map λu =>.ref u.1) (λi ys H'=>H'=H/\ys=((ts.take i).filter λu=>decide (p∈u.2)).map λu =>.ref u.1) ⟨rfl,rfl⟩ (by rw[CS];exact small (by have:=W.len;lia)) (λi ys H' _ z=>by rw[z.1];exact SqT.of e2) ?_ ?_⟩
 ·rintro i x ys H3 hx hy ⟨eH,ey⟩ R1 R0 r1 r0
  obtain ⟨u,eu,rfl⟩:=item hx
  have hu:=W.tup u (C7 eu)
  rw[<- eH] at hu
  refine ⟨_,rfl,_,rfl,u.1,_,rfl,.inr (SqT.of hu),rfl,dz u.2,_,rfl,?_⟩
  show if (if false=true then _ else inV (.int p) (u.2.map V.int))=true then _ else _
  rw[if_neg Di,dO]
  by_cases c:p∈u.2
  ·rw[decide_eq_true c]
   exact bH ⟨_,rfl,r1 _ _ ⟨eH,by rw[cz eu,if_pos (decide_eq_true c),ey]⟩⟩
  ·rw[decide_eq_false c]
   exact bM (r0 _ ⟨eH,by rw[cz eu,if_neg (by rw[decide_eq_false c];exact Di),ey,DU]⟩)
 ·rintro ys H3 hy ⟨eH,ey⟩ l hl
  rw[eH] at hl ⊢
  rw[CS,Dj (C0 _)] at ey
  subst ey
  have g1:=af hl (.lst ((ts.filter λu=>decide (p∈u.2)).map λu=>V.ref u.1))
  refine gA.mpr ⟨r,l,m,ts,ts.filter λu=>decide (p∈u.2),rfl,W.same g1,m4,.inl ae,λu hu=>(D1.mp hu).1,DZ (Ic _ _) W.len,λH' s no=>q0 H' (g1.trans s) λa b h hp =>?_,λz H' Z M s ez hM mM hx hn _=>q1 z H' Z M (g1.trans s) ez hM mM ?_⟩
  ·obtain ⟨u,hu,e⟩:=DH.mp h
   exact no u (D1.mpr ⟨hu,decide_eq_true (by rw[e];rcases hp with z | z <;> simp[z])⟩) a b e
  ·obtain ⟨u,hu,a,b,e,al⟩:=hx
   obtain ⟨hu,hp⟩:=D1.mp hu
   refine ⟨a,b,by rw[<- e];exact EN (f:=(·.2)) hu,?_,al⟩
   have:=of_decide_eq_true hp
   rw[e] at this
   simpa using this
end
open PySem L2
structure yx (Z:List Int):Prop where
 ne:Z≠[]
 nd:Z.Nodup
 mn:∀b∈Z,Z.getD 0 0<=b
 lx:HT.lexLt (turn Z) Z=false
theorem jA (a:Int)(t:List Int):turn (a :: t)=a :: t.reverse:=rfl
theorem yy {Z:List Int}{k:Nat}{c:Int}(e:Z[k]? = some c):rot Z k=c :: (Z.drop (k+1)++Z.take k):=by
 obtain ⟨h,e⟩:=C9.mp e
 unfold rot
 rw[IW h,e];rfl
theorem yz {Z:List Int}{M:Int}(h:M∈Z):Z[Z.idxOf M]? = some M:=by
 rw[CV (HB.mpr h),KR]
theorem jB {Z:List Int}{M:Int}(h:M∈Z):∃t,rot Z (Z.idxOf M)=M :: t/\((frm Z M=M :: t/\HT.lexLt (M :: t.reverse) (M :: t)=false)\/(frm Z M=M :: t.reverse/\HT.lexLt (M :: t.reverse) (M :: t)=true)):=by
 refine ⟨_,yy (yz h),?_⟩
 unfold frm
 rw[yy (yz h),jA]
 generalize Z.drop (Z.idxOf M+1)++Z.take (Z.idxOf M)=t
 unfold jv
 cases c:HT.lexLt (M :: t.reverse) (M :: t) with
 | true=>exact .inr ⟨if_pos rfl,rfl⟩
 | false=>exact .inl ⟨if_neg Di,rfl⟩
theorem qU (Z:List Int)(k:Nat):(rot Z k).Perm Z:=by
 unfold rot
 exact FN.trans (by rw[E1])
theorem qV {Z:List Int}{M:Int}(h:M∈Z):(frm Z M).Perm Z:=by
 obtain ⟨t,e,⟨z,_⟩ | ⟨z,_⟩⟩:=jB h
 ·rw[z, <- e];exact qU _ _
 ·rw[z];exact ((Lf t).cons M).trans (e ▸ qU Z _)
theorem yA {a b:List Int}(h:HT.lexLt a b=true):HT.lexLt b a=false:=by
 cases c:HT.lexLt b a with
 | false=>rfl
 | true=>have:=Srt.lex_trans _ _ _ h c;rw[Srt.lex_irrefl] at this;cases this
theorem qW {Z:List Int}{M:Int}(nd:Z.Nodup)(h:M∈Z)(mn:∀b∈Z,M<=b):yx (frm Z M):=by
 have pm:=qV h
 obtain ⟨t,e,⟨z,c⟩ | ⟨z,c⟩⟩:=jB h
 ·refine ⟨by rw[z];simp,pm.nodup_iff.mpr nd,λb hb =>?_,?_⟩
  ·rw[z] at hb ⊢;exact mn b (pm.mem_iff.mp (z ▸ hb))
  ·rw[z,jA];exact c
 ·refine ⟨by rw[z];simp,pm.nodup_iff.mpr nd,λb hb =>?_,?_⟩
  ·rw[z] at hb ⊢;exact mn b (pm.mem_iff.mp (z ▸ hb))
  ·rw[z,jA,Hl];exact yA c
theorem Ring.frm {m:Nat}{ns:List (List Int)}{Z:List Int}{M:Int}(h:Ring m ns Z)(hM:M∈Z):Ring m ns (frm Z M):=by
 have hr:Ring m ns (_root_.K18.rot Z (Z.idxOf M)):=by
  show Ring m ns (Z.drop (Z.idxOf M)++Z.take (Z.idxOf M))
  exact Ring.rot (by rw[E1];exact h)
 obtain ⟨t,e,⟨z,_⟩ | ⟨z,_⟩⟩:=jB hM
 ·rw[z, <- e];exact hr
 ·rw[e] at hr;rw[z];exact hr.turn
theorem Ring.next {m:Nat}{ns:List (List Int)}{Z:List Int}(h:Ring m ns Z){k:Nat}{y:Int}(e:Z[k]? = some y):∃x,atI (Z.map V.int) ((k:Int)-1)=some (.int x)/\Td ns x y:=by
 have hk:=(C9.mp e).1
 have c:=oQ h.ch
 cases k with
 | zero =>
  have t1:Z.take 1=[y]:=by
   cases Z with
   | nil=>cases e
   | cons a t=>cases e;rfl
  have el:Z[Z.length-1]? = some (Z[Z.length-1]'(by omega)):=CV (by omega)
  refine ⟨Z[Z.length-1]'(by omega),?_,c (Z.length-1) _ _ (by rw[DC (by omega)];exact el) (by rw[t1,DI (by omega),show Z.length-1+1-Z.length=0 by omega];rfl)⟩
  unfold atI ixN
  rw[CS]
  simp
  rw[if_pos (by omega)]
  simp only[Option.bind_some]
  rw[show (-1+(Z.length:Int)).toNat=Z.length-1 by omega,el];rfl
 | succ k =>
  have el:Z[k]? = some (Z[k]'(by omega)):=CV (by omega)
  refine ⟨Z[k]'(by omega),?_,c k _ _ (by rw[DC (by omega)];exact el) (by rw[DC (by omega)];exact e)⟩
  rw[show ((k+1:Nat):Int)-1=(k:Int) by omega]
  exact da (by rw[C8,el];rfl)
theorem Ring.mono {m:Nat}{ns ns':List (List Int)}{Z:List Int}(h:Ring m ns Z)(hc:∀t,ns.count t<=ns'.count t):Ring m ns' Z:=by
 refine ⟨h.ne,h.nd,h.rng,oP λi x y e1 e2 =>?_,λx y e=>DZ (h.two x y e) (hc _)⟩
 have:nrm x y∈ns:=oQ h.ch i x y e1 e2
 exact J6.mp (DZ (J6.mpr this) (hc _))
theorem sV (q:List Int->Bool)(ns:List (List Int))(t:List Int):(ns.filter q).count t<=ns.count t:=List.Sublist.count_le t IE
theorem Ring.tied {m:Nat}{ns:List (List Int)}{Z:List Int}(h:Ring m ns Z){v:Int}(hv:v∈Z):∃u,nrm u v∈ns:=by
 obtain ⟨k,e⟩:=DL.mp hv
 obtain ⟨x,_,t⟩:=h.next e
 exact ⟨x,t⟩
theorem sW {Z:List Int}{p:Int}{q:Int->Bool}(nd:Z.Nodup)(hp:p∈Z)(h:∀v∈Z,q v=true↔v=p):Z.filter q=[p]:=by
 induction Z with
 | nil=>cases hp
 | cons a t ih =>
  obtain ⟨na,nt⟩:=EC.mp nd
  by_cases c:a=p
  ·subst c
   rw[EO ((h a Dr).mpr rfl),HU.mpr]
   intro v hv z
   exact na ((h v (Ds _ hv)).mp z ▸ hv)
  ·rw[FY (λz=>c ((h a Dr).mp z))]
   exact ih nt ((Dm.mp hp).resolve_left (Ee c)) λv hv=>h v (Ds _ hv)
structure Grp (m:Nat)(ns:List (List Int))(G:List Int):Prop where
 len:G.length=m
 iff:∀u v:Int,0<=u/\u<m->0<=v/\v<m->(gt G u=gt G v↔Con ns u v)
theorem gt_rgI {m:Nat}{u:Int}(h:0<=u/\u<m):gt (rgI m) u=u:=by
 unfold gt rgI
 rw[Df,C8,Hv (by lia)]
 show ((u.toNat:Nat):Int)=u
 lia
theorem Con.mono {ns ns':List (List Int)}(h:∀t∈ns,t∈ns'){u v:Int}(c:Con ns u v):Con ns' u v:=by
 induction c with
 | refl=>exact .refl _
 | step _ a ih =>
  obtain ⟨p,hp,hx⟩:=bY.mp a
  exact .step ih (bY.mpr ⟨p,h p hp,hx⟩)
def mrg (G:List Int)(a b:Int):List Int:=G.map λx=>if x=gt G b then gt G a else x
theorem oW {m:Nat}{G:List Int}(h:G.length=m){a b u:Int}(hu:0<=u/\u<m):gt (mrg G a b) u=if gt G u=gt G b then gt G a else gt G u:=by
 have e:G[u.toNat]? = some (gt G u):=by
  unfold gt
  rw[CV (by lia),Df,CV (by lia)];rfl
 show (mrg G a b).getD u.toNat 0=_
 unfold mrg
 rw[Df,C8,e];rfl
theorem zX {m:Nat}{ns:List (List Int)}(O:Ok m ns){a b:Int}(a0:0<=a)(ab:a<=b)(bm:b<m):Ok m (ns++[[a,b]]):=λp hp=>by
 rcases Dd.mp hp with z | z
 ·exact O p z
 ·rw[C2] at z;exact ⟨a,b,z,a0,ab,bm⟩
theorem Grp.add {m:Nat}{ns:List (List Int)}(O:Ok m ns){G:List Int}(h:Grp m ns G){a b:Int}(a0:0<=a)(ab:a<=b)(bm:b<m):Grp m (ns++[[a,b]]) (mrg G a b):=by
 have O':=zX O a0 ab bm
 have up:∀{u v:Int},Con ns u v->Con (ns++[[a,b]]) u v:=λc=>c.mono λt ht=>Du _ ht
 have ha:0<=a/\a<m:=⟨a0,by lia⟩
 have hb:0<=b/\b<m:=⟨by lia,bm⟩
 have tie:Con (ns++[[a,b]]) a b:=by
  by_cases c:a=b
  ·subst c;exact .refl _
  ·exact .one ((bO O').mpr ⟨a,b,DA _ (by simp),c,.inl ⟨rfl,rfl⟩⟩)
 refine ⟨by unfold mrg;rw[CS];exact h.len,λu v hu hv=>⟨λe =>?_,λc =>?_⟩⟩
 ·rw[oW h.len hu,oW h.len hv] at e
  by_cases c1:gt G u=gt G b
  ·have u1:=up ((h.iff u b hu hb).mp c1)
   rw[if_pos c1] at e
   by_cases c2:gt G v=gt G b
   ·exact u1.trans ((up ((h.iff v b hv hb).mp c2)).symm O')
   ·rw[if_neg c2] at e
    exact (u1.trans (tie.symm O')).trans (up ((h.iff a v ha hv).mp e))
  ·rw[if_neg c1] at e
   by_cases c2:gt G v=gt G b
   ·rw[if_pos c2] at e
    exact ((up ((h.iff u a hu ha).mp e)).trans tie).trans ((up ((h.iff v b hv hb).mp c2)).symm O')
   ·rw[if_neg c2] at e
    exact up ((h.iff u v hu hv).mp e)
 ·clear hv
  induction c with
  | refl=>rfl
  | step c1 aj ih =>
   rename_i x y
   have rx:=j6 O' aj
   refine (ih).trans ?_
   obtain ⟨c,d,hp,ne,hx⟩:=(bO O').mp aj
   rw[oW h.len rx.1,oW h.len rx.2]
   rcases Dd.mp hp with z | z
   ·have:gt G x=gt G y:=(h.iff x y rx.1 rx.2).mpr (.one ((bO O).mpr ⟨c,d,z,ne,hx⟩))
    rw[this]
   ·rw[C2] at z
    cases z
    rcases hx with ⟨rfl,rfl⟩ | ⟨rfl,rfl⟩
    ·simp
    ·simp
def hasP (p:Int)(t:List Int):Bool:=decide (p=t.getD 0 0) || decide (p=t.getD 1 0)
def oth (p:Int)(t:List Int):Int:=t.getD 0 0+t.getD 1 0-p
def met (G:List Int)(p:Int)(ns:List (List Int)):List Int:=(ns.filter (hasP p)).map λt=>gt G (oth p t)
theorem uJ (p o:Int):oth p (nrm p o)=o:=by
 unfold oth nrm mnI mxI
 show (if o<p then o else p)+(if o>p then o else p)-p=o
 split <;> split <;> lia
theorem uK {p:Int}{ns:List (List Int)}{a b:Int}:[a,b]∈ns.filter (off [p])↔[a,b]∈ns/\a≠p/\b≠p:=by
 rw[D1]
 unfold off
 simp
theorem oX {m:Nat}{ns:List (List Int)}(O:Ok m ns)(ps:List Int):Ok m (ns.filter (off ps)):=λp hp=>O p (D1.mp hp).1
theorem zY {m:Nat}{ns:List (List Int)}(O:Ok m ns){p u v:Int}(h:Adj (ns.filter (off [p])) u v):Adj ns u v/\u≠p/\v≠p:=by
 obtain ⟨a,b,hp,ne,hx⟩:=(bO (oX O _)).mp h
 obtain ⟨h1,h2,h3⟩:=uK.mp hp
 refine ⟨(bO O).mpr ⟨a,b,h1,ne,hx⟩,?_⟩
 rcases hx with ⟨rfl,rfl⟩ | ⟨rfl,rfl⟩
 ·exact ⟨h2,h3⟩
 ·exact ⟨h3,h2⟩
theorem qX {m:Nat}{ns:List (List Int)}(O:Ok m ns){p u v:Int}(h:Adj ns u v)(hu:u≠p)(hv:v≠p):Adj (ns.filter (off [p])) u v:=by
 obtain ⟨a,b,hp,ne,hx⟩:=(bO O).mp h
 refine (bO (oX O _)).mpr ⟨a,b,uK.mpr ⟨hp,?_⟩,ne,hx⟩
 rcases hx with ⟨rfl,rfl⟩ | ⟨rfl,rfl⟩
 ·exact ⟨hu,hv⟩
 ·exact ⟨hv,hu⟩
theorem qY {m:Nat}{ns:List (List Int)}(O:Ok m ns){p s g u v:Int}(hp:s=p\/g=p)(c:Con (ns.filter (off [p])) u v){n:Nat}(w:Wk (stp ns s g) s n u):∃n',Wk (stp ns s g) s n' v:=by
 induction c with
 | refl=>exact ⟨n,w⟩
 | step _ a ih =>
  obtain ⟨n',w'⟩:=ih
  obtain ⟨a1,a2,a3⟩:=zY O a
  refine ⟨n'+1,.st w' ⟨a1,?_⟩⟩
  rcases hp with z | z
  ·exact .inl (z ▸ a2)
  ·exact .inr (z ▸ a3)
theorem d7 (p o:Int):p∈nrm p o:=by
 rcases Ie p o with c | c
 ·rw[ba c];simp
 ·rw[bL,ba c];simp
theorem fA {m:Nat}{ns:List (List Int)}(O:Ok m ns)(ps:List Int):Ok m (ns.filter (off ps)):=λp hp=>O p (D1.mp hp).1
def jC:List Int->Int->Nat
 | [],_=>0
 | x :: l,a=>if x=a then 0 else jC l a+1
theorem oY:∀{l:List Int} {a:Int},a∈l->l[jC l a]? = some a
 | [],_,h=>by cases h
 | x :: l,a,h=>by
  unfold jC
  by_cases e:x=a
  ·rw[if_pos e];subst e;rfl
  ·rw[if_neg e]
   have:a∈l:=(Dm.mp h).resolve_left λz=>e z.symm
   rw[Fs];exact oY this
def mi (ns:List Int)(p:List Int):Nat:=if jC ns (p.getD 1 0)<jC ns (p.getD 0 0) then jC ns (p.getD 1 0) else jC ns (p.getD 0 0)
def Good (ns:List Int)(m:Nat)(ps:List (List Int)):Prop:=ns.Perm (rgI m)/\(∀p∈ps,p.getD 0 0≠p.getD 1 0)/\∀i<m,(ps.map (mi ns)).count i<=1
theorem uL (a b:List (List Int))(k:Int):aI (a++b) k=aI a k+aI b k:=by unfold aI;rw[Dg,List.sum_append]
theorem cnt_cons (t:List Int)(b:List (List Int))(k:Int):aI (t :: b) k=(t.count k:Int)+aI b k:=by unfold aI;rw[DK,List.sum_cons]
theorem oZ (k:Int):∀b:List (List Int),0<=aI b k
 | []=>Kv _
 | t :: b=>by rw[cnt_cons];have:=oZ k b;lia
theorem gB {t:List Int}{k:Int}(hk:k∈t):∀{b:List (List Int)},t∈b->1<=aI b k
 | s :: b,h=>by
  rw[cnt_cons]
  rcases Dm.mp h with z | z
  ·subst z;have:=Fc.mpr hk;have:=oZ k b;lia
  ·have:=gB hk z;lia
theorem uM {t u:List Int}{k:Int}(ne:t≠u)(ht:k∈t)(hu:k∈u):∀{b:List (List Int)},t∈b->u∈b->2<=aI b k
 | s :: b,h1,h2=>by
  rw[cnt_cons]
  rcases Dm.mp h1 with z | z <;> rcases Dm.mp h2 with y | y
  ·exact absurd (z.trans y.symm) ne
  ·subst z;have:=Fc.mpr ht;have:=gB hu y;lia
  ·subst y;have:=Fc.mpr hu;have:=gB ht z;lia
  ·have:=uM ne ht hu z y;lia
theorem iX (a b v:Int):(([a,b]:List Int).count v:Int)=(if a=v then 1 else 0)+if b=v then 1 else 0:=by
 rw[G3,G3,List.count_nil]
 by_cases h1:a=v <;> by_cases h2:b=v <;> simp[h1,h2]
def bS (E:List (List Int)):Prop:=∀pre t post,E=pre++t :: post->∀a b:Int,t=[a,b]->¬ Con pre a b
theorem Con.up {E E':List (List Int)}(h:∀t∈E,t∈E'){u v:Int}(c:Con E u v):Con E' u v:=by
 induction c with
 | refl=>exact .refl _
 | step _ a ih =>
  obtain ⟨p,hp,hx⟩:=bY.mp a
  exact .step ih (bY.mpr ⟨p,h p hp,hx⟩)
theorem jS {E:List (List Int)}(w:bS E)(q:List Int->Bool):bS (E.filter q):=λpre t post e a b et c=>by
 obtain ⟨l1,l2,e1,e2,e3⟩:=List.filter_eq_append_iff.mp e
 obtain ⟨m1,m2,e4,_,_,_⟩:=List.filter_eq_cons_iff.mp e3
 refine w (l1++m1) t m2 (by rw[e1,e4,DN]) a b et (c.up λs hs =>?_)
 rw[<- e2] at hs
 exact Du _ (D1.mp hs).1
theorem nL {m:Nat}:∀(n:Nat) (E:List (List Int)),E.length=n->Ok m E->bS E->∀u x:Int,∃v,Con E u v/\aI E v<=1/\(v≠x\/aI E v=0)
 | 0,E,hn,_,_,u,x=>by
  have:=FX.mp hn
  subst this
  exact ⟨u,.refl _,(by show (0:Int)<=1;decide),.inr rfl⟩
 | n+1,E,hn,O,w,u,x=>by
  rcases Gj E with h | ⟨E',t,h⟩
  ·rw[h] at hn;cases hn
  rw[Gk] at h
  subst h
  obtain ⟨a,b,rfl,a0,ab,bm⟩:=O t (by simp)
  have nc:=w E' [a,b] [] rfl a b rfl
  have O':Ok m E':=λt ht=>O t (Du _ ht)
  have w':bS E':=λpre t post e a' b' et=>w pre t (post++[[a,b]]) (by rw[e];simp) a' b' et
  have ih:=nL n E' (by rw[C1] at hn;exact Mk hn) O' w'
  have up:∀{u v:Int},Con E' u v->Con (E'++[[a,b]]) u v:=λc=>c.up λs hs=>Du _ hs
  have ne:a≠b:=λe=>nc (e ▸ .refl _)
  have tie:Con (E'++[[a,b]]) a b :=.one ((bO O).mpr ⟨a,b,DA _ (by simp),ne,.inl ⟨rfl,rfl⟩⟩)
  have cnt:∀v,aI (E'++[[a,b]]) v=aI E' v+((if a=v then 1 else 0)+if b=v then 1 else 0):=λv=>by
   rw[uL,cnt_cons,iX]
   show _=_+(_+_)
   have:aI [] v=0:=rfl
   lia
  obtain ⟨v1,c1,k1,d1⟩:=ih a a
  obtain ⟨v2,c2,k2,d2⟩:=ih b b
  have n1:b≠v1:=λe=>nc (e ▸ c1)
  have n2:a≠v2:=λe=>nc ((e ▸ c2).symm O')
  have l1:aI (E'++[[a,b]]) v1<=1:=by
   rw[cnt,if_neg n1]
   by_cases z:a=v1
   ·rw[if_pos z];rcases d1 with y | y
    ·exact absurd z.symm y
    ·lia
   ·rw[if_neg z];lia
  have l2:aI (E'++[[a,b]]) v2<=1:=by
   rw[cnt,if_neg n2]
   by_cases z:b=v2
   ·rw[if_pos z];rcases d2 with y | y
    ·exact absurd z.symm y
    ·lia
   ·rw[if_neg z];lia
  have n12:v1≠v2:=λe=>nc (c1.trans (e ▸ c2.symm O'))
  have two:Con (E'++[[a,b]]) u a->∃v,Con (E'++[[a,b]]) u v/\aI (E'++[[a,b]]) v<=1/\(v≠x\/aI (E'++[[a,b]]) v=0):=λc=>by
   by_cases z:v1=x
   ·exact ⟨v2,(c.trans tie).trans (up c2),l2,.inl λy=>n12 (z.trans y.symm)⟩
   ·exact ⟨v1,c.trans (up c1),l1,.inl z⟩
  by_cases ha:Con E' u a
  ·exact two (up ha)
  by_cases hb:Con E' u b
  ·exact two ((up hb).trans (tie.symm O))
  obtain ⟨v,c,k,d⟩:=ih u x
  have z1:a≠v:=λe=>ha (e ▸ c)
  have z2:b≠v:=λe=>hb (e ▸ c)
  have:aI (E'++[[a,b]]) v=aI E' v:=by rw[cnt,if_neg z1,if_neg z2];lia
  exact ⟨v,up c,by lia,by rw[this];exact d⟩
theorem stuck {m:Nat}{ns:List (List Int)}(O:Ok m ns)(w:bS ns){G:List Int}{u:Int}(hu:0<=u/\u<m)(hG:u∉G)(hc:∀v:Int,0<=v/\v<m->v∉G->2<=aI (ns.filter (off G)) v):False:=by
 have O':=fA O G
 obtain ⟨v,c,k,_⟩:=nL _ _ rfl O' (jS w (off G)) u u
 have rv:=c.rng O' hu
 have nv:v∉G:=c.closed (R:=λv=>v∉G) hG λx y _ a=>by
  obtain ⟨p,q,hp,ne,hx⟩:=(bO O').mp a
  have:=(D1.mp hp).2
  unfold off at this
  have z:p∉G/\q∉G:=by simpa using this
  rcases hx with ⟨rfl,rfl⟩ | ⟨rfl,rfl⟩
  ·exact z.2
  ·exact z.1
 have:=hc v rv nv
 lia
theorem yB {m:Nat}{E:List (List Int)}(O:Ok m E){p:Int}(h1:aI E p<=1){a b:Int}(c:Con E a b)(ha:a≠p)(hb:b≠p):Con (E.filter (off [p])) a b:=by
 have O':=fA O [p]
 have nb:∀{v w:Int},Adj E p v->Adj E p w->v=w:=λ{v w} av aw=>by
  obtain ⟨_,tv⟩:=(b8 O).mp av
  obtain ⟨_,tw⟩:=(b8 O).mp aw
  by_cases z:nrm p v=nrm p w
  ·have:=congrArg (oth p) z
   rwa [uJ,uJ] at this
  ·have:=uM z (d7 p v) (d7 p w) tv tw
   lia
 have adj:∀{u v:Int},Adj E u v->u≠p->v≠p->Adj (E.filter (off [p])) u v:=λ{u v} h hu hv=>by
  obtain ⟨a,b,hp,ne,hx⟩:=(bO O).mp h
  refine (bO O').mpr ⟨a,b,D1.mpr ⟨hp,?_⟩,ne,hx⟩
  unfold off
  rcases hx with ⟨rfl,rfl⟩ | ⟨rfl,rfl⟩ <;> simp[hu,hv]
 by_cases hx:∃x,Adj E p x
 ·obtain ⟨x,ax⟩:=hx
  have xp:x≠p:=λe=>by
   have:=(b8 O).mp ax
   exact this.1 e.symm
  have key:∀{u v:Int},Con E u v->Con (E.filter (off [p])) (if u=p then x else u) (if v=p then x else v):=λ{u v} c=>by
   induction c with
   | refl=>exact .refl _
   | step cc a ih =>
    rename_i y z
    refine ih.trans ?_
    by_cases hy:y=p
    ·subst hy
     have:=nb a ax
     subst this
     rw[if_pos rfl,if_neg xp];exact .refl _
    ·by_cases hz:z=p
     ·subst hz
      have:=nb (iO O a) ax
      subst this
      rw[if_pos rfl,if_neg hy];exact .refl _
     ·rw[if_neg hy,if_neg hz];exact .one (adj a hy hz)
  have:=key c
  rwa [if_neg ha,if_neg hb] at this
 ·clear hb
  induction c with
  | refl=>exact .refl _
  | step cc a ih =>
   rename_i y z
   have hy:y≠p:=λe=>hx ⟨z,e ▸ a⟩
   have hz:z≠p:=λe=>hx ⟨y,e ▸ iO O a⟩
   exact .step ih (adj a hy hz)
theorem yC {m:Nat}{E:List (List Int)}(O:Ok m E){p:Int}(h1:aI E p<=1)(w:bS (E.filter (off [p]))):bS E:=λpre t post e a b et c=>by
 subst et
 have Op:Ok m pre:=λt ht=>O t (by rw[e];exact Du _ ht)
 rw[e,uL,cnt_cons,iX] at h1
 have c0:=oZ p pre
 have c1:=oZ p post
 by_cases hq:off [p] [a,b]=true
 ·have hab:a≠p/\b≠p:=by unfold off at hq;simpa using hq
  refine w (pre.filter (off [p])) [a,b] (post.filter (off [p])) ?_ a b rfl (yB Op ?_ c hab.1 hab.2)
  ·rw[e,Gi,EO hq]
  ·have:(0:Int)<=(if a=p then 1 else 0)+(if b=p then 1 else 0):=by split <;> split <;> decide
   lia
 ·have hab:a=p\/b=p:=by
   unfold off at hq
   by_cases z:a=p
   ·exact .inl z
   ·right
    simpa [z] using hq
  have iso:∀{u v:Int},Con pre u v->aI pre p=0->(u=p↔v=p):=λ{u v} c z=>by
   induction c with
   | refl=>exact E8
   | step cc aj ih =>
    rename_i y x
    refine ih.trans ⟨λh =>?_,λh =>?_⟩
    ·subst h
     have:=gB (d7 y x) ((b8 Op).mp aj).2
     lia
    ·subst h
     have:=gB (d7 x y) ((b8 Op).mp (iO Op aj)).2
     lia
  by_cases ha:a=p
  ·by_cases hb:b=p
   ·rw[if_pos ha,if_pos hb] at h1;lia
   ·rw[if_pos ha,if_neg hb] at h1
    exact hb ((iso c (by lia)).mp ha)
  ·have hb:=hab.resolve_left ha
   rw[if_neg ha,if_pos hb] at h1
   exact ha ((iso c (by lia)).mpr hb)
theorem qZ (G:List Int)(p:Int)(t:List Int):off (G++[p]) t=(off [p] t && off G t):=by
 unfold off
 by_cases h1:t.getD 0 0∈G <;> by_cases h2:t.getD 1 0∈G <;> by_cases h3:t.getD 0 0=p <;> by_cases h4:t.getD 1 0=p <;> simp_all
def Pld (ns:List (List Int))(G:List Int):Prop:=G.Nodup/\∀(i:Nat) p,G[i]? = some p->aI (ns.filter (off (G.take i))) p<=1
theorem Pld.CM {m:Nat}{ns:List (List Int)}(O:Ok m ns){G:List Int}(h:Pld ns G)(cov:∀v:Int,0<=v/\v<m->v∈G):bS ns:=by
 have key:∀k,k<=G.length->bS (ns.filter (off (G.take (G.length-k)))):=λk=>by
  induction k with
  | zero =>
   intro _
   rw[JU,JD]
   have:ns.filter (off G)=[]:=HU.mpr λt ht z=>by
    obtain ⟨a,b,rfl,a0,ab,bm⟩:=O t ht
    have ha:=cov a ⟨a0,by lia⟩
    unfold off at z
    simp[ha] at z
   rw[this]
   intro pre t post e
   cases pre <;> cases e
  | succ k ih =>
   intro hk
   have ih:=ih (by lia)
   have eg:G[G.length-(k+1)]? = some (G[G.length-(k+1)]'(by lia)):=CV (by lia)
   have et:G.take (G.length-k)=G.take (G.length-(k+1))++[G[G.length-(k+1)]'(by lia)]:=by
    rw[show G.length-k=G.length-(k+1)+1 by lia,DY,eg];rfl
   have:=h.2 _ _ eg
   refine yC (fA O _) this ?_
   rw[HP]
   rw[et] at ih
   rw[show (λa=>off [G[G.length-(k+1)]'(by lia)] a && off (G.take (G.length-(k+1))) a)=off (G.take (G.length-(k+1))++[G[G.length-(k+1)]'(by lia)]) from funext λt=>(qZ _ _ t).symm]
   exact ih
 have:=key G.length (C0 _)
 rw[Lm,Ho] at this
 rwa [Hw.mpr λt _=>by unfold off;simp] at this
theorem Pld.good {m:Nat}{ns:List (List Int)}(O:Ok m ns){G:List Int}(h:Pld ns G)(rg:∀v∈G,0<=v/\v<m)(lm:G.length=m):Good G m ns:=by
 have pm:G.Perm (rgI m):=by
  rw[Hj h.1 (gy m)]
  intro a
  refine ⟨λha=>cG.mpr (rg a ha),λha =>?_⟩
  have ll:(rgI m).length=m:=by unfold rgI;simp
  by_cases z:a∈G
  ·exact z
  ·have:=Fb (EC.mpr ⟨z,h.1⟩) (l₂:=rgI m) λx hx=>by
    rcases Dm.mp hx with y | y
    ·rw[y];exact ha
    ·exact cG.mpr (rg x y)
   rw[DF] at this
   lia
 have cov:∀v:Int,0<=v/\v<m->v∈G:=λv hv=>pm.mem_iff.mpr (cG.mpr hv)
 refine ⟨pm,λt ht e =>?_,λi hi =>?_⟩
 ·obtain ⟨a,b,rfl,a0,ab,bm⟩:=O t ht
  have e':a=b:=e
  subst e'
  exact (h.CM O cov) |> λw=>by
   obtain ⟨pre,post,e⟩:=List.append_of_mem ht
   exact w pre [a,a] post e a a rfl (.refl _)
 ·have eg:G[i]? = some (G[i]'(by lia)):=CV (by lia)
  have:=h.2 i _ eg
  suffices ∀l:List (List Int),(∀t∈l,t∈ns)->(((l.map (mi G)).count i:Nat):Int)<=aI (l.filter (off (G.take i))) (G[i]'(by lia)) by
   have:=this ns λt ht=>ht
   lia
  intro l hl
  induction l with
  | nil=>exact Kv _
  | cons t l ih =>
   have ih:=ih λt ht=>hl t (Ds _ ht)
   obtain ⟨a,b,rfl,a0,ab,bm⟩:=O t (hl t Dr)
   have ga:=oY (cov a ⟨a0,by lia⟩)
   have gb:=oY (cov b ⟨by lia,bm⟩)
   rw[DK,G3]
   by_cases e:mi G [a,b]=i
   ·rw[if_pos (by simpa using e)]
    have e':(if jC G b<jC G a then jC G b else jC G a)=i:=e
    have nt:∀{v:Int},G[jC G v]? = some v->i<=jC G v->v∉G.take i:=λ{v} gv le hv=>by
     obtain ⟨j,ej⟩:=DL.mp hv
     rw[EY] at ej
     split at ej
     ·rename_i hj
      have:=(Jo (by lia) h.1).mp (ej.trans gv.symm)
      lia
     ·cases ej
    have hoff:off (G.take i) [a,b]=true:=by
     have n1:a∉G.take i:=nt ga (by split at e' <;> lia)
     have n2:b∉G.take i:=nt gb (by split at e' <;> lia)
     unfold off
     show (!decide (a∈G.take i) && !decide (b∈G.take i))=true
     rw[decide_eq_false n1,decide_eq_false n2];rfl
    rw[EO hoff,cnt_cons]
    have:(G[i]'(by lia))∈([a,b]:List Int):=by
     split at e'
     ·rw[e',eg] at gb;rw[DB gb];simp
     ·rw[e',eg] at ga;rw[DB ga];simp
    have:=Fc.mpr this
    lia
   ·rw[if_neg (by simpa using e),Ll]
    by_cases hq:off (G.take i) [a,b]=true
    ·rw[EO hq,cnt_cons];lia
    ·rw[FY hq];exact ih
theorem zZ {m:Nat}{ns:List (List Int)}(O:Ok m ns)(h:¬ bS ns):∃a b,[a,b]∈ns/\¬ jY ns a b:=by
 apply Ew
 intro no
 apply h
 intro pre t post e a b et c
 subst et
 have hin:[a,b]∈ns:=by rw[e];simp
 refine no ⟨a,b,hin,λnal =>?_⟩
 have Op:Ok m pre:=λt ht=>O t (by rw[e];exact Du _ ht)
 obtain ⟨_,_,ee,a0,ab,bm⟩:=O _ hin
 cases ee
 have np:[a,b]∉pre:=λhp=>by
  have:=nal.2.1
  rw[e,Lg,Kn] at this
  have:=Fc.mpr hp
  lia
 have:∀{v:Int},Con pre a v->∃n,Wk (stp ns a b) a n v:=λ{v} c=>by
  induction c with
  | refl=>exact ⟨0,.z⟩
  | step cc aj ih =>
   rename_i y z
   obtain ⟨n,w⟩:=ih
   obtain ⟨ne,td⟩:=(b8 Op).mp aj
   refine ⟨n+1,.st w ⟨(b8 O).mpr ⟨ne,by rw[e];exact Du _ td⟩,?_⟩⟩
   by_cases h1:y=a
   ·right;intro h2;subst h1;subst h2
    unfold Td at td
    rw[ba ab] at td
    exact np td
   ·exact .inl h1
 obtain ⟨n,w⟩:=this c
 exact nal.2.2 n w
theorem CN {L:List Int}{m:Nat}(hl:L.length=m){v:Int}(hv:0<=v/\v<m):L[v.toNat]? = some (gt L v):=by
 unfold gt
 rw[CV (by lia),Df,CV (by lia)];rfl
theorem q8 {m:Nat}{p v:Int}(ne:v≠p):∀{E:List (List Int)},Ok m E->aI E v=aI (E.filter (off [p])) v+(E.count (nrm p v):Int)
 | [],_=>rfl
 | t :: E,O=>by
  have ih:=q8 ne (E:=E) λt ht=>O t (Ds _ ht)
  obtain ⟨a,b,rfl,a0,ab,bm⟩:=O t Dr
  rw[cnt_cons,iX,G3]
  by_cases hq:off [p] [a,b]=true
  ·have hab:a≠p/\b≠p:=by unfold off at hq;simpa using hq
   have:[a,b]≠nrm p v:=λe=>by
    have:=d7 p v
    rw[<- e] at this
    simp at this
    rcases this with z | z
    ·exact hab.1 z.symm
    ·exact hab.2 z.symm
   rw[EO hq,cnt_cons,iX,if_neg (show ¬ ([a,b] == nrm p v)=true by simpa using this)]
   lia
  ·rw[FY hq]
   have hab:a=p\/b=p:=by
    unfold off at hq
    by_cases z:a=p
    ·exact .inl z
    ·right;simpa [z] using hq
   by_cases e:[a,b]=nrm p v
   ·rw[if_pos (show ([a,b] == nrm p v)=true by simpa using e)]
    have:(if a=v then (1:Int) else 0)+(if b=v then 1 else 0)=1:=by
     have hv:=d7 v p
     rw[bL, <- e] at hv
     simp at hv
     rcases hab with z | z
     ·subst z;rw[if_neg (Ee ne),if_pos (hv.resolve_left ne).symm];rfl
     ·subst z;rw[if_neg (Ee ne),if_pos (hv.resolve_right ne).symm];rfl
    lia
   ·rw[if_neg (show ¬ ([a,b] == nrm p v)=true by simpa using e)]
    have:(if a=v then (1:Int) else 0)+(if b=v then 1 else 0)=0:=by
     rcases hab with z | z
     ·subst z
      rw[if_neg (Ee ne),if_neg λy=>e (by subst y;rw[ba ab])];rfl
     ·subst z
      rw[if_neg λy=>e (by subst y;rw[bL,ba ab]),if_neg (Ee ne)];rfl
    lia
theorem iY {p v:Int}:∀E:List (List Int),(E.count (nrm p v):Int)<=aI E p
 | []=>Kv _
 | t :: E=>by
  have ih:=iY (p:=p) (v:=v) E
  rw[cnt_cons,G3]
  by_cases e:t=nrm p v
  ·have:=Fc.mpr (show p∈t from e ▸ d7 p v)
   rw[if_pos (by simpa using e)];lia
  ·rw[if_neg (by simpa using e)];lia
structure PI (m:Nat)(ns:List (List Int))(G Y C:List Int):Prop where
 pld:Pld ns G
 rg:∀v∈G,0<=v/\v<m
 clen:C.length=m
 cnt:∀v:Int,0<=v/\v<m->v∉G->gt C v=aI (ns.filter (off G)) v
 ynd:Y.Nodup
 yiff:∀v:Int,v∈Y↔(0<=v/\v<m)/\v∉G/\aI (ns.filter (off G)) v<=1
structure PJ (m:Nat)(ns:List (List Int))(G:List Int)(p:Int)(D Y C:List Int):Prop where
 clen:C.length=m
 cnt:∀v:Int,0<=v/\v<m->v∉G++[p]->gt C v=aI (ns.filter (off G)) v-if v∈D then 1 else 0
 ynd:Y.Nodup
 yiff:∀v:Int,v∈Y↔(0<=v/\v<m)/\v∉G++[p]/\aI (ns.filter (off G)) v-(if v∈D then 1 else 0)<=1
def ct0 (ns:List (List Int))(m:Nat):List Int:=(rgI m).map (aI ns)
def rd0 (ns:List (List Int))(m:Nat):List Int:=(rgI m).filter λv=>decide (aI ns v<=1)
theorem BJ {ns:List (List Int)}{m:Nat}{v:Int}(hv:0<=v/\v<m):gt (ct0 ns m) v=aI ns v:=by
 unfold gt ct0 rgI
 rw[Df,C8,C8,Hv (by lia)]
 show aI ns ((v.toNat:Nat):Int)=_
 rw[show ((v.toNat:Nat):Int)=v by lia]
theorem o7 (ns:List (List Int)):ns.filter (off [])=ns:=Hw.mpr λt _=>by unfold off;simp
theorem PI.start (ns:List (List Int))(m:Nat):PI m ns [] (rd0 ns m) (ct0 ns m):=by
 refine ⟨⟨GU,λi p e=>by simp at e⟩,λv h=>(by cases h),by unfold ct0 rgI;simp,λv hv _=>by rw[o7,BJ hv],List.Nodup.sublist IE (gy m),λv =>?_⟩
 unfold rd0
 rw[D1,cG,o7]
 simp
theorem PI.pop {m:Nat}{ns:List (List Int)}{G Y C:List Int}{p:Int}(h:PI m ns G (Y++[p]) C):PJ m ns G p [] Y C:=by
 have hp:=(h.yiff p).mp (by simp)
 obtain ⟨y1,_,y3⟩:=Gy.mp h.ynd
 have pY:p∉Y:=λz=>y3 p z p (by simp) rfl
 refine ⟨h.clen,λv hv nv =>?_,y1,λv =>?_⟩
 ·rw[if_neg (by simp),J8]
  exact h.cnt v hv λz=>nv (Du _ z)
 ·rw[if_neg (by simp),J8]
  constructor
  ·intro hv
   obtain ⟨a,b,c⟩:=(h.yiff v).mp (Du _ hv)
   refine ⟨a,λz =>?_,c⟩
   rcases Dd.mp z with y | y
   ·exact b y
   ·rw[C2] at y;exact pY (y ▸ hv)
  ·rintro ⟨a,b,c⟩
   have:=(h.yiff v).mpr ⟨a,λz=>b (Du _ z),c⟩
   rcases Dd.mp this with y | y
   ·exact y
   ·exact absurd (DA G y) b
theorem PJ.skip {m:Nat}{ns:List (List Int)}{G Y C D:List Int}{p o:Int}(h:PJ m ns G p D Y C)(ho:o∈G++[p]):PJ m ns G p (D++[o]) Y C:=by
 have e:∀v,v∉G++[p]->(v∈D++[o]↔v∈D):=λv nv=>by
  rw[Dd,C2]
  exact ⟨λz=>z.elim id λy=>absurd (y ▸ ho) nv,.inl⟩
 refine ⟨h.clen,λv hv nv =>?_,h.ynd,λv =>?_⟩
 ·rw[h.cnt v hv nv]
  by_cases z:v∈D
  ·rw[if_pos z,if_pos ((e v nv).mpr z)]
  ·rw[if_neg z,if_neg λy=>z ((e v nv).mp y)]
 ·rw[h.yiff v]
  refine and_congr_right λa=>and_congr_right λb =>?_
  by_cases z:v∈D
  ·rw[if_pos z,if_pos ((e v b).mpr z)]
  ·rw[if_neg z,if_neg λy=>z ((e v b).mp y)]
theorem PJ.take {m:Nat}{ns:List (List Int)}{G Y C D:List Int}{p o:Int}(h:PJ m ns G p D Y C)(ro:0<=o/\o<m)(ho:o∉G++[p])(nD:o∉D)(c1:1<=aI (ns.filter (off G)) o):PJ m ns G p (D++[o]) (if gt C o-1=1 then Y++[o] else Y) (C.set o.toNat (gt C o-1)):=by
 have co:=h.cnt o ro ho
 rw[if_neg nD,J8] at co
 have e:∀v,v≠o->(v∈D++[o]↔v∈D):=λv nv=>by
  rw[Dd,C2]
  exact ⟨λz=>z.elim id λy=>absurd y nv,.inl⟩
 have yo:o∈Y↔aI (ns.filter (off G)) o<=1:=by
  rw[h.yiff o,if_neg nD,J8]
  exact ⟨λz=>z.2.2,λz=>⟨ro,ho,z⟩⟩
 refine ⟨by rw[G0];exact h.clen,λv hv nv =>?_,?_,λv =>?_⟩
 ·rw[BD (by rw[h.clen];exact ro) hv.1]
  by_cases z:v=o
  ·subst z;rw[if_pos rfl,if_pos (by simp),co]
  ·rw[if_neg z,h.cnt v hv nv]
   by_cases y:v∈D
   ·rw[if_pos y,if_pos ((e v z).mpr y)]
   ·rw[if_neg y,if_neg λx=>y ((e v z).mp x)]
 ·split
  ·refine dP h.ynd λz =>?_
   have:=yo.mp z
   lia
  ·exact h.ynd
 ·by_cases z:v=o
  ·subst z
   rw[if_pos (show v∈D++[v] by simp)]
   by_cases c:gt C v-1=1
   ·rw[if_pos c]
    exact ⟨λ_=>⟨ro,ho,by lia⟩,λ_=>by simp⟩
   ·rw[if_neg c,yo]
    exact ⟨λy=>⟨ro,ho,by lia⟩,λy=>by lia⟩
  ·have:v∈(if gt C o-1=1 then Y++[o] else Y)↔v∈Y:=by
    split
    ·rw[Dd,C2]
     exact ⟨λy=>y.elim id λx=>absurd x z,.inl⟩
    ·exact E8
   rw[this,h.yiff v]
   refine and_congr_right λa=>and_congr_right λb =>?_
   by_cases y:v∈D
   ·rw[if_pos y,if_pos ((e v z).mpr y)]
   ·rw[if_neg y,if_neg λx=>y ((e v z).mp x)]
theorem PJ.done {m:Nat}{ns:List (List Int)}(O:Ok m ns){G Y C D:List Int}{p:Int}(h:PJ m ns G p D Y C)(hG:Pld ns G)(rg:∀v∈G,0<=v/\v<m)(rp:0<=p/\p<m)(np:p∉G)(c1:aI (ns.filter (off G)) p<=1)(hD:∀x,x∈D↔Adj ns p x):PI m ns (G++[p]) Y C:=by
 have O':=fA O G
 have key:∀v:Int,v∉G++[p]->aI (ns.filter (off (G++[p]))) v=aI (ns.filter (off G)) v-if v∈D then 1 else 0:=λv nv=>by
  have vG:v∉G:=λz=>nv (Du _ z)
  have vp:v≠p:=λz=>nv (DA _ (by simp[z]))
  have e:ns.filter (off (G++[p]))=(ns.filter (off G)).filter (off [p]):=by
   rw[HP]
   congr 1
   exact funext λt=>qZ G p t
  rw[e]
  have a:=q8 vp O'
  have b:=iY (p:=p) (v:=v) (ns.filter (off G))
  have hm:nrm p v∈ns.filter (off G)↔v∈D:=by
   rw[hD,b8 O,D1]
   refine ⟨λz=>⟨Ee vp,z.1⟩,λz=>⟨z.2,?_⟩⟩
   rcases Ie p v with y | y
   ·rw[ba y];unfold off;simp[np,vG]
   ·rw[bL,ba y];unfold off;simp[np,vG]
  by_cases z:v∈D
  ·have:=Fc.mpr (hm.mpr z)
   rw[if_pos z];lia
  ·have:(ns.filter (off G)).count (nrm p v)=0:=List.count_eq_zero.mpr λy=>z (hm.mp y)
   rw[if_neg z];lia
 refine ⟨⟨dP hG.1 np,λi q e =>?_⟩,λv hv =>?_,h.clen,λv hv nv=>by rw[h.cnt v hv nv,key v nv],h.ynd,λv =>?_⟩
 ·rcases FO i G.length with c | c
  ·rw[DC c] at e
   rw[GQ (by lia)]
   exact hG.2 i q e
  ·rw[DI c] at e
   have:i-G.length=0:=by
    rcases Gm (i-G.length) with z | z
    ·exact z
    ·rw[Eu (by simp;lia)] at e;cases e
   rw[this] at e;cases e
   rw[show i=G.length by lia,L0]
   exact c1
 ·rcases Dd.mp hv with z | z
  ·exact rg v z
  ·rw[C2] at z;subst z;exact rp
 ·rw[h.yiff v]
  refine and_congr_right λa=>and_congr_right λb =>?_
  rw[key v b]
def pin (G:List Int)(YC:List Int×List Int)(o:Int):List Int×List Int:=if o∈G then YC else (if gt YC.2 o-1=1 then YC.1++[o] else YC.1,YC.2.set o.toNat (gt YC.2 o-1))
def itP (nb:Int->List Int)(S0:List Int×List Int):Nat->(List Int×List Int)×List Int
 | 0=>(S0,[])
 | k+1=>((nb ((itP nb S0 k).1.1.getLastD 0)).foldl (pin ((itP nb S0 k).2++[(itP nb S0 k).1.1.getLastD 0])) ((itP nb S0 k).1.1.dropLast,(itP nb S0 k).1.2),(itP nb S0 k).2++[(itP nb S0 k).1.1.getLastD 0])
def FinP (nb:Int->List Int)(S0:List Int×List Int)(G:List Int):Prop:=∃k,(itP nb S0 k).2=G/\(itP nb S0 k).1.1=[]/\∀j,j<k->(itP nb S0 j).1.1≠[]
def yD (m:Nat)(ns:List (List Int))(G:List Int):Prop:=∃rows,uI m ns rows/\FinP (gc rows) (rd0 ns m,ct0 ns m) G
open PySem L2
abbrev uN:Sp:=λvs H Q _=>∃(r:Addr) (m:Nat) (ts:List (Addr×List Int)),vs=[.ref r]/\Wb H r m ts/\m<=200/\∀(l:Addr) (H':Hp) (G:List Int),aA H H'->H l=none->H' l=some (.lst (G.map V.int))->Pld (ts.map (·.2)) G->(∀v∈G,0<=v/\v<m)->(∀v:Int,0<=v/\v<m->v∉G->2<=aI ((ts.map (·.2)).filter (off G)) v)->yD m (ts.map (·.2)) G->Q (.ref l) H'
@[irreducible] def o8:Sp:=uN
theorem ie {vs:List V}{H:Hp}{Q:VK}{E:XK}:o8 vs H Q E↔uN vs H Q E:=by
 delta o8
 exact E8
def dsl (R:List Int):List (Int×V):=R.map λk=>(k,V.bl true)
theorem q9 (R:List Int):(dsl R).map (·.1)=R:=by unfold dsl;rw[HC];exact List.map_id' R
theorem yE (R:List Int)(v:Int):dsl (R++[v])=dsl R++[(v,.bl true)]:=by unfold dsl;rw[Dg];rfl
theorem o9 (R:List Int):(mp (dsl R)).length=R.length:=by unfold mp dsl;rw[CS,CS]
theorem BK (R:List Int):(mp (dsl R)).map (·.1)=R.map Sum.inl:=by unfold mp dsl;rw[HC,HC];rfl
theorem sZ {m:Nat}{i:Nat}(h:i<m):(rgI m)[i]? = some (i:Int):=by unfold rgI;rw[C8,Hv h];rfl
theorem pf (m:Nat):(rgI m).length=m:=by unfold rgI;simp
def PA (H H1:Hp)(r n cl rl gd:Addr)(m:Nat)(ts os:List (Addr×List Int))(σ:St)(H':Hp):Prop:=∃(c5 c6:Option V) (G Y C:List Int) (k:Nat),σ=[some (.ref r),some (.ref n),some (.ref cl),some (.ref rl),some (.ref gd),c5,c6]/\aA H H'/\aA H1 H'/\H' cl=some (.lst (C.map V.int))/\H' rl=some (.lst (Y.map V.int))/\H' gd=some (.dK (mp (dsl G)))/\PI m (ts.map (·.2)) G Y C/\itP (gc (os.map (·.2))) (rd0 (ts.map (·.2)) m,ct0 (ts.map (·.2)) m) k=((Y,C),G)/\∀j,j<k->(itP (gc (os.map (·.2))) (rd0 (ts.map (·.2)) m,ct0 (ts.map (·.2)) m) j).1.1≠[]
def PB (H H1:Hp)(r n cl rl gd:Addr)(m pn:Nat)(ts:List (Addr×List Int))(uu:Addr×List Int)(G Y' C:List Int)(j:Nat)(σ:St)(H':Hp):Prop:=∃(c6:Option V) (Y5 C5:List Int),σ=[some (.ref r),some (.ref n),some (.ref cl),some (.ref rl),some (.ref gd),some (.int pn),c6]/\aA H H'/\aA H1 H'/\H' cl=some (.lst (C5.map V.int))/\H' rl=some (.lst (Y5.map V.int))/\H' gd=some (.dK (mp (dsl (G++[(pn:Int)]))))/\PJ m (ts.map (·.2)) G pn (uu.2.take j) Y5 C5/\(uu.2.take j).foldl (pin (G++[(pn:Int)])) (Y',C)=(Y5,C5)
section
variable  {P:Dp}{w:DW}{K:CZ}{mg:Str->Option CU}{base:Heap}{f T:Addr}{fd:Eo}
theorem bp:aF ["web", "near", "counts", "ready", "gone", "place", "other"] ["web"] (az cN):=⟨rfl,rfl,rfl,by decide +kernel,rfl,by decide +kernel,by decide +kernel⟩
theorem eF:(["place", "web"]:List Str).Nodup:=by decide +kernel
theorem dh:(["place", "counts"]:List Str).Nodup:=by decide +kernel
theorem lM (F:Fun K "peeled_places" "peeled_places" cN f fd)(B:Blt mg)(cNearLists:Cal P w K mg base 1 "near_lists" ["web"] gx)(cTiesAt:Cal P w K mg base 1 "ties_at" ["web", "place"] zO):bF P w K mg base CX0 2 f fd ["web"] o8:=by
 refine F.ok bp (λvs H Q E h =>?_) (λcdv A outer s H vs Q E hr h =>?_)
 ·obtain ⟨_,_,_,rfl,_⟩:=ie.mp h
  rfl
 obtain ⟨r,m,ts,rfl,W,m2,q⟩:=ie.mp h
 have hu:(pJ CX0 P w K mg base ["web", "near", "counts", "ready", "gone", "place", "other"] "peeled_places" (az cN) f cdv A outer s H E).nox.A.units+1<cLine:=tM hr
 refine ⟨_,(@ah _ _ _ _ _ (@aK _ _ 1 _ _ _ _ bp.nd rfl (Or.inl rfl) (aD cNearLists hr (by decide) rfl (@aa _ _ _ _ _ (pv 0) ag rfl)) rfl (by first | exact .inl rfl | exact .inr rfl | assumption))
  (@ah _ _ _ _ _ (@aK _ _ 2 _ _ _ _ bp.nd rfl (Or.inr rfl) (bj ["place", "web"] [none,some 0] rfl (bK rfl B.b_range (@aa _ _ _ _ _ (@aL _ _ _ _ _ _ _ aN (pv 0) ai (λ_ _=>rfl)) ag rfl)) rfl (λ_ _ _ _ _=>(au (i:=0) eF rfl (Or.inl rfl))) (λ_ _ _ _ _=>cD) (λ_ _ _ _ _=>(aD cTiesAt hr (by decide) rfl (@aa _ _ _ _ _ (pv 1) (@aa _ _ _ _ _ (pv 0) ag rfl) rfl)))) rfl (by first | exact .inl rfl | exact .inr rfl | assumption))
  (@ah _ _ _ _ _ (dH (i:=3) ["place", "counts"] [none,some 2] rfl bp.nd rfl rfl (bK rfl B.b_range (@aa _ _ _ _ _ (@aL _ _ _ _ _ _ _ aN (pv 0) ai (λ_ _=>rfl)) ag rfl)) rfl (λ_ _ _ _ _=>(au (i:=0) dh rfl (Or.inl rfl))) (λ_ _ _ _ _=>(d9 (aJ Ai (@aL _ _ _ _ _ _ _ (xg (K:=K)) (pv 1) (pv 0) (λ_ _=>rfl)) ai (aM _)))) (λ_ _ _ _ _=>(pv 0)))
  (@ah _ _ _ _ _ (@aK _ _ 4 _ _ _ _ bp.nd rfl (Or.inl rfl) qu rfl (by first | exact .inl rfl | exact .inr rfl | assumption))
  (@ah _ _ _ _ _ (ir Eh (kz (pv 3) (λ_=>rfl))
   (@ah _ _ _ _ _ (@aK _ _ 5 _ _ _ _ bp.nd rfl (Or.inl rfl) (wX Em J1 J3 wZ (pv 3)) rfl (by first | exact .inl rfl | exact .inr rfl | assumption))
   (@ah _ _ _ _ _ (j4 hu (pv 4) (pv 5) gF rfl)
   (@ak _ _ _ (@cj _ _ _ _ _ _ _ _ Eh rfl (@bI _ _ _ _ (@aL _ _ _ _ _ _ _ dY (pv 1) (pv 5) (λ_ _=>rfl))) (au (i:=6) bp.nd rfl (Or.inl rfl))
    (@ak _ _ _ (@bJ _ _ _ _ _ _ _ _ (ja (dy hu (pv 6) (pv 4))) (@ah _ _ _ _ _ (yP (pv 2) (pv 6) vW ai AN set_list)
     (@ak _ _ _ (@bJ _ _ _ _ _ _ _ _ (aJ dE (@aL _ _ _ _ _ _ _ dY (pv 2) (pv 6) (λ_ _=>rfl)) ai (aM _)) (@ak _ _ _ (cZ (iA Em EK EL cq (pv 3) (@aa _ _ _ _ _ (pv 6) ag rfl)))) aP))) aP)) (λ_=>rfl))))))
  (@ak _ _ _ (@aH _ _ _ _ (aS (sH hr.hd) rfl B.b_list zN (@aa _ _ _ _ _ (pv 4) ag rfl))))))))),?_⟩
 obtain ⟨t,e1,e2⟩:=W.at'
 have O:=iU W
 refine ⟨_,rfl,cS.mpr ⟨r,m,ts,rfl,W,by lia,by lia,λn H1 os s1 en lo ro iso =>?_⟩⟩
 have RD:uI m (ts.map (·.2)) (os.map (·.2)):=⟨by rw[CS,lo];lia,λj r e=>by
  rw[C8] at e
  obtain ⟨u,eu,rfl⟩:=EW.mp e
  exact iso j u eu⟩
 refine ⟨_,rfl,r,_,0,_,rfl,rfl,SqT.of (s1 _ _ e1),rfl,m,rfl,by lia,by lia,cv (lo:=0) (n:=m) (λi ys H'=>aA H1 H'/\ys=(((rgI m).take i).map (aI (ts.map (·.2)))).map V.int) ⟨aA.refl _,rfl⟩ (small (by lia)) ?_ ?_⟩
 ·rintro i ys H2 hi hy ⟨s2,rfl⟩ R1 R0 r1 r0
  refine bH ⟨_,rfl,_,rfl,lD.mpr ⟨r,m,0+(i:Int),ts,rfl,(W.same s1).same s2,λH3 s3=>r1 _ _ ⟨s2.trans s3,?_⟩⟩⟩
  rw[take_snoc (f:=aI (ts.map (·.2))) (sZ hi),Dg,J4];rfl
 rintro ys H2 hy ⟨s2,rfl⟩ cl hcl
 rw[Dj (by rw[pf];exact C0 _),show (rgI m).map (aI (ts.map (·.2)))=ct0 (ts.map (·.2)) m from rfl]
 have s12:=s1.trans s2
 have hcl0:=s12.free hcl
 have g3:=af hcl (.lst ((ct0 (ts.map (·.2)) m).map V.int))
 have ec:upd H2 cl (.lst ((ct0 (ts.map (·.2)) m).map V.int)) cl=some (.lst ((ct0 (ts.map (·.2)) m).map V.int)):=ae
 have s3:=s12.trans g3
 generalize upd H2 cl (.lst ((ct0 (ts.map (·.2)) m).map V.int))=H3 at g3 ec s3
 have en3:=g3 _ _ (s2 _ _ en)
 have lc0:(ct0 (ts.map (·.2)) m).length=m:=by unfold ct0;rw[CS,pf]
 let W0:Nat->List V->Hp->Prop:=λi ys H'=>H'=H3/\ys=(((rgI m).take i).filter λv=>decide (aI (ts.map (·.2)) v<=1)).map V.int
 refine ⟨_,rfl,r,_,0,_,rfl,rfl,SqT.of (s3 _ _ e1),rfl,m,rfl,by lia,by lia,cv (lo:=0) (n:=m) W0 ⟨rfl,rfl⟩ (small (by lia)) ?_ ?_⟩
 ·rintro i ys H4 hi hy ⟨eH,rfl⟩ R1 R0 r1 r0
  have at':atI ((ct0 (ts.map (·.2)) m).map V.int) (0+(i:Int))=some (.int (aI (ts.map (·.2)) (i:Int))):=by
   rw[J4]
   refine da ?_
   unfold ct0
   rw[C8,C8,sZ hi];rfl
  have tk:((rgI m).take (i+1)).filter (λv=>decide (aI (ts.map (·.2)) v<=1))=((rgI m).take i).filter (λv=>decide (aI (ts.map (·.2)) v<=1))++if aI (ts.map (·.2)) (i:Int)<=1 then [(i:Int)] else []:=by
   rw[DY,sZ hi,Gi]
   congr 1
   by_cases c:aI (ts.map (·.2)) (i:Int)<=1
   ·rw[if_pos c];simp[c]
   ·rw[if_neg c];simp[c]
  refine ⟨_,rfl,_,rfl,cl,_,_,_,rfl,rfl,SqL.of (by rw[eH];exact ec),at',_,_,rfl,rfl,_,rfl,?_⟩
  by_cases c:aI (ts.map (·.2)) (i:Int)<=1
  ·rw[decide_eq_true c]
   exact bH ⟨_,rfl,r1 _ _ ⟨eH,by rw[tk,if_pos c,Dg,J4];rfl⟩⟩
  ·rw[decide_eq_false c]
   exact bM (r0 _ ⟨eH,by rw[tk,if_neg c,DU]⟩)
 rintro ys H4 hy ⟨eH,rfl⟩ rl hrl
 rw[eH] at hrl ⊢
 rw[Dj (by rw[pf];exact C0 _),show ((rgI m).filter λv=>decide (aI (ts.map (·.2)) v<=1))=rd0 (ts.map (·.2)) m from rfl]
 have hrl0:=s3.free hrl
 have g4:=af hrl (.lst ((rd0 (ts.map (·.2)) m).map V.int))
 have er:upd H3 rl (.lst ((rd0 (ts.map (·.2)) m).map V.int)) rl=some (.lst ((rd0 (ts.map (·.2)) m).map V.int)):=ae
 have ec4:=g4 _ _ ec
 have en4:=g4 _ _ en3
 have ncr:cl≠rl:=aq ec hrl
 have s4:=s3.trans g4
 have s14:aA H1 (upd H3 rl (.lst ((rd0 (ts.map (·.2)) m).map V.int))):=s2.trans (g3.trans g4)
 have hcl1:=s2.free hcl
 have hrl1:=(s2.trans g3).free hrl
 generalize upd H3 rl (.lst ((rd0 (ts.map (·.2)) m).map V.int))=H5 at g4 er ec4 en4 s4 s14
 refine λgd hgd =>?_
 have hgd0:=s4.free hgd
 have hgd1:=s14.free hgd
 have g6:=af hgd (.dK [])
 have eg:upd H5 gd (.dK []) gd=some (.dK (mp (dsl []))):=ae
 have er6:=g6 _ _ er
 have ec6:=g6 _ _ ec4
 have s6:=s14.trans g6
 have s06:=s4.trans g6
 generalize upd H5 gd (.dK [])=H6 at g6 eg er6 ec6 s6 s06
 have near:∀{H':Hp},aA H1 H'->∀{pn:Nat} {u:Addr×List Int},os[pn]? = some u->H' n=some (.lst (os.map λu =>.ref u.1))/\H' u.1=some (.lst (u.2.map V.int)):=λ{H'} s {pn u} eu=>⟨s _ _ en,s _ _ (ro u (C7 eu))⟩
 have kl:∀{G Y C:List Int},PI m (ts.map (·.2)) G Y C->G.length<=m:=λI=>bE I.pld.1 I.rg
 dsimp only[gG,AJ]
 refine iu (PA H H1 r n cl rl gd m ts os)
  (λ_ H'=>m+1-jX H' gd) ⟨_,_,[],_,_,0,rfl,s06,s6,ec6,er6,eg,PI.start _ m,rfl,λj hj=>absurd hj (F3 _)⟩ ?_ ?mono
 case mono=>rintro σ H Q Q' h ⟨v,e,k,t,q⟩;exact ⟨v,e,k,t,h _ _ q⟩
 rintro σ H7 ⟨c5,c6,G,Y,C,kk,rfl,s7,s17,ec7,er7,eg7,I,ekk,nst⟩
 have kG:=kl I
 refine ⟨_,rfl, !(Y.map V.int).isEmpty,.inl ⟨_,SqL.of er7,rfl⟩,?_⟩
 rcases Gj Y with hY | ⟨Y',p,hY⟩
 ·subst hY
  refine bM ⟨_,rfl,gd,_,G,rfl,eg7,BK G,λl hl =>?_⟩
  refine q l _ G (s7.trans (af hl _)) (s7.free hl) ae I.pld I.rg (λv hv nv =>?_) ⟨_,RD,kk,by rw[ekk],by rw[ekk],nst⟩
  rcases Int.lt_or_le (aI ((ts.map (·.2)).filter (off G)) v) 2 with z | z
  ·have:=(I.yiff v).mpr ⟨hv,nv,by lia⟩
   cases this
  ·exact z
 rw[Gk] at hY
 subst hY
 rw[show (!(List.map V.int (Y'++[p])).isEmpty)=true by simp]
 obtain ⟨rp,np,cp⟩:=(I.yiff p).mp (by simp)
 obtain ⟨pn,rfl⟩:∃k:Nat,p=k:=⟨p.toNat,by lia⟩
 refine bH ⟨_,rfl,.inl ⟨rfl,_,SqL.of er7⟩,rl,_,.int pn,rfl,rfl,er7,?_,?_⟩
 ·rw[Dg,C1];simp
 rw[show (List.map V.int (Y'++[(pn:Int)])).dropLast=Y'.map V.int by rw[Dg];exact Km]
 have er8:upd H7 rl (.lst (Y'.map V.int)) rl=some (.lst (Y'.map V.int)):=ae
 have ec8:upd H7 rl (.lst (Y'.map V.int)) cl=some (.lst (C.map V.int)):=by rw[ay ncr];exact ec7
 have eg8:upd H7 rl (.lst (Y'.map V.int)) gd=some (.dK (mp (dsl G))):=by rw[ay (fE eg7 er7 (by intro z;cases z))];exact eg7
 have s8:=aA.cJ s7 hrl0 (.lst (Y'.map V.int))
 have s18:=aA.cJ s17 hrl1 (.lst (Y'.map V.int))
 generalize upd H7 rl (.lst (Y'.map V.int))=H8 at er8 ec8 eg8 s8 s18
 have hput:mj H8 gd (.int pn) (.bl true) (upd H8 gd (.dK (putK (mp (dsl G)) (Sum.inl (pn:Int)) (.bl true)))):=mj.k (k:=Sum.inl (pn:Int)) eg8 (by rw[o9];exact lL (by lia))
 rw[yk (by rw[q9];exact np), <- yE] at hput
 refine ⟨_,rfl,_,rfl,gd,_,rfl,hput,?_⟩
 have eg9:upd H8 gd (.dK (mp (dsl (G++[(pn:Int)])))) gd=some (.dK (mp (dsl (G++[(pn:Int)])))):=ae
 have er9:upd H8 gd (.dK (mp (dsl (G++[(pn:Int)])))) rl=some (.lst (Y'.map V.int)):=by rw[ay (fE er8 eg8 (by intro z;cases z))];exact er8
 have ec9:upd H8 gd (.dK (mp (dsl (G++[(pn:Int)])))) cl=some (.lst (C.map V.int)):=by rw[ay (fE ec8 eg8 (by intro z;cases z))];exact ec8
 have s9:=aA.cJ s8 hgd0 (.dK (mp (dsl (G++[(pn:Int)]))))
 have s19:=aA.cJ s18 hgd1 (.dK (mp (dsl (G++[(pn:Int)]))))
 generalize upd H8 gd (.dK (mp (dsl (G++[(pn:Int)]))))=H9 at eg9 er9 ec9 s9 s19
 have pl:pn<os.length:=by lia
 obtain ⟨uu,eu⟩:∃u,os[pn]? = some u:=⟨_,CV pl⟩
 have isu:=iso pn _ eu
 have enb:gc (os.map (·.2)) (pn:Int)=uu.2:=by unfold gc;rw[Ex,Df,C8,eu];rfl
 have gl:G.length<m:=by
  have:=bE (dP I.pld.1 np) (m:=m) λv hv=>by
   rcases Dd.mp hv with z | z
   ·exact I.rg v z
   ·rw[C2] at z;subst z;exact rp
  rw[C1] at this
  exact this
 refine ⟨_,rfl,_,rfl,n,_,(pn:Int),_,rfl,rfl,SqL.of (near s19 eu).1,da (by rw[C8,eu];rfl),uu.1,rfl,⟨_,SqL.of (near s19 eu).2⟩,dD (xs:=uu.2.map V.int) (PB H H1 r n cl rl gd m pn ts uu G Y' C)
   ⟨_,Y',C,rfl,s9,s19,ec9,er9,eg9,I.pop,rfl⟩ (λj σ H' _ z =>?_) ?_ ?_⟩
 ·obtain ⟨_,_,_,_,_,s',_⟩:=z
  exact SqL.of (near s' eu).2
 ·rintro j x σ H10 hx ⟨c6,Y5,C5,rfl,s10,s110,ec10,er10,eg10,J,fo⟩
  obtain ⟨o,eo,rfl⟩:=fG hx
  have oin:o∈nbs (ts.map (·.2)) (pn:Int):=(isu.2 o).mp (C7 eo)
  have ao:Adj (ts.map (·.2)) pn o:=oin
  have oro:=(j6 O ao).2
  obtain ⟨on,rfl⟩:∃k:Nat,o=k:=⟨o.toNat,by lia⟩
  have tk:uu.2.take (j+1)=uu.2.take j++[(on:Int)]:=by rw[DY,eo];rfl
  refine ⟨_,rfl,_,rfl,gd,_,rfl,iL.k (k:=Sum.inl (on:Int)) eg10,_,rfl,?_⟩
  rw[uD,q9]
  by_cases ho:(on:Int)∈G++[(pn:Int)]
  ·rw[decide_eq_true ho]
   exact bM ⟨_,Y5,C5,rfl,s10,s110,ec10,er10,eg10,by rw[tk];exact J.skip ho,by rw[cA eo,fo];unfold pin;rw[if_pos ho]⟩
  rw[decide_eq_false ho]
  have nD:(on:Int)∉uu.2.take j:=λz=>by
   obtain ⟨i,ei⟩:=DL.mp z
   rw[EY] at ei
   split at ei
   ·rename_i hij
    have nd:uu.2.Nodup:=isu.1.imp λ{a b} h=>by lia
    have:=(Jo (by have:=(C9.mp ei).1;lia) nd).mp (ei.trans eo.symm)
    lia
   ·cases ei
  have nG:(on:Int)∉G:=λz=>ho (Du _ z)
  have c1:1<=aI ((ts.map (·.2)).filter (off G)) on:=by
   obtain ⟨ne,td⟩:=(b8 O).mp ao
   refine gB (t:=nrm on pn) (d7 _ _) (D1.mpr ⟨by rw[bL];exact td,?_⟩)
   rcases Ie (on:Int) pn with y | y
   ·rw[ba y];unfold off;simp[np,nG]
   ·rw[bL,ba y];unfold off;simp[np,nG]
  have J2:=J.take oro ho nD c1
  have lC5:=J.clen
  have eC:(C5.map V.int)[on]? = some (.int (gt C5 on)):=by
   have:=CN lC5 oro
   rw[Ex] at this
   rw[C8,this];rfl
  have lY5:Y5.length<=m:=bE J.ynd λv hv=>((J.yiff v).mp hv).1
  have ix:ixN (C5.map V.int).length (on:Int)=some on:=by
   rw[CS];unfold ixN;simp;lia
  have fo2:(uu.2.take (j+1)).foldl (pin (G++[(pn:Int)])) (Y',C)=(if gt C5 on-1=1 then Y5++[(on:Int)] else Y5,C5.set on (gt C5 on-1)):=by
   rw[cA eo,fo];unfold pin;rw[if_neg ho,Ex]
  rw[Ex] at J2
  refine bH ⟨_,rfl,_,rfl,cl,_,on,_,rfl,rfl,SqL.of ec10,eC,_,_,rfl,rfl,cl,_,_,on,rfl,rfl,ec10,ix,?_⟩
  have ec11:upd H10 cl (.lst ((C5.map V.int).set on (.int (gt C5 on-1)))) cl=some (.lst ((C5.set on (gt C5 on-1)).map V.int)):=by rw[ae,List.map_set]
  have er11:upd H10 cl (.lst ((C5.map V.int).set on (.int (gt C5 on-1)))) rl=some (.lst (Y5.map V.int)):=by rw[ay (Ee ncr)];exact er10
  have eg11:upd H10 cl (.lst ((C5.map V.int).set on (.int (gt C5 on-1)))) gd=some (.dK (mp (dsl (G++[(pn:Int)])))):=by rw[ay (fE eg10 ec10 (by intro z;cases z))];exact eg10
  have s11:=aA.cJ s10 hcl0 (.lst ((C5.map V.int).set on (.int (gt C5 on-1))))
  have s111:=aA.cJ s110 hcl1 (.lst ((C5.map V.int).set on (.int (gt C5 on-1))))
  generalize upd H10 cl (.lst ((C5.map V.int).set on (.int (gt C5 on-1))))=H11 at ec11 er11 eg11 s11 s111
  have e11:atI ((C5.set on (gt C5 on-1)).map V.int) (on:Int)=some (.int (gt C5 on-1)):=da (by rw[C8,EV (by lia)];rfl)
  refine ⟨_,rfl,_,rfl,cl,_,(on:Int),_,rfl,rfl,SqL.of ec11,e11,rfl,_,rfl,?_⟩
  by_cases c:gt C5 on-1=1
  ·rw[decide_eq_true (by rw[c])]
   rw[if_pos c] at J2 fo2
   exact bH ⟨_,rfl,.inl ⟨rfl,_,SqL.of er11⟩,_,rfl,rl,_,_,rfl,rfl,er11,by rw[CS];exact lL (by lia),_,Y5++[(on:Int)],_,rfl,aA.cJ s11 hrl0 _,aA.cJ s111 hrl1 _,by rw[ay ncr];exact ec11,by rw[ae,Dg];rfl,by rw[ay (fE eg11 er11 (by intro z;cases z))];exact eg11,by rw[tk];exact J2,fo2⟩
  ·rw[decide_eq_false (by intro z;injection z with z;exact c z)]
   rw[if_neg c] at J2 fo2
   exact bM ⟨_,Y5,_,rfl,s11,s111,ec11,er11,eg11,by rw[tk];exact J2,fo2⟩
 ·rintro σ H10 ⟨c6,Y5,C5,rfl,s10,s110,ec10,er10,eg10,J,fo⟩
  rw[CS,Dj (C0 _)] at J fo
  have I2:=J.done O I.pld I.rg rp np cp λx=>isu.2 x
  refine ⟨⟨_,_,G++[(pn:Int)],Y5,C5,kk+1,rfl,s10,s110,ec10,er10,eg10,I2,?_,λj hj =>?_⟩,?_⟩
  ·show ((gc (os.map (·.2)) ((itP _ _ kk).1.1.getLastD 0)).foldl (pin ((itP _ _ kk).2++[(itP _ _ kk).1.1.getLastD 0])) ((itP _ _ kk).1.1.dropLast,(itP _ _ kk).1.2),(itP _ _ kk).2++[(itP _ _ kk).1.1.getLastD 0])=_
   rw[ekk]
   have e1:(Y'++[(pn:Int)]).getLastD 0=pn:=by simp
   have e2:(Y'++[(pn:Int)]).dropLast=Y':=by simp
   dsimp only
   rw[e1,e2,enb,fo]
  ·rcases FO j kk with z | z
   ·exact nst j z
   ·rw[show j=kk by lia,ekk];simp
  ·rw[j9 eg10,j9 eg7,o9,o9,C1]
   show m+1-(G.length+1)<m+1-G.length
   lia
end
open PySem L2
theorem rd:bS []:=λpre t post e=>by cases pre <;> cases e
theorem wm {E:List (List Int)}(w:bS E){a b:Int}(h:¬ Con E a b):bS (E++[[a,b]]):=λpre t post e x y et c=>by
 rcases Gj post with z | ⟨post',l,z⟩
 ·subst z
  obtain ⟨e1,e2⟩:=LF e rfl
  cases e2
  cases et
  rw[e1] at h
  exact h c
 ·rw[Gk] at z
  subst z
  have e':E++[[a,b]]=(pre++t :: post')++[l]:=by rw[e];simp
  obtain ⟨e1,_⟩:=LF e' rfl
  exact w pre t post' e1 x y et c
abbrev Az:Sp:=λvs H Q _=>∃(r:Addr) (m:Nat) (ts:List (Addr×List Int)),vs=[.ref r]/\Wb H r m ts/\m<=200/\(∀(p l:Addr) (H':Hp) (G:List Int),aA H H'->H' p=some (.tup [.str "wood",.ref l])->H l=none->H' l=some (.lst (G.map V.int))->bS (ts.map (·.2))->Pld (ts.map (·.2)) G->(∀v∈G,0<=v/\v<m)->G.length=m->yD m (ts.map (·.2)) G->Q (.ref p) H')/\∀(p z:Addr) (H':Hp) (F:List Int),aA H H'->H' p=some (.tup [.str "ring",.ref z])->H' z=some (.tup (F.map V.int))->¬ bS (ts.map (·.2))->Ring m (ts.map (·.2)) F->yx F->oU m (ts.map (·.2)) (ts.map (·.2)) F->Q (.ref p) H'
@[irreducible] def wo:Sp:=Az
theorem iZ {vs:List V}{H:Hp}{Q:VK}{E:XK}:wo vs H Q E↔Az vs H Q E:=by
 delta wo
 exact E8
section
variable  {P:Dp}{w:DW}{K:CZ}{mg:Str->Option CU}{base:Heap}{f T:Addr}{fd:Eo}
theorem jT:aF ["web", "order"] ["web"] (az gR):=⟨rfl,rfl,rfl,by decide +kernel,rfl,by decide +kernel,by decide +kernel⟩
theorem rf (F:Fun K "peeled_web" "peeled_web" gR f fd)(B:Blt mg)(cPeeledPlaces:Cal P w K mg base 2 "peeled_places" ["web"] o8)(cLeastRing:Cal P w K mg base 5 "least_ring" ["web"] ki):bF P w K mg base CX0 6 f fd ["web"] wo:=by
 refine F.ok jT (λvs H Q E h =>?_) (λcdv A outer s H vs Q E hr h =>?_)
 ·obtain ⟨_,_,_,rfl,_⟩:=iZ.mp h
  rfl
 obtain ⟨r,m,ts,rfl,W,m2,q0,q1⟩:=iZ.mp h
 refine ⟨_,(@ah _ _ _ _ _ (@aK _ _ 1 _ _ _ _ jT.nd rfl (Or.inl rfl) (aD cPeeledPlaces hr (by decide) rfl (@aa _ _ _ _ _ (pv 0) ag rfl)) rfl (by first | exact .inl rfl | exact .inr rfl | assumption))
  (@ah _ _ _ _ _ (@bJ _ _ _ _ _ _ _ _ (aJ dE (aB bh rfl B.b_len gX (@aa _ _ _ _ _ (pv 1) ag rfl)) (@aL _ _ _ _ _ _ _ aN (pv 0) ai (λ_ _=>rfl)) (aM _)) (@ak _ _ _ (@aH _ _ _ _ (@ck _ _ _ _ _ (@aa _ _ _ _ _ i9 (@aa _ _ _ _ _ (pv 1) ag rfl) rfl)))) aP)
  (@ak _ _ _ (@aH _ _ _ _ (@ck _ _ _ _ _ (@aa _ _ _ _ _ i9 (@aa _ _ _ _ _ (aD cLeastRing hr (by decide) rfl (@aa _ _ _ _ _ (pv 0) ag rfl)) ag rfl) rfl)))))),?_⟩
 obtain ⟨t,e1,e2⟩:=W.at'
 have O:=iU W
 refine ⟨_,rfl,ie.mpr ⟨r,m,ts,rfl,W,m2,λl H1 G s1 hl el pd rg hc pe =>?_⟩⟩
 have lm:(G.map V.int).length=G.length:=CS _
 have gm:=bE pd.1 rg
 refine ⟨_,rfl,l,_,rfl,.inl (SqL.of el),_,rfl,r,_,0,_,rfl,rfl,SqT.of (s1 _ _ e1),rfl,rfl,_,rfl,?_⟩
 rw[lm]
 by_cases h:G.length=m
 ·rw[decide_eq_true (by rw[h])]
  have gd:=pd.good O rg h
  refine bH ⟨_,rfl,(by show 2<=Dl;decide),λp hp=>q0 p l _ G (s1.trans (af hp _)) ae hl ((af hp _) _ _ el) (pd.CM O λv hv=>gd.1.mem_iff.mpr (cG.mpr hv)) pd rg h pe⟩
 ·rw[decide_eq_false (by intro z;injection z with z;lia)]
  have nw:¬ bS (ts.map (·.2)):=λw=>by
   apply Ew
   intro _
   have all:∀u:Int,0<=u/\u<m->u∈G:=λu hu=>Ew λnu=>stuck O w hu nu hc
   have:=Fb (gy m) (l₂:=G) λv hv=>all v (cG.mp hv)
   rw[show (rgI m).length=m by unfold rgI;simp] at this
   lia
  refine bM ⟨_,rfl,gh.mpr ⟨r,m,ts,rfl,W.same s1,by lia,λH2 s2 no =>?_,λz H2 Z M s2 ez hM mM hx hn ld =>?_⟩⟩
  ·obtain ⟨a,b,hab,na⟩:=zZ O nw
   exact absurd (no a b hab) na
  ·obtain ⟨x,y,hxy,al⟩:=hx
   have rgz:=al.ring O hxy
   exact ⟨(by show 2<=Dl;decide),λp hp=>q1 p z _ _ (s1.trans (s2.trans (af hp _))) ae ((af hp _) _ _ ez) nw (rgz.frm hM) (qW rgz.nd hM mM) ld⟩
end
theorem z9 {m:Nat}{E:List (List Int)}{a b:Int}(O:Ok m (E++[[a,b]]))[Decidable (Con E a b)]:(E++[[a,b]]).length+(aV (E++[[a,b]]) m m).length=E.length+(aV E m m).length+if Con E a b then 1 else 0:=by
 have er:(E++[[a,b]]).reverse=[a,b] :: E.reverse:=by rw[GH];rfl
 have O':Ok m ([a,b] :: E.reverse):=λt ht=>O t (by rw[<- er] at ht;exact Il.mp ht)
 have c:=zU O'
 rw[<- er,yj,FE,FE,yj] at c
 rw[c]
 have cc:Con E.reverse a b↔Con E a b:=⟨λz=>z.up λt ht=>Il.mp ht,λz=>z.up λt ht=>Il.mpr ht⟩
 by_cases h:Con E a b
 ·rw[if_pos h,if_pos (cc.mpr h)]
 ·rw[if_neg h,if_neg λz=>h (cc.mp z)]
open Classical in
theorem uO {m:Nat}:∀(n:Nat) (E:List (List Int)),E.length=n->Ok m E->m<=E.length+(aV E m m).length/\(bS E↔E.length+(aV E m m).length=m)
 | 0,E,hn,_=>by
  have:=FX.mp hn
  subst this
  have:=BF m
  exact ⟨by rw[this];show m<=0+m;lia,λ_=>by rw[this];show 0+m=m;lia,λ_=>rd⟩
 | n+1,E,hn,O=>by
  rcases Gj E with h | ⟨E',t,h⟩
  ·rw[h] at hn;cases hn
  rw[Gk] at h
  subst h
  obtain ⟨a,b,rfl,a0,ab,bm⟩:=O t (by simp)
  have O':Ok m E':=λt ht=>O t (Du _ ht)
  obtain ⟨ge,iff⟩:=uO n E' (by rw[C1] at hn;exact Mk hn) O'
  have s:=z9 O
  have down:bS (E'++[[a,b]])->bS E'/\¬ Con E' a b:=λw=>⟨λpre t post e a' b' et=>w pre t (post++[[a,b]]) (by rw[e];simp) a' b' et,w E' [a,b] [] rfl a b rfl⟩
  by_cases c:Con E' a b
  ·rw[if_pos c] at s
   exact ⟨by lia,λw=>absurd c (down w).2,λz=>by lia⟩
  ·rw[if_neg c] at s
   refine ⟨by lia,λw =>?_,λz=>wm (iff.mpr (by lia)) c⟩
   have:=iff.mp (down w).1
   lia
abbrev yF:Sp:=λvs H Q _=>∃(r p:Addr) (m:Nat) (ts:List (Addr×List Int)) (R:List Int),vs=[.ref r,.ref p]/\Wb H r m ts/\m<=200/\H p=some (.tup (R.map V.int))/\∀(H':Hp) (b:Bool),aA H H'->(b=true↔bS ((ts.map (·.2)).filter (off R)))->Q (.bl b) H'
@[irreducible] def lN:Sp:=yF
theorem bZ {vs:List V}{H:Hp}{Q:VK}{E:XK}:lN vs H Q E↔yF vs H Q E:=by
 delta lN
 exact E8
section
variable  {P:Dp}{w:DW}{K:CZ}{mg:Str->Option CU}{base:Heap}{f T:Addr}{fd:Eo}
theorem rh:aF ["web", "places"] ["web", "places"] (az gS):=⟨rfl,rfl,rfl,by decide +kernel,rfl,by decide +kernel,by decide +kernel⟩
theorem rj (F:Fun K "clears_web" "clears_web" gS f fd)(B:Blt mg)(cSpareTies:Cal P w K mg base 3 "spare_ties" ["web"] j8)(cCutWeb:Cal P w K mg base 1 "cut_web" ["web", "places"] nI):bF P w K mg base CX0 4 f fd ["web", "places"] lN:=by
 refine F.ok rh (λvs H Q E h =>?_) (λcdv A outer s H vs Q E hr h =>?_)
 ·obtain ⟨_,_,_,_,_,rfl,_⟩:=bZ.mp h
  rfl
 obtain ⟨r,p,m,ts,R,rfl,W,m4,hp,q⟩:=bZ.mp h
 refine ⟨_,(@ak _ _ _ (@aH _ _ _ _ (cK dE (aD cSpareTies hr (by decide) rfl (@aa _ _ _ _ _ (aD cCutWeb hr (by decide) rfl (@aa _ _ _ _ _ (pv 0) (@aa _ _ _ _ _ (pv 1) ag rfl) rfl)) ag rfl)) ai (aM _)))),?_⟩
 refine ⟨_,rfl,_,rfl,eV.mpr ⟨r,p,m,ts,R,rfl,W,.inr hp,λz us H1 s1 W1 e1 =>?_⟩⟩
 refine f7.mpr ⟨z,m,us,rfl,W1,by lia,λH2 s2=>⟨rfl,?_⟩⟩
 have l1:us.length=((ts.map (·.2)).filter (off R)).length:=by rw[<- e1,CS]
 rw[e1,l1]
 have ws:=(uO _ ((ts.map (·.2)).filter (off R)) rfl (fA (iU W) R)).2
 refine q _ _ (s1.trans s2) ?_
 rw[ws,decide_eq_true_iff]
 refine ⟨λh =>?_,λh =>?_⟩
 ·injection h with h;lia
 ·congr 1;lia
end
open PySem L2
def less (p:Int)(ps:List Int):List Int:=ps.filter λo=>decide (o≠p)
theorem nM {p:Int}{ps:List Int}{i:Nat}{x:Int}(e:ps[i]? = some x):(less p (ps.take (i+1))).map V.int=(less p (ps.take i)).map V.int++if x≠p then [.int x] else []:=by
 unfold less
 rw[DY,e,Gi,Dg]
 congr 1
 by_cases c:x=p
 ·rw[if_neg (by simpa using c)];simp[c]
 ·rw[if_pos c];simp[c]
abbrev uP:Sp:=λvs H Q _=>∃(q:Addr) (p:Int) (ps:List Int),vs=[.ref q,.int p]/\H q=some (.tup (ps.map V.int))/\ps.length<=500/\∀(z:Addr) (H':Hp),aA H H'->H' z=some (.tup ((less p ps).map V.int))->Q (.ref z) H'
@[irreducible] def lO:Sp:=uP
theorem fB {vs:List V}{H:Hp}{Q:VK}{E:XK}:lO vs H Q E↔uP vs H Q E:=by
 delta lO
 exact E8
section
variable  {P:Dp}{w:DW}{K:CZ}{mg:Str->Option CU}{base:Heap}{f T:Addr}{fd:Eo}
theorem lP:aF ["places", "place"] ["places", "place"] (az eE):=⟨rfl,rfl,rfl,by decide +kernel,rfl,by decide +kernel,by decide +kernel⟩
theorem dQ:(["other", "place"]:List Str).Nodup:=by decide +kernel
theorem lQ (F:Fun K "without_place" "without_place" eE f fd)(B:Blt mg):bF P w K mg base CX0 1 f fd ["places", "place"] lO:=by
 refine F.ok lP (λvs H Q E h =>?_) (λcdv A outer s H vs Q E hr h =>?_)
 ·obtain ⟨_,_,_,rfl,_⟩:=fB.mp h
  rfl
 obtain ⟨q,p,ps,rfl,eq,l5,k⟩:=fB.mp h
 refine ⟨_,(@ak _ _ _ (@aH _ _ _ _ (aS aY rfl B.b_tuple cQ (@aa _ _ _ _ _ (bj ["other", "place"] [none,some 1] rfl (@eY _ _ _ _ (pv 0)) rfl (λ_ _ _ _ _=>(au (i:=0) dQ rfl (Or.inl rfl))) (λ_ _ _ _ _=>(d9 (aJ mB (pv 0) (pv 1) (aM _)))) (λ_ _ _ _ _=>(pv 0))) ag rfl)))),?_⟩
 refine ⟨_,rfl,q,rfl,⟨_,SqT.of eq⟩,cu (xs:=ps.map V.int) (λi ys H'=>H'=H/\ys=(less p (ps.take i)).map V.int) ⟨rfl,rfl⟩ (by rw[CS];exact small (by lia)) (λi ys H' _ z=>by rw[z.1];exact SqT.of eq) ?_ ?_⟩
 ·rintro i x ys H3 hx hy ⟨eH,rfl⟩ R1 R0 r1 r0
  obtain ⟨v,ev,rfl⟩:=fG hx
  refine ⟨_,rfl,_,rfl,rfl,_,rfl,?_⟩
  by_cases c:v=p
  ·exact w6 (by rw[c]) (r0 _ ⟨eH,by rw[nM ev,if_neg (by simpa using c),DU]⟩)
  ·rw[decide_eq_false (by intro z;injection z with z;exact c z)]
   exact bH ⟨_,rfl,r1 _ _ ⟨eH,by rw[nM ev,if_pos c]⟩⟩
 rintro ys H3 hy ⟨eH,rfl⟩ l hl
 rw[eH] at hl ⊢
 rw[CS,Dj (C0 _)]
 have g4:=af hl (.lst ((less p ps).map V.int))
 exact ⟨l,_,rfl,.inl ⟨SqL.of ae,λz hz=>k z _ (g4.trans (af hz _)) ae⟩⟩
end
theorem dR {p x:Int}{ps:List Int}:x∈less p ps↔x∈ps/\x≠p:=by unfold less;rw[D1];simp
abbrev yG:Sp:=λvs H Q _=>∃(r q:Addr) (m:Nat) (p:Int) (ts:List (Addr×List Int)) (ps:List Int),vs=[.ref r,.ref q,.int p]/\Wb H r m ts/\m<=400/\H q=some (.tup (ps.map V.int))/\ps.length<=500/\(∀H',aA H H'->(∀a b,[a,b]∈(ts.map (·.2)).filter (off (less p ps))->p=a\/p=b->jY ((ts.map (·.2)).filter (off (less p ps))) a b)->Q .non H')/\∀(z:Addr) (H':Hp) (Z:List Int) (M:Int),aA H H'->H' z=some (.tup ((frm Z M).map V.int))->M∈Z->(∀b∈Z,M<=b)->(∃a b,[a,b]∈(ts.map (·.2)).filter (off (less p ps))/\(p=a\/p=b)/\Al ((ts.map (·.2)).filter (off (less p ps))) a b Z)->Q (.ref z) H'
@[irreducible] def uQ:Sp:=yG
theorem jD {vs:List V}{H:Hp}{Q:VK}{E:XK}:uQ vs H Q E↔yG vs H Q E:=by
 delta uQ
 exact E8
section
variable  {P:Dp}{w:DW}{K:CZ}{mg:Str->Option CU}{base:Heap}{f T:Addr}{fd:Eo}
theorem wq:aF ["web", "places", "place"] ["web", "places", "place"] (az lA):=⟨rfl,rfl,rfl,by decide +kernel,rfl,by decide +kernel,by decide +kernel⟩
theorem wt (F:Fun K "own_ring" "own_ring" lA f fd)(B:Blt mg)(cRingAt:Cal P w K mg base 5 "ring_at" ["web", "place"] iW)(cCutWeb:Cal P w K mg base 1 "cut_web" ["web", "places"] nI)(cWithoutPlace:Cal P w K mg base 1 "without_place" ["places", "place"] lO):bF P w K mg base CX0 6 f fd ["web", "places", "place"] uQ:=by
 refine F.ok wq (λvs H Q E h =>?_) (λcdv A outer s H vs Q E hr h =>?_)
 ·obtain ⟨_,_,_,_,_,_,rfl,_⟩:=jD.mp h
  rfl
 obtain ⟨r,q,m,p,ts,ps,rfl,W,m4,eq,l5,q0,q1⟩:=jD.mp h
 refine ⟨_,(@ak _ _ _ (@aH _ _ _ _ (aD cRingAt hr (by decide) rfl (@aa _ _ _ _ _ (aD cCutWeb hr (by decide) rfl (@aa _ _ _ _ _ (pv 0) (@aa _ _ _ _ _ (aD cWithoutPlace hr (by decide) rfl (@aa _ _ _ _ _ (pv 1) (@aa _ _ _ _ _ (pv 2) ag rfl) rfl)) ag rfl) rfl)) (@aa _ _ _ _ _ (pv 2) ag rfl) rfl)))),?_⟩
 refine ⟨_,rfl,_,rfl,_,rfl,fB.mpr ⟨q,p,ps,rfl,eq,l5,λz H1 s1 ez=>eV.mpr ⟨r,z,m,ts,less p ps,rfl,W.same s1,.inr ez,λc us H2 s2 Wc eu =>?_⟩⟩⟩
 refine ⟨_,rfl,fz.mpr ⟨c,m,p,us,rfl,Wc,m4,λH3 s3 no=>q0 H3 (s1.trans (s2.trans s3)) ?_,λz H3 Z M s3 ez hM mM hx=>q1 z H3 Z M (s1.trans (s2.trans s3)) ez hM mM ?_⟩⟩
 ·rw[eu] at no;exact no
 ·rw[eu] at hx;exact hx
end
def rest (R G:List Int):List Int:=G.filter λv => !decide (v∈R)
theorem yH {R:List Int}{a b:Int}:off R [a,b]=true↔a∉R/\b∉R:=by unfold off;simp
abbrev rn:Sp:=λvs H Q _=>∃(r p:Addr) (m:Nat) (ts:List (Addr×List Int)) (R:List Int),vs=[.ref r,.ref p]/\Wb H r m ts/\m<=200/\H p=some (.tup (R.map V.int))/\(∀v∈R,0<=v/\v<m)/\R.Nodup/\(∀(q l:Addr) (H':Hp) (G:List Int),aA H H'->H' q=some (.tup [.str "clears",.ref l])->H l=none->H' l=some (.lst ((rest R G).map V.int))->bS ((ts.map (·.2)).filter (off R))->G.Perm (rgI m)->Pld ((ts.map (·.2)).filter (off R)) G->yD m ((ts.map (·.2)).filter (off R)) G->Q (.ref q) H')/\∀(q z:Addr) (H':Hp) (F:List Int),aA H H'->H' q=some (.tup [.str "ring",.ref z])->H' z=some (.tup (F.map V.int))->¬ bS ((ts.map (·.2)).filter (off R))->Ring m ((ts.map (·.2)).filter (off R)) F->yx F->oU m ((ts.map (·.2)).filter (off R)) ((ts.map (·.2)).filter (off R)) F->Q (.ref q) H'
@[irreducible] def i3:Sp:=rn
theorem gi {vs:List V}{H:Hp}{Q:VK}{E:XK}:i3 vs H Q E↔rn vs H Q E:=by
 delta i3
 exact E8
section
variable  {P:Dp}{w:DW}{K:CZ}{mg:Str->Option CU}{base:Heap}{f T:Addr}{fd:Eo}
theorem i4:aF ["web", "places", "shown"] ["web", "places"] (az fU):=⟨rfl,rfl,rfl,by decide +kernel,rfl,by decide +kernel,by decide +kernel⟩
theorem dW:(["place", "places"]:List Str).Nodup:=by decide +kernel
theorem pg (F:Fun K "shown_clear" "shown_clear" fU f fd)(B:Blt mg)(cPeeledWeb:Cal P w K mg base 6 "peeled_web" ["web"] wo)(cCutWeb:Cal P w K mg base 1 "cut_web" ["web", "places"] nI):bF P w K mg base CX0 7 f fd ["web", "places"] i3:=by
 refine F.ok i4 (λvs H Q E h =>?_) (λcdv A outer s H vs Q E hr h =>?_)
 ·obtain ⟨_,_,_,_,_,rfl,_⟩:=gi.mp h
  rfl
 obtain ⟨r,p,m,ts,R,rfl,W,m2,hp,rR,nR,q0,q1⟩:=gi.mp h
 refine ⟨_,(@ah _ _ _ _ _ (@aK _ _ 2 _ _ _ _ i4.nd rfl (Or.inl rfl) (aD cPeeledWeb hr (by decide) rfl (@aa _ _ _ _ _ (aD cCutWeb hr (by decide) rfl (@aa _ _ _ _ _ (pv 0) (@aa _ _ _ _ _ (pv 1) ag rfl) rfl)) ag rfl)) rfl (by first | exact .inl rfl | exact .inr rfl | assumption))
  (@ah _ _ _ _ _ (@bJ _ _ _ _ _ _ _ _ (aJ dE (@aL _ _ _ _ _ _ _ aN (pv 2) ai (λ_ _=>rfl)) i9 (aM _)) (@ak _ _ _ (@aH _ _ _ _ (pv 2))) aP)
  (@ak _ _ _ (@aH _ _ _ _ (@ck _ _ _ _ _ (@aa _ _ _ _ _ i9 (@aa _ _ _ _ _ (bj ["place", "places"] [none,some 1] rfl (@bI _ _ _ _ (@aL _ _ _ _ _ _ _ aN (pv 2) ai (λ_ _=>rfl))) rfl (λ_ _ _ _ _=>(au (i:=0) dW rfl (Or.inl rfl))) (λ_ _ _ _ _=>(d9 (aJ (gp (K:=K)) (pv 0) (pv 1) rfl))) (λ_ _ _ _ _=>(pv 0))) ag rfl) rfl)))))),?_⟩
 have O:=iU W
 refine ⟨_,rfl,_,rfl,eV.mpr ⟨r,p,m,ts,R,rfl,W,.inr hp,λc us H1 s1 Wc eu =>?_⟩⟩
 refine iZ.mpr ⟨c,m,us,rfl,Wc,m2,λsh l H2 G s2 es hl el wd pd rg lG pe =>?_,λsh z H2 F s2 es ez nw rgf cn ld =>?_⟩
 ·rw[eu] at wd pd pe
  have s12:=s1.trans s2
  refine ⟨_,rfl,sh,_,0,_,rfl,rfl,SqT.of es,rfl,rfl,_,rfl,?_⟩
  rw[decide_eq_false (by intro z;injection z with z;exact absurd z (by decide))]
  refine bM ⟨_,rfl,sh,_,1,_,rfl,rfl,SqT.of es,rfl,l,rfl,⟨_,SqL.of el⟩,bT (xs:=G.map V.int) (λi ys H'=>H'=H2/\ys=(rest R (G.take i)).map V.int) ⟨rfl,rfl⟩ (by rw[CS];exact small (by lia)) (λi ys H' _ z=>by rw[z.1];exact SqL.of el) ?_ ?_⟩
  ·rintro i x ys H3 hx hy ⟨eH,rfl⟩ R1 R0 r1 r0
   obtain ⟨v,ev,rfl⟩:=fG hx
   refine ⟨_,rfl,_,rfl,p,_,rfl,.inr (SqT.of (by rw[eH];exact s12 _ _ hp)),rfl,dz R,_,rfl,?_⟩
   show if (if true=true then !inV (.int v) (R.map V.int) else _)=true then _ else _
   rw[if_pos rfl,dO]
   by_cases d:v∈R
   ·rw[decide_eq_true d]
    exact bM (r0 _ ⟨eH,by unfold rest;rw[cz ev,if_neg (by simp[d]),DU]⟩)
   ·rw[decide_eq_false d]
    exact bH ⟨_,rfl,r1 _ _ ⟨eH,by unfold rest;rw[cz ev,if_pos (by simp[d])]⟩⟩
  ·rintro ys H3 hy ⟨eH,rfl⟩ l2 hl2
   rw[eH] at hl2 ⊢
   rw[CS,Dj (C0 _)]
   have g3:=af hl2 (.lst ((rest R G).map V.int))
   refine ⟨(by show 2<=Dl;decide),λq2 hq2=>q0 q2 l2 _ G (s12.trans (g3.trans (af hq2 _))) ae (s12.free hl2) ((af hq2 _) _ _ ae) wd (pd.good (fA O R) rg lG).1 pd pe⟩
 ·rw[eu] at nw rgf ld
  refine ⟨_,rfl,sh,_,0,_,rfl,rfl,SqT.of es,rfl,rfl,_,rfl,bH ⟨_,rfl,q1 sh z H2 F (s1.trans s2) es ez nw rgf cn ld⟩⟩
end
open PySem L2
def rise (ns:List Int):Bool:=decide (ns.Pairwise (· < ·))
def adj (ns:List Int):List Bool:=List.zipWith (λa b=>decide (a<b)) ns (ns.drop 1)
theorem Aa (ns:List Int):(adj ns).length=ns.length-1:=by
 unfold adj
 rw[List.length_zipWith,Ea];lia
theorem uS:∀ns:List Int,(adj ns).all id=rise ns
 | []=>by unfold rise;simp[adj]
 | [a]=>by unfold rise;simp[adj]
 | a :: b :: t=>by
  have ih:=uS (b :: t)
  have e:adj (a :: b :: t)=decide (a<b) :: adj (b :: t):=rfl
  rw[e,KI,ih]
  unfold rise
  rw[Fo,Ey,decide_eq_true_iff,decide_eq_true_iff,Gf (l:=b :: t)]
  show decide (a<b)=true/\_↔_
  rw[decide_eq_true_iff]
  constructor
  ·rintro ⟨h,p⟩
   refine ⟨λx hx =>?_,p⟩
   rcases Dm.mp hx with rfl | hx
   ·exact h
   ·exact Int.lt_trans h ((Gf.mp p).1 x hx)
  ·rintro ⟨h,p⟩
   exact ⟨h b (Dr ..),p⟩
theorem tf (xs:List V):e6 xs (some 1) none=xs.drop 1:=by
 unfold e6 HT.sIx
 cases xs with
 | nil=>rfl
 | cons a l=>simp
theorem BL {ns:List Int}{i:Nat}{x y:V}(hx:(ns.map V.int)[i]? = some x)(hy:((ns.map V.int).drop 1)[i]? = some y):∃u v:Int,x = .int u/\y = .int v/\(adj ns)[i]? = some (decide (u<v)):=by
 rw[<- Gg,C8] at hy
 rw[C8] at hx
 obtain ⟨u,eu,rfl⟩:=EW.mp hx
 obtain ⟨v,ev,rfl⟩:=EW.mp hy
 refine ⟨u,v,rfl,rfl,?_⟩
 unfold adj
 rw[List.getElem?_zipWith,eu,ev]
def inR (m:Nat)(x:Int):Bool:=decide (0<=x) && decide (x<m)
def isSet (m:Nat)(ns:List Int):Bool:=rise ns && ns.all (inR m)
abbrev uT:Sp:=λvs H Q _=>∃(p:Addr) (ns:List Int),vs=[.ref p]/\H p=some (.tup (ns.map V.int))/\ns.length<=500/\∀H',aA H H'->Q (.bl (rise ns)) H'
@[irreducible] def ph:Sp:=uT
theorem ig {vs:List V}{H:Hp}{Q:VK}{E:XK}:ph vs H Q E↔uT vs H Q E:=by
 delta ph
 exact E8
section
variable  {P:Dp}{w:DW}{K:CZ}{mg:Str->Option CU}{base:Heap}{f T:Addr}{fd:Eo}
theorem tj:aF ["row"] ["row"] (az js):=⟨rfl,rfl,rfl,by decide +kernel,rfl,by decide +kernel,by decide +kernel⟩
theorem gj:(["one", "other"]:List Str).Nodup:=by decide +kernel
theorem tm (F:Fun K "is_rising" "is_rising" js f fd)(B:Blt mg):bF P w K mg base CX0 1 f fd ["row"] ph:=by
 refine F.ok tj (λvs H Q E h =>?_) (λcdv A outer s H vs Q E hr h =>?_)
 ·obtain ⟨_,_,rfl,_⟩:=ig.mp h
  rfl
 obtain ⟨p,ns,rfl,ep,l5,q⟩:=ig.mp h
 refine ⟨_,(@ak _ _ _ (@aH _ _ _ _ (aB (kJ rfl) rfl B.b_all sQ (@aa _ _ _ _ _ (bj ["one", "other"] [none,none] rfl (zK false false rfl B.b_zip (@aa _ _ _ _ _ (pv 0) (@aa _ _ _ _ _ (bP dg (pv 0) (bU ai) cC) ag rfl) rfl)) rfl (λ_ _ _ _ _=>(pZ (K:=K) (i:=0) (j:=1) gj rfl rfl (Or.inl rfl) (Or.inl rfl))) (λ_ _ _ _ _=>cD) (λ_ _ _ _ _=>(cK tH (pv 0) (pv 1) (aM _)))) ag rfl)))),?_⟩
 have lm:(ns.map V.int).length=ns.length:=CS _
 refine ⟨_,rfl,_,rfl,1,rfl,p,_,rfl,ep,λp2 H2 s2 e2 =>?_⟩
 rw[tf] at e2
 have ep2:=s2 _ _ ep
 have ld:((ns.map V.int).drop 1).length=ns.length-1:=by rw[Ea,lm]
 refine ⟨p,p2,rfl,⟨_,SqT.of ep2⟩,⟨_,SqT.of e2⟩,Cs (ns.length-1) (by rw[lm];lia) (by rw[ld];lia) (.inr ld.symm) (λi zs H'=>aA H2 H'/\zs=((adj ns).take i).map V.bl) (by decide) ⟨aA.refl _,rfl⟩ (small (by lia)) (λi zs H' _ k=>⟨SqT.of (k.1 _ _ ep2),SqT.of (k.1 _ _ e2)⟩) ?_ ?_⟩
 ·rintro i x y zs H' T' hx hy lz hT' ⟨s',rfl⟩ R1 R0 r1 r0
  obtain ⟨u,v,rfl,rfl,euv⟩:=BL hx hy
  refine bH ⟨_,rfl,_,rfl,_,_,rfl,rfl,r1 _ _ ⟨s'.trans (af hT' _),?_⟩⟩
  rw[DY,euv,Dg];rfl
 ·rintro zs H' lz ⟨s',rfl⟩ c5 hc5
  rw[show (adj ns).take (ns.length-1)=adj ns from Dj (by rw[Aa];exact C0 _)]
  refine ⟨c5,_,rfl,SqL.of ae,?_⟩
  rw[uS]
  exact q _ (s2.trans (s'.trans (af hc5 _)))
end
abbrev yI:Sp:=λvs H Q _=>∃(r p:Addr) (m:Nat) (ts:List (Addr×List Int)) (ns:List Int),vs=[.ref r,.ref p]/\Wb H r m ts/\H p=some (.tup (ns.map V.int))/\ns.length<=500/\∀H',aA H H'->Q (.bl (isSet m ns)) H'
@[irreducible] def uU:Sp:=yI
theorem jE {vs:List V}{H:Hp}{Q:VK}{E:XK}:uU vs H Q E↔yI vs H Q E:=by
 delta uU
 exact E8
section
variable  {P:Dp}{w:DW}{K:CZ}{mg:Str->Option CU}{base:Heap}{f T:Addr}{fd:Eo}
theorem wx:aF ["web", "places"] ["web", "places"] (az lb):=⟨rfl,rfl,rfl,by decide +kernel,rfl,by decide +kernel,by decide +kernel⟩
theorem gE:(["place", "web"]:List Str).Nodup:=by decide +kernel
theorem wz (F:Fun K "is_set_of" "is_set_of" lb f fd)(B:Blt mg)(cIsRising:Cal P w K mg base 1 "is_rising" ["row"] ph):bF P w K mg base CX0 2 f fd ["web", "places"] uU:=by
 refine F.ok wx (λvs H Q E h =>?_) (λcdv A outer s H vs Q E hr h =>?_)
 ·obtain ⟨_,_,_,_,_,rfl,_⟩:=jE.mp h
  rfl
 obtain ⟨r,p,m,ts,ns,rfl,W,ep,l5,q⟩:=jE.mp h
 refine ⟨_,(@ak _ _ _ (@aH _ _ _ _ (wH (aD cIsRising hr (by decide) rfl (@aa _ _ _ _ _ (pv 1) ag rfl)) (wG (aB (kJ rfl) rfl B.b_all sQ (@aa _ _ _ _ _ (bj ["place", "web"] [none,some 0] rfl (@eY _ _ _ _ (pv 1)) rfl (λ_ _ _ _ _=>(au (i:=0) gE rfl (Or.inl rfl))) (λ_ _ _ _ _=>cD) (λ_ _ _ _ _=>(wQ Ai tH ai (pv 0) (@aL _ _ _ _ _ _ _ (fe (K:=K)) (pv 1) ai (λ_ _=>rfl))))) ag rfl)))))),?_⟩
 obtain ⟨t,e1,e2⟩:=W.at'
 refine ⟨_,rfl,ig.mpr ⟨p,ns,rfl,ep,l5,λH1 s1=>⟨_,rfl,iB (λz =>?_) (λz =>?_)⟩⟩⟩
 ·refine ⟨_,rfl,p,rfl,⟨_,SqT.of (s1 _ _ ep)⟩,cu (xs:=ns.map V.int) (λi ys H'=>H'=H1/\ys=((ns.take i).map (inR m)).map V.bl) ⟨rfl,rfl⟩ (by rw[CS];exact small (by lia)) (λi ys H' _ h=>by rw[h.1];exact SqT.of (s1 _ _ ep)) ?_ ?_⟩
  ·rintro i v ys H' hv hy ⟨rfl,rfl⟩ R1 R0 r1 r0
   obtain ⟨x,ex,rfl⟩:=fG hv
   refine bH ⟨_,rfl,_,_,rfl,rfl,_,rfl,iB (λy =>?_) (λy=>r1 _ _ ⟨rfl,?_⟩)⟩
   ·refine ⟨_,rfl,r,_,0,_,rfl,rfl,SqT.of (s1 _ _ e1),rfl,_,_,rfl,rfl,r1 _ _ ⟨rfl,?_⟩⟩
    rw[take_snoc ex,Dg,show inR m x=decide (x<m) by unfold inR;rw[y,Mg]];rfl
   ·rw[take_snoc ex,Dg,show inR m x=false by unfold inR;rw[F0.mpr y,Hm]];rfl
  rintro ys H' hy ⟨eH',rfl⟩ al hal
  rw[eH'] at hal ⊢
  rw[CS,show ns.take ns.length=ns from JD]
  refine ⟨al,_,rfl,SqL.of ae,?_⟩
  have e:((ns.map (inR m)).all id)=isSet m ns:=by
   unfold isSet;rw[z,Mg,Mj];rfl
  rw[e]
  exact q _ (s1.trans (af hal _))
 ·have e:isSet m ns=false:=by
   unfold isSet;rw[F0.mpr z,Hm]
  rw[e] at q
  exact q _ s1
end
open PySem L2
theorem yJ {m:Nat}{ns:List (List Int)}(O:Ok m ns){p u v:Int}(no:∀a b,[a,b]∈ns->p=a\/p=b->jY ns a b)(tu:nrm p u∈ns)(tv:nrm p v∈ns)(c:Con (ns.filter (off [p])) u v):u=v:=by
 apply Ew
 intro ne
 have nl:∀o,nrm p o∈ns->p≠o:=λo ho eo=>by
  subst eo
  rw[ba (Kv p)] at ho
  exact (no p p ho (.inl rfl)).1 rfl
 have pu:=nl u tu
 have pv:=nl v tv
 rcases Ie p u with c2 | c2
 ·rw[ba c2] at tu
  have w:Wk (stp ns p u) p 1 v :=.st .z ⟨(b8 O).mpr ⟨pv,tv⟩,.inr (Ee ne)⟩
  obtain ⟨n,w'⟩:=qY O (.inl rfl) (c.symm (oX O _)) w
  exact (no p u tu (.inl rfl)).2.2 n w'
 ·rw[bL,ba c2] at tu
  obtain ⟨n,w'⟩:=qY (s:=u) (g:=p) O (.inr rfl) c .z
  exact (no u p tu (.inr rfl)).2.2 (n+1) (.st w' ⟨(b8 O).mpr ⟨Ee pv,Td.symm _ _ tv⟩,.inl (Ee ne)⟩)
theorem yK {m:Nat}{ns:List (List Int)}(O:Ok m ns){p a v:Int}(ha:a≠p)(c:Con ns a v) :
  (v≠p->Con (ns.filter (off [p])) a v\/∃x y,nrm p x∈ns/\nrm p y∈ns/\Con (ns.filter (off [p])) a x/\Con (ns.filter (off [p])) y v)/\(v=p->∃x,nrm p x∈ns/\Con (ns.filter (off [p])) a x):=by
 induction c with
 | refl=>exact ⟨λ_ =>.inl (.refl _),λe=>absurd e ha⟩
 | step c aj ih =>
  rename_i y z
  obtain ⟨ne,td⟩:=(b8 O).mp aj
  refine ⟨λhz =>?_,λhz =>?_⟩
  ·by_cases hy:y=p
   ·subst hy
    obtain ⟨x,tx,cx⟩:=ih.2 rfl
    exact .inr ⟨x,z,tx,td,cx,.refl _⟩
   ·rcases ih.1 hy with h | ⟨x1,y1,t1,t2,h1,h2⟩
    ·exact .inl (.step h (qX O aj hy hz))
    ·exact .inr ⟨x1,y1,t1,t2,h1,.step h2 (qX O aj hy hz)⟩
  ·subst hz
   rcases ih.1 ne with h | ⟨x1,y1,t1,_,h1,_⟩
   ·exact ⟨y,Td.symm _ _ td,h⟩
   ·exact ⟨x1,t1,h1⟩
theorem wA {m:Nat}{E:List (List Int)}(O:Ok m E){p:Int}(no:∀a b,[a,b]∈E->p=a\/p=b->jY E a b)(w:bS (E.filter (off [p]))):bS E:=by
 intro pre t post e a b et c
 subst et
 have hin:[a,b]∈E:=by rw[e];simp
 have Op:Ok m pre:=λt ht=>O t (by rw[e];exact Du _ ht)
 have sub:∀t∈pre,t∈E:=λt ht=>by rw[e];exact Du _ ht
 by_cases hp:p=a\/p=b
 ·have nal:=no a b hin hp
  obtain ⟨_,_,ee,a0,ab,bm⟩:=O _ hin
  cases ee
  have np:[a,b]∉pre:=λhp=>by
   have:=nal.2.1
   rw[e,Lg,Kn] at this
   have:=Fc.mpr hp
   lia
  have:∀{v:Int},Con pre a v->∃n,Wk (stp E a b) a n v:=λ{v} c=>by
   induction c with
   | refl=>exact ⟨0,.z⟩
   | step cc aj ih =>
    rename_i y z
    obtain ⟨n,w⟩:=ih
    obtain ⟨ne,td⟩:=(b8 Op).mp aj
    refine ⟨n+1,.st w ⟨(b8 O).mpr ⟨ne,sub _ td⟩,?_⟩⟩
    by_cases h1:y=a
    ·right;intro h2;subst h1;subst h2
     unfold Td at td
     rw[ba ab] at td
     exact np td
    ·exact .inl h1
  obtain ⟨n,w⟩:=this c
  exact nal.2.2 n w
 have ha:a≠p:=λz=>hp (.inl z.symm)
 have hb:b≠p:=λz=>hp (.inr z.symm)
 have ob:off [p] [a,b]=true:=by unfold off;simp[ha,hb]
 have key:¬ Con (pre.filter (off [p])) a b:=w (pre.filter (off [p])) [a,b] (post.filter (off [p])) (by rw[e,Gi,EO ob]) a b rfl
 rcases (yK Op ha c).1 hb with h | ⟨x,y,tx,ty,hx,hy⟩
 ·exact key h
 have up:∀t∈pre.filter (off [p]),t∈E.filter (off [p]):=λt ht=>D1.mpr ⟨sub _ (D1.mp ht).1,(D1.mp ht).2⟩
 by_cases xy:x=y
 ·subst xy
  exact key (hx.trans hy)
 have O':=oX O [p]
 have aj:Con (E.filter (off [p])) a b:=by
  by_cases ab:a=b
  ·rw[ab];exact .refl _
  ·obtain ⟨_,_,ee,a0,le,bm⟩:=O _ hin
   cases ee
   exact .step (.refl _) ((b8 O').mpr ⟨ab,by unfold Td;rw[ba le];exact D1.mpr ⟨hin,ob⟩⟩)
 have cxy:Con (E.filter (off [p])) x y:=(((hx.up up).symm O').trans aj).trans ((hy.up up).symm O')
 exact xy (yJ O no (sub _ tx) (sub _ ty) cxy)
theorem Ab {ps:List Int}{p:Int}(hp:p∈ps)(E:List (List Int)):(E.filter (off (less p ps))).filter (off [p])=E.filter (off ps):=by
 rw[HP]
 refine Gz λt _ =>?_
 have k:∀v:Int,(v∈ps↔v∈[p]\/v∈less p ps):=λv=>by
  rw[C2,dR]
  by_cases e:v=p
  ·rw[e];simp[hp]
  ·simp[e]
 unfold off
 generalize t.getD 0 0=x
 generalize t.getD 1 0=y
 have:=k x
 have:=k y
 by_cases a1:x∈[p] <;> by_cases a2:x∈less p ps <;> by_cases b1:y∈[p] <;> by_cases b2:y∈less p ps <;> simp_all
theorem nN {E:List (List Int)}{ps qs:List Int}(h:∀v∈ps,v∈qs)(w:bS (E.filter (off ps))):bS (E.filter (off qs)):=by
 have:E.filter (off qs)=(E.filter (off ps)).filter (off qs):=by
  rw[HP]
  refine Gz λt _ =>?_
  unfold off
  have h1:∀v,v∉qs->v∉ps:=λv hv hp=>hv (h v hp)
  generalize t.getD 0 0=x
  generalize t.getD 1 0=y
  by_cases a1:x∈qs
  ·simp[a1]
  ·by_cases b1:y∈qs
   ·simp[b1]
   ·simp[a1,b1,h1 x a1,h1 y b1]
 rw[this]
 exact jS w _
structure Rws (H:Hp)(m:Nat)(E:List (List Int))(ps:List Int)(ks:List (Addr×Int×Addr×List Int)):Prop where
 row:∀k∈ks,H k.1=some (.tup [.int k.2.1,.ref k.2.2.1])/\H k.2.2.1=some (.tup (k.2.2.2.map V.int))/\Ring m E k.2.2.2/\yx k.2.2.2/\k.2.1∈k.2.2.2/\∀v∈k.2.2.2,v∈ks.map (·.2.1)->v=k.2.1
 sub:(ks.map (·.2.1)).Sublist ps
 wd:bS (E.filter (off (ks.map (·.2.1))))
 mn:∀p∈ks.map (·.2.1),¬ bS (E.filter (off (less p (ks.map (·.2.1)))))
theorem rq (p:Int)(ps:List Int):(less p ps).Sublist ps:=by unfold less;exact IE
theorem Ac {ps:List Int}{u v:Int}(h:off ps (nrm u v)=true):u∉ps/\v∉ps:=by
 rcases Ie u v with c | c
 ·rw[ba c] at h;unfold off at h;simpa using h
 ·rw[bL,ba c] at h;unfold off at h;simpa [and_comm] using h
abbrev uV:Sp:=λvs H Q _=>∃(r q:Addr) (m:Nat) (ts:List (Addr×List Int)) (ps:List Int),vs=[.ref r,.ref q]/\Wb H r m ts/\m<=200/\H q=some (.tup (ps.map V.int))/\ps.length<=400/\bS ((ts.map (·.2)).filter (off ps))/\∀(l:Addr) (ks:List (Addr×Int×Addr×List Int)) (H':Hp),H l=none->aA H H'->H' l=some (.lst (ks.map λk =>.ref k.1))->Rws H' m (ts.map (·.2)) ps ks->Q (.ref l) H'
@[irreducible] def pk:Sp:=uV
theorem ij {vs:List V}{H:Hp}{Q:VK}{E:XK}:pk vs H Q E↔uV vs H Q E:=by
 delta pk
 exact E8
section
variable  {P:Dp}{w:DW}{K:CZ}{mg:Str->Option CU}{base:Heap}{f T:Addr}{fd:Eo}
theorem cI:aF ["web", "places", "needed", "place", "fewer"] ["web", "places"] (az fV):=⟨rfl,rfl,rfl,by decide +kernel,rfl,by decide +kernel,by decide +kernel⟩
theorem cV:(["place", "web", "needed"]:List Str).Nodup:=by decide +kernel
theorem pq (F:Fun K "thinned_cut" "thinned_cut" fV f fd)(B:Blt mg)(cClearsWeb:Cal P w K mg base 4 "clears_web" ["web", "places"] lN)(cWithoutPlace:Cal P w K mg base 1 "without_place" ["places", "place"] lO)(cOwnRing:Cal P w K mg base 6 "own_ring" ["web", "places", "place"] uQ):bF P w K mg base CX0 7 f fd ["web", "places"] pk:=by
 refine F.ok cI (λvs H Q E h =>?_) (λcdv A outer s H vs Q E hr h =>?_)
 ·obtain ⟨_,_,_,_,_,rfl,_⟩:=ij.mp h
  rfl
 obtain ⟨r,q,m,ts,ps,rfl,W,m2,eq,l4,w0,q1⟩:=ij.mp h
 refine ⟨_,(@ah _ _ _ _ _ (@bJ _ _ _ _ _ _ _ _ (kq (fI (aD cClearsWeb hr (by decide) rfl (@aa _ _ _ _ _ (pv 0) (@aa _ _ _ _ _ (pv 1) ag rfl) rfl)))) dk aP)
  (@ah _ _ _ _ _ (@aK _ _ 2 _ _ _ _ cI.nd rfl (Or.inr rfl) (pv 1) rfl (by first | exact .inl rfl | exact .inr rfl | assumption))
  (@ah _ _ _ _ _ (@cj _ _ _ _ _ _ _ _ Eh rfl (@eY _ _ _ _ (pv 1)) (au (i:=3) cI.nd rfl (Or.inl rfl))
   (@ah _ _ _ _ _ (@aK _ _ 4 _ _ _ _ cI.nd rfl (Or.inl rfl) (aD cWithoutPlace hr (by decide) rfl (@aa _ _ _ _ _ (pv 2) (@aa _ _ _ _ _ (pv 3) ag rfl) rfl)) rfl (by first | exact .inl rfl | exact .inr rfl | assumption))
   (@ak _ _ _ (@bJ _ _ _ _ _ _ _ _ (fI (aD cClearsWeb hr (by decide) rfl (@aa _ _ _ _ _ (pv 0) (@aa _ _ _ _ _ (pv 4) ag rfl) rfl))) (@ak _ _ _ (@aK _ _ 2 _ _ _ _ cI.nd rfl (Or.inr rfl) (pv 4) rfl (by first | exact .inl rfl | exact .inr rfl | assumption))) aP))) (λ_=>rfl))
  (@ak _ _ _ (@aH _ _ _ _ (bj ["place", "web", "needed"] [none,some 0,some 2] rfl (@eY _ _ _ _ (pv 2)) rfl (λ_ _ _ _ _=>(au (i:=0) cV rfl (Or.inl rfl))) (λ_ _ _ _ _=>cD) (λ_ _ _ _ _=>(@ck _ _ _ _ _ (@aa _ _ _ _ _ (pv 0) (@aa _ _ _ _ _ (aD cOwnRing hr (by decide) rfl (@aa _ _ _ _ _ (pv 1) (@aa _ _ _ _ _ (pv 2) (@aa _ _ _ _ _ (pv 0) ag rfl) rfl) rfl)) ag rfl) rfl))))))))),?_⟩
 have O:=iU W
 refine ⟨_,rfl,_,rfl,bZ.mpr ⟨r,q,m,ts,ps,rfl,W,m2,eq,λH1 b1 s1 h1=>⟨_,rfl,?_⟩⟩⟩
 have:b1=true:=h1.mpr w0
 subst this
 refine bM ?_
 refine ⟨_,rfl,?_⟩
 let W0:Nat->St->Hp->Prop:=λi σ H'=>∃(nq:Addr) (ns:List Int) (c3 c4:Option V),σ=[some (.ref r),some (.ref q),some (.ref nq),c3,c4]/\aA H H'/\H' nq=some (.tup (ns.map V.int))/\ns.Sublist ps/\bS ((ts.map (·.2)).filter (off ns))/\∀p∈ps.take i,p∈ns->¬ bS ((ts.map (·.2)).filter (off (less p ns)))
 refine ⟨_,rfl,q,rfl,⟨_,SqT.of (s1 _ _ eq)⟩,yQ (xs:=ps.map V.int) W0 ⟨q,ps,_,_,rfl,s1,s1 _ _ eq,List.Sublist.refl _,w0,λp hp=>by simp at hp⟩ (λi σ H' _ h=>by obtain ⟨_,_,_,_,_,s',_⟩:=h;exact SqT.of (s' _ _ eq)) ?_ ?_⟩
 ·rintro i x σ H2 hx ⟨nq,ns,c3,c4,rfl,s2,en,sn,wn,nn⟩
  obtain ⟨p,ep,rfl⟩:=fG hx
  refine ⟨_,rfl,_,rfl,fB.mpr ⟨nq,p,ns,rfl,en,by have:=sn.length_le;lia,λz H3 s3 ez =>?_⟩⟩
  refine ⟨_,rfl,_,rfl,bZ.mpr ⟨r,z,m,ts,less p ns,rfl,W.same (s2.trans s3),m2,ez,λH4 b4 s4 h4=>⟨_,rfl,?_⟩⟩⟩
  have s24:=s2.trans (s3.trans s4)
  have tk:∀v∈ps.take (i+1),v∈ps.take i\/v=p:=λv hv=>by
   rw[DY,ep] at hv
   rcases Dd.mp hv with y | y
   ·exact .inl y
   ·exact .inr (by simpa using y)
  cases b4 with
  | true =>
   refine bH ⟨_,rfl,z,less p ns,_,_,rfl,s24,s4 _ _ ez,(rq p ns).trans sn,h4.mp rfl,λv hv hm w =>?_⟩
   obtain ⟨hm1,hm2⟩:=dR.mp hm
   rcases tk v hv with y | y
   ·refine nn v y hm1 (nN (λu hu =>?_) w)
    obtain ⟨h1,h2⟩:=dR.mp hu
    exact dR.mpr ⟨(dR.mp h1).1,h2⟩
   ·exact hm2 y
  | false =>
   refine bM ⟨nq,ns,_,_,rfl,s24,s4 _ _ (s3 _ _ en),sn,wn,λv hv hm w =>?_⟩
   rcases tk v hv with y | y
   ·exact nn v y hm w
   ·subst y
    exact Di (h4.mpr w)
 ·rintro σ H2 ⟨nq,ns,c3,c4,rfl,s2,en,sn,wn,nn⟩
  rw[CS,Dj (C0 _)] at nn
  have ln:=sn.length_le
  let W1:Nat->List V->Hp->Prop:=λi ys H'=>aA H2 H'/\∃ks:List (Addr×Int×Addr×List Int),ys=(ks.map λk =>.ref k.1)/\ks.map (·.2.1)=ns.take i/\∀k∈ks,H' k.1=some (.tup [.int k.2.1,.ref k.2.2.1])/\H' k.2.2.1=some (.tup (k.2.2.2.map V.int))/\Ring m (ts.map (·.2)) k.2.2.2/\yx k.2.2.2/\k.2.1∈k.2.2.2/\∀v∈k.2.2.2,v∈ns->v=k.2.1
  refine ⟨_,rfl,nq,rfl,⟨_,SqT.of en⟩,cu (xs:=ns.map V.int) W1 ⟨aA.refl _,[],rfl,rfl,λk hk=>by cases hk⟩ (by rw[CS];exact small (by lia)) (λi ys H' _ z=>SqT.of (z.1 _ _ en)) ?_ ?_⟩
  ·rintro i x ys H3 hx hy ⟨s3,ks,rfl,ek,rk⟩ R1 R0 r1 r0
   obtain ⟨p,ep,rfl⟩:=fG hx
   have hp:p∈ns:=C7 ep
   have O':=fA O (less p ns)
   refine bH ⟨_,rfl,_,rfl,_,rfl,_,rfl,jD.mpr ⟨r,nq,m,p,ts,ns,rfl,W.same (s2.trans s3),by lia,s3 _ _ en,by lia,λH4 s4 no =>?_,λz H4 Y M s4 ez hM mM hx =>?_⟩⟩
   ·exact absurd (wA O' no (by rw[Ab hp];exact wn)) (nn p (sn.subset hp) hp)
   ·obtain ⟨a,b,hab,pab,al⟩:=hx
    have R:=al.ring O' hab
    have pY:p∈Y:=by
     rcases pab with rfl | rfl
     ·exact al.has.1
     ·exact al.has.2
    have fp:=qV hM
    refine ⟨(by show 2<=Dl;decide),λy hy2 =>?_⟩
    have g5:=af hy2 (.tup [.int p,.ref z])
    refine r1 _ _ ⟨s3.trans (s4.trans g5),ks++[(y,p,z,frm Y M)],by rw[Dg];rfl,?_,λk hk =>?_⟩
    ·rw[Dg,ek,DY,ep];rfl
    ·rcases Dd.mp hk with c | c
     ·obtain ⟨h1,h2,h3⟩:=rk k c
      exact ⟨g5 _ _ (s4 _ _ h1),g5 _ _ (s4 _ _ h2),h3⟩
     ·rw[C2] at c
      subst c
      refine ⟨ae,g5 _ _ ez,(R.frm hM).mono (sV _ _),qW R.nd hM mM,fp.mem_iff.mpr pY,λv hv hvn =>?_⟩
      obtain ⟨u,hu⟩:=R.tied (fp.mem_iff.mp hv)
      have nv:=(Ac (D1.mp hu).2).2
      exact Ew λe=>nv (dR.mpr ⟨hvn,e⟩)
  ·rintro ys H3 hy ⟨s3,ks,rfl,ek,rk⟩ l hl
   rw[CS,Dj (C0 _)] at ek
   have g4:=af hl (.lst (ks.map λk =>.ref k.1))
   refine q1 l ks _ ((s2.trans s3).free hl) (s2.trans (s3.trans g4)) ae ⟨λk hk =>?_,by rw[ek];exact sn,by rw[ek];exact wn,by rw[ek];exact λp hp=>nn p (sn.subset hp) hp⟩
   obtain ⟨h1,h2,h3,h4,h5,h6⟩:=rk k hk
   exact ⟨g4 _ _ h1,g4 _ _ h2,h3,h4,h5,λv hv hm=>h6 v hv (by rw[ek] at hm;exact hm)⟩
end
open PySem L2
abbrev nO:Sp:=λvs H Q _=>∃(r p:Addr) (m:Nat) (ts:List (Addr×List Int)) (Z:List Int),vs=[.ref r,.ref p]/\Wb H r m ts/\m<=200/\H p=some (.tup (Z.map V.int))/\Ring m (ts.map (·.2)) Z/\∀H',aA H H'->Q (.bl true) H'
@[irreducible] def i5:Sp:=nO
theorem fC {vs:List V}{H:Hp}{Q:VK}{E:XK}:i5 vs H Q E↔nO vs H Q E:=by
 delta i5
 exact E8
theorem wB:∀{us ns:List Int},us.Nodup->ns.Nodup->(∀k,k∈us↔k∈ns)->us.length=ns.length:=λh1 h2 h=>((Hj h1 h2).mpr h).length_eq
section
variable  {P:Dp}{w:DW}{K:CZ}{mg:Str->Option CU}{base:Heap}{f T:Addr}{fd:Eo}
theorem lR:aF ["web", "ring", "at", "place"] ["web", "ring"] (az oE):=⟨rfl,rfl,rfl,by decide +kernel,rfl,by decide +kernel,by decide +kernel⟩
theorem yL (F:Fun K "is_ring" "is_ring" oE f fd)(B:Blt mg)(cTiedTimes:Cal P w K mg base 2 "tied_times" ["web", "one", "other"] iT):bF P w K mg base CX0 3 f fd ["web", "ring"] i5:=by
 refine F.ok lR (λvs H Q E h =>?_) (λcdv A outer s H vs Q E hr h =>?_)
 ·obtain ⟨_,_,_,_,_,rfl,_⟩:=fC.mp h
  rfl
 obtain ⟨r,p,m,ts,Z,rfl,W,m2,ep,R,q⟩:=fC.mp h
 refine ⟨_,(@ah _ _ _ _ _ (@bJ _ _ _ _ _ _ _ _ (PW.pt (my (aJ dE (aB bh rfl B.b_len gX (@aa _ _ _ _ _ (pv 1) ag rfl)) ai (aM _)) (jb (aJ mB (aB qz rfl B.b_len gX (@aa _ _ _ _ _ (aS (sv (w:=w) rfl hr.hd) rfl B.b_set yc (@aa _ _ _ _ _ (pv 1) ag rfl)) ag rfl)) (aB bh rfl B.b_len gX (@aa _ _ _ _ _ (pv 1) ag rfl)) (aM _))))) dk aP)
  (@ah _ _ _ _ _ (@bJ _ _ _ _ _ _ _ _ (aJ dE (aB bh rfl B.b_len gX (@aa _ _ _ _ _ (pv 1) ag rfl)) ai (aM _)) (@ak _ _ _ (@aH _ _ _ _ (cK wO (aD cTiedTimes hr (by decide) rfl (@aa _ _ _ _ _ (pv 0) (@aa _ _ _ _ _ (@aL _ _ _ _ _ _ _ aN (pv 1) ai (λ_ _=>rfl)) (@aa _ _ _ _ _ (@aL _ _ _ _ _ _ _ aN (pv 1) ai (λ_ _=>rfl)) ag rfl) rfl) rfl)) ai (aM _)))) aP)
  (@ah _ _ _ _ _ (@cj _ _ _ _ _ _ _ _ Eh rfl (zc rfl B.b_enumerate (@aa _ _ _ _ _ (pv 1) ag rfl)) (dB rfl (aR (au (i:=2) lR.nd rfl (Or.inl rfl)) (aR (au (i:=3) lR.nd rfl (Or.inl rfl)) cB)))
   (@ak _ _ _ (@bJ _ _ _ _ _ _ _ _ (aJ dE (aD cTiedTimes hr (by decide) rfl (@aa _ _ _ _ _ (pv 0) (@aa _ _ _ _ _ (@aL _ _ _ _ _ _ _ aN (pv 1) (@aO _ _ _ _ _ _ _ _ gM (pv 2) ai) (λ_ _=>rfl)) (@aa _ _ _ _ _ (pv 3) ag rfl) rfl) rfl)) ai (aM _)) (@ak _ _ _ (@aH _ _ _ _ gF)) aP)) (λ_=>rfl))
  (@ak _ _ _ (@aH _ _ _ _ gF))))),?_⟩
 have lz:(Z.map V.int).length=Z.length:=CS _
 have pos:=GO.mpr R.ne
 have l2:=bE R.nd R.rng
 refine ⟨_,rfl,p,_,rfl,.inr (SqT.of ep),rfl,_,rfl,?_⟩
 rw[lz,decide_eq_false (by intro z;injection z with z;lia)]
 refine bM ⟨_,rfl,p,Z,rfl,.inr (SqT.of ep),by lia,λa us ha mu nu lu =>?_⟩
 have ga:=af ha (eD w a (us.map V.int))
 have lus:=wB nu R.nd mu
 refine ⟨a,us.map V.int,rfl,ae,by rw[CS];lia,?_⟩
 generalize upd H a (eD w a (us.map V.int))=H1 at ga
 refine ⟨_,rfl,p,_,rfl,.inr (SqT.of (ga _ _ ep)),rfl,_,rfl,?_⟩
 rw[lz,CS,lus]
 refine w6 rfl ?_
 have ep1:=ga _ _ ep
 have W1:=W.same ga
 refine ⟨_,rfl,p,_,rfl,.inr (SqT.of ep1),rfl,_,rfl,iB (λz =>?_) λz =>?_⟩
 ·rw[lz,decide_eq_true_iff] at z
  injection z with z
  obtain ⟨x,y,rfl⟩:∃x y,Z=[x,y]:=by
   match Z,z with
   | [x,y],_=>exact ⟨x,y,rfl⟩
  have:=R.two x y rfl
  refine ⟨_,rfl,_,rfl,p,_,0,_,rfl,rfl,SqT.of ep1,rfl,_,rfl,p,_,1,_,rfl,rfl,SqT.of ep1,rfl,cU.mpr ⟨r,m,x,y,ts,rfl,W1,λH2 s2=>⟨_,_,rfl,rfl,?_⟩⟩⟩
  show Q (.bl (decide ((2:Int)<=(((ts.map (·.2)).count (nrm x y):Nat):Int)))) H2
  rw[decide_eq_true (by lia)]
  exact q _ (ga.trans s2)
 ·refine ⟨_,rfl,p,rfl,.inr ⟨⟨_,SqT.of ep1⟩,vn (xs:=Z.map V.int) (λi σ H'=>(∃c2 c3,σ=[some (.ref r),some (.ref p),c2,c3])/\aA H1 H') ⟨⟨_,_,rfl⟩,aA.refl _⟩ (λi σ H' _ h=>SqT.of (h.2 _ _ ep1)) ?_ ?_⟩⟩
  ·rintro i x σ H2 tp hx ht ⟨⟨c2,c3,rfl⟩,s2⟩
   obtain ⟨v,ev,rfl⟩:=fG hx
   obtain ⟨u,eu,td⟩:=R.next ev
   have g3:=af ht (.tup [.int i,.int v])
   have s3:=s2.trans g3
   refine ⟨tp,_,rfl,SqT.of ae,rfl,_,_,rfl,_,_,rfl,rfl,?_⟩
   generalize upd H2 tp (.tup [.int i,.int v])=H3 at g3 s3
   refine ⟨_,rfl,_,rfl,_,rfl,_,_,rfl,rfl,p,_,_,_,rfl,rfl,SqT.of (s3 _ _ ep1),eu,_,rfl,cU.mpr ⟨r,m,u,v,ts,rfl,W1.same s3,λH4 s4=>⟨rfl,_,rfl,?_⟩⟩⟩
   have:=Fc.mpr td
   rw[decide_eq_false (by intro z;injection z with z;lia)]
   exact bM ⟨⟨_,_,rfl⟩,s3.trans s4⟩
  ·rintro σ H2 ⟨⟨c2,c3,rfl⟩,s2⟩
   exact q _ (ga.trans s2)
end
abbrev rz:Sp:=λvs H Q _=>∃(r q z:Addr) (m:Nat) (p:Int) (ts:List (Addr×List Int)) (ps Z:List Int),vs=[.ref r,.ref q,.int p,.ref z]/\Wb H r m ts/\m<=200/\H q=some (.tup (ps.map V.int))/\ps.length<=400/\H z=some (.tup (Z.map V.int))/\Ring m (ts.map (·.2)) Z/\ps.Nodup/\p∈ps/\p∈Z/\(∀v∈Z,v∈ps->v=p)/\∀H',aA H H'->Q (.bl true) H'
@[irreducible] def kj:Sp:=rz
theorem gk {vs:List V}{H:Hp}{Q:VK}{E:XK}:kj vs H Q E↔rz vs H Q E:=by
 delta kj
 exact E8
section
variable  {P:Dp}{w:DW}{K:CZ}{mg:Str->Option CU}{base:Heap}{f T:Addr}{fd:Eo}
theorem rA:aF ["web", "places", "place", "ring"] ["web", "places", "place", "ring"] (az gW):=⟨rfl,rfl,rfl,by decide +kernel,rfl,by decide +kernel,by decide +kernel⟩
theorem fD:(["other", "ring"]:List Str).Nodup:=by decide +kernel
theorem rB (F:Fun K "is_own_ring" "is_own_ring" gW f fd)(B:Blt mg)(cIsRing:Cal P w K mg base 3 "is_ring" ["web", "ring"] i5):bF P w K mg base CX0 4 f fd ["web", "places", "place", "ring"] kj:=by
 refine F.ok rA (λvs H Q E h =>?_) (λcdv A outer s H vs Q E hr h =>?_)
 ·obtain ⟨_,_,_,_,_,_,_,_,rfl,_⟩:=gk.mp h
  rfl
 obtain ⟨r,q,z,m,p,ts,ps,Z,rfl,W,m2,eq,l4,ez,R,nd,pp,pz,on,k⟩:=gk.mp h
 refine ⟨_,(@ak _ _ _ (@aH _ _ _ _ (wH (aD cIsRing hr (by decide) rfl (@aa _ _ _ _ _ (pv 0) (@aa _ _ _ _ _ (pv 3) ag rfl) rfl)) (wG (cK (ur hr) (bj ["other", "ring"] [none,some 3] rfl (@eY _ _ _ _ (pv 1)) rfl (λ_ _ _ _ _=>(au (i:=0) fD rfl (Or.inl rfl))) (λ_ _ _ _ _=>(d9 (aJ (xh (K:=K)) (pv 0) (pv 1) rfl))) (λ_ _ _ _ _=>(pv 0))) (@cX _ _ _ _ (@aa _ _ _ _ _ (pv 2) ag rfl)) (aM _)))))),?_⟩
 have l2:=bE R.nd R.rng
 refine ⟨_,rfl,_,rfl,fC.mpr ⟨r,z,m,ts,Z,rfl,W,m2,ez,R,λH1 s1=>⟨_,rfl,bH ?_⟩⟩⟩
 have eq1:=s1 _ _ eq
 have ez1:=s1 _ _ ez
 refine ⟨_,rfl,q,rfl,⟨_,SqT.of eq1⟩,cu (xs:=ps.map V.int) (λi ys H'=>H'=H1/\ys=((ps.take i).filter λv=>decide (v∈Z)).map V.int) ⟨rfl,rfl⟩ (by rw[CS];exact small (by lia)) (λi ys H' _ y=>by rw[y.1];exact SqT.of eq1) ?_ ?_⟩
 ·rintro j x ys He hx hy ⟨eH,rfl⟩ R1 R0 r1 r0
  obtain ⟨v,ev,rfl⟩:=fG hx
  refine ⟨_,rfl,_,rfl,z,_,rfl,.inr (SqT.of (by rw[eH];exact ez1)),rfl,dz Z,_,rfl,?_⟩
  show if (if false=true then _ else inV (.int v) (Z.map V.int))=true then _ else _
  rw[if_neg Di,dO]
  by_cases d:v∈Z
  ·rw[decide_eq_true d]
   exact bH ⟨_,rfl,r1 _ _ ⟨eH,by rw[cz ev,if_pos (by simp[d])]⟩⟩
  ·rw[decide_eq_false d]
   exact bM (r0 _ ⟨eH,by rw[cz ev,if_neg (by simp[d]),DU]⟩)
 rintro ys He hy ⟨eH,rfl⟩ l8 hl8
 rw[eH] at hl8 ⊢
 rw[CS,Dj (C0 _),sW (p:=p) (q:=λv=>decide (v∈Z)) nd pp λv hv=>(by
  rw[decide_eq_true_iff]
  exact ⟨λh=>on v h hv,λh=>by rw[h];exact pz⟩)]
 have g8:=af hl8 (.lst (([p]:List Int).map V.int))
 have el8:upd H1 l8 (.lst (([p]:List Int).map V.int)) l8=some (.lst (([p]:List Int).map V.int)):=ae
 generalize upd H1 l8 (.lst (([p]:List Int).map V.int))=Hf at g8 el8
 refine ⟨_,rfl,(by show 1<=Dl;decide),λl9 hl9 =>?_⟩
 have g9:=af hl9 (.lst [.int p])
 refine ⟨l8,l9,[p],[p],rfl,rfl,SqL.of (g9 _ _ el8),SqL.of ae,?_⟩
 rw[decide_eq_true (rfl:[p]=[p])]
 exact k _ (s1.trans (g8.trans g9))
end
open PySem L2
abbrev AA:Sp:=λvs H Q _=>∃(b l:Addr) (m:Nat) (ts:List (Addr×List Int)) (ks:List (Addr×Int×Addr×List Int)),vs=[.ref b,.ref l]/\Wb H b m ts/\m<=200/\H l=some (.lst (ks.map λk =>.ref k.1))/\(∀k∈ks,H k.1=some (.tup [.int k.2.1,.ref k.2.2.1]))/\(ks.map (·.2.1)).Pairwise (· < ·)/\(∀v:Int,v∈ks.map (·.2.1)->0<=v/\v<m)/\ks.length<=200/\(bS ((ts.map (·.2)).filter (off (ks.map (·.2.1))))->(∀k∈ks,H k.2.2.1=some (.tup (k.2.2.2.map V.int))/\Ring m (ts.map (·.2)) k.2.2.2/\k.2.1∈k.2.2.2/\∀v∈k.2.2.2,v∈ks.map (·.2.1)->v=k.2.1)/\∀H',aA H H'->Q (.bl true) H')/\(¬ bS ((ts.map (·.2)).filter (off (ks.map (·.2.1))))->∀H',aA H H'->Q (.bl false) H')
@[irreducible] def Ad:Sp:=AA
theorem i6 {vs:List V}{H:Hp}{Q:VK}{E:XK}:Ad vs H Q E↔AA vs H Q E:=by
 delta Ad
 exact E8
theorem Ae (n:Nat):(D5 n true).all id=true:=by simp
section
variable  {P:Dp}{w:DW}{K:CZ}{mg:Str->Option CU}{base:Heap}{f T:Addr}{fd:Eo}
theorem i7:aF ["web", "rows", "places"] ["web", "rows"] (az fW):=⟨rfl,rfl,rfl,by decide +kernel,rfl,by decide +kernel,by decide +kernel⟩
theorem jF:(["row"]:List Str).Nodup:=by decide +kernel
theorem di:(["row", "web", "places"]:List Str).Nodup:=by decide +kernel
theorem pA (F:Fun K "least_right" "least_right" fW f fd)(B:Blt mg)(cIsSetOf:Cal P w K mg base 2 "is_set_of" ["web", "places"] uU)(cClearsWeb:Cal P w K mg base 4 "clears_web" ["web", "places"] lN)(cIsOwnRing:Cal P w K mg base 4 "is_own_ring" ["web", "places", "place", "ring"] kj):bF P w K mg base CX0 5 f fd ["web", "rows"] Ad:=by
 refine F.ok i7 (λvs H Q E h =>?_) (λcdv A outer s H vs Q E hr h =>?_)
 ·obtain ⟨_,_,_,_,_,rfl,_⟩:=i6.mp h
  rfl
 obtain ⟨b,l,m,ts,ks,rfl,W,m2,el,rw1,rs,rg,lk,q1,q0⟩:=i6.mp h
 refine ⟨_,(@ah _ _ _ _ _ (@aK _ _ 2 _ _ _ _ i7.nd rfl (Or.inr rfl) (aS aY rfl B.b_tuple cQ (@aa _ _ _ _ _ (bj ["row"] [none] rfl (@bI _ _ _ _ (pv 1)) rfl (λ_ _ _ _ _=>(au (i:=0) jF rfl (Or.inl rfl))) (λ_ _ _ _ _=>cD) (λ_ _ _ _ _=>(@aL _ _ _ _ _ _ _ (fe (K:=K)) (pv 0) ai (λ_ _=>rfl)))) ag rfl)) rfl (by first | exact .inl rfl | exact .inr rfl | assumption))
  (@ah _ _ _ _ _ (@bJ _ _ _ _ _ _ _ _ (PW.pt (my (kq (fI (aD cIsSetOf hr (by decide) rfl (@aa _ _ _ _ _ (pv 0) (@aa _ _ _ _ _ (pv 2) ag rfl) rfl)))) (jb (kq (fI (aD cClearsWeb hr (by decide) rfl (@aa _ _ _ _ _ (pv 0) (@aa _ _ _ _ _ (pv 2) ag rfl) rfl))))))) (@ak _ _ _ (@aH _ _ _ _ gF)) aP)
  (@ak _ _ _ (@aH _ _ _ _ (aB (kJ rfl) rfl B.b_all sQ (@aa _ _ _ _ _ (bj ["row", "web", "places"] [none,some 0,some 2] rfl (@bI _ _ _ _ (pv 1)) rfl (λ_ _ _ _ _=>(au (i:=0) di rfl (Or.inl rfl))) (λ_ _ _ _ _=>cD) (λ_ _ _ _ _=>(aD cIsOwnRing hr (by decide) rfl (@aa _ _ _ _ _ (pv 1) (@aa _ _ _ _ _ (pv 2) (@aa _ _ _ _ _ (@aL _ _ _ _ _ _ _ (fe (K:=K)) (pv 0) ai (λ_ _=>rfl)) (@aa _ _ _ _ _ (@aL _ _ _ _ _ _ _ (fe (K:=K)) (pv 0) ai (λ_ _=>rfl)) ag rfl) rfl) rfl) rfl)))) ag rfl)))))),?_⟩
 have itK:∀{i:Nat} {x:V},(ks.map λk=>V.ref k.1)[i]? = some x->∃k,ks[i]? = some k/\x = .ref k.1:=λ{i x} e=>by
  rw[C8] at e
  cases z:ks[i]? with
  | none=>rw[z] at e;cases e
  | some k=>rw[z] at e;exact ⟨k,rfl,(DB e).symm⟩
 have lm:(ks.map λk=>V.ref k.1).length=ks.length:=CS _
 have ndK:(ks.map (·.2.1)).Nodup:=rs.imp λ{a b} h=>J9 h
 refine ⟨_,rfl,l,rfl,⟨_,SqL.of el⟩,bT (xs:=ks.map λk =>.ref k.1) (λi ys H'=>H'=H/\ys=((ks.take i).map (·.2.1)).map V.int) ⟨rfl,rfl⟩ (by rw[lm];exact small (by lia)) (λi ys H' _ z=>by rw[z.1];exact SqL.of el) ?_ ?_⟩
 ·rintro i x ys H3 hx hy ⟨eH,rfl⟩ R1 R0 r1 r0
  obtain ⟨k,ek,rfl⟩:=itK hx
  have hk:=rw1 k (C7 ek)
  rw[<- eH] at hk
  refine bH ⟨_,rfl,k.1,_,0,_,rfl,rfl,SqT.of hk,rfl,r1 _ _ ⟨eH,?_⟩⟩
  rw[DY,ek,Dg,Dg];rfl
 rintro ys H3 hy ⟨eH,rfl⟩ kl hkl
 rw[eH] at hkl ⊢
 rw[lm,Dj (C0 _)]
 have lK:(ks.map (·.2.1)).length<=200:=by rw[CS];exact lk
 have g1:=af hkl (.lst ((ks.map (·.2.1)).map V.int))
 refine ⟨kl,_,rfl,.inl ⟨SqL.of ae,λkt hkt =>?_⟩⟩
 have s2:=g1.trans (af hkt (.tup ((ks.map (·.2.1)).map V.int)))
 have ekt:upd (upd H kl (.lst ((ks.map (·.2.1)).map V.int))) kt (.tup ((ks.map (·.2.1)).map V.int)) kt=some (.tup ((ks.map (·.2.1)).map V.int)):=ae
 generalize upd (upd H kl (.lst ((ks.map (·.2.1)).map V.int))) kt (.tup ((ks.map (·.2.1)).map V.int))=H2 at s2 ekt
 have iS:isSet m (ks.map (·.2.1))=true:=by
  unfold isSet rise
  rw[Ey,decide_eq_true_iff,FR]
  exact ⟨rs,λv hv=>by unfold inR;rw[Ey,decide_eq_true_iff,decide_eq_true_iff];exact rg v hv⟩
 refine ⟨_,rfl,_,rfl,jE.mpr ⟨b,kt,m,ts,ks.map (·.2.1),rfl,W.same s2,ekt,by lia,λH4 s4 =>?_⟩⟩
 rw[iS]
 have s24:=s2.trans s4
 refine ⟨_,rfl,bM ⟨_,rfl,_,rfl,bZ.mpr ⟨b,kt,m,ts,ks.map (·.2.1),rfl,W.same s24,m2,s4 _ _ ekt,λH5 b5 s5 h5=>⟨_,rfl,?_⟩⟩⟩⟩
 have s25:=s24.trans s5
 by_cases w0:bS ((ts.map (·.2)).filter (off (ks.map (·.2.1))))
 rotate_left
 ·have:b5=false:=by
   cases b5 with
   | false=>rfl
   | true=>exact absurd (h5.mp rfl) w0
  subst this
  exact bH (q0 w0 H5 s25)
 have:b5=true:=h5.mpr w0
 subst this
 obtain ⟨rr,q⟩:=q1 w0
 refine bM ?_
 have el5:=s25 _ _ el
 refine ⟨_,rfl,l,rfl,⟨_,SqL.of el5⟩,bT (xs:=ks.map λk =>.ref k.1) (λi ys H'=>aA H5 H'/\ys=(D5 i true).map V.bl) ⟨aA.refl _,rfl⟩ (by rw[lm];exact small (by lia)) (λi ys H' _ z=>SqL.of (z.1 _ _ el5)) ?_ ?_⟩
 ·rintro i x ys H6 hx hy ⟨s6,rfl⟩ R1 R0 r1 r0
  obtain ⟨k,ek,rfl⟩:=itK hx
  have hm:=C7 ek
  have s26:=s25.trans s6
  have hk:=s26 _ _ (rw1 k hm)
  obtain ⟨h1,h2,h3,h4⟩:=rr k hm
  refine bH ⟨_,rfl,_,rfl,_,rfl,k.1,_,0,_,rfl,rfl,SqT.of hk,rfl,_,rfl,k.1,_,1,_,rfl,rfl,SqT.of hk,rfl,gk.mpr ⟨b,kt,k.2.2.1,m,k.2.1,ts,ks.map (·.2.1),k.2.2.2,rfl,W.same s26,m2,s6 _ _ (s5 _ _ (s4 _ _ ekt)),by lia,s26 _ _ h1,h2,ndK,EN (f:=λk:Addr×Int×Addr×List Int=>k.2.1) hm,h3,h4,λH7 s7=>r1 _ _ ⟨s6.trans s7,?_⟩⟩⟩
  rw[List.replicate_succ',Dg];rfl
 rintro ys H6 hy ⟨s6,rfl⟩ l1 hl1
 rw[lm]
 refine ⟨l1,_,rfl,SqL.of ae,?_⟩
 rw[Ae]
 exact q _ (s25.trans (s6.trans (af hl1 _)))
end
abbrev uW:Sp:=λvs H Q _=>∃(b:Addr) (m:Nat) (n:Int) (ts:List (Addr×List Int)),vs=[.ref b,.int n]/\Wb H b m ts/\m<=200/\∀(q:Addr) (ps:List Int) (H':Hp),aA H H'->H' q=some (.tup (ps.map V.int))->ps.Pairwise (· < ·)->(∀v∈ps,0<=v/\v<m)->Q (.ref q) H'
@[irreducible] def pB:Sp:=uW
theorem ik {vs:List V}{H:Hp}{Q:VK}{E:XK}:pB vs H Q E↔uW vs H Q E:=by
 delta pB
 exact E8
theorem wC {l:List Int}{k:Int}(h:l.Pairwise (· < ·))(b:∀v∈l,v<k):(l++[k]).Pairwise (· < ·):=by
 rw[EG]
 exact ⟨h,Fp _ _,λa ha c hc=>by rw[C2] at hc;subst hc;exact b a ha⟩
section
variable  {P:Dp}{w:DW}{K:CZ}{mg:Str->Option CU}{base:Heap}{f T:Addr}{fd:Eo}
theorem Af:aF ["web", "bits"] ["web", "bits"] (az sP):=⟨rfl,rfl,rfl,by decide +kernel,rfl,by decide +kernel,by decide +kernel⟩
theorem il:(["place", "bits"]:List Str).Nodup:=by decide +kernel
theorem Ag (F:Fun K "_law_bits" "_law_bits" sP f fd)(B:Blt mg):bF P w K mg base CX0 1 f fd ["web", "bits"] pB:=by
 refine F.ok Af (λvs H Q E h =>?_) (λcdv A outer s H vs Q E hr h =>?_)
 ·obtain ⟨_,_,_,_,rfl,_⟩:=ik.mp h
  rfl
 obtain ⟨b,m,n,ts,rfl,W,m2,q⟩:=ik.mp h
 refine ⟨_,(@ak _ _ _ (@aH _ _ _ _ (aS aY rfl B.b_tuple cQ (@aa _ _ _ _ _ (bj ["place", "bits"] [none,some 1] rfl (bK rfl B.b_range (@aa _ _ _ _ _ (@aL _ _ _ _ _ _ _ aN (pv 0) ai (λ_ _=>rfl)) ag rfl)) rfl (λ_ _ _ _ _=>(au (i:=0) il rfl (Or.inl rfl))) (λ_ _ _ _ _=>(d9 (aJ dE (@aO _ _ _ _ _ _ _ _ AV (@aO _ _ _ _ _ _ _ _ AU (pv 1) (pv 0)) ai) ai (aM _)))) (λ_ _ _ _ _=>(pv 0))) ag rfl)))),?_⟩
 obtain ⟨t,e1,e2⟩:=W.at'
 let W0:Nat->List V->Hp->Prop:=λi ys H'=>H'=H/\∃ps:List Int,ys=ps.map V.int/\ps.Pairwise (· < ·)/\∀v∈ps,0<=v/\v<(i:Int)
 refine ⟨_,rfl,b,_,0,_,rfl,rfl,SqT.of e1,rfl,(m:Int),rfl,by lia,by lia,cv (lo:=0) (n:=m) W0 ⟨rfl,[],rfl,.nil,λv hv=>by cases hv⟩ (small (by lia)) ?_ ?_⟩
 ·rintro i ys H3 hi hy ⟨eH,ps,rfl,rs,rg⟩ R1 R0 r1 r0
  refine ⟨_,rfl,_,rfl,_,_,rfl,rfl,(by show (0:Int)<=0+i;lia),_,_,rfl,rfl,rfl,_,rfl,iB (λ_=>⟨_,rfl,r1 _ _ ⟨eH,ps++[0+(i:Int)],by rw[Dg];rfl,wC rs (λv hv=>by have:=rg v hv;lia),λv hv =>?_⟩⟩) λ_=>r0 _ ⟨eH,ps,rfl,rs,λv hv=>by have:=rg v hv;lia⟩⟩
  rcases Dd.mp hv with z | z
  ·have:=rg v z;lia
  ·rw[C2] at z;subst z;lia
 rintro ys H3 hy ⟨eH,ps,rfl,rs,rg⟩ l hl
 rw[eH] at hl ⊢
 refine ⟨l,_,rfl,.inl ⟨SqL.of ae,λl2 hl2 =>?_⟩⟩
 exact q l2 ps _ ((af hl _).trans (af hl2 _)) ae rs rg
end
open PySem L2
theorem ko {p:Int}:∀{l:List Int} {i:Nat},l.Nodup->l[i]? = some p->less p l=l.take i++l.drop (i+1)
 | [],_,_,e=>by simp at e
 | a :: l,0,nd,e=>by
  have e:a=p:=by simpa using e
  subst e
  have na:=(EC.mp nd).1
  unfold less
  rw[FY (by simp)]
  show l.filter _=l
  exact Hw.mpr λx hx=>by simp;rintro rfl;exact na hx
 | a :: l,i+1,nd,e=>by
  have e:l[i]? = some p:=by simpa using e
  have ne:a≠p:=λz=>(EC.mp nd).1 (z ▸ C7 e)
  have ih:=ko (EC.mp nd).2 e
  unfold less at ih ⊢
  rw[EO (by simpa using ne),ih]
  rfl
abbrev uZ:Sp:=λvs H Q _=>∃(b q:Addr) (m:Nat) (ts:List (Addr×List Int)) (ps:List Int),vs=[.ref b,.ref q]/\Wb H b m ts/\m<=200/\H q=some (.tup (ps.map V.int))/\ps.Pairwise (· < ·)/\(∀v∈ps,0<=v/\v<m)/\bS ((ts.map (·.2)).filter (off ps))/\∀H',aA H H'->Q (.bl true) H'
@[irreducible] def pC:Sp:=uZ
theorem ip {vs:List V}{H:Hp}{Q:VK}{E:XK}:pC vs H Q E↔uZ vs H Q E:=by
 delta pC
 exact E8
section
variable  {P:Dp}{w:DW}{K:CZ}{mg:Str->Option CU}{base:Heap}{f T:Addr}{fd:Eo}
theorem b7:aF ["web", "places", "rows", "kept", "at", "less", "fewer"] ["web", "places"] (az fX):=⟨rfl,rfl,rfl,by decide +kernel,rfl,by decide +kernel,by decide +kernel⟩
theorem jG:(["row"]:List Str).Nodup:=by decide +kernel
theorem dX:(["place", "places"]:List Str).Nodup:=by decide +kernel
theorem dS:(["at", "web", "places"]:List Str).Nodup:=by decide +kernel
theorem pD (F:Fun K "_law_least_told" "_law_least_told" fX f fd)(B:Blt mg)(cThinnedCut:Cal P w K mg base 7 "thinned_cut" ["web", "places"] pk)(cLeastRight:Cal P w K mg base 5 "least_right" ["web", "rows"] Ad)(cClearsWeb:Cal P w K mg base 4 "clears_web" ["web", "places"] lN):bF P w K mg base CX0 8 f fd ["web", "places"] pC:=by
 refine F.ok b7 (λvs H Q E h =>?_) (λcdv A outer s H vs Q E hr h =>?_)
 ·obtain ⟨_,_,_,_,_,rfl,_⟩:=ip.mp h
  rfl
 obtain ⟨b,q,m,ts,ps,rfl,W,m2,eq,rs,rg,w0,k⟩:=ip.mp h
 refine ⟨_,(@ah _ _ _ _ _ (@aK _ _ 2 _ _ _ _ b7.nd rfl (Or.inl rfl) (aD cThinnedCut hr (by decide) rfl (@aa _ _ _ _ _ (pv 0) (@aa _ _ _ _ _ (pv 1) ag rfl) rfl)) rfl (by first | exact .inl rfl | exact .inr rfl | assumption))
  (@ah _ _ _ _ _ (@aK _ _ 3 _ _ _ _ b7.nd rfl (Or.inl rfl) (aS aY rfl B.b_tuple cQ (@aa _ _ _ _ _ (bj ["row"] [none] rfl (@bI _ _ _ _ (pv 2)) rfl (λ_ _ _ _ _=>(au (i:=0) jG rfl (Or.inl rfl))) (λ_ _ _ _ _=>cD) (λ_ _ _ _ _=>(@aL _ _ _ _ _ _ _ (fe (K:=K)) (pv 0) ai (λ_ _=>rfl)))) ag rfl)) rfl (by first | exact .inl rfl | exact .inr rfl | assumption))
  (@ah _ _ _ _ _ (@bJ _ _ _ _ _ _ _ _ (PW.pt (my (aJ (zI hr) (bj ["place", "places"] [none,some 1] rfl (@eY _ _ _ _ (pv 3)) rfl (λ_ _ _ _ _=>(au (i:=0) dX rfl (Or.inl rfl))) (λ_ _ _ _ _=>(d9 (aJ (gp (K:=K)) (pv 0) (pv 1) rfl))) (λ_ _ _ _ _=>(pv 0))) (@cX _ _ _ _ ag) (aM _)) (jb (aJ uv (aD cLeastRight hr (by decide) rfl (@aa _ _ _ _ _ (pv 0) (@aa _ _ _ _ _ (pv 2) ag rfl) rfl)) gF (aM _))))) dk aP)
  (@ah _ _ _ _ _ (@cj _ _ _ _ _ _ _ _ Eh rfl (bK rfl B.b_range (@aa _ _ _ _ _ (aB bh rfl B.b_len gX (@aa _ _ _ _ _ (pv 2) ag rfl)) ag rfl)) (au (i:=4) b7.nd rfl (Or.inl rfl))
   (@ah _ _ _ _ _ (@aK _ _ 5 _ _ _ _ b7.nd rfl (Or.inl rfl) (@aO _ _ _ _ _ _ _ _ iM (bP dg (pv 3) cC (bU (pv 4))) (bP dg (pv 3) (bU (@aO _ _ _ _ _ _ _ _ cW (pv 4) ai)) cC)) rfl (by first | exact .inl rfl | exact .inr rfl | assumption))
   (@ak _ _ _ (@bJ _ _ _ _ _ _ _ _ (PW.pt (my (aJ uv (aD cLeastRight hr (by decide) rfl (@aa _ _ _ _ _ (pv 0) (@aa _ _ _ _ _ (@aO _ _ _ _ _ _ _ _ tN (bP nY (pv 2) cC (bU (pv 4))) (bP nY (pv 2) (bU (@aO _ _ _ _ _ _ _ _ cW (pv 4) ai)) cC)) ag rfl) rfl)) gF (aM _)) (jb (fI (aD cClearsWeb hr (by decide) rfl (@aa _ _ _ _ _ (pv 0) (@aa _ _ _ _ _ (pv 5) ag rfl) rfl)))))) dk aP))) (λ_=>rfl))
  (@ah _ _ _ _ _ (dH (i:=6) ["at", "web", "places"] [none,some 0,some 1] rfl b7.nd rfl rfl (bK rfl B.b_range (@aa _ _ _ _ _ (aB bh rfl B.b_len gX (@aa _ _ _ _ _ (pv 1) ag rfl)) ag rfl)) rfl (λ_ _ _ _ _=>(au (i:=0) dS rfl (Or.inl rfl))) (λ_ _ _ _ _=>(d9 (fI (aD cClearsWeb hr (by decide) rfl (@aa _ _ _ _ _ (pv 1) (@aa _ _ _ _ _ (@aO _ _ _ _ _ _ _ _ iM (bP dg (pv 2) cC (bU (pv 0))) (bP dg (pv 2) (bU (@aO _ _ _ _ _ _ _ _ cW (pv 0) ai)) cC)) ag rfl) rfl))))) (λ_ _ _ _ _=>(pv 0)))
  (@ak _ _ _ (@aH _ _ _ _ (cK dE (cK (zJ hr) (pv 3) (pv 1) (aM _)) (cK (ur hr) (pv 6) (@cX _ _ _ _ ag) (aM _)) (aM _))))))))),?_⟩
 have O:=iU W
 have nd:ps.Nodup:=rs.imp λ{a b} h=>J9 h
 have lp:=bE nd rg
 refine ⟨_,rfl,_,rfl,ij.mpr ⟨b,q,m,ts,ps,rfl,W,m2,eq,by lia,w0,λl ks H1 hl s1 el R =>?_⟩⟩
 have lk:ks.length<=200:=by have:=R.sub.length_le;rw[CS] at this;lia
 have itK:∀{i:Nat} {x:V},(ks.map λk=>V.ref k.1)[i]? = some x->∃k,ks[i]? = some k/\x = .ref k.1:=λ{i x} e=>by
  rw[C8] at e
  cases z:ks[i]? with
  | none=>rw[z] at e;cases e
  | some k=>rw[z] at e;exact ⟨k,rfl,(DB e).symm⟩
 have lm:(ks.map λk=>V.ref k.1).length=ks.length:=CS _
 refine ⟨_,rfl,l,rfl,⟨_,SqL.of el⟩,bT (xs:=ks.map λk =>.ref k.1) (λi ys H'=>H'=H1/\ys=((ks.take i).map (·.2.1)).map V.int) ⟨rfl,rfl⟩ (by rw[lm];exact small (by lia)) (λi ys H' _ z=>by rw[z.1];exact SqL.of el) ?_ ?_⟩
 ·rintro i x ys H3 hx hy ⟨eH,rfl⟩ R1 R0 r1 r0
  obtain ⟨k,ek,rfl⟩:=itK hx
  have hk:=(R.row k (C7 ek)).1
  rw[<- eH] at hk
  refine bH ⟨_,rfl,k.1,_,0,_,rfl,rfl,SqT.of hk,rfl,r1 _ _ ⟨eH,?_⟩⟩
  rw[DY,ek,Dg,Dg];rfl
 rintro ys H3 hy ⟨eH,rfl⟩ kl hkl
 rw[eH] at hkl ⊢
 rw[lm,Dj (C0 _)]
 have rK:(ks.map (·.2.1)).Pairwise (· < ·):=rs.sublist R.sub
 have gK:∀v:Int,v∈ks.map (·.2.1)->0<=v/\v<m:=λv hv=>rg v (R.sub.subset hv)
 have nK:(ks.map (·.2.1)).Nodup:=rK.imp λ{a b} h=>J9 h
 have lK:(ks.map (·.2.1)).length=ks.length:=CS _
 have g1:=af hkl (.lst ((ks.map (·.2.1)).map V.int))
 refine ⟨kl,_,rfl,.inl ⟨SqL.of ae,λkt hkt =>?_⟩⟩
 have s2:=g1.trans (af hkt (.tup ((ks.map (·.2.1)).map V.int)))
 have ekt:upd (upd H1 kl (.lst ((ks.map (·.2.1)).map V.int))) kt (.tup ((ks.map (·.2.1)).map V.int)) kt=some (.tup ((ks.map (·.2.1)).map V.int)):=ae
 generalize upd (upd H1 kl (.lst ((ks.map (·.2.1)).map V.int))) kt (.tup ((ks.map (·.2.1)).map V.int))=H2 at s2 ekt
 have s12:=s1.trans s2
 have eq2:=s12 _ _ eq
 refine ⟨_,rfl,kt,rfl,⟨_,SqT.of ekt⟩,cu (xs:=(ks.map (·.2.1)).map V.int) (λi ys H'=>H'=H2/\ys=([]:List Int).map V.int) ⟨rfl,rfl⟩ (by rw[CS];exact small (by lia)) (λi ys H' _ z=>by rw[z.1];exact SqT.of ekt) ?_ ?_⟩
 ·rintro i x ys H6 hx hy ⟨eH,rfl⟩ R1 R0 r1 r0
  obtain ⟨v,ev,rfl⟩:=fG hx
  refine ⟨_,rfl,_,rfl,q,_,rfl,.inr (SqT.of (by rw[eH];exact eq2)),rfl,dz ps,_,rfl,?_⟩
  show if (if true=true then !inV (.int v) (ps.map V.int) else _)=true then _ else _
  rw[if_pos rfl,dO,decide_eq_true (R.sub.subset (C7 ev))]
  exact bM (r0 _ ⟨eH,rfl⟩)
 rintro ys H6 hy2 ⟨eH6,rfl⟩ l6 hl6
 rw[eH6] at hl6 ⊢
 have g6:=af hl6 (.lst (([]:List Int).map V.int))
 have el6:upd H2 l6 (.lst (([]:List Int).map V.int)) l6=some (.lst (([]:List Int).map V.int)):=ae
 generalize upd H2 l6 (.lst (([]:List Int).map V.int))=H6 at g6 el6
 refine ⟨(by show 0<=Dl;decide),λl7 hl7 =>?_⟩
 have g7:=af hl7 (.lst [])
 have s7:=s2.trans (g6.trans g7)
 have ekt7:=g7 _ _ (g6 _ _ ekt)
 refine ⟨l6,l7,[],[],rfl,rfl,SqL.of (g7 _ _ el6),SqL.of ae,_,rfl,?_⟩
 rw[decide_eq_true (rfl:([]:List Int)=[])]
 refine bM ?_
 generalize upd H6 l7 (.lst [])=H7 at g7 s7 ekt7
 have s17:=s1.trans s7
 refine ⟨_,rfl,_,rfl,i6.mpr ⟨b,l,m,ts,ks,rfl,W.same s17,m2,s7 _ _ el,λk hk=>s7 _ _ (R.row k hk).1,rK,gK,lk,λ_=>⟨λk hk =>?_,λH8 s8 =>?_⟩,λnw=>absurd R.wd nw⟩⟩
 ·obtain ⟨_,h2,h3,_,h5,h6⟩:=R.row k hk
  exact ⟨s7 _ _ h2,h3,h5,h6⟩
 refine ⟨true,true,rfl,rfl,_,rfl,bM ?_⟩
 have s18:=s17.trans s8
 have s78:=s7.trans s8
 have el8:=s78 _ _ el
 have ekt8:=s8 _ _ ekt7
 refine ⟨_,rfl,l,_,rfl,.inl (SqL.of el8),?_⟩
 rw[lm]
 let W0:Nat->St->Hp->Prop:=λi σ H'=>(∃c4 c5,σ=[some (.ref b),some (.ref q),some (.ref l),some (.ref kt),c4,c5,none])/\aA H8 H'
 refine ⟨(ks.length:Int),rfl,by lia,by lia,du W0 ⟨⟨_,_,rfl⟩,aA.refl _⟩ ?_ ?_⟩
 ·rintro i σ Ha hi ⟨⟨c4,c5,rfl⟩,sa⟩
  rw[Ex] at hi
  have e0:(0+(i:Int))=((i:Nat):Int):=by lia
  have e1:(0+(i:Int))+1=((i+1:Nat):Int):=by lia
  have ekta:=sa _ _ ekt8
  refine ⟨_,rfl,_,rfl,_,rfl,kt,_,rfl,ekta,λp1 Hb sb ep1 =>?_⟩
  rw[e0,lI _ (by rw[CS,lK];lia), <- GI] at ep1
  refine ⟨_,rfl,_,rfl,_,_,rfl,rfl,_,rfl,kt,_,rfl,sb _ _ ekta,λp2 Hc sc ep2 =>?_⟩
  rw[e1,lJ _ (by rw[CS,lK];lia), <- Gg] at ep2
  refine ⟨p1,p2,_,_,rfl,rfl,sc _ _ ep1,ep2,by rw[CS,CS,D6,Ea];exact small (by lia),λp3 Hd sd ep3 =>?_⟩
  rw[<- Dg] at ep3
  have sad:=sa.trans (sb.trans (sc.trans sd))
  have eld:=sad _ _ el8
  refine ⟨_,rfl,_,rfl,_,rfl,_,rfl,l,_,rfl,SqL.of eld,λr1 hr1 =>?_⟩
  rw[e0,lI _ (by rw[lm];lia), <- GI]
  have h1:=af hr1 (.lst ((ks.take i).map λk=>V.ref k.1))
  have er1:upd Hd r1 (.lst ((ks.take i).map λk=>V.ref k.1)) r1=some (.lst ((ks.take i).map λk=>V.ref k.1)):=ae
  generalize upd Hd r1 (.lst ((ks.take i).map λk=>V.ref k.1))=He at h1 er1
  refine ⟨_,rfl,_,rfl,_,_,rfl,rfl,_,rfl,l,_,rfl,SqL.of (h1 _ _ eld),λr2 hr2 =>?_⟩
  rw[show ((i:Nat):Int)+1=((i+1:Nat):Int) by lia,lJ _ (by rw[lm];lia), <- Gg]
  have h2:=af hr2 (.lst ((ks.drop (i+1)).map λk=>V.ref k.1))
  have er2:upd He r2 (.lst ((ks.drop (i+1)).map λk=>V.ref k.1)) r2=some (.lst ((ks.drop (i+1)).map λk=>V.ref k.1)):=ae
  generalize upd He r2 (.lst ((ks.drop (i+1)).map λk=>V.ref k.1))=Hf at h2 er2
  refine ⟨r1,r2,_,_,rfl,rfl,SqL.of (h2 _ _ er1),SqL.of er2,by rw[CS,CS,D6,Ea];exact small (by lia),λr3 hr3 =>?_⟩
  rw[<- Dg]
  have h3:=af hr3 (.lst ((ks.take i++ks.drop (i+1)).map λk=>V.ref k.1))
  have er3:upd Hf r3 (.lst ((ks.take i++ks.drop (i+1)).map λk=>V.ref k.1)) r3=some (.lst ((ks.take i++ks.drop (i+1)).map λk=>V.ref k.1)):=ae
  generalize upd Hf r3 (.lst ((ks.take i++ks.drop (i+1)).map λk=>V.ref k.1))=Hg at h3 er3
  have sag:=sad.trans (h1.trans (h2.trans h3))
  have s1g:=s18.trans sag
  have s7g:=s78.trans sag
  obtain ⟨p,ep⟩:∃p,(ks.map (·.2.1))[i]? = some p:=⟨_,CV (by rw[lK];exact hi)⟩
  have le:=ko nK ep
  have nw:=R.mn p (C7 ep)
  rw[le] at nw
  have emm:(ks.take i++ks.drop (i+1)).map (·.2.1)=(ks.map (·.2.1)).take i++(ks.map (·.2.1)).drop (i+1):=by rw[Dg,GI,Gg]
  have sbl:((ks.map (·.2.1)).take i++(ks.map (·.2.1)).drop (i+1)).Sublist (ks.map (·.2.1)):=by rw[<- le];exact rq _ _
  have mks:∀k∈ks.take i++ks.drop (i+1),k∈ks:=λk hk=>by
   rcases Dd.mp hk with y | y
   ·exact Fw y
   ·exact Gr y
  refine i6.mpr ⟨b,r3,m,ts,ks.take i++ks.drop (i+1),rfl,W.same s1g,m2,er3,λk hk=>s7g _ _ (R.row k (mks k hk)).1,by rw[emm];exact rK.sublist sbl,λv hv=>gK v (by rw[emm] at hv;exact sbl.subset hv),by rw[C1,D6,Ea];lia,λw=>absurd (by rw[emm] at w;exact w) nw,λ_ Hh sh =>?_⟩
  refine ⟨false,false,rfl,rfl,_,rfl,bM ?_⟩
  have s1h:=s1g.trans sh
  refine ⟨_,rfl,_,rfl,bZ.mpr ⟨b,p3,m,ts,_,rfl,W.same s1h,m2,sh _ _ (h3 _ _ (h2 _ _ (h1 _ _ ep3))),λHi bi si hb=>⟨_,rfl,?_⟩⟩⟩
  have:bi=false:=by
   cases bi with
   | false=>rfl
   | true=>exact absurd (hb.mp rfl) nw
  subst this
  exact bM ⟨⟨_,_,rfl⟩,sag.trans (sh.trans si)⟩
 rintro σ Ha ⟨⟨c4,c5,rfl⟩,sa⟩
 have s1a:=s18.trans sa
 have eqa:=s1a _ _ eq
 have ekta:=sa _ _ ekt8
 have lpm:(ps.map V.int).length=ps.length:=CS _
 refine ⟨_,rfl,q,_,rfl,.inr (SqT.of eqa),?_⟩
 rw[lpm]
 let W1:Nat->List V->Hp->Prop:=λi ys H'=>aA Ha H'/\∃fs:List Int,ys=fs.map V.int/\(fs=[]↔∀j,j<i->¬ bS ((ts.map (·.2)).filter (off (ps.take j++ps.drop (j+1)))))
 refine ⟨(ps.length:Int),rfl,by lia,by lia,cv (lo:=0) (n:=ps.length) W1 ⟨aA.refl _,[],rfl,⟨λ_ j hj=>absurd hj (F3 _),λ_=>rfl⟩⟩ (small (by lia)) ?_ ?_⟩
 ·rintro i ys Hb hi hy3 ⟨sb,fs,rfl,hf⟩ R1 R0 r1 r0
  have e0:(0+(i:Int))=((i:Nat):Int):=by lia
  have e1:(0+(i:Int))+1=((i+1:Nat):Int):=by lia
  have eqb:=sb _ _ eqa
  refine ⟨_,rfl,_,rfl,_,rfl,_,rfl,q,_,rfl,eqb,λp1 Hc sc ep1 =>?_⟩
  rw[e0,lI _ (by rw[lpm];lia), <- GI] at ep1
  refine ⟨_,rfl,_,rfl,_,_,rfl,rfl,_,rfl,q,_,rfl,sc _ _ eqb,λp2 Hd sd ep2 =>?_⟩
  rw[e1,lJ _ (by rw[lpm];lia), <- Gg] at ep2
  refine ⟨p1,p2,_,_,rfl,rfl,sd _ _ ep1,ep2,by rw[CS,CS,D6,Ea];exact small (by lia),λp3 He se ep3 =>?_⟩
  rw[<- Dg] at ep3
  have sbe:=sb.trans (sc.trans (sd.trans se))
  refine bZ.mpr ⟨b,p3,m,ts,_,rfl,W.same (s1a.trans sbe),m2,ep3,λHf bf sf hb=>⟨_,rfl,?_⟩⟩
  cases bf with
  | true =>
   refine bH ⟨_,rfl,r1 _ _ ⟨sbe.trans sf,fs++[0+(i:Int)],by rw[Dg];rfl,⟨λz=>by simp at z,λz=>absurd (hb.mp rfl) (z i (by lia))⟩⟩⟩
  | false =>
   refine bM (r0 _ ⟨sbe.trans sf,fs,rfl,⟨λz j hj =>?_,λz=>hf.mpr λj hj=>z j (by lia)⟩⟩)
   rcases FO j i with c | c
   ·exact hf.mp z j c
   ·have:j=i:=by lia
    subst this
    exact λw=>Di (hb.mpr w)
 rintro ys Hb hy3 ⟨sb,fs,rfl,hf⟩ lf hlf
 have g8:=af hlf (.lst (fs.map V.int))
 have elf:upd Hb lf (.lst (fs.map V.int)) lf=some (.lst (fs.map V.int)):=ae
 generalize upd Hb lf (.lst (fs.map V.int))=Hc at g8 elf
 have sac:=sb.trans g8
 refine ⟨_,rfl,_,rfl,kt,q,_,ps,rfl,rfl,SqT.of (sac _ _ ekta),SqT.of (sac _ _ eqa),_,rfl,(by show 0<=Dl;decide),λl9 hl9 =>?_⟩
 have g9:=af hl9 (.lst [])
 refine ⟨lf,l9,fs,[],rfl,rfl,SqL.of (g9 _ _ elf),SqL.of ae,rfl,?_⟩
 have key:ks.map (·.2.1)=ps↔fs=[]:=by
  rw[hf]
  constructor
  ·intro e j hj w
   have ej:ps[j]? = some ps[j]:=CV hj
   have:=R.mn ps[j] (by rw[e];exact GP hj)
   rw[e,ko nd ej] at this
   exact this w
  ·intro z
   apply Ew
   intro ne
   have:∃p∈ps,p∉ks.map (·.2.1):=by
    apply Ew
    intro no
    have sub:∀p∈ps,p∈ks.map (·.2.1):=λp hp=>Ew λh=>no ⟨p,hp,h⟩
    exact ne (R.sub.eq_of_length_le (Fb nd sub))
   obtain ⟨p,hp,np⟩:=this
   obtain ⟨j,hj⟩:=DL.mp hp
   refine z j (C9.mp hj).1 ?_
   rw[<- ko nd hj]
   exact nN (λv hv=>dR.mpr ⟨R.sub.subset hv,λe=>np (e ▸ hv)⟩) R.wd
 have ed:decide (ks.map (·.2.1)=ps)=decide (fs=[]):=decide_eq_decide.mpr key
 rw[ed,decide_eq_true rfl]
 exact k _ (s1a.trans (sac.trans g9))
end
open PySem L2
def rD (K:CZ):Sp:=λvs H Q _=>∃(a:Addr) (ns:List Int),vs=[.ref a]/\SqL K H a (ns.map V.int)/\ns.length<=63/\∀H',Q (.bl true) H'
theorem nP {K:CZ}{vs:List V}{H:Hp}{Q:VK}{E:XK}:rD K vs H Q E↔∃(a:Addr) (ns:List Int),vs=[.ref a]/\SqL K H a (ns.map V.int)/\ns.length<=63/\∀H',Q (.bl true) H':=E8
theorem BM {m:Nat}(h:m<=6):0<=(1:Int)*2 ^ ((m:Int)).toNat/\(1:Int)*2 ^ ((m:Int)).toNat<=64:=by
 have:m=0\/m=1\/m=2\/m=3\/m=4\/m=5\/m=6:=by lia
 rcases this with rfl | rfl | rfl | rfl | rfl | rfl | rfl <;> decide
theorem Ah {r:Addr}{m:Nat}{ts:List (Addr×List Int)}{H:Hp}{Q:VK}{E:XK}(W:Wb H r m ts)(hm:m<=200)(k:∀(p:Addr) (v:String) (x:V) (H':Hp),aA H H'->H' p=some (.tup [.str v,x])->(V.str v=V.str "wood" ↔ bS (ts.map (·.2)))->Q (.ref p) H'):wo [.ref r] H Q E :=
 iZ.mpr ⟨r,m,ts,rfl,W,hm,λp _ H' _ s ep _ _ wd _ _ _ _=>k p _ _ H' s ep ⟨λ_=>wd,λ_=>rfl⟩,λp _ H' _ s ep _ nw _ _ _=>k p _ _ H' s ep ⟨λz=>absurd z (by decide),λz=>absurd z nw⟩⟩
theorem tq {r q:Addr}{m:Nat}{ts:List (Addr×List Int)}{R:List Int}{H:Hp}{Q:VK}{E:XK}(W:Wb H r m ts)(hm:m<=200)(eq:H q=some (.tup (R.map V.int)))(rg:∀v∈R,0<=v/\v<m)(nd:R.Nodup)(k:∀(p:Addr) (v:String) (x:V) (H':Hp),aA H H'->H' p=some (.tup [.str v,x])->(V.str v=V.str "clears" -> bS ((ts.map (·.2)).filter (off R)))->Q (.ref p) H'):i3 [.ref r,.ref q] H Q E :=
 gi.mpr ⟨r,q,m,ts,R,rfl,W,hm,eq,rg,nd,λp _ H' _ s ep _ _ wd _ _ _=>k p _ _ H' s ep λ_=>wd,λp _ H' _ s ep _ _ _ _ _=>k p _ _ H' s ep λz=>absurd z (by decide)⟩
section
variable  {P:Dp}{w:DW}{K:CZ}{mg:Str->Option CU}{base:Heap}{f T:Addr}{fd:Eo}
theorem nQ:aF ["script", "cell", "web", "number", "bits", "places"] ["script"] (az we):=⟨rfl,rfl,rfl,by decide +kernel,rfl,by decide +kernel,by decide +kernel⟩
theorem CO (F:Fun K "law" "law" we f fd)(B:Blt mg)(cLWeb:Cal P w K mg base 1 "_law_web" ["number", "most"] oI)(cLCell:Cal P w K mg base 1 "_law_cell" ["script", "k"] (oG K))(cLDeal:Cal P w K mg base 1 "_law_deal" ["cell", "salt"] oH)(cLBits:Cal P w K mg base 1 "_law_bits" ["web", "bits"] pB)(cClearsWeb:Cal P w K mg base 4 "clears_web" ["web", "places"] lN)(cLLeastTold:Cal P w K mg base 8 "_law_least_told" ["web", "places"] pC)(cPeeledWeb:Cal P w K mg base 6 "peeled_web" ["web"] wo)(cShownClear:Cal P w K mg base 7 "shown_clear" ["web", "places"] i3):bF P w K mg base CX0 9 f fd ["script"] (rD K):=by
 refine F.ok nQ (λvs H Q E h =>?_) (λcdv A outer s H vs Q E hr h =>?_)
 ·obtain ⟨_,_,rfl,_⟩:=nP.mp h
  rfl
 obtain ⟨a,nn,rfl,hS,h63,q⟩:=nP.mp h
 refine ⟨_,(@ah _ _ _ _ _ (@cj _ _ _ _ _ _ _ _ Eh rfl (@bI _ _ _ _ (@aO _ _ _ _ _ _ _ _ tN (@cX _ _ _ _ (@aa _ _ _ _ _ (aD cLCell hr (by decide) rfl (@aa _ _ _ _ _ (pv 0) (@aa _ _ _ _ _ ai ag rfl) rfl)) ag rfl)) (bP nY (pv 0) (bU ai) (bU ai)))) (au (i:=1) nQ.nd rfl (Or.inl rfl))
   (@ah _ _ _ _ _ (@eX _ _ _ _ _ _ (aD cLWeb hr (by decide) rfl (@aa _ _ _ _ _ (aD cLDeal hr (by decide) rfl (@aa _ _ _ _ _ (pv 1) (@aa _ _ _ _ _ ai ag rfl) rfl)) (@aa _ _ _ _ _ ai ag rfl) rfl)) (dB rfl (aR (au (i:=2) nQ.nd rfl (Or.inl rfl)) (aR (au (i:=3) nQ.nd rfl (Or.inl rfl)) cB))) rfl rfl rfl)
   (@ah _ _ _ _ _ (@bJ _ _ _ _ _ _ _ _ (PW.pt (my (aJ mB (aD cClearsWeb hr (by decide) rfl (@aa _ _ _ _ _ (pv 2) (@aa _ _ _ _ _ (@ck _ _ _ _ _ ag) ag rfl) rfl)) (cK dE (@aL _ _ _ _ _ _ _ aN (aD cPeeledWeb hr (by decide) rfl (@aa _ _ _ _ _ (pv 2) ag rfl)) ai (λ_ _=>rfl)) i9 (aM _)) (aM _)) (jb (kq (fI (aD cClearsWeb hr (by decide) rfl (@aa _ _ _ _ _ (pv 2) (@aa _ _ _ _ _ (aS (qm hr.hd) rfl B.b_tuple cQ (@aa _ _ _ _ _ (aS ql rfl B.b_range yb (@aa _ _ _ _ _ (@aL _ _ _ _ _ _ _ aN (pv 2) ai (λ_ _=>rfl)) ag rfl)) ag rfl)) ag rfl) rfl))))))) dk aP)
   (@ak _ _ _ (@cj _ _ _ _ _ _ _ _ Eh rfl (bK rfl B.b_range (@aa _ _ _ _ _ (@aO _ _ _ _ _ _ _ _ AS ai (@aL _ _ _ _ _ _ _ aN (pv 2) ai (λ_ _=>rfl))) ag rfl)) (au (i:=4) nQ.nd rfl (Or.inl rfl))
    (@ah _ _ _ _ _ (@aK _ _ 5 _ _ _ _ nQ.nd rfl (Or.inl rfl) (aD cLBits hr (by decide) rfl (@aa _ _ _ _ _ (pv 2) (@aa _ _ _ _ _ (pv 4) ag rfl) rfl)) rfl (by first | exact .inl rfl | exact .inr rfl | assumption))
    (@ak _ _ _ (@bJ _ _ _ _ _ _ _ _ (PW.pt (nW (aJ dE (@aL _ _ _ _ _ _ _ aN (aD cShownClear hr (by decide) rfl (@aa _ _ _ _ _ (pv 2) (@aa _ _ _ _ _ (pv 5) ag rfl) rfl)) ai (λ_ _=>rfl)) i9 (aM _)) (jZ (kq (fI (aD cLLeastTold hr (by decide) rfl (@aa _ _ _ _ _ (pv 2) (@aa _ _ _ _ _ (pv 5) ag rfl) rfl))))))) dk aP))) (λ_=>rfl))))) (λ_=>rfl))
  (@ak _ _ _ (@aH _ _ _ _ gF))),?_⟩
 refine ⟨_,rfl,gY.mpr ⟨a,nn,0,rfl,hS,by decide,λc0=>⟨(by show 1<=Dl;decide),λl0 hl0 =>?_⟩⟩⟩
 have g2:=af hl0 (.lst [.int c0])
 have el0:upd H l0 (.lst [.int c0]) l0=some (.lst [.int c0]):=ae
 generalize upd H l0 (.lst [.int c0])=H2 at g2 el0
 refine ⟨_,rfl,1,rfl,2,rfl,a,_,rfl,g2.seq hS,λl2 hl2 =>?_⟩
 obtain ⟨cs,ecs,lcs⟩:∃cs:List Int,e6 (nn.map V.int) (some 1) (some 2)=cs.map V.int/\cs.length<=63:=by
  unfold e6
  refine ⟨(nn.drop _).take _,(by rw[GI,Gg]),?_⟩
  rw[D6,Ea];lia
 rw[ecs]
 have g4:=af hl2 (.lst (cs.map V.int))
 have el2:upd H2 l2 (.lst (cs.map V.int)) l2=some (.lst (cs.map V.int)):=ae
 generalize upd H2 l2 (.lst (cs.map V.int))=H4 at g4 el2
 refine ⟨l0,l2,_,_,rfl,rfl,SqL.of (g4 _ _ el0),SqL.of el2,by rw[CS];exact small (by show 1+_<=_;lia),λS hS =>?_⟩
 rw[show ([V.int c0]++cs.map V.int:List V)=(c0 :: cs).map V.int from rfl]
 have eS:upd H4 S (.lst ((c0 :: cs).map V.int)) S=some (.lst ((c0 :: cs).map V.int)):=ae
 generalize upd H4 S (.lst ((c0 :: cs).map V.int))=H5 at eS
 refine ⟨S,rfl,⟨_,SqL.of eS⟩,dD (xs:=(c0 :: cs).map V.int) (λi σ H'=>(∃c1 c2 c3 c4 c5,σ=[some (.ref a),c1,c2,c3,c4,c5])/\aA H5 H') ⟨⟨_,_,_,_,_,rfl⟩,aA.refl _⟩ (λi σ H' _ z=>SqL.of (z.2 _ _ eS)) ?_ (λσ H' _=>q _)⟩
 rintro i x σ H6 hx ⟨⟨c1,c2,c3,c4,c5,rfl⟩,s6⟩
 obtain ⟨cell,ec,rfl⟩:=fG hx
 refine ⟨_,rfl,gZ.mpr ⟨cell,1,rfl,by decide,by decide,λn n0=>hW.mpr ⟨n,6,rfl,n0,by decide,by decide,λp b n' mI ts H8 s8 ep W mI0 m6 n'0 =>?_⟩⟩⟩
 obtain ⟨m,rfl⟩:∃m:Nat,mI=m:=⟨mI.toNat,by lia⟩
 have s68:=s6.trans s8
 refine ⟨p,_,rfl,SqT.of ep,rfl,_,_,rfl,_,_,rfl,rfl,_,rfl,(by show 0<=Dl;decide),λe0 he0 =>?_⟩
 have g9:=af he0 (.tup [])
 have ee0:upd H8 e0 (.tup []) e0=some (.tup (([]:List Int).map V.int)):=ae
 generalize upd H8 e0 (.tup [])=H9 at g9 ee0
 refine bZ.mpr ⟨b,e0,m,ts,[],rfl,W.same g9,by lia,ee0,λH10 b0 s10 hb0 =>?_⟩
 rw[o7] at hb0
 have s810:=g9.trans s10
 refine ⟨_,rfl,Ah (W.same s810) (by lia) λp1 v x H11 s11 ep11 hv =>?_⟩
 refine ⟨p1,_,0,_,rfl,rfl,SqT.of ep11,rfl,rfl,rfl,?_⟩
 have e0:(!decide (V.bl b0=V.bl (decide (V.str v=V.str "wood"))))=false:=by
  have:b0=decide (V.str v=V.str "wood"):=by rw[Fo,hb0,decide_eq_true_iff,hv]
  rw[<- this];simp
 rw[e0]
 have s811:=s810.trans s11
 have W11:=W.same s811
 obtain ⟨t,e1,e2⟩:=W11.at'
 refine ⟨_,rfl,bM ⟨_,rfl,_,rfl,b,_,0,_,rfl,rfl,SqT.of e1,rfl,(m:Int),rfl,λa0 ha0 =>?_⟩⟩
 have g12:=af ha0 (.rng 0 (m:Int))
 have ea0:upd H11 a0 (.rng 0 (m:Int)) a0=some (.rng 0 (m:Int)):=ae
 generalize upd H11 a0 (.rng 0 (m:Int))=H12 at g12 ea0
 refine ⟨a0,m,rfl,ea0,by lia,λl9 hl9 =>?_⟩
 rw[show (EF m).map (λi=>V.int (i:Nat))=(rgI m).map V.int by unfold rgI;rw[HC];rfl]
 have g13:=g12.trans (af hl9 (.tup ((rgI m).map V.int)))
 have el9:upd H12 l9 (.tup ((rgI m).map V.int)) l9=some (.tup ((rgI m).map V.int)):=ae
 generalize upd H12 l9 (.tup ((rgI m).map V.int))=H13 at g13 el9
 refine bZ.mpr ⟨b,l9,m,ts,rgI m,rfl,W11.same g13,by lia,el9,λH14 b1 s14 hb1 =>?_⟩
 have nl:(ts.map (·.2)).filter (off (rgI m))=[]:=HU.mpr λt ht h=>by
  obtain ⟨x,y,rfl,x0,xy,ym⟩:=iU W t ht
  exact (yH.mp h).1 (cG.mpr ⟨x0,by lia⟩)
 rw[nl] at hb1
 rw[hb1.mpr rd]
 have W14:=W11.same (g13.trans s14)
 have s814:=s811.trans (g13.trans s14)
 obtain ⟨t4,e41,e42⟩:=W14.at'
 refine ⟨_,rfl,bM ?_⟩
 refine ⟨_,rfl,b,_,0,_,rfl,rfl,SqT.of e41,rfl,1,(m:Int),rfl,rfl,⟨by lia,by lia,by decide⟩,?_⟩
 have tl:=BM (m:=m) (by lia)
 refine ⟨_,rfl,by lia,by lia,du (λi σ H'=>(∃c1 c4 c5,σ=[some (.ref a),c1,some (.ref b),some (.int n'),c4,c5])/\aA H14 H') ⟨⟨_,_,_,rfl⟩,aA.refl _⟩ ?_ ?_⟩
 ·rintro i σ Ha hi ⟨⟨c1,c4,c5,rfl⟩,sa⟩
  have Wa:=W14.same sa
  refine ⟨_,rfl,_,rfl,ik.mpr ⟨b,m,_,ts,rfl,Wa,by lia,λq2 ps Hb sb eq2 rs rg =>?_⟩⟩
  have nd:ps.Nodup:=rs.imp λ{a b} h=>J9 h
  have Wc:=Wa.same sb
  refine ⟨_,rfl,_,rfl,tq Wc (by lia) eq2 rg nd λp3 v3 x3 Hc sc ep3 hw =>?_⟩
  refine ⟨p3,_,0,_,rfl,rfl,SqT.of ep3,rfl,rfl,_,rfl,iB (λz =>?_) λz =>?_⟩
  ·have w:=hw (of_decide_eq_true z)
   refine ⟨_,rfl,_,rfl,ip.mpr ⟨b,q2,m,ts,ps,rfl,Wc.same sc,by lia,sc _ _ eq2,rs,rg,w,λHd sd=>⟨_,rfl,bM ?_⟩⟩⟩
   exact ⟨⟨_,_,_,rfl⟩,sa.trans (sb.trans (sc.trans sd))⟩
  ·exact ⟨⟨_,_,_,rfl⟩,sa.trans (sb.trans sc)⟩
 rintro σ Ha ⟨⟨c1,c4,c5,rfl⟩,sa⟩
 exact ⟨⟨_,_,_,_,_,rfl⟩,s68.trans (s814.trans sa)⟩
end
open PySem L2
theorem all_mk {l:PySem.W.OpenLaw}{w:DW}{K:CZ}{h:Heap}{mg:Str->Option CU}{fa:Addr}(X:K.In h)(G:h.Ns Eg mg)(hfa:mg "law" = some (.ref fa))
  (h1:bR K "tie_of" xY) (h2:bR K "ties_at" uw) (h3:bR K "near_lists" k8) (h4:bR K "tied_times" k9) (h5:bR K "is_rising" js) (h6:bR K "is_set_of" lb) (h7:bR K "cut_web" ux) (h8:bR K "reached_from" iN) (h9:bR K "hanging_parts" gJ) (h10:bR K "spare_ties" lq) (h11:bR K "is_ring" oE) (h12:bR K "ring_form" jt) (h13:bR K "way_about" eQ) (h14:bR K "ring_along" gP) (h15:bR K "shortest_of" fS) (h16:bR K "least_along" fT) (h17:bR K "least_ring" gQ) (h18:bR K "ring_at" oF) (h19:bR K "peeled_places" cN) (h20:bR K "peeled_web" gR) (h21:bR K "clears_web" gS) (h22:bR K "shown_clear" fU) (h23:bR K "without_place" eE) (h24:bR K "own_ring" lA) (h25:bR K "thinned_cut" fV) (h26:bR K "is_own_ring" gW) (h27:bR K "least_right" fW) (h28:bR K "_law_cell" xZ) (h29:bR K "_law_deal" x6) (h30:bR K "_law_web" Ar) (h31:bR K "_law_bits" sP) (h32:bR K "_law_least_told" fX) (h33:bR K "law" we)
  (y_all:EU K Eg "all" = some none) (y_divmod:EU K Eg "divmod" = some none) (y_enumerate:EU K Eg "enumerate" = some none) (y_int:EU K Eg "int" = some none) (y_len:EU K Eg "len" = some none) (y_list:EU K Eg "list" = some none) (y_max:EU K Eg "max" = some none) (y_min:EU K Eg "min" = some none) (y_range:EU K Eg "range" = some none) (y_reversed:EU K Eg "reversed" = some none) (y_set:EU K Eg "set" = some none) (y_sorted:EU K Eg "sorted" = some none) (y_sum:EU K Eg "sum" = some none) (y_tuple:EU K Eg "tuple" = some none) (y_zip:EU K Eg "zip" = some none)
  : ∃fd:Eo,(∀(s:CW) (v:CU),BindsTo s fd ⟨[v],[]⟩ [("script",v)])/\∀base:Heap,K.In base->base.Ns Eg mg->bF l.prog w K mg base CX0 9 fa fd ["script"] (rD K):=by
 obtain ⟨fl,od,an,sl,oc,kV,dc,pm,cd,ct,al,ll,cl,kl⟩:=h33
 have e:=hfa.symm.trans (Mf X G al)
 cases e
 have F33:=w5 ll cl kl
 have z_all:=Ei X G y_all
 have z_divmod:=Ei X G y_divmod
 have z_enumerate:=Ei X G y_enumerate
 have z_int:=Ei X G y_int
 have z_len:=Ei X G y_len
 have z_list:=Ei X G y_list
 have z_max:=Ei X G y_max
 have z_min:=Ei X G y_min
 have z_range:=Ei X G y_range
 have z_reversed:=Ei X G y_reversed
 have z_set:=Ei X G y_set
 have z_sorted:=Ei X G y_sorted
 have z_sum:=Ei X G y_sum
 have z_tuple:=Ei X G y_tuple
 have z_zip:=Ei X G y_zip
 refine ⟨PySem.W.fnOf "law" "law" (dZ we) (bV we) (az we) .none kV dc pm an cd ct,λs v =>.of_eq rfl,λbase kb nb =>?_⟩
 have B:Blt mg:=⟨z_all,z_divmod,z_enumerate,z_int,z_len,z_list,z_max,z_min,z_range,z_reversed,z_set,z_sorted,z_sum,z_tuple,z_zip⟩
 have cLWeb:=h30.cal l.prog w base X G (λF=>BB F B) λ_ _ _ _ _ _ us hl=>match us,hl with | [_,_],_=>rfl
 have cLCell:=h28.cal l.prog w base X G (λF=>Bz F B) λ_ _ _ _ _ _ us hl=>match us,hl with | [_,_],_=>rfl
 have cLDeal:=h29.cal l.prog w base X G (λF=>BA F B) λ_ _ _ _ _ _ us hl=>match us,hl with | [_,_],_=>rfl
 have cLBits:=h31.cal l.prog w base X G (λF=>Ag F B) λ_ _ _ _ _ _ us hl=>match us,hl with | [_,_],_=>rfl
 have cNearLists:=h3.cal l.prog w base X G (λF=>zP F z_range z_set z_sorted) λ_ _ _ _ _ _ us hl=>match us,hl with | [_],_=>rfl
 have cReachedFrom:=h8.cal l.prog w base X G (λF=>zR F z_sorted) λ_ _ _ _ _ _ us hl=>match us,hl with | [_,_],_=>rfl
 have cHangingParts:=h9.cal l.prog w base X G (λF=>BE F B cNearLists cReachedFrom) λ_ _ _ _ _ _ us hl=>match us,hl with | [_],_=>rfl
 have cSpareTies:=h10.cal l.prog w base X G (λF=>zT F B cHangingParts) λ_ _ _ _ _ _ us hl=>match us,hl with | [_],_=>rfl
 have cCutWeb:=h7.cal l.prog w base X G (λF=>CG F B) λ_ _ _ _ _ _ us hl=>match us,hl with | [_,_],_=>rfl
 have cClearsWeb:=h21.cal l.prog w base X G (λF=>rj F B cSpareTies cCutWeb) λ_ _ _ _ _ _ us hl=>match us,hl with | [_,_],_=>rfl
 have cWithoutPlace:=h23.cal l.prog w base X G (λF=>lQ F B) λ_ _ _ _ _ _ us hl=>match us,hl with | [_,_],_=>rfl
 have cShortestOf:=h15.cal l.prog w base X G (λF=>oT F B) λ_ _ _ _ _ _ us hl=>match us,hl with | [_],_=>rfl
 have cRingForm:=h12.cal l.prog w base X G (λF=>sT F B) λ_ _ _ _ _ _ us hl=>match us,hl with | [_],_=>rfl
 have cWayAbout:=h13.cal l.prog w base X G (λF=>sU F B) λ_ _ _ _ _ _ us hl=>match us,hl with | [_,_,_],_=>rfl
 have cTieOf:=h1.cal l.prog w base X G (λF=>CI F z_max z_min) λ_ _ _ _ _ _ us hl=>match us,hl with | [_,_],_=>rfl
 have cTiedTimes:=h4.cal l.prog w base X G (λF=>zW F cTieOf) λ_ _ _ _ _ _ us hl=>match us,hl with | [_,_,_],_=>rfl
 have cRingAlong:=h14.cal l.prog w base X G (λF=>qO F B cWayAbout cTiedTimes) λ_ _ _ _ _ _ us hl=>match us,hl with | [_,_,_],_=>rfl
 have cLeastAlong:=h16.cal l.prog w base X G (λF=>oV F B cNearLists cShortestOf cRingForm cRingAlong) λ_ _ _ _ _ _ us hl=>match us,hl with | [_,_],_=>rfl
 have cRingAt:=h18.cal l.prog w base X G (λF=>yv F B cLeastAlong) λ_ _ _ _ _ _ us hl=>match us,hl with | [_,_],_=>rfl
 have cOwnRing:=h24.cal l.prog w base X G (λF=>wt F B cRingAt cCutWeb cWithoutPlace) λ_ _ _ _ _ _ us hl=>match us,hl with | [_,_,_],_=>rfl
 have cThinnedCut:=h25.cal l.prog w base X G (λF=>pq F B cClearsWeb cWithoutPlace cOwnRing) λ_ _ _ _ _ _ us hl=>match us,hl with | [_,_],_=>rfl
 have cIsRising:=h5.cal l.prog w base X G (λF=>tm F B) λ_ _ _ _ _ _ us hl=>match us,hl with | [_],_=>rfl
 have cIsSetOf:=h6.cal l.prog w base X G (λF=>wz F B cIsRising) λ_ _ _ _ _ _ us hl=>match us,hl with | [_,_],_=>rfl
 have cIsRing:=h11.cal l.prog w base X G (λF=>yL F B cTiedTimes) λ_ _ _ _ _ _ us hl=>match us,hl with | [_,_],_=>rfl
 have cIsOwnRing:=h26.cal l.prog w base X G (λF=>rB F B cIsRing) λ_ _ _ _ _ _ us hl=>match us,hl with | [_,_,_,_],_=>rfl
 have cLeastRight:=h27.cal l.prog w base X G (λF=>pA F B cIsSetOf cClearsWeb cIsOwnRing) λ_ _ _ _ _ _ us hl=>match us,hl with | [_,_],_=>rfl
 have cLLeastTold:=h32.cal l.prog w base X G (λF=>pD F B cThinnedCut cLeastRight cClearsWeb) λ_ _ _ _ _ _ us hl=>match us,hl with | [_,_],_=>rfl
 have cTiesAt:=h2.cal l.prog w base X G (λF=>okAt F z_sum) λ_ _ _ _ _ _ us hl=>match us,hl with | [_,_],_=>rfl
 have cPeeledPlaces:=h19.cal l.prog w base X G (λF=>lM F B cNearLists cTiesAt) λ_ _ _ _ _ _ us hl=>match us,hl with | [_],_=>rfl
 have cLeastRing:=h17.cal l.prog w base X G (λF=>qT F B cLeastAlong) λ_ _ _ _ _ _ us hl=>match us,hl with | [_],_=>rfl
 have cPeeledWeb:=h20.cal l.prog w base X G (λF=>rf F B cPeeledPlaces cLeastRing) λ_ _ _ _ _ _ us hl=>match us,hl with | [_],_=>rfl
 have cShownClear:=h22.cal l.prog w base X G (λF=>pg F B cPeeledWeb cCutWeb) λ_ _ _ _ _ _ us hl=>match us,hl with | [_,_],_=>rfl
 exact CO F33 B cLWeb cLCell cLDeal cLBits cClearsWeb cLLeastTold cPeeledWeb cShownClear
theorem walk {l:PySem.W.OpenLaw}{q:Dp}{loose:List Str}{XP:(Str->Option CU)->Heap->Prop}{YP:DW->Heap->Prop}{d:DefRec}{K:Params->CZ}(hn:l.most=some 63)(hdf:d.params.defaults=[])
  (hY:∀(w:DW) (h:Heap),YP w h->(K w.params).In h)
  (F:∀(w:DW) (mg:Str->Option CU) (fa:Addr) (h:Heap),(K w.params).In h->h.Ns Eg mg->mg d.name=some (.ref fa) →
   ∃fd:Eo,(∀(s:CW) (u:CU),BindsTo s fd ⟨[u],[]⟩ [("script",u)])/\∀base:Heap,(K w.params).In base->base.Ns Eg mg->bF l.prog w (K w.params) mg base CX0 9 fa fd ["script"] (rD (K w.params))) :
  PySem.W.WalkO q loose XP YP l.row.toRowW d [] (λf vs=>PySem.call f vs) :=
 L2.y7 (n:=63) (k:=9) (x := "script") (CX:=λ_=>CX0) (sp:=λw=>rD (K w.params)) hn (by decide) hdf ⟨rfl,by decide,by decide⟩ hY F (λ_ _ a ns hl _ hS=>⟨a,ns,rfl,hS,hl,λ_=>rfl⟩) λ_ _ _ _ _ z=>z
end K18
def PySem.W.Fast.tw9140899757320094880:Nat:=0
def PySem.W.Fast.tw2327889196769827551:Nat:=0
def PySem.W.Fast.tw14304859696915068371:Nat:=0
def PySem.W.Fast.tw8563364893371500711:Nat:=0
def PySem.W.Fast.tw12703372587753566591:Nat:=0
def PySem.W.Fast.tw12716174334758780454:Nat:=0
def PySem.W.Fast.tw4352687417659195438:Nat:=0
def PySem.W.Fast.tw1889332499909334543:Nat:=0
def PySem.W.Fast.tw11390960076008754747:Nat:=0
def PySem.W.Fast.tw15512825383127338496:Nat:=0
def PySem.W.Fast.tw12375852672115698053:Nat:=0
def PySem.W.Fast.tw14042421637224389363:Nat:=0
def PySem.W.Fast.tw16374458701924766664:Nat:=0
def PySem.W.Fast.tw364608896950041044:Nat:=0
def PySem.W.Fast.tw15279003596647750242:Nat:=0
def PySem.W.Fast.tw16845813283278058843:Nat:=0
def PySem.W.Fast.tw4017899563097153977:Nat:=0
def PySem.W.Fast.tw6547234103066367019:Nat:=0
def PySem.W.Fast.tw4788398918653934355:Nat:=0
def PySem.W.Fast.tw7054617351785679571:Nat:=0
def PySem.W.Fast.tw10271598620422548449:Nat:=0
def PySem.W.Fast.tw3494975874748650436:Nat:=0
def PySem.W.Fast.tw14165345230749326348:Nat:=0
def PySem.W.Fast.tw15489774876561331243:Nat:=0
def PySem.W.Fast.tw1384548632764634863:Nat:=0
def PySem.W.Fast.tw986789501081402022:Nat:=0
def PySem.W.Fast.tw12236184281828396191:Nat:=0
def PySem.W.Fast.tw3972348609946906793:Nat:=0
def PySem.W.Fast.tw2141354554529758606:Nat:=0
def PySem.W.Fast.tw671525644188478199:Nat:=0
def PySem.W.Fast.tw11349706097153700822:Nat:=0
def PySem.W.Fast.tw1900080174949991410:Nat:=0
def PySem.W.Fast.tw8628107494183665156:Nat:=0
def PySem.W.Fast.tw12198368391813624118:Nat:=0
def PySem.W.Fast.tw14935761247558925885:Nat:=0
def PySem.W.Fast.tw1202072037302690913:Nat:=0
def PySem.W.Fast.tw3267055979334163056:Nat:=0
def PySem.W.Fast.tw15596025867541491974:Nat:=0
def PySem.W.Fast.tw13445314613100454066:Nat:=0
def PySem.W.Fast.tw12241086306835399970:Nat:=0
def PySem.W.Fast.tw8228635499109113237:Nat:=0
def PySem.W.Fast.tw7188420833806441530:Nat:=0
def PySem.W.Fast.tw10376555095423418730:Nat:=0
def PySem.W.Fast.tw9562891323406081559:Nat:=0
def PySem.W.Fast.tw6343710575136954024:Nat:=0
def PySem.W.Fast.tw14712572197601553298:Nat:=0
def PySem.W.Fast.tw8332197723617622400:Nat:=0
def PySem.W.Fast.tw5599636787596468699:Nat:=0
def PySem.W.Fast.tw1917472348572444632:Nat:=0
def PySem.W.Fast.tw3662187791460520127:Nat:=0
def PySem.W.Fast.tw11240107631493131136:Nat:=0
def PySem.W.Fast.tw1124346226158296897:Nat:=0
def PySem.W.Fast.tw31468803204332638:Nat:=0
def PySem.W.Fast.tw8713799404671027023:Nat:=0
def PySem.W.Fast.tw17719976184782631499:Nat:=0
def PySem.W.Fast.tw17691376397997987411:Nat:=0
def PySem.W.Fast.tw5697475686370474977:Nat:=0
def PySem.W.Fast.tw12763673715634990236:Nat:=0
def PySem.W.Fast.tw6605901787613493411:Nat:=0
def PySem.W.Fast.tw18256459569289558592:Nat:=0
def PySem.W.Fast.tw17432436195392270069:Nat:=0
def PySem.W.Fast.tw3615241943820611184:Nat:=0
def PySem.W.Fast.tw17615649684902291846:Nat:=0
def PySem.W.Fast.tw8638856612714797285:Nat:=0
def PySem.W.Fast.tw8207789596099492554:Nat:=0
def PySem.W.Fast.tw5877615714384077161:Nat:=0
def PySem.W.Fast.tw9111214948931449402:Nat:=0
def PySem.W.Fast.tw9512569108270435822:Nat:=0
def PySem.W.Fast.tw363195398302898517:Nat:=0
def PySem.W.Fast.tw17832546735555005696:Nat:=0
def PySem.W.Fast.tw4222665588862469525:Nat:=0
def PySem.W.Fast.tw17271050414234328216:Nat:=0
def PySem.W.Fast.tw10164768347415776356:Nat:=0
def PySem.W.Fast.tw9520474096430600401:Nat:=0
def PySem.W.Fast.tw9549445348712719839:Nat:=0
def PySem.W.Fast.tw15281624630640953605:Nat:=0
def PySem.W.Fast.tw11356287447938173234:Nat:=0
def PySem.W.Fast.tw8268379208879512194:Nat:=0
def PySem.W.Fast.tw9148078652226412337:Nat:=0
def PySem.W.Fast.tw8315123606124230643:Nat:=0
def PySem.W.Fast.tw16890240503038715626:Nat:=0
def PySem.W.Fast.tw13124770525953173453:Nat:=0
def PySem.W.Fast.tw1766496018181594104:Nat:=0
def PySem.W.Fast.tw9013595920972347116:Nat:=0
def PySem.W.Fast.tw15611508766708121599:Nat:=0
def PySem.W.Fast.tw4773867059852998309:Nat:=0
def PySem.W.Fast.tw9704430301005506642:Nat:=0
def PySem.W.Fast.tw16721765384438712634:Nat:=0
def PySem.W.Fast.tw9575057211609977477:Nat:=0
def PySem.W.Fast.tw5317660981746461230:Nat:=0
def PySem.W.Fast.tw2137133506831486849:Nat:=0
def PySem.W.Fast.tw11380819563023450301:Nat:=0
def PySem.W.Fast.tw10120858866336417270:Nat:=0
def PySem.W.Fast.tw14258519600473798120:Nat:=0
def PySem.W.Fast.tw8246362816269373507:Nat:=0
def PySem.W.Fast.tw17570294515267414881:Nat:=0
def PySem.W.Fast.tw7984735654378669920:Nat:=0
def PySem.W.Fast.tw10581095933180347877:Nat:=0
def PySem.W.Fast.tw5889753604479575909:Nat:=0
def PySem.W.Fast.tw4217779346781273772:Nat:=0
def PySem.W.Fast.tw10458385472000204946:Nat:=0
def PySem.W.Fast.tw12165734669889284238:Nat:=0
def PySem.W.Fast.tw14913516997773633550:Nat:=0
def PySem.W.Fast.tw10697966491848494165:Nat:=0
def PySem.W.Fast.tw1375494477454847976:Nat:=0
def PySem.W.Fast.tw4182714158344674725:Nat:=0
def PySem.W.Fast.tw5648779794916328489:Nat:=0
def PySem.W.Fast.tw5176502327644577077:Nat:=0
def PySem.W.Fast.tw992258156830147513:Nat:=0
def PySem.W.Fast.tw9738977552232037947:Nat:=0
def PySem.W.Fast.tw6601754125260300755:Nat:=0
def PySem.W.Fast.tw15769290013914877654:Nat:=0
def PySem.W.Fast.tw1879529352936070737:Nat:=0
def PySem.W.Fast.tw4545481196680477096:Nat:=0
def PySem.W.Fast.tw11721276343455041667:Nat:=0
def PySem.W.Fast.tw7878882222257748597:Nat:=0
def PySem.W.Fast.tw12735785141073076308:Nat:=0
def PySem.W.Fast.tw2656333012538211707:Nat:=0
def PySem.W.Fast.tw14781137493876966811:Nat:=0
def PySem.W.Fast.tw5137804476557984883:Nat:=0
def PySem.W.Fast.tw10416650607535659757:Nat:=0
def PySem.W.Fast.tw8937979840022645306:Nat:=0
def PySem.W.Fast.tw18221968713036129794:Nat:=0
def PySem.W.Fast.tw8317845233949785893:Nat:=0
def PySem.W.Fast.tw7327239364454065497:Nat:=0
def PySem.W.Fast.tw10967010180913431631:Nat:=0
def PySem.W.Fast.tw1874816791548479618:Nat:=0
def PySem.W.Fast.tw14693330396366978812:Nat:=0
def PySem.W.Fast.tw4520694488962161743:Nat:=0
def PySem.W.Fast.tw16677440127642377625:Nat:=0
def PySem.W.Fast.tw5928195043932801857:Nat:=0
def PySem.W.Fast.tw4882512005801441969:Nat:=0
def PySem.W.Fast.tw14884017696845279369:Nat:=0
def PySem.W.Fast.tw12345637800068621758:Nat:=0
open PySem PySem.W PyProof.Rows
set_option maxRecDepth 100000 in
set_option maxHeartbeats 0 in
theorem PySem.Challenge.cw_ringfell_k18_whole_thinned_are_least_holds : PySem.Challenge.rw_ringfell_k18_whole_thinned_are_least.Holds := by
 w_on;o_law;k_head;(case hw=>w_witness2)
 k_fill
 refine K18.walk (l:=PySem.Challenge.rw_ringfell_k18_whole_thinned_are_least) rfl rfl (λw h Y=>PySem.W.kIn_of Y) ?F
 case F =>
  intro w mg fa h KX G hmg
  refine' K18.all_mk KX G hmg ?_ ?_ ?_ ?_ ?_ ?_ ?_ ?_ ?_ ?_ ?_ ?_ ?_ ?_ ?_ ?_ ?_ ?_ ?_ ?_ ?_ ?_ ?_ ?_ ?_ ?_ ?_ ?_ ?_ ?_ ?_ ?_ ?_ ?_ ?_ ?_ ?_ ?_ ?_ ?_ ?_ ?_ ?_ ?_ ?_ ?_ ?_ ?_
  all_goals first | k_is | (refine' L2.bR.mk ?a ?l ?c ?k;(case a=>k_is);(case l=>k_is);(case c=>k_is);(case k=>k_is))
