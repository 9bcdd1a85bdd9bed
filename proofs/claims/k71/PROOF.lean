import PyProof.Rows.All
import Wide.All
import OpenK.AllK
import Wide.FinOn
import Lean
import PyProof.EqAt
import PyProof.EqKinds
import PyProof.TupleCall
import KE.KRevIter
import PyProof.ZipIter
import PyProof.MinMaxWalk
import PySem.Challenge.RW_ringfell_k71_thinned_arrows
open PySem renaming wpAny_bind → DH,Value → DK,wpAny_pure → DN,Shared → DP,sizeLine → D3,Program → D9,wpAny → Ee,model → Es,mainGlobals → Ey,World → EE,starEach → EL,codeAny_builtin → ES,Around → EV,FuncData → E4,wpAny_newObj_type → E7,wpAny_call_entry → E8,wpAny_holding → Fb,bootBuiltins → Ff,wpAny_callSpecial?_slot → Fi,compareOp → Fl,wpAny_field → Fn,plainId_quiet → Fs,wpAny_seqItems → Fv,wpAny_updateSeq → FR,wpAny_setField_rec → F1,wpAny_ite_split → Ge,wpAny_mono → Gk,wpAny_truthy_bool → Gm,builtinLookup_eq_fast → Gn,wpAny_tryCatch → Gp,wpAny_of_eq → Gx,wpAny_rule → Gz,richCompare_meets_room → GD,wpAny_attempt → GG,wpAny_pyIter_tuple → GL,wpAny_Call_Name_kw → GN,isSubtype_type → GW,wpAny_pyIter_list → GZ,mem_of_lookup → G1,sizeLine_eq → G4,wpAny_specialOf → G6,wpAny_isInstance → Ht,wpAny_typeOf → Hz,wpAny_letGo → HC,rawInt → HD,codeAny_call_builtin → HF,wpAny_passesOwn → HM,typeLookup_type → HN,codeAny_mono → HS,backTo → Ib,wpAny_execs_nil → Io,wpAny_loadPart_at → Ir,wpAny_forIn_list → IE,codeAny → IL,wpAny_pyIter_slot → Jh,wpAny_setField → Ji,wpAny_runValue → Jj,holding → Jr,wpAny_updateSeq_pair → Ju,wpAny_standAt → Jw,wpAny_newList → Jx,intItems → Jy,call_meets → Jz,wpAny_letOwnedTupleGo_enum → JO,wpAny_eqBool_tuple → JS,tupleKind_room_in1 → JT,isSubtype_stop → J0,intKind_is → Ke,wpAny_onRaise → Ko,numAt_eq → Kp,wpAny_execs_cons → KA,noFill_tuple_add → KC,wpAny_askSetting → KD,entryFor_of_tree → KG,wpAny_Call_method_late → KQ,wpAny_isTrue_Compare1 → K9,concat_meets → La,callType_new → Lb,wpAny_eqIsQuiet_tuple → Lc,codeAny_of_tree → Ld,weight_type_call_type → Lf,wpAny_call → Lh,codeAny_extend_loopS → Lr,seqIndex_of → LF,wpAny_setEntries_of → LH,seq_tuple_add → LX,wpAny_handled → LZ,signature?_of → L5,wpAny_evalAll_cons → L6,wpAny_load → Mo,wpAny_sequenceKey → Mp,seqIndex_neg → Ms,wpAny_throw → MY,intItems_at → M3,wpAny_mkInt → M4,wpAny_Name → Nj,typeIs_int → Nk
open List renaming length_map → DI,getElem?_eq_getElem → DL,getElem?_eq_some_iff → DQ,size_toArray → DR,length_append → DT,map_append → DU,mem_of_getElem? → DV,mem_singleton → DW,getD_eq_getElem?_getD → DX,mem_map → DZ,getElem?_map → D1,take_of_length_le → D5,mem_append → D6,take_add_one → Ef,mem_cons → Eg,mem_cons_of_mem → Em,mem_cons_self → En,mem_iff_getElem? → Et,length_cons → Eu,map_cons → Ew,length_drop → Ez,mem_append_right → EC,getElem?_toArray → ED,length_take → EF,getElem?_append_left → EH,pairwise_map → EN,range → EU,getElem?_append_right → EY,append_assoc → E2,append_nil → E6,mem_range → E9,length_singleton → Fj,nodup_cons → Fm,getElem?_eq_none → Fp,filter_cons_of_neg → Fq,extract_eq_take_drop → Fu,pairwise_append → Fw,drop_sublist → Fx,filter_append → FA,filter_cons_of_pos → FD,take_sublist → FE,getElem?_eq_none_iff → FF,replicate → FI,mem_append_left → FJ,getElem?_drop → FK,take_append_drop → FP,nodup_nil → FU,mem_of_mem_drop → FY,getElem?_set_self → F3,mem_filter → Ga,all_eq_true → Gf,take_append_of_le_length → Gg,pairwise_singleton → Gq,pairwise_cons → Gs,getElem?_take → Gv,mem_of_mem_take → Gy,getElem_mem → GB,filterMap_cons → GF,idxOf_lt_length_iff → GK,eq_nil_of_length_eq_zero → GQ,getElem?_set_ne → GR,getElem?_cons_succ → GU,length_range → GY,length_nil → G2,length_pos_iff → G3,perm_ext_iff_of_nodup → Hs,perm_append_comm → Hw,getElem?_zip_eq_some → HA,pairwise_iff_getElem → HB,getElem?_take_of_lt → HG,nodup_append → HL,set_set → HQ,length_reverse → HW,map_drop → HX,mem_filterMap → Ig,find?_cons → Il,any_cons → Ip,drop_zero → Iw,lookup_cons → Iz,not_mem_nil → IC,ext_getElem → ID,reverse_append → II,getElem_of_mem → IJ,getElem?_replicate → IT,zip_cons_cons → IU,length_eq_zero_iff → IX,map_take → IZ,getElem_idxOf → Jc,ext_getElem? → Je,drop_append_of_le_length → Jo,nil_append → JC,getElem?_range → JE,mem_map_of_mem → JG,map_map → JQ,drop_eq_getElem_cons → JV,take_zero → JW,drop_left → JX,flatten_cons → J4,find?_range_eq_none → J5,eraseIdx_cons_succ → Ki,perm_middle → Ks,zipIdx_cons → Kt,countP_cons → Kv,range'_succ → Kw,any_eq_true → Kx,getElem_map → Kz,drop_eq_nil_of_le → KL,pairwise_lt_range → KN,of_mem_zip → KR,length_replicate → KS,map_nil → KU,length_set → KW,forIn_cons → KY,length_zip → K2,contains_iff_mem → K4,length_filter_le → K7,filterMap_append → K8,reverse_reverse → Lj,length_eraseIdx → Ll,count_cons_self → Lp,replicate_succ' → Lq,all_cons → LN,set_comm → LP,reverse_cons → Mi,getElem?_inj → Mk,foldl_append → Mm,nodup_range → MF,foldl_cons → MM,count_cons → MP,zipIdx_nil → MQ,countP_map → MR,filter_map → MU,drop_drop → M9,take_succ → Nb,forIn_nil → Nc,all_map → Nr
open PySem.Heap renaming get?_push_of_some → DJ,get?_push_size → D2,lt_size → D4,get?_update_other → Eo,get?_update_self → EZ,size_push → Fz,get?_update_ne → LB
open PySem.W renaming Frag → DM,nsIn → EO,mg_none_of → EW,mg_of → FL,kia_one → Gd,kat_nil → JD,hideAll_get → Kq,kat_cons → Ku,cellsFrom_some → KH,kat_yes → K3,kat_no → Lu,callWith_K → LM,kitx_list → L7,kitx_dict → L8,looks_findIn → My,kat_kind → ME,kat_one → MT,kat_lt → Na
open Nat renaming le_refl → DS,lt_of_lt_of_le → Ec,ne_of_lt → Ed,zero_le → EB,le_trans → EI,lt_irrefl → Fe,lt_succ_of_lt → FG,le_of_lt → FN,lt_succ_self → GA,le_add_right → GP,le_sub_one_of_lt → GS,ne_of_gt → Hu,zero_add → Hy,le_succ_of_le → HI,lt_of_succ_lt → HJ,le_of_lt_succ → HK,lt_or_ge → HR,add_sub_cancel_left → HV,lt_of_not_le → Ia,eq_zero_of_not_pos → Ic,lt_of_le_of_lt → Ih,not_lt_zero → Im,add_le_add_left → IG,succ_pos → IP,le_antisymm → IW,eq_zero_or_pos → Jb,mod_lt → Jf,le_of_not_lt → Jn,sub_one_lt_of_lt → Jt,min_self → JP,le_succ → Kg,le_of_sub_eq_zero → K0,add_zero → K1,lt_of_le_of_ne → LQ,sub_pos_of_lt → Md,le_of_succ_le → Me,lt_trichotomy → Ml,sub_zero → Mr,succ_le_succ → MD,le_zero → MS,mul_le_mul → Nd,add_assoc → Nl
open Array renaming length_toList → DY,getElem?_toList → D7,getElem?_eq_getElem → Ep,mem_toList_iff → EJ,toList_append → ER,size_map → E5,getElem?_eq_some_iff → FW,toList_extract → FX,toList_push → Gi,getD_eq_getD_getElem? → Gw,getElem?_eq_none → G9,toList_reverse → HE,size_push → HH,size_append → Iq,toList_inj → IA,getElem_mem → Jg,toList_map → Jp,toList_setIfInBounds → JK,perm_iff_toList_perm → JL,size_setIfInBounds → J3,getElem?_replicate → J6,append_assoc → LK,getElem?_map → LR,forIn_toList → LS
open PySem.Value renaming ref → D8,int → FT,none → F7,type → GO,isInt_shape → J1
open Classical renaming byContradiction → Ea
open PyProof.Rows renaming wpS_bind → Eb,wpS_pure → Ej,Keyed → Ek,arrOf → Er,pendingOf → EG,SortSt → EK,slot_tuple_getitem → Fd,wpS_forRange → FC,callWith_type1 → FO,IntsAre → Gh,wpS_mono → GH,wpS_modify → G0,KeyOrd → Jm,reverseSlice'_eq → Jq,wpS_get → JH,wpS_lift → JR,subscriptTail_builtinR → KP,args_list_sort → Lx,sortedHeap_old → Ly,getElem?_mirror_all → LG,args_tuple_getitem → LY,listUpdate_at → L0,sortedHeap_at → L3,isInt_at → L4,size_push' → Mq,listItems_at → Mu,plain_sorted → Mv,entry_sorted → Mw,args_sorted1 → Mx,len_tuple → MX,kind_sorted → MZ
open Bool renaming false_ne_true → Eh,false_eq_true → Ei,and_eq_true → Fo,not_true → FV,eq_iff_iff → Gb,eq_false_iff → GX,false_and → JU,not_false → Ls,and_false → Lv,false_or → LV,or_false → Nm
open PySem.F renaming plainAttrs_list → Ex,plain_min_loop → E3,slot_list_append → Fg,type_list_append → Fh,called_set → FQ,entry_min_loop → GC,slot_list_index → GV,slot_tuple_iterator_next → Hr,type_list_index → HZ,slot_enumerate_iter → Ij,slot_enumerate_next → Ik,plain_extend_loop → IK,args_tuple_add_2 → IM,slot_list_remove → IS,entry_tuple_add → IV,slot_tuple_add → Jd,typeOf_object_class → Jl,args_tuple_iterator_next_1 → Jv,entry_tuple_iterator_next → JB,slot_zip_next → JF,args_list_remove_2 → JM,args_object_init_2 → JN,entry_list_remove → JY,plain_extend_loop → JZ,slot_tuple_index → J8,slot_list_insert → Kb,type_list_insert → Kc,args_enumerate_iter_1 → Kh,plain_list_iadd → Kk,slot_list_count → Km,args_list_eq_2 → Ky,entry_enumerate_iter → KJ,typeCall_set_1 → KO,entry_list_eq → K5,attrBase_ValueError → K6,mro_reversed → Lm,excBase_ValueError → Lo,slot_list_eq → Lw,entry_extend_loop → LC,slot_gs_get → LW,entry_type_call → Mf,plain_list_iadd → Mg,args_zip_next_1 → Mj,args_list_ne_2 → MC,entry_set_init → MG,entry_zip_next → MH,entry_list_ne → ML,plain_set_new → MN,slot_set_iter → MO
open Option.some renaming inj → EA
open PySem.Around renaming under_plainId → EM,under_plain → LU,in1_units → MJ
open PyProof.Rows.KeyOrd renaming kle_trans → ET,kle_of_klt → FH,kle_refl → Gu,kle_antisymm → LA
open Int renaming toNat_natCast → E1,emod_lt_of_pos → Ii,emod_nonneg → Ja,fdiv_eq_ediv_of_nonneg → JJ
open PySem.PassesOwn renaming never → Fc
open Ne renaming symm → Ft
open PySem.Builtin.List renaming listExtendWith → Fy,listLengthHint → G7,listSameRef → HP
open Iff renaming rfl → FZ
open PySem.Obj renaming mapSeq → F8,data_mapFields → Hv,isFreed_of_fields → Jk,cls_mapFields → Mc
open List.Perm renaming append_left → Gj,append_right → G8,refl → Iv
open List.Nodup renaming length_le_of_subset → GI
open PySem.SeqAt.EqAt renaming int_int → GJ,same → JA,bool_bool → Li,int_str → LI,str_int → LJ
open PySem.Paired renaming length → HU,snoc → Nv
open PyProof.Rows.F renaming plain_set_update_loop → HY,entry_set_update_loop → Kj
open Option renaming map_eq_some_iff → Ie,isSome_iff_exists → J2,map_some → KZ,isSome_map → Mh,getD_none → Mz
open PySem.SeqAt renaming EqAt → Iu,list_eq_lengthsAt → Kl,notIn_tupleAt → Lz,notIn_listAt → LO,in_tupleAt → MA,in_listAt → MK
open PySem.Calls renaming call_function_entry → Iy,evalArgs_plain → Js,Name_function_global → JI,callWith_builtin → KI,spliced_cons → LL,spliced_nil → L9
open PySem.Heap.SameBut renaming update → IH
open List.Pairwise renaming imp_of_mem → IQ,imp → NB
open PySem.Code renaming quiet_builtin → IY
open Prod renaming ext → Kf
open PySem.AutoListH renaming list_insert_list_int_val_1 → Kr
open Std.Legacy.Range renaming forIn_eq_forIn_range' → Lg
open PySem.W.KatTups renaming cons → Lk
open PySem.SeqAt.RcNeAt renaming tuples → LD
open PySem.Walks renaming list → Ma,tuple → Nu
open PySem.SeqAt.RcAt renaming tuples → Mb,lists → MB
open List.Sublist renaming refl → Mn
open PySem.Heap.ExtBut renaming push → MI
open PySem.EqMixed renaming eq_bool_str → M5,eq_str_bool → M6,ne_bool_str → M7,ne_str_bool → M8,eq_int_str → Nf,eq_str_int → Ng,ne_int_str → Nh,ne_str_int → Ni
open PySem.Moved renaming eq_with → Nn,trans → Nt
open List.cons renaming inj → Np
open PySem.W.Looks renaming of_pure → Nq,ld → NC
open PySem.ItemsOf renaming nil → Nw
open Prod.mk renaming inj → Ny
open PySem.Heap.IsSliceOf renaming new → Nz
set_option Elab.async false
set_option linter.all false
set_option maxRecDepth 100000
namespace L2
open PySem PySem.Spec PyProof.Rows
abbrev Key:=Sum Int Str
def nW:Key->DK->Bool
 | .inl k,v=>Value.isInt k v
 | .inr x,v=>Value.isStrOf x v
def keyH (w:EE):Key->Int
 | .inl k=>hashInt k
 | .inr x=>hashStr w x
theorem bK:∀{k:Key} {v:DK},nW k v=true->(∃i t,k=Sum.inl i/\v=FT i t)\/(∃x t,k=Sum.inr x/\v=Value.str x t)
 | .inl i,v,h=>by
  obtain ⟨t,e⟩:=J1 (k:=i) (v:=v) h
  exact .inl ⟨i,t,rfl,e⟩
 | .inr x,v,h=>by
  obtain ⟨t,e⟩:=Value.isStrOf_shape (x:=x) (v:=v) h
  exact .inr ⟨x,t,rfl,e⟩
theorem vb (i:Int)(t:Tok):nW (.inl i) (.int i t)=true:=by simp[nW,Value.isInt]
theorem vd (x:Str)(t:Tok):nW (.inr x) (.str x t)=true:=by simp[nW,Value.isStrOf]
theorem Bt (a b:Int):decide ((Sum.inl a:Key)=Sum.inl b)=(a == b):=by
 by_cases e:a=b
 ·subst e;simp
 ·have h:¬ (Sum.inl a:Key)=Sum.inl b:=λq=>e (Sum.inl.inj q)
  rw[decide_eq_false h]
  exact (beq_eq_false_iff_ne.mpr e).symm
theorem Bv (a b:Str):decide ((Sum.inr a:Key)=Sum.inr b)=decide (a=b):=by
 by_cases e:a=b
 ·subst e;simp
 ·have h:¬ (Sum.inr a:Key)=Sum.inr b:=λq=>e (Sum.inr.inj q)
  rw[decide_eq_false h,decide_eq_false e]
theorem Bw (a:Int)(b:Str):decide ((Sum.inl a:Key)=Sum.inr b)=false:=decide_eq_false (λq=>nomatch q)
theorem Bx (a:Str)(b:Int):decide ((Sum.inr a:Key)=Sum.inl b)=false:=decide_eq_false (λq=>nomatch q)
def bQ (prog:D9)(w:EE):PySem.KeyKind prog w Key where
 is:=nW
 hash:=keyH w
 inj:=λv a b ha hb=>by
  rcases bK ha with ⟨i,t,rfl,rfl⟩ | ⟨x,t,rfl,rfl⟩
  ·rcases bK hb with ⟨j,u,rfl,e⟩ | ⟨y,u,rfl,e⟩
   ·injection e with e1 _;rw[e1]
   ·exact nomatch e
  ·rcases bK hb with ⟨j,u,rfl,e⟩ | ⟨y,u,rfl,e⟩
   ·exact nomatch e
   ·injection e with e1 _;rw[e1]
 byValue:=λk v h=>by
  rcases bK h with ⟨i,t,rfl,rfl⟩ | ⟨x,t,rfl,rfl⟩ <;> rfl
 pyHash:=λhv h=>by
  rcases bK hv with ⟨i,t,rfl,rfl⟩ | ⟨x,t,rfl,rfl⟩
  ·exact wpAny_pyHash_int h
  ·exact wpAny_pyHash_str h
 eqBool:=λhu hv h=>by
  rcases bK hu with ⟨i,t,rfl,rfl⟩ | ⟨x,t,rfl,rfl⟩
  ·rcases bK hv with ⟨j,u,rfl,rfl⟩ | ⟨y,u,rfl,rfl⟩
   ·rw[Bt] at h;exact wpAny_eqBool_int h
   ·rw[Bw] at h;exact LI i t y u _ _ _ _ h
  ·rcases bK hv with ⟨j,u,rfl,rfl⟩ | ⟨y,u,rfl,rfl⟩
   ·rw[Bx] at h;exact LJ x t j u _ _ _ _ h
   ·rw[Bv] at h;exact wpAny_eqBool_str h
 «strs» := λk x t v h=>by
  rcases bK h with ⟨i,u,rfl,e⟩ | ⟨y,u,rfl,e⟩
  ·exact nomatch e
  ·injection e with e1 _
   subst e1
   cases v <;> rfl
theorem qj (prog:D9)(w:EE)(i:Int)(t:Tok):(bQ prog w).is (.inl i) (.int i t)=true:=vb i t
theorem qk (prog:D9)(w:EE)(x:Str)(t:Tok):(bQ prog w).is (.inr x) (.str x t)=true:=vd x t
inductive V where
 | non | bl (b:Bool) | int (i:Int) | str (x:Str) | byt (b:Array UInt8) | flt (b:UInt64) | ref (a:Addr) | ty (n:String)
 deriving DecidableEq
def RelV:V->DK->Prop
 | .non,u=>u=F7
 | .bl b,u=>u=Value.bool b
 | .int i,u=>∃t,u=FT i t
 | .str x,u=>∃t,u=Value.str x t
 | .byt b,u=>∃t,u=Value.bytes b t
 | .flt b,u=>∃t,u=Value.float b t
 | .ref a,u=>u=D8 a
 | .ty n,u=>u=GO n
abbrev Vals:List V->List DK->Prop:=Paired RelV
theorem Vals.length {xs:List V}{us:List DK}(r:Vals xs us):xs.length=us.length:=HU r
theorem Vals.get:∀{xs:List V} {us:List DK} {i:Nat} {x:V},Vals xs us->xs[i]? = some x->∃u,us[i]? = some u/\RelV x u
 | _,_,_,_,.nil,e=>by simp at e
 | _,_,0,_,.cons r _,e=>by simp at e;subst e;exact ⟨_,rfl,r⟩
 | _,_,i+1,x,.cons _ t,e=>by
  obtain ⟨u,h1,h2⟩:=Vals.get (i:=i) (x:=x) t (by simpa using e)
  exact ⟨u,by simpa using h1,h2⟩
theorem Vals.set {x:V}{u:DK}(r:RelV x u):∀{xs:List V} {us:List DK} (i:Nat),Vals xs us->Vals (xs.set i x) (us.set i u)
 | _,_,_,.nil =>.nil
 | _,_,0,.cons _ t =>.cons r t
 | _,_,i+1,.cons q t =>.cons q (Vals.set r i t)
theorem Vals.append:∀{xs ys:List V} {us ws:List DK},Vals xs us->Vals ys ws->Vals (xs++ys) (us++ws)
 | _,_,_,_,.nil,s=>s
 | _,_,_,_,.cons r t,s =>.cons r (Vals.append t s)
theorem Vals.take:∀{xs:List V} {us:List DK} (n:Nat),Vals xs us->Vals (xs.take n) (us.take n)
 | _,_,0,_ =>.nil
 | _,_,_+1,.nil =>.nil
 | _,_,n+1,.cons r t =>.cons r (Vals.take n t)
theorem Vals.drop:∀{xs:List V} {us:List DK} (n:Nat),Vals xs us->Vals (xs.drop n) (us.drop n)
 | _,_,0,r=>r
 | _,_,_+1,.nil =>.nil
 | _,_,n+1,.cons _ t=>Vals.drop n t
def kT:Option V->Option DK->Prop
 | some v,some u=>RelV v u
 | none,none=>True
 | _,_=>False
def KV {κ:Type}:List (κ×V)->List (κ×DK)->Prop:=Paired λ(p:κ×V) (q:κ×DK)=>p.1=q.1/\RelV p.2 q.2
def kV:Key->V
 | .inl i =>.int i
 | .inr x =>.str x
inductive HO where
  | lst (xs:List V)
  | tup (xs:List V)
  | dK (kvs:List (Key×V)) | dT (kvs:List (List Key×V))
  | set (S:Int->Bool) (n:Nat)
  | ins (C dx:Addr) (fs:List (Str×V))
  | own (x:Addr)
  | xd (fs:List (Str×V))
  | met (f x:Addr)
  | rng (lo hi:Int)
  | frz (o:Obj) (u:HO)
  | tbl (ps:Array DK)
  | ext (φ:Heap->Prop)
abbrev Hp:=Addr->Option HO
def upd (H:Hp)(a:Addr)(o:HO):Hp:=λb=>if b=a then some o else H b
theorem ag {H:Hp}{a:Addr}{o:HO}:upd H a o a=some o:=by unfold upd;rw[if_pos rfl]
theorem aq {H:Hp}{a b:Addr}{o:HO}(h:b≠a):upd H a o b=H b:=by unfold upd;rw[if_neg h]
theorem ql {H:Hp}{a b:Addr}{o u:HO}(h:H a=some o)(h':H b=some u)(d:o≠u):a≠b:=by
 intro e;subst e;rw[h] at h';exact d (EA h')
theorem av {H:Hp}{a b:Addr}{o:HO}(h:H a=some o)(h':H b=none):a≠b:=by
 intro e;subst e;rw[h] at h';cases h'
def d7 (h:Heap)(a:Addr)(items:Array DK):Prop:=∃o,h.get? a=some o/\(o.cls = .type "tuple" /\ o.dict=none)/\∃n,o.data = .seq items n
theorem d7.tup {h:Heap}{a:Addr}{items:Array DK}(x:d7 h a items):IsTup h a items:=let ⟨o,e,c,n,d⟩:=x;⟨o,e,c.1,n,d⟩
theorem d7.new (h:Heap)(items:Array DK):d7 (h.push { cls :=.type "tuple",data :=.seq items }) h.objs.size items:=⟨_,D2 _ rfl,⟨rfl,rfl⟩,_,rfl⟩
section
variable  (P:D9)(w:EE)
def bp (H:Hp)(h:Heap)(a:Addr):HO->Prop
 | .lst xs=>xs.length<=D3/\∃(its:List DK) (n:Nat),Vals xs its/\h.get? a=some { cls :=.type "list",data :=.seq its.toArray n }
 | .tup xs=>xs.length<=D3/\∃its:List DK,Vals xs its/\d7 h a its.toArray
 | .dK kvs=>kvs.length<=D3/\(a == sysModules)=false/\∃vs,KV kvs vs/\h.DictOf (bQ P w) a vs
 | .dT kvs=>kvs.length<=D3/\(a == sysModules)=false/\∃xs:List (List Key×Addr×DK),
   Paired (λ(p:List Key×V) (q:List Key×Addr×DK)=>p.1=q.1/\H q.2.1=some (.tup (p.1.map kV))/\RelV p.2 q.2.2) kvs xs ∧
   ∃o es ep,h.get? a=some o/\o.ExactDict/\o.data = .dict es ep/\es.toList=xs.map (entryOfKey (tupleKind (bQ P w)))/\(xs.map (·.1)).Nodup
 | .set S n=>h.SetOf (intKind P w) a S n
 | .ins C dx fs=>H dx=some (.own a)/\fs.length<=1000/\dx≠a/\h.get? a=some (PySem.W.instObj C dx) ∧
   ∃mA,h.Ns1 dx mA/\(∀f,kT (fs.lookup f) (mA f))/\PySem.Within mA (fs.map (·.1))
 | .own _=>∃o,h.get? a=some o
 | .xd fs=>∃mA,h.Ns1 a mA/\∀f,kT (fs.lookup f) (mA f)
 | .rng lo hi=>∃t u v,h.get? a=some { cls :=.type "range",data :=.fields #[.int lo t,.int hi u,.int 1 v] }
 | .frz o u=>h.get? a=some o/\bp H h a u
 | .tbl ps=>h.get? a=some { cls :=.none,data :=.fields ps }
 | .met f x=>h.get? a=some (PySem.W.methodObj (.ref f) (.ref x))
 | .ext φ=>φ h/\(∃o,h.get? a=some o)/\∀h1 h2:Heap, φ h1->(∀o,h1.get? a=some o->h2.get? a=some o) -> φ h2
def HOk (H:Hp)(h:Heap):Prop:=∀a o,H a=some o->bp P w H h a o
end
section
variable  {P:D9}{w:EE}{H H':Hp}{h h':Heap}{a:Addr}{o:HO}
theorem bp.lt (x:bp P w H h a o):a<h.objs.size:=by
 cases o with
 | lst xs=>obtain ⟨_,_,_,_,e⟩:=x;exact D4 e
 | tup xs=>obtain ⟨_,_,_,p⟩:=x;exact (d7.tup p).lt
 | dK kvs=>obtain ⟨_,_,_,_,o,_,_,e,_⟩:=x;exact D4 e
 | dT kvs=>obtain ⟨_,_,_,_,o,_,_,e,_⟩:=x;exact D4 e
 | set S n=>obtain ⟨o,_,_,_,e,_⟩:=x;exact D4 e
 | ins C dx fs=>obtain ⟨_,_,_,e,_⟩:=x;exact D4 e
 | own y=>obtain ⟨_,e⟩:=x;exact D4 e
 | xd fs=>obtain ⟨_,⟨_,_,_,e,_⟩,_⟩:=x;exact D4 e
 | rng lo hi=>obtain ⟨_,_,_,e⟩:=x;exact D4 e
 | frz ob u=>obtain ⟨e,_⟩:=x;exact D4 e
 | tbl ps=>exact D4 (show h.get? a=some _ from x)
 | met f y=>exact D4 (show h.get? a=some _ from x)
 | ext φ=>obtain ⟨_,⟨_,e⟩,_⟩:=x;exact D4 e
theorem Paired.By {α β:Type}{F G:α -> β -> Prop}:∀{l₁:List α} {l₂:List β},Paired F l₁ l₂->(∀a b,F a b->G a b)->Paired G l₁ l₂
 | _,_,.nil,_ =>.nil
 | _,_,.cons r t,f =>.cons (f _ _ r) (Paired.By t f)
theorem bp.stay (x:bp P w H h a o)(k:∀b u,(b=a\/H b=some (.own a))->h.get? b=some u->h'.get? b=some u)
  (ho:∀b,H b=some (.own a)->H' b=some (.own a)) (ht:∀b xs,H b=some (.tup xs)->H' b=some (.tup xs)):bp P w H' h' a o:=by
 induction o with
 | lst xs=>obtain ⟨z,its,n,r,e⟩:=x;exact ⟨z,its,n,r,k _ _ (.inl rfl) e⟩
 | tup xs=>obtain ⟨z,its,r,ob,e,c⟩:=x;exact ⟨z,its,r,ob,k _ _ (.inl rfl) e,c⟩
 | dK kvs=>obtain ⟨z,y,vs,r,ob,es,ep,e,c⟩:=x;exact ⟨z,y,vs,r,ob,es,ep,k _ _ (.inl rfl) e,c⟩
 | dT kvs =>
  obtain ⟨z,y,xs,r,ob,es,ep,e,c⟩:=x
  exact ⟨z,y,xs,Paired.By r λp q z=>⟨z.1,ht _ _ z.2.1,z.2.2⟩,ob,es,ep,k _ _ (.inl rfl) e,c⟩
 | set S n=>obtain ⟨ob,es,ep,t,e,c⟩:=x;exact ⟨ob,es,ep,t,k _ _ (.inl rfl) e,c⟩
 | ins C dx fs =>
  obtain ⟨d,z,ne,e,mA,⟨od,es,ep,e2,c⟩,r⟩:=x
  exact ⟨ho _ d,z,ne,k _ _ (.inl rfl) e,mA,⟨od,es,ep,k _ _ (.inr d) e2,c⟩,r⟩
 | own y=>obtain ⟨ob,e⟩:=x;exact ⟨ob,k _ _ (.inl rfl) e⟩
 | xd fs=>obtain ⟨mA,⟨od,es,ep,e,c⟩,r⟩:=x;exact ⟨mA,⟨od,es,ep,k _ _ (.inl rfl) e,c⟩,r⟩
 | rng lo hi=>obtain ⟨t,u,v,e⟩:=x;exact ⟨t,u,v,k _ _ (.inl rfl) e⟩
 | frz ob u ih=>obtain ⟨e,q⟩:=x;exact ⟨k _ _ (.inl rfl) e,ih q⟩
 | tbl ps =>
  have e:h.get? a=some { cls :=.none,data :=.fields ps }:=x
  show h'.get? a=some { cls :=.none,data :=.fields ps }
  exact k a _ (.inl rfl) e
 | met f y =>
  have e:h.get? a=some (PySem.W.methodObj (.ref f) (.ref y)):=x
  show h'.get? a=some (PySem.W.methodObj (.ref f) (.ref y))
  exact k a _ (.inl rfl) e
 | ext φ=>obtain ⟨p,⟨o,e⟩,st⟩:=x;exact ⟨st _ _ p λo q=>k _ _ (.inl rfl) q,⟨o,k _ _ (.inl rfl) e⟩,st⟩
theorem HOk.lt (x:HOk P w H h)(e:H a=some o):a<h.objs.size:=(x a o e).lt
theorem HOk.fresh (x:HOk P w H h)(e:h.objs.size<=a):H a=none:=by
 cases q:H a with
 | none=>rfl
 | some u=>exact absurd (Ec (x.lt q) e) (Fe _)
theorem HOk.kept (x:HOk P w H h)(k:∀b u,h.get? b=some u->h'.get? b=some u):HOk P w H h':=λa o e =>
 (x a o e).stay (λb u _ q=>k b u q) (λ_ q=>q) λ_ _ q=>q
theorem HOk.laid (x:HOk P w H h)(k:∀b u,h.get? b=some u->h'.get? b=some u)(hp:h.objs.size<=a)(new:bp P w (upd H a o) h' a o):HOk P w (upd H a o) h':=λb u e=>by
 have hn:=x.fresh hp
 by_cases hb:b=a
 ·subst hb;rw[ag] at e;cases e;exact new
 ·rw[aq hb] at e
  exact (x b u e).stay (λc v _ q=>k c v q) (λc q=>by rw[aq (av q hn)];exact q) λc xs q=>by rw[aq (av q hn)];exact q
end
def Rd (H:Hp)(a:Addr)(u:HO):Prop:=H a=some u\/∃o,H a=some (.frz o u)
theorem Rd.ok {P:D9}{w:EE}{H:Hp}{h:Heap}{a:Addr}{u:HO}(r:Rd H a u)(x:HOk P w H h):bp P w H h a u:=by
 rcases r with r | ⟨o,r⟩
 ·exact x a u r
 ·obtain ⟨_,q⟩:=x a _ r
  exact q
def Mut:Option HO->Prop
 | some (.lst _)=>True
 | some (.dK _)=>True
 | some (.dT _)=>True
 | some (.set _ _)=>True
 | some (.ins _ _ _)=>True
 | some (.ext _)=>True
 | _=>False
section
variable  {P:D9}{w:EE}{H:Hp}{h h':Heap}{x e:Addr}{o':HO}
theorem HOk.write (ok:HOk P w H h)(mu:Mut (H x))(he:e=x\/H e=some (.own x))(k:∀b u,b≠e->h.get? b=some u->h'.get? b=some u)(heo:∃u,h'.get? e=some u)
  (new:bp P w (upd H x o') h' x o'):HOk P w (upd H x o') h':=λb u q=>by
 have nown:∀c y,H c=some (.own y)->c≠x:=λc y r z=>by subst z;rw[r] at mu;exact mu
 have ntup:∀c xs,H c=some (.tup xs)->c≠x:=λc xs r z=>by subst z;rw[r] at mu;exact mu
 by_cases hb:b=x
 ·subst hb;rw[ag] at q;cases q;exact new
 ·rw[aq hb] at q
  by_cases hbe:b=e
  ·have q':H b=some (.own x):=by
    rcases he with z | z
    ·exact absurd (hbe.trans z) hb
    ·rw[hbe];exact z
   rw[q] at q';cases q'
   obtain ⟨v,hv⟩:=heo
   exact ⟨v,by rw[hbe];exact hv⟩
  ·refine (ok b u q).stay (λc v hc r=>k c v ?_ r) (λc r=>by rw[aq (nown c b r)];exact r) λc xs r=>by rw[aq (ntup c xs r)];exact r
   rcases hc with rfl | hc
   ·exact hbe
   ·rintro rfl
    rcases he with z | z
    ·exact nown c b hc z
    ·rw[hc] at z;cases z;exact hb rfl
end
structure Un (fs ex:List Addr)(H H':Hp)(h h':Heap):Prop where
 keep:∀b o,h.get? b=some o->H b=none->b∉fs->b∉ex->h'.get? b=some o
 slot:∀b o,h.get? b=some o->H b=none->b∈fs->b∉ex->∃sl,h'.get? b=some { o with slots:=sl }
 free:∀b o,h.get? b=some o->H b=none->b∉ex->H' b=none
 there:∀b o,h.get? b=some o->b∉ex->∃o',h'.get? b=some o'
 tups:∀b xs,H b=some (.tup xs)->H' b=some (.tup xs)
 frzs:∀b o u,H b=some (.frz o u)->H' b=some (.frz o u)
 tbls:∀b ps,H b=some (.tbl ps)->∃more,H' b=some (.tbl (ps++more))
section
variable  {fs fs' ex ex':List Addr}{H H1 H2:Hp}{h h1 h2 h':Heap}{a x e:Addr}{o:HO}
theorem Un.any (u:Un fs ex H H1 h h1){b:Addr}{ob:Obj}(q:h.get? b=some ob)(n:H b=none)(hx:b∉ex):∃sl,h1.get? b=some { ob with slots:=sl }:=by
 by_cases hb:b∈fs
 ·exact u.slot b ob q n hb hx
 ·exact ⟨ob.slots,u.keep b ob q n hb hx⟩
theorem Un.kept (k:∀b u,h.get? b=some u->h'.get? b=some u):Un fs ex H H h h' :=
 ⟨λb ob q _ _ _=>k b ob q,λb ob q _ _ _=>⟨ob.slots,k b ob q⟩,λ_ _ _ n _=>n,λb ob q _=>⟨ob,k b ob q⟩,λ_ _ q=>q,λ_ _ _ q=>q,λ_ ps q=>⟨#[],by rw[q];simp⟩⟩
theorem Un.refl:Un fs ex H H h h:=Un.kept λ_ _ q=>q
theorem Un.laid (k:∀b u,h.get? b=some u->h'.get? b=some u)(hp:h.objs.size<=a)(hn:H a=none):Un fs ex H (upd H a o) h h' where
 keep:=λb u q _ _ _=>k b u q
 slot:=λb u q _ _ _=>⟨u.slots,k b u q⟩
 free:=λb u q n _=>by rw[aq (Ed (Ec (D4 q) hp))];exact n
 there:=λb u q _=>⟨u,k b u q⟩
 tups:=λb xs q=>by rw[aq (av q hn)];exact q
 frzs:=λb u xs q=>by rw[aq (av q hn)];exact q
 tbls:=λb ps q=>⟨#[],by rw[aq (av q hn),q];simp⟩
theorem Un.write (mu:Mut (H x))(he:e=x\/H e=some (.own x))(k:∀b u,b≠e->h.get? b=some u->h'.get? b=some u)(heo:∃u,h'.get? e=some u):Un fs ex H (upd H x o) h h':=by
 have hx:∀b,H b=none->b≠x:=λb n z=>by subst z;rw[n] at mu;exact mu
 have hb:∀b,H b=none->b≠e:=λb n z=>by
  subst z
  rcases he with r | r
  ·exact hx b n r
  ·rw[n] at r;cases r
 have hm:∀b u,H b=some u->¬ Mut (some u)->b≠x:=λb u q nm z=>by subst z;rw[q] at mu;exact nm mu
 refine ⟨λb u q n _ _=>k b u (hb b n) q,λb u q n _ _=>⟨u.slots,k b u (hb b n) q⟩,λb u q n _=>by rw[aq (hx b n)];exact n,λb u q _ =>?_,
  λb xs q=>by rw[aq (hm b _ q λz=>z)];exact q,λb u xs q=>by rw[aq (hm b _ q λz=>z)];exact q,λb ps q=>⟨#[],by rw[aq (hm b _ q λz=>z),q];simp⟩⟩
 by_cases hbe:b=e
 ·subst hbe;exact heo
 ·exact ⟨u,k b u hbe q⟩
end
def trk (h:Heap)(H:Hp):List Addr:=(EU h.objs.size).filter λa=>(H a).isSome
def oX (h:Heap)(H:Hp):Heap:=PySem.W.hideAll h (trk h H)
theorem ve (h:Heap)(H:Hp):(oX h H).objs.size=h.objs.size:=PySem.W.hideAll_size _ _
theorem wV {h:Heap}{H:Hp}{b:Addr}{o:Obj}(e:h.get? b=some o)(n:H b=none):(oX h H).get? b=some o :=
 PySem.W.hideAll_get _ e λhm=>by
  have q:(H b).isSome=true:=(Ga.mp hm).2
  rw[n] at q;simp at q
theorem zg {h:Heap}{H:Hp}{b:Addr}{o:Obj}(e:(oX h H).get? b=some o):h.get? b=some o/\H b=none:=by
 have e':h.get? b=some o:=PySem.W.of_hideAll (trk h H) e
 refine ⟨e',?_⟩
 cases q:H b with
 | none=>rfl
 | some x =>
  have hm:b∈trk h H:=Ga.mpr ⟨E9.mpr (D4 e'),by simp[q]⟩
  have z:(oX h H).get? b=none:=PySem.W.hideAll_none (trk h H) hm
  rw[z] at e;cases e
def zh (g h:Heap)(L:Addr):List (Addr×Obj):=(EU h.objs.size).filterMap λa=>if a=L\/(g.get? a).isSome=true then none else (h.get? a).map λo=>(a,o)
def rest (g h:Heap)(L d:Addr):List (Addr×Obj):=(zh g h L).filter λp=>decide (p.1≠d)
structure Mod (K:DM)(mg:Str->Option DK)(base:Heap):Prop where
 kin:K.In base
 glob:base.Ns Ey mg
 blt:∃mb,base.Ns builtinsNs mb/\∀x:Str,x ≠ "__name__" -> mb x=Ff x
 nolimit:base.NoLimit
structure Cx where
 prog:D9
 w:EE
 K:DM
 mg:Str->Option DK
 base:Heap
 A:EV
 N:List Str
 s₀:DP
 H₀:Hp
 env:Env
 outer:List Env
 stack:List Env
 ex:List Addr
 fn:Str->Bool
 calm:Bool
 pn:List (Addr×Obj)
 xe:DK->DP->Prop
def frs (l:List Env):List Addr:=l.filterMap (·.frame)
abbrev Cx.fs (X:Cx):List Addr:=frs X.outer
def Vis (sc:Scope)(x:Str):Prop:=sc.names.lookup x=some .local\/sc.names.lookup x=some .cell\/sc.names.lookup x=some .free
def Loc (sc:Scope)(x:Str):Prop:=sc.names.lookup x=some .local\/sc.names.lookup x=some .cell
def Look (env:Env)(h:Heap)(m:Str->Option DK)(x:Str)(u:DK):Prop :=
 (env.kindOf x=some .local/\m x=some u)\/((env.kindOf x=some .cell\/env.kindOf x=some .free)/\∃c,env.cells.lookup x=some c/\h.IsCell c (some u))
structure Cx.Ok (X:Cx):Prop where
 mod:Mod X.K X.mg X.base
 kind:X.env.scope.kind = .function
 glob:X.env.globals=Ey
 blt:X.env.builtins=builtinsNs
 above:X.s₀.heap.objs.size<=X.env.locals
 inj:∀x y c,X.env.cells.lookup x=some c->X.env.cells.lookup y=some c->x=y
 has:∀x,(X.env.kindOf x=some .cell\/X.env.kindOf x=some .free)->∃c,X.env.cells.lookup x=some c
 cab:∀x c,X.fn x=true->X.env.cells.lookup x=some c->X.s₀.heap.objs.size<=c
 hd:X.calm=true->X.A.handled=none
 frames:X.A.frames=some X.stack
 stk:X.stack=X.outer\/(X.stack=X.env :: X.outer/\X.env.frame=some X.env.locals)
 exf:∀b∈X.ex,b≠X.env.locals/\∀x c,X.env.cells.lookup x=some c->c≠b
 bs:∀b o,X.base.get? b=some o->X.s₀.heap.get? b=some o/\X.H₀ b=none
 bsz:X.base.objs.size<=X.s₀.heap.objs.size
 noex:∀b o,X.base.get? b=some o->b∉X.ex
 exfs:∀b∈X.ex,b∉X.fs
 funs:X.s₀.heap.FunFrames X.base X.outer
 frf:∀b∈X.fs,X.H₀ b=none
structure Inv (X:Cx)(pins:List (Addr×Obj))(σ:List (Option V))(H:Hp)(s:DP):Prop where
 ok:X.Ok
 os:s.os=X.s₀.os
 bare:AllBare s.gens
 base:Un X.fs X.ex X.H₀ H X.s₀.heap s.heap
 loc:∃m,s.heap.Ns X.env.locals m/\∀(i:Nat) (x:Str) (v:V),X.N[i]? = some x->σ[i]? = some (some v)->Vis X.env.scope x->∃u,RelV v u/\Look X.env s.heap m x u
 cell:∀x c,X.env.cells.lookup x=some c->∃v,s.heap.IsCell c v
 free:H X.env.locals=none
 freeC:∀x c,X.env.cells.lookup x=some c->H c=none
 pin:∀p∈X.pn++pins,s.heap.get? p.1=some p.2/\H p.1=none/\p.1≠X.env.locals/\p.1∉X.fs/\∀v,p.2.data ≠ .cell v
 hok:HOk X.prog X.w H s.heap
 len:σ.length=X.N.length
section
variable  {X:Cx}{pins:List (Addr×Obj)}{σ:List (Option V)}{H H':Hp}{s:DP}{h':Heap}
theorem Cx.Ok.nofr (ok:X.Ok){b:Addr}{o:Obj}(e:X.base.get? b=some o):b∉X.fs:=λhb=>by
 have:=(ok.funs.mem hb).1
 rw[e] at this;cases this
theorem Inv.bs (I:Inv X pins σ H s):∀b o,X.base.get? b=some o->s.heap.get? b=some o/\H b=none:=λb o e =>
 ⟨I.base.keep b o (I.ok.bs b o e).1 (I.ok.bs b o e).2 (I.ok.nofr e) (I.ok.noex b o e),I.base.free b o (I.ok.bs b o e).1 (I.ok.bs b o e).2 (I.ok.noex b o e)⟩
theorem Inv.bk (I:Inv X pins σ H s):∀b o,X.base.get? b=some o->s.heap.get? b=some o:=λb o e=>(I.bs b o e).1
theorem Inv.mod (I:Inv X pins σ H s):Mod X.K X.mg X.base:=I.ok.mod
theorem Inv.kIn (I:Inv X pins σ H s):X.K.In s.heap:=I.ok.mod.kin.keeps I.bk
theorem Inv.lt (I:Inv X pins σ H s):X.env.locals<s.heap.objs.size:=let ⟨_,hn,_⟩:=I.loc;hn.lt
theorem Inv.sz (I:Inv X pins σ H s):X.s₀.heap.objs.size<=s.heap.objs.size:=EI I.ok.above (FN I.lt)
theorem Inv.Bz (I:Inv X pins σ H s){a:Addr}(h:s.heap.objs.size<=a):a∉X.fs:=λhb=>by
 obtain ⟨_,o,ho,_⟩:=I.ok.funs.mem hb
 exact absurd (Ec (D4 ho) (EI I.sz h)) (Fe _)
theorem Inv.cne (I:Inv X pins σ H s):∀x c,X.env.cells.lookup x=some c->c≠X.env.locals:=λx c e z=>by
 obtain ⟨v,o,ho,hd⟩:=I.cell x c e
 obtain ⟨m,⟨o',es,ep,ho',hd',_⟩,_⟩:=I.loc
 rw[z,ho'] at ho;cases ho;rw[hd'] at hd;cases hd
theorem Inv.funs (I:Inv X pins σ H s):s.heap.FunFrames X.base X.outer:=by
 have all:∀(l:List Env),(∀b∈frs l,b∈X.fs)->X.s₀.heap.FunFrames X.base l->s.heap.FunFrames X.base l:=by
  intro l
  induction l with
  | nil=>intro _ _;trivial
  | cons env r ih =>
   intro hs hl
   obtain ⟨hk,⟨L,o,hf,hn,ho,hd⟩,hr⟩:=hl
   have hL:L∈X.fs:=hs L (by unfold frs;rw[GF,hf];exact En)
   obtain ⟨sl,e⟩:=I.base.slot L o ho (I.ok.frf L hL) hL λz=>I.ok.exfs L z hL
   exact ⟨hk,⟨L,_,hf,hn,e,hd⟩,ih (λb hb=>hs b (by unfold frs;rw[GF,hf];exact Em _ hb)) hr⟩
 exact all X.outer (λ_ hb=>hb) I.ok.funs
theorem Inv.stack (I:Inv X pins σ H s):s.heap.FunFrames X.base X.stack:=by
 rcases I.ok.stk with e | ⟨e,hf⟩
 ·rw[e];exact I.funs
 ·rw[e]
  obtain ⟨m,hn,_⟩:=I.loc
  refine .cons (by rw[I.ok.kind];decide) hf hn ?_ I.funs
  exact Heap.get?_none_of_le (EI I.ok.bsz I.ok.above)
theorem Inv.oY (I:Inv X pins σ H s):∀b∈frs X.stack,b∈X.env.locals :: X.fs:=λb hb=>by
 rcases I.ok.stk with e | ⟨e,hf⟩
 ·rw[e] at hb;exact Em _ hb
 ·rw[e] at hb
  unfold frs at hb
  rw[GF,hf] at hb
  exact hb
theorem Inv.oZ (I:Inv X pins σ H s):∀b∈frs X.stack,H b=none:=λb hb=>by
 rcases Eg.mp (I.oY b hb) with e | hb
 ·rw[e];exact I.free
 ·obtain ⟨_,o,ho,_⟩:=I.ok.funs.mem hb
  exact I.base.free b o ho (I.ok.frf b hb) λz=>I.ok.exfs b z hb
theorem Inv.step {g':Array GenState}{t':Nat}{d':Drawn}{ch:List Addr}(I:Inv X pins σ H s)
  (hch:∀b∈ch,(b∈X.ex\/X.s₀.heap.objs.size<=b)/\b≠X.env.locals/\(∀x c,X.env.cells.lookup x=some c->c≠b)/\∀p∈X.pn++pins,p.1≠b)
  (keep:∀b o,b≠X.env.locals->b∉X.fs->b∉ch->s.heap.get? b=some o->H b=none->h'.get? b=some o)
  (slot:∀b o,b≠X.env.locals->b∈X.fs->b∉ch->s.heap.get? b=some o->H b=none->∃sl,h'.get? b=some { o with slots:=sl }) (free:∀b o,b∉ch->s.heap.get? b=some o->H b=none->H' b=none)
  (there:∀b o,b∉ch->s.heap.get? b=some o->∃o',h'.get? b=some o')
  (tups:∀b xs,H b=some (.tup xs)->H' b=some (.tup xs)) (frzs:∀b o u,H b=some (.frz o u)->H' b=some (.frz o u)) (tbls:∀b ps,H b=some (.tbl ps)->∃more,H' b=some (.tbl (ps++more)))
  (ns:∀m,s.heap.Ns X.env.locals m->h'.Ns X.env.locals m) (hok:HOk X.prog X.w H' h') (hg:AllBare g') :
  Inv X pins σ H' { s with heap:=h',gens:=g',drawn:=d',toks:=t' }:=by
 have neL:∀b o,X.s₀.heap.get? b=some o->b≠X.env.locals:=λb o e=>Ed (Ec (D4 e) I.ok.above)
 have neC:∀b o,X.s₀.heap.get? b=some o->b∉X.ex->b∉ch:=λb o e hx hb=>by
  rcases (hch b hb).1 with z | z
  ·exact hx z
  ·exact absurd (Ec (D4 e) z) (Fe _)
 have cellK:∀x c,X.env.cells.lookup x=some c->∀v,s.heap.IsCell c v->h'.IsCell c v:=λx c e v ⟨o,ho,hd⟩=>by
  have nch:c∉ch:=λz=>(hch c z).2.2.1 x c e rfl
  by_cases hc:c∈X.fs
  ·obtain ⟨sl,q⟩:=slot c o (I.cne x c e) hc nch ho (I.freeC x c e)
   exact ⟨_,q,hd⟩
  ·exact ⟨o,keep c o (I.cne x c e) hc nch ho (I.freeC x c e),hd⟩
 refine ⟨I.ok,I.os,hg,⟨λb o e n hb hx =>?_,λb o e n hb hx =>?_,λb o e n hx =>?_,λb o e hx =>?_,λb xs e=>tups b xs (I.base.tups b xs e),λb o xs e=>frzs b o xs (I.base.frzs b o xs e),λb ps e =>?_⟩,?_,λx c e =>?_,?_,λx c e =>?_,λp hp =>?_,hok,I.len⟩
 ·exact keep b o (neL b o e) hb (neC b o e hx) (I.base.keep b o e n hb hx) (I.base.free b o e n hx)
 ·obtain ⟨sl,e1⟩:=I.base.slot b o e n hb hx
  obtain ⟨sl',e2⟩:=slot b _ (neL b o e) hb (neC b o e hx) e1 (I.base.free b o e n hx)
  exact ⟨sl',e2⟩
 ·obtain ⟨o',e1⟩:=I.base.there b o e hx
  exact free b o' (neC b o e hx) e1 (I.base.free b o e n hx)
 ·obtain ⟨o',e1⟩:=I.base.there b o e hx
  exact there b o' (neC b o e hx) e1
 ·obtain ⟨m1,e1⟩:=I.base.tbls b ps e
  obtain ⟨m2,e2⟩:=tbls b _ e1
  exact ⟨m1++m2,by rw[e2,LK]⟩
 ·obtain ⟨m,hn,hl⟩:=I.loc
  refine ⟨m,ns m hn,λi x v e1 e2 e3 =>?_⟩
  obtain ⟨u,r,l⟩:=hl i x v e1 e2 e3
  refine ⟨u,r,?_⟩
  rcases l with l | ⟨k,c,e,z⟩
  ·exact .inl l
  ·exact .inr ⟨k,c,e,cellK x c e _ z⟩
 ·obtain ⟨v,z⟩:=I.cell x c e
  exact ⟨v,cellK x c e v z⟩
 ·obtain ⟨m,⟨o,_,_,ho,_⟩,_⟩:=I.loc
  exact free _ o (λz=>(hch _ z).2.1 rfl) ho I.free
 ·obtain ⟨v,o,ho,hd⟩:=I.cell x c e
  exact free c o (λz=>(hch c z).2.2.1 x c e rfl) ho (I.freeC x c e)
 ·obtain ⟨e,n,ne,nf,d⟩:=I.pin p hp
  have nch:p.1∉ch:=λz=>(hch p.1 z).2.2.2 p hp rfl
  exact ⟨keep p.1 p.2 ne nf nch e n,free p.1 p.2 nch e n,ne,nf,d⟩
theorem Inv.un {t':Nat}(I:Inv X pins σ H s)(u:Un X.fs [] H H' s.heap h')(hok:HOk X.prog X.w H' h'):Inv X pins σ H' { s with heap:=h',toks:=t' }:=by
 obtain ⟨m,⟨o,es,ep,ho,r⟩,_⟩:=id I.loc
 obtain ⟨sl,hL⟩:=u.any ho I.free (by simp)
 exact I.step (g':=s.gens) (d':=s.drawn) (ch:=[]) (λ_ z=>nomatch z) (λb o _ hb _ e n=>u.keep b o e n hb (by simp)) (λb o _ hb _ e n=>u.slot b o e n hb (by simp)) (λb o _ e n=>u.free b o e n (by simp)) (λb o _ e=>u.there b o e (by simp)) u.tups u.frzs u.tbls (λm' hm=>by
  obtain ⟨o',es',ep',ho',r'⟩:=hm
  rw[ho] at ho';cases ho'
  exact ⟨_,es',ep',hL,r'⟩) hok I.bare
theorem Inv.call {g':Array GenState}{t':Nat}{d':Drawn}{ch:List Addr}(I:Inv X pins σ H s)(u:Un (frs X.stack) ch H H' s.heap h')(hok:HOk X.prog X.w H' h')(hg:AllBare g')
  (hch:∀b∈ch,(b∈X.ex\/X.s₀.heap.objs.size<=b)/\b≠X.env.locals/\(∀x c,X.env.cells.lookup x=some c->c≠b)/\∀p∈X.pn++pins,p.1≠b) :
  Inv X pins σ H' { s with heap:=h',gens:=g',drawn:=d',toks:=t' }:=by
 obtain ⟨m,⟨o,es,ep,ho,r⟩,_⟩:=id I.loc
 obtain ⟨sl,hL⟩:=u.any ho I.free λz=>(hch _ z).2.1 rfl
 exact I.step (ch:=ch) hch (λb o hL hb hc e n=>u.keep b o e n (λz=>(Eg.mp (I.oY b z)).elim hL hb) hc) (λb o _ _ hc e n=>u.any e n hc) (λb o hc e n=>u.free b o e n hc) (λb o hc e=>u.there b o e hc) u.tups u.frzs u.tbls (λm' hm=>by
  obtain ⟨o',es',ep',ho',r'⟩:=hm
  rw[ho] at ho';cases ho'
  exact ⟨_,es',ep',hL,r'⟩) hok hg
theorem Inv.turned {t':Nat}{it:Addr}(I:Inv X pins σ H s)(k:∀b o,b≠it->s.heap.get? b=some o->h'.get? b=some o)(hn:H it=none)(hL:it≠X.env.locals)
  (h1:it∈X.ex\/X.s₀.heap.objs.size<=it) (h2:∀x c,X.env.cells.lookup x=some c->c≠it) (h3:∀p∈X.pn++pins,p.1≠it):Inv X pins σ H { s with heap:=h',toks:=t' }:=by
 have nit:∀b u,H b=some u->b≠it:=λb u e z=>by rw[z,hn] at e;cases e
 refine I.step (g':=s.gens) (d':=s.drawn) (ch:=[it]) (λb hb =>?_) (λb o _ _ hc e _=>k b o (λz=>hc (by simp[z])) e) (λb o _ _ hc e _=>⟨o.slots,k b o (λz=>hc (by simp[z])) e⟩) (λ_ _ _ _ n=>n)
  (λb o hc e=>⟨o,k b o (λz=>hc (by simp[z])) e⟩) (λ_ _ e=>e) (λ_ _ _ e=>e) (λb ps e=>⟨#[],by rw[e];simp⟩) (λm hm =>?_) (λb u e =>?_) I.bare
 ·have e:b=it:=by simpa using hb
  subst e
  exact ⟨h1,hL,h2,h3⟩
 ·obtain ⟨o,es,ep,ho,r⟩:=hm
  exact ⟨o,es,ep,k _ o (Ft hL) ho,r⟩
 ·refine (I.hok b u e).stay (λc v hc q=>k c v ?_ q) (λ_ q=>q) λ_ _ q=>q
  rcases hc with z | z
  ·rw[z];exact nit b u e
  ·exact nit c _ z
theorem Inv.tok (I:Inv X pins σ H s)(t:Nat):Inv X pins σ H { s with toks:=t }:=I.un (h':=s.heap) (t':=t) Un.refl I.hok
theorem Inv.kept {t':Nat}(I:Inv X pins σ H s)(k:∀b u,s.heap.get? b=some u->h'.get? b=some u):Inv X pins σ H { s with heap:=h',toks:=t' }:=I.un (Un.kept k) (I.hok.kept k)
theorem Inv.laid {a:Addr}{o:HO}{t':Nat}(I:Inv X pins σ H s)(k:∀b u,s.heap.get? b=some u->h'.get? b=some u)(hp:s.heap.objs.size<=a)(new:bp X.prog X.w (upd H a o) h' a o) :
  Inv X pins σ (upd H a o) { s with heap:=h',toks:=t' }:=I.un (Un.laid k hp (I.hok.fresh hp)) (I.hok.laid k hp new)
theorem Inv.write {x e:Addr}{o:HO}{t':Nat}(I:Inv X pins σ H s)(mu:Mut (H x))(he:e=x\/H e=some (.own x))(k:∀b u,b≠e->s.heap.get? b=some u->h'.get? b=some u)(heo:∃u,h'.get? e=some u)
  (new:bp X.prog X.w (upd H x o) h' x o):Inv X pins σ (upd H x o) { s with heap:=h',toks:=t' }:=I.un (Un.write mu he k heo) (I.hok.write mu he k heo new)
theorem Inv.iD {pins':List (Addr×Obj)}(I:Inv X pins σ H s)(h:∀p∈pins',s.heap.get? p.1=some p.2/\H p.1=none/\p.1≠X.env.locals/\p.1∉X.fs/\∀v,p.2.data ≠ .cell v):Inv X pins' σ H s :=
 ⟨I.ok,I.os,I.bare,I.base,I.loc,I.cell,I.free,I.freeC,λp hp=>(D6.mp hp).elim (λz=>I.pin p (FJ _ z)) (h p),I.hok,I.len⟩
theorem kU {N:List Str}(hN:N.Nodup){i j:Nat}{x:Str}(a:N[i]? = some x)(b:N[j]? = some x):i=j:=by
 obtain ⟨h1,e1⟩:=DQ.mp a
 obtain ⟨h2,e2⟩:=DQ.mp b
 exact (List.getElem_inj hN).mp (e1.trans e2.symm)
theorem vf {M:Model}{A:EV}{E:DK->DP->Prop}{i:Nat}{x:Str}{v:V}{u:DK}{Q:Unit->DP->Prop}(I:Inv X pins σ H s)(hN:X.N.Nodup)(hi:X.N[i]? = some x)(hx:Loc X.env.scope x)(r:RelV v u)
  (h:∀s',Inv X pins (σ.set i (some v)) H s'->(∃a,Heap.SameBut a s.heap s'.heap/\(a=X.env.locals\/X.env.cells.lookup x=some a))->Q () s') (hf:X.fn x=true\/X.env.scope.names.lookup x=some .local:=by first | exact .inl rfl | exact .inr rfl | assumption):Ee M A (storeName X.env x u) Q E s:=by
 obtain ⟨m,hn,hl⟩:=id I.loc
 have hcls:(X.env.scope.kind == .class || (X.env.scope.kind == .module && X.env.locals != X.env.globals))=false:=by rw[I.ok.kind];rfl
 have hiσ:i<σ.length:=by rw[I.len];exact (DQ.mp hi).1
 have cne:=I.cne
 have tracked:∀{a:Addr} {h':Heap},(∃o,s.heap.get? a=some o/\H a=none)->Heap.SameBut a s.heap h'->HOk X.prog X.w H h':=λ{a h'} ha hs b ob e=>by
  obtain ⟨_,_,hfree⟩:=ha
  refine (I.hok b ob e).stay (λc w' hc q=>(hs.2 c ?_).trans q) (λ_ q=>q) λ_ _ q=>q
  rintro rfl
  rcases hc with rfl | hc
  ·rw[hfree] at e;cases e
  ·rw[hfree] at hc;cases hc
 rcases hx with hk | hk
 ·refine wpAny_storeName_local hk hn (λh' hn' hs =>?_) hcls
  obtain ⟨oL,_,_,hoL,_⟩:=id hn
  refine h _ ⟨I.ok,I.os,I.bare,⟨λb o e n hb hx =>?_,λb o e n hb hx =>?_,I.base.free,λb o e hx =>?_,I.base.tups,I.base.frzs,I.base.tbls⟩,⟨_,hn',λj y v' e1 e2 e3 =>?_⟩,λy c e =>?_,I.free,I.freeC,λp hp =>?_,tracked ⟨oL,hoL,I.free⟩ hs,by simpa using I.len⟩ ⟨_,hs,.inl rfl⟩
  ·exact (hs.2 b (Ed (Ec (D4 e) I.ok.above))).trans (I.base.keep b o e n hb hx)
  ·obtain ⟨sl,e1⟩:=I.base.slot b o e n hb hx
   exact ⟨sl,(hs.2 b (Ed (Ec (D4 e) I.ok.above))).trans e1⟩
  ·obtain ⟨o',e1⟩:=I.base.there b o e hx
   exact ⟨o',(hs.2 b (Ed (Ec (D4 e) I.ok.above))).trans e1⟩
  ·by_cases hj:j=i
   ·subst hj
    rw[hi] at e1;cases e1
    rw[F3 hiσ] at e2
    cases e2
    exact ⟨u,r,.inl ⟨hk,by simp⟩⟩
   ·rw[GR (Ft hj)] at e2
    obtain ⟨u',r',q⟩:=hl j y v' e1 e2 e3
    refine ⟨u',r',?_⟩
    rcases q with ⟨k,e⟩ | ⟨k,c,e,z⟩
    ·refine .inl ⟨k,?_⟩
     have:y≠x:=λe=>hj (kU hN e1 (e ▸ hi))
     simp[this,e]
    ·exact .inr ⟨k,c,e,z.sameBut hs (cne y c e)⟩
  ·obtain ⟨w',z⟩:=I.cell y c e
   exact ⟨w',z.sameBut hs (cne y c e)⟩
  ·obtain ⟨e,n,ne,nf,d⟩:=I.pin p hp
   exact ⟨(hs.2 p.1 ne).trans e,n,ne,nf,d⟩
 ·have hfn:X.fn x=true:=by
   rcases hf with z | z
   ·exact z
   ·rw[z] at hk;cases hk
  obtain ⟨c,hc⟩:=I.ok.has x (.inl hk)
  obtain ⟨w',z⟩:=I.cell x c hc
  refine wpAny_storeName_cell I.ok.kind hk hc z (λh' hc' hs =>?_)
  obtain ⟨oc,hoc,hocd⟩:=id z
  refine h { s with heap:=h' } ⟨I.ok,I.os,I.bare,⟨λb o e n hb hx =>?_,λb o e n hb hx =>?_,I.base.free,λb o e hx =>?_,I.base.tups,I.base.frzs,I.base.tbls⟩,⟨m,hn.sameBut hs (Ft (cne x c hc)),λj y v' e1 e2 e3 =>?_⟩,λy c' e =>?_,I.free,I.freeC,λp hp =>?_,tracked ⟨oc,hoc,I.freeC x c hc⟩ hs,by simpa using I.len⟩ ⟨c,hs,.inr hc⟩
  ·exact (hs.2 b (Ed (Ec (D4 e) (I.ok.cab x c hfn hc)))).trans (I.base.keep b o e n hb hx)
  ·obtain ⟨sl,e1⟩:=I.base.slot b o e n hb hx
   exact ⟨sl,(hs.2 b (Ed (Ec (D4 e) (I.ok.cab x c hfn hc)))).trans e1⟩
  ·obtain ⟨o',e1⟩:=I.base.there b o e hx
   exact ⟨o',(hs.2 b (Ed (Ec (D4 e) (I.ok.cab x c hfn hc)))).trans e1⟩
  ·by_cases hj:j=i
   ·subst hj
    rw[hi] at e1;cases e1
    rw[F3 hiσ] at e2
    cases e2
    exact ⟨u,r,.inr ⟨.inl hk,c,hc,hc'⟩⟩
   ·rw[GR (Ft hj)] at e2
    obtain ⟨u',r',q⟩:=hl j y v' e1 e2 e3
    refine ⟨u',r',?_⟩
    rcases q with q | ⟨k,c',e,z'⟩
    ·exact .inl q
    ·refine .inr ⟨k,c',e,z'.sameBut hs ?_⟩
     rintro rfl
     exact hj (kU hN e1 (I.ok.inj _ _ _ e hc ▸ hi))
  ·by_cases hcc:c'=c
   ·subst hcc;exact ⟨_,hc'⟩
   ·obtain ⟨w2,z2⟩:=I.cell y c' e
    exact ⟨w2,z2.sameBut hs hcc⟩
  ·obtain ⟨e,n,ne,nf,d⟩:=I.pin p hp
   refine ⟨(hs.2 p.1 ?_).trans e,n,ne,nf,d⟩
   intro q
   rw[q,hoc] at e
   have q':oc=p.2:=EA e
   exact d w' (by rw[<- q'];exact hocd)
theorem kX {M:Model}{A:EV}{E:DK->DP->Prop}{i:Nat}{x:Str}{v:V}{u:DK}{Q:Unit->DP->Prop}(I:Inv X pins σ H s)(hN:X.N.Nodup)(hi:X.N[i]? = some x)(hx:Loc X.env.scope x)(r:RelV v u)
  (h:∀s',Inv X pins (σ.set i (some v)) H s'->Q () s') (hf:X.fn x=true\/X.env.scope.names.lookup x=some .local:=by first | exact .inl rfl | exact .inr rfl | assumption):Ee M A (storeName X.env x u) Q E s :=
 vf I hN hi hx r (λs' I' _=>h s' I') hf
theorem Inv.AX {s':DP}{ch:List Addr}(I:Inv X pins σ H s)(ho:s'.os=s.os)(u:Un (frs X.stack) ch H H' s.heap s'.heap)(hok:HOk X.prog X.w H' s'.heap)(hg:AllBare s'.gens)
  (hch:∀b∈ch,(b∈X.ex\/X.s₀.heap.objs.size<=b)/\b≠X.env.locals/\(∀x c,X.env.cells.lookup x=some c->c≠b)/\∀p∈X.pn++pins,p.1≠b):Inv X pins σ H' s':=by
 obtain ⟨h',g',d',t',o'⟩:=s'
 have e:o'=s.os:=ho
 subst e
 exact I.call (g':=g') (t':=t') (d':=d') u hok hg hch
end
abbrev XK:=DK->Option Addr->Hp->Prop
abbrev St:=List (Option V)
abbrev VK:=V->Hp->Prop
abbrev TE:=St->Hp->VK->Prop
abbrev TT:=St->Hp->(Bool->Hp->Prop)->Prop
abbrev TA:=St->Hp->(List V->Hp->Prop)->Prop
structure Ends where
 nx:St->Hp->Prop
 rt:VK
 bk:St->Hp->Prop:=λ_ _=>False
 ct:St->Hp->Prop:=λ_ _=>False
abbrev TS:=Ends->St->Hp->Prop
def EP (X:Cx)(pins:List (Addr×Obj))(σ:St)(Q:VK)(u:DK)(s':DP):Prop:=∃v H',Inv X pins σ H' s'/\RelV v u/\Q v H'
def TP (X:Cx)(pins:List (Addr×Obj))(σ:St)(Q:Bool->Hp->Prop)(b:Bool)(s':DP):Prop:=∃H',Inv X pins σ H' s'/\Q b H'
def AP (X:Cx)(pins:List (Addr×Obj))(σ:St)(Q:List V->Hp->Prop)(us:List DK)(s':DP):Prop:=∃vs H',Inv X pins σ H' s'/\Vals vs us/\Q vs H'
def SP (X:Cx)(pins:List (Addr×Obj))(D:Ends)(f:Flow)(s':DP):Prop :=
 match f with
 | .next=>∃σ' H',Inv X pins σ' H' s'/\D.nx σ' H'
 | .brk=>∃σ' H',Inv X pins σ' H' s'/\D.bk σ' H'
 | .cont=>∃σ' H',Inv X pins σ' H' s'/\D.ct σ' H'
 | .ret u=>∃v σ' H',Inv X pins σ' H' s'/\RelV v u/\D.rt v H'
def PE (X:Cx)(e:Expr)(t:TE):Prop :=
 ∀(pins:List (Addr×Obj)) (s:DP) (σ:St) (H:Hp) (Q:VK),Inv X pins σ H s->t σ H Q->Ee (Es X.prog X.w) X.A (eval e X.env) (EP X pins σ Q) X.xe s
def PT (X:Cx)(e:Expr)(t:TT):Prop :=
 ∀(pins:List (Addr×Obj)) (s:DP) (σ:St) (H:Hp) (Q:Bool->Hp->Prop),Inv X pins σ H s->t σ H Q->Ee (Es X.prog X.w) X.A (isTrue e X.env (eval e X.env)) (TP X pins σ Q) X.xe s
def PW (X:Cx)(e:Expr)(t:TT):Prop :=
 ∀(whole:Sem DK) (pins:List (Addr×Obj)) (s:DP) (σ:St) (H:Hp) (Q:Bool->Hp->Prop),Inv X pins σ H s->t σ H Q->Ee (Es X.prog X.w) X.A (isTrue e X.env whole) (TP X pins σ Q) X.xe s
theorem PW.pt {X:Cx}{e:Expr}{t:TT}(h:PW X e t):PT X e t:=h _
def PA (X:Cx)(es:List Expr)(t:TA):Prop :=
 ∀(pos:Pos) (pins:List (Addr×Obj)) (s:DP) (σ:St) (H:Hp) (Q:List V->Hp->Prop),Inv X pins σ H s->t σ H Q->Ee (Es X.prog X.w) X.A (spliced (Ib pos (EL es X.env))) (AP X pins σ Q) X.xe s
def PS (X:Cx)(st:Stmt)(t:TS):Prop :=
 ∀(pins:List (Addr×Obj)) (s:DP) (σ:St) (H:Hp) (D:Ends),Inv X pins σ H s->t D σ H->Ee (Es X.prog X.w) X.A (exec st X.env) (SP X pins D) X.xe s
def PSs (X:Cx)(st:List Stmt)(t:TS):Prop :=
 ∀(pins:List (Addr×Obj)) (s:DP) (σ:St) (H:Hp) (D:Ends),Inv X pins σ H s->t D σ H->Ee (Es X.prog X.w) X.A (execs st X.env) (SP X pins D) X.xe s
theorem thn {α:Type}{t:Sem α}{Q Q':α -> DP->Prop}{M:Model}{A:EV}{E:DK->DP->Prop}{s:DP}(h:Ee M A t Q E s)(hQ:∀a s,Q a s->Q' a s):Ee M A t Q' E s:=Gk h hQ λ_ _ x=>x
section
variable  {X:Cx}
theorem bin {a b:Expr}{ta tb:TE}(ha:PE X a ta)(hb:PE X b tb){pins:List (Addr×Obj)}{s:DP}{σ:St}{H:Hp}{R:V->V->Hp->Prop}(I:Inv X pins σ H s)(h:ta σ H λx H1=>tb σ H1 λy H2=>R x y H2)
  {α:Type} {Q:α -> DP->Prop} {f:DK->DK->Sem α}
  (hf:∀v u s2 x y H2,Inv X pins σ H2 s2->RelV x v->RelV y u->R x y H2->Ee (Es X.prog X.w) X.A (f v u) Q X.xe s2) :
  Ee (Es X.prog X.w) X.A (eval a X.env) (λv s₁=>Ee (Es X.prog X.w) X.A (eval b X.env) (λu s₂=>Ee (Es X.prog X.w) X.A (f v u) Q X.xe s₂) X.xe s₁) X.xe s:=by
 refine thn (ha pins s σ H _ I h) λv s1 ⟨x,H1,I1,r1,q1⟩ =>?_
 refine thn (hb pins s1 σ H1 _ I1 q1) λu s2 ⟨y,H2,I2,r2,q2⟩ =>?_
 exact hf v u s2 x y H2 I2 r1 r2 q2
def CC (i:Nat):TE:=λσ H Q=>∃v,σ[i]? = some (some v)/\Q v H
def tC (v:V):TE:=λ_ H Q=>Q v H
theorem BA {i:Nat}{x:Str}{pos:Pos}(hN:X.N[i]? = some x)(hv:Vis X.env.scope x)(hd:(x == ("__debug__" : Str))=false:=by decide)(hcd:(x == ("__classdict__" : Str))=false:=by decide):PE X (.Name x pos) (CC i):=by
 intro pins s σ H Q I h
 obtain ⟨v,e,h⟩:=h
 obtain ⟨m,hn,hl⟩:=I.loc
 obtain ⟨u,r,l⟩:=hl i x v hN e hv
 have fin:EP X pins σ Q u s:=⟨v,H,I,r,h⟩
 rcases l with ⟨hk,hm⟩ | ⟨hk,c,hc,hcell⟩
 ·exact Nj (wpAny_loadName_local I.ok.kind hk hn hm fin) hd
 ·rcases hk with hk | hk
  ·exact Nj (wpAny_loadName_cell I.ok.kind hk hc hcell fin) hd
  ·exact Nj (wpAny_loadName_free I.ok.kind hk hc hcell fin hcd) hd
theorem ai {i j pos}:PE X (.Constant (.int i) j pos) (tC (.int i)):=λ_ _ _ H _ I h=>wpAny_Constant_int ⟨.int i,H,I.tok _,⟨_,rfl⟩,h⟩
theorem fN {b j pos}:PE X (.Constant (.bool b) j pos) (tC (.bl b)):=λ_ _ _ H _ I h=>Constant_bool ⟨.bl b,H,I,rfl,h⟩
theorem hX {j pos}:PE X (.Constant .none j pos) (tC .non):=λ_ _ _ H _ I h=>Constant_none ⟨.non,H,I,rfl,h⟩
theorem BB {x j pos}:PE X (.Constant (.str x) j pos) (tC (.str x)):=λ_ _ _ H _ I h=>Calls.Constant_str ⟨.str x,H,I.tok _,⟨_,rfl⟩,h⟩
def Gl (X:Cx)(x:Str):Prop:=X.env.kindOf x=some .globalImplicit
theorem iE {E:DK->DP->Prop}{pins:List (Addr×Obj)}{s:DP}{σ:St}{H:Hp}{x:Str}{u:DK}{pos:Pos}{Q:DK->DP->Prop}(I:Inv X pins σ H s)(hg:Gl X x)(hm:X.mg x=some u)(h:Q u s)
  (hd:(x == ("__debug__" : Str))=false:=by decide):Ee (Es X.prog X.w) X.A (eval (.Name x pos) X.env) Q E s :=
 JI I.ok.kind hg (Calls.loadGlobal_global (by rw[I.ok.glob];exact I.mod.glob.keeps I.bk) hm h) hd
theorem d9 {E:DK->DP->Prop}{pins:List (Addr×Obj)}{s:DP}{σ:St}{H:Hp}{x:Str}{u:DK}{pos:Pos}{Q:DK->DP->Prop}(I:Inv X pins σ H s)(hg:Gl X x)(hm:X.mg x=none)(hv:Ff x=some u)(h:Q u s)
  (hn:x ≠ "__name__" := by decide) (hd:(x == ("__debug__" : Str))=false:=by decide):Ee (Es X.prog X.w) X.A (eval (.Name x pos) X.env) Q E s:=by
 obtain ⟨mb,h1,h2⟩:=I.mod.blt
 exact JI I.ok.kind hg (Calls.loadGlobal_builtin (by rw[I.ok.glob];exact I.mod.glob.keeps I.bk) hm (by rw[I.ok.blt];exact h1.keeps I.bk) ((h2 x hn).trans hv) h) hd
theorem cE {x:Str}{v:V}{u:DK}{pos:Pos}(hg:Gl X x)(hm:X.mg x=some u)(r:RelV v u)(hd:(x == ("__debug__" : Str))=false:=by decide):PE X (.Name x pos) (tC v) :=
 λ_ _ _ H _ I h=>iE I hg hm ⟨v,H,I,r,h⟩ hd
theorem iF {x:Str}{v:V}{u:DK}{pos:Pos}(hg:Gl X x)(hm:X.mg x=none)(hv:Ff x=some u)(r:RelV v u)(hn:x ≠ "__name__" := by decide)(hd:(x == ("__debug__" : Str))=false:=by decide):PE X (.Name x pos) (tC v) :=
 λ_ _ _ H _ I h=>d9 I hg hm hv ⟨v,H,I,r,h⟩ hn hd
variable  {a b:Expr}{ta tb:TE}{pos:Pos}
def PC (X:Cx)(op:CmpOp)(a b:Expr)(t:TE):Prop :=
 ∀(pins:List (Addr×Obj)) (s:DP) (σ:St) (H:Hp) (Q:VK),Inv X pins σ H s->t σ H Q →
  Ee (Es X.prog X.w) X.A (eval a X.env) (λv s₁=>Ee (Es X.prog X.w) X.A (eval b X.env) (λu s₂=>Ee (Es X.prog X.w) X.A (Fl op v u) (EP X pins σ Q) X.xe s₂) X.xe s₁) X.xe s
theorem wW (b:Expr){op:CmpOp}(h:op ≠ .In)(h2:op ≠ .NotIn):behindInMarks op b=false:=by
 have e1:(op == CmpOp.In)=false:=by cases op <;> first | rfl | exact absurd rfl h
 have e2:(op == CmpOp.NotIn)=false:=by cases op <;> first | rfl | exact absurd rfl h2
 cases b <;> simp[behindInMarks,e1,e2]
def tB (t:TE):TT:=λσ H Q=>t σ H λx H1=>∃c,x = .bl c/\Q c H1
theorem rD {op:CmpOp}{t:TE}(h:PC X op a b t)(h1:behindInMarks op b=false:=by first | exact wW _ (by decide) (by decide) | rfl):PT X (.Compare a [op] [b] pos) (tB t):=by
 intro pins s σ H Q I hw
 refine K9 (thn (h pins s σ H _ I hw) λv s1 h1=>thn h1 λu s2 h2=>thn h2 λc s3 ⟨x,H1,I1,r1,q1⟩ =>?_) h1
 obtain ⟨d,rfl,q⟩:=q1
 cases r1
 exact Gm ⟨H1,I1,q⟩
theorem bT {e:Expr}{t:TE}(h:PE X e t)(he:∀whole,isTrue e X.env whole=(do let v ← whole;standAt e.pos;Jr [v] (truthy v)):=by intro _;rfl):PT X e (tB t):=by
  intro pins s σ H Q I hw
  refine isTrue_plain (thn (h pins s σ H _ I hw) λv s1 ⟨x,H1,I1,r1,q1⟩ =>?_) (he _)
  obtain ⟨d,rfl,q⟩:=q1
  cases r1
  exact Gm ⟨H1,I1,q⟩
variable  {tA tB':TT}{rest:List Expr}
def tAnd (t u:TT):TT:=λσ H Q=>t σ H λc H1=>if c=true then u σ H1 Q else Q false H1
def tOr (t u:TT):TT:=λσ H Q=>t σ H λc H1=>if c=true then Q true H1 else u σ H1 Q
def tNot (t:TT):TT:=λσ H Q=>t σ H λc H1=>Q (!c) H1
theorem gF (ha:PT X a tA):PW X (.BoolOp .And [a] pos) tA:=by
 intro wh pins s σ H Q I h
 refine isTrue_and (thn (ha pins s σ H Q I h) λc s1 e =>?_)
 cases c with
 | true=>exact isTrue_and_nil e
 | false=>exact e
theorem cy (ha:PT X a tA):PW X (.BoolOp .Or [a] pos) tA:=by
 intro wh pins s σ H Q I h
 refine isTrue_or (thn (ha pins s σ H Q I h) λc s1 e =>?_)
 cases c with
 | false=>exact isTrue_or_nil e
 | true=>exact e
theorem jq (ha:PT X a tA)(hb:PW X (.BoolOp .And (b :: rest) pos) tB'):PW X (.BoolOp .And (a :: b :: rest) pos) (tAnd tA tB'):=by
 intro wh pins s σ H Q I h
 refine isTrue_and (thn (ha pins s σ H _ I h) λc s1 ⟨H1,I1,q1⟩ =>?_)
 cases c with
 | true=>exact hb wh pins s1 σ H1 Q I1 q1
 | false=>exact ⟨H1,I1,q1⟩
theorem cP (ha:PT X a tA)(hb:PW X (.BoolOp .Or (b :: rest) pos) tB'):PW X (.BoolOp .Or (a :: b :: rest) pos) (tOr tA tB'):=by
 intro wh pins s σ H Q I h
 refine isTrue_or (thn (ha pins s σ H _ I h) λc s1 ⟨H1,I1,q1⟩ =>?_)
 cases c with
 | true=>exact ⟨H1,I1,q1⟩
 | false=>exact hb wh pins s1 σ H1 Q I1 q1
theorem cG (ha:PT X a tA):PT X (.UnaryOp .Not a pos) (tNot tA):=by
 intro pins s σ H Q I h
 exact isTrue_not (ha pins s σ H (λc H1=>Q (!c) H1) I h)
def CD (ta tb:TE):TE:=λσ H Q=>ta σ H λx H1=>∃c,x = .bl c/\if c=true then tb σ H1 Q else Q (.bl false) H1
theorem wX {op}{t:TE}(h:PE X a t):PE X (.BoolOp op [a] pos) t:=λpins s σ H Q I hw=>BoolOp_one (h pins s σ H Q I hw)
theorem wY (ha:PE X a ta)(hb:PE X (.BoolOp .And (b :: rest) pos) tb):PE X (.BoolOp .And (a :: b :: rest) pos) (CD ta tb):=by
 intro pins s σ H Q I h
 refine BoolOp_and (thn (ha pins s σ H _ I h) λv s1 ⟨x,H1,I1,r1,q1⟩ =>?_)
 obtain ⟨c,rfl,q1⟩:=q1
 cases r1
 refine Gm ?_
 cases c with
 | true=>exact hb pins s1 σ H1 Q I1 q1
 | false=>exact ⟨.bl false,H1,I1,rfl,q1⟩
end
def SqL (K:DM)(H:Hp)(a:Addr)(xs:List V):Prop :=
 Rd H a (.lst xs) ∨
  ∃(o:Obj) (its:Array DK) (n:Nat),K.lookup a=some o/\o.cls = .type "list" /\ o.dict=none/\o.data = .seq its n/\its.size<=D3/\Vals xs its.toList
def SqT (K:DM)(H:Hp)(a:Addr)(xs:List V):Prop :=
 Rd H a (.tup xs) ∨
  ∃(o:Obj) (its:Array DK) (n:Nat),K.lookup a=some o/\o.cls = .type "tuple" /\ o.data = .seq its n/\its.size<=D3/\Vals xs its.toList
def absV:DK->Option V
 | .none=>some .non
 | .bool b=>some (.bl b)
 | .int i _=>some (.int i)
 | .str x _=>some (.str x)
 | .bytes b _=>some (.byt b)
 | .float b _=>some (.flt b)
 | .ref a=>some (.ref a)
 | .type n=>some (.ty n)
 | _=>none
theorem RelV.abs {x:V}{u:DK}(r:RelV x u):absV u=some x:=by
 cases x with
 | non=>cases r;rfl
 | bl _=>cases r;rfl
 | int _=>obtain ⟨t,rfl⟩:=r;rfl
 | str _=>obtain ⟨t,rfl⟩:=r;rfl
 | byt _=>obtain ⟨t,rfl⟩:=r;rfl
 | flt _=>obtain ⟨t,rfl⟩:=r;rfl
 | ref _=>cases r;rfl
 | ty _=>cases r;rfl
theorem RelV.inj {x y:V}{u:DK}(r:RelV x u)(q:RelV y u):x=y:=EA (r.abs.symm.trans q.abs)
theorem Vals.inj:∀{xs ys:List V} {us:List DK},Vals xs us->Vals ys us->xs=ys
 | _,_,_,.nil,.nil=>rfl
 | _,_,_,.cons r t,.cons r' t'=>by rw[r.inj r',Vals.inj t t']
section
variable  {X:Cx}{pins:List (Addr×Obj)}{σ:St}{H:Hp}{s:DP}{a:Addr}{xs ys:List V}
theorem SqL.of {K:DM}(h:H a=some (.lst xs)):SqL K H a xs :=.inl (.inl h)
theorem SqT.of {K:DM}(h:H a=some (.tup xs)):SqT K H a xs :=.inl (.inl h)
theorem Inv.list (I:Inv X pins σ H s)(h:SqL X.K H a xs):∃its:List DK,Vals xs its/\PlainL s.heap a its.toArray/\xs.length<=D3:=by
 rcases h with h | ⟨o,its,n,hk,hc,hd,hs,hz,r⟩
 ·obtain ⟨z,its,n,r,e⟩:=h.ok I.hok
  exact ⟨its,r,⟨_,n,e,rfl,rfl,rfl⟩,z⟩
 ·refine ⟨its.toList,r,⟨o,n,I.kIn a o hk,hc,hd,by simpa using hs⟩,?_⟩
  have e:=r.length
  simp only[DY] at e
  lia
theorem Inv.tuple (I:Inv X pins σ H s)(h:SqT X.K H a xs):∃its:List DK,Vals xs its/\IsTup s.heap a its.toArray/\xs.length<=D3:=by
 rcases h with h | ⟨o,its,n,hk,hc,hs,hz,r⟩
 ·obtain ⟨z,its,r,p⟩:=h.ok I.hok
  exact ⟨its,r,p.tup,z⟩
 ·refine ⟨its.toList,r,⟨o,I.kIn a o hk,hc,n,by simpa using hs⟩,?_⟩
  have e:=r.length
  simp only[DY] at e
  lia
theorem Inv.kY (I:Inv X pins σ H s)(h:SqL X.K H a xs)(h':SqL X.K H a ys):xs=ys:=by
 obtain ⟨its,r,⟨o,n,e,_,_,d⟩,_⟩:=I.list h
 obtain ⟨its',r',⟨o',n',e',_,_,d'⟩,_⟩:=I.list h'
 rw[e] at e';cases e'
 rw[d] at d'
 injection d' with d1 _
 have:its=its':=by simpa using congrArg Array.toList d1
 subst this
 exact r.inj r'
theorem Inv.gG (I:Inv X pins σ H s)(h:SqT X.K H a xs)(h':SqT X.K H a ys):xs=ys:=by
 obtain ⟨its,r,⟨o,e,_,n,d⟩,_⟩:=I.tuple h
 obtain ⟨its',r',⟨o',e',_,n',d'⟩,_⟩:=I.tuple h'
 rw[e] at e';cases e'
 rw[d] at d'
 injection d' with d1 _
 have:its=its':=by simpa using congrArg Array.toList d1
 subst this
 exact r.inj r'
end
abbrev Cx.kZ (X:Cx)(E:DK->DP->Prop):Cx:={ X with xe:=E }
abbrev Cx.nox (X:Cx):Cx:=X.kZ λ_ _=>False
theorem Cx.Ok.kZ {X:Cx}(ok:X.Ok)(E:DK->DP->Prop):(X.kZ E).Ok :=
 ⟨ok.mod,ok.kind,ok.glob,ok.blt,ok.above,ok.inj,ok.has,ok.cab,ok.hd,ok.frames,ok.stk,ok.exf,ok.bs,ok.bsz,ok.noex,ok.exfs,ok.funs,ok.frf⟩
theorem Cx.Ok.eA {X:Cx}{E:DK->DP->Prop}(ok:(X.kZ E).Ok):X.Ok :=
 ⟨ok.mod,ok.kind,ok.glob,ok.blt,ok.above,ok.inj,ok.has,ok.cab,ok.hd,ok.frames,ok.stk,ok.exf,ok.bs,ok.bsz,ok.noex,ok.exfs,ok.funs,ok.frf⟩
section
variable  {X:Cx}{pins:List (Addr×Obj)}{σ:St}{H:Hp}{s:DP}{E:DK->DP->Prop}
theorem Inv.kZ (I:Inv X pins σ H s)(E:DK->DP->Prop):Inv (X.kZ E) pins σ H s:=⟨I.ok.kZ E,I.os,I.bare,I.base,I.loc,I.cell,I.free,I.freeC,I.pin,I.hok,I.len⟩
theorem Inv.eA (I:Inv (X.kZ E) pins σ H s):Inv X pins σ H s:=⟨I.ok.eA,I.os,I.bare,I.base,I.loc,I.cell,I.free,I.freeC,I.pin,I.hok,I.len⟩
theorem SP.eA {D:Ends}{f:Flow}{s':DP}(h:SP (X.kZ E) pins D f s'):SP X pins D f s':=by
 cases f with
 | next=>obtain ⟨σ',H',I,q⟩:=h;exact ⟨σ',H',I.eA,q⟩
 | brk=>obtain ⟨σ',H',I,q⟩:=h;exact ⟨σ',H',I.eA,q⟩
 | cont=>obtain ⟨σ',H',I,q⟩:=h;exact ⟨σ',H',I.eA,q⟩
 | ret u=>obtain ⟨v,σ',H',I,r,q⟩:=h;exact ⟨v,σ',H',I.eA,r,q⟩
theorem PSs.nox {st:List Stmt}{t:TS}(h:PSs X.nox st t):PSs X st t:=λpins s σ H D I hw =>
 Gk (h pins s σ H D (I.kZ _) hw) (λ_ _ q=>q.eA) λ_ _ z=>False.elim z
end
section
variable  {X:Cx}{st:Stmt}{rest:List Stmt}{t u:TS}{e:Expr}{te:TE}{pos:Pos}
def CG:TS:=λD σ H=>D.nx σ H
def CH (t u:TS):TS:=λD σ H=>t { D with nx:=u D } σ H
theorem aG:PSs X [] CG:=λ_ _ σ H _ I h=>Io ⟨σ,H,I,h⟩
theorem ah (h1:PS X st t)(h2:PSs X rest u):PSs X (st :: rest) (CH t u):=by
 intro pins s σ H D I h
 refine KA (thn (h1 pins s σ H { D with nx:=u D } I h) λf s1 q =>?_)
 cases f with
 | next =>
  obtain ⟨σ',H',I',q⟩:=q
  exact h2 pins s1 σ' H' D I' q
 | ret v=>exact q
 | brk=>exact q
 | cont=>exact q
theorem aj (h1:PS X st t):PSs X [st] t:=by
 intro pins s σ H D I h
 refine KA (thn (h1 pins s σ H D I h) λf s1 q =>?_)
 cases f with
 | next=>exact Io q
 | ret v=>exact q
 | brk=>exact q
 | cont=>exact q
theorem Inv.quiet {pins:List (Addr×Obj)}{σ:St}{H:Hp}{s:DP}(I:Inv X pins σ H s):interactive X.env=false:=by simp[interactive,I.ok.kind]
def CI (te:TE):TS:=λD σ H=>te σ H λ_ H1=>D.nx σ H1
theorem cg (he:PE X e te)(hs:swapsWith e none pos.line X.env=pure false:=by rfl):PS X (.Expr e pos) (CI te):=by
 intro pins s σ H D I h
 exact wpAny_Expr_any (thn (he pins s σ H _ I h) λv s1 ⟨x,H1,I1,r1,q1⟩=>⟨σ,H1,I1,q1⟩) I.quiet hs
def tRet (te:TE):TS:=λD σ H=>te σ H D.rt
theorem aD (he:PE X e te):PS X (.Return (some e) pos) (tRet te):=by
 intro pins s σ H D I h
 exact wpAny_Return_some (thn (he pins s σ H _ I h) λv s1 ⟨x,H1,I1,r1,q1⟩=>⟨x,σ,H1,I1,r1,q1⟩)
def tIfS (c:TT)(t u:TS):TS:=λD σ H=>c σ H λb H1=>if b=true then t D σ H1 else u D σ H1
theorem aX {c:Expr}{a b:List Stmt}{tc:TT}(hc:PT X c tc)(ha:PSs X a t)(hb:PSs X b u):PS X (.If c a b pos) (tIfS tc t u):=by
 intro pins s σ H D I h
 refine wpAny_If (thn (hc pins s σ H _ I h) λd s1 ⟨H1,I1,q1⟩ =>?_)
 cases d with
 | true=>exact ha pins s1 σ H1 D I1 q1
 | false=>exact hb pins s1 σ H1 D I1 q1
def BC:TS:=λ_ _ _=>False
theorem dF {sts:List Stmt}:PSs X sts BC:=λ_ _ _ _ _ _ h=>h.elim
end
abbrev TG:=V->St->Hp->(St->Hp->Prop)->Prop
abbrev TGs:=List V->St->Hp->(St->Hp->Prop)->Prop
def PG (X:Cx)(target:Expr)(t:TG):Prop :=
 ∀(pins:List (Addr×Obj)) (s:DP) (σ:St) (H:Hp) (v:V) (u:DK) (Q:St->Hp->Prop),Inv X pins σ H s->RelV v u->t v σ H Q →
  Ee (Es X.prog X.w) X.A (assign target X.env u) (λ_ s'=>∃σ' H',Inv X pins σ' H' s'/\Q σ' H') X.xe s
def PGs (X:Cx)(ts:List Expr)(t:TGs):Prop :=
 ∀(pins:List (Addr×Obj)) (s:DP) (σ:St) (H:Hp) (vs:List V) (us:List DK) (Q:St->Hp->Prop),Inv X pins σ H s->Vals vs us->t vs σ H Q →
  Ee (Es X.prog X.w) X.A (assignInOrder ((assignEach ts X.env).map (·.2)) us) (λ_ s'=>∃σ' H',Inv X pins σ' H' s'/\Q σ' H') X.xe s
abbrev wZ:=V->V->V->Hp->(Hp->Prop)->Prop
def BD (X:Cx)(t:wZ):Prop :=
 ∀(pins:List (Addr×Obj)) (s:DP) (σ:St) (H:Hp) (o i v:V) (ov iv u:DK) (Q:Hp->Prop),Inv X pins σ H s->RelV o ov->RelV i iv->RelV v u->t o i v H Q →
  Ee (Es X.prog X.w) X.A (setItem ov iv u) (λ_ s'=>∃H',Inv X pins σ H' s'/\Q H') X.xe s
abbrev TIp:=V->V->Hp->VK->Prop
def PIp (X:Cx)(op:Operator)(t:TIp):Prop :=
 ∀(pins:List (Addr×Obj)) (s:DP) (σ:St) (H:Hp) (x y:V) (v u:DK) (Q:VK),Inv X pins σ H s->RelV x v->RelV y u->t x y H Q →
  Ee (Es X.prog X.w) X.A (inplaceOp op v u) (EP X pins σ Q) X.xe s
section
variable  {X:Cx}{pos:Pos}
def fR (i:Nat):TG:=λv σ H Q=>Q (σ.set i (some v)) H
theorem aB {i:Nat}{x:Str}(hN:X.N.Nodup)(hi:X.N[i]? = some x)(hx:Loc X.env.scope x)(hf:X.fn x=true\/X.env.scope.names.lookup x=some .local:=by first | exact .inl rfl | exact .inr rfl | assumption):PG X (.Name x pos) (fR i):=by
 intro pins s σ H v u Q I r h
 exact wpAny_assign_Name (kX I hN hi hx r (λs' I'=>⟨_,H,I',h⟩) hf)
def CJ:TGs:=λvs σ H Q=>vs=[]/\Q σ H
def w5 (t:TG)(u:TGs):TGs:=λvs σ H Q=>∃v r,vs=v :: r/\t v σ H λσ' H'=>u r σ' H' Q
theorem kG:PGs X [] CJ:=by
 intro pins s σ H vs us Q I r h
 obtain ⟨e,h⟩:=h
 subst e
 cases r
 exact assignInOrder_nil ⟨σ,H,I,h⟩
theorem dk {e:Expr}{es:List Expr}{t:TG}{u:TGs}(h1:PG X e t)(h2:PGs X es u)
  (hs:(assignEach (e :: es) X.env).map (·.2)=assign e X.env :: (assignEach es X.env).map (·.2):=by rfl):PGs X (e :: es) (w5 t u):=by
 intro pins s σ H vs us Q I r h
 obtain ⟨v,vr,e1,h⟩:=h
 subst e1
 cases r with
 | cons r rr =>
  rw[hs]
  refine assignInOrder_cons (thn (h1 pins s σ H _ _ _ I r h) λ_ s1 ⟨σ1,H1,I1,q1⟩ =>?_)
  exact h2 pins s1 σ1 H1 _ _ Q I1 rr q1
def CK (K:DM)(n:Nat)(t:TGs):TG:=λv σ H Q=>∃a xs,v = .ref a/\SqT K H a xs/\xs.length=n/\t xs σ H Q
theorem o7 {es:List Expr}{k:Nat}{t:TGs}{n:Nat}(hc:X.calm=true)(h:PGs X es t)
  (hn:(assignEach es X.env).length=n:=by rfl) (hst:(assignEach es X.env).findIdx? (·.1)=none:=by rfl):PG X (.Tuple es k pos) (CK X.K n t):=by
 intro pins s σ H v u Q I r hw
 obtain ⟨a,xs,e1,hq,hl,hw⟩:=hw
 subst e1
 cases r
 obtain ⟨its,rv,ht,hz⟩:=I.tuple hq
 refine assign_Tuple_tuple (I.ok.hd hc) ht (by simp[hn, <- hl,rv.length]) hst λh' hx =>?_
 have I1:Inv X pins σ H { s with heap:=h' }:=I.kept (t':=s.toks) λb o e=>hx b o (Ed (D4 e)) e
 exact h pins _ σ H xs _ Q I1 (by simpa using rv) hw
def gSub (to ti:TE)(t:wZ):TG:=λv σ H Q=>to σ H λo H1=>ti σ H1 λi H2=>t o i v H2 λH3=>Q σ H3
theorem w6 {o i:Expr}{to ti:TE}{t:wZ}(ho:PE X o to)(hi:PE X i ti)(hs:BD X t)
    (ha:∀v,assign (.Subscript o i pos) X.env v=(do
      let ov ← Jr [v] (eval o X.env)
      let iv ← Jr [v,ov] (eval i X.env)
      standAt pos
      Jr [v,ov,iv] (setItem ov iv v)
      release [v,ov,iv] []):=by intro _;rfl):PG X (.Subscript o i pos) (gSub to ti t):=by
  intro pins s σ H v u Q I r h
  rw[ha]
  refine DH (Fb (thn (ho pins s σ H _ I h) λov s1 ⟨x,H1,I1,r1,q1⟩ =>?_))
  refine DH (Fb (thn (hi pins s1 σ H1 _ I1 q1) λiv s2 ⟨y,H2,I2,r2,q2⟩ =>?_))
  refine DH (Jw (DH (Fb (thn (hs pins s2 σ H2 x y v ov iv u _ I2 r1 r2 r q2) λ_ s3 ⟨H3,I3,q3⟩ =>?_))))
  exact wpAny_release ⟨σ,H3,I3,q3⟩
def BE (te:TE)(g:TG):TS:=λD σ H=>te σ H λx H1=>g x σ H1 D.nx
theorem rF {tg e:Expr}{te:TE}{g:TG}(he:PE X e te)(hg:PG X tg g)(hs:swapsWithSole [tg] e pos.line X.env=pure false:=by rfl)(hw:swappedStores [tg] e X.env=pure none:=by rfl)
  (h1:(assignEach [tg] X.env).map (·.2)=[assign tg X.env]:=by rfl):PS X (.Assign [tg] e pos) (BE te g):=by
 intro pins s σ H D I h
 refine wpAny_Assign_stores (thn (he pins s σ H _ I h) λv s1 ⟨x,H1,I1,r1,q1⟩ =>?_) hs hw
 rw[h1]
 exact thn (hg pins s1 σ H1 x v _ I1 r1 q1) λ_ s2 q=>q
theorem az {i:Nat}{x:Str}{e:Expr}{te:TE}{pos':Pos}(hN:X.N.Nodup)(hi:X.N[i]? = some x)(hx:Loc X.env.scope x)(he:PE X e te)(hs:swapsWith e (some (.Name x pos')) pos.line X.env=pure false:=by rfl)(hf:X.fn x=true\/X.env.scope.names.lookup x=some .local:=by first | exact .inl rfl | exact .inr rfl | assumption) :
  PS X (.Assign [.Name x pos'] e pos) (BE te (fR i)):=by
 intro pins s σ H D I h
 refine wpAny_Assign_Name (thn (he pins s σ H _ I h) λv s1 ⟨y,H1,I1,r1,q1⟩ =>?_) hs
 exact kX I1 hN hi hx r1 (λs2 I2=>⟨_,H1,I2,q1⟩) hf
def CL (to ti te:TE)(tget:V->V->Hp->VK->Prop)(tip:TIp)(tset:wZ):TS:=λD σ H=>to σ H λo H1=>ti σ H1 λi H2=>tget o i H2 λx H3=>te σ H3 λy H4=>tip x y H4 λz H5=>tset o i z H5 λH6=>D.nx σ H6
def CM (X:Cx)(t:V->V->Hp->VK->Prop):Prop :=
 ∀(pins:List (Addr×Obj)) (s:DP) (σ:St) (H:Hp) (o i:V) (ov iv:DK) (Q:VK),Inv X pins σ H s->RelV o ov->RelV i iv->t o i H Q →
  Ee (Es X.prog X.w) X.A (getItem ov iv) (EP X pins σ Q) X.xe s
theorem zi {o i e:Expr}{to ti te:TE}{tget:V->V->Hp->VK->Prop}{tip:TIp}{tset:wZ}{op:Operator}{tpos:Pos}(ho:PE X o to)(hi:PE X i ti)(hg:CM X tget)(he:PE X e te)(hp:PIp X op tip)(hs:BD X tset)
    (ha:∀ov iv new,augStore i ov iv new=(do Jr [new,ov,iv] (setItem ov iv new);release [new,ov,iv] [];pure .next):=by intros;rfl):PS X (.AugAssign (.Subscript o i tpos) op e pos) (CL to ti te tget tip tset):=by
  intro pins s σ H D I h
  refine wpAny_AugAssign_SubscriptAny (thn (ho pins s σ H _ I h) λov s1 ⟨x1,H1,I1,r1,q1⟩ =>?_) ha
  refine thn (hi pins s1 σ H1 _ I1 q1) λiv s2 ⟨x2,H2,I2,r2,q2⟩ =>?_
  refine thn (hg pins s2 σ H2 x1 x2 ov iv _ I2 r1 r2 q2) λold s3 ⟨x3,H3,I3,r3,q3⟩ =>?_
  refine thn (he pins s3 σ H3 _ I3 q3) λv s4 ⟨x4,H4,I4,r4,q4⟩ =>?_
  refine thn (hp pins s4 σ H4 x3 x4 old v _ I4 r3 r4 q4) λnew s5 ⟨x5,H5,I5,r5,q5⟩ =>?_
  exact thn (hs pins s5 σ H5 x1 x2 x5 ov iv new _ I5 r1 r2 r5 q5) λ_ s6 ⟨H6,I6,q6⟩=>⟨σ,H6,I6,q6⟩
def ipI (f:Int->Int->Int):TIp:=λx y H Q=>∃i j,x = .int i/\y = .int j/\Q (.int (f i j)) H
theorem BF:PIp X .Sub (ipI λi j=>i-j):=by
 intro pins s σ H x y v u Q I r1 r2 h
 obtain ⟨i,j,e1,e2,q⟩:=h
 subst e1;subst e2
 obtain ⟨t,rfl⟩:=r1
 obtain ⟨t',rfl⟩:=r2
 exact isub_int ⟨.int _,H,I.tok _,⟨_,rfl⟩,q⟩
end
section
variable  {X:Cx}{pos:Pos}
def w9 (c:TT)(tb:TS):TS:=λD σ H=>∃W:Nat->St->Hp->Prop,(∃m,W m σ H)/\∀m σ H,W m σ H →
 c σ H λb H1=>if b=true then ∃N:St->Hp->Prop,(∀σ' H',N σ' H'->∃m',m'<m/\W m' σ' H')/\tb { D with nx:=N,ct:=N,bk:=D.nx } σ H1 else D.nx σ H1
theorem k7 {c:Expr}{body:List Stmt}{tc:TT}{tb:TS}(hp:PassesOwn (Es X.prog X.w) X.A X.env X.xe)(hc:PT X c tc)(hb:PSs X body tb):PS X (.While c body [] pos) (w9 tc tb):=by
 intro pins s σ H D I h
 obtain ⟨W,⟨m0,w0⟩,turn⟩:=h
 refine wpAny_While (codeAny_whileLoop (λn s'=>∃σ' H',Inv X pins σ' H' s'/\W n σ' H') ?_ m0 ⟨σ,H,I,w0⟩)
 rintro n s1 ⟨σ1,H1,I1,w1⟩
 refine HM hp (thn (hc pins s1 σ1 H1 _ I1 (turn n σ1 H1 w1)) λb s2 ⟨H2,I2,q2⟩ =>?_)
 cases b with
 | true =>
  obtain ⟨N,hN,q2⟩:=q2
  rw[if_pos rfl]
  refine HM hp (thn (hb pins s2 σ1 H2 _ I2 q2) λf s3 q3 =>?_)
  cases f with
  | next =>
   obtain ⟨σ3,H3,I3,n3⟩:=q3
   obtain ⟨m',hm,w3⟩:=hN σ3 H3 n3
   exact ⟨m',hm,σ3,H3,I3,w3⟩
  | cont =>
   obtain ⟨σ3,H3,I3,n3⟩:=q3
   obtain ⟨m',hm,w3⟩:=hN σ3 H3 n3
   exact ⟨m',hm,σ3,H3,I3,w3⟩
  | brk=>exact q3
  | ret v=>exact q3
 | false =>
  rw[if_neg Eh]
  exact Io ⟨σ1,H2,I2,q2⟩
end
structure It where
 go:Nat->Hp->Prop
 yld:Nat->Hp->V->Hp->Prop
 stop:Nat->Hp->Prop
def iH (X:Cx)(pins:List (Addr×Obj))(H:Hp)(b:Addr):Prop :=
 H b=none/\b≠X.env.locals/\b∉X.fs/\(b∈X.ex\/X.s₀.heap.objs.size<=b)/\(∀x c,X.env.cells.lookup x=some c->c≠b)/\∀p∈X.pn++pins,p.1≠b
theorem Inv.vg {X:Cx}{pins:List (Addr×Obj)}{σ:St}{H H':Hp}{s:DP}{b:Addr}(I:Inv X pins σ H s)(hb:s.heap.objs.size<=b)(hn:H' b=none):iH X pins H' b:=by
 refine ⟨hn,Hu (Ec I.lt hb),I.Bz hb,.inr (EI I.sz hb),λx c e z =>?_,λp hp z =>?_⟩
 ·obtain ⟨v,q⟩:=I.cell x c e
  exact absurd (Ec q.lt (by rw[z];exact hb)) (Fe _)
 ·exact absurd (Ec (D4 (I.pin p hp).1) (by rw[z];exact hb)) (Fe _)
structure Turn (P:D9)(w:EE)(K:DM)(tg:Expr)(J:It)(fp:List Addr)(it:Addr)(tn:Nat->Heap->Prop):Prop where
 mem:it∈fp
 obj:∀i h,tn i h->∀b∈fp,∃o,h.get? b=some o/\∀v,o.data ≠ .cell v
 keep:∀i h h',tn i h->(∀b∈fp,∀o,h.get? b=some o->h'.get? b=some o)->tn i h'
 item:∀(X:Cx),X.prog=P->X.w=w->X.K=K->X.calm=true->∀(i:Nat) (pins:List (Addr×Obj)) (s:DP) (σ:St) (H:Hp) (E:DK->DP->Prop),Inv X pins σ H s->(∀b∈fp,iH X pins H b)->tn i s.heap->J.go i H →
  Ee (Es P w) X.A (pyNext (.ref it)) (λr s1=>∃u,r=some u ∧
   Ee (Es P w) X.A (letOwnedTupleGo tg (.ref it) u) (λ_ s2=>∃x H',Inv X pins σ H' s2/\RelV x u/\J.yld i H x H'/\tn (i+1) s2.heap/\∀b∈fp,H' b=none) E s1) E s
 done:∀(X:Cx),X.prog=P->X.w=w->X.K=K->X.calm=true->∀(i:Nat) (pins:List (Addr×Obj)) (s:DP) (σ:St) (H:Hp) (E:DK->DP->Prop),Inv X pins σ H s->(∀b∈fp,iH X pins H b)->tn i s.heap->J.stop i H →
  Ee (Es P w) X.A (pyNext (.ref it)) (λr s1=>r=none/\Inv X pins σ H s1) E s
 self:∀(A:EV) (i:Nat) (s:DP) (Q:DK->DP->Prop) (E:DK->DP->Prop),tn i s.heap->Q (.ref it) s->Ee (Es P w) A (pyIter (.ref it)) Q E s
abbrev TI:=St->Hp->(It->Hp->Prop)->Prop
def PIE (X:Cx)(pins:List (Addr×Obj))(σ:St)(tg:Expr)(R:It->Hp->Prop)(itv:DK)(s2:DP):Prop :=
 ∃(it:Addr) (fp:List Addr) (tn:Nat->Heap->Prop) (J:It) (H':Hp),itv = .ref it/\Inv X pins σ H' s2/\Turn X.prog X.w X.K tg J fp it tn/\tn 0 s2.heap/\(∀b∈fp,iH X pins H' b)/\R J H'
def PI (X:Cx)(tg iter:Expr)(wi:TI):Prop :=
 ∀(pins:List (Addr×Obj)) (s:DP) (σ:St) (H:Hp) (R:It->Hp->Prop),Inv X pins σ H s->wi σ H R →
  Ee (Es X.prog X.w) X.A (eval iter X.env) (λv s1=>Ee (Es X.prog X.w) X.A (pyIter v) (PIE X pins σ tg R) X.xe s1) X.xe s
theorem xc {M:Model}{A:EV}{E:DK->DP->Prop}{s:DP}{tg:Expr}{it:Addr}{u:DK}{o:Obj}{n:String}{vs:Array DK}{Q:Unit->DP->Prop}(ho:s.heap.get? it=some o)(hc:o.cls = .type n)(hd:o.data = .fields vs)
    (hn:["enumerate", "zip", "dict_itemiterator", "dict_reverseitemiterator", "odict_iterator", "itertools.zip_longest", "itertools.pairwise"].contains n=false) (hQ:Q () s):Ee M A (letOwnedTupleGo tg (.ref it) u) Q E s:=by
  unfold letOwnedTupleGo
  cases tg <;> first
    | exact DN hQ
    | (cases u <;> first
        | exact DN hQ
        | (refine DH (Mo ho ?_)
           rw[hc,hd]
           show Ee M A (if (["enumerate", "zip", "dict_itemiterator", "dict_reverseitemiterator", "odict_iterator", "itertools.zip_longest", "itertools.pairwise"].contains n && vs[0]? == some (HD _))=true then _ else _) Q E s
           rw[if_neg (by intro h;rw[hn,JU] at h;cases h)]
           exact DN hQ))
def Itl (K:DM)(a:Addr):It :=
 ⟨λi H=>∃xs x,SqL K H a xs/\xs[i]? = some x,λi H x H'=>H'=H/\∀xs,SqL K H a xs->xs[i]? = some x,λi H=>∃xs,SqL K H a xs/\xs.length<=i⟩
def Itt (K:DM)(a:Addr):It :=
 ⟨λi H=>∃xs x,SqT K H a xs/\xs[i]? = some x,λi H x H'=>H'=H/\∀xs,SqT K H a xs->xs[i]? = some x,λi H=>∃xs,SqT K H a xs/\xs.length<=i⟩
def Itr (lo:Int)(n:Nat):It:=⟨λi _=>i<n,λi H x H'=>H'=H/\x = .int (lo+i),λi _=>n<=i⟩
theorem nX {P:D9}{w:EE}{K:DM}{tg:Expr}(a it:Addr):Turn P w K tg (Itl K a) [it] it (λi h=>h.IsListIter it a i) where
 mem:=by simp
 obj:=λi h st b hb=>by
  have e:b=it:=by simpa using hb
  subst e
  obtain ⟨o,e,c,d⟩:=st
  exact ⟨o,e,λv z=>by rw[d] at z;cases z⟩
 keep:=λi h h' st k=>st.at λo e=>k it (by simp) o e
 item:=by
  intro X hP hw hK hc i pins s σ H E I hf st hg
  subst hP hw hK
  obtain ⟨xs,x,hq,hx⟩:=hg
  obtain ⟨its,rv,p,hz⟩:=I.list hq
  obtain ⟨u,hu,ru⟩:=rv.get hx
  obtain ⟨f0,f1,f2,f3,f4,f5⟩:=hf it (by simp)
  refine wpAny_pyNext_list_item st p.isList (x:=u) (by simpa using hu) λh' st' sb =>?_
  have I1:Inv X pins σ H { s with heap:=h' }:=I.turned (t':=s.toks) (λb o hb e=>(sb.2 b hb).trans e) f0 f1 f3 f4 f5
  obtain ⟨o,e,c,d⟩:=id st'
  exact ⟨u,rfl,xc (s:={ s with heap:=h' }) e c d (by decide) ⟨x,H,I1,ru,⟨rfl,λys hy=>by rw[I.kY hy hq];exact hx⟩,st',λb hb=>(hf b hb).1⟩⟩
 done:=by
  intro X hP hw hK hc i pins s σ H E I hf st hg
  subst hP hw hK
  obtain ⟨xs,hq,hx⟩:=hg
  obtain ⟨its,rv,p,hz⟩:=I.list hq
  obtain ⟨f0,f1,f2,f3,f4,f5⟩:=hf it (by simp)
  have hl:=rv.length
  exact wpAny_pyNext_list_end (I.ok.hd hc) st p.isList (by simp;lia) λh' eb=>⟨rfl,I.turned (t':=s.toks) (λb o hb e=>eb b o hb e) f0 f1 f3 f4 f5⟩
 self:=λ_ _ _ _ _ st h=>wpAny_pyIter_listiter st h
theorem k8 {P:D9}{w:EE}{K:DM}{tg:Expr}(a it:Addr):Turn P w K tg (Itt K a) [it] it (λi h=>h.IsTupleIter it a i) where
 mem:=by simp
 obj:=λi h st b hb=>by
  have e:b=it:=by simpa using hb
  subst e
  obtain ⟨o,e,c,d⟩:=st
  exact ⟨o,e,λv z=>by rw[d] at z;cases z⟩
 keep:=λi h h' st k=>st.at λo e=>k it (by simp) o e
 item:=by
  intro X hP hw hK hc i pins s σ H E I hf st hg
  subst hP hw hK
  obtain ⟨xs,x,hq,hx⟩:=hg
  obtain ⟨its,rv,p,hz⟩:=I.tuple hq
  obtain ⟨u,hu,ru⟩:=rv.get hx
  obtain ⟨f0,f1,f2,f3,f4,f5⟩:=hf it (by simp)
  refine wpAny_pyNext_tuple_item st (show s.heap.IsTuple a its.toArray from p) (x:=u) (by simpa using hu) λh' st' sb =>?_
  have I1:Inv X pins σ H { s with heap:=h' }:=I.turned (t':=s.toks) (λb o hb e=>(sb.2 b hb).trans e) f0 f1 f3 f4 f5
  obtain ⟨o,e,c,d⟩:=id st'
  exact ⟨u,rfl,xc (s:={ s with heap:=h' }) e c d (by decide) ⟨x,H,I1,ru,⟨rfl,λys hy=>by rw[I.gG hy hq];exact hx⟩,st',λb hb=>(hf b hb).1⟩⟩
 done:=by
  intro X hP hw hK hc i pins s σ H E I hf st hg
  subst hP hw hK
  obtain ⟨xs,hq,hx⟩:=hg
  obtain ⟨its,rv,p,hz⟩:=I.tuple hq
  obtain ⟨f0,f1,f2,f3,f4,f5⟩:=hf it (by simp)
  have hl:=rv.length
  exact wpAny_pyNext_tuple_end (I.ok.hd hc) st (show s.heap.IsTuple a its.toArray from p) (by simp;lia) λh' eb=>⟨rfl,I.turned (t':=s.toks) (λb o hb e=>eb b o hb e) f0 f1 f3 f4 f5⟩
 self:=λ_ _ _ _ _ st h=>wpAny_pyIter_tupleiter st h
theorem rG {P:D9}{w:EE}{K:DM}{tg:Expr}(it:Addr)(lo:Int)(n:Nat):Turn P w K tg (Itr lo n) [it] it (λi h=>IsRangeIter h it (lo+(i:Nat)*1) ((n:Int)-(i:Nat)) 1) where
 mem:=by simp
 obj:=λi h st b hb=>by
  have e:b=it:=by simpa using hb
  subst e
  exact ⟨_,st,λv z=>by
   have z':Data.fields _=Data.cell v:=z
   cases z'⟩
 keep:=λi h h' st k=>k it (by simp) _ st
 item:=by
  intro X hP hw hK hc i pins s σ H E I hf st hg
  subst hP hw hK
  obtain ⟨f0,f1,f2,f3,f4,f5⟩:=hf it (by simp)
  have W:=Walks.range (prog:=X.prog) (w:=X.w) (I.ok.hd hc) it lo 1 n
  refine W.item i s _ _ hg st λv h' tk hv st' kk =>?_
  obtain ⟨t,rfl⟩:=hv
  have I1:Inv X pins σ H { s with heap:=h',toks:=tk }:=I.turned (λb o hb e=>kk b o (by simpa using hb) e) f0 f1 f3 f4 f5
  refine ⟨_,rfl,xc (s:={ s with heap:=h',toks:=tk }) (n := "range_iterator") st' rfl rfl (by decide) ⟨.int (lo+i),H,I1,⟨t,?_⟩,⟨rfl,rfl⟩,st',λb hb=>(hf b hb).1⟩⟩
  rw[Int.mul_one]
 done:=by
  intro X hP hw hK hc i pins s σ H E I hf st hg
  subst hP hw hK
  obtain ⟨f0,f1,f2,f3,f4,f5⟩:=hf it (by simp)
  exact wpAny_pyNext_range_end (I.ok.hd hc) st (by have:n<=i:=hg;lia) λh' eb=>⟨rfl,I.turned (t':=s.toks) (λb o hb e=>eb b o hb e) f0 f1 f3 f4 f5⟩
 self:=λ_ _ _ _ _ st h=>wpAny_pyIter_rangeiter st h
section
variable  {X:Cx}{tg:Expr}
def CN (K:DM)(tl:TE):TI:=λσ H R=>tl σ H λx H1=>∃a,x = .ref a/\(∃xs,SqL K H1 a xs)/\R (Itl K a) H1
def iTup (K:DM)(tl:TE):TI:=λσ H R=>tl σ H λx H1=>∃a,x = .ref a/\(∃xs,SqT K H1 a xs)/\R (Itt K a) H1
theorem bC {l:Expr}{tl:TE}(hl:PE X l tl):PI X tg l (CN X.K tl):=by
 intro pins s σ H R I h
 refine thn (hl pins s σ H _ I h) λv s1 ⟨x,H1,I1,r1,q1⟩ =>?_
 obtain ⟨a,e,⟨xs,hq⟩,q⟩:=q1
 subst e
 cases r1
 obtain ⟨its,rv,p,hz⟩:=I1.list hq
 refine GZ p.isList ?_
 refine ⟨s1.heap.objs.size,[s1.heap.objs.size],_,_,H1,rfl,I1.kept (t':=s1.toks) λb o e=>DJ _ e,nX a _,⟨_,D2 _ rfl,rfl,rfl⟩,λb hb =>?_,q⟩
 have e:b=s1.heap.objs.size:=by simpa using hb
 subst e
 exact I1.vg (DS _) (I1.hok.fresh (DS _))
theorem hZ {l:Expr}{tl:TE}(hl:PE X l tl):PI X tg l (iTup X.K tl):=by
 intro pins s σ H R I h
 refine thn (hl pins s σ H _ I h) λv s1 ⟨x,H1,I1,r1,q1⟩ =>?_
 obtain ⟨a,e,⟨xs,hq⟩,q⟩:=q1
 subst e
 cases r1
 obtain ⟨its,rv,p,hz⟩:=I1.tuple hq
 refine GL (show s1.heap.IsTuple a its.toArray from p) ?_
 refine ⟨s1.heap.objs.size,[s1.heap.objs.size],_,_,H1,rfl,I1.kept (t':=s1.toks) λb o e=>DJ _ e,k8 a _,⟨_,D2 _ rfl,rfl,rfl⟩,λb hb =>?_,q⟩
 have e:b=s1.heap.objs.size:=by simpa using hb
 subst e
 exact I1.vg (DS _) (I1.hok.fresh (DS _))
theorem xf {pins:List (Addr×Obj)}{σ:St}{H:Hp}{s:DP}{R:It->Hp->Prop}{E:DK->DP->Prop}{lo hi:Int}{t u v:Tok}{tk:Nat}(I:Inv X pins σ H s)(h1 : -(2 ^ 62)<=lo)(h2:lo<2 ^ 62)(h3 : -(2 ^ 62)<=hi)(h4:hi<2 ^ 62)
  (q:R (Itr lo (hi-lo).toNat) H):Ee (Es X.prog X.w) X.A (pyIter (.ref s.heap.objs.size)) (PIE X pins σ tg R) E { s with heap:=s.heap.push { cls :=.type "range",data :=.fields #[.int lo t,.int hi u,.int 1 v] },toks:=tk }:=by
 refine wpAny_pyIter_range (IsRange.new ..) (small_one h1 h2 h3 h4) ?_
 have I1:Inv X pins σ H { s with heap:=s.heap.push { cls :=.type "range",data :=.fields #[.int lo t,.int hi u,.int 1 v] },toks:=tk }:=I.kept λb o e=>DJ _ e
 refine ⟨(s.heap.push { cls :=.type "range",data :=.fields #[.int lo t,.int hi u,.int 1 v] }).objs.size,[(s.heap.push { cls :=.type "range",data :=.fields #[.int lo t,.int hi u,.int 1 v] }).objs.size],_,_,H,rfl,
  I1.kept (t':=tk) λb o e=>DJ _ e,rG _ lo (hi-lo).toNat,?_,λb hb =>?_,q⟩
 ·have e1:lo+((0:Nat):Int)*1=lo:=by simp
  have e2:(((hi-lo).toNat:Nat):Int)-((0:Nat):Int)=Builtin.Range.rangeSize lo hi 1:=by rw[rangeSize_one];split <;> lia
  show IsRangeIter _ _ (lo+((0:Nat):Int)*1) ((((hi-lo).toNat:Nat):Int)-((0:Nat):Int)) 1
  rw[e1,e2]
  exact D2 _ rfl
 ·have e:b=(s.heap.push { cls :=.type "range",data :=.fields #[.int lo t,.int hi u,.int 1 v] }).objs.size:=by simpa using hb
  subst e
  exact I1.vg (DS _) (I1.hok.fresh (DS _))
def CO (ta:TA):TI:=λσ H R=>ta σ H λvs H1=>∃j:Int,vs=[.int j] /\ -(2 ^ 62)<=j/\j<2 ^ 62/\R (Itr 0 j.toNat) H1
theorem bJ {a:Expr}{ta:TA}{p pos:Pos}(hg:Gl X "range")(hm:X.mg "range" = none)(ha:PA X [a] ta)(hs:EL [a] X.env=[(false,eval a X.env)]:=by rfl):PI X tg (.Call (.Name "range" p) [a] [] pos) (CO ta):=by
 intro pins s σ H R I h
 refine Call_ (d9 I hg hm boot_range (FO (thn (ha pos pins s σ H _ I h) λus s1 ⟨vs,H1,I1,r1,q1⟩ =>?_) hs rfl))
 obtain ⟨j,e,q1,q2,q⟩:=q1
 subst e
 cases r1 with
 | cons r rr =>
  cases rr
  obtain ⟨t,rfl⟩:=r
  exact call_range_1 (xf I1 (by lia) (by lia) q1 q2 (by simpa using q))
def tFor (wi:TI)(g:TG)(tb:TS):TS:=λD σ H=>wi σ H λJ H1=>∃W:Nat->Nat->St->Hp->Prop,(∃m,W 0 m σ H1)/\∀i m σ H,W i m σ H →
 (J.stop i H/\D.nx σ H)\/(J.go i H/\∃N:St->Hp->Prop,(∀σ' H',N σ' H'->∃m',m'<m/\W (i+1) m' σ' H')/\∀x H',J.yld i H x H'->g x σ H' λσ2 H2=>tb { D with nx:=N,ct:=N,bk:=D.nx } σ2 H2)
def ia (fp:List Addr)(h:Heap):List (Addr×Obj):=fp.filterMap λb=>(h.get? b).map λo=>(b,o)
theorem dG {fp:List Addr}{h:Heap}{b:Addr}{o:Obj}(hb:b∈fp)(e:h.get? b=some o):(b,o)∈ia fp h:=Ig.mpr ⟨b,hb,by rw[e];rfl⟩
theorem nY {fp:List Addr}{h:Heap}{p:Addr×Obj}(hp:p∈ia fp h):p.1∈fp/\h.get? p.1=some p.2:=by
 obtain ⟨b,hb,e⟩:=Ig.mp hp
 cases q:h.get? b with
 | none=>rw[q] at e;cases e
 | some o =>
  rw[q] at e
  have e':(b,o)=p:=EA e
  subst e'
  exact ⟨hb,q⟩
theorem Inv.pinned {pins:List (Addr×Obj)}{σ:St}{H:Hp}{s:DP}{fp:List Addr}(I:Inv X pins σ H s)(hf:∀b∈fp,iH X pins H b)(ho:∀b∈fp,∃o,s.heap.get? b=some o/\∀v,o.data ≠ .cell v):Inv X (pins++ia fp s.heap) σ H s :=
 I.iD λp hp=>(D6.mp hp).elim (λz=>I.pin p (EC _ z)) λz=>by
  obtain ⟨hb,e⟩:=nY z
  obtain ⟨f0,f1,f2,_⟩:=hf p.1 hb
  obtain ⟨o,e',d⟩:=ho p.1 hb
  rw[e] at e';cases e'
  exact ⟨e,f0,f1,f2,d⟩
theorem Inv.eL {pins pl:List (Addr×Obj)}{σ:St}{H:Hp}{s:DP}(I:Inv X (pins++pl) σ H s):Inv X pins σ H s:=I.iD λp hp=>I.pin p (EC _ (FJ _ hp))
theorem cz {iter:Expr}{body:List Stmt}{wi:TI}{g:TG}{tb:TS}{pos:Pos}(hp:PassesOwn (Es X.prog X.w) X.A X.env X.xe)(hc:X.calm=true)(hi:PI X tg iter wi)(hg:PG X tg g)(hb:PSs X body tb)
  (hs:∀x,foldedSetIterable iter X.env x=pure x:=by intro _;rfl):PS X (.For tg iter body [] pos) (tFor wi g tb):=by
 intro pins s σ H D I h
 refine wpAny_For (thn (hi pins s σ H _ I h) λv s1 h1=>thn h1 λitv s2 h2 =>?_) hs
 obtain ⟨it,fp,tn,J,H2,e,I2,T,st2,f2,W,⟨m0,w0⟩,turn⟩:=h2
 subst e
 have stat:∀{H':Hp},(∀b∈fp,H' b=none)->∀b∈fp,iH X pins H' b:=λhn b hb=>⟨hn b hb,(f2 b hb).2⟩
 refine codeAny_forLoop_any (λn s'=>∃i σ' H',Inv X pins σ' H' s'/\tn i s'.heap/\(∀b∈fp,H' b=none)/\W i n σ' H') ?_ m0 ⟨0,σ,H2,I2,st2,λb hb=>(f2 b hb).1,w0⟩
 rintro n s3 ⟨i,σ3,H3,I3,st3,fr3,w3⟩
 rcases turn i n σ3 H3 w3 with ⟨stop,qn⟩ | ⟨go,N,hN,step⟩
 ·refine HM hp (thn (T.done X rfl rfl rfl hc i pins s3 σ3 H3 X.xe I3 (stat fr3) st3 stop) λr s4 ⟨hr,I4⟩ =>?_)
  subst hr
  exact Io ⟨σ3,H3,I4,qn⟩
 ·refine HM hp (thn (T.item X rfl rfl rfl hc i pins s3 σ3 H3 X.xe I3 (stat fr3) st3 go) λr s4 ⟨u,hr,h4⟩ =>?_)
  subst hr
  refine HM hp (thn h4 λ_ s5 ⟨x,H5,I5,r5,y5,st5,fr5⟩ =>?_)
  have I5':=I5.pinned (stat fr5) (T.obj _ _ st5)
  refine HM hp (thn (hg _ s5 σ3 H5 x u _ I5' r5 (step x H5 y5)) λ_ s6 ⟨σ6,H6,I6,q6⟩ =>?_)
  refine HM hp (thn (hb _ s6 σ6 H6 _ I6 q6) λf s7 q7 =>?_)
  have again:∀{σ7:St} {H7:Hp},Inv X (pins++ia fp s5.heap) σ7 H7 s7->N σ7 H7->∃m,m<n/\∃i σ' H',Inv X pins σ' H' s7/\tn i s7.heap/\(∀b∈fp,H' b=none)/\W i m σ' H':=λ{σ7 H7} I7 n7=>by
   obtain ⟨m',hm,w7⟩:=hN σ7 H7 n7
   refine ⟨m',hm,i+1,σ7,H7,I7.eL,T.keep _ _ _ st5 λb hb o e=>(I7.pin (b,o) (EC _ (EC _ (dG hb e)))).1,λb hb =>?_,w7⟩
   obtain ⟨o,e,d⟩:=T.obj _ _ st5 b hb
   exact (I7.pin (b,o) (EC _ (EC _ (dG hb e)))).2.1
  cases f with
  | next=>obtain ⟨σ7,H7,I7,n7⟩:=q7;exact again I7 n7
  | cont=>obtain ⟨σ7,H7,I7,n7⟩:=q7;exact again I7 n7
  | brk=>obtain ⟨σ7,H7,I7,q7⟩:=q7;exact ⟨σ7,H7,I7.eL,q7⟩
  | ret v=>obtain ⟨x7,σ7,H7,I7,r7,q7⟩:=q7;exact ⟨x7,σ7,H7,I7.eL,r7,q7⟩
end
theorem iI {K:DM}{a:Addr}{xs:List V}{g:TG}{tb:TS}{D:Ends}{σ:St}{H:Hp}(Pv:Nat->St->Hp->Prop)(h0:Pv 0 σ H)(hl:∀i σ H,i<=xs.length->Pv i σ H->SqL K H a xs)
  (hs:∀i x σ H,xs[i]? = some x->Pv i σ H->g x σ H λσ2 H2=>tb { D with nx:=Pv (i+1),ct:=Pv (i+1),bk:=D.nx } σ2 H2) (hd:∀σ H,Pv xs.length σ H->D.nx σ H) :
  ∃W:Nat->Nat->St->Hp->Prop,(∃m,W 0 m σ H)/\∀i m σ H,W i m σ H →
   ((Itl K a).stop i H/\D.nx σ H)\/((Itl K a).go i H/\∃N:St->Hp->Prop,(∀σ' H',N σ' H'->∃m',m'<m/\W (i+1) m' σ' H')/\∀x H',(Itl K a).yld i H x H'->g x σ H' λσ2 H2=>tb { D with nx:=N,ct:=N,bk:=D.nx } σ2 H2):=by
 refine ⟨λi m σ H=>m=xs.length-i/\i<=xs.length/\Pv i σ H,⟨xs.length,by simp,EB _,h0⟩,?_⟩
 rintro i m σ H ⟨rfl,hi,p⟩
 have q:=hl i σ H hi p
 by_cases hlt:i<xs.length
 ·refine .inr ⟨⟨xs,xs[i],q,by simp[hlt]⟩,Pv (i+1),λσ' H' p'=>⟨xs.length-(i+1),by lia,rfl,hlt,p'⟩,λx H' y =>?_⟩
  obtain ⟨e,y⟩:=y
  subst e
  exact hs i x σ _ (y xs q) p
 ·have e:i=xs.length:=by lia
  subst e
  exact .inl ⟨⟨xs,q,DS _⟩,hd σ H p⟩
theorem kI {K:DM}{a:Addr}{xs:List V}{g:TG}{tb:TS}{D:Ends}{σ:St}{H:Hp}(Pv:Nat->St->Hp->Prop)(h0:Pv 0 σ H)(hl:∀i σ H,i<=xs.length->Pv i σ H->SqT K H a xs)
  (hs:∀i x σ H,xs[i]? = some x->Pv i σ H->g x σ H λσ2 H2=>tb { D with nx:=Pv (i+1),ct:=Pv (i+1),bk:=D.nx } σ2 H2) (hd:∀σ H,Pv xs.length σ H->D.nx σ H) :
  ∃W:Nat->Nat->St->Hp->Prop,(∃m,W 0 m σ H)/\∀i m σ H,W i m σ H →
   ((Itt K a).stop i H/\D.nx σ H)\/((Itt K a).go i H/\∃N:St->Hp->Prop,(∀σ' H',N σ' H'->∃m',m'<m/\W (i+1) m' σ' H')/\∀x H',(Itt K a).yld i H x H'->g x σ H' λσ2 H2=>tb { D with nx:=N,ct:=N,bk:=D.nx } σ2 H2):=by
 refine ⟨λi m σ H=>m=xs.length-i/\i<=xs.length/\Pv i σ H,⟨xs.length,by simp,EB _,h0⟩,?_⟩
 rintro i m σ H ⟨rfl,hi,p⟩
 have q:=hl i σ H hi p
 by_cases hlt:i<xs.length
 ·refine .inr ⟨⟨xs,xs[i],q,by simp[hlt]⟩,Pv (i+1),λσ' H' p'=>⟨xs.length-(i+1),by lia,rfl,hlt,p'⟩,λx H' y =>?_⟩
  obtain ⟨e,y⟩:=y
  subst e
  exact hs i x σ _ (y xs q) p
 ·have e:i=xs.length:=by lia
  subst e
  exact .inl ⟨⟨xs,q,DS _⟩,hd σ H p⟩
theorem de {lo:Int}{n:Nat}{g:TG}{tb:TS}{D:Ends}{σ:St}{H:Hp}(Pv:Nat->St->Hp->Prop)(h0:Pv 0 σ H)
  (hs:∀i σ H,i<n->Pv i σ H->g (.int (lo+i)) σ H λσ2 H2=>tb { D with nx:=Pv (i+1),ct:=Pv (i+1),bk:=D.nx } σ2 H2) (hd:∀σ H,Pv n σ H->D.nx σ H) :
  ∃W:Nat->Nat->St->Hp->Prop,(∃m,W 0 m σ H)/\∀i m σ H,W i m σ H →
   ((Itr lo n).stop i H/\D.nx σ H)\/((Itr lo n).go i H/\∃N:St->Hp->Prop,(∀σ' H',N σ' H'->∃m',m'<m/\W (i+1) m' σ' H')/\∀x H',(Itr lo n).yld i H x H'->g x σ H' λσ2 H2=>tb { D with nx:=N,ct:=N,bk:=D.nx } σ2 H2):=by
 refine ⟨λi m σ H=>m=n-i/\i<=n/\Pv i σ H,⟨n,by simp,EB _,h0⟩,?_⟩
 rintro i m σ H ⟨rfl,hi,p⟩
 by_cases hlt:i<n
 ·refine .inr ⟨hlt,Pv (i+1),λσ' H' p'=>⟨n-(i+1),by lia,rfl,hlt,p'⟩,λx H' y =>?_⟩
  obtain ⟨e,y⟩:=y
  subst e y
  exact hs i σ _ hlt p
 ·have e:i=n:=by lia
  subst e
  exact .inl ⟨DS _,hd σ H p⟩
theorem k9 {c:TT}{tb:TS}{D:Ends}{σ:St}{H:Hp}(Pv:St->Hp->Prop)(μ:St->Hp->Nat)(h0:Pv σ H)
  (hs:∀σ H,Pv σ H->c σ H λb H1=>if b=true then tb { D with nx:=λσ' H'=>Pv σ' H' /\ μ σ' H'<μ σ H,ct:=λσ' H'=>Pv σ' H' /\ μ σ' H'<μ σ H,bk:=D.nx } σ H1 else D.nx σ H1)
  (mono:∀σ H Q Q',(∀b H1,Q b H1->Q' b H1)->c σ H Q->c σ H Q'):w9 c tb D σ H:=by
 refine ⟨λm σ H=>m=μ σ H/\Pv σ H,⟨_,rfl,h0⟩,?_⟩
 rintro m σ H ⟨rfl,p⟩
 refine mono σ H _ _ (λb H1 q =>?_) (hs σ H p)
 cases b with
 | true=>exact ⟨_,λσ' H' ⟨p',l⟩=>⟨_,l,rfl,p'⟩,q⟩
 | false=>exact q
abbrev R2:=V->V->Hp->VK->Prop
def OpR (X:Cx)(f:DK->DK->Sem DK)(r:R2):Prop :=
 ∀(pins:List (Addr×Obj)) (s:DP) (σ:St) (H:Hp) (x y:V) (v u:DK) (Q:VK),Inv X pins σ H s->RelV x v->RelV y u->r x y H Q →
  Ee (Es X.prog X.w) X.A (f v u) (EP X pins σ Q) X.xe s
def UnR (X:Cx)(f:DK->Sem DK)(r:V->Hp->VK->Prop):Prop :=
 ∀(pins:List (Addr×Obj)) (s:DP) (σ:St) (H:Hp) (x:V) (v:DK) (Q:VK),Inv X pins σ H s->RelV x v->r x H Q →
  Ee (Es X.prog X.w) X.A (f v) (EP X pins σ Q) X.xe s
def bH (X:Cx)(f:DK)(r:List V->Hp->VK->Prop):Prop :=
 ∀(pins:List (Addr×Obj)) (s:DP) (σ:St) (H:Hp) (xs:List V) (us:List DK) (Q:VK),Inv X pins σ H s->Vals xs us->r xs H Q →
  Ee (Es X.prog X.w) X.A (call f us) (EP X pins σ Q) X.xe s
def TruR (X:Cx)(r:V->Hp->(Bool->Hp->Prop)->Prop):Prop :=
 ∀(pins:List (Addr×Obj)) (s:DP) (σ:St) (H:Hp) (x:V) (v:DK) (Q:Bool->Hp->Prop),Inv X pins σ H s->RelV x v->r x H Q →
  Ee (Es X.prog X.w) X.A (truthy v) (TP X pins σ Q) X.xe s
def tOp (r:R2)(ta tb:TE):TE:=λσ H Q=>ta σ H λx H1=>tb σ H1 λy H2=>r x y H2 Q
def tUn (r:V->Hp->VK->Prop)(ta:TE):TE:=λσ H Q=>ta σ H λx H1=>r x H1 Q
def rI (C:Int->Int->Prop)(g:Int->Int->V):R2:=λx y H Q=>∃i j,x = .int i/\y = .int j/\C i j/\Q (g i j) H
def rI0 (g:Int->Int->V):R2:=λx y H Q=>∃i j,x = .int i/\y = .int j/\Q (g i j) H
def rU (g:Int->V):V->Hp->VK->Prop:=λx H Q=>∃i,x = .int i/\Q (g i) H
section
variable  {X:Cx}{a b c:Expr}{ta tb tc:TE}{pos:Pos}
theorem BG (ha:PE X a ta)(hb:PE X b tb){pins:List (Addr×Obj)}{s:DP}{σ:St}{H:Hp}{R:V->V->Hp->Prop}(I:Inv X pins σ H s)
  (h:ta σ H λx H1=>tb σ H1 λy H2=>R x y H2) {Q:DK->DP->Prop} {f:DK->DK->Sem DK}
  (hf:∀v u s2 x y H2,Inv X pins σ H2 s2->RelV x v->RelV y u->R x y H2->Ee (Es X.prog X.w) X.A (f v u) Q X.xe s2) :
  Ee (Es X.prog X.w) X.A (eval a X.env) (λv s₁=>Ee (Es X.prog X.w) X.A (eval b X.env) (λu s₂=>Ee (Es X.prog X.w) X.A (f v u) Q X.xe s₂) X.xe s₁) X.xe s:=by
 refine thn (ha pins s σ H _ I h) λv s1 ⟨x,H1,I1,r1,q1⟩ =>?_
 refine thn (hb pins s1 σ H1 _ I1 q1) λu s2 ⟨y,H2,I2,r2,q2⟩ =>?_
 exact hf v u s2 x y H2 I2 r1 r2 q2
theorem aO {op:Operator}{r:R2}(ho:OpR X (binaryOp op) r)(ha:PE X a ta)(hb:PE X b tb):PE X (.BinOp a op b pos) (tOp r ta tb):=by
 intro pins s σ H Q I h
 exact wpAny_BinOp (BG ha hb I h λv u s2 x y H2 I2 rx ry q=>ho pins s2 σ H2 x y v u Q I2 rx ry q)
theorem CP {op:UnaryOp}{r:V->Hp->VK->Prop}(ho:UnR X (unaryOp op) r)(ha:PE X a ta):PE X (.UnaryOp op a pos) (tUn r ta):=by
 intro pins s σ H Q I h
 exact UnaryOp_ (thn (ha pins s σ H _ I h) λv s1 ⟨x,H1,I1,r1,q1⟩=>ho pins s1 σ H1 x v Q I1 r1 q1)
theorem opI {f:DK->DK->Sem DK}{C:Int->Int->Prop}{g:Int->Int->Int}
  (rule:∀(i j:Int) (t u:Tok) (s:DP) (Q:DK->DP->Prop) (E:DK->DP->Prop),C i j->Q (.int (g i j) s.toks) { s with toks:=s.toks+1 }->Ee (Es X.prog X.w) X.A (f (.int i t) (.int j u)) Q E s) :
  OpR X f (rI C λi j =>.int (g i j)):=by
 intro pins s σ H x y v u Q I rx ry h
 obtain ⟨i,j,rfl,rfl,hc,q⟩:=h
 obtain ⟨t,rfl⟩:=rx
 obtain ⟨t',rfl⟩:=ry
 exact rule i j t t' s _ _ hc ⟨.int (g i j),H,I.tok _,⟨_,rfl⟩,q⟩
theorem CQ {f:DK->DK->Sem DK}{g:Int->Int->Int}
  (rule:∀(i j:Int) (t u:Tok) (s:DP) (Q:DK->DP->Prop) (E:DK->DP->Prop),Q (.int (g i j) s.toks) { s with toks:=s.toks+1 }->Ee (Es X.prog X.w) X.A (f (.int i t) (.int j u)) Q E s) :
  OpR X f (rI0 λi j =>.int (g i j)):=by
 intro pins s σ H x y v u Q I rx ry h
 obtain ⟨i,j,rfl,rfl,q⟩:=h
 obtain ⟨t,rfl⟩:=rx
 obtain ⟨t',rfl⟩:=ry
 exact rule i j t t' s _ _ ⟨.int (g i j),H,I.tok _,⟨_,rfl⟩,q⟩
theorem zj {f:DK->DK->Sem DK}{g:Int->Int->Bool}
  (rule:∀(i j:Int) (t u:Tok) (s:DP) (Q:DK->DP->Prop) (E:DK->DP->Prop),Q (.bool (g i j)) s->Ee (Es X.prog X.w) X.A (f (.int i t) (.int j u)) Q E s) :
  OpR X f (rI0 λi j =>.bl (g i j)):=by
 intro pins s σ H x y v u Q I rx ry h
 obtain ⟨i,j,rfl,rfl,q⟩:=h
 obtain ⟨t,rfl⟩:=rx
 obtain ⟨t',rfl⟩:=ry
 exact rule i j t t' s _ _ ⟨.bl (g i j),H,I,rfl,q⟩
def CDiv (i j:Int):Prop:=0<j/\j<1073741824
def CPow (i j:Int):Prop:=0<=j/\j<=1000000/\i.natAbs<2 ^ 64
def BH (i j:Int):Prop:=(-(2 ^ 64)<i/\i<2 ^ 64)\/(-(2 ^ 64)<j/\j<2 ^ 64)
theorem BH.ok {i j:Int}(h:BH i j):IntMulOk i j:=by
 rcases h with ⟨h1,h2⟩ | ⟨h1,h2⟩
 ·exact .of_left (intBits_le_64 h1 h2)
 ·exact .of_right (intBits_le_64 h1 h2)
theorem dA:OpR X (binaryOp .Add) (rI0 λi j =>.int (i+j)):=CQ λ_ _ _ _ _ _ _ q=>add_int q
theorem ly:OpR X (binaryOp .Sub) (rI0 λi j =>.int (i-j)):=CQ λ_ _ _ _ _ _ _ q=>sub_int q
theorem o8:OpR X (binaryOp .Mult) (rI BH λi j =>.int (i*j)):=opI λ_ _ _ _ _ _ _ hc q=>mul_int q hc.ok
theorem tJ:OpR X (binaryOp .FloorDiv) (rI CDiv λi j =>.int (i/j)):=opI λi j _ _ _ _ _ hc q=>by
 have h1:(0:Int)<j:=hc.1
 have h2:j<1073741824:=hc.2
 exact floordiv_int (by lia) (by rw[JJ i (by lia)];exact q) (.inl (PyProof.noPylong_small (by lia)))
theorem fS:OpR X (binaryOp .Mod) (rI (λ_ j=>0<j) λi j =>.int (i%j)):=opI λi j _ _ _ _ _ hc q=>by
 have h1:(0:Int)<j:=hc
 exact mod_int' (by lia) (by rw[Int.fmod_eq_emod_of_nonneg i (by lia)];exact q)
theorem js:OpR X (binaryOp .Pow) (rI CPow λi j =>.int (i ^ j.toNat)):=opI λ_ _ _ _ _ _ _ hc q=>pow_int_small hc.1 hc.2.1 hc.2.2 q
theorem unI {f:DK->Sem DK}{g:Int->Int}
  (rule:∀(i:Int) (t:Tok) (s:DP) (Q:DK->DP->Prop) (E:DK->DP->Prop),Q (.int (g i) s.toks) { s with toks:=s.toks+1 }->Ee (Es X.prog X.w) X.A (f (.int i t)) Q E s) :
  UnR X f (rU λi =>.int (g i)):=by
 intro pins s σ H x v Q I rx h
 obtain ⟨i,rfl,q⟩:=h
 obtain ⟨t,rfl⟩:=rx
 exact rule i t s _ _ ⟨.int (g i),H,I.tok _,⟨_,rfl⟩,q⟩
theorem BI:UnR X (unaryOp .USub) (rU λi =>.int (-i)):=unI λ_ _ _ _ _ q=>neg_int q
end
def CS:V->V->Bool
 | .non,.non=>true | .non,.int _=>true | .int _,.non=>true | .non,.bl _=>true | .bl _,.non=>true | .non,.str _=>true | .str _,.non=>true
 | .int _,.int _=>true | .bl _,.bl _=>true | .str _,.str _=>true | .byt _,.byt _=>true
 | .int _,.str _=>true | .str _,.int _=>true | .bl _,.str _=>true | .str _,.bl _=>true
 | _,_=>false
def rEq:R2:=λx y H Q=>CS x y=true/\Q (.bl (decide (x=y))) H
def rNe:R2:=λx y H Q=>CS x y=true/\Q (.bl (!decide (x=y))) H
theorem tK {i j:Int}:decide (V.int i=V.int j)=(i == j):=by
 rw[Gb]
 simp
theorem xg {i j:Bool}:decide (V.bl i=V.bl j)=(i == j):=by
 rw[Gb]
 simp
theorem tL {i j:Str}:decide (V.str i=V.str j)=(i == j):=by
 rw[Gb]
 simp
theorem tM {i j:Array UInt8}:decide (V.byt i=V.byt j)=(i.toList == j.toList):=by
 rw[Gb]
 cases i
 cases j
 simp
section
variable  {X:Cx}{a b c:Expr}{ta tb tc:TE}{pos:Pos}
theorem aU {pins:List (Addr×Obj)}{σ:St}{H:Hp}{s:DP}{Q:VK}{k k':Bool}(I:Inv X pins σ H s)(q:Q (.bl k) H)(e:k=k'):EP X pins σ Q (.bool k') s:=by
 subst e
 exact ⟨.bl k,H,I,rfl,q⟩
theorem cK:OpR X (Fl .Eq) rEq:=by
 intro pins s σ H x y v u Q I rx ry h
 obtain ⟨hs,q⟩:=h
 cases x with
 | non =>
  cases rx
  cases y with
  | non=>cases ry;exact PySem.EqNone.eq_none_none (aU I q (by simp))
  | bl j=>cases ry;exact PySem.EqNone.eq_none_bool (aU I q (by simp))
  | int j=>obtain ⟨t',rfl⟩:=ry;exact PySem.EqNone.eq_none_int (aU I q (by simp))
  | str j=>obtain ⟨t',rfl⟩:=ry;exact PySem.EqNone.eq_none_str (aU I q (by simp))
  | _=>exact absurd (show false=true from hs) Eh
 | bl i =>
  cases rx
  cases y with
  | non=>cases ry;exact PySem.EqNone.eq_bool_none (aU I q (by simp))
  | bl j=>cases ry;exact eq_bool (aU I q xg)
  | str j=>obtain ⟨t',rfl⟩:=ry;exact M5 (aU I q (by simp))
  | _=>exact absurd (show false=true from hs) Eh
 | int i =>
  obtain ⟨t,rfl⟩:=rx
  cases y with
  | non=>cases ry;exact PySem.EqNone.eq_int_none (aU I q (by simp))
  | int j=>obtain ⟨t',rfl⟩:=ry;exact eq_int (aU I q tK)
  | str j=>obtain ⟨t',rfl⟩:=ry;exact Nf (aU I q (by simp))
  | _=>exact absurd (show false=true from hs) Eh
 | str i =>
  obtain ⟨t,rfl⟩:=rx
  cases y with
  | non=>cases ry;exact PySem.EqNone.eq_str_none (aU I q (by simp))
  | bl j=>cases ry;exact M6 (aU I q (by simp))
  | int j=>obtain ⟨t',rfl⟩:=ry;exact Ng (aU I q (by simp))
  | str j=>obtain ⟨t',rfl⟩:=ry;exact eq_str (aU I q tL)
  | _=>exact absurd (show false=true from hs) Eh
 | byt i =>
  obtain ⟨t,rfl⟩:=rx
  cases y with
  | byt j=>obtain ⟨t',rfl⟩:=ry;exact PySem.W.eq_bytes (aU I q tM)
  | _=>exact absurd (show false=true from hs) Eh
 | _=>cases y <;> exact absurd (show false=true from hs) Eh
theorem nZ:OpR X (Fl .NotEq) rNe:=by
 intro pins s σ H x y v u Q I rx ry h
 obtain ⟨hs,q⟩:=h
 cases x with
 | non =>
  cases rx
  cases y with
  | non=>cases ry;exact PySem.EqNone.ne_none_none (aU I q (by simp))
  | bl j=>cases ry;exact PySem.EqNone.ne_none_bool (aU I q (by simp))
  | int j=>obtain ⟨t',rfl⟩:=ry;exact PySem.EqNone.ne_none_int (aU I q (by simp))
  | str j=>obtain ⟨t',rfl⟩:=ry;exact PySem.EqNone.ne_none_str (aU I q (by simp))
  | _=>exact absurd (show false=true from hs) Eh
 | bl i =>
  cases rx
  cases y with
  | non=>cases ry;exact PySem.EqNone.ne_bool_none (aU I q (by simp))
  | bl j=>cases ry;exact ne_bool (aU I q (congrArg not xg))
  | str j=>obtain ⟨t',rfl⟩:=ry;exact M7 (aU I q (by simp))
  | _=>exact absurd (show false=true from hs) Eh
 | int i =>
  obtain ⟨t,rfl⟩:=rx
  cases y with
  | non=>cases ry;exact PySem.EqNone.ne_int_none (aU I q (by simp))
  | int j=>obtain ⟨t',rfl⟩:=ry;exact ne_int (aU I q (congrArg not tK))
  | str j=>obtain ⟨t',rfl⟩:=ry;exact Nh (aU I q (by simp))
  | _=>exact absurd (show false=true from hs) Eh
 | str i =>
  obtain ⟨t,rfl⟩:=rx
  cases y with
  | non=>cases ry;exact PySem.EqNone.ne_str_none (aU I q (by simp))
  | bl j=>cases ry;exact M8 (aU I q (by simp))
  | int j=>obtain ⟨t',rfl⟩:=ry;exact Ni (aU I q (by simp))
  | str j=>obtain ⟨t',rfl⟩:=ry;exact ne_str (aU I q (congrArg not tL))
  | _=>exact absurd (show false=true from hs) Eh
 | byt i =>
  obtain ⟨t,rfl⟩:=rx
  cases y with
  | byt j=>obtain ⟨t',rfl⟩:=ry;exact PySem.W.ne_bytes (aU I q (congrArg not tM))
  | _=>exact absurd (show false=true from hs) Eh
 | _=>cases y <;> exact absurd (show false=true from hs) Eh
theorem tP:OpR X (Fl .Lt) (rI0 λi j =>.bl (decide (i<j))):=zj λ_ _ _ _ _ _ _ q=>lt_int q
theorem CT:OpR X (Fl .LtE) (rI0 λi j =>.bl (decide (i<=j))):=zj λ_ _ _ _ _ _ _ q=>le_int q
theorem xh:OpR X (Fl .Gt) (rI0 λi j =>.bl (decide (j<i))):=zj λ_ _ _ _ _ _ _ q=>gt_int q
theorem CU:OpR X (Fl .GtE) (rI0 λi j =>.bl (decide (j<=i))):=zj λ_ _ _ _ _ _ _ q=>ge_int q
theorem BJ:OpR X (Fl .Is) (λx y H Q=>y = .non/\Q (.bl (decide (x = .non))) H):=by
 intro pins s σ H x y v u Q I rx ry h
 obtain ⟨rfl,q⟩:=h
 cases ry
 refine is_none_gen (aU I q ?_)
 cases x <;> first
  | (cases rx;rfl)
  | (obtain ⟨t,rfl⟩:=rx;rfl)
theorem tQ:OpR X (Fl .IsNot) (λx y H Q=>y = .non/\Q (.bl (!decide (x = .non))) H):=by
 intro pins s σ H x y v u Q I rx ry h
 obtain ⟨rfl,q⟩:=h
 cases ry
 refine isnot_none_gen (aU I q ?_)
 cases x <;> first
  | (cases rx;rfl)
  | (obtain ⟨t,rfl⟩:=rx;rfl)
theorem aE (b:Expr){op:CmpOp}(h:op ≠ .In:=by decide)(h2:op ≠ .NotIn:=by decide):behindInMarks op b=false:=by
 have e1:(op == CmpOp.In)=false:=by cases op <;> first | rfl | exact absurd rfl h
 have e2:(op == CmpOp.NotIn)=false:=by cases op <;> first | rfl | exact absurd rfl h2
 cases b <;> simp[behindInMarks,e1,e2]
theorem cQ {op:CmpOp}{r:R2}(ho:OpR X (Fl op) r)(ha:PE X a ta)(hb:PE X b tb)(hm:behindInMarks op b=false):PE X (.Compare a [op] [b] pos) (tOp r ta tb):=by
 intro pins s σ H Q I h
 exact wpAny_Compare1 (BG ha hb I h λv u s2 x y H2 I2 rx ry q=>ho pins s2 σ H2 x y v u Q I2 rx ry q) hm
def CV (t:TE):TT:=λσ H Q=>t σ H λx H'=>∃k,x = .bl k/\Q k H'
theorem ax {op:CmpOp}{r:R2}(ho:OpR X (Fl op) r)(ha:PE X a ta)(hb:PE X b tb)(hm:behindInMarks op b=false):PT X (.Compare a [op] [b] pos) (CV (tOp r ta tb)):=by
 intro pins s σ H Q I h
 refine K9 (thn (ha pins s σ H _ I h) λv s1 ⟨x,H1,I1,r1,q1⟩=>thn (hb pins s1 σ H1 _ I1 q1) λu s2 ⟨y,H2,I2,r2,q2⟩ =>
  thn (ho pins s2 σ H2 x y v u _ I2 r1 r2 q2) λc s3 ⟨z,H3,I3,r3,k,e,q3⟩ =>?_) hm
 subst e
 cases r3
 exact Gm ⟨H3,I3,q3⟩
def CW (K:DM)(x:V)(H:Hp)(k:Bool):Prop :=
 match x with
 | .non=>k=false
 | .bl b=>k=b
 | .int i=>k=(i != 0)
 | .str y=>y.length<=D3/\k=((y.length:Int) != 0)
 | .byt y=>y.size<=D3/\k=((y.size:Int) != 0)
 | .ref p=>(∃xs,SqL K H p xs/\k = !xs.isEmpty)\/(∃xs,SqT K H p xs/\k = !xs.isEmpty)\/∃kvs,H p=some (.dK kvs)/\k = !kvs.isEmpty
 | _=>False
theorem rH {κ:Type}{kvs:List (κ×V)}{vs:List (κ×DK)}(r:KV kvs vs):(!vs.isEmpty) = !kvs.isEmpty:=by
 cases r <;> rfl
theorem lA {xs:List V}{its:List DK}(r:Vals xs its):(!its.toArray.isEmpty) = !xs.isEmpty:=by
 cases r <;> simp
theorem ib:(D3:Nat)<2 ^ 63:=by rw[G4];decide
theorem BK:TruR X (λx H Q=>∃k,CW X.K x H k/\Q k H):=by
 intro pins s σ H x v Q I rx h
 obtain ⟨k,e,q⟩:=h
 have hl:=ib
 have hs:D3=16777216:=G4
 cases x with
 | non =>
  cases rx
  have e':k=false:=e
  subst e'
  exact truthy_none ⟨H,I,q⟩
 | bl b =>
  cases rx
  have e':k=b:=e
  subst e'
  exact Gm ⟨H,I,q⟩
 | int i =>
  obtain ⟨t,rfl⟩:=rx
  have e':k=(i != 0):=e
  subst e'
  exact PySem.P.truthy_int ⟨H,I,q⟩
 | str y =>
  obtain ⟨t,rfl⟩:=rx
  obtain ⟨hy,e'⟩:y.length<=D3/\k=((y.length:Int) != 0):=e
  subst e'
  exact PySem.P.truthy_str (by lia) ⟨H,I.tok _,q⟩
 | byt y =>
  obtain ⟨t,rfl⟩:=rx
  obtain ⟨hy,e'⟩:y.size<=D3/\k=((y.size:Int) != 0):=e
  subst e'
  exact PySem.W.truthy_bytes (by lia) ⟨H,I.tok _,q⟩
 | ref p =>
  cases rx
  have e':(∃xs,SqL X.K H p xs/\k = !xs.isEmpty)\/(∃xs,SqT X.K H p xs/\k = !xs.isEmpty)\/∃kvs,H p=some (.dK kvs)/\k = !kvs.isEmpty:=e
  rcases e' with ⟨xs,hx,e'⟩ | ⟨xs,hx,e'⟩ | ⟨kvs,hx,e'⟩
  ·subst e'
   obtain ⟨its,r,pl,hz⟩:=I.list hx
   have hlen:=r.length
   exact wpAny_truthy_list pl.isList (by simp only[DR];lia) ⟨H,I.tok _,by rw[lA r];exact q⟩
  ·subst e'
   obtain ⟨its,r,pl,hz⟩:=I.tuple hx
   have hlen:=r.length
   exact truthy_tuple pl (by simp only[DR];lia) ⟨H,I.tok _,by rw[lA r];exact q⟩
  ·subst e'
   obtain ⟨hz,hS,vs,r,m⟩:kvs.length<=D3/\(p == sysModules)=false/\∃vs,KV kvs vs/\s.heap.DictOf (bQ X.prog X.w) p vs:=I.hok p _ hx
   have hlen:kvs.length=vs.length:=HU r
   exact wpAny_truthy_dict hS m (by lia) ⟨H,I.tok _,by rw[rH r];exact q⟩
 | _=>exact (show False from e).elim
theorem qm (ha:PE X a ta)(he:∀whole,isTrue a X.env whole=(do let v ← whole;standAt a.pos;Jr [v] (truthy v))) :
    PT X a (λσ H Q=>ta σ H λx H'=>∃k,CW X.K x H' k/\Q k H'):=by
  intro pins s σ H Q I h
  exact isTrue_plain (thn (ha pins s σ H _ I h) λv s1 ⟨x,H1,I1,r1,q1⟩=>BK pins s1 σ H1 x v Q I1 r1 q1) (he _)
theorem vals1 {x:V}{us:List DK}(r:Vals [x] us):∃u,us=[u]/\RelV x u:=by
 cases r with
 | cons r1 r2=>cases r2;exact ⟨_,rfl,r1⟩
theorem vals2 {x y:V}{us:List DK}(r:Vals [x,y] us):∃u w',us=[u,w']/\RelV x u/\RelV y w':=by
 cases r with
 | cons r1 r2 =>
  cases r2 with
  | cons r3 r4=>cases r4;exact ⟨_,_,rfl,r1,r3⟩
theorem n5 (hc:X.calm=true):bH X (.builtin "max") (λxs H Q=>∃i j,xs=[.int i,.int j]/\Q (.int (if j>i then j else i)) H):=by
 intro pins s σ H xs us Q I r h
 obtain ⟨i,j,rfl,q⟩:=h
 obtain ⟨u,w',rfl,⟨t,rfl⟩,⟨t',rfl⟩⟩:=vals2 r
 refine max_two_ints (I.ok.hd hc) λh' tk k=>⟨_,H,I.kept k,?_,q⟩
 by_cases hj:j>i
 ·rw[if_pos hj,if_pos hj];exact ⟨_,rfl⟩
 ·rw[if_neg hj,if_neg hj];exact ⟨_,rfl⟩
theorem vh (hc:X.calm=true):bH X (.builtin "min") (λxs H Q=>∃i j,xs=[.int i,.int j]/\Q (.int (if j<i then j else i)) H):=by
 intro pins s σ H xs us Q I r h
 obtain ⟨i,j,rfl,q⟩:=h
 obtain ⟨u,w',rfl,⟨t,rfl⟩,⟨t',rfl⟩⟩:=vals2 r
 refine min_two_ints (I.ok.hd hc) λh' tk k=>⟨_,H,I.kept k,?_,q⟩
 by_cases hj:j<i
 ·rw[if_pos hj,if_pos hj];exact ⟨_,rfl⟩
 ·rw[if_neg hj,if_neg hj];exact ⟨_,rfl⟩
theorem vi:bH X (.type "int") (λxs H Q=>(∃i,xs=[.int i]/\Q (.int i) H)\/∃k,xs=[.bl k]/\Q (.int (if k then 1 else 0)) H):=by
 intro pins s σ H xs us Q I r h
 rcases h with ⟨i,rfl,q⟩ | ⟨k,rfl,q⟩
 ·obtain ⟨u,rfl,t,rfl⟩:=vals1 r
  exact call_int_int ⟨.int i,H,I,⟨_,rfl⟩,q⟩
 ·obtain ⟨u,rfl,r1⟩:=vals1 r
  cases r1
  exact call_int_bool ⟨.int (if k then 1 else 0),H,I.tok _,⟨_,rfl⟩,q⟩
end
structure BL (h:Heap)(x dx C:Addr)(mA:Str->Option DK):Prop where
 obj:h.get? x=some (PySem.W.instObj C dx)
 ns:h.Ns1 dx mA
 ne:dx≠x
theorem vj {h:Heap}{dx:Addr}{mA:Str->Option DK}(n:h.Ns1 dx mA):∃od,h.get? dx=some od/\∀name,PySem.W.lookIn name od=some (mA name):=by
 obtain ⟨o,es,ep,ho,hd,hk,_,hm⟩:=n
 refine ⟨o,ho,λname =>?_⟩
 have e:=hm name
 unfold nsFind findBy at e
 rw[<- Array.find?_toList] at e
 unfold PySem.W.lookIn
 rw[hd]
 dsimp only
 split
 ·rename_i y q
  rw[q] at e
  exact congrArg some e
 ·rename_i q
  rw[q] at e
  have a:es.toList.any (·.refKey)=false:=by
   rw[List.any_eq_false]
   intro y hy
   obtain ⟨z,t,hkey⟩:=hk y (EJ.mp hy)
   simp[DictEntry.refKey,hkey]
  have a':¬ es.toList.any (·.refKey)=true:=by rw[a];exact Eh
  rw[if_neg a']
  exact congrArg some e
theorem BL.look {h:Heap}{x dx C:Addr}{mA:Str->Option DK}(I:BL h x dx C mA):∃od,PySem.W.InstAt h x (PySem.W.instObj C dx) C (some od)/\∀name,PySem.W.lookIn name od=some (mA name) :=
 let ⟨od,ho,hl⟩:=vj I.ns
 ⟨od,⟨I.obj,rfl,rfl,ho⟩,hl⟩
section
variable  {prog:D9}{w:EE}{A:EV}{E:DK->DP->Prop}{s:DP}{K:DM}{x dx C f:Addr}{mA:Str->Option DK}{name:Str}{v:DK}
end
theorem kT.some_of {v:V}{o:Option DK}(r:kT (some v) o):∃u,o=some u/\RelV v u:=by
 cases o with
 | none=>exact (show False from r).elim
 | some u=>exact ⟨u,rfl,r⟩
section
variable  {P:D9}{w:EE}{H H':Hp}{h h':Heap}{a C dx:Addr}{fs fs':List (Str×V)}
theorem zk (hok:HOk P w H h)(e:H a=some (.ins C dx fs)):∃mA,BL h a dx C mA/\(∀f,kT (fs.lookup f) (mA f))/\PySem.Within mA (fs.map (·.1))/\fs.length<=1000/\H dx=some (.own a):=by
 obtain ⟨d,z,ne,ob,mA,n,r,q⟩:=(show bp P w H h a (.ins C dx fs) from hok a _ e)
 exact ⟨mA,⟨ob,n,ne⟩,r,q,z,d⟩
end
structure Cls (K:DM)(C:Addr):Prop where
 pg:PySem.W.plainGet K C Str.empty=true
 hd:PySem.W.hasDictIn K C=true
 po:PySem.W.plainOver K C=true
 sa:PySem.W.findIn K (.ref C) "__setattr__" = some (some (.builtin "object.__setattr__"))
theorem Cls.get {K:DM}{C:Addr}(c:Cls K C)(f:Str):PySem.W.plainGet K C f=true:=c.pg
section
variable  {X:Cx}{pins:List (Addr×Obj)}{σ:St}{H:Hp}{s:DP}{a C dx:Addr}{fs:List (Str×V)}{f:Str}{v:V}{A:EV}{E:DK->DP->Prop}
end
section
variable  {X:Cx}{o e value:Expr}{f:Str}{pos pos' tpos:Pos}{ta tv:TE}
end
section
variable  {X:Cx}{pins:List (Addr×Obj)}{σ:St}{H:Hp}{s:DP}{A:EV}{E:DK->DP->Prop}{Q:DK->DP->Prop}{c:DK}{b:Bool}
inductive iJ (K:DM)(H:Hp):V->DK->Prop where
 | non:iJ K H .non (.type "NoneType")
 | bl (x:Bool):iJ K H (.bl x) (.type "bool")
 | int (i:Int):iJ K H (.int i) (.type "int")
 | str (x:Str):iJ K H (.str x) (.type "str")
 | flt (x:UInt64):iJ K H (.flt x) (.type "float")
 | lst {a:Addr} {xs:List V} (e:H a=some (.lst xs)):iJ K H (.ref a) (.type "list")
 | frz {a:Addr} {o:Obj} {xs:List V} (e:H a=some (.frz o (.lst xs))):iJ K H (.ref a) (.type "list")
 | tup {a:Addr} {xs:List V} (e:H a=some (.tup xs)):iJ K H (.ref a) (.type "tuple")
 | dK {a:Addr} {kvs:List (Key×V)} (e:H a=some (.dK kvs)):iJ K H (.ref a) (.type "dict")
 | dT {a:Addr} {kvs:List (List Key×V)} (e:H a=some (.dT kvs)):iJ K H (.ref a) (.type "dict")
 | ins {a C dx:Addr} {fs:List (Str×V)} (e:H a=some (.ins C dx fs)) (cl:Cls K C) (ha:PySem.W.findIn K (.ref C) "__class__" = some (some (.builtin "object.__class__")))
   (hn:PySem.W.specialIn K (.builtin "object.__class__") "__get__" = some (some (.builtin "getset_descriptor.__get__"))) (htk:PySem.W.takesIn K (.builtin "object.__class__")=some true)
   (hm:PySem.W.mroIn K C (.type "object")=some true):iJ K H (.ref a) (.ref C)
theorem vk {x:V}{u t:DK}(I:Inv X pins σ H s)(rx:RelV x u)(ty:iJ X.K H x t)(e:PySem.W.kitOne X.K t c=some b)(h:∀tk,Q (.bool b) { s with toks:=tk }) :
  Ee (Es X.prog X.w) A (call (.builtin "isinstance") [u,c]) Q E s:=by
 cases ty with
 | non=>cases (show u=F7 from rx);exact Gd PySem.W.kitx_none I.kIn True.intro e (λz=>nomatch z) h
 | bl y=>cases (show u=Value.bool y from rx);exact Gd PySem.W.kitx_bool I.kIn True.intro e (λz=>nomatch z) h
 | int i=>obtain ⟨t,q⟩:=(show ∃t,u=FT i t from rx);cases q;exact Gd PySem.W.kitx_int I.kIn True.intro e (λz=>nomatch z) h
 | str y=>obtain ⟨t,q⟩:=(show ∃t,u=Value.str y t from rx);cases q;exact Gd PySem.W.kitx_str I.kIn True.intro e (λz=>nomatch z) h
 | flt y=>obtain ⟨t,q⟩:=(show ∃t,u=Value.float y t from rx);cases q;exact Gd PySem.W.kitx_float I.kIn True.intro e (λz=>nomatch z) h
 | @lst a xs ea =>
  cases (show u=D8 a from rx)
  obtain ⟨_,_,n,_,h1⟩:=(show bp X.prog X.w H s.heap a (.lst xs) from I.hok a _ ea)
  exact Gd L7 I.kIn ⟨_,h1,rfl⟩ e (λz=>nomatch z) h
 | @frz a ob xs ea =>
  cases (show u=D8 a from rx)
  obtain ⟨_,_,_,n,_,h1⟩:=(show bp X.prog X.w H s.heap a (.frz ob (.lst xs)) from I.hok a _ ea)
  exact Gd L7 I.kIn ⟨_,h1,rfl⟩ e (λz=>nomatch z) h
 | @tup a xs ea =>
  cases (show u=D8 a from rx)
  obtain ⟨_,_,_,p⟩:=(show bp X.prog X.w H s.heap a (.tup xs) from I.hok a _ ea)
  obtain ⟨o,h1,h2,_⟩:=p
  exact Gd PySem.W.kitx_tuple I.kIn ⟨o,h1,h2.1⟩ e (λz=>nomatch z) h
 | @dK a kvs ea =>
  cases (show u=D8 a from rx)
  obtain ⟨_,_,vs,_,p⟩:=(show bp X.prog X.w H s.heap a (.dK kvs) from I.hok a _ ea)
  obtain ⟨o,es,ep,h1,h2,_⟩:=p
  exact Gd L8 I.kIn ⟨o,h1,h2.1⟩ e (λz=>nomatch z) h
 | @dT a kvs ea =>
  cases (show u=D8 a from rx)
  obtain ⟨_,_,xs,_,o,es,ep,h1,h2,_⟩:=(show bp X.prog X.w H s.heap a (.dT kvs) from I.hok a _ ea)
  exact Gd L8 I.kIn ⟨o,h1,h2.1⟩ e (λz=>nomatch z) h
 | @ins a C dx fs ea cl ha hn htk hm =>
  cases (show u=D8 a from rx)
  obtain ⟨mA,O,_⟩:=zk I.hok ea
  obtain ⟨od,J,_⟩:=O.look
  exact Gd (PySem.W.kitx_own (cl.get _) cl.hd ha hn htk hm) I.kIn J e (λz=>nomatch z) h
end
structure cB (k:Nat)(A:EV):Prop where
 hd:A.handled=none
 dp:A.depth+3*k+5<recursionLimit
 un:A.units+16*k+200<cLine
theorem cB.mono {j k:Nat}{A:EV}(r:cB k A)(h:j<=k):cB j A:=⟨r.hd,by have:=r.dp;lia,by have:=r.un;lia⟩
theorem cB.deeper {k:Nat}{A:EV}(r:cB (k+1) A)(env:Env):cB k (A.deeper env) :=
 ⟨r.hd,by have:=r.dp;show A.depth+1+3*k+5<_;lia,by have:=r.un;show A.units+3+16*k+200<_;lia⟩
theorem cB.depth {k:Nat}{A:EV}(r:cB k A):A.depth<recursionLimit:=by have:=r.dp;lia
theorem cB.units {k:Nat}{A:EV}(r:cB k A):A.units+64<cLine:=by have:=r.un;lia
def tNil:TA:=λ_ H Q=>Q [] H
def CZ (ta:TE)(tr:TA):TA:=λσ H Q=>ta σ H λx H1=>tr σ H1 λxs H2=>Q (x :: xs) H2
section
variable  {X:Cx}{e:Expr}{es:List Expr}{te:TE}{t:TA}{pos:Pos}
theorem ae:PA X [] tNil:=λ_ _ _ _ H Q I h=>L9 ⟨[],H,I,.nil,h⟩
theorem aa (ha:PE X e te)(hr:PA X es t)(hs:EL (e :: es) X.env=(false,eval e X.env) :: EL es X.env:=by rfl):PA X (e :: es) (CZ te t):=by
 intro pos pins s σ H Q I h
 rw[hs]
 show Ee _ _ (spliced ((false,eval e X.env) :: Ib pos (EL es X.env))) _ _ s
 refine LL (thn (ha pins s σ H _ I h) λu s1 ⟨x,H1,I1,r1,q1⟩ =>?_)
 exact thn (hr pos pins s1 σ H1 _ I1 q1) λus s2 ⟨xs,H2,I2,r2,q2⟩=>⟨x :: xs,H2,I2,.cons r1 r2,q2⟩
def tTup (t:TA):TE:=λσ H Q=>t σ H λxs H1=>xs.length<=D3/\∀p,H1 p=none->Q (.ref p) (upd H1 p (.tup xs))
def tLst (t:TA):TE:=λσ H Q=>t σ H λxs H1=>xs.length<=D3/\∀p,H1 p=none->Q (.ref p) (upd H1 p (.lst xs))
theorem ba {x1}(h:PA X es t):PE X (.Tuple es x1 pos) (tTup t):=by
 intro pins s σ H Q I hq
 refine wpAny_Tuple_spliced (thn (h pos pins s σ H _ I hq) λus s1 ⟨xs,H1,I1,r,z,q⟩=>⟨by rw[<- r.length];exact z,?_⟩)
 have hf:H1 s1.heap.objs.size=none:=I1.hok.fresh (DS _)
 refine ⟨.ref s1.heap.objs.size,upd H1 s1.heap.objs.size (.tup xs),I1.laid (t':=s1.toks) (λb u e=>DJ _ e) (DS _) ?_,rfl,q _ hf⟩
 exact ⟨z,us,r,⟨_,D2 _ rfl,⟨rfl,rfl⟩,_,rfl⟩⟩
theorem bI (h:PA X es t):PE X (.List es pos) (tLst t):=by
 intro pins s σ H Q I hq
 refine wpAny_List_spliced (thn (h pos pins s σ H _ I hq) λus s1 ⟨xs,H1,I1,r,z,q⟩=>⟨by rw[<- r.length];exact z,?_⟩)
 have hf:H1 s1.heap.objs.size=none:=I1.hok.fresh (DS _)
 refine ⟨.ref s1.heap.objs.size,upd H1 s1.heap.objs.size (.lst xs),I1.laid (t':=s1.toks) (λb u e=>DJ _ e) (DS _) ?_,rfl,q _ hf⟩
 exact ⟨z,us,0,r,D2 _ rfl⟩
end
abbrev Sp:=List V->Hp->VK->XK->Prop
abbrev CXT:=List Env->Hp->DP->XK->DK->DP->Prop
structure zo (P:D9)(w:EE)(K:DM)(mg:Str->Option DK)(base:Heap)(A:EV)(outer:List Env)(s:DP)(H:Hp):Prop where
 frames:A.frames=some outer
 mod:Mod K mg base
 bs:∀b o,base.get? b=some o->s.heap.get? b=some o/\H b=none
 bsz:base.objs.size<=s.heap.objs.size
 funs:s.heap.FunFrames base outer
 frf:∀b∈frs outer,H b=none
 hok:HOk P w H s.heap
 bare:AllBare s.gens
def CE (outer:List Env)(P:D9)(w:EE)(H:Hp)(s:DP)(Q:VK)(u:DK)(s':DP):Prop :=
 ∃v H',s'.os=s.os/\AllBare s'.gens/\Un (frs outer) [] H H' s.heap s'.heap/\HOk P w H' s'.heap/\RelV v u/\Q v H'
def CR (CX:CXT)(outer:List Env)(P:D9)(w:EE)(H:Hp)(s:DP)(Q:VK)(E:XK)(r:Result)(s':DP):Prop :=
 match r with
 | .ok (.ret u)=>CE outer P w H s Q u s'
 | .ok _=>False
 | .error e=>CX outer H s E e s'
structure bG (P:D9)(w:EE)(K:DM)(mg:Str->Option DK)(base:Heap)(CX:CXT)(k:Nat)(f:Addr)(fd:E4)(ps:List Str)(sp:Sp):Prop where
 len:∀vs H Q E,sp vs H Q E->vs.length=ps.length
 run:∀(A:EV) (outer:List Env) (s:DP) (H:Hp) (args:Args) (us:List DK) (vs:List V) (Q:VK) (E:XK),cB k A->zo P w K mg base A outer s H->BindsTo s fd args (ps.zip us)->Vals vs us->sp vs H Q E →
  IL (Es P w) A (.call (.ref f) args) (CR CX outer P w H s Q E) s
section
variable  {X:Cx}{pins:List (Addr×Obj)}{σ:St}{H:Hp}{s s':DP}
theorem Inv.C0 (I:Inv X pins σ H s):zo X.prog X.w X.K X.mg X.base X.A X.stack s H :=
 ⟨I.ok.frames,I.ok.mod,I.bs,EI I.ok.bsz I.sz,I.stack,I.oZ,I.hok,I.bare⟩
theorem Inv.after {Q:VK}{u:DK}(I:Inv X pins σ H s)(h:CE X.stack X.prog X.w H s Q u s'):EP X pins σ Q u s':=by
 obtain ⟨v,H',os,bare,un,hok,r,q⟩:=h
 obtain ⟨hh,g,d,t,os'⟩:=s'
 obtain rfl:os'=s.os:=os
 exact ⟨v,H',I.call (h':=hh) (g':=g) (d':=d) (t':=t) (ch:=[]) un hok bare (λb z=>absurd z (by simp)),r,q⟩
end
def xk (sp:Sp)(dvs:List V)(E:XK)(t:TA):TE:=λσ H Q=>t σ H λvs H1=>sp (vs++dvs) H1 Q E
def Binds (K:DM)(fd:E4)(ps:List Str)(ds:List DK):Prop :=
 ∀(s:DP) (us:List DK),K.In s.heap->(us++ds).length=ps.length->BindsTo s fd ⟨us,[]⟩ (ps.zip (us++ds))
theorem Binds.all {K:DM}{fd:E4}{ps:List Str}(h:∀us:List DK,us.length=ps.length->bindArgs fd ⟨us,[]⟩=pure (ps.zip us)):Binds K fd ps []:=λs us _ hl=>by
 rw[E6] at hl ⊢
 exact .of_eq (h us hl)
def Passes (CX:CXT)(X:Cx)(E:XK):Prop:=∀(pins:List (Addr×Obj)) (σ:St) (H:Hp) (s:DP) (e:DK) (s':DP),Inv X pins σ H s->CX X.stack H s E e s'->X.xe e s'
section
variable  {X:Cx}{CX:CXT}{k:Nat}{f C:Addr}{fd:E4}{ps:List Str}{sp:Sp}{dvs:List V}{ds:List DK}{E:XK}{x m:Str}{p pos apos:Pos}{e o:Expr}{es:List Expr}{ta:TE}{t:TA}
theorem BM {pins:List (Addr×Obj)}{σ:St}{H:Hp}{s:DP}{Q:VK}{us:List DK}{vs:List V}(F:bG X.prog X.w X.K X.mg X.base CX k f fd ps sp)(hr:cB k X.A)(hb:Binds X.K fd ps ds)(hd:Vals dvs ds)(hx:Passes CX X E)
  (I:Inv X pins σ H s) (r:Vals vs us) (h:sp (vs++dvs) H Q E):Ee (Es X.prog X.w) X.A (call (.ref f) us) (EP X pins σ Q) X.xe s:=by
 have r2:Vals (vs++dvs) (us++ds):=r.append hd
 have hl:(us++ds).length=ps.length:=by rw[<- r2.length];exact F.len _ _ _ _ h
 refine Lh (HS (F.run X.A X.stack s H ⟨us,[]⟩ (us++ds) (vs++dvs) Q E hr I.C0 (hb s us I.kIn hl) r2 h) λr s' hq =>?_)
 cases r with
 | error e=>exact hx pins σ H s e s' I hq
 | ok fl =>
  cases fl with
  | ret u=>exact I.after hq
  | next=>exact False.elim hq
  | brk=>exact False.elim hq
  | cont=>exact False.elim hq
theorem tR (F:bG X.prog X.w X.K X.mg X.base CX k f fd ps sp)(hr:cB k X.A)(hg:Gl X x)(hm:X.mg x=some (.ref f))(hk:PySem.W.keepIn X.K (.ref f)=true)(hb:Binds X.K fd ps ds)(hd:Vals dvs ds)(hx:Passes CX X E)
  (ha:PA X (e :: es) t) (hdb:(x == ("__debug__" : Str))=false:=by decide) (he:EL (e :: es) X.env=(false,eval e X.env) :: EL es X.env:=by rfl) (hpl:(Ib pos (EL es X.env)).any (·.1)=false:=by rfl) :
  PE X (.Call (.Name x p) (e :: es) [] pos) (xk sp dvs E t):=by
 intro pins s σ H Q I h
 refine GN (iE I hg hm ?_ hdb)
 refine LM (h₀:=X.base) I.ok.mod.kin hk (thn (ha pos pins s σ H _ I h) λus s1 ⟨vs,H1,I1,r,q⟩=>⟨I1.kIn,?_⟩) he hpl
 exact BM F hr hb hd hx I1 r q
end
section
variable  {X:Cx}{CX:CXT}{k:Nat}{f C:Addr}{fd:E4}{ps ks:List Str}{sp:Sp}{E:XK}{x m:Str}{p pos apos kpos:Pos}{e o:Expr}{es:List Expr}{kws:List Keyword}{te ta:TE}{t tk:TA}{nm:Option Str}
variable  {g:List DK->List DK->List DK}{gV:List V->List V->List V}
end
structure aK (N P:List Str)(sc:Scope):Prop where
 kind:sc.kind = .function
 co:sc.isCoroutine=false
 gen:sc.isGenerator=false
 nd:N.Nodup
 pre:N.take P.length=P
 par:∀x∈P,sc.names.lookup x=some .local\/sc.names.lookup x=some .cell
 nofree:∀y∈sc.names,y.2 ≠ .free
theorem n6 {kindOf:Str->Option NameKind}{x:Str}:∀{binds:List (Str×DK)} {m:Str->Option DK},(∀v,(x,v)∉binds)->bindL kindOf binds m x=m x
 | [],_,_=>rfl
 | (n,v) :: r,m,h=>by
  unfold bindL
  rw[n6 λw hw=>h w (Em _ hw)]
  split
  ·have:x≠n:=by rintro rfl;exact h v En
   simp[this]
  ·rfl
theorem n8 {kindOf:Str->Option NameKind}{x:Str}:∀{binds:List (Str×DK)} {m:Str->Option DK},(∀v,(x,v)∉binds)->bindC kindOf binds m x=m x
 | [],_,_=>rfl
 | (n,v) :: r,m,h=>by
  unfold bindC
  rw[n8 λw hw=>h w (Em _ hw)]
  split
  ·rfl
  ·have:x≠n:=by rintro rfl;exact h v En
   simp[this]
theorem oa {kindOf:Str->Option NameKind}{x:Str}{v:DK}:∀{P:List Str} {vs:List DK} {i:Nat} {m:Str->Option DK},P.Nodup->P[i]? = some x->vs[i]? = some v->kindOf x=some .local →
  bindL kindOf (P.zip vs) m x=some v
 | [],_,_,_,_,h,_,_=>by simp at h
 | _ :: _,[],_,_,_,_,h,_=>by simp at h
 | p :: P,w :: vs,0,m,nd,h1,h2,hk=>by
  simp at h1 h2;subst h1;subst h2
  show bindL kindOf ((p,w) :: P.zip vs) m p=_
  unfold bindL
  rw[n6 λv hv=>(Fm.mp nd).1 (KR hv).1,if_pos hk]
  simp
 | p :: P,w :: vs,i+1,m,nd,h1,h2,hk=>by
  show bindL kindOf ((p,w) :: P.zip vs) m x=_
  unfold bindL
  exact oa (i:=i) (Fm.mp nd).2 (by simpa using h1) (by simpa using h2) hk
theorem og {kindOf:Str->Option NameKind}{x:Str}{v:DK}:∀{P:List Str} {vs:List DK} {i:Nat} {m:Str->Option DK},P.Nodup->P[i]? = some x->vs[i]? = some v->kindOf x≠some .local →
  bindC kindOf (P.zip vs) m x=some v
 | [],_,_,_,_,h,_,_=>by simp at h
 | _ :: _,[],_,_,_,_,h,_=>by simp at h
 | p :: P,w :: vs,0,m,nd,h1,h2,hk=>by
  simp at h1 h2;subst h1;subst h2
  show bindC kindOf ((p,w) :: P.zip vs) m p=_
  unfold bindC
  rw[n8 λv hv=>(Fm.mp nd).1 (KR hv).1,if_neg hk]
  simp
 | p :: P,w :: vs,i+1,m,nd,h1,h2,hk=>by
  show bindC kindOf ((p,w) :: P.zip vs) m x=_
  unfold bindC
  exact og (i:=i) (Fm.mp nd).2 (by simpa using h1) (by simpa using h2) hk
def start (N:List Str)(vs:List V):St:=vs.map some++FI (N.length-vs.length) none
def kj (CX:CXT)(P:D9)(w:EE)(K:DM)(mg:Str->Option DK)(base:Heap)(N:List Str)(qual:Str)(scope:Scope)(f:Addr)(cd:DK)(A:EV)(outer:List Env)(s:DP)(H:Hp)(E:XK):Cx where
 prog:=P
 w:=w
 K:=K
 mg:=mg
 base:=base
 A:=A.deeper (envOfC qual scope s.heap.objs.size f cd)
 N:=N
 s₀:=s
 H₀:=H
 env:=envOfC qual scope s.heap.objs.size f cd
 outer:=outer
 stack:=envOfC qual scope s.heap.objs.size f cd :: outer
 ex:=[]
 calm:=true
 fn:=λ_=>true
 pn:=[]
 xe:=λe s'=>Ee (Es P w) (A.deeper (envOfC qual scope s.heap.objs.size f cd)) (leaving (envOfC qual scope s.heap.objs.size f cd) e) (λ_ s''=>CX outer H s E e s'') (λe' s''=>CX outer H s E e' s'') s'
theorem qo {sc:Scope}{n:Nat}{x:Str}(h:sc.names.lookup x=some .cell):∃c,(cellsFrom n sc.names []).lookup x=some c:=by
 have q:=KH sc.names n [] (.inl h)
 exact J2.mp q
theorem vm {CX:CXT}{P:D9}{w:EE}{K:DM}{mg:Str->Option DK}{base:Heap}{N ps:List Str}{qual:Str}{scope:Scope}{f:Addr}{cd:DK}{A:EV}{outer:List Env}{s s1:DP}{H:Hp}{E:XK}{us:List DK}{vs:List V}
  (S:aK N ps scope) (hd:A.handled=none) (e0:zo P w K mg base A outer s H) (hl:vs.length=ps.length) (r:Vals vs us)
  (x:InCallC s s.heap.objs.size (bindL (envOfC qual scope s.heap.objs.size f cd).kindOf (ps.zip us) λ_=>none) (cellsFrom (s.heap.objs.size+1) scope.names []) (bindC (envOfC qual scope s.heap.objs.size f cd).kindOf (ps.zip us) λ_=>none) s1) :
  Inv (kj CX P w K mg base N qual scope f cd A outer s H E) [] (start N vs) H s1:=by
 have hpl:ps.length<=N.length:=by have:=congrArg List.length S.pre;rw[EF] at this;lia
 obtain ⟨h1,tk,rfl,hk⟩:=x.done
 have noA:∀b:Addr,b∉(kj CX P w K mg base N qual scope f cd A outer s H E).ex:=λb z=>absurd (show b∈([]:List Addr) from z) (by simp)
 refine ⟨⟨e0.mod,S.kind,rfl,rfl,DS _,λy z c h1 h2 =>?_,λy hy =>?_,λy c _ h =>?_,λ_=>hd,Around.frames_deeper e0.frames,.inr ⟨rfl,rfl⟩,λb z=>absurd z (noA b),e0.bs,e0.bsz,λb _ _=>noA b,λb z=>absurd z (noA b),e0.funs,e0.frf⟩,
  rfl,e0.bare,Un.kept hk,⟨_,x.toInCall.ns,λi y v h1 h2 h3 =>?_⟩,λy c h=>⟨_,x.cell y c h⟩,e0.hok.fresh (DS _),λy c h =>?_,λp hp=>absurd (show p∈([]:List (Addr×Obj)) from hp) (by simp),e0.hok.kept hk,?_⟩
 ·exact name_of_addr x.apart (G1 h1) (G1 h2)
 ·have hy:scope.names.lookup y=some .cell\/scope.names.lookup y=some .free:=hy
  rcases hy with hy | hy
  ·exact qo hy
  ·exact absurd rfl (S.nofree _ (G1 hy))
 ·exact FN (x.above y c (G1 h))
 ·have hi:i<vs.length:=by
   unfold start at h2
   by_cases hi:i<vs.length
   ·exact hi
   ·rw[EY (by simpa using hi)] at h2
    rw[IT] at h2
    split at h2 <;> cases h2
  have ha:vs[i]? = some v:=by
   unfold start at h2
   rw[EH (by simpa using hi),D1] at h2
   cases e:vs[i]? with
   | none=>rw[e] at h2;cases h2
   | some a=>rw[e] at h2;cases h2;rfl
  obtain ⟨u,hu,rv⟩:=r.get ha
  have hp:ps[i]? = some y:=by
   rw[<- S.pre,HG (by lia)];exact h1
  have ndP:ps.Nodup:=by rw[<- S.pre];exact S.nd.sublist (FE _ _)
  refine ⟨u,rv,?_⟩
  rcases S.par y (DV hp) with k | k
  ·exact .inl ⟨k,oa ndP hp hu k⟩
  ·obtain ⟨c,e⟩:=qo (n:=s.heap.objs.size+1) k
   refine .inr ⟨.inl k,c,e,?_⟩
   have q:=x.cell y c e
   rw[og ndP hp hu (by show scope.names.lookup y≠_;rw[k];decide)] at q
   exact q
 ·exact e0.hok.fresh (FN (x.above y c (G1 h)))
 ·unfold start
  show _=N.length
  rw[DT,DI,KS]
  lia
theorem AY {CX:CXT}{P:D9}{w:EE}{K:DM}{mg:Str->Option DK}{base:Heap}{k:Nat}{f:Addr}{name qual:Str}{params:Arguments}{body:List Stmt}{scope:Scope}{dV kV doc pm cdv ct oc:DK}{an od:Option Addr}
  {osl:Array (Option DK)} {N ps:List Str} {sp:Sp} (lk:K.lookup f=some ⟨oc,od,.func (PySem.W.fnOf name qual params body scope dV kV doc pm an cdv ct),osl⟩) (hcd:PySem.W.codeIn K cdv qual=true) (S:aK N ps scope)
  (len:∀vs H Q E,sp vs H Q E->vs.length=ps.length)
  (hbody:∀(A:EV) (outer:List Env) (s:DP) (H:Hp) (vs:List V) (Q:VK) (E:XK),cB k (A.deeper (envOfC qual scope s.heap.objs.size f cdv))->sp vs H Q E →
   ∃t,PSs (kj CX P w K mg base N qual scope f cdv A outer s H E) body t/\t { nx:=λ_ H'=>Q .non H',rt:=Q } (start N vs) H) :
  bG P w K mg base CX (k+1) f (PySem.W.fnOf name qual params body scope dV kV doc pm an cdv ct) ps sp:=by
 refine ⟨len,λA outer s H args us vs Q E hr e0 hb r hsp =>?_⟩
 have hl:=len _ _ _ _ hsp
 have KX:K.In s.heap:=e0.mod.kin.keeps λb o e=>(e0.bs b o e).1
 have lim:s.heap.NoLimit:=e0.mod.nolimit.keeps λb o e=>(e0.bs b o e).1
 have hkind:∀y∈ps.zip us,scope.names.lookup y.1=some .local\/(scope.names.lookup y.1=some .cell/\((cellsFrom (s.heap.objs.size+1) scope.names []).lookup y.1).isSome=true):=λ⟨n,v⟩ hy=>by
  rcases S.par n (KR hy).1 with q | q
  ·exact .inl q
  ·exact .inr ⟨q,KH _ _ _ (.inl q)⟩
 refine codeAny_call_function hr.depth (KX _ _ lk) rfl S.co S.gen rfl (PySem.W.codeRec_of KX hcd) (hb _ _ _ _ ?_)
 refine wpAny_newFunctionEnv_cells S.kind hkind λenv he s1 x =>?_
 subst he
 refine ⟨lim.keeps x.toInCall.keep,codeAny_func ?_⟩
 obtain ⟨t,ht,hq⟩:=hbody A outer s H vs Q E (hr.deeper _) hsp
 have I:Inv (kj CX P w K mg base N qual scope f cdv A outer s H E) [] (start N vs) H s1:=vm S hr.hd e0 hl r x
 refine Gk (ht [] s1 (start N vs) H _ I hq) (λfl s' hs =>?_) λe s' hs=>hs
 have fin:∀{σ':St} {H':Hp} {v:V} {u:DK},Inv (kj CX P w K mg base N qual scope f cdv A outer s H E) [] σ' H' s'->RelV v u->Q v H'->CE outer P w H s Q u s' :=
  λ{σ' H' v u} J rv q=>⟨v,H',J.os,J.bare,J.base,J.hok,rv,q⟩
 cases fl with
 | ret u =>
  obtain ⟨v,σ',H',J,rv,q⟩:=hs
  exact fin J rv q
 | next =>
  obtain ⟨σ',H',J,q⟩:=hs
  exact fin (v:=V.non) (u:=F7) J rfl q
 | brk =>
  obtain ⟨_,_,_,q⟩:=hs
  exact False.elim q
 | cont =>
  obtain ⟨_,_,_,q⟩:=hs
  exact False.elim q
section
variable  {X:Cx}{x:Str}{p pos:Pos}{e:Expr}{es:List Expr}{t:TA}{id T:String}{r:List V->Hp->VK->Prop}
def tCB (r:List V->Hp->VK->Prop)(t:TA):TE:=λσ H Q=>t σ H λvs H1=>r vs H1 Q
theorem au (hc:bH X (.builtin id) r)(hg:Gl X x)(hm:X.mg x=none)(hv:Ff x=some (.builtin id))(ha:PA X (e :: es) t)(hn:x ≠ "__name__" := by decide)(hdb:(x == ("__debug__" : Str))=false:=by decide)
  (he:EL (e :: es) X.env=(false,eval e X.env) :: EL es X.env:=by rfl) (hpl:(Ib pos (EL es X.env)).any (·.1)=false:=by rfl):PE X (.Call (.Name x p) (e :: es) [] pos) (tCB r t):=by
 intro pins s σ H Q I h
 refine GN (d9 I hg hm hv ?_ hn hdb)
 exact PyProof.Rows.callWith_builtin1 (thn (ha pos pins s σ H _ I h) λus s1 ⟨vs,H1,I1,r1,q1⟩=>hc pins s1 σ H1 vs us Q I1 r1 q1) he hpl
theorem aL (hc:bH X (.type T) r)(hg:Gl X x)(hm:X.mg x=none)(hv:Ff x=some (.type T))(ha:PA X (e :: es) t)(hn:x ≠ "__name__" := by decide)(hdb:(x == ("__debug__" : Str))=false:=by decide)
  (he:EL (e :: es) X.env=(false,eval e X.env) :: EL es X.env:=by rfl) (hpl:(Ib pos (EL es X.env)).any (·.1)=false:=by rfl):PE X (.Call (.Name x p) (e :: es) [] pos) (tCB r t):=by
 intro pins s σ H Q I h
 refine GN (d9 I hg hm hv ?_ hn hdb)
 exact FO (thn (ha pos pins s σ H _ I h) λus s1 ⟨vs,H1,I1,r1,q1⟩=>hc pins s1 σ H1 vs us Q I1 r1 q1) he hpl
end
end L2
namespace HT
open PySem PyProof.Rows
def lexLt:List Int->List Int->Bool
 | [],[]=>false
 | [],_ :: _=>true
 | _ :: _,[]=>false
 | x :: xs,y :: ys=>if x=y then lexLt xs ys else decide (x<y)
theorem cH (x y:Int)(xs ys:List Int):lexLt (x :: xs) (y :: ys)=if x=y then lexLt xs ys else decide (x<y):=rfl
theorem nA:lexLt [] []=false:=rfl
theorem lB (y:Int)(ys:List Int):lexLt [] (y :: ys)=true:=rfl
theorem lD (x:Int)(xs:List Int):lexLt (x :: xs) []=false:=rfl
theorem xo (A:EV)(s:DP)(a:Int)(t:Tok)(c:Int)(u:Tok):∃e,Iu A s (.int a t) (.int c u) e/\(e=true↔a=c) :=
 ⟨(a == c),GJ a t c u,by simp⟩
theorem qp (A:EV)(s:DP)(a:Int)(t:Tok)(c:Int)(u:Tok)(prog:D9)(w:EE)(E:DK->DP->Prop)(Q:DK->DP->Prop)(h:Q (.bool (decide (a<c))) s) :
  Ee (Es prog w) A (richCompare .Lt (.int a t) (.int c u)) Q E s :=
 (PyProof.Rows.lt_int h:Ee (Es prog w) A (Fl .Lt (.int a t) (.int c u)) Q E s)
section
open PySem.SeqAt
open PySem.AutoSeq1 (wpAny_loadPart')
open PySem.MeetsSeq PySem.MeetsSeq2 PySem.MeetsSeq3
theorem nB (l b:Addr)(items items2:Array DK)(n n2:Nat)(dd dd2:Option Addr)(sl sl2:Array (Option DK))(ns ms:List Int)(hi:Gh items.toList ns)(hj:Gh items2.toList ms) :
  Meets (Builtin.«tuple.__lt__» ⟨[.ref l,.ref b],[]⟩)
   (λ_ R s=>s.heap.get? l=some { cls :=.type "tuple",dict:=dd,data :=.seq items n,slots:=sl }/\s.heap.get? b=some { cls :=.type "tuple",dict:=dd2,data :=.seq items2 n2,slots:=sl2 } ∧
    R (.ok (.ret (.bool (lexLt ns ms)))) s) :=
 .of_wp λprog w A R s h=>by
  obtain ⟨hp,g,d,tk,os⟩:=s;obtain ⟨hl,hb,h⟩:=h
  have f2:=AutoSeq1.sub_tuple_tuple
  have z1:items.size=ns.length:=by rw[<- hi.length];simp
  have z2:items2.size=ms.length:=by rw[<- hj.length];simp
  wp_walk using wpAny_loadPart' hl,wpAny_loadPart' hb,IE _ (λrest b s'=>b.1=none/\s'=⟨hp,g,d,tk,os⟩/\∃(vs ws:List DK) (ns' ms':List Int),rest=vs.zip ws ∧
   Gh vs ns'/\Gh ws ms'/\ns'.length+items2.size=ms'.length+items.size/\R (.ok (.ret (.bool (lexLt ns' ms')))) ⟨hp,g,d,tk,os⟩) _
  case turn =>
   rintro ⟨y,x⟩ rest b s' ⟨hb',rfl,vs,ws,ns',ms',hz,hvi,hwi,hlen,hR⟩
   cases hvi with
   | nil=>rw[List.zip_nil_left] at hz;cases hz
   | cons a t hvi' =>
    cases hwi with
    | nil=>rw[List.zip_nil_right] at hz;cases hz
    | cons c u hwi' =>
     rw[IU] at hz
     injection hz with hyx hrest
     injection hyx with hy hx
     subst hy hx
     rw[cH] at hR
     simp only[Eu] at hlen
     obtain ⟨e,he,hiff⟩:=xo A.in1 ⟨hp,g,d,tk,os⟩ a t c u
     refine DH (he prog w _ _ ?_)
     cases e with
     | true =>
      rw[if_pos (hiff.mp rfl)] at hR
      wp_walk
      exact ⟨rfl,rfl,_,_,_,_,hrest,hvi',hwi',by lia,hR⟩
     | false =>
      rw[if_neg (λq=>absurd (hiff.mpr q) Eh)] at hR
      have hri:=qp A.in1 ⟨hp,g,d,tk,os⟩ a t c u prog w
      wp_walk using hri
      exact ⟨_,rfl,by simpa using hR⟩
  case fin =>
   rintro ⟨b1,b2⟩ s' ⟨hb',rfl,vs,ws,ns',ms',hz,hvi,hwi,hlen,hR⟩
   simp only at hb'
   subst hb'
   have hv:lexLt ns' ms'=decide (items.size<items2.size):=by
    cases hvi with
    | nil =>
     cases hwi with
     | nil =>
      simp only[G2] at hlen
      rw[nA]
      exact (decide_eq_false (by lia)).symm
     | cons c u hw =>
      simp only[G2,Eu] at hlen
      rw[lB]
      exact (decide_eq_true (by lia)).symm
    | cons a t hv =>
     cases hwi with
     | nil =>
      simp only[G2,Eu] at hlen
      rw[lD]
      exact (decide_eq_false (by lia)).symm
     | cons c u hw =>
      rw[IU] at hz
      cases hz
   rw[hv] at hR
   wp_walk
   exact ⟨_,rfl,by simpa [Builtin.Tuple.tupleCompareSizes] using hR⟩
  case h =>
   exact ⟨rfl,rfl,items.toList,items2.toList,ns,ms,rfl,hi,hj,by lia,h⟩
end
section
variable  {prog:D9}{w:EE}{A:EV}{E:DK->DP->Prop}{s:DP}
theorem ic {l b:Addr}{items items2:Array DK}{ns ms:List Int}{Q:DK->DP->Prop}(hl:IsTup s.heap l items)(hb:IsTup s.heap b items2)(hi:Gh items.toList ns)(hj:Gh items2.toList ms)
  (hu:A.units<cLine) (h:Q (.bool (lexLt ns ms)) s):Ee (Es prog w) A (Fl .Lt (.ref l) (.ref b)) Q E s:=by
 obtain ⟨⟨cls,dd,data,sl⟩,ho,hc,n,hd⟩:=id hl
 obtain ⟨⟨cls2,dd2,data2,sl2⟩,ho2,hc2,n2,hd2⟩:=id hb
 simp only at hc hd hc2 hd2
 subst hc hd hc2 hd2
 exact GD (op :=.Lt) ⟨_,ho,rfl⟩ ⟨_,ho2,rfl⟩ PySem.F.slot_tuple_lt PySem.F.entry_tuple_lt (PySem.F.args_tuple_lt_2 _ _) (nB l b items items2 n n2 dd dd2 sl sl2 ns ms hi hj)
  ⟨ho,ho2,show Value.bool (lexLt ns ms)≠Value.notImplemented/\Q (.bool (lexLt ns ms)) s from ⟨(λx=>nomatch x),h⟩⟩ hu
theorem zp {t b:Addr}{vs ws:List DK}{Q:DK->DP->Prop}(ht:IsTup s.heap t vs.toArray)(hb:IsTup s.heap b ws.toArray)(hv:vs≠[])
  (h1:ws=[]->Q (.ref t) s) (h2:ws≠[]->Q (.ref s.heap.objs.size) { s with heap:=s.heap.push { cls :=.type "tuple",data :=.seq (vs++ws).toArray } })
  (hsz:vs.length+ws.length<=D3):Ee (Es prog w) A (binaryOp .Add (.ref t) (.ref b)) Q E s:=by
 obtain ⟨⟨cls,dd,data,sl⟩,ho,hc,n,hd⟩:=id ht
 obtain ⟨⟨cls2,dd2,data2,sl2⟩,ho2,hc2,n2,hd2⟩:=id hb
 simp only at hc hd hc2 hd2
 subst hc hd hc2 hd2
 have e:vs.toArray++ws.toArray=(vs++ws).toArray:=by simp
 by_cases hw:ws=[]
 ·exact La ⟨_,ho,rfl⟩ ⟨_,ho2,rfl⟩ KC LX Jd IV (IM _ _)
   (tuple_addW1 t b vs.toArray ws.toArray n n2 dd dd2 sl sl2 (by simpa using hv) (by simp[hw])) ⟨ho,ho2,h1 hw⟩
 ·refine La ⟨_,ho,rfl⟩ ⟨_,ho2,rfl⟩ KC LX Jd IV (IM _ _)
   (tuple_addW2 t b vs.toArray ws.toArray n n2 dd dd2 sl sl2 (by simpa using hv) (by simpa using hw) (by rw[DR,DR];exact hsz)) ⟨ho,ho2,?_⟩
  rw[e]
  exact h2 hw
def sIx (n d:Nat):Option Int->Nat
 | none=>d
 | some v=>if v<0 then (v+(n:Int)).toNat else min v.toNat n
theorem BN (n d:Nat)(hd:d<=n)(o:Option Int):sIx n d o<=n:=by
 cases o with
 | none=>exact hd
 | some v =>
  show (if v<0 then (v+(n:Int)).toNat else min v.toNat n)<=n
  by_cases hv:v<0
  ·rw[if_pos hv];lia
  ·rw[if_neg hv];exact Nat.min_le_right _ _
theorem tS (v:Int)(n d:Nat):(if v<0 then max (v+(n:Int)) 0 else min v (n:Int))=((sIx n d (some v):Nat):Int):=by
 show (if v<0 then max (v+(n:Int)) 0 else min v (n:Int))=(((if v<0 then (v+(n:Int)).toNat else min v.toNat n):Nat):Int)
 by_cases hv:v<0
 ·simp only[if_pos hv];lia
 ·simp only[if_neg hv];lia
theorem rJ (lo hi:Option Int)(n:Nat):Builtin.Slice.sliceAdjust lo hi 1 (n:Int)=(((sIx n 0 lo:Nat):Int),((sIx n n hi:Nat):Int)):=by
 have h1:¬ ((1:Int)<0):=by lia
 unfold Builtin.Slice.sliceAdjust
 simp only[h1,if_false]
 refine Kf ?_ ?_
 ·cases lo with
  | none=>rfl
  | some v=>exact tS v n 0
 ·cases hi with
  | none=>rfl
  | some v=>exact tS v n n
theorem rK (i j:Nat):Builtin.Slice.slicePlaces (i:Int) (j:Int) 1=j-i:=by
 unfold Builtin.Slice.slicePlaces
 have h1:(1:Int)>0:=by lia
 simp only[h1,if_true,Int.ediv_one]
 split <;> lia
theorem lE {v:DK}{o:Option Int}{Q:Option Int->DP->Prop}(p:IsPart v o)(h:Q o s):Ee (Es prog w) A (Builtin.Slice.slicePartIndex v) Q E s:=by
 cases p with
 | none=>exact slicePart_none h
 | int i t=>exact slicePart_int h
theorem eO {sl:Addr}{vl vu:DK}{lo hi:Option Int}{n:Nat}{Q:Int×Int×Nat->DP->Prop}(hs:s.heap.IsSliceOf sl vl vu .none)(pl:IsPart vl lo)(pu:IsPart vu hi)
  (h:Q (((sIx n 0 lo:Nat):Int),1,sIx n n hi-sIx n 0 lo) s):Ee (Es prog w) A (Builtin.Slice.sliceApplied (.ref sl) (pure (n:Int))) Q E s:=by
 obtain ⟨os,hos,hcs,hds⟩:=id hs
 unfold Builtin.Slice.sliceApplied Builtin.Slice.sliceFields
 refine DH (DH (Fn hos hds (x:=vl) rfl (DH (Fn hos hds (x:=vu) rfl (DH (Fn hos hds (x :=.none) rfl (DN ?_)))))))
 refine DH (slicePart_none ?_)
 show Ee _ _ (if ((1:Int) == 0)=true then _ else _) _ _ s
 rw[if_neg (by decide)]
 refine DH (lE pl (DH (lE pu (DH (DN ?_)))))
 show Ee _ _ (match Builtin.Slice.sliceAdjust lo hi 1 (n:Int) with | (lo,hi)=>pure (lo,(1:Int),Builtin.Slice.slicePlaces lo hi 1)) _ _ s
 rw[rJ lo hi n]
 show Ee _ _ (pure (((sIx n 0 lo:Nat):Int),(1:Int),Builtin.Slice.slicePlaces ((sIx n 0 lo:Nat):Int) ((sIx n n hi:Nat):Int) 1)) _ _ s
 rw[rK]
 exact DN h
theorem xp (xs:Array DK)(i k:Nat):((EU k).filterMap λ(m:Nat)=>xs[((i:Int)+(m:Int)*1).toNat]?).toArray=((xs.toList.drop i).take k).toArray:=by
 have e:(λ(m:Nat)=>xs[((i:Int)+(m:Int)*1).toNat]?)=λm=>xs[i+m]? := by
  funext m
  have:((i:Int)+(m:Int)*1).toNat=i+m:=by lia
  rw[this]
 rw[e]
 have:=pick_run xs i k
 rw[List.filterMap_map] at this
 have e2:((λx=>xs[x]?) ∘ λx=>i+x)=λm=>xs[i+m]? := rfl
 rw[e2] at this
 rw[this]
theorem iK {t sl:Addr}{items:Array DK}{vl vu:DK}{lo hi:Option Int}{Q:DK->DP->Prop}(ht:IsTup s.heap t items)(hs:s.heap.IsSliceOf sl vl vu .none)(pl:IsPart vl lo)(pu:IsPart vu hi)
  (hw:¬ (sIx items.size 0 lo=0/\sIx items.size items.size hi=items.size))
  (h:Q (.ref s.heap.objs.size) { s with heap:=s.heap.push { cls :=.type "tuple",data :=.seq ((items.toList.drop (sIx items.size 0 lo)).take (sIx items.size items.size hi-sIx items.size 0 lo)).toArray } })
  (hsz:items.size<=D3):Ee (Es prog w) A (getItem (.ref t) (.ref sl)) Q E s:=by
 have htake:sizeOk (.seq ((items.toList.drop (sIx items.size 0 lo)).take (sIx items.size items.size hi-sIx items.size 0 lo)).toArray):=by
  show ((items.toList.drop (sIx items.size 0 lo)).take (sIx items.size items.size hi-sIx items.size 0 lo)).toArray.size<=D3
  rw[DR,EF,Ez,DY]
  omega
 have hj:sIx items.size items.size hi<=items.size:=BN _ _ (DS _) hi
 obtain ⟨os,hos,hcs,hds⟩:=id hs
 have hTs:s.TypeIs (.ref sl) "slice" :=⟨os,hos,hcs⟩
 unfold getItem
 try with_reducible refine Fb ?_
 first | refine DH (DN ?_) | skip
 refine DH (Mp ht.typeIs (by decide) ?_)
 refine DH (Fi (name:=Str.ofString "__getitem__") ht.typeIs Fd
  (E8 Fd ht.typeIs entry_tuple_getitem ?_ (LY _ _)))
 show Ee _ _ (Builtin.Tuple.tupleItemsOf (.ref t) >>= _) _ _ s
 refine DH (tupleItemsOf_ ht ?_)
 refine DH (Hz hTs ?_)
 rw[if_pos (by decide)]
 refine DH (eO hs pl pu ?_)
 have hno:¬ ((((sIx items.size 0 lo:Nat):Int) == 0 && (1:Int) == 1 && (sIx items.size items.size hi-sIx items.size 0 lo) == items.size)=true):=by
  intro q
  rw[Fo,Fo] at q
  have q1:((sIx items.size 0 lo:Nat):Int)=0:=eq_of_beq q.1.1
  have q2:sIx items.size items.size hi-sIx items.size 0 lo=items.size:=eq_of_beq q.2
  exact hw ⟨by omega,by omega⟩
 show Ee _ _ (if (((sIx items.size 0 lo:Nat):Int) == 0 && (1:Int) == 1 && (sIx items.size items.size hi-sIx items.size 0 lo) == items.size)=true then _ else _) _ _ s
 rw[if_neg hno,xp]
 first
  | exact DH (m:=Builtin.Tuple.tupleExact _) (E7 (DN ⟨_,rfl,DN h⟩) htake)
  | exact DH (m:=Builtin.Tuple.tupleExact _) (E7 (DH (DN (DN ⟨_,rfl,DN h⟩))) htake)
  | exact DH (DH (m:=Builtin.Tuple.tupleExact _) (E7 (DN (DN ⟨_,rfl,DN h⟩)) htake))
  | exact DH (DH (m:=Builtin.Tuple.tupleExact _) (E7 (DN ⟨_,rfl,DN h⟩) htake))
end
end HT
namespace L2
open PySem PySem.Spec PyProof.Rows
abbrev TO:=St->Hp->(Option Int->Hp->Prop)->Prop
def PO (X:Cx)(e:Option Expr)(t:TO):Prop :=
 ∀(pins:List (Addr×Obj)) (s:DP) (σ:St) (H:Hp) (Q:Option Int->Hp->Prop),Inv X pins σ H s->t σ H Q →
  Ee (Es X.prog X.w) X.A (evalPart e X.env) (λu s'=>∃o H',Inv X pins σ H' s'/\IsPart u o/\Q o H') X.xe s
def zq:TO:=λ_ H Q=>Q none H
def C2 (t:TE):TO:=λσ H Q=>t σ H λx H1=>∃i,x = .int i/\Q (some i) H1
theorem intsAre_of {ns:List Int}:∀{us:List DK},Vals (ns.map V.int) us->Gh us ns:=by
 induction ns with
 | nil=>intro us r;rw[KU] at r;cases r;exact .nil
 | cons n ns ih =>
  intro us r
  rw[Ew] at r
  cases r with
  | cons r1 r2 =>
   obtain ⟨t,e⟩:=r1
   subst e
   exact .cons n t (ih r2)
section
variable  {X:Cx}{e:Expr}{te:TE}{lo hi:Option Expr}{tl th:TO}{pos p2:Pos}
theorem bL:PO X none zq:=by
 intro pins s σ H Q I h
 rw[evalPart_none]
 exact DN ⟨none,H,I,.none,h⟩
theorem bM (h:PE X e te):PO X (some e) (C2 te):=by
 intro pins s σ H Q I hw
 rw[evalPart_some]
 refine thn (h pins s σ H _ I hw) λu s1 ⟨x,H1,I1,r1,q1⟩ =>?_
 obtain ⟨i,rfl,q⟩:=q1
 obtain ⟨t,rfl⟩:=r1
 exact ⟨some i,H1,I1,.int i t,q⟩
def SlR (X:Cx)(r:V->Option Int->Option Int->Hp->VK->Prop):Prop :=
 ∀(pins:List (Addr×Obj)) (s:DP) (σ:St) (H:Hp) (x:V) (v vl vu:DK) (lo hi:Option Int) (sl:Addr) (Q:VK),Inv X pins σ H s->RelV x v->s.heap.IsSliceOf sl vl vu .none->IsPart vl lo->IsPart vu hi->r x lo hi H Q →
  ∃T id,typeLookup (.type T) "__getitem__" = pure (some (.builtin id))/\s.TypeIs v T/\Ee (Es X.prog X.w) X.A (getItem v (.ref sl)) (EP X pins σ Q) X.xe s
def tSl (r:V->Option Int->Option Int->Hp->VK->Prop)(te:TE)(tl th:TO):TE:=λσ H Q=>te σ H λx H1=>tl σ H1 λl H2=>th σ H2 λu H3=>r x l u H3 Q
theorem bz {r:V->Option Int->Option Int->Hp->VK->Prop}(hr:SlR X r)(he:PE X e te)(hl:PO X lo tl)(hu:PO X hi th):PE X (.Subscript e (.Slice lo hi none p2) pos) (tSl r te tl th):=by
 intro pins s σ H Q I h
 refine Subscript_ (thn (he pins s σ H _ I h) λv s1 ⟨x,H1,I1,r1,q1⟩ =>?_)
 refine wpAny_Slice (thn (hl pins s1 σ H1 _ I1 q1) λvl s2 ⟨l,H2,I2,pl,q2⟩=>thn (hu pins s2 σ H2 _ I2 q2) λvu s3 ⟨u,H3,I3,pu,q3⟩ =>?_)
 rw[evalPart_none]
 refine DN ?_
 have I4:Inv X pins σ H3 { s3 with heap:=s3.heap.push { cls :=.type "slice",data :=.fields #[vl,vu,.none] } }:=I3.kept (t':=s3.toks) λb ob q=>DJ _ q
 obtain ⟨T,id,hT,ht,hg⟩:=hr pins { s3 with heap:=s3.heap.push { cls :=.type "slice",data :=.fields #[vl,vu,.none] } } σ H3 x v vl vu l u s3.heap.objs.size Q I4 r1 (Nz ..) pl pu q3
 show Ee (Es X.prog X.w) X.A (subscriptTail e (.Slice lo hi none p2) v (.ref s3.heap.objs.size)) (EP X pins σ Q) X.xe { s3 with heap:=s3.heap.push { cls :=.type "slice",data :=.fields #[vl,vu,.none] } }
 exact tail_any (ops:=[.ref s3.heap.objs.size,v]) ht hT hg (by with_unfolding_all rfl)
def eQ (xs:List V)(lo hi:Option Int):List V:=(xs.drop (HT.sIx xs.length 0 lo)).take (HT.sIx xs.length xs.length hi-HT.sIx xs.length 0 lo)
theorem jY (xs:List V)(lo hi:Option Int):(eQ xs lo hi).length<=xs.length:=by
 unfold eQ
 rw[EF,Ez]
 lia
def rSlT (K:DM):V->Option Int->Option Int->Hp->VK->Prop:=λx lo hi H Q=>∃a xs,x = .ref a/\SqT K H a xs ∧
 ¬ (HT.sIx xs.length 0 lo=0/\HT.sIx xs.length xs.length hi=xs.length)/\∀p,H p=none->Q (.ref p) (upd H p (.tup (eQ xs lo hi)))
theorem BO:SlR X (rSlT X.K):=by
 intro pins s σ H x v vl vu lo hi sl Q I rx hs pl pu h
 obtain ⟨a,xs,rfl,hx,hw,q⟩:=h
 cases rx
 obtain ⟨its,r,ht,hz⟩:=I.tuple hx
 have hlen:its.toArray.size=xs.length:=by rw[DR];exact r.length.symm
 refine ⟨"tuple",_,Fd.lookup,ht.typeIs,?_⟩
 refine HT.iK ht hs pl pu (by rw[hlen];exact hw) ?_ (by rw[hlen];exact hz)
 rw[hlen]
 refine ⟨.ref s.heap.objs.size,_,I.laid (t':=s.toks) (o :=.tup (eQ xs lo hi)) (λb ob q=>DJ _ q) (DS _) ?_,rfl,q _ (I.hok.fresh (DS _))⟩
 exact ⟨EI (jY xs lo hi) hz,_,(r.drop (HT.sIx xs.length 0 lo)).take (HT.sIx xs.length xs.length hi-HT.sIx xs.length 0 lo),d7.new _ _⟩
def C3 (K:DM):R2:=λx y H Q=>∃a b ns ms,x = .ref a/\y = .ref b/\SqT K H a (ns.map V.int)/\SqT K H b (ms.map V.int)/\Q (.bl (HT.lexLt ns ms)) H
theorem BP (hu:X.A.units<cLine):OpR X (Fl .Lt) (C3 X.K):=by
 intro pins s σ H x y v u Q I rx ry h
 obtain ⟨a,b,ns,ms,rfl,rfl,ha,hb,q⟩:=h
 cases rx
 cases ry
 obtain ⟨its,r1,p1,_⟩:=I.tuple ha
 obtain ⟨its2,r2,p2,_⟩:=I.tuple hb
 have i1:Gh its.toArray.toList ns:=intsAre_of r1
 have i2:Gh its2.toArray.toList ms:=intsAre_of r2
 exact HT.ic p1 p2 i1 i2 hu ⟨.bl (HT.lexLt ns ms),H,I,rfl,q⟩
def C6 (K:DM):R2:=λx y H Q=>∃a b xs ys,x = .ref a/\y = .ref b/\SqT K H a xs/\SqT K H b ys/\xs≠[]/\xs.length+ys.length<=D3 ∧
 (ys=[]->Q (.ref a) H)/\(ys≠[]->∀p,H p=none->Q (.ref p) (upd H p (.tup (xs++ys))))
theorem Vals.kJ {xs:List V}{us:List DK}(r:Vals xs us):us=[]↔xs=[]:=by
 cases r with
 | nil=>simp
 | cons _ _=>simp
theorem zr:OpR X (binaryOp .Add) (C6 X.K):=by
 intro pins s σ H x y v u Q I rx ry h
 obtain ⟨a,b,xs,ys,rfl,rfl,ha,hb,hx,hz,q1,q2⟩:=h
 cases rx
 cases ry
 obtain ⟨its,r1,p1,_⟩:=I.tuple ha
 obtain ⟨its2,r2,p2,_⟩:=I.tuple hb
 refine HT.zp p1 p2 (λz=>hx (r1.kJ.mp z)) (λz=>⟨.ref a,H,I,rfl,q1 (r2.kJ.mp z)⟩) (λz =>?_) (by rw[<- r1.length, <- r2.length];exact hz)
 refine ⟨.ref s.heap.objs.size,_,I.laid (t':=s.toks) (o :=.tup (xs++ys)) (λb ob q=>DJ _ q) (DS _) ?_,rfl,q2 (λw=>z (r2.kJ.mpr w)) _ (I.hok.fresh (DS _))⟩
 exact ⟨by rw[DT];exact hz,_,r1.append r2,d7.new _ _⟩
end
def ixN (n:Nat)(i:Int):Option Nat:=if 0<=i then (if i<n then some i.toNat else none) else if -(n:Int)<=i then some (i+n).toNat else none
def atI {α:Type}(xs:List α)(i:Int):Option α:=(ixN xs.length i).bind λj=>xs[j]?
theorem tU {n:Nat}{i:Int}{j:Nat}(h:ixN n i=some j):seqIndex? i n=some j/\j<n /\ -(n:Int)<=i/\i<n:=by
 unfold ixN at h
 by_cases h0:0<=i
 ·rw[if_pos h0] at h
  by_cases h1:i<n
  ·rw[if_pos h1] at h
   have e:i.toNat=j:=EA h
   exact ⟨by rw[LF h0 h1,e],by lia,by lia,h1⟩
  ·rw[if_neg h1] at h;cases h
 ·rw[if_neg h0] at h
  by_cases h1 : -(n:Int)<=i
  ·rw[if_pos h1] at h
   have e:(i+n).toNat=j:=EA h
   exact ⟨by rw[Ms (by lia) h1,e],by lia,h1,by lia⟩
  ·rw[if_neg h1] at h;cases h
theorem tV {α:Type}{xs:List α}{i:Int}{v:α}(h:atI xs i=some v):∃j,seqIndex? i xs.length=some j/\xs[j]? = some v/\j<xs.length /\ -(xs.length:Int)<=i/\i<xs.length:=by
 unfold atI at h
 cases e:ixN xs.length i with
 | none=>rw[e] at h;cases h
 | some j =>
  rw[e] at h
  obtain ⟨h1,h2,h3,h4⟩:=tU e
  exact ⟨j,h1,h,h2,h3,h4⟩
theorem cj {α:Type}{xs:List α}{j:Nat}{v:α}(h:xs[j]? = some v):atI xs (j:Int)=some v:=by
 have hj:j<xs.length:=(DQ.mp h).1
 have e:ixN xs.length (j:Int)=some j:=by
  unfold ixN
  rw[if_pos (by lia),if_pos (by lia)];simp
 unfold atI;rw[e];exact h
def zt (b:Expr):Prop:=∀o i,subscripted b false o i=operate [o,i] (getItem o i)
def IxR (X:Cx)(r:R2):Prop :=
 ∀(value slice:Expr) (pins:List (Addr×Obj)) (s:DP) (σ:St) (H:Hp) (x y:V) (v u:DK) (Q:VK),Inv X pins σ H s->RelV x v->RelV y u->r x y H Q →
  subscripted slice false v u=operate [v,u] (getItem v u)->Ee (Es X.prog X.w) X.A (subscriptTail value slice v u) (EP X pins σ Q) X.xe s
def MtR (X:Cx)(id:String)(r:V->List V->Hp->VK->Prop):Prop :=
 ∀(pins:List (Addr×Obj)) (s:DP) (σ:St) (H:Hp) (x:V) (xs:List V) (v:DK) (us:List DK) (Q:VK),Inv X pins σ H s->RelV x v->Vals xs us->r x xs H Q →
  Ee (Es X.prog X.w) X.A (call (.builtin id) (v :: us)) (EP X pins σ Q) X.xe s
section
variable  {X:Cx}{a b:Expr}{ta tb:TE}{pos:Pos}
theorem aH {r:R2}(hr:IxR X r)(ha:PE X a ta)(hb:PE X b tb)(hs:zt b):PE X (.Subscript a b pos) (tOp r ta tb):=by
 intro pins s σ H Q I h
 exact Subscript_ (BG ha hb I h λv u s2 x y H2 I2 rx ry q=>hr a b pins s2 σ H2 x y v u Q I2 rx ry q (hs _ _))
def C7 (K:DM):R2:=λx y H Q=>∃p xs i v,x = .ref p/\y = .int i/\SqL K H p xs/\atI xs i=some v/\Q v H
def C8 (K:DM):R2:=λx y H Q=>∃p xs i v,x = .ref p/\y = .int i/\SqT K H p xs/\atI xs i=some v/\Q v H
theorem bR:IxR X (C7 X.K):=by
 intro value slice pins s σ H x y v u Q I rx ry h hs
 obtain ⟨p,xs,i,z,rfl,rfl,hq,he,q⟩:=h
 cases rx
 obtain ⟨t,rfl⟩:=ry
 obtain ⟨its,r,pl,hz⟩:=I.list hq
 obtain ⟨j,h1,h2,h3,h4,h5⟩:=tV he
 obtain ⟨w,ew,rw'⟩:=r.get h2
 have hl:=r.length
 have hn:=ib
 have fin:EP X pins σ Q w s:=⟨z,H,I,rw',q⟩
 by_cases h0:0<=i
 ·have hj:i.toNat=j:=by
   rw[LF h0 h5] at h1
   exact EA h1
  exact item_listR pl.isList h0 (by lia) (by rw[hj];simpa using ew) fin hs
 ·have hj:(i+(its.toArray.size:Int)).toNat=j:=by
   rw[Ms (by lia) h4] at h1
   rw[DR, <- hl]
   exact EA h1
  exact KP (x:=w) pl.isList.typeIs slot_list_getitem.lookup
   (wpAny_getItem_list_neg (Q:=λr s'=>r=w/\EP X pins σ Q r s') pl.isList (by lia) (by rw[DR] <;> lia) (by lia) (by rw[hj];simpa using ew) ⟨rfl,fin⟩) hs
theorem aP:IxR X (C8 X.K):=by
 intro value slice pins s σ H x y v u Q I rx ry h hs
 obtain ⟨p,xs,i,z,rfl,rfl,hq,he,q⟩:=h
 cases rx
 obtain ⟨t,rfl⟩:=ry
 obtain ⟨its,r,pl,hz⟩:=I.tuple hq
 obtain ⟨j,h1,h2,h3,h4,h5⟩:=tV he
 obtain ⟨w,ew,rw'⟩:=r.get h2
 have hl:=r.length
 have hn:=ib
 have fin:EP X pins σ Q w s:=⟨z,H,I,rw',q⟩
 exact KP (x:=w) pl.typeIs slot_tuple_getitem.lookup
  (getItem_tuple (j:=j) (Q:=λr s'=>r=w/\EP X pins σ Q r s') pl (by lia) (by lia) (by rw[DR, <- hl];exact h1) (by simpa using ew) ⟨rfl,fin⟩) hs
theorem rL (its:List DK)(n j:Nat)(u:DK):F8 (·.setIfInBounds j u) { cls :=.type "list",data :=.seq its.toArray n }={ cls :=.type "list",data :=.seq (its.set j u).toArray n }:=by
 simp[F8]
theorem Inv.lst {pins:List (Addr×Obj)}{σ:St}{H:Hp}{s:DP}{p:Addr}{xs:List V}(I:Inv X pins σ H s)(h:H p=some (.lst xs)) :
  ∃(its:List DK) (n:Nat),Vals xs its/\s.heap.get? p=some { cls :=.type "list",data :=.seq its.toArray n }/\xs.length<=D3:=by
 obtain ⟨z,its,n,r,e⟩:=I.hok p _ h
 exact ⟨its,n,r,e,z⟩
theorem Inv.BQ {pins:List (Addr×Obj)}{σ:St}{H:Hp}{s:DP}{p:Addr}{xs ys:List V}{its its':List DK}{n n':Nat}{f:Obj->Obj}(I:Inv X pins σ H s)(h:H p=some (.lst xs))
  (ho:s.heap.get? p=some { cls :=.type "list",data :=.seq its.toArray n }) (hf:f { cls :=.type "list",data :=.seq its.toArray n }={ cls :=.type "list",data :=.seq its'.toArray n' }) (r:Vals ys its') (hz:ys.length<=D3) (t:Nat) :
  Inv X pins σ (upd H p (.lst ys)) { s with heap:=s.heap.update p f,toks:=t }:=by
 have e:(s.heap.update p f).get? p=some { cls :=.type "list",data :=.seq its'.toArray n' }:=by
  rw[EZ f ho (by rw[hf] <;> rfl),hf]
 refine I.write (x:=p) (e:=p) (by rw[h];trivial) (.inl rfl) (λb u hb q=>(Eo _ _ (Ft hb)).trans q) ⟨_,e⟩ ?_
 exact ⟨hz,its',n',r,e⟩
def C9:V->V->V->Hp->(Hp->Prop)->Prop:=λo i v H Q=>∃p xs k j,o = .ref p/\i = .int k/\H p=some (.lst xs)/\ixN xs.length k=some j/\Q (upd H p (.lst (xs.set j v)))
theorem set_list:BD X C9:=by
 intro pins s σ H o i v ov iv u Q I ro ri rv h
 obtain ⟨p,xs,k,j,rfl,rfl,hp,hj,q⟩:=h
 cases ro
 obtain ⟨t,rfl⟩:=ri
 obtain ⟨its,n,r,ho,hz⟩:=I.lst hp
 obtain ⟨h1,h2,h3,h4⟩:=tU hj
 have hl:=r.length
 have hn:=ib
 have I':Inv X pins σ (upd H p (.lst (xs.set j v))) { s with heap:=s.heap.update p (F8 (·.setIfInBounds j u)) } :=
  I.BQ hp ho (rL its n j u) (r.set rv j) (by rw[KW];exact hz) s.toks
 by_cases h0:0<=k
 ·have hk:k.toNat=j:=by
   rw[LF h0 h4] at h1
   exact EA h1
  exact PySem.W.ki_setAt ho h0 (by lia) (by rw[DR, <- hl];exact h4) (by rw[hk];exact ⟨_,I',q⟩)
 ·have hk:(k+(its.toArray.size:Int)).toNat=j:=by
   rw[Ms (by lia) h3] at h1
   rw[DR, <- hl]
   exact EA h1
  exact PySem.W.ki_setBack ho (by lia) (by rw[DR, <- hl];exact h3) (by lia) (by rw[hk];exact ⟨_,I',q⟩)
theorem o9 (lo hi:Option Int)(n:Nat):(sliceBounds lo hi none n).1=((HT.sIx n 0 lo:Nat):Int)/\(sliceBounds lo hi none n).2.1=((HT.sIx n n hi:Nat):Int)/\(sliceBounds lo hi none n).2.2=1:=by
 refine ⟨?_,?_,rfl⟩
 ·cases lo with
  | none=>simp[sliceBounds,HT.sIx]
  | some i =>
   simp only[sliceBounds,HT.sIx,Mz,show (1:Int)>0 by decide,if_true]
   by_cases h:i<0
   ·simp only[h,if_true] <;> lia
   ·simp only[h,if_false] <;> lia
 ·cases hi with
  | none=>simp[sliceBounds,HT.sIx]
  | some i =>
   simp only[sliceBounds,HT.sIx,Mz,show (1:Int)>0 by decide,if_true]
   by_cases h:i<0
   ·simp only[h,if_true] <;> lia
   ·simp only[h,if_false] <;> lia
theorem nC (its:List DK)(lo hi:Option Int):slicePick its.toArray lo hi none=((its.drop (HT.sIx its.length 0 lo)).take (HT.sIx its.length its.length hi-HT.sIx its.length 0 lo)).toArray:=by
 obtain ⟨h1,h2,h3⟩:=o9 lo hi its.toArray.size
 unfold slicePick
 rw[h1,h2,h3]
 simp only[sliceRange_one,pick_run,DR] <;> rfl
def rSlL (K:DM):V->Option Int->Option Int->Hp->VK->Prop:=λx lo hi H Q=>∃a xs,x = .ref a/\SqL K H a xs/\∀p,H p=none->Q (.ref p) (upd H p (.lst (eQ xs lo hi)))
theorem cR:SlR X (rSlL X.K):=by
 intro pins s σ H x v vl vu lo hi sl Q I rx hs pl pu h
 obtain ⟨a,xs,rfl,hx,q⟩:=h
 cases rx
 obtain ⟨its,r,ht,hz⟩:=I.list hx
 have hlen:=r.length
 refine ⟨"list",_,slot_list_getitem.lookup,ht.isList.typeIs,?_⟩
 refine wpAny_getItem_list_slice ht.isList hs pl pu .none (by simp) ?_ (by rw[DR] <;> lia)
 rw[nC, <- hlen]
 refine ⟨.ref s.heap.objs.size,_,I.laid (t':=s.toks) (o :=.lst (eQ xs lo hi)) (λb ob q=>DJ _ q) (DS _) ?_,rfl,q _ (I.hok.fresh (DS _))⟩
 exact ⟨EI (jY xs lo hi) hz,_,0,(r.drop (HT.sIx xs.length 0 lo)).take (HT.sIx xs.length xs.length hi-HT.sIx xs.length 0 lo),D2 _ rfl⟩
def iL:V->Bool
 | .non=>true
 | .bl _=>true
 | .int _=>true
 | .str _=>true
 | _=>false
def eqV:V->V->Bool
 | .non,.non=>true
 | .bl a,.bl b=>a == b
 | .bl a,.int b=>(if a then 1 else 0) == b
 | .int a,.bl b=>a == (if b then 1 else 0)
 | .int a,.int b=>a == b
 | .str a,.str b=>a == b
 | _,_=>false
theorem BR {A:EV}{s:DP}{y x:V}{u v:DK}(ry:RelV y u)(rx:RelV x v)(fy:iL y=true)(fx:iL x=true):Iu A s u v (eqV y x):=by
 cases y with
 | non =>
  cases ry
  cases x with
  | non=>cases rx;exact JA _
  | bl b=>cases rx;exact SeqAt.EqAt.none_bool b
  | int b=>obtain ⟨t,rfl⟩:=rx;exact SeqAt.EqAt.none_int b t
  | str b=>obtain ⟨t,rfl⟩:=rx;exact SeqAt.EqAt.none_str b t
  | _=>exact absurd (show false=true from fx) Eh
 | bl a =>
  cases ry
  cases x with
  | non=>cases rx;exact SeqAt.EqAt.bool_none a
  | bl b=>cases rx;exact Li a b
  | int b=>obtain ⟨t,rfl⟩:=rx;exact SeqAt.EqAt.bool_int a b t
  | str b=>obtain ⟨t,rfl⟩:=rx;exact SeqAt.EqAt.bool_str a b t
  | _=>exact absurd (show false=true from fx) Eh
 | int a =>
  obtain ⟨t',rfl⟩:=ry
  cases x with
  | non=>cases rx;exact SeqAt.EqAt.int_none a t'
  | bl b=>cases rx;exact SeqAt.EqAt.int_bool a t' b
  | int b=>obtain ⟨t,rfl⟩:=rx;exact GJ a t' b t
  | str b=>obtain ⟨t,rfl⟩:=rx;exact LI a t' b t
  | _=>exact absurd (show false=true from fx) Eh
 | str a =>
  obtain ⟨t',rfl⟩:=ry
  cases x with
  | non=>cases rx;exact SeqAt.EqAt.str_none a t'
  | bl b=>cases rx;exact SeqAt.EqAt.str_bool a t' b
  | int b=>obtain ⟨t,rfl⟩:=rx;exact LJ a t' b t
  | str b=>obtain ⟨t,rfl⟩:=rx;exact SeqAt.EqAt.str_str a t' b t
  | _=>exact absurd (show false=true from fx) Eh
 | _=>exact absurd (show false=true from fy) Eh
def eqU (x:V)(u:DK):Bool:=match u with
 | .none=>eqV .non x
 | .bool b=>eqV (.bl b) x
 | .int i _=>eqV (.int i) x
 | .str z _=>eqV (.str z) x
 | _=>false
theorem xq {x y:V}{u:DK}(r:RelV y u)(f:iL y=true):eqU x u=eqV y x:=by
 cases y with
 | non=>cases r;rfl
 | bl b=>cases r;rfl
 | int i=>obtain ⟨t,rfl⟩:=r;rfl
 | str z=>obtain ⟨t,rfl⟩:=r;rfl
 | _=>exact absurd (show false=true from f) Eh
theorem iM {x:V}:∀{xs:List V} {us:List DK},Vals xs us->xs.all iL=true->us.any (eqU x)=xs.any λy=>eqV y x
 | _,_,.nil,_=>rfl
 | y :: xs,u :: us,.cons r t,f=>by
  rw[LN,Fo] at f
  rw[Ip,Ip,xq r f.1,iM t f.2]
theorem fT {A:EV}{s:DP}{x:V}{v:DK}(rx:RelV x v)(fx:iL x=true):∀{xs:List V} {us:List DK},Vals xs us->xs.all iL=true->∀u∈us,Iu A s u v (eqU x u)
 | _,_,.nil,_=>λu hu=>by cases hu
 | y :: xs,u :: us,.cons r t,f=>λu' hu=>by
  rw[LN,Fo] at f
  rcases Eg.mp hu with rfl | hu
  ·rw[xq r f.1];exact BR r rx f.1 fx
  ·exact fT rx fx t f.2 u' hu
def inV (x:V)(xs:List V):Bool:=xs.any λy=>eqV y x
def rIn (K:DM)(neg:Bool):R2:=λx y H Q=>∃p xs,y = .ref p/\(SqL K H p xs\/SqT K H p xs)/\iL x=true/\xs.all iL=true/\Q (.bl (if neg then !inV x xs else inV x xs)) H
theorem vn:OpR X (Fl .In) (rIn X.K false):=by
 intro pins s σ H x y v u Q I rx ry h
 obtain ⟨p,xs,rfl,hq,fx,fs,q⟩:=h
 cases ry
 rcases hq with hq | hq
 ·obtain ⟨its,r,pl,hz⟩:=I.list hq
  refine MK (eqU x) pl.isList (λw hw=>fT rx fx r fs w (by simpa using hw)) ⟨.bl _,H,I,rfl,?_⟩
  rw[show its.toArray.any (eqU x)=its.any (eqU x) by simp,iM r fs]
  exact q
 ·obtain ⟨its,r,pl,hz⟩:=I.tuple hq
  refine MA (eqU x) pl (λw hw=>fT rx fx r fs w (by simpa using hw)) ⟨.bl _,H,I,rfl,?_⟩
  rw[show its.toArray.any (eqU x)=its.any (eqU x) by simp,iM r fs]
  exact q
theorem pf:OpR X (Fl .NotIn) (rIn X.K true):=by
 intro pins s σ H x y v u Q I rx ry h
 obtain ⟨p,xs,rfl,hq,fx,fs,q⟩:=h
 cases ry
 rcases hq with hq | hq
 ·obtain ⟨its,r,pl,hz⟩:=I.list hq
  refine LO (eqU x) pl.isList (λw hw=>fT rx fx r fs w (by simpa using hw)) ⟨.bl _,H,I,rfl,?_⟩
  rw[show its.toArray.any (eqU x)=its.any (eqU x) by simp,iM r fs]
  exact q
 ·obtain ⟨its,r,pl,hz⟩:=I.tuple hq
  refine Lz (eqU x) pl (λw hw=>fT rx fx r fs w (by simpa using hw)) ⟨.bl _,H,I,rfl,?_⟩
  rw[show its.toArray.any (eqU x)=its.any (eqU x) by simp,iM r fs]
  exact q
theorem aR:bH X (.builtin "len") (λxs H Q=>∃p ys,xs=[.ref p]/\(SqL X.K H p ys\/SqT X.K H p ys)/\Q (.int ys.length) H):=by
 intro pins s σ H xs us Q I r h
 obtain ⟨p,ys,rfl,hq,q⟩:=h
 obtain ⟨u,rfl,rx⟩:=vals1 r
 cases rx
 have hn:=ib
 rcases hq with hq | hq
 ·obtain ⟨its,r',pl,hz⟩:=I.list hq
  have hlen:=r'.length
  exact Calls.call_len_list pl.isList (by simp only[DR] <;> lia) ⟨.int ys.length,H,I.tok _,⟨s.toks+1,by rw[DR,hlen]⟩,q⟩
 ·obtain ⟨its,r',pl,hz⟩:=I.tuple hq
  have hlen:=r'.length
  exact MX pl (by simp only[DR] <;> lia) ⟨.int ys.length,H,I.tok _,⟨s.toks+1,by rw[DR,hlen]⟩,q⟩
theorem cS:bH X (.type "list") (λxs H Q=>∃p ys,xs=[.ref p]/\(SqL X.K H p ys\/SqT X.K H p ys)/\∀l,H l=none->Q (.ref l) (upd H l (.lst ys))):=by
 intro pins s σ H xs us Q I r h
 obtain ⟨p,ys,rfl,hq,q⟩:=h
 obtain ⟨u,rfl,rx⟩:=vals1 r
 cases rx
 have fin:∀(its:List DK),Vals ys its->ys.length<=D3->∀(h':Heap) (c':Nat),(∀b o',s.heap.get? b=some o'->h'.get? b=some o') →
   h'.get? s.heap.objs.size=some { cls :=.type "list",dict:=none,data :=.seq its.toArray c',slots := #[] }->EP X pins σ Q (.ref s.heap.objs.size) { s with heap:=h' }:=λits r' hz h' c' kp e =>
  ⟨.ref s.heap.objs.size,_,I.laid (t':=s.toks) kp (DS _) (show bp X.prog X.w _ h' _ (.lst ys) from ⟨hz,its,c',r',e⟩),rfl,q _ (I.hok.fresh (DS _))⟩
 rcases hq with hq | hq
 ·obtain ⟨its,r',pl,hz⟩:=I.list hq
  have hlen:=r'.length
  obtain ⟨o,ho,hc,n,hd⟩:=pl.isList
  exact call_list_seq p (.inl rfl) ho hc hd (λh' c' kp e=>fin its r' hz h' c' kp e) (by simp only[DR] <;> lia)
 ·obtain ⟨its,r',pl,hz⟩:=I.tuple hq
  have hlen:=r'.length
  obtain ⟨o,ho,hc,n,hd⟩:=pl
  exact call_list_seq p (.inr rfl) ho hc hd (λh' c' kp e=>fin its r' hz h' c' kp e) (by simp only[DR] <;> lia)
theorem aN:bH X (.type "tuple") (λxs H Q=>∃p ys,xs=[.ref p]/\((SqL X.K H p ys/\∀l,H l=none->Q (.ref l) (upd H l (.tup ys)))\/(SqT X.K H p ys/\Q (.ref p) H))):=by
 intro pins s σ H xs us Q I r h
 obtain ⟨p,ys,rfl,h⟩:=h
 obtain ⟨u,rfl,rx⟩:=vals1 r
 cases rx
 rcases h with ⟨hq,q⟩ | ⟨hq,q⟩
 ·obtain ⟨its,r',pl,hz⟩:=I.list hq
  have hlen:=r'.length
  refine call_tuple_list pl.isList (λh' kp =>?_) (by simp only[DR] <;> lia)
  have I1:Inv X pins σ H { s with heap:=h' }:=I.kept (t':=s.toks) kp
  have I2:Inv X pins σ (upd H h'.objs.size (.tup ys)) { s with heap:=h'.push { cls :=.type "tuple",data :=.seq its.toArray } } :=
   I1.laid (t':=s.toks) (λb o e=>DJ _ e) (DS _) (show bp X.prog X.w _ _ _ (.tup ys) from ⟨hz,its,r',d7.new _ _⟩)
  exact ⟨.ref h'.objs.size,_,I2,rfl,q _ (I1.hok.fresh (DS _))⟩
 ·obtain ⟨its,r',pl,hz⟩:=I.tuple hq
  exact call_tuple_same pl ⟨.ref p,H,I,rfl,q⟩
def tyV (K:DM)(T:String)(x:V)(H:Hp):Prop:=match x with
 | .str _=>T = "str"
 | .int _=>T = "int"
 | .ref p=>(T = "list" /\ ∃xs,SqL K H p xs)\/(T = "tuple" /\ ∃o,K.lookup p=some o/\o.cls = .type "tuple" /\ o.dict=none) ∨
   (T = "dict" /\ ((∃kvs,H p=some (.dK kvs))\/∃kvs,H p=some (.dT kvs)))\/(T = "set" /\ ∃S n,H p=some (.set S n))
 | _=>False
theorem BS {pins:List (Addr×Obj)}{σ:St}{H:Hp}{s:DP}{T:String}{x:V}{v:DK}(I:Inv X pins σ H s)(r:RelV x v)(ty:tyV X.K T x H) :
  s.TypeIs v T/\∀a,v = .ref a->∃ob,s.heap.get? a=some ob/\ob.dict=none:=by
 cases x with
 | str z =>
  obtain ⟨t,rfl⟩:=r
  cases (show T = "str" from ty)
  exact ⟨typeIs_str s z t,λ_ e=>nomatch e⟩
 | int i =>
  obtain ⟨t,rfl⟩:=r
  cases (show T = "int" from ty)
  exact ⟨Nk s i t,λ_ e=>nomatch e⟩
 | ref p =>
  cases r
  rcases ty with ⟨rfl,xs,hq⟩ | ⟨rfl,o,hk,hc,hd⟩ | ⟨rfl,hk⟩ | ⟨rfl,S,n,hk⟩
  ·obtain ⟨its,_,pl,_⟩:=I.list hq
   refine ⟨pl.isList.typeIs,λa e =>?_⟩
   cases e
   obtain ⟨o,n,e,c,hd,_⟩:=pl
   exact ⟨o,e,hd⟩
  ·refine ⟨⟨o,I.kIn p o hk,hc⟩,λa e =>?_⟩
   cases e
   exact ⟨o,I.kIn _ o hk,hd⟩
  ·have z:∃o,s.heap.get? p=some o/\o.ExactDict:=by
    rcases hk with ⟨kvs,hk⟩ | ⟨kvs,hk⟩
    ·obtain ⟨_,_,_,_,o,_,_,e,ex,_⟩:=I.hok p _ hk
     exact ⟨o,e,ex⟩
    ·obtain ⟨_,_,_,_,o,_,_,e,ex,_⟩:=I.hok p _ hk
     exact ⟨o,e,ex⟩
   obtain ⟨o,e,ex⟩:=z
   refine ⟨⟨o,e,ex.1⟩,λa e2 =>?_⟩
   cases e2
   exact ⟨o,e,ex.2.1⟩
  ·obtain ⟨o,_,_,_,e,ex,_⟩:=I.hok p _ hk
   refine ⟨⟨o,e,ex.1⟩,λa e2 =>?_⟩
   cases e2
   exact ⟨o,e,ex.2.1⟩
 | _=>exact False.elim ty
def tBM (K:DM)(T:String)(r:V->List V->Hp->VK->Prop)(to:TE)(t:TA):TE:=λσ H Q=>to σ H λx H1=>tyV K T x H1/\t σ H1 λxs H2=>r x xs H2 Q
variable  {o e:Expr}{es:List Expr}{to:TE}{t:TA}{name:Str}{apos cpos:Pos}{T id:String}{r:V->List V->Hp->VK->Prop}
theorem da (pa:PlainAttrs T)(slot:Slot T name id)(hty:typeOf (.builtin id)=pure (.type "method_descriptor"))(hm:MtR X id r)(ho:PE X o to)(ha:PA X (e :: es) t)
  (hbase:attributeBase o name X.env (eval o X.env)=eval o X.env:=by rfl)
  (hfew:((Ib cpos (EL (e :: es) X.env)).all (λx => !x.1) && (backToKw cpos (keywordEach [] X.env)).all (λx=>x.1.isSome)
   && decide ((e :: es).length+([]:List Keyword).length+(if ([]:List Keyword).isEmpty then 0 else 1)<30))=true:=by rfl)
  (hline:(apos.endLine == cpos.line)=true:=by rfl) (hs:EL (e :: es) X.env=(false,eval e X.env) :: EL es X.env:=by rfl) (hplain:(Ib cpos (EL es X.env)).any (·.1)=false:=by rfl) :
  PE X (.Call (.Attribute o name apos) (e :: es) [] cpos) (tBM X.K T r to t):=by
 intro pins s σ H Q I h
 refine KQ hbase hfew hline rfl (thn (ho pins s σ H _ I h) λv s1 ⟨x,H1,I1,r1,ty,q1⟩ =>?_)
 obtain ⟨h1,h2⟩:=BS I1 r1 ty
 refine ⟨T,id,pa,slot,hty,h1,h2,?_⟩
 have hA:=ha cpos pins s1 σ H1 _ I1 q1
 rw[hs] at hA ⊢
 refine KI (by show (false || (Ib cpos (EL es X.env)).any (·.1))=false;rw[hplain] <;> rfl) (Js ?_)
 exact thn hA λus s2 ⟨vs,H2,I2,r2,q2⟩=>hm pins s2 σ H2 x vs v us Q I2 r1 r2 q2
end
def MtM (X:Cx)(id:String)(r:V->List V->Hp->VK->Prop):Prop :=
 ∀(pins:List (Addr×Obj)) (s:DP) (σ:St) (H:Hp) (x:V) (xs:List V) (v:DK) (us:List DK) (Q:VK),Inv X pins σ H s->RelV x v->Vals xs us->r x xs H Q →
  Ee (Es X.prog X.w) X.A (call (.builtin id) (v :: us)) (EP X pins σ Q) X.xe s
theorem Vals.one:∀{x:V} {us:List DK},Vals [x] us->∃u,us=[u]/\RelV x u
 | _,_,.cons r .nil=>⟨_,rfl,r⟩
section
variable  {X:Cx}{pins:List (Addr×Obj)}{σ:St}{H:Hp}{s:DP}{l b:Addr}{xs ys zs:List V}
theorem Inv.zu {its its':List DK}{n:Nat}{f:Array DK->Array DK}{t':Nat}(I:Inv X pins σ H s)(hH:H l=some (.lst xs))
  (e:s.heap.get? l=some { cls :=.type "list",data :=.seq its.toArray n }) (hf:f its.toArray=its'.toArray) (hv:Vals ys its') (hz:ys.length<=D3) :
  Inv X pins σ (upd H l (.lst ys)) { s with heap:=s.heap.update l (F8 f),toks:=t' }:=by
 have q:=PySem.IsL.update e f
 rw[hf] at q
 refine I.write (x:=l) (e:=l) (by rw[hH];exact trivial) (.inl rfl) (λb' u hb hu=>(Eo s.heap (F8 f) (Ft hb)).trans hu) ⟨_,q⟩ ?_
 exact ⟨hz,its',_,hv,q⟩
theorem Inv.lnew {its:List DK}{t':Nat}(I:Inv X pins σ H s)(hv:Vals ys its)(hz:ys.length<=D3) :
  Inv X pins σ (upd H s.heap.objs.size (.lst ys)) { s with heap:=s.heap.push { cls :=.type "list",data :=.seq its.toArray },toks:=t' } :=
 I.laid (λ_ _ q=>DJ _ q) (DS _) ⟨hz,its,0,hv,D2 _ rfl⟩
theorem Inv.fresh (I:Inv X pins σ H s):H s.heap.objs.size=none:=I.hok.fresh (DS _)
theorem Inv.zv (I:Inv X pins σ H s)(hH:H l=some (.lst xs)):xs.length<=D3/\∃(its:List DK) (n:Nat),Vals xs its/\xs.length=its.length/\s.heap.get? l=some { cls :=.type "list",data :=.seq its.toArray n }:=by
 obtain ⟨z,its,n,r,e⟩:=I.hok l _ hH
 exact ⟨z,its,n,r,r.length,e⟩
theorem xr {n:Nat}(h:n<=D3):Builtin.List.listTooLong n=false:=by
 unfold Builtin.List.listTooLong
 exact decide_eq_false (by lia)
end
section
variable  {X:Cx}
def zx:V->List V->Hp->VK->Prop:=λx vs H Q=>∃l xs y,x = .ref l/\vs=[y]/\H l=some (.lst xs)/\xs.length<D3/\Q .non (upd H l (.lst (xs++[y])))
theorem cc:MtM X "list.append" zx:=by
 intro pins s σ H x vs v us Q I rx rv h
 obtain ⟨l,xs,y,rfl,rfl,hH,hz,q⟩:=h
 cases rx
 obtain ⟨u,rfl,ru⟩:=rv.one
 obtain ⟨z,its,n,r,hl,e⟩:=I.zv hH
 refine Jz F.slot_list_append ⟨_,e,rfl⟩ F.entry_list_append (F.args_list_append_2 _ _) (PySem.list_append l its.toArray n u (by rw[DR];lia)) ⟨e,?_⟩
 refine ⟨.non,_,I.zu (its':=its++[u]) hH e (by simp) (r.append (.cons ru .nil)) ?_,rfl,q⟩
 rw[DT,Fj]
 lia
end
section
variable  {prog:D9}{w:EE}{A:EV}{E:DK->DP->Prop}{s:DP}
end
section
variable  {X:Cx}
end
end L2
namespace Att
open PySem PySem.W PySem.Calls PyProof.Rows
theorem ko {P:Params}{h:Heap}:∀(ns:List Int) (vs:List DK),WellAll P h vs (ns.map WData.int)->Gh vs ns:=by
 intro ns
 induction ns with
 | nil =>
  intro vs w
  rw[KU] at w
  cases w
  exact .nil
 | cons n ns ih =>
  intro vs w
  rw[Ew] at w
  cases w with
  | cons a b =>
   cases a
   exact .cons _ _ (ih _ b)
theorem vo {l:OpenLaw}{n:Nat}(hn:l.most=some n){P:Params}{h:Heap}{args:List WData}{vals:List DK}
  (hpre:l.row.toRowW.claim.pre args=true) (hwl:WellAll P h vals args) :
  ∃a vs ns,vals=[D8 a]/\args=[WData.list (ns.map WData.int)]/\h.get? a=some { cls :=.type "list",data :=.seq vs.toArray }/\Gh vs ns/\ns.length<=n:=by
 have hsh:WShape.hasAll [] args [.list .int]=true:=(pre_splitW hpre).1
 have hc:l.pre.holds [] { args:=args }=true:=(pre_splitW hpre).2
 obtain ⟨d,r,rfl,h1,h2⟩:=hasAllW_cons hsh
 obtain rfl:=hasAllW_nil h2
 obtain ⟨xs,rfl,h3⟩:=hasW_list h1
 obtain ⟨ns,rfl⟩:=items_int h3
 have hlen:ns.length<=n:=by
  unfold OpenLaw.pre at hc
  have h4:(WTm.not (.lt (.lit (.int (n:Int))) (.len (.arg 0)))).holds [] { args:=[.list (ns.map .int)] }=true:=by
   have h4:=(holds_andW hc).1
   rw[hn] at h4
   exact h4
  have h5:=condW_of h4 (w_not (w_lt w_lit (w_len_list (w_arg rfl))))
  rw[DI] at h5
  refine Jn λq =>?_
  have q':(n:Int)<((ns.length:Nat):Int):=by omega
  first
   | (rw[decide_eq_true q'] at h5;exact absurd h5 (by decide))
   | (simp at h5;omega)
 cases hwl with
 | cons w1 w2 =>
  cases w2
  cases w1 with
  | list ho hall=>exact ⟨_,_,ns,rfl,rfl,ho,ko ns _ hall,hlen⟩
theorem vp (l:OpenLaw)(args:List WData):l.row.toRowW.claim.post args (.bool true) args=true :=
 postW_of (r:=l.row.toRowW) (X:=(true == true))
  (show WShape.has [] (.bool true) .bool=true by first | rfl | decide | simp[WShape.has,WShape.arms,WShape.armsAll])
  (show (WTm.eq .res (.lit (.bool true))).value [] { args:=args,res:=some (.bool true),after:=args }=some (.bool (true == true)) from w_eq_bool (w_res rfl) w_lit) rfl
theorem qq {l:OpenLaw}{n:Nat}{q:D9}{loose:List Str}{XP:(Str->Option DK)->Heap->Prop}{YP:EE->Heap->Prop}{d:DefRec}
  (hn:l.most=some n) (hdf:d.params.defaults=[])
  (call:∀(w:EE) (s₀ s₁:DP) (mg mb:Str->Option DK) (fa:Addr) (o:Obj) (pm cd doc:DK) (a:Addr) (vs:List DK) (ns:List Int),
   Ground q loose [] XP w s₀ mg mb s₁.heap->YP w s₁.heap →
   s₁.heap.get? fa=some o->o.data = .func (docDef d.name d.params d.body d.scope pm cd doc)->s₁.heap.CodeRec cd d.name->mg d.name=some (.ref fa) →
   s₁.heap.get? a=some { cls :=.type "list",data :=.seq vs.toArray }->Gh vs ns->ns.length<=n->s₁.gens = #[] →
   IL (Es l.prog w) callerA (.call (.ref fa) ⟨[.ref a],[]⟩) (λr s'=>r = .ok (.ret (.bool true))/\OldK s₁.heap s'.heap/\s'.os=s₁.os/\AllBare s'.gens) s₁) :
  WalkO q loose XP YP l.row.toRowW d [] (λf vs=>PySem.call f vs):=by
 intro w s₀ s₁ mg mb G Y fa o pm cd doc dV kV ho hd hcd hD hmg hg args vals as hpre hlay hrd hwl hlo
 obtain rfl:dV = .none:=Dflts.none hD hdf
 obtain rfl:kV = .none:=Dflts.noKw hD
 obtain ⟨a,vs,ns,rfl,rfl,hobj,hints,hlen⟩:=vo hn hpre hwl
 refine enter_call (HS (call w s₀ s₁ mg mb fa o pm cd doc a vs ns G Y ho (fd_plain hd) hcd hmg hobj hints hlen hg) λr s' hq =>?_)
 obtain ⟨rfl,h2,h3,h4⟩:=hq
 exact ⟨.inl ⟨.bool true,.bool true,[],rfl,λ_=>rfl,.bool true,vp l _,λ_=>⟨List.Pairwise.nil,λ_ hm=>(nomatch hm)⟩⟩,h2,h3,h4⟩
section
variable  {prog:D9}{w:EE}{A:EV}{E:DK->DP->Prop}{s:DP}{K:Frag}
def ledger (h:Heap)(L d:Addr):List (Addr×Obj):=(EU h.objs.size).filterMap λa=>if a=L\/a=d then none else (h.get? a).map λo=>(a,o)
end
end Att
namespace L2
open PySem PySem.Spec PyProof.Rows
theorem jt:∀{vs:List DK} {ns:List Int},Gh vs ns->Vals (ns.map V.int) vs
 | _,_,.nil =>.nil
 | _,_,.cons n t h =>.cons ⟨t,rfl⟩ (jt h)
def BU (H:Hp):Prop:=∀b,H b=none\/∃o xs,H b=some (.frz o (.lst xs))
theorem xt {P:D9}{w:EE}{K:DM}{mg mb:Str->Option DK}{CX:CXT}{k:Nat}{fa a:Addr}{fd:E4}{x:Str}{sp:Sp}{s₁:DP}{vs:List DK}{ns:List Int}
  (KX:K.In s₁.heap) (hns:s₁.heap.Ns Ey mg) (hb:s₁.heap.Ns builtinsNs mb) (hbb:∀x:Str,x ≠ "__name__" -> mb x=Ff x) (hlim:s₁.heap.NoLimit) (hg:s₁.gens = #[])
  (ha:s₁.heap.get? a=some { cls :=.type "list",data :=.seq vs.toArray }) (hi:Gh vs ns) (hl:ns.length<=D3) (hr:cB k callerA)
  (F:∀base:Heap,K.In base->base.Ns Ey mg->bG P w K mg base CX k fa fd [x] sp) (hbind:∀(s:DP) (u:DK),BindsTo s fd ⟨[u],[]⟩ [(x,u)])
  (hsp:∀H:Hp,BU H->SqL K H a (ns.map V.int)->sp [.ref a] H (λv _=>v = .bl true) λ_ _ _=>False)
  (hCX:∀H e s',CX [] H s₁ (λ_ _ _=>False) e s'->False) :
  IL (Es P w) callerA (.call (.ref fa) ⟨[.ref a],[]⟩) (λr s'=>r = .ok (.ret (.bool true))/\OldK s₁.heap s'.heap/\s'.os=s₁.os/\AllBare s'.gens) s₁:=by
 have rv:=jt hi
 have lenV:=hi.length
 have core:∀H:Hp,BU H->SqL K H a (ns.map V.int)->HOk P w H s₁.heap->(∀b,H b≠none->b=a)->(H a≠none->K.lookup a=none) →
   IL (Es P w) callerA (.call (.ref fa) ⟨[.ref a],[]⟩) (λr s'=>r = .ok (.ret (.bool true))/\OldK s₁.heap s'.heap/\s'.os=s₁.os/\AllBare s'.gens) s₁:=by
  intro H hO hS hok hA hK
  have base_of:∀{b:Addr} {o:Obj},s₁.heap.get? b=some o->H b=none->(oX s₁.heap H).get? b=some o:=λe n=>wV e n
  have noA:∀{b:Addr} {o:Obj} {es:Array DictEntry} {ep:Nat},s₁.heap.get? b=some o->o.data = .dict es ep->H b=none:=λ{b o es ep} e d=>by
   cases q:H b with
   | none=>rfl
   | some u =>
    have e':b=a:=hA b (by rw[q];simp)
    subst e'
    rw[ha] at e;cases e
    have d':Data.seq vs.toArray _=Data.dict es ep:=d
    cases d'
  have nsK:∀{b:Addr} {m:Str->Option DK},s₁.heap.Ns b m->(oX s₁.heap H).Ns b m:=λ{b m} ⟨o,es,ep,e,d,r⟩=>⟨o,es,ep,base_of e (noA e d),d,r⟩
  have hKb:K.In (oX s₁.heap H):=λb o e=>base_of (KX b o e) (by
   cases q:H b with
   | none=>rfl
   | some u =>
    have e':b=a:=hA b (by rw[q];simp)
    subst e'
    rw[hK (by rw[q];simp)] at e;cases e)
  have hM:Mod K mg (oX s₁.heap H):=⟨hKb,nsK hns,⟨mb,nsK hb,hbb⟩,let ⟨mc,h1,h2⟩:=hlim;⟨mc,nsK h1,h2⟩⟩
  have e0:zo P w K mg (oX s₁.heap H) callerA [] s₁ H:=⟨rfl,hM,λb o e=>zg e,Nat.le_of_eq (ve _ _),trivial,λb hb=>absurd (show b∈([]:List Addr) from hb) (by simp),hok,.of_eq hg⟩
  refine HS ((F _ hKb (nsK hns)).run callerA [] s₁ H ⟨[.ref a],[]⟩ [.ref a] [.ref a] _ _ hr e0 (hbind s₁ (.ref a)) (.cons rfl .nil) (hsp H hO hS)) λr s' h =>?_
  cases r with
  | error e=>exact (hCX H e s' h).elim
  | ok fl =>
   cases fl with
   | next=>exact False.elim h
   | brk=>exact False.elim h
   | cont=>exact False.elim h
   | ret u =>
    obtain ⟨v,H',os,bare,un,hok',r',q⟩:=h
    have q':v = .bl true:=q
    subst q'
    obtain rfl:u=Value.bool true:=r'
    refine ⟨rfl,OldK.of_keep λb o e =>?_,os,bare⟩
    cases q:H b with
    | none=>exact un.keep b o e q (by intro z;exact absurd (show b∈([]:List Addr) from z) (by simp)) (by simp)
    | some u =>
     rcases hO b with z | ⟨ob,xs,z⟩
     ·rw[q] at z;cases z
     ·have z2:=un.frzs b ob _ z
      obtain ⟨e1,_⟩:=hok b _ z
      obtain ⟨e2,_⟩:=hok' b _ z2
      rw[e] at e1;cases e1
      exact e2
 cases hk:K.lookup a with
 | some o =>
  have e:=KX a o hk
  rw[ha] at e
  cases e
  refine core (λ_=>none) (λ_ =>.inl rfl) (.inr ⟨_,vs.toArray,_,hk,rfl,rfl,rfl,by rw[DR,lenV];exact hl,by simpa using rv⟩) (λb u z=>by have z':(none:Option HO)=some u:=z;cases z') (λb z=>absurd rfl z) λz=>absurd rfl z
 | none =>
  refine core (λb=>if b=a then some (.frz { cls :=.type "list",data :=.seq vs.toArray } (.lst (ns.map V.int))) else none) (λb =>?_) (.inl (.inr ⟨{ cls :=.type "list",data :=.seq vs.toArray },if_pos rfl⟩)) (λb u z =>?_) (λb z =>?_) λ_=>hk
  ·by_cases hb:b=a
   ·exact .inr ⟨_,_,if_pos hb⟩
   ·exact .inl (if_neg hb)
  ·by_cases hb:b=a
   ·have z':=(if_pos hb).symm.trans z
    cases z'
    subst hb
    exact ⟨ha,by rw[DI];exact hl,vs,_,rv,ha⟩
   ·have z':=(if_neg hb).symm.trans z
    cases z'
  ·by_cases hb:b=a
   ·exact hb
   ·exact absurd (if_neg hb) z
theorem zy {l:PySem.W.OpenLaw}{n k:Nat}{q:D9}{loose:List Str}{XP:(Str->Option DK)->Heap->Prop}{YP:EE->Heap->Prop}{d:DefRec}{K:Params->DM}{CX:EE->CXT}{sp:EE->Sp}{x:Str}
  (hn:l.most=some n) (hn2:n<=D3) (hdf:d.params.defaults=[]) (hr:cB k callerA)
  (hY:∀(w:EE) (h:Heap),YP w h->(K w.params).In h)
  (F:∀(w:EE) (mg:Str->Option DK) (fa:Addr) (h:Heap),(K w.params).In h->h.Ns Ey mg->mg d.name=some (.ref fa) →
   ∃fd:E4,(∀(s:DP) (u:DK),BindsTo s fd ⟨[u],[]⟩ [(x,u)]) ∧
    ∀base:Heap,(K w.params).In base->base.Ns Ey mg->bG l.prog w (K w.params) mg base (CX w) k fa fd [x] (sp w))
  (hsp:∀(w:EE) (H:Hp) (a:Addr) (ns:List Int),ns.length<=n->BU H->SqL (K w.params) H a (ns.map V.int)->sp w [.ref a] H (λv _=>v = .bl true) λ_ _ _=>False)
  (hCX:∀(w:EE) (H:Hp) (s:DP) (e:DK) (s':DP),CX w [] H s (λ_ _ _=>False) e s'->False) :
  PySem.W.WalkO q loose XP YP l.row.toRowW d [] (λf vs=>PySem.call f vs):=by
 refine Att.qq hn hdf λw s₀ s₁ mg mb fa o pm cd doc a vs ns G Y ho hd hcd hmg hobj hints hlen hg =>?_
 have KX:=hY w _ Y
 obtain ⟨fd,hb,hF⟩:=F w mg fa _ KX G.T.g hmg
 exact xt KX G.T.g G.T.b G.T.builtins G.T.nolimit hg hobj hints (EI hlen hn2) hr hF hb (λH hO hS=>hsp w H a ns hlen hO hS) λH e s'=>hCX w H s₁ e s'
def dC (s:Stmt):Arguments:=match s with
 | .FunctionDef _ a _ _ _ _ _ _ _ _=>a
 | _=>{ posonlyargs:=[],args:=[],vararg:=none,kwonlyargs:=[],kw_defaults:=[],kwarg:=none,defaults:=[] }
def ck (s:Stmt):List Stmt:=match s with
 | .FunctionDef _ _ b _ _ _ _ _ _ _=>b
 | _=>[]
def ak (s:Stmt):Scope:=match s with
 | .FunctionDef _ _ _ _ _ _ sc _ _ _=>sc
 | _=>{ kind :=.function,names:=[],isGenerator:=false,isCoroutine:=false }
abbrev CX0:CXT:=λ_ _ _ _ _ _=>False
abbrev E0:XK:=λ_ _ _=>False
theorem Dc {X:Cx}:Passes CX0 X E0:=λ_ _ _ _ _ _ _ h=>h.elim
structure Fun (K:DM)(x qual:Str)(st:Stmt)(f:Addr)(fd:E4):Prop where
 ex:∃(oc:DK) (od:Option Addr) (kV doc pm:DK) (an:Option Addr) (cdv ct:DK) (osl:Array (Option DK)),
  fd=PySem.W.fnOf x qual (dC st) (ck st) (ak st) .none kV doc pm an cdv ct/\K.lookup f=some ⟨oc,od,.func fd,osl⟩/\PySem.W.codeIn K cdv qual=true
 kp:PySem.W.keepIn K (.ref f)=true
section
variable  {P:D9}{w:EE}{K:DM}{mg:Str->Option DK}{base:Heap}
theorem Fun.ok {x qual:Str}{st:Stmt}{f:Addr}{fd:E4}{N ps:List Str}{k:Nat}{sp:Sp}(F:Fun K x qual st f fd)(S:aK N ps (ak st))(len:∀vs H Q E,sp vs H Q E->vs.length=ps.length)
  (hbody:∀(cdv:DK) (A:EV) (outer:List Env) (s:DP) (H:Hp) (vs:List V) (Q:VK) (E:XK),cB k (A.deeper (envOfC qual (ak st) s.heap.objs.size f cdv))->sp vs H Q E →
   ∃t,PSs (kj CX0 P w K mg base N qual (ak st) f cdv A outer s H E).nox (ck st) t/\t { nx:=λ_ H'=>Q .non H',rt:=Q } (start N vs) H):bG P w K mg base CX0 (k+1) f fd ps sp:=by
 obtain ⟨oc,od,kV,doc,pm,an,cdv,ct,osl,rfl,lk,hcd⟩:=F.ex
 refine AY lk hcd S len λA outer s H vs Q E hr hsp =>?_
 obtain ⟨t,h,q⟩:=hbody cdv A outer s H vs Q E hr hsp
 exact ⟨t,h.nox,q⟩
theorem Fun.binds {x qual:Str}{st:Stmt}{f:Addr}{fd:E4}{ps:List Str}(F:Fun K x qual st f fd)
  (h:∀(kV doc pm:DK) (an:Option Addr) (cdv ct:DK) (us:List DK),us.length=ps.length->bindArgs (PySem.W.fnOf x qual (dC st) (ck st) (ak st) .none kV doc pm an cdv ct) ⟨us,[]⟩=pure (ps.zip us)):Binds K fd ps []:=by
 obtain ⟨oc,od,kV,doc,pm,an,cdv,ct,osl,rfl,lk,hcd⟩:=F.ex
 exact .all (h kV doc pm an cdv ct)
theorem rM {x qual:Str}{st:Stmt}{f:Addr}{oc:DK}{od an:Option Addr}{osl:Array (Option DK)}{kV doc pm cdv ct:DK}(l:K.lookup f=some ⟨oc,od,.func (PySem.W.fnOf x qual (dC st) (ck st) (ak st) .none kV doc pm an cdv ct),osl⟩)
  (c:PySem.W.codeIn K cdv qual=true) (k:PySem.W.keepIn K (.ref f)=true):Fun K x qual st f (PySem.W.fnOf x qual (dC st) (ck st) (ak st) .none kV doc pm an cdv ct):=⟨⟨oc,od,kV,doc,pm,an,cdv,ct,osl,rfl,l,c⟩,k⟩
end
theorem Dd {A:EV}{k:Nat}(hr:cB k A):A.units+1<cLine:=Ih (IG (by decide:1<=64) _) hr.units
theorem bq {n:Nat}(h:n<=1000):n<D3:=Ih h (by decide)
section
variable  {X:Cx}
theorem pv (i:Nat){x:Str}{pos:Pos}(hN:X.N[i]? = some x:=by rfl)(hv:Vis X.env.scope x:=by first | exact Or.inl rfl | exact Or.inr (Or.inl rfl) | exact Or.inr (Or.inr rfl))(hd:(x == ("__debug__" : Str))=false:=by decide)
  (hcd:(x == ("__classdict__" : Str))=false:=by decide):PE X (.Name x pos) (CC i):=BA hN hv hd hcd
end
theorem cq {A B:Prop}(h:B):if false=true then A else B:=by
 rw[if_neg Eh]
 exact h
theorem bO {A B:Prop}(h:A):if true=true then A else B:=by
 rw[if_pos rfl]
 exact h
theorem bD {c A B:Prop}[Decidable c](h1:c->A)(h2:¬ c->B):if c then A else B:=by
 by_cases h:c
 ·rw[if_pos h]
  exact h1 h
 ·rw[if_neg h]
  exact h2 h
theorem De {c A B:Prop}[Decidable c](hc:c)(h:B):if (!decide c)=true then A else B:=by
 rw[decide_eq_true hc]
 exact cq h
def aA (H H':Hp):Prop:=∀b o,H b=some o->H' b=some o
theorem aA.refl (H:Hp):aA H H:=λ_ _ h=>h
theorem aA.trans {H H1 H2:Hp}(a:aA H H1)(b:aA H1 H2):aA H H2:=λc o h=>b c o (a c o h)
theorem aA.free {H H':Hp}(e:aA H H'){l:Addr}(h:H' l=Option.none):H l=Option.none:=by
 cases q:H l with
 | none=>rfl
 | some o =>
  rw[e l o q] at h
  cases h
theorem aA.seq {K:DM}{H H':Hp}{a:Addr}{xs:List V}(e:aA H H')(h:SqL K H a xs):SqL K H' a xs:=by
 rcases h with (h | ⟨o,h⟩) | h
 ·exact .inl (.inl (e _ _ h))
 ·exact .inl (.inr ⟨o,e _ _ h⟩)
 ·exact .inr h
set_option maxHeartbeats 4000000
def qr (on:List (Str×NameKind))(N:List Str)(sc:Scope)(N':List Str)(ix:List (Option Nat)):Bool :=
 decide (sc.kind = .function) &&
 sc.names.all (λy=>match y.2 with
  | .local=>decide (sc.names.lookup y.1=some .local)
  | .cell=>false
  | .free=>decide (on.lookup y.1=some .cell) || decide (on.lookup y.1=some .free)
  | _=>true) &&
 decide (ix.length=N'.length) &&
 (ix.zip N').all (λp=>match p.1 with
  | none=>true
  | some j=>decide (N[j]? = some p.2) && decide (sc.names.lookup p.2=some .free))
theorem jZ {ns:List (Str×NameKind)}{y:Str}{k:NameKind}(h:ns.lookup y=some k):(y,k)∈ns:=G1 h
structure lF (on:List (Str×NameKind))(N:List Str)(sc:Scope)(N':List Str)(ix:List (Option Nat)):Prop where
 kind:sc.kind = .function
 locs:∀y∈sc.names,y.2 = .local->sc.names.lookup y.1=some .local
 nocell:∀y∈sc.names,y.2 ≠ .cell
 frees:∀y∈sc.names,y.2 = .free->on.lookup y.1=some .cell\/on.lookup y.1=some .free
 len:ix.length=N'.length
 slot:∀(i j:Nat) (y:Str),ix[i]? = some (some j)->N'[i]? = some y->N[j]? = some y/\sc.names.lookup y=some .free
theorem lF.of {on:List (Str×NameKind)}{N:List Str}{sc:Scope}{N':List Str}{ix:List (Option Nat)}(h:qr on N sc N' ix=true):lF on N sc N' ix:=by
 unfold qr at h
 rw[Fo,Fo,Fo] at h
 obtain ⟨⟨⟨h1,h2⟩,h3⟩,h4⟩:=h
 rw[Gf] at h2 h4
 refine ⟨of_decide_eq_true h1,λy hy e =>?_,λy hy e =>?_,λy hy e =>?_,of_decide_eq_true h3,λi j y e1 e2 =>?_⟩
 ·have q:=h2 y hy
  rw[e] at q
  exact of_decide_eq_true q
 ·have q:=h2 y hy
  rw[e] at q
  cases q
 ·have q:=h2 y hy
  rw[e] at q
  exact ((Bool.or_eq_true _ _).mp q).imp of_decide_eq_true of_decide_eq_true
 ·have q:=h4 (some j,y) (DV (i:=i) (by rw[HA];exact ⟨e1,e2⟩))
  dsimp only at q
  rw[Fo] at q
  exact ⟨of_decide_eq_true q.1,of_decide_eq_true q.2⟩
theorem j6 {α β:Type}(f:α -> β -> β)(b:α -> β -> Sem (ForInStep β)):∀(l:List α) (c:β),(∀x∈l,∀d,b x d=pure (.yield (f x d)))->forIn l c b=pure (l.foldl (λd x=>f x d) c)
 | [],c,_=>rfl
 | x :: l,c,h=>by
  rw[KY,h x En,pure_bind]
  exact j6 f b l (f x c) λy hy=>h y (Em _ hy)
def aV (env:Env)(l:List (Str×NameKind))(c:List (Str×Addr)):List (Str×Addr) :=
 l.foldl (λd y=>if y.2 = .free then (y.1,(env.cells.lookup y.1).getD 0) :: d else d) c
theorem rN {sc:Scope}{env:Env}(h:∀y∈sc.names,y.2 = .free->∃c,env.cells.lookup y.1=some c):closureFor sc env=pure (aV env sc.names []):=by
 simp only[closureFor]
 unfold aV
 rw[j6 (λy d=>if y.2 = .free then (y.1,(env.cells.lookup y.1).getD 0) :: d else d)]
 ·rfl
 ·rintro ⟨n,k⟩ hy d
  by_cases hk:k = .free
  ·subst hk
   obtain ⟨c,e⟩:=h _ hy rfl
   have e':env.cells.lookup n=some c:=e
   simp only[beq_self_eq_true,if_true,cellOf,e',Option.getD_some]
   rfl
  ·have hb:(k == NameKind.free)=false:=by simpa using hk
   simp only[hb,Ei,if_false,hk]
theorem dD {env:Env}{y:Str}{c:Addr}:∀(l:List (Str×NameKind)) (d:List (Str×Addr)),(∀z∈l,z.2 = .free->∃c,env.cells.lookup z.1=some c)->(aV env l d).lookup y=some c →
  d.lookup y=some c\/env.cells.lookup y=some c
 | [],d,_,h =>.inl h
 | (n,k) :: l,d,hf,h=>by
  have h':(aV env l (if k = .free then (n,(env.cells.lookup n).getD 0) :: d else d)).lookup y=some c:=h
  have ih:=dD l _ (λz hz=>hf z (Em _ hz)) h'
  by_cases hk:k = .free
  ·subst hk
   rw[if_pos rfl] at ih
   rcases ih with q | q
   ·rw[Iz] at q
    cases hx:(y == n) with
    | true =>
     rw[hx] at q
     obtain ⟨c',e⟩:=hf (n,.free) En rfl
     have e':env.cells.lookup n=some c':=e
     have q':some ((env.cells.lookup n).getD 0)=some c:=q
     rw[e'] at q'
     have en:y=n:=eq_of_beq hx
     rw[en,e']
     exact .inr q'
    | false =>
     rw[hx] at q
     exact .inl q
   ·exact .inr q
  ·rw[if_neg hk] at ih
   exact ih
theorem fg {env:Env}{y:Str}:∀(l:List (Str×NameKind)) (d:List (Str×Addr)),((y,NameKind.free)∈l\/∃c,d.lookup y=some c)->∃c,(aV env l d).lookup y=some c
 | [],d,h=>by
  rcases h with h | h
  ·cases h
  ·exact h
 | (n,k) :: l,d,h=>by
  show ∃c,(aV env l (if k = .free then (n,(env.cells.lookup n).getD 0) :: d else d)).lookup y=some c
  refine fg l _ ?_
  have old:(∃c,d.lookup y=some c)->∃c,(if k = .free then (n,(env.cells.lookup n).getD 0) :: d else d).lookup y=some c:=λ⟨c,e⟩=>by
   by_cases hk:k = .free
   ·rw[if_pos hk,Iz]
    cases hx:(y == n) with
    | true=>exact ⟨_,rfl⟩
    | false=>exact ⟨c,e⟩
   ·rw[if_neg hk];exact ⟨c,e⟩
  rcases h with h | h
  ·rcases Eg.mp h with q | q
   ·cases q
    rw[if_pos rfl,Iz,beq_self_eq_true]
    exact .inr ⟨_,rfl⟩
   ·exact .inl q
  ·exact .inr (old h)
theorem lG {c:Str->NameKind->Bool}{y:Str}:∀l:List (Str×NameKind),(l.map λz=>if c z.1 z.2=true then (z.1,NameKind.cell) else (z.1,z.2)).lookup y=(l.lookup y).map λk=>if c y k=true then NameKind.cell else k
 | []=>rfl
 | (n,k) :: l=>by
  have ih:=lG (c:=c) (y:=y) l
  rw[Ew]
  have e:(if c n k=true then (n,NameKind.cell) else (n,k))=(n,if c n k=true then NameKind.cell else k):=by split <;> rfl
  show List.lookup y ((if c n k=true then (n,NameKind.cell) else (n,k)) :: _)=_
  rw[e,Iz,Iz]
  cases hx:(y == n) with
  | true =>
   have en:y=n:=eq_of_beq hx
   subst en
   rfl
  | false=>exact ih
def blk (X:Cx)(sc:Scope)(cl:List (Str×Addr))(C:Addr)(N':List Str)(s:DP)(H:Hp)(fp:List Addr):Cx :=
 { X with N:=N',s₀:=s,H₀:=H,env:=compEnvC sc cl C X.env,outer:=X.stack,ex:=fp,fn:=λ_=>false,pn:=[],xe:=λ_ _=>False }
def PF (X:Cx)(ifs:List Expr)(t:TT):Prop :=
  ∀(pins:List (Addr×Obj)) (s:DP) (σ:St) (H:Hp) (Q:Bool->Hp->Prop),Inv X pins σ H s->t σ H Q →
    Ee (Es X.prog X.w) X.A (forIn ifs true λc r=>if r=true then do let ok ← isTrue c X.env (eval c X.env);pure (ForInStep.yield ok) else pure (ForInStep.yield r)) (TP X pins σ Q) X.xe s
theorem cA {X:Cx}:PF X [] (λ_ H Q=>Q true H):=λ_ _ _ H _ I h=>wpAny_tests_nil ⟨H,I,h⟩
theorem eB {X:Cx}{c:Expr}{t:TT}(h:PT X c t):PF X [c] t:=λpins s σ H Q I q=>wpAny_tests_one (h pins s σ H Q I q)
def inner (ix:List (Option Nat))(σ:St):St:=ix.map λo=>match o with | none=>none | some j=>(σ[j]?).join
def iO (J:It)(g:TG)(tc:TT)(te:TE)(τ:St)(Q:VK)(H1:Hp):Prop:=∃W:Nat->Nat->St->List V->Hp->Prop,(∃m,W 0 m τ [] H1)/\∀i m τ ys H,W i m τ ys H →
 (J.stop i H/\ys.length<=D3/\∀l,H l=none->Q (.ref l) (upd H l (.lst ys))) ∨
 (J.go i H/\∀x H',J.yld i H x H'->g x τ H' λτ2 H2=>tc τ2 H2 λb H3=>if b=true then te τ2 H3 λy H4=>ys.length<D3/\∃m',m'<m/\W (i+1) m' τ2 (ys++[y]) H4 else ∃m',m'<m/\W (i+1) m' τ2 ys H3)
def xu (ix:List (Option Nat))(wi:TI)(g:TG)(tc:TT)(te:TE):TE:=λσ H Q=>wi σ H λJ H1=>iO J g tc te (inner ix σ) Q H1
section
variable  {X:Cx}{sc:Scope}{N':List Str}{ix:List (Option Nat)}{pins:List (Addr×Obj)}{σ:St}{H:Hp}{s:DP}
theorem BV (I:Inv X pins σ H s)(K:lF X.env.scope.names X.N sc N' ix){C:Addr}{fp:List Addr}(hC:s.heap.objs.size<=C)(f:∀b∈fp,iH X pins H b)(fl:∀b∈fp,b<s.heap.objs.size) :
  (blk X sc (aV X.env sc.names []) C N' s H fp).Ok:=by
 have hcl:∀y∈sc.names,y.2 = .free->∃c,X.env.cells.lookup y.1=some c:=λy hy e=>I.ok.has y.1 (K.frees y hy e)
 have up:∀y c,(aV X.env sc.names []).lookup y=some c->X.env.cells.lookup y=some c:=λy c e=>by
  rcases dD sc.names [] hcl e with q | q
  ·cases q
  ·exact q
 have nfs:∀b∈fp,b∉frs X.stack:=λb hb z=>by
  rcases Eg.mp (I.oY b z) with q | q
  ·exact (f b hb).2.1 q
  ·exact (f b hb).2.2.1 q
 refine ⟨I.ok.mod,K.kind,I.ok.glob,I.ok.blt,hC,λy z c h1 h2=>I.ok.inj y z c (up _ _ h1) (up _ _ h2),λy hy =>?_,(λy c h=>nomatch h),I.ok.hd,I.ok.frames,.inl rfl,λb hb =>?_,λb o e=>I.bs b o e,EI I.ok.bsz I.sz,λb o e hb =>?_,nfs,I.stack,I.oZ⟩
 ·have hy':(relabel sc X.env).names.lookup y=some .cell\/(relabel sc X.env).names.lookup y=some .free:=hy
  have em:=lG (c:=λn k=>k == .free && X.env.scope.kind == .function && X.env.kindOf n == some .cell) (y:=y) sc.names
  have em':(relabel sc X.env).names.lookup y=_:=em
  rw[em'] at hy'
  cases hq:sc.names.lookup y with
  | none=>rw[hq] at hy';rcases hy' with q | q <;> cases q
  | some k =>
   have km:=jZ hq
   have hk:k = .free:=by
    rw[hq] at hy'
    simp only[KZ,Option.some.injEq] at hy'
    by_cases hc:(k == .free && X.env.scope.kind == .function && X.env.kindOf y == some .cell)=true
    ·rw[Fo,Fo] at hc
     exact by simpa using hc.1.1
    ·rw[if_neg hc] at hy'
     rcases hy' with q | q
     ·exact absurd q (K.nocell _ km)
     ·exact q
   subst hk
   exact fg sc.names [] (.inl km)
 ·exact ⟨Ed (Ec (fl b hb) hC),λy c e=>(f b hb).2.2.2.2.1 y c (up y c e)⟩
 ·rcases (f b hb).2.2.2.1 with q | q
  ·exact I.ok.noex b o e q
  ·exact absurd (Ec (D4 e) (EI I.ok.bsz q)) (Fe _)
theorem zz (I:Inv X pins σ H s)(K:lF X.env.scope.names X.N sc N' ix){C:Addr}{fp:List Addr}(hC:s.heap.objs.size<=C)(f:∀b∈fp,iH X pins H b)(fl:∀b∈fp,b<s.heap.objs.size)
  {h1:Heap} {t:Nat} {m:Str->Option DK} (k:∀b o,s.heap.get? b=some o->h1.get? b=some o) (ns:h1.Ns C m) :
  Inv (blk X sc (aV X.env sc.names []) C N' s H fp) [] (inner ix σ) H { s with heap:=h1,toks:=t }:=by
 have hcl:∀y∈sc.names,y.2 = .free->∃c,X.env.cells.lookup y.1=some c:=λy hy e=>I.ok.has y.1 (K.frees y hy e)
 have up:∀y c,(aV X.env sc.names []).lookup y=some c->X.env.cells.lookup y=some c:=λy c e=>by
  rcases dD sc.names [] hcl e with q | q
  ·cases q
  ·exact q
 refine ⟨BV I K hC f fl,rfl,I.bare,Un.kept k,⟨m,ns,λi y v e1 e2 e3 =>?_⟩,λy c e =>?_,I.hok.fresh hC,λy c e=>I.freeC y c (up y c e),(λp hp=>nomatch hp),I.hok.kept k,?_⟩
 ·have e2':(ix.map λo=>match o with | none=>none | some j=>(σ[j]?).join)[i]? = some (some v):=e2
  rw[D1] at e2'
  cases hi:ix[i]? with
  | none=>rw[hi] at e2';cases e2'
  | some o =>
   cases o with
   | none=>rw[hi] at e2';cases e2'
   | some j =>
    rw[hi] at e2'
    have e4:(σ[j]?).join=some v:=EA e2'
    have e5:σ[j]? = some (some v):=by
     cases hj:σ[j]? with
     | none=>rw[hj] at e4;cases e4
     | some z=>rw[hj] at e4;rw[show z=some v from e4]
    obtain ⟨n1,n2⟩:=K.slot i j y hi e1
    have mem:=jZ n2
    have kc:X.env.kindOf y=some .cell\/X.env.kindOf y=some .free:=K.frees _ mem rfl
    obtain ⟨m',_,hl⟩:=I.loc
    obtain ⟨u,r,l⟩:=hl j y v n1 e5 (.inr kc)
    refine ⟨u,r,?_⟩
    rcases l with ⟨q,_⟩ | ⟨_,c,q,z⟩
    ·rcases kc with kc | kc <;> (rw[kc] at q;cases q)
    ·obtain ⟨c',hc'⟩:=fg (env:=X.env) (y:=y) sc.names [] (.inl mem)
     have:=up y c' hc'
     rw[q] at this
     cases this
     refine .inr ⟨?_,c,hc',z.keeps k⟩
     have em:=lG (c:=λn k=>k == .free && X.env.scope.kind == .function && X.env.kindOf n == some .cell) (y:=y) sc.names
     have em':(relabel sc X.env).names.lookup y=_:=em
     rcases kc with kc | kc
     ·left
      show (relabel sc X.env).names.lookup y=some .cell
      rw[em',n2]
      simp only[KZ,kc,I.ok.kind]
      rfl
     ·right
      show (relabel sc X.env).names.lookup y=some .free
      rw[em',n2]
      simp only[KZ,kc,I.ok.kind]
      rfl
 ·obtain ⟨v,z⟩:=I.cell y c (up y c e)
  exact ⟨v,z.keeps k⟩
 ·show (ix.map _).length=N'.length
  rw[DI]
  exact K.len
end
theorem rO {prog:D9}{w:EE}{A:EV}{R:Result->DP->Prop}{s:DP}{elt target iter:Expr}{ifs:List Expr}{sc:Scope}{pos:Pos}{it acc:DK}{env:Env}(J:Nat->DP->Prop)
    (turn:∀n s,J n s->Ee (Es prog w) A (pyNext it) (λr s1=>match r with
      | none=>R (.ok .next) s1
      | some v=>Ee (Es prog w) A (letOwnedTupleGo target it v) (λ_ s2=>Ee (Es prog w) A (assign target env v) (λ_ s3 =>
          Ee (Es prog w) A (forIn ifs true λc r=>if r=true then do let ok ← isTrue c env (eval c env);pure (ForInStep.yield ok) else pure (ForInStep.yield r)) (λok s4 =>
            if ok=true then Ee (Es prog w) A (eval elt env) (λx s5=>Ee (Es prog w) A (call (.builtin "list.append") [acc,x]) (λ_ s6=>∃m,m<n/\J m s6) (λ_ _=>False) s5) (λ_ _=>False) s4
            else ∃m,m<n/\J m s4) (λ_ _=>False) s3) (λ_ _=>False) s2) (λ_ _=>False) s1) (λ_ _=>False) s)
    (n:Nat) (h:J n s):IL (Es prog w) A (.compLoop (.ListComp elt [⟨target,iter,ifs,0⟩] sc pos) 0 it acc env) R s:=by
  refine codeAny_loop rfl J (λk t q =>?_) n h
  show Ee _ A (Sem.onRaise (compTurn (.ListComp elt [⟨target,iter,ifs,0⟩] sc pos) 0 it acc env) (λx=>do noteFrame x env;theTreesLotGoes x)) _ _ t
  refine wpAny_noted ?_
  rw[compTurn_list]
  have no:∀{E:DK->DP->Prop} (x:DK) (t:DP),False->E x t:=λ_ _ z=>z.elim
  refine DH (Jw (DH (Gk (turn k t q) (λr s1 h1 =>?_) no)))
  cases r with
  | none=>exact DN h1
  | some v =>
    refine DH (Gk h1 (λ_ s2 h2=>DH (Gk h2 (λ_ s3 h3=>DH (Gk h3 (λok s4 h4 =>?_) no)) no)) no)
    cases ok with
    | false=>exact DN ⟨rfl,h4⟩
    | true=>exact DH (DH (Gk h4 (λx s5 h5=>DH (Gk h5 (λ_ s6 h6=>DN (DN ⟨rfl,h6⟩)) no)) no))
section
variable  {X:Cx}
def zA (X:Cx)(pins:List (Addr×Obj))(σ:St)(Q:VK)(use:Option (DK->Sem Unit))(Q2:DK->DP->Prop):Prop :=
 ∀(s4:DP) (H3:Hp) (acc C:Addr) (ys:List V) (oC:Obj),Inv X (pins++[(C,oC)]) σ (upd H3 acc (.lst ys)) s4->(∃m,s4.heap.Ns C m)->X.s₀.heap.objs.size<=C->(∀x c,X.env.cells.lookup x=some c->c≠C)->(∀p∈X.pn++pins,p.1≠C)->Q (.ref acc) (upd H3 acc (.lst ys)) →
  compPost (Es X.prog X.w) X.A X.xe use Q2 (.ref acc) C (.ok .next) s4
theorem oh {elt target iter:Expr}{ifs:List Expr}{sc:Scope}{pos ps:Pos}{wi:TI}{g:TG}{tc:TT}{te:TE}{N':List Str}{ix:List (Option Nat)}{use:Option (DK->Sem Unit)}{Q2:DK->DP->Prop}
  {pins:List (Addr×Obj)} {s:DP} {σ:St} {H:Hp} {Q:VK}
  (hcalm:X.calm=true) (hi:PI X target iter wi) (hk:qr X.env.scope.names X.N sc N' ix=true)
  (hg:∀cl C s H fp,PG (blk X sc cl C N' s H fp) target g) (hc:∀cl C s H fp,PF (blk X sc cl C N' s H fp) ifs tc) (he:∀cl C s H fp,PE (blk X sc cl C N' s H fp) elt te)
  (hs:∀x,foldedSetIterable iter X.env x=pure x) (fin:zA X pins σ Q use Q2) (I:Inv X pins σ H s) (h:xu ix wi g tc te σ H Q) :
  Ee (Es X.prog X.w) X.A (comprehension (.ListComp elt [⟨target,iter,ifs,0⟩] sc pos) sc X.env ps (newList []) false (eval iter X.env) use) Q2 X.xe s:=by
 have K:=lF.of hk
 have hcl:∀y∈sc.names,y.2 = .free->∃c,X.env.cells.lookup y.1=some c:=λy hy e=>I.ok.has y.1 (K.frees y hy e)
 refine wpAny_comprehension_free rfl hs (rN hcl) K.kind K.locs (thn (hi pins s σ H _ I h) λv s1 h1=>thn h1 λitv s2 h2 =>?_)
 obtain ⟨it,fp,tn,J,H2,e,I2,T,st2,f2,W,⟨m0,w0⟩,turn⟩:=h2
 subst e
 refine E7 (wpAny_newFunctionEnv K.nocell (by intro y hy;simp at hy) (λh1 ns1 sb1 =>?_) K.kind)
 dsimp only at ns1 sb1 ⊢
 generalize hP:s2.heap.push { cls :=.type "list",dict:=none,data :=.seq ([]:List DK).toArray }=G at ns1 sb1 ⊢
 have sG:G.objs.size=s2.heap.objs.size+1:=by rw[<- hP,Fz]
 have fl:∀b∈fp,b<s2.heap.objs.size:=λb hb=>by
  obtain ⟨o,e,_⟩:=T.obj _ _ st2 b hb
  exact D4 e
 have hC:s2.heap.objs.size<=G.objs.size:=by rw[sG];exact Kg _
 have aC:s2.heap.objs.size≠G.objs.size:=by rw[sG];exact Ed (GA _)
 have old:∀b o,s2.heap.get? b=some o->h1.get? b=some o:=λb o e=>by
  have lt:=D4 e
  have ne:b≠G.objs.size:=Ed (Ec lt hC)
  rw[sb1.2 b ne]
  exact DJ _ (hP ▸ DJ _ e)
 have accO:h1.PlainList s2.heap.objs.size #[]:=⟨_,by
  rw[sb1.2 _ aC]
  exact DJ _ (hP ▸ D2 _ rfl)⟩
 have IB:=zz (t:=s2.toks+([]:List (Str×DK)).length) I2 K hC f2 fl old ns1
 have up:∀y c,(aV X.env sc.names []).lookup y=some c->X.env.cells.lookup y=some c:=λy c e=>by
  rcases dD sc.names [] hcl e with q | q
  ·cases q
  ·exact q
 have accNotCell:∀y c,(aV X.env sc.names []).lookup y=some c->c≠s2.heap.objs.size:=λy c e z=>by
  obtain ⟨v,q⟩:=I2.cell y c (up y c e)
  exact absurd q.lt (by rw[z];exact Fe _)
 have accFs:s2.heap.objs.size∉frs X.stack:=λz=>by
  rcases Eg.mp (I2.oY _ z) with q | q
  ·exact absurd I2.lt (by rw[<- q];exact Fe _)
  ·exact I2.Bz (DS _) q
 have accFp:s2.heap.objs.size∉fp:=λz=>absurd (fl _ z) (Fe _)
 have stat:∀{H':Hp} {ob:Obj},(∀b∈fp,H' b=none)->∀b∈fp,iH (blk X sc (aV X.env sc.names []) G.objs.size N' s2 H2 fp) [(s2.heap.objs.size,ob)] H' b:=λ{H' ob} hn b hb=>by
  refine ⟨hn b hb,Ed (Ec (fl b hb) hC),IB.ok.exfs b hb,.inl hb,λy c e=>(f2 b hb).2.2.2.2.1 y c (up y c e),λp hp z =>?_⟩
  have ep:p=(s2.heap.objs.size,ob):=by simpa [blk] using hp
  subst ep
  exact accFp (by rw[show s2.heap.objs.size=b from z];exact hb)
 have accPin:∀{pl:List (Addr×Obj)} {σ':St} {H':Hp} {s':DP} {its:Array DK} {n:Nat},Inv (blk X sc (aV X.env sc.names []) G.objs.size N' s2 H2 fp) pl σ' H' s'->s'.heap.get? s2.heap.objs.size=some { cls :=.type "list",data :=.seq its n } →
   H' s2.heap.objs.size=none->Inv (blk X sc (aV X.env sc.names []) G.objs.size N' s2 H2 fp) [(s2.heap.objs.size,{ cls :=.type "list",data :=.seq its n })] σ' H' s':=λ{pl σ' H' s' its n} J' e nn=>J'.iD λp hp=>by
  have ep:p=(s2.heap.objs.size,({ cls :=.type "list",data :=.seq its n }:Obj)):=by simpa [blk] using hp
  subst ep
  exact ⟨e,nn,aC,accFs,λv z=>nomatch z⟩
 have loop:IL (Es X.prog X.w) X.A (.compLoop (.ListComp elt [⟨target,iter,ifs,0⟩] sc pos) 0 (.ref it) (.ref s2.heap.objs.size) (compEnvC sc (aV X.env sc.names []) G.objs.size X.env))
   (compPost (Es X.prog X.w) X.A X.xe use Q2 (.ref s2.heap.objs.size) G.objs.size) { s2 with heap:=h1,toks:=s2.toks+([]:List (Str×DK)).length }:=by
  refine rO (λn s'=>∃i ys its nn σ' H',Inv (blk X sc (aV X.env sc.names []) G.objs.size N' s2 H2 fp) [(s2.heap.objs.size,{ cls :=.type "list",data :=.seq its nn })] σ' H' s'/\Vals ys its.toList/\tn i s'.heap/\(∀b∈fp,H' b=none)/\W i n σ' ys H')
   (λn s3 h3 =>?_) m0 ?_
  ·obtain ⟨i,ys,its,nn,σ3,H3,I3,r3,st3,fr3,w3⟩:=h3
   obtain ⟨e3,a3,_,_,_⟩:=I3.pin (s2.heap.objs.size,{ cls :=.type "list",data :=.seq its nn }) (by simp[blk])
   rcases turn i n σ3 ys H3 w3 with ⟨stop,zl,q3⟩ | ⟨go,step⟩
   ·refine thn (T.done (blk X sc (aV X.env sc.names []) G.objs.size N' s2 H2 fp) rfl rfl rfl hcalm i _ s3 σ3 H3 _ I3 (stat fr3) st3 stop) λr s4 ⟨hr,I4⟩ =>?_
    subst hr
    obtain ⟨e4,a4,_,_,_⟩:=I4.pin (s2.heap.objs.size,{ cls :=.type "list",data :=.seq its nn }) (by simp[blk])
    obtain ⟨m4,n4,_⟩:=I4.loc
    obtain ⟨oC,es4,ep4,c4,d4,r4⟩:=id n4
    have ltA:∀b o,s2.heap.get? b=some o->b≠s2.heap.objs.size:=λb o e=>Ed (D4 e)
    have B:=I4.base
    have hok:HOk X.prog X.w (upd H3 s2.heap.objs.size (.lst ys)) s4.heap:=λb o e=>by
     by_cases hb:b=s2.heap.objs.size
     ·subst hb
      rw[ag] at e
      cases e
      exact ⟨zl,its.toList,nn,r3,e4⟩
     ·rw[aq hb] at e
      refine (I4.hok b o e).stay (λc u hc q=>q) (λc q =>?_) (λc xs q =>?_)
      ·rw[aq (av q a4)];exact q
      ·rw[aq (av q a4)];exact q
    have I5:Inv X pins σ (upd H3 s2.heap.objs.size (.lst ys)) s4:=by
     refine I2.AX (ch:=fp) I4.os ⟨λb o e n hb hx=>B.keep b o e n hb hx,λb o e n hb hx=>B.slot b o e n hb hx,λb o e n hx =>?_,λb o e hx=>B.there b o e hx,λb xs e =>?_,λb o u e =>?_,λb ps e =>?_⟩ hok I4.bare (λb hb =>?_)
     ·rw[aq (ltA b o e)];exact B.free b o e n hx
     ·have q:=B.tups b xs e
      rw[aq (av q a4)];exact q
     ·have q:=B.frzs b o u e
      rw[aq (av q a4)];exact q
     ·obtain ⟨more,q⟩:=B.tbls b ps e
      exact ⟨more,by rw[aq (av q a4)];exact q⟩
     ·obtain ⟨g0,g1,g2,g3,g4,g5⟩:=f2 b hb
      exact ⟨g3,g1,g4,g5⟩
    have cL:G.objs.size≠X.env.locals:=Hu (Ec I2.lt hC)
    have I6:Inv X (pins++[(G.objs.size,oC)]) σ (upd H3 s2.heap.objs.size (.lst ys)) s4:=I5.iD λp hp=>by
     rcases D6.mp hp with q | q
     ·exact I5.pin p (EC _ q)
     ·have ep:p=(G.objs.size,oC):=by simpa using q
      subst ep
      exact ⟨c4,by rw[aq (Ft aC)];exact I4.free,cL,I2.Bz hC,λv z=>by rw[d4] at z;cases z⟩
    refine fin s4 H3 s2.heap.objs.size G.objs.size ys oC I6 ⟨m4,n4⟩ (EI I2.sz hC) (λy c e z =>?_) (λp hp z =>?_) (q3 _ a4)
    ·obtain ⟨v,q⟩:=I2.cell y c e
     exact absurd (Ec q.lt hC) (by rw[z];exact Fe _)
    ·exact absurd (Ec (D4 (I2.pin p hp).1) hC) (by rw[z];exact Fe _)
   ·refine thn (T.item (blk X sc (aV X.env sc.names []) G.objs.size N' s2 H2 fp) rfl rfl rfl hcalm i _ s3 σ3 H3 _ I3 (stat fr3) st3 go) λr s4 ⟨u,hr,h4⟩ =>?_
    subst hr
    refine thn h4 λ_ s5 ⟨x,H5,I5,r5,y5,st5,fr5⟩ =>?_
    have I5':=I5.pinned (stat fr5) (T.obj _ _ st5)
    refine thn (hg _ _ _ _ _ _ s5 σ3 H5 x u _ I5' r5 (step x H5 y5)) λ_ s6 ⟨σ6,H6,I6,q6⟩ =>?_
    refine thn (hc _ _ _ _ _ _ s6 σ6 H6 _ I6 q6) λok s7 ⟨H7,I7,q7⟩ =>?_
    have back:∀{σ7:St} {H7:Hp} {s7:DP},Inv (blk X sc (aV X.env sc.names []) G.objs.size N' s2 H2 fp) ([(s2.heap.objs.size,{ cls :=.type "list",data :=.seq its nn })]++ia fp s5.heap) σ7 H7 s7->tn (i+1) s7.heap/\∀b∈fp,H7 b=none:=λJ7 =>
     ⟨T.keep _ _ _ st5 λb hb o e=>(J7.pin (b,o) (EC _ (EC _ (dG hb e)))).1,λb hb=>by
      obtain ⟨o,e,d⟩:=T.obj _ _ st5 b hb
      exact (J7.pin (b,o) (EC _ (EC _ (dG hb e)))).2.1⟩
    cases ok with
    | false =>
     rw[if_neg (by decide)] at q7
     obtain ⟨m',lm,w7⟩:=q7
     show ∃m,m<n/\_
     exact ⟨m',lm,i+1,ys,its,nn,σ6,H7,I7.eL,r3,(back I7).1,(back I7).2,w7⟩
    | true =>
     rw[if_pos rfl] at q7
     refine thn (he _ _ _ _ _ _ s7 σ6 H7 _ I7 q7) λz s8 ⟨y,H8,I8,r8,lz,m',lm,w8⟩ =>?_
     obtain ⟨e8,a8,_,_,_⟩:=I8.pin (s2.heap.objs.size,{ cls :=.type "list",data :=.seq its nn }) (by simp[blk])
     have sz:its.size<=D3:=by
      have l:ys.length=its.size:=r3.length.trans DY
      rw[<- l]
      exact FN lz
     refine wpAny_list_append_plain ⟨nn,e8⟩ (λh' pl' sb' =>?_) sz
     obtain ⟨n9,e9⟩:=pl'
     have I8p:Inv (blk X sc (aV X.env sc.names []) G.objs.size N' s2 H2 fp) (ia fp s5.heap) σ6 H8 s8:=I8.iD λp hp=>I8.pin p (EC _ (EC _ hp))
     have I9:=I8p.turned (it:=s2.heap.objs.size) (h':=h') (t':=s8.toks) (λb o ne e=>by rw[sb'.2 b ne];exact e) a8 aC (.inr (DS _)) (λy c e=>accNotCell y c e) (λp hp z=>by
      have hp':p∈ia fp s5.heap:=by simpa [blk] using hp
      exact accFp (by rw[<- z];exact (nY hp').1))
     have b9:tn (i+1) h'/\∀b∈fp,H8 b=none :=
      ⟨T.keep _ _ _ st5 λb hb o e=>(I9.pin (b,o) (EC _ (dG hb e))).1,(back I8).2⟩
     exact ⟨m',lm,i+1,ys++[y],its.push z,n9,σ6,H8,accPin I9 e9 a8,by rw[Gi];exact r3.append (.cons r8 .nil),b9.1,b9.2,w8⟩
  ·obtain ⟨n0,e0⟩:=accO
   exact ⟨0,[], #[],n0,_,H2,accPin IB e0 (I2.hok.fresh (DS _)),.nil,T.keep _ _ _ st2 λb hb o e=>old b o e,λb hb=>(f2 b hb).1,w0⟩
 exact codeAny_compStart_list loop (T.self _ 0 _ _ _ (T.keep _ _ _ st2 λb hb o e=>old b o e) loop)
theorem bo {elt target iter:Expr}{ifs:List Expr}{sc:Scope}{pos:Pos}{wi:TI}{g:TG}{tc:TT}{te:TE}(N':List Str)(ix:List (Option Nat))
  (hcalm:X.calm=true) (hi:PI X target iter wi) (hk:qr X.env.scope.names X.N sc N' ix=true)
  (hg:∀cl C s H fp,PG (blk X sc cl C N' s H fp) target g) (hc:∀cl C s H fp,PF (blk X sc cl C N' s H fp) ifs tc) (he:∀cl C s H fp,PE (blk X sc cl C N' s H fp) elt te)
  (hs:∀x,foldedSetIterable iter X.env x=pure x:=by intro _;rfl):PE X (.ListComp elt [⟨target,iter,ifs,0⟩] sc pos) (xu ix wi g tc te):=by
 intro pins s σ H Q I h
 rw[eval_ListComp]
 refine oh hcalm hi hk hg hc he hs (λs4 H3 acc C ys oC I4 ns hC hc hp q =>?_) I h
 obtain ⟨m,ns⟩:=ns
 refine ⟨m,ns,λh' sb=>⟨.ref acc,_,?_,rfl,q⟩⟩
 obtain ⟨_,n0,n1,n2,_⟩:=I4.pin (C,oC) (by simp)
 exact (I4.eL).turned (it:=C) (h':=h') (t':=s4.toks) (λb o ne e=>by rw[sb.2 b ne];exact e) n0 n1 (.inr hC) hc hp
theorem fj {elt target iter:Expr}{ifs:List Expr}{sc:Scope}{pos pos' spos:Pos}{wi:TI}{g:TG}{tc:TT}{te:TE}{i:Nat}{x:Str}(N':List Str)(ix:List (Option Nat))
    (hcalm:X.calm=true) (hN:X.N.Nodup) (hx:X.N[i]? = some x) (hl:X.env.scope.names.lookup x=some .local)
    (hi:PI X target iter wi) (hk:qr X.env.scope.names X.N sc N' ix=true)
    (hg:∀cl C s H fp,PG (blk X sc cl C N' s H fp) target g) (hc:∀cl C s H fp,PF (blk X sc cl C N' s H fp) ifs tc) (he:∀cl C s H fp,PE (blk X sc cl C N' s H fp) elt te)
    (hsw:swapsWith (.ListComp elt [⟨target,iter,ifs,0⟩] sc pos) (some (.Name x pos')) spos.line X.env=pure true:=by rfl)
    (hs:∀x,foldedSetIterable iter X.env x=pure x:=by intro _;rfl):PS X (.Assign [.Name x pos'] (.ListComp elt [⟨target,iter,ifs,0⟩] sc pos) spos) (BE (xu ix wi g tc te) (fR i)):=by
  intro pins s σ H D I h
  rw[exec_Assign_Name_used _ _ _ _ hsw]
  refine DH (Jw (DH ?_))
  show Ee _ X.A (do let _ ← comprehension (.ListComp elt [⟨target,iter,ifs,0⟩] sc pos) sc X.env _ (newList []) false (eval iter X.env) (some (assign (.Name x pos') X.env))) _ _ s
  refine DH (Gk (oh (Q:=λv H1=>D.nx (σ.set i (some v)) H1) (Q2:=λ_ s'=>SP X pins D .next s') hcalm hi hk hg hc he hs (λs4 H3 acc C ys oC I4 ns hC hc hp q =>?_) I h) (λ_ s' q=>DN (DN q)) λ_ _ e=>e)
  obtain ⟨m,ns⟩:=ns
  obtain ⟨e0,n0,n1,n2,_⟩:=I4.pin (C,oC) (by simp)
  show Ee _ X.A (assign (.Name x pos') X.env (.ref acc)) _ _ s4
  refine thn ((aB (i:=i) hN hx (.inl hl) (.inr hl)) (pins++[(C,oC)]) s4 σ _ (.ref acc) (.ref acc) _ I4 rfl q) λ_ s5 ⟨σ5,H5,I5,q5⟩ =>?_
  obtain ⟨e5,k0,k1,k2,_⟩:=I5.pin (C,oC) (by simp)
  obtain ⟨o',es',ep',c',r'⟩:=ns
  have e':=e0.symm.trans c'
  cases e'
  refine ⟨m,⟨_,es',ep',e5,r'⟩,λh' sb=>⟨σ5,H5,?_,q5⟩⟩
  exact (I5.eL).turned (it:=C) (h':=h') (t':=s5.toks) (λb o ne e=>by rw[sb.2 b ne];exact e) k0 k1 (.inr hC) hc hp
end
section
variable  {X:Cx}
def Df (K:DM):R2:=λx y H Q=>∃l b xs zs,x = .ref l/\y = .ref b/\SqL K H l xs/\SqL K H b zs/\xs.length+zs.length<=D3/\∀p,H p=none->Q (.ref p) (upd H p (.lst (xs++zs)))
theorem fq:OpR X (binaryOp .Add) (Df X.K):=by
 intro pins s σ H x y v u Q I rx ry h
 obtain ⟨l,b,xs,zs,rfl,rfl,hH,hB,hz,q⟩:=h
 cases rx
 cases ry
 obtain ⟨its,r,e,z⟩:=I.list hH
 obtain ⟨its2,r2,e2,z2⟩:=I.list hB
 obtain ⟨⟨c1,d1,da1,sl1⟩,n,e,k1,k2,k3⟩:=e
 obtain ⟨⟨c2,d2,da2,sl2⟩,n2,e2,g1,g2,g3⟩:=e2
 simp only at k1 k3 g1 g3
 subst k1 k3 g1 g3
 have l1:=r.length
 have l2:=r2.length
 have ea:its.toArray++its2.toArray=(its++its2).toArray:=by simp
 refine La ⟨_,e,rfl⟩ ⟨_,e2,rfl⟩ noFill_list_add seq_list_add PySem.F.slot_list_add PySem.F.entry_list_add
  (PySem.F.args_list_add_2 _ _) (list_addW l b its.toArray its2.toArray n n2 d1 d2 sl1 sl2 (by rw[DR,DR];omega)) ⟨e,e2,?_⟩
 rw[ea]
 exact ⟨.ref _,_,I.lnew (t':=s.toks) (r.append r2) (by rw[DT];omega),rfl,q _ I.fresh⟩
theorem dY:bH X (.builtin "isinstance") (λxs H Q=>∃x T t b,xs=[x,.ty T]/\iJ X.K H x t/\PySem.W.kitOne X.K t (.type T)=some b/\Q (.bl b) H):=by
 intro pins s σ H xs us Q I r h
 obtain ⟨x,T,t,b,rfl,ty,e,q⟩:=h
 obtain ⟨u,w',rfl,ru,rw'⟩:=vals2 r
 cases (show w'=GO T from rw')
 exact vk I ru ty e λtk=>⟨.bl b,H,I.tok tk,rfl,q⟩
end
def tW (k:Nat)(tc:TT)(te:TE)(τ:St)(Pv:Nat->List V->Hp->Prop)(i:Nat)(x:V)(ys:List V)(H:Hp):Prop :=
 ∀(R1:V->Hp->Prop) (R0:Hp->Prop),(∀y H4,Pv (i+1) (ys++[y]) H4->R1 y H4)->(∀H3,Pv (i+1) ys H3->R0 H3)->tc (τ.set k (some x)) H λb H3=>if b=true then te (τ.set k (some x)) H3 R1 else R0 H3
theorem aW {K:DM}{a:Addr}{xs:List V}{k:Nat}{tc:TT}{te:TE}{τ:St}{H:Hp}{Q:VK}(Pv:Nat->List V->Hp->Prop)(h0:Pv 0 [] H)(hz:xs.length<=D3)
  (hl:∀i ys H,i<=xs.length->Pv i ys H->SqL K H a xs) (hs:∀i x ys H,xs[i]? = some x->ys.length<=i->Pv i ys H->tW k tc te τ Pv i x ys H)
  (hd:∀ys H,ys.length<=xs.length->Pv xs.length ys H->∀l,H l=none->Q (.ref l) (upd H l (.lst ys))) :
  iO (Itl K a) (fR k) tc te τ Q H:=by
 refine ⟨λi m σ ys H=>m=xs.length-i/\i<=xs.length/\(∀x,σ.set k (some x)=τ.set k (some x))/\ys.length<=i/\Pv i ys H,⟨xs.length,by simp,EB _,λ_=>rfl,DS _,h0⟩,?_⟩
 rintro i m σ ys H ⟨rfl,hi,hτ,hy,p⟩
 have q:=hl i ys H hi p
 by_cases hlt:i<xs.length
 ·refine .inr ⟨⟨xs,xs[i],q,by simp[hlt]⟩,λx H' y =>?_⟩
  obtain ⟨e,y⟩:=y
  subst e
  show tc (σ.set k (some x)) _ _
  rw[hτ x]
  have hσ:∀z,(τ.set k (some x)).set k (some z)=τ.set k (some z):=λz=>by rw[HQ]
  refine hs i x ys _ (y xs q) hy p _ _ (λy4 H4 p4=>⟨by lia,xs.length-(i+1),by lia,rfl,hlt,hσ,by rw[DT,Fj];lia,p4⟩) λH3 p3=>⟨xs.length-(i+1),by lia,rfl,hlt,hσ,by lia,p3⟩
 ·have e:i=xs.length:=by lia
  subst e
  exact .inl ⟨⟨xs,q,DS _⟩,by lia,hd ys H hy p⟩
theorem gH {K:DM}{a:Addr}{xs:List V}{k:Nat}{tc:TT}{te:TE}{τ:St}{H:Hp}{Q:VK}(Pv:Nat->List V->Hp->Prop)(h0:Pv 0 [] H)(hz:xs.length<=D3)
  (hl:∀i ys H,i<=xs.length->Pv i ys H->SqT K H a xs) (hs:∀i x ys H,xs[i]? = some x->ys.length<=i->Pv i ys H->tW k tc te τ Pv i x ys H)
  (hd:∀ys H,ys.length<=xs.length->Pv xs.length ys H->∀l,H l=none->Q (.ref l) (upd H l (.lst ys))) :
  iO (Itt K a) (fR k) tc te τ Q H:=by
 refine ⟨λi m σ ys H=>m=xs.length-i/\i<=xs.length/\(∀x,σ.set k (some x)=τ.set k (some x))/\ys.length<=i/\Pv i ys H,⟨xs.length,by simp,EB _,λ_=>rfl,DS _,h0⟩,?_⟩
 rintro i m σ ys H ⟨rfl,hi,hτ,hy,p⟩
 have q:=hl i ys H hi p
 by_cases hlt:i<xs.length
 ·refine .inr ⟨⟨xs,xs[i],q,by simp[hlt]⟩,λx H' y =>?_⟩
  obtain ⟨e,y⟩:=y
  subst e
  show tc (σ.set k (some x)) _ _
  rw[hτ x]
  have hσ:∀z,(τ.set k (some x)).set k (some z)=τ.set k (some z):=λz=>by rw[HQ]
  refine hs i x ys _ (y xs q) hy p _ _ (λy4 H4 p4=>⟨by lia,xs.length-(i+1),by lia,rfl,hlt,hσ,by rw[DT,Fj];lia,p4⟩) λH3 p3=>⟨xs.length-(i+1),by lia,rfl,hlt,hσ,by lia,p3⟩
 ·have e:i=xs.length:=by lia
  subst e
  exact .inl ⟨⟨xs,q,DS _⟩,by lia,hd ys H hy p⟩
theorem du {lo:Int}{n:Nat}{k:Nat}{tc:TT}{te:TE}{τ:St}{H:Hp}{Q:VK}(Pv:Nat->List V->Hp->Prop)(h0:Pv 0 [] H)(hz:n<=D3)
  (hs:∀i ys H,i<n->ys.length<=i->Pv i ys H->tW k tc te τ Pv i (.int (lo+i)) ys H)
  (hd:∀ys H,ys.length<=n->Pv n ys H->∀l,H l=none->Q (.ref l) (upd H l (.lst ys))) :
  iO (Itr lo n) (fR k) tc te τ Q H:=by
 refine ⟨λi m σ ys H=>m=n-i/\i<=n/\(∀x,σ.set k (some x)=τ.set k (some x))/\ys.length<=i/\Pv i ys H,⟨n,by simp,EB _,λ_=>rfl,DS _,h0⟩,?_⟩
 rintro i m σ ys H ⟨rfl,hi,hτ,hy,p⟩
 by_cases hlt:i<n
 ·refine .inr ⟨hlt,λx H' y =>?_⟩
  obtain ⟨e,y⟩:=y
  subst e y
  show tc (σ.set k (some (.int (lo+i)))) _ _
  rw[hτ]
  have hσ:∀z,(τ.set k (some (.int (lo+i)))).set k (some z)=τ.set k (some z):=λz=>by rw[HQ]
  refine hs i ys _ hlt hy p _ _ (λy4 H4 p4=>⟨by lia,n-(i+1),by lia,rfl,hlt,hσ,by rw[DT,Fj];lia,p4⟩) λH3 p3=>⟨n-(i+1),by lia,rfl,hlt,hσ,by lia,p3⟩
 ·have e:i=n:=by lia
  subst e
  exact .inl ⟨DS _,by lia,hd ys H hy p⟩
structure Cal (P:D9)(w:EE)(K:DM)(mg:Str->Option DK)(base:Heap)(k:Nat)(x:Str)(ps:List Str)(sp:Sp):Prop where
 ex:∃f fd,bG P w K mg base CX0 k f fd ps sp/\mg x=some (.ref f)/\PySem.W.keepIn K (.ref f)=true/\Binds K fd ps []
theorem ay {X:Cx}{j k:Nat}{x:Str}{ps:List Str}{sp:Sp}{e:Expr}{es:List Expr}{t:TA}{p pos:Pos}(C:Cal X.prog X.w X.K X.mg X.base k x ps sp)(hr:cB j X.A)(hj:k<=j)(hg:Gl X x)(ha:PA X (e :: es) t)
  (hdb:(x == ("__debug__" : Str))=false:=by decide) (he:EL (e :: es) X.env=(false,eval e X.env) :: EL es X.env:=by rfl) (hpl:(Ib pos (EL es X.env)).any (·.1)=false:=by rfl) :
  PE X (.Call (.Name x p) (e :: es) [] pos) (xk sp [] E0 t):=by
 obtain ⟨f,fd,F,m,kp,b⟩:=C.ex
 exact tR F (hr.mono hj) hg m kp b .nil Dc ha hdb he hpl
theorem af {H:Hp}{p:Addr}(h:H p=none)(o:HO):aA H (upd H p o):=λb u q=>by rw[aq (av q h)];exact q
theorem nwZ {H:Hp}{x:Addr}(h:H x=none)(o:HO):∃ H',upd H x o=H'∧aA H H'∧H' x=some o:=⟨_,rfl,af h o,ag⟩
theorem small {n:Nat}(h:n<=1000):n<=D3:=FN (bq h)
section
variable  {X:Cx}
theorem j7 {its:List DK}{bs:List Bool}(h:Vals (bs.map V.bl) its){prog:D9}{w:EE}{A:EV}:TruthOf prog w A (λi v=>its.toArray[i]? = some v) (λi=>bs.getD i false):=by
 intro i v s Q E hv q
 have l:=h.length
 rw[DI] at l
 have hi:i<its.length:=by
  rw[ED] at hv
  exact (DQ.mp hv).1
 have e:(bs.map V.bl)[i]? = some (.bl (bs.getD i false)):=by
  rw[D1,DX,DL (by lia)]
  rfl
 obtain ⟨u,e1,e2⟩:=h.get e
 rw[ED,e1] at hv
 have ev:u=v:=EA hv
 subst ev
 cases (show u=Value.bool _ from e2)
 exact Gm q
theorem all_range (bs:List Bool):((EU bs.length).all λi=>bs.getD i false)=bs.all id:=by
 rw[Gb,Gf,Gf]
 constructor
 ·intro h x hx
  obtain ⟨i,e⟩:=Et.mp hx
  have hi:i<bs.length:=(DQ.mp e).1
  have q:=h i (E9.mpr hi)
  rw[DX,e] at q
  exact q
 ·intro h i hi
  have hi':=E9.mp hi
  rw[DX,DL hi']
  exact h _ (GB hi')
theorem iP (hc:X.calm=true):bH X (.builtin "all") (λxs H Q=>∃(p:Addr) (bs:List Bool),xs=[.ref p]/\SqL X.K H p (bs.map V.bl)/\Q (.bl (bs.all id)) H):=by
 intro pins s σ H xs us Q I r h
 obtain ⟨p,bs,rfl,hs,q⟩:=h
 obtain ⟨u,rfl,ru⟩:=vals1 r
 cases (show u=D8 p from ru)
 obtain ⟨its,rv,pl,hz⟩:=I.list hs
 have l:=rv.length
 rw[DI] at l
 have hpl:p<s.heap.objs.size:=by obtain ⟨o,_,e,_⟩:=pl;exact D4 e
 refine call_all_walk (GZ pl.isList ?_)
 have hd:X.A.in1.handled=none:=I.ok.hd hc
 refine ⟨s.heap.objs.size,_,_,_,_,_,_,rfl,Ma hd s.heap.objs.size p (Ed hpl) its.toArray,⟨⟨_,D2 _ rfl,rfl,rfl⟩,?_⟩,j7 rv,λh' tk k =>?_⟩
 ·exact pl.isList.at λo e=>DJ _ e
 ·have e:((EU its.toArray.size).all λi=>bs.getD i false)=bs.all id:=by rw[DR, <- l,all_range]
  rw[e]
  refine ⟨.bl (bs.all id),H,I.kept (t':=tk) (λb o eb=>k b o ?_ (DJ _ eb)),rfl,q⟩
  intro hb
  have:b=s.heap.objs.size:=by simpa using hb
  exact absurd (D4 eb) (by rw[this];exact Fe _)
def zB:V->List V->Hp->VK->Prop:=λx vs H Q=>∃(l:Addr) (xs:List V) (i:Int) (y:V),x = .ref l/\vs=[.int i,y]/\H l=some (.lst xs)/\0<=i/\i<=xs.length/\xs.length<D3/\Q .non (upd H l (.lst (xs.take i.toNat++y :: xs.drop i.toNat)))
theorem oj:MtM X "list.insert" zB:=by
 intro pins s σ H x vs v us Q I rx rv h
 obtain ⟨l,xs,i,y,rfl,rfl,hH,h0,h1,hz,q⟩:=h
 cases rx
 obtain ⟨ui,uy,rfl,⟨t,rfl⟩,ry⟩:=vals2 rv
 obtain ⟨z,its,n,r,hl,e⟩:=I.zv hH
 have zl:=ib
 have fits:¬ (!Builtin.List.listFitsIndex i)=true:=by
  have:Builtin.List.listFitsIndex i=true:=by
   unfold Builtin.List.listFitsIndex
   simp only[Fo,decide_eq_true_eq]
   lia
  rw[this];simp
 refine Jz F.slot_list_insert ⟨_,e,rfl⟩ F.entry_list_insert (F.args_list_insert_3 _ _ _) (Kr l its.toArray n i t uy fits (by rw[DR];lia)) ⟨e,?_⟩
 refine ⟨.non,_,I.zu (its':=its.take i.toNat++uy :: its.drop i.toNat) hH e ?_ ((r.take _).append (.cons ry (r.drop _))) ?_,rfl,q⟩
 ·have ek:min i.toNat its.toArray.size=i.toNat:=by rw[DR];lia
  dsimp only
  rw[if_neg (by lia),ek]
  apply IA.mp
  rw[ER,Gi,FX,FX,Fu,Fu]
  simp
  rw[D5 (by rw[Ez];lia)]
 ·rw[DT,Eu,EF,Ez]
  lia
def cT (K:DM)(H:Hp):Nat->V->V->Prop
 | 0,x,y=>(∃i,x = .int i/\y = .int i)\/∃a,x = .ref a/\y = .ref a
 | n+1,x,y=>(∃i,x = .int i/\y = .int i)\/(∃a,x = .ref a/\y = .ref a)\/∃a b xs ys,x = .ref a/\y = .ref b/\((SqT K H a xs/\SqT K H b ys)\/(SqL K H a xs/\SqL K H b ys))/\Paired (cT K H n) xs ys
theorem om {α β:Type}{F:α -> β -> Prop}:∀{l:List α} {m:List β} {i:Nat} {x:α} {y:β},Paired F l m->l[i]? = some x->m[i]? = some y->F x y
 | _,_,0,_,_,.cons h _,e1,e2=>by simp at e1 e2;subst e1 e2;exact h
 | _,_,i+1,_,_,.cons _ t,e1,e2=>om (i:=i) t (by simpa using e1) (by simpa using e2)
 | _,_,_,_,_,.nil,e1,_=>by simp at e1
theorem all_true (n:Nat):((EU n).all λ_=>true)=true:=by simp
theorem cV {K:DM}{H:Hp}{n:Nat}{s:DP}{A:EV}{xs ys:List V}{us vs:List DK}(p:Paired (cT K H n) xs ys)(r1:Vals xs us)(r2:Vals ys vs)
  (ih:∀x y u v,cT K H n x y->RelV x u->RelV y v->Iu A s u v true):∀j (h1:j<us.toArray.size) (h2:j<vs.toArray.size),Iu A s us.toArray[j] vs.toArray[j] true:=λj h1 h2=>by
 rw[DR] at h1 h2
 have l1:=r1.length
 have l2:=r2.length
 have e1:xs[j]? = some xs[j]:=DL (by omega)
 have e2:ys[j]? = some ys[j]:=DL (by omega)
 obtain ⟨u,g1,q1⟩:=r1.get e1
 obtain ⟨v,g2,q2⟩:=r2.get e2
 have f1:us.toArray[j]=u:=by simp[DQ] at g1;obtain ⟨_,g⟩:=g1;simpa using g
 have f2:vs.toArray[j]=v:=by simp[DQ] at g2;obtain ⟨_,g⟩:=g2;simpa using g
 rw[f1,f2]
 exact ih _ _ u v (om p e1 e2) q1 q2
theorem gI {pins:List (Addr×Obj)}{σ:St}{H:Hp}{s:DP}(I:Inv X pins σ H s):∀(n:Nat) (A:EV) (x y:V) (u v:DK),A.units+n<cLine->cT X.K H n x y->RelV x u->RelV y v->Iu A s u v true
 | 0,A,x,y,u,v,_,h,ru,rv=>by
  rcases h with ⟨i,rfl,rfl⟩ | ⟨a,rfl,rfl⟩
  ·obtain ⟨t,rfl⟩:=(show ∃t,u=FT i t from ru)
   obtain ⟨t',rfl⟩:=(show ∃t,v=FT i t from rv)
   have:=GJ (A:=A) (s:=s) i t i t'
   rw[beq_self_eq_true] at this
   exact this
  ·cases (show u=D8 a from ru)
   cases (show v=D8 a from rv)
   exact JA _
 | n+1,A,x,y,u,v,hA,h,ru,rv=>by
  rcases h with ⟨i,rfl,rfl⟩ | ⟨a,rfl,rfl⟩ | ⟨a,b,xs,ys,rfl,rfl,hs,p⟩
  ·obtain ⟨t,rfl⟩:=(show ∃t,u=FT i t from ru)
   obtain ⟨t',rfl⟩:=(show ∃t,v=FT i t from rv)
   have:=GJ (A:=A) (s:=s) i t i t'
   rw[beq_self_eq_true] at this
   exact this
  ·cases (show u=D8 a from ru)
   cases (show v=D8 a from rv)
   exact JA _
  ·cases (show u=D8 a from ru)
   cases (show v=D8 b from rv)
   by_cases hab:a=b
   ·subst hab;exact JA _
   refine SeqAt.EqAt.of_refs hab ?_
   have ih:∀x y u v,cT X.K H n x y->RelV x u->RelV y v->Iu A.in1 s u v true:=λx y u v h1 h2 h3=>gI I n A.in1 x y u v (by show A.units+1+n<cLine;lia) h1 h2 h3
   have pl:=HU p
   rcases hs with ⟨h1,h2⟩ | ⟨h1,h2⟩
   ·obtain ⟨its,r1,p1,_⟩:=I.tuple h1
    obtain ⟨its2,r2,p2,_⟩:=I.tuple h2
    have q:=Mb (e:=λ_=>true) (show s.heap.IsTuple a its.toArray from p1) (show s.heap.IsTuple b its2.toArray from p2) (by lia) (cV p r1 r2 ih)
    have ez:its.toArray.size=its2.toArray.size:=by rw[DR,DR, <- r1.length, <- r2.length,pl]
    rw[all_true,ez,beq_self_eq_true] at q
    exact q
   ·obtain ⟨its,r1,p1,_⟩:=I.list h1
    obtain ⟨its2,r2,p2,_⟩:=I.list h2
    have q:=MB (e:=λ_=>true) p1.isList p2.isList (by rw[DR,DR, <- r1.length, <- r2.length,pl]) (by lia) (cV p r1 r2 ih)
    rw[all_true] at q
    exact q
theorem ph {k:Nat}(hr:cB k X.A):OpR X (Fl .NotEq) (λx y H Q=>∃a b xs ys,x = .ref a/\y = .ref b/\SqL X.K H a xs/\SqL X.K H b ys/\((xs.length≠ys.length/\Q (.bl true) H)\/(Paired (cT X.K H 20) xs ys/\Q (.bl false) H))):=by
 intro pins s σ H x y v u Q I rx ry h
 obtain ⟨a,b,xs,ys,rfl,rfl,h1,h2,h3⟩:=h
 cases (show v=D8 a from rx)
 cases (show u=D8 b from ry)
 obtain ⟨its,r1,⟨⟨c1,d1,da1,sl1⟩,n1,e1,k1,_,k3⟩,_⟩:=I.list h1
 obtain ⟨its2,r2,⟨⟨c2,d2,da2,sl2⟩,n2,e2,g1,_,g3⟩,_⟩:=I.list h2
 simp only at k1 k3 g1 g3
 subst k1 k3 g1 g3
 have l1:=r1.length
 have l2:=r2.length
 have hu:=hr.un
 have hu1:X.A.units<cLine:=by lia
 rcases h3 with ⟨ne,q⟩ | ⟨p,q⟩
 ·refine GD (op :=.NotEq) ⟨_,e1,rfl⟩ ⟨_,e2,rfl⟩ F.slot_list_ne ML (MC _ _) (SeqAt.list_ne_lengthsAt a b its.toArray its2.toArray n1 n2 d1 d2 sl1 sl2 (by simp;lia)) ⟨e1,e2,?_⟩ hu1
  exact ⟨(λz=>nomatch z),⟨.bl true,H,I,rfl,q⟩⟩
 ·have pl:=HU p
  refine GD (op :=.NotEq) ⟨_,e1,rfl⟩ ⟨_,e2,rfl⟩ F.slot_list_ne ML (MC _ _) (SeqAt.list_neAt a b its.toArray its2.toArray n1 n2 d1 d2 sl1 sl2 (by rw[DR,DR];lia) (λ_=>true)) ⟨e1,e2,?_,?_⟩ hu1
  ·exact cV p r1 r2 λx y u v h1 h2 h3=>gI I 20 _ x y u v (by show X.A.units+1+_<cLine;lia) h1 h2 h3
  ·rw[all_true]
   exact ⟨(λz=>nomatch z),⟨.bl false,H,I,rfl,q⟩⟩
end
def tX (K:DM)(k l:Nat):TG:=CK K 2 (w5 (fR k) (w5 (fR l) CJ))
def xv (k l:Nat)(tc:TT)(te:TE)(τ:St)(Pv:Nat->List V->Hp->Prop)(i:Nat)(a b:V)(ys:List V)(H:Hp):Prop :=
 ∀(R1:V->Hp->Prop) (R0:Hp->Prop),(∀y H4,Pv (i+1) (ys++[y]) H4->R1 y H4)->(∀H3,Pv (i+1) ys H3->R0 H3)->tc ((τ.set k (some a)).set l (some b)) H λc H3=>if c=true then te ((τ.set k (some a)).set l (some b)) H3 R1 else R0 H3
theorem rP {K:DM}{p:Addr}{ts:List (Addr×V×V)}{k l:Nat}{tc:TT}{te:TE}{τ:St}{H:Hp}{Q:VK}(Pv:Nat->List V->Hp->Prop)(hkl:k≠l)(h0:Pv 0 [] H)(hz:ts.length<=D3)
  (hl:∀i ys H,i<=ts.length->Pv i ys H->SqL K H p (ts.map λt =>.ref t.1)/\∀t∈ts,SqT K H t.1 [t.2.1,t.2.2])
  (hs:∀i t ys H,ts[i]? = some t->ys.length<=i->Pv i ys H->xv k l tc te τ Pv i t.2.1 t.2.2 ys H)
  (hd:∀ys H,ys.length<=ts.length->Pv ts.length ys H->∀r,H r=none->Q (.ref r) (upd H r (.lst ys))):iO (Itl K p) (tX K k l) tc te τ Q H:=by
 refine ⟨λi m σ ys H=>m=ts.length-i/\i<=ts.length/\(∀a b,(σ.set k (some a)).set l (some b)=(τ.set k (some a)).set l (some b))/\ys.length<=i/\Pv i ys H,⟨ts.length,by simp,EB _,λ_ _=>rfl,DS _,h0⟩,?_⟩
 rintro i m σ ys H ⟨rfl,hi,hτ,hy,pv⟩
 obtain ⟨q,qt⟩:=hl i ys H hi pv
 have ln:(ts.map λt:Addr×V×V=>V.ref t.1).length=ts.length:=DI _
 by_cases hlt:i<ts.length
 ·have et:ts[i]? = some ts[i]:=DL hlt
  have em:(ts.map λt:Addr×V×V=>V.ref t.1)[i]? = some (.ref ts[i].1):=by rw[D1,et];rfl
  refine .inr ⟨⟨_,_,q,em⟩,λx H' y =>?_⟩
  obtain ⟨e,y⟩:=y
  subst e
  have ex:=y _ q
  rw[em] at ex
  cases ex
  have st:=qt ts[i] (GB hlt)
  refine ⟨ts[i].1,_,rfl,st,rfl,_,_,rfl,_,_,rfl,rfl,?_⟩
  rw[hτ]
  have hσ:∀a b,((((τ.set k (some ts[i].2.1)).set l (some ts[i].2.2)).set k (some a)).set l (some b))=(τ.set k (some a)).set l (some b):=λa b=>by
   rw[LP _ _ (Ft hkl),HQ,HQ]
  refine hs i ts[i] ys _ et hy pv _ _ (λy4 H4 p4=>⟨by lia,ts.length-(i+1),by lia,rfl,hlt,hσ,by rw[DT,Fj];lia,p4⟩) λH3 p3=>⟨ts.length-(i+1),by lia,rfl,hlt,hσ,by lia,p3⟩
 ·have e:i=ts.length:=by lia
  subst e
  exact .inl ⟨⟨_,q,by rw[ln];exact DS _⟩,by lia,hd ys H hy pv⟩
section
variable  {X:Cx}{K:DM}
theorem xw (h:X.K=K:=by rfl):IxR X (C7 K):=by subst h;exact bR
theorem cp (h:X.K=K:=by rfl):IxR X (C8 K):=by subst h;exact aP
theorem xx (h:X.K=K:=by rfl):OpR X (Fl .In) (rIn K false):=by subst h;exact vn
theorem vq (h:X.K=K:=by rfl):OpR X (Fl .NotIn) (rIn K true):=by subst h;exact pf
theorem vt (h:X.K=K:=by rfl):bH X (.builtin "len") (λxs H Q=>∃p ys,xs=[.ref p]/\(SqL K H p ys\/SqT K H p ys)/\Q (.int ys.length) H):=by subst h;exact aR
end
theorem Inv.ie {X:Cx}{pins:List (Addr×Obj)}{σ:St}{H:Hp}{s:DP}{h':Heap}{t':Nat}{ch:List Addr}{T:Addr}{o:HO}(I:Inv X pins σ H s)(f:∀b∈ch,iH X pins H b)
  (k:∀b ob,b∉ch->s.heap.get? b=some ob->h'.get? b=some ob) (th:∀b∈ch,∃ob,h'.get? b=some ob) (hT:s.heap.objs.size<=T) (new:bp X.prog X.w (upd H T o) h' T o):Inv X pins σ (upd H T o) { s with heap:=h',toks:=t' }:=by
 have hn:H T=none:=I.hok.fresh hT
 have nT:∀b ob,s.heap.get? b=some ob->b≠T:=λb ob e=>Ed (Ec (D4 e) hT)
 refine I.step (g':=s.gens) (d':=s.drawn) (ch:=ch) (λb hb =>?_) (λb ob _ _ hc e _=>k b ob hc e) (λb ob _ _ hc e _=>⟨ob.slots,k b ob hc e⟩) (λb ob _ e n=>by rw[aq (nT b ob e)];exact n)
  (λb ob hc e=>⟨ob,k b ob hc e⟩) (λb xs e=>by rw[aq (av e hn)];exact e) (λb ob u e=>by rw[aq (av e hn)];exact e) (λb ps e=>⟨#[],by rw[aq (av e hn),e];simp⟩) (λm hm =>?_) (λb u e =>?_) I.bare
 ·obtain ⟨g0,g1,g2,g3,g4,g5⟩:=f b hb
  exact ⟨g3,g1,g4,g5⟩
 ·obtain ⟨ob,es,ep,ho,r⟩:=hm
  exact ⟨ob,es,ep,k _ ob (λz=>(f _ z).2.1 rfl) ho,r⟩
 ·by_cases hb:b=T
  ·subst hb
   rw[ag] at e
   cases e
   exact new
  ·rw[aq hb] at e
   refine (I.hok b u e).stay (λc v hc q=>k c v ?_ q) (λc q=>by rw[aq (av q hn)];exact q) λc xs q=>by rw[aq (av q hn)];exact q
   intro z
   have n0:=(f c z).1
   rcases hc with hc | hc
   ·rw[hc,e] at n0;cases n0
   ·rw[hc] at n0;cases n0
def Ite (K:DM)(a:Addr):It :=
 ⟨λi H=>∃xs v,SqL K H a xs/\xs[i]? = some v,λi H x H'=>∃T v,H T=none/\x = .ref T/\H'=upd H T (.tup [.int i,v])/\∀xs,SqL K H a xs->xs[i]? = some v,λi H=>∃xs,SqL K H a xs/\xs.length<=i⟩
theorem vv {P:D9}{w:EE}{K:DM}{elts:List Expr}{k:Nat}{pos:Pos}(a e it:Addr)(hne:e≠it):Turn P w K (.Tuple elts k pos) (Ite K a) [e,it] e (λi h=>(∃old,IsEnum h e it i old)/\h.IsListIter it a i) where
 mem:=by simp
 obj:=λi h ⟨⟨old,h1⟩,h2⟩ b hb=>by
  rcases Eg.mp hb with q | q
  ·subst q
   exact ⟨_,h1,λv z=>nomatch z⟩
  ·have q':b=it:=by simpa using q
   subst q'
   obtain ⟨o,ho,_,hd⟩:=h2
   exact ⟨o,ho,λv z=>by rw[hd] at z;cases z⟩
 keep:=λi h h' ⟨⟨old,h1⟩,h2⟩ kp=>⟨⟨old,kp e (by simp) _ h1⟩,h2.at λo x=>kp it (by simp) o x⟩
 item:=λX eP eW eK hcalm i pins s σ H E I f ⟨⟨old,h1⟩,h2⟩ go=>by
  subst eP eW eK
  obtain ⟨xs,v,hs,hv⟩:=go
  obtain ⟨its,r,pl,hz⟩:=I.list hs
  obtain ⟨u,eu,ru⟩:=r.get hv
  refine wpAny_pyNext_enum_item h1 h2 pl.isList (x:=u) (by rw[ED];exact eu) hne λh' o1 o2 o3 o4 kp =>?_
  refine ⟨_,rfl,?_⟩
  refine JO o1 λh2' e2 sb =>?_
  have eT:e≠s.heap.objs.size:=Ed (D4 h1)
  have kp2:∀b ob,b∉[e,it]->s.heap.get? b=some ob->h2'.get? b=some ob:=λb ob hb eb=>by
   have n1:b≠e:=λz=>hb (by simp[z])
   have n2:b≠it:=λz=>hb (by simp[z])
   rw[sb.2 b n1]
   exact kp b ob n1 n2 eb
  have li:h2'.IsListIter it a (i+1):=o2.at λob eb=>by rw[sb.2 it (Ft hne)];exact eb
  have tp:h2'.get? s.heap.objs.size=some { cls :=.type "tuple",data :=.seq #[.int i s.toks,u] }:=by rw[sb.2 _ (Ft eT)];exact o3
  refine ⟨.ref s.heap.objs.size,upd H s.heap.objs.size (.tup [.int i,v]),I.ie (ch:=[e,it]) f kp2 (λb hb =>?_) (DS _) ?_,rfl,⟨s.heap.objs.size,v,I.hok.fresh (DS _),rfl,rfl,λys hy =>?_⟩,⟨⟨_,e2⟩,li⟩,λb hb =>?_⟩
  ·rcases Eg.mp hb with q | q
   ·subst q;exact ⟨_,e2⟩
   ·have q':b=it:=by simpa using q
    subst q'
    obtain ⟨ob,ho,_⟩:=li
    exact ⟨ob,ho⟩
  ·refine ⟨(by show 2<=D3;decide),[.int i s.toks,u],.cons ⟨_,rfl⟩ (.cons ru .nil),_,tp,⟨rfl,rfl⟩,_,rfl⟩
  ·rw[I.kY hy hs];exact hv
  ·have ne:b≠s.heap.objs.size:=by
    rcases Eg.mp hb with q | q
    ·rw[q];exact eT
    ·have q':b=it:=by simpa using q
     rw[q']
     obtain ⟨ob,ho,_⟩:=h2
     exact Ed (D4 ho)
   rw[aq ne]
   exact (f b hb).1
 done:=λX eP eW eK hcalm i pins s σ H E I f ⟨⟨old,h1⟩,h2⟩ stop=>by
  subst eP eW eK
  obtain ⟨xs,hs,hl⟩:=stop
  obtain ⟨its,r,pl,hz⟩:=I.list hs
  have l:=r.length
  refine wpAny_pyNext_enum_end (I.ok.hd hcalm) h1 h2 pl.isList (by rw[ED];exact FF.mpr (by lia)) λh' ex=>⟨rfl,?_⟩
  obtain ⟨g0,g1,g2,g3,g4,g5⟩:=f it (by simp)
  exact I.turned (it:=it) (h':=h') (t':=s.toks) (λb o ne eb=>ex b o ne eb) g0 g1 g3 g4 g5
 self:=λA i s Q E ⟨⟨old,h1⟩,_⟩ q=>by
  refine Jh ⟨_,h1,rfl⟩ Ij (E8 Ij ⟨_,h1,rfl⟩ KJ ?_ (Kh _))
  show Ee _ _ (ret (.ref e)) _ _ s
  exact DN ⟨_,rfl, "enumerate",_,⟨_,h1,rfl⟩,Ik.lookup,q⟩
open PySem.AutoSeq1 (wpAny_loadPart')
section
variable  {prog:D9}{w:EE}{A:EV}{E:DK->DP->Prop}{s:DP}
theorem lH {it t:Addr}{i:Nat}{items:Array DK}{x:DK}{Q:DK->DP->Prop}(hi:s.heap.IsTupleIter it t i)(hl:s.heap.IsTuple t items)(hx:items[i]? = some x)
  (q:∀h',h'.IsTupleIter it t (i+1)->Heap.SameBut it s.heap h'->Q x { s with heap:=h' }):Ee (Es prog w) A (Builtin.SmallTypes.nextOf (.ref it)) Q E s:=by
 obtain ⟨o,eo,oc,od⟩:=id hi
 obtain ⟨ol,el,_,nl,dl⟩:=hl
 unfold Builtin.SmallTypes.nextOf
 refine DH (Fi (name:=Str.ofString "__next__") hi.typeIs Hr (E8 Hr hi.typeIs JB ?_ (Jv _)))
 show Ee _ _ (field (.ref it) 0 >>= _) _ _ s;refine DH (Fn eo od (x :=.ref t) rfl ?_)
 show Ee _ _ (if (D8 t == F7)=true then _ else _) _ _ s;rw[if_neg (show ¬ ((D8 t == F7)=true) from Eh)]
 show Ee _ _ (field (.ref it) 1 >>= _) _ _ s;refine DH (Fn eo od (x :=.int i 0) rfl ?_)
 show Ee _ _ (seqItems? (.ref t) >>= _) _ _ s;refine DH (Fv el dl ?_)
 simp only[E1,hx];refine DH (Ji eo od (by simp) (DN ⟨x,rfl,DN (q _ ?_ (IH ..))⟩))
 exact ⟨_,EZ _ eo (Jk (Hv od _)),(Mc ..).trans oc,by rw[Hv od];simp[HD]⟩
theorem dH {it t:Addr}{i:Nat}{items:Array DK}{Q:DK->DP->Prop}(hh:A.handled=none)(hi:s.heap.IsTupleIter it t i)(hl:s.heap.IsTuple t items)(hx:items[i]? = none)
  (q:∀h' e,Heap.ExtBut it s.heap h'->(∃o,h'.get? e=some o/\o.cls = .type "StopIteration")->E (.ref e) { s with heap:=h' }):Ee (Es prog w) A (Builtin.SmallTypes.nextOf (.ref it)) Q E s:=by
 obtain ⟨o,eo,oc,od⟩:=id hi
 obtain ⟨ol,el,_,nl,dl⟩:=hl
 unfold Builtin.SmallTypes.nextOf
 refine DH (Fi (name:=Str.ofString "__next__") hi.typeIs Hr (E8 Hr hi.typeIs JB ?_ (Jv _)))
 show Ee _ _ (field (.ref it) 0 >>= _) _ _ s;refine DH (Fn eo od (x :=.ref t) rfl ?_)
 show Ee _ _ (if (D8 t == F7)=true then _ else _) _ _ s;rw[if_neg (show ¬ ((D8 t == F7)=true) from Eh)]
 show Ee _ _ (field (.ref it) 1 >>= _) _ _ s;refine DH (Fn eo od (x :=.int i 0) rfl ?_)
 show Ee _ _ (seqItems? (.ref t) >>= _) _ _ s;refine DH (Fv el dl ?_)
 simp only[E1,hx];refine DH (Gz (DH (Ji eo od (by simp) ?_)))
 show Ee _ _ (newExc (.type "StopIteration") [] >>= _) _ _ _;refine DH ?_
 simp only[newExc,newTuple];refine DH (E7 ?_ (by size_fits))
 refine DH (m:=firstArgMember _ _) (Gx (a:=F7) (by first | rfl | (simp only[firstArgMember];rfl)) ?_);refine E7 ?_ (by size_fits)
 simp only[raiseNew];refine DH (LZ ?_)
 first | (rw[show A.in1.handled=none from hh]) | (rw[hh])
 refine DH (DN (MY ?_));exact q _ _ (((IH ..).extBut.push _).push _) ⟨_,D2 _ rfl,rfl⟩
theorem vw (hh:A.handled=none)(it l:Addr)(hne:l≠it)(items:Array DK) :
  Draws prog w A it [it,l] items.size (λi v=>items[i]? = some v) (λi h=>h.IsTupleIter it l i/\h.IsTuple l items) where
 live:=λ_ _ st=>by obtain ⟨o,ho,_⟩:=st.1;exact ⟨o,ho⟩
 frame:=λ_ _ _ st hk=>⟨st.1.at λo e=>hk it (by simp) o e,by obtain ⟨o,e,r⟩:=st.2;exact ⟨o,hk l (by simp) o e,r⟩⟩
 item:=λi s Q E hi st hQ=>by
  refine lH st.1 st.2 (x:=items[i]) (by simp[hi]) λh' hit' hs' =>?_
  obtain ⟨o,e,r⟩:=st.2
  exact hQ _ h' s.toks (by simp[hi]) ⟨hit',o,by rw[hs'.2 l hne];exact e,r⟩ hs'
 done:=λs Q E st hE=>dH hh st.1 st.2 (by simp) hE
theorem pk (l:Addr)(items:Array DK)(n:Nat)(dct:Option Addr)(sl:Array (Option DK)) :
  Meets (Builtin.«enumerate.__new__» ⟨[.type "enumerate",.ref l],[]⟩) (λ_ R s=>s.heap.get? l=some { cls :=.type "tuple",dict:=dct,data :=.seq items n,slots:=sl } ∧
   R (.ok (.ret (.ref (s.heap.push { cls :=.type "tuple_iterator",data :=.fields #[.ref l,.int 0 0] }).objs.size)))
    { s with heap:=(s.heap.push { cls :=.type "tuple_iterator",data :=.fields #[.ref l,.int 0 0] }).push { cls :=.type "enumerate",data :=.fields #[.none,.bool false,.ref s.heap.objs.size,HD 0,.none,.none] } }) :=
 .of_wp λprog w A R s h=>by
  obtain ⟨hp,g,d,tk,os⟩:=s;obtain ⟨hl,h⟩:=h
  have hsub:=sub_enumerate
  have hT:Heap.IsTuple (Shared.heap ⟨hp,g,d,tk,os⟩) l items:=⟨_,hl,rfl,n,rfl⟩
  wp_walk using wpAny_loadPart' hl
  refine wpAny_stack_any λst=>DN ?_
  split
  ·rename_i c _ _ _ _ _
   cases (c == GO "enumerate") <;> (wp_walk using wpAny_loadPart' hl,GL hT;exact ⟨_,rfl,h⟩)
  ·wp_walk using wpAny_loadPart' hl,GL hT;exact ⟨_,rfl,h⟩
theorem nD {l:Addr}{items:Array DK}{Q:DK->DP->Prop}(hL:s.heap.IsTuple l items)
  (h:∀h',IsEnum h' (s.heap.objs.size+1) s.heap.objs.size 0 .none->h'.IsTupleIter s.heap.objs.size l 0->h'.objs.size=s.heap.objs.size+2->(∀b o,s.heap.get? b=some o->h'.get? b=some o)->Q (.ref (s.heap.objs.size+1)) { s with heap:=h' }) :
  Ee (Es prog w) A (call (.type "enumerate") [.ref l]) Q E s:=by
 obtain ⟨⟨c,dct,dt,sl⟩,hl,hc,n,hd⟩:=hL
 replace hc:c = .type "tuple" := hc
 replace hd:dt = .seq items n:=hd
 subst hc hd
 refine Lb F.called_enumerate (by decide) (F.typeCall_enumerate_1 _) (F.newCall_enumerate_1 _) (λobj=>F.args_object_init_2 obj _) F.entry_enumerate_new (pk l items n dct sl) ⟨hl,?_⟩
 have hz:(s.heap.push { cls :=.type "tuple_iterator",data :=.fields #[.ref l,.int 0 0] }).objs.size=s.heap.objs.size+1:=Fz ..
 show _/\_
 rw[hz]
 have he:IsEnum ((s.heap.push { cls :=.type "tuple_iterator",data :=.fields #[.ref l,.int 0 0] }).push { cls :=.type "enumerate",data :=.fields #[.none,.bool false,.ref s.heap.objs.size,HD 0,.none,.none] }) (s.heap.objs.size+1) s.heap.objs.size 0 .none:=by
  have:=D2 (s.heap.push { cls :=.type "tuple_iterator",data :=.fields #[.ref l,.int 0 0] }) (o:={ cls :=.type "enumerate",data :=.fields #[.none,.bool false,.ref s.heap.objs.size,HD 0,.none,.none] }) rfl
  rw[hz] at this;exact this
 exact ⟨⟨_,he,rfl⟩,h _ he ⟨_,DJ _ (D2 _ rfl),rfl,rfl⟩ (by rw[Fz,hz]) λb o x=>DJ _ (DJ _ x)⟩
end
theorem fv {prog:D9}{w:EE}{A:EV}{E:DK->DP->Prop}{s:DP}{e it t:Addr}{i:Nat}{items:Array DK}{old:DK}{Q:Option DK->DP->Prop}(hh:A.in1.handled=none)(he:IsEnum s.heap e it i old)(hi:s.heap.IsTupleIter it t i)
  (hl:s.heap.IsTuple t items) (hx:items[i]? = none) (q:∀h',Heap.ExtBut it s.heap h'->Q none { s with heap:=h' }):Ee (Es prog w) A (pyNext (.ref e)) Q E s:=by
 have hT:s.TypeIs (.ref e) "enumerate" :=⟨_,he,rfl⟩
 unfold pyNext
 refine DH (GG (Fi (name:=Str.ofString "__next__") hT Ik (E8 Ik hT F.entry_enumerate_next ?_ (F.args_enumerate_next_1 _))))
 show Ee _ _ (field (.ref e) 2 >>= _) _ _ _;refine DH (Fn he rfl (x :=.ref it) rfl ?_)
 refine DH (dH hh hi hl hx λh' x he' hx' =>?_)
 obtain ⟨o,ho,hc⟩:=hx'
 refine DH (Ht (T := "StopIteration") (b:=true) ⟨o,ho,hc⟩ J0 ?_);exact DN (q _ he')
def ItE (K:DM)(a:Addr):It :=
 ⟨λi H=>∃xs v,SqT K H a xs/\xs[i]? = some v,λi H x H'=>∃T v,H T=none/\x = .ref T/\H'=upd H T (.tup [.int i,v])/\∀xs,SqT K H a xs->xs[i]? = some v,λi H=>∃xs,SqT K H a xs/\xs.length<=i⟩
theorem rQ {P:D9}{w:EE}{K:DM}{elts:List Expr}{k:Nat}{pos:Pos}(a e it:Addr)(hne:e≠it)(hai:a≠it)(hae:a≠e):Turn P w K (.Tuple elts k pos) (ItE K a) [e,it] e (λi h=>(∃old,IsEnum h e it i old)/\h.IsTupleIter it a i) where
 mem:=by simp
 obj:=λi h ⟨⟨old,h1⟩,h2⟩ b hb=>by
  rcases Eg.mp hb with q | q
  ·subst q
   exact ⟨_,h1,λv z=>nomatch z⟩
  ·have q':b=it:=by simpa using q
   subst q'
   obtain ⟨o,ho,_,hd⟩:=h2
   exact ⟨o,ho,λv z=>by rw[hd] at z;cases z⟩
 keep:=λi h h' ⟨⟨old,h1⟩,h2⟩ kp=>⟨⟨old,kp e (by simp) _ h1⟩,h2.at λo x=>kp it (by simp) o x⟩
 item:=λX eP eW eK hcalm i pins s σ H E I f ⟨⟨old,h1⟩,h2⟩ go=>by
  subst eP eW eK
  obtain ⟨xs,v,hs,hv⟩:=go
  obtain ⟨its,r,pl,hz⟩:=I.tuple hs
  obtain ⟨u,eu,ru⟩:=r.get hv
  have hi:i<its.toArray.size:=by rw[DR];exact (DQ.mp eu).1
  have hd:X.A.in1.handled=none:=I.ok.hd hcalm
  refine wpAny_pyNext_enum_itemD (vw hd it a hai its.toArray) h1 ⟨h2,(show s.heap.IsTuple a its.toArray from pl)⟩ hi hne (by simp[hne,Ft hae]) λx h' tk px o1 o2 o3 o4 kp =>?_
  rw[ED,eu] at px
  have px':u=x:=EA px
  subst px'
  refine ⟨_,rfl,?_⟩
  refine JO o1 λh2' e2 sb =>?_
  have eT:e≠s.heap.objs.size:=Ed (D4 h1)
  have kp2:∀b ob,b∉[e,it]->s.heap.get? b=some ob->h2'.get? b=some ob:=λb ob hb eb=>by
   have n1:b≠e:=λz=>hb (by simp[z])
   have n2:b≠it:=λz=>hb (by simp[z])
   rw[sb.2 b n1]
   exact kp b ob n1 n2 eb
  have li:h2'.IsTupleIter it a (i+1):=o2.1.at λob eb=>by rw[sb.2 it (Ft hne)];exact eb
  have tp:h2'.get? s.heap.objs.size=some { cls :=.type "tuple",data :=.seq #[.int i tk,u] }:=by rw[sb.2 _ (Ft eT)];exact o3
  refine ⟨.ref s.heap.objs.size,upd H s.heap.objs.size (.tup [.int i,v]),I.ie (ch:=[e,it]) f kp2 (λb hb =>?_) (DS _) ?_,rfl,⟨s.heap.objs.size,v,I.hok.fresh (DS _),rfl,rfl,λys hy =>?_⟩,⟨⟨_,e2⟩,li⟩,λb hb =>?_⟩
  ·rcases Eg.mp hb with q | q
   ·subst q;exact ⟨_,e2⟩
   ·have q':b=it:=by simpa using q
    subst q'
    obtain ⟨ob,ho,_⟩:=li
    exact ⟨ob,ho⟩
  ·refine ⟨(by show 2<=D3;decide),[.int i tk,u],.cons ⟨_,rfl⟩ (.cons ru .nil),_,tp,⟨rfl,rfl⟩,_,rfl⟩
  ·rw[I.gG hy hs];exact hv
  ·have ne:b≠s.heap.objs.size:=by
    rcases Eg.mp hb with q | q
    ·rw[q];exact eT
    ·have q':b=it:=by simpa using q
     rw[q']
     obtain ⟨ob,ho,_⟩:=h2
     exact Ed (D4 ho)
   rw[aq ne]
   exact (f b hb).1
 done:=λX eP eW eK hcalm i pins s σ H E I f ⟨⟨old,h1⟩,h2⟩ stop=>by
  subst eP eW eK
  obtain ⟨xs,hs,hl⟩:=stop
  obtain ⟨its,r,pl,hz⟩:=I.tuple hs
  have l:=r.length
  have hd:X.A.in1.handled=none:=I.ok.hd hcalm
  refine fv (A:=X.A) hd h1 h2 (show s.heap.IsTuple a its.toArray from pl) (by rw[ED];exact FF.mpr (by lia)) λh' ex=>⟨rfl,?_⟩
  obtain ⟨g0,g1,g2,g3,g4,g5⟩:=f it (by simp)
  exact I.turned (it:=it) (h':=h') (t':=s.toks) (λb o ne eb=>ex b o ne eb) g0 g1 g3 g4 g5
 self:=λA i s Q E ⟨⟨old,h1⟩,_⟩ q=>by
  refine Jh ⟨_,h1,rfl⟩ Ij (E8 Ij ⟨_,h1,rfl⟩ KJ ?_ (Kh _))
  show Ee _ _ (ret (.ref e)) _ _ s
  exact DN ⟨_,rfl, "enumerate",_,⟨_,h1,rfl⟩,Ik.lookup,q⟩
def Dg (K:DM)(ta:TA):TI:=λσ H R=>ta σ H λvs H1=>∃a,vs=[.ref a]/\(((∃xs,SqL K H1 a xs)/\R (Ite K a) H1)\/((∃xs,SqT K H1 a xs)/\R (ItE K a) H1))
section
variable  {X:Cx}
theorem zC {a:Expr}{ta:TA}{p pos pos':Pos}{elts:List Expr}{k:Nat}(hg:Gl X "enumerate")(hm:X.mg "enumerate" = none)(ha:PA X [a] ta)(hs:EL [a] X.env=[(false,eval a X.env)]:=by rfl) :
  PI X (.Tuple elts k pos') (.Call (.Name "enumerate" p) [a] [] pos) (Dg X.K ta):=by
 intro pins s σ H R I h
 refine Call_ (d9 I hg hm boot_enumerate (FO (thn (ha pos pins s σ H _ I h) λus s1 ⟨vs,H1,I1,r1,q1⟩ =>?_) hs rfl))
 obtain ⟨l,e,q1⟩:=q1
 subst e
 obtain ⟨u,rfl,ru⟩:=vals1 r1
 cases (show u=D8 l from ru)
 have fp:∀b∈[s1.heap.objs.size+1,s1.heap.objs.size],iH X pins H1 b:=λb hb=>by
  have ge:s1.heap.objs.size<=b:=by
   rcases Eg.mp hb with q | q
   ·rw[q];exact Kg _
   ·have q':b=s1.heap.objs.size:=by simpa using q
    rw[q'];exact DS _
  exact I1.vg ge (I1.hok.fresh ge)
 have ne:s1.heap.objs.size+1≠s1.heap.objs.size:=Hu (GA _)
 rcases q1 with ⟨⟨xs,hq⟩,q⟩ | ⟨⟨xs,hq⟩,q⟩
 ·obtain ⟨its,rv,pl,hz⟩:=I1.list hq
  refine call_enumerate_list pl.isList λh' he li _ kp =>?_
  have T:=vv (P:=X.prog) (w:=X.w) (K:=X.K) (elts:=elts) (k:=k) (pos:=pos') l _ _ ne
  refine T.self _ 0 _ _ _ ⟨⟨_,he⟩,li⟩ ?_
  exact ⟨_,_,_,_,H1,rfl,I1.kept (t':=s1.toks) kp,T,⟨⟨_,he⟩,li⟩,fp,q⟩
 ·obtain ⟨its,rv,pl,hz⟩:=I1.tuple hq
  have lt:l<s1.heap.objs.size:=by obtain ⟨o,e,_⟩:=pl;exact D4 e
  refine nD (show s1.heap.IsTuple l its.toArray from pl) λh' he li _ kp =>?_
  have T:=rQ (P:=X.prog) (w:=X.w) (K:=X.K) (elts:=elts) (k:=k) (pos:=pos') l _ _ ne (Ed lt) (Ed (FG lt))
  refine T.self _ 0 _ _ _ ⟨⟨_,he⟩,li⟩ ?_
  exact ⟨_,_,_,_,H1,rfl,I1.kept (t':=s1.toks) kp,T,⟨⟨_,he⟩,li⟩,fp,q⟩
end
def ForW (J:It)(g:TG)(tb:TS)(D:Ends)(σ:St)(H:Hp):Prop:=∃W:Nat->Nat->St->Hp->Prop,(∃m,W 0 m σ H)/\∀i m σ H,W i m σ H →
 (J.stop i H/\D.nx σ H)\/(J.go i H/\∃N:St->Hp->Prop,(∀σ' H',N σ' H'->∃m',m'<m/\W (i+1) m' σ' H')/\∀x H',J.yld i H x H'->g x σ H' λσ2 H2=>tb { D with nx:=N,ct:=N,bk:=D.nx } σ2 H2)
end L2
namespace Srt
open PySem PyProof.Rows
def gal:Bool->Ek->Array Ek->Nat->Nat->Nat->StateT EK Sem (Option Nat):=sortPriv% PySem.Builtin.gallop
def mLo:Array Ek->Array Ek->StateT EK Sem (Array Ek):=sortPriv% PySem.Builtin.mergeLo
def mHi:Array Ek->Array Ek->StateT EK Sem (Array Ek):=sortPriv% PySem.Builtin.mergeHi
def mAt:Nat->StateT EK Sem Bool:=sortPriv% PySem.Builtin.mergeAt
def AZ:StateT EK Sem Unit:=sortPriv% PySem.Builtin.sortRuns
def BW:Nat->Nat->StateT EK Sem (Option Nat):=sortPriv% PySem.Builtin.countRun
def xy:Nat->Nat->Nat->StateT EK Sem Bool:=sortPriv% PySem.Builtin.binarySort
theorem BX (lf:Bool)(ky:Ek)(ar:Array Ek)(bs n ht:Nat):gal lf ky ar bs n ht=(do
    let far (i:Nat):StateT EK Sem (Option Bool):=do
      let z ← elem' ar (bs+i)
      if lf then lt' z ky else return (← lt' ky z).map (!·)
    let mut la:=0;let mut of:=1
    let mut lo:=0;let mut hi:=0
    let some rt ← far ht | return none
    if rt then
      let mx:=n-ht
      for _ in [0:n] do
        if of≥mx then break
        let some mo ← far (ht+of)
          | return none
        if !mo then break
        la:=of;of:=2*of+1
      lo:=ht+la+1;hi:=ht+min of mx
    else
      let mx:=ht+1
      for _ in [0:n] do
        if of≥mx then break
        let some fd ← far (ht-of)
          | return none
        if fd then break
        la:=of;of:=2*of+1
      lo:=ht+1-min of mx;hi:=ht-la
    for _ in [0:n] do
      if lo≥hi then break
      let md:=lo+(hi-lo)/2
      let some mo ← far md | return none
      if mo then lo:=md+1 else hi:=md
    return some hi):=rfl
section
variable  {prog:D9}{w:EE}{A:EV}{E:DK->DP->Prop}{s:DP}
theorem xA {lf:Bool}{ky:Ek}{ar:Array Ek}{bs n ht:Nat}{st:EK}{Q:Option Nat->EK->Prop}(p:Nat->Bool)
    (hf:∀i,i<n->∀(Q:Option Bool->EK->Prop),Q (some (p i)) st->wpS (Es prog w) A E s (do let z ← elem' ar (bs+i);if lf then lt' z ky else return (← lt' ky z).map (!·)) Q st)
    (hp:∀i j,i<=j->j<n->p j=true->p i=true) (hh:ht<n)
    (h:∀k,k<=n->(∀i,i<k->p i=true)->(∀i,k<=i->i<n->p i=false)->Q (some k) st):wpS (Es prog w) A E s (gal lf ky ar bs n ht) Q st:=by
  rw[BX]
  dsimp only
  refine Eb (hf ht hh _ ?_)
  dsimp only
  cases hr:p ht with
  | true =>
    rw[if_pos rfl]
    refine Eb (GH (FC (I:=λx c st'=>st=st'/\∃la of,c=(none,la,of)/\la<of/\x+1<=of/\ht+la<n/\p (ht+la)=true)
      (Q:=λc st'=>st=st'/\∃la of,c=(none,la,of)/\la<of/\ht+la<n/\p (ht+la)=true/\(n-ht<=of\/(ht+of<n/\p (ht+of)=false))) ?step ?fin ⟨rfl,0,1,rfl,by lia,by lia,by lia,by simpa using hr⟩) ?post)
    case fin =>
      rintro c st' ⟨rfl,la,of,rfl,b1,b2,b3,b4⟩
      exact ⟨rfl,la,of,rfl,b1,b3,b4,.inl (by lia)⟩
    case step =>
      rintro x c st' _ hx ⟨rfl,la,of,rfl,b1,b2,b3,b4⟩
      dsimp only
      by_cases hge:of≥n-ht
      · rw[if_pos hge]
        exact Ej ⟨rfl,la,of,rfl,b1,b3,b4,.inl hge⟩
      · rw[if_neg hge]
        refine Eb (hf _ (by lia) _ ?_)
        dsimp only
        cases hm:p (ht+of) with
        | true =>
          simp only[FV,Ei,if_false]
          exact Ej ⟨rfl,of,2*of+1,rfl,by lia,by lia,by lia,hm⟩
        | false =>
          simp only[Ls,if_true]
          exact Ej ⟨rfl,la,of,rfl,b1,b3,b4,.inr ⟨by lia,hm⟩⟩
    case post =>
      rintro c st' ⟨rfl,la,of,rfl,b1,b3,b4,b5⟩
      have h1:(ht+la+1)<=(ht+min of (n-ht)):=by lia
      have h2:(ht+min of (n-ht))<=n:=by lia
      have h3:∀i,i<(ht+la+1)->p i=true:=λi hi=>hp i (ht+la) (by lia) b3 b4
      have h4:∀i,(ht+min of (n-ht))<=i->i<n->p i=false:=λi hi hn=>by
        rcases b5 with b5 | ⟨b5,b6⟩
        · lia
        · cases hpi:p i with
          | false=>rfl
          | true=>rw[hp (ht+of) i (by lia) hn hpi] at b6;cases b6
      dsimp only
      refine Eb (GH (FC (I:=λx c st'=>st=st'/\∃lo hi,c=(none,lo,hi)/\lo<=hi/\hi<=n/\hi-lo<=n-x/\(∀i,i<lo->p i=true)/\(∀i,hi<=i->i<n->p i=false))
        (Q:=λc st'=>st=st'/\∃k,c=(none,k,k)/\k<=n/\(∀i,i<k->p i=true)/\(∀i,k<=i->i<n->p i=false)) ?step ?fin ⟨rfl,(ht+la+1),(ht+min of (n-ht)),rfl,h1,h2,by lia,h3,h4⟩) ?post)
      case fin =>
        rintro c st' ⟨rfl,lo,hi,rfl,a1,a2,a3,a4,a5⟩
        have e:lo=hi:=by lia
        subst e
        exact ⟨rfl,lo,rfl,a2,a4,a5⟩
      case post =>
        rintro c st' ⟨rfl,k,rfl,a2,a4,a5⟩
        exact Ej (h k a2 a4 a5)
      case step =>
        rintro x c st' _ hx ⟨rfl,lo,hi,rfl,a1,a2,a3,a4,a5⟩
        dsimp only
        by_cases hge:lo≥hi
        · rw[if_pos hge]
          have e:lo=hi:=by lia
          subst e
          exact Ej ⟨rfl,lo,rfl,a2,a4,a5⟩
        · rw[if_neg hge]
          refine Eb (hf _ (by lia) _ ?_)
          dsimp only
          cases hm:p (lo+(hi-lo)/2) with
          | true =>
            rw[if_pos rfl]
            exact Ej ⟨rfl,_,_,rfl,by lia,a2,by lia,λi hi'=>hp i _ (by lia) (by lia) hm,a5⟩
          | false =>
            rw[if_neg (by simp)]
            refine Ej ⟨rfl,_,_,rfl,by lia,by lia,by lia,a4,λi hi' hn =>?_⟩
            cases hpi:p i with
            | false=>rfl
            | true=>rw[hp _ i hi' hn hpi] at hm;cases hm
  | false =>
    rw[if_neg (by simp)]
    refine Eb (GH (FC (I:=λx c st'=>st=st'/\∃la of,c=(none,la,of)/\la<of/\x+1<=of/\la<=ht/\p (ht-la)=false)
      (Q:=λc st'=>st=st'/\∃la of,c=(none,la,of)/\la<of/\la<=ht/\p (ht-la)=false/\(ht+1<=of\/(of<=ht/\p (ht-of)=true))) ?step ?fin ⟨rfl,0,1,rfl,by lia,by lia,by lia,by simpa using hr⟩) ?post)
    case fin =>
      rintro c st' ⟨rfl,la,of,rfl,b1,b2,b3,b4⟩
      exact ⟨rfl,la,of,rfl,b1,b3,b4,.inl (by lia)⟩
    case step =>
      rintro x c st' _ hx ⟨rfl,la,of,rfl,b1,b2,b3,b4⟩
      dsimp only
      by_cases hge:of≥ht+1
      · rw[if_pos hge]
        exact Ej ⟨rfl,la,of,rfl,b1,b3,b4,.inl hge⟩
      · rw[if_neg hge]
        refine Eb (hf _ (by lia) _ ?_)
        dsimp only
        cases hm:p (ht-of) with
        | true =>
          rw[if_pos rfl]
          exact Ej ⟨rfl,la,of,rfl,b1,b3,b4,.inr ⟨by lia,hm⟩⟩
        | false =>
          rw[if_neg (by simp)]
          exact Ej ⟨rfl,of,2*of+1,rfl,by lia,by lia,by lia,hm⟩
    case post =>
      rintro c st' ⟨rfl,la,of,rfl,b1,b3,b4,b5⟩
      have h1:(ht+1-min of (ht+1))<=(ht-la):=by lia
      have h2:(ht-la)<=n:=by lia
      have h3:∀i,i<(ht+1-min of (ht+1))->p i=true:=λi hi=>by
        rcases b5 with b5 | ⟨b5,b6⟩
        · lia
        · exact hp i (ht-of) (by lia) (by lia) b6
      have h4:∀i,(ht-la)<=i->i<n->p i=false:=λi hi hn=>by
        cases hpi:p i with
        | false=>rfl
        | true=>rw[hp (ht-la) i hi hn hpi] at b4;cases b4
      dsimp only
      refine Eb (GH (FC (I:=λx c st'=>st=st'/\∃lo hi,c=(none,lo,hi)/\lo<=hi/\hi<=n/\hi-lo<=n-x/\(∀i,i<lo->p i=true)/\(∀i,hi<=i->i<n->p i=false))
        (Q:=λc st'=>st=st'/\∃k,c=(none,k,k)/\k<=n/\(∀i,i<k->p i=true)/\(∀i,k<=i->i<n->p i=false)) ?step ?fin ⟨rfl,(ht+1-min of (ht+1)),(ht-la),rfl,h1,h2,by lia,h3,h4⟩) ?post)
      case fin =>
        rintro c st' ⟨rfl,lo,hi,rfl,a1,a2,a3,a4,a5⟩
        have e:lo=hi:=by lia
        subst e
        exact ⟨rfl,lo,rfl,a2,a4,a5⟩
      case post =>
        rintro c st' ⟨rfl,k,rfl,a2,a4,a5⟩
        exact Ej (h k a2 a4 a5)
      case step =>
        rintro x c st' _ hx ⟨rfl,lo,hi,rfl,a1,a2,a3,a4,a5⟩
        dsimp only
        by_cases hge:lo≥hi
        · rw[if_pos hge]
          have e:lo=hi:=by lia
          subst e
          exact Ej ⟨rfl,lo,rfl,a2,a4,a5⟩
        · rw[if_neg hge]
          refine Eb (hf _ (by lia) _ ?_)
          dsimp only
          cases hm:p (lo+(hi-lo)/2) with
          | true =>
            rw[if_pos rfl]
            exact Ej ⟨rfl,_,_,rfl,by lia,a2,by lia,λi hi'=>hp i _ (by lia) (by lia) hm,a5⟩
          | false =>
            rw[if_neg (by simp)]
            refine Ej ⟨rfl,_,_,rfl,by lia,by lia,by lia,a4,λi hi' hn =>?_⟩
            cases hpi:p i with
            | false=>rfl
            | true=>rw[hp _ i hi' hn hpi] at hm;cases hm
end
structure Cmp (prog:D9)(w:EE)(A:EV)(s:DP)(O:Jm)(key:Ek->O.α)(U:Ek->Prop)(κ:SortKind):Prop where
 lt:∀(E:DK->DP->Prop) (st:EK) (x y:Ek) (Q:Option Bool->EK->Prop),kindOf st=κ -> U x->U y->Q (some (O.blt (key x) (key y))) st->wpS (Es prog w) A E s (lt' x y) Q st
section
variable  {prog:D9}{w:EE}{A:EV}{E:DK->DP->Prop}{s:DP}{O:Jm}{key:Ek->O.α}{U:Ek->Prop}{κ:SortKind}
theorem aZ {ar:Array Ek}{i:Nat}{z:Ek}{st:EK}{Q:Ek->EK->Prop}(h:ar[i]? = some z)(hq:Q z st):wpS (Es prog w) A E s (elem' ar i) Q st:=by
 rw[elem'_eq,h]
 exact Ej hq
theorem BY (C:Cmp prog w A s O key U κ){ky:Ek}{ar:Array Ek}{bs n ht:Nat}{st:EK}{Q:Option Nat->EK->Prop}(g:Nat->Ek)(hk:kindOf st=κ)(uk:U ky)
  (hg:∀i,i<n->ar[bs+i]? = some (g i)) (hu:∀i,i<n->U (g i)) (hs:∀i j,i<=j->j<n->O.kle (key (g i)) (key (g j))) (hh:ht<n)
  (h:∀k,k<=n->(∀i,i<k->O.kle (key (g i)) (key ky))->(∀i,k<=i->i<n->O.klt (key ky) (key (g i)))->Q (some k) st):wpS (Es prog w) A E s (gal false ky ar bs n ht) Q st:=by
 refine xA (λi => !O.blt (key ky) (key (g i))) (λi hi R hr =>?_) (λi j hij hj hp =>?_) hh (λk hk' h1 h2=>h k hk' (λi hi =>?_) λi hi hn =>?_)
 ·refine Eb (aZ (hg i hi) ?_)
  rw[if_neg (by simp)]
  exact Eb (C.lt _ st ky (g i) _ hk uk (hu i hi) (Ej hr))
 ·have a1:O.blt (key ky) (key (g j))=false:=by simpa using hp
  have a2:O.kle (key (g i)) (key ky):=ET (hs i j hij hj) a1
  have a3:O.blt (key ky) (key (g i))=false:=a2
  simp[a3]
 ·have a1:=h1 i hi
  exact (by simpa using a1:O.blt (key ky) (key (g i))=false)
 ·have a1:=h2 i hi hn
  exact (by simpa using a1:O.blt (key ky) (key (g i))=true)
theorem BZ (C:Cmp prog w A s O key U κ){ky:Ek}{ar:Array Ek}{bs n ht:Nat}{st:EK}{Q:Option Nat->EK->Prop}(g:Nat->Ek)(hk:kindOf st=κ)(uk:U ky)
  (hg:∀i,i<n->ar[bs+i]? = some (g i)) (hu:∀i,i<n->U (g i)) (hs:∀i j,i<=j->j<n->O.kle (key (g i)) (key (g j))) (hh:ht<n)
  (h:∀k,k<=n->(∀i,i<k->O.klt (key (g i)) (key ky))->(∀i,k<=i->i<n->O.kle (key ky) (key (g i)))->Q (some k) st):wpS (Es prog w) A E s (gal true ky ar bs n ht) Q st:=by
 refine xA (λi=>O.blt (key (g i)) (key ky)) (λi hi R hr =>?_) (λi j hij hj hp =>?_) hh (λk hk' h1 h2=>h k hk' (λi hi=>h1 i hi) λi hi hn=>h2 i hi hn)
 ·refine Eb (aZ (hg i hi) ?_)
  rw[if_pos rfl]
  exact C.lt _ st (g i) ky _ hk (hu i hi) uk hr
 ·exact KeyOrd.klt_of_kle_of_klt (hs i j hij hj) hp
end
section
variable  {O:Jm}(key:Ek->O.α)
def Le (p q:Ek):Prop:=O.kle (key p) (key q)
structure MW (a b o:Array Ek)(x y:Nat):Prop where
 hx:x<=a.size
 hy:y<=b.size
 perm:(o.toList++(a.toList.drop x++b.toList.drop y)).Perm (a.toList++b.toList)
 sorted:o.toList.Pairwise (Le key)
 below:∀p∈o.toList,∀z∈a.toList.drop x++b.toList.drop y,Le key p z
def eC (a b r:Array Ek):Prop:=r.toList.Perm (a.toList++b.toList)/\r.toList.Pairwise (Le key)
variable  {key}
theorem MW.fin {a b o:Array Ek}{x y:Nat}(m:MW key a b o x y){t:List Ek}{r:Array Ek}(hr:r.toList=o.toList++t)(ht:t.Perm (a.toList.drop x++b.toList.drop y))(hs:t.Pairwise (Le key)):eC key a b r:=by
 unfold eC
 rw[hr]
 exact ⟨(Gj _ ht).trans m.perm,Fw.mpr ⟨m.sorted,hs,λp hp q hq=>m.below p hp q (ht.mem_iff.mp hq)⟩⟩
theorem MW.take {a b o:Array Ek}{x y x' y':Nat}(m:MW key a b o x y){t:List Ek}{r:Array Ek}(hr:r.toList=o.toList++t)(hx:x'<=a.size)(hy:y'<=b.size)
  (ht:(t++(a.toList.drop x'++b.toList.drop y')).Perm (a.toList.drop x++b.toList.drop y)) (hs:t.Pairwise (Le key)) (hb:∀p∈t,∀z∈a.toList.drop x'++b.toList.drop y',Le key p z):MW key a b r x' y':=by
 have sub:∀z,z∈t\/z∈a.toList.drop x'++b.toList.drop y'->z∈a.toList.drop x++b.toList.drop y:=λz hz=>ht.mem_iff.mp (D6.mpr hz)
 refine ⟨hx,hy,?_,?_,?_⟩
 ·rw[hr,E2]
  exact (Gj _ ht).trans m.perm
 ·rw[hr]
  exact Fw.mpr ⟨m.sorted,hs,λp hp q hq=>m.below p hp q (sub q (.inl hq))⟩
 ·rw[hr]
  intro p hp z hz
  rcases D6.mp hp with h | h
  ·exact m.below p h z (sub z (.inr hz))
  ·exact hb p h z hz
theorem drop_cons {α:Type}{l:List α}{i:Nat}{z:α}(h:l[i]? = some z):l.drop i=z :: l.drop (i+1):=by
 obtain ⟨hi,e⟩:=DQ.mp h
 rw[JV hi,e]
theorem drop_take {α:Type}(l:List α)(i k:Nat):l.drop i=(l.drop i).take k++l.drop (i+k):=by
 rw[<- M9,FP]
theorem aJ {a:Array Ek}{i:Nat}{z:Ek}(h:a[i]? = some z):a.toList[i]? = some z:=by rw[D7];exact h
theorem MW.j8 {a b o:Array Ek}{x y:Nat}{z:Ek}(m:MW key a b o x y)(h:a[x]? = some z)(ha:a.toList.Pairwise (Le key))(hb:∀t∈b.toList.drop y,Le key z t):MW key a b (o.push z) (x+1) y:=by
 have e:=drop_cons (aJ h)
 have hx:x<a.size:=(FW.mp h).1
 have pa:(z :: a.toList.drop (x+1)).Pairwise (Le key):=by rw[<- e];exact ha.sublist (Fx _ _)
 refine m.take (t:=[z]) (by rw[Gi]) hx m.hy (by rw[e];exact Iv _) (Gq _ _) λp hp t ht =>?_
 have ep:p=z:=by simpa using hp
 subst ep
 rcases D6.mp ht with q | q
 ·exact (Gs.mp pa).1 t q
 ·exact hb t q
theorem MW.oo {a b o:Array Ek}{x y:Nat}{z:Ek}(m:MW key a b o x y)(h:b[y]? = some z)(hb:b.toList.Pairwise (Le key))(ha:∀t∈a.toList.drop x,Le key z t):MW key a b (o.push z) x (y+1):=by
 have e:=drop_cons (aJ h)
 have hy:y<b.size:=(FW.mp h).1
 have pb:(z :: b.toList.drop (y+1)).Pairwise (Le key):=by rw[<- e];exact hb.sublist (Fx _ _)
 refine m.take (t:=[z]) (by rw[Gi]) m.hx hy (by rw[e,List.singleton_append];exact Ks.symm) (Gq _ _) λp hp t ht =>?_
 have ep:p=z:=by simpa using hp
 subst ep
 rcases D6.mp ht with q | q
 ·exact ha t q
 ·exact (Gs.mp pb).1 t q
theorem ext_toList (a:Array Ek)(x k:Nat):(a.extract x (x+k)).toList=(a.toList.drop x).take k:=by
 rw[FX,Fu,HV]
theorem gJ (a:Array Ek)(x:Nat):(a.extract x a.size).toList=a.toList.drop x:=by
 rw[FX,Fu]
 exact D5 (by rw[Ez,DY];exact DS _)
theorem aM {l:List Ek}(h:l.Pairwise (Le key)){i j:Nat}{p q:Ek}(hi:l[i]? = some p)(hj:l[j]? = some q)(hij:i<=j):Le key p q:=by
 by_cases e:i=j
 ·subst e
  rw[hi] at hj
  cases hj
  exact Gu _
 ·obtain ⟨h1,e1⟩:=DQ.mp hi
  obtain ⟨h2,e2⟩:=DQ.mp hj
  have:=HB.mp h i j h1 h2 (by lia)
  rw[e1,e2] at this
  exact this
theorem aY {l:List Ek}{i:Nat}{t:Ek}(h:t∈l.drop i):∃j,i<=j/\l[j]? = some t:=by
 obtain ⟨n,e⟩:=Et.mp h
 rw[FK] at e
 exact ⟨i+n,by lia,e⟩
theorem j9 {l:List Ek}{i k:Nat}{t:Ek}(h:t∈(l.drop i).take k):∃j,j<k/\l[i+j]? = some t:=by
 obtain ⟨n,e⟩:=Et.mp h
 rw[Gv] at e
 split at e
 ·rw[FK] at e
  exact ⟨n,by omega,e⟩
 ·cases e
theorem MW.xB {a b o:Array Ek}{x y k:Nat}(m:MW key a b o x y)(hk:x+k<=a.size)(ha:a.toList.Pairwise (Le key))(hb:∀j p,j<k->a.toList[x+j]? = some p->∀t∈b.toList.drop y,Le key p t):MW key a b (o++a.extract x (x+k)) (x+k) y:=by
 refine m.take (t:=(a.toList.drop x).take k) (by rw[ER,ext_toList]) hk m.hy ?_ ?_ λp hp t ht =>?_
 ·rw[<- E2, <- drop_take]
 ·exact ha.sublist ((FE _ _).trans (Fx _ _))
 ·obtain ⟨j,hj,e⟩:=j9 hp
  rcases D6.mp ht with q | q
  ·obtain ⟨i,hi,e2⟩:=aY q
   exact aM ha e e2 (by lia)
  ·exact hb j p hj e t q
theorem MW.xC {a b o:Array Ek}{x y k:Nat}(m:MW key a b o x y)(hk:y+k<=b.size)(hb:b.toList.Pairwise (Le key))(ha:∀j p,j<k->b.toList[y+j]? = some p->∀t∈a.toList.drop x,Le key p t):MW key a b (o++b.extract y (y+k)) x (y+k):=by
 refine m.take (t:=(b.toList.drop y).take k) (by rw[ER,ext_toList]) m.hx hk ?_ ?_ λp hp t ht =>?_
 ·rw[drop_take b.toList y k]
  have e:((b.toList.drop y).take k++b.toList.drop (y+k)).take k=(b.toList.drop y).take k:=by rw[<- drop_take]
  rw[e]
  refine (List.perm_append_comm_assoc _ _ _)
 ·exact hb.sublist ((FE _ _).trans (Fx _ _))
 ·obtain ⟨j,hj,e⟩:=j9 hp
  rcases D6.mp ht with q | q
  ·exact ha j p hj e t q
  ·obtain ⟨i,hi,e2⟩:=aY q
   exact aM hb e e2 (by lia)
theorem MW.vx {a b o:Array Ek}{x y:Nat}(m:MW key a b o x y)(ha:a.toList.Pairwise (Le key))(hy:y=b.size):eC key a b (o++a.extract x a.size++b.extract y b.size):=by
 subst hy
 have e:b.toList.drop b.size=[]:=KL (by rw[DY];exact DS _)
 refine m.fin (t:=a.toList.drop x) (by rw[ER,ER,gJ,gJ,e,E6]) (by rw[e,E6]) (ha.sublist (Fx _ _))
theorem MW.vy {a b o:Array Ek}{x y:Nat}(m:MW key a b o x y)(hb:b.toList.Pairwise (Le key))(hx:x=a.size):eC key a b (o++a.extract x a.size++b.extract y b.size):=by
 subst hx
 have e:a.toList.drop a.size=[]:=KL (by rw[DY];exact DS _)
 refine m.fin (t:=b.toList.drop y) (by rw[ER,ER,gJ,gJ,e,E6]) (by rw[e,JC]) (hb.sublist (Fx _ _))
theorem MW.last {a b o:Array Ek}{x y:Nat}(m:MW key a b o x y)(ha:a.toList.Pairwise (Le key))(hb:b.toList.Pairwise (Le key))(hx:x+1=a.size)(hl:∀p q,p∈b.toList->a[a.size-1]? = some q->Le key p q):eC key a b (o++b.extract y b.size++a.extract x a.size):=by
 refine m.fin (t:=b.toList.drop y++a.toList.drop x) (by rw[ER,ER,gJ,gJ,E2]) Hw ?_
 refine Fw.mpr ⟨hb.sublist (Fx _ _),ha.sublist (Fx _ _),λp hp q hq=>hl p q (FY hp) ?_⟩
 obtain ⟨i,hi,e⟩:=aY hq
 rw[D7] at e
 have hi2:i<a.size:=(FW.mp e).1
 rw[show a.size-1=i by lia]
 exact e
theorem MW.size {a b o:Array Ek}{x y:Nat}(m:MW key a b o x y):o.size+(a.size-x)+(b.size-y)=a.size+b.size:=by
 have e:=m.perm.length_eq
 simp only[DT,Ez,DY] at e
 lia
end
structure Sm (st st':EK):Prop where
 k:kindOf st'=kindOf st
 a:Er st'=Er st
 p:EG st'=EG st
 f:failedOf st'=failedOf st
theorem Sm.refl (st:EK):Sm st st:=⟨rfl,rfl,rfl,rfl⟩
theorem Sm.mg {st st':EK}(h:Sm st st')(n:Nat):Sm st (SortSt.mk' (kindOf st') (Er st') (EG st') n (failedOf st')):=⟨h.k,h.a,h.p,h.f⟩
section
variable  {prog:D9}{w:EE}{A:EV}{E:DK->DP->Prop}{s:DP}{O:Jm}{key:Ek->O.α}{U:Ek->Prop}{κ:SortKind}
theorem bh {a:Array Ek}{i:Nat}(h:i<a.size):∃z,a[i]? = some z:=⟨a[i],by simp[h]⟩
theorem bW {a:Array Ek}{i:Nat}{z:Ek}(h:a[i]? = some z):z∈a.toList:=Et.mpr ⟨i,by rw[D7];exact h⟩
theorem ltq {x n:Nat}(h:x<=n)(c:¬ (x == n)=true):x<n:=LQ h λz=>c (beq_iff_eq.mpr z)
abbrev LoC:=Option (Array Ek)×Array Ek×Nat×Nat×Nat×Nat×Nat
def zD (a b o:Array Ek)(x y mg ac bc:Nat):StateT EK Sem (ForInStep LoC):=do
  let z ← elem' a x
  if (x+1+1 == a.size)=true then pure (.done (some (o.push z++b.extract y b.size++a.extract (x+1) a.size),o.push z,x+1,y,mg,ac,bc))
  else if (decide (ac<7) && decide (bc<7))=true then pure (.done (none,o.push z,x+1,y,mg,ac,bc))
  else pure (.yield (none,o.push z,x+1,y,mg,ac,bc))
def zE (a b o:Array Ek)(x y mg ac bc:Nat):StateT EK Sem (ForInStep LoC):=do
  let z ← elem' b y
  if (y+1 == b.size)=true then pure (.done (some (o.push z++a.extract x a.size++b.extract (y+1) b.size),o.push z,x,y+1,mg,ac,bc))
  else do
    let z2 ← elem' a x
    let __x ← gal true z2 b (y+1) (b.size-(y+1)) 0
    match __x with
    | some k =>
      if k>0 then
        if (y+1+k == b.size)=true then pure (.done (some (o.push z++b.extract (y+1) (y+1+k)++a.extract x a.size++b.extract (y+1+k) b.size),o.push z++b.extract (y+1) (y+1+k),x,y+1+k,mg,ac,k))
        else zD a b (o.push z++b.extract (y+1) (y+1+k)) x (y+1+k) mg ac k
      else zD a b (o.push z) x (y+1) mg ac k
    | _=>pure (.done (some (o.push z++a.extract x a.size++b.extract (y+1) b.size),o.push z,x,y+1,mg,ac,bc))
def vz (a b p:Array Ek)(x y ac bc mg:Nat):StateT EK Sem (ForInStep LoC):=do
  modify (λs=>SortSt.mk' (kindOf s) (Er s) (EG s) mg (failedOf s))
  let z ← elem' b y
  let __x ← gal false z a x (a.size-x) 0
  match __x with
  | some k =>
    if k>0 then
      if (x+k+1 == a.size)=true then pure (.done (some (p++a.extract x (x+k)++b.extract y b.size++a.extract (x+k) a.size),p++a.extract x (x+k),x+k,y,mg,k,bc))
      else if (x+k == a.size)=true then pure (.done (some (p++a.extract x (x+k)++a.extract (x+k) a.size++b.extract y b.size),p++a.extract x (x+k),x+k,y,mg,k,bc))
      else zE a b (p++a.extract x (x+k)) (x+k) y mg k bc
    else zE a b p x y mg k bc
  | _=>pure (.done (some (p++a.extract x a.size++b.extract y b.size),p,x,y,mg,ac,bc))
def LoQ (key:Ek->O.α)(a b:Array Ek)(st:EK)(n:Nat)(r:ForInStep LoC)(st':EK):Prop:=match r with
 | .done c=>Sm st st'/\((∃r p x y mg ac bc,c=(some r,p,x,y,mg,ac,bc)/\eC key a b r)\/∃p x y mg ac bc,c=(none,p,x,y,mg,ac,bc)/\MW key a b p x y/\x+1<a.size/\y<b.size/\n<=p.size)
 | .yield c=>Sm st st'/\∃p x y mg ac bc,c=(none,p,x,y,mg,ac,bc)/\MW key a b p x y/\x+1<a.size/\y<b.size/\n<=p.size
theorem LoQ.out {a b:Array Ek}{st st':EK}{n:Nat}{r:Array Ek}{c:Array Ek×Nat×Nat×Nat×Nat×Nat}(sm:Sm st st')(f:eC key a b r):LoQ key a b st n (.done (some r,c)) st':=by
 obtain ⟨p,x,y,mg,ac,bc⟩:=c
 exact ⟨sm,.inl ⟨_,_,_,_,_,_,_,rfl,f⟩⟩
theorem tY {a b:Array Ek}{st st':EK}(ha:a.toList.Pairwise (Le key))(hb:b.toList.Pairwise (Le key))(hl:∀p q,p∈b.toList->a[a.size-1]? = some q->Le key p q)
  {o:Array Ek} {x y mg ac bc n:Nat} {za:Ek} (sm:Sm st st') (ea:a[x]? = some za) (m4:MW key a b (o.push za) (x+1) y) (hx:x+1<a.size) (hy:y<b.size) (hn:n<=o.size):wpS (Es prog w) A E s (zD a b o x y mg ac bc) (LoQ key a b st n) st':=by
 unfold zD
 refine Eb (aZ ea ?_)
 by_cases d5:(x+1+1 == a.size)=true
 ·rw[if_pos d5]
  exact Ej (LoQ.out sm (m4.last ha hb (beq_iff_eq.mp d5) hl))
 rw[if_neg d5]
 have hx2:x+1+1<a.size:=ltq hx d5
 have hn':n<=(o.push za).size:=by rw[HH];exact HI hn
 split
 ·exact Ej ⟨sm,.inr ⟨_,_,_,_,_,_,rfl,m4,hx2,hy,hn'⟩⟩
 ·exact Ej ⟨sm,_,_,_,_,_,_,rfl,m4,hx2,hy,hn'⟩
theorem tZ (C:Cmp prog w A s O key U κ){a b:Array Ek}{st st':EK}(hκ:kindOf st=κ)(ua:∀p∈a.toList,U p)(ub:∀p∈b.toList,U p)
  (ha:a.toList.Pairwise (Le key)) (hb:b.toList.Pairwise (Le key)) (hl:∀p q,p∈b.toList->a[a.size-1]? = some q->Le key p q)
  {o:Array Ek} {x y mg ac bc n:Nat} {zb:Ek} (sm:Sm st st') (eb:b[y]? = some zb) (mk:MW key a b o x y) (bl:∀t∈a.toList.drop x,Le key zb t) (hx1:x+1<a.size) (hy:y<b.size) (hn:n<=o.size):wpS (Es prog w) A E s (zE a b o x y mg ac bc) (LoQ key a b st n) st':=by
 unfold zE
 refine Eb (aZ eb ?_)
 have m2:=mk.oo eb hb bl
 by_cases d3:(y+1 == b.size)=true
 ·rw[if_pos d3]
  exact Ej (LoQ.out sm (m2.vx ha (beq_iff_eq.mp d3)))
 rw[if_neg d3]
 have hy1:y+1<b.size:=ltq hy d3
 have hxa:x<a.size:=HJ hx1
 obtain ⟨za,ea⟩:=bh hxa
 refine Eb (aZ ea ?_)
 refine Eb (BZ C (λi=>(b[y+1+i]?).getD za) (sm.k.trans hκ) (ua _ (bW ea)) (λi hi =>?_) (λi hi =>?_) (λi j hij hj =>?_) (Md hy1) λk1 hk1 g1 g2 =>?_)
 ·obtain ⟨z,e⟩:=bh (show y+1+i<b.size by omega)
  rw[e];rfl
 ·obtain ⟨z,e⟩:=bh (show y+1+i<b.size by omega)
  rw[e];exact ub _ (bW e)
 ·obtain ⟨z,e⟩:=bh (show y+1+i<b.size by omega)
  obtain ⟨z',e'⟩:=bh (show y+1+j<b.size by omega)
  rw[e,e'];exact aM hb (aJ e) (aJ e') (IG hij _)
 dsimp only at g1 g2 ⊢
 have tb:∀j q,j<k1->b.toList[y+1+j]? = some q->∀t∈a.toList.drop x,Le key q t:=λj q hj e t ht=>by
  have z:=g1 j hj
  rw[D7] at e
  rw[e] at z
  obtain ⟨n,hn,e2⟩:=aY ht
  exact ET (FH z) (aM ha (aJ ea) e2 hn)
 have hk1':y+1+k1<=b.size:=by omega
 have m3:=m2.xC (k:=k1) hk1' hb tb
 have bl2:∀t∈b.toList.drop (y+1+k1),Le key za t:=λt ht=>by
  obtain ⟨n,hn,e2⟩:=aY ht
  rw[D7] at e2
  have hn2:n<b.size:=(FW.mp e2).1
  have z:=g2 (n-(y+1)) (by omega) (by omega)
  rw[show y+1+(n-(y+1))=n by omega,e2] at z
  exact z
 have hn1:n<=(o.push zb).size:=by rw[HH];exact HI hn
 by_cases k2:k1>0
 ·rw[if_pos k2]
  by_cases d4:(y+1+k1 == b.size)=true
  ·rw[if_pos d4]
   exact Ej (LoQ.out sm (m3.vx ha (beq_iff_eq.mp d4)))
  rw[if_neg d4]
  exact tY ha hb hl sm ea (m3.j8 ea ha bl2) hx1 (ltq hk1' d4) (EI hn1 (by rw[Iq];exact GP _ _))
 ·rw[if_neg k2]
  obtain rfl:k1=0:=Ic k2
  exact tY ha hb hl sm ea (m2.j8 ea ha bl2) hx1 hy1 hn1
theorem t6 (C:Cmp prog w A s O key U κ){a b:Array Ek}{st st':EK}(hκ:kindOf st=κ)(ua:∀p∈a.toList,U p)(ub:∀p∈b.toList,U p)
  (ha:a.toList.Pairwise (Le key)) (hb:b.toList.Pairwise (Le key)) (hl:∀p q,p∈b.toList->a[a.size-1]? = some q->Le key p q)
  {p:Array Ek} {x y ac bc n:Nat} (mg:Nat) (sm:Sm st st') (m:MW key a b p x y) (hx:x+1<a.size) (hy:y<b.size) (hn:n<=p.size):wpS (Es prog w) A E s (vz a b p x y ac bc mg) (LoQ key a b st n) st':=by
 unfold vz
 obtain ⟨zb,eb⟩:=bh hy
 refine Eb (G0 ?_)
 refine Eb (aZ eb ?_)
 refine Eb (BY C (λi=>(a[x+i]?).getD zb) ((sm.mg _).k.trans hκ) (ub _ (bW eb)) (λi hi =>?_) (λi hi =>?_) (λi j hij hj =>?_) (Md (HJ hx)) λk hk h1 h2 =>?_)
 ·obtain ⟨z,e⟩:=bh (show x+i<a.size by lia)
  rw[e];rfl
 ·obtain ⟨z,e⟩:=bh (show x+i<a.size by lia)
  rw[e];exact ua _ (bW e)
 ·obtain ⟨z,e⟩:=bh (show x+i<a.size by lia)
  obtain ⟨z',e'⟩:=bh (show x+j<a.size by lia)
  rw[e,e'];exact aM ha (aJ e) (aJ e') (IG hij _)
 dsimp only at h1 h2 ⊢
 have ta:∀j q,j<k->a.toList[x+j]? = some q->∀t∈b.toList.drop y,Le key q t:=λj q hj e t ht=>by
  have z:=h1 j hj
  rw[D7] at e
  rw[e] at z
  obtain ⟨n,hn,e2⟩:=aY ht
  exact ET (show O.kle (key q) (key zb) from z) (aM hb (aJ eb) e2 hn)
 have hk':x+k<=a.size:=by lia
 have mk:=m.xB (k:=k) hk' ha ta
 have bl:∀t∈a.toList.drop (x+k),Le key zb t:=λt ht=>by
  obtain ⟨n,hn,e2⟩:=aY ht
  rw[D7] at e2
  have hn2:n<a.size:=(FW.mp e2).1
  have z:=h2 (n-x) (by lia) (by lia)
  rw[show x+(n-x)=n by lia,e2] at z
  exact FH z
 by_cases k0:k>0
 ·rw[if_pos k0]
  by_cases d1:(x+k+1 == a.size)=true
  ·rw[if_pos d1]
   exact Ej (LoQ.out (sm.mg _) (mk.last ha hb (beq_iff_eq.mp d1) hl))
  rw[if_neg d1]
  by_cases d2:(x+k == a.size)=true
  ·rw[if_pos d2]
   exact Ej (LoQ.out (sm.mg _) (mk.vy hb (beq_iff_eq.mp d2)))
  rw[if_neg d2]
  exact tZ C hκ ua ub ha hb hl (sm.mg _) eb mk bl (ltq (ltq hk' d2) d1) hy (EI hn (by rw[Iq];exact GP _ _))
 ·rw[if_neg k0]
  obtain rfl:k=0:=Ic k0
  exact tZ C hκ ua ub ha hb hl (sm.mg _) eb m bl hx hy hn
theorem zF (C:Cmp prog w A s O key U κ){a b:Array Ek}{st st':EK}(hκ:kindOf st=κ)(ua:∀p∈a.toList,U p)(ub:∀p∈b.toList,U p)
  (ha:a.toList.Pairwise (Le key)) (hb:b.toList.Pairwise (Le key)) (hl:∀p q,p∈b.toList->a[a.size-1]? = some q->Le key p q)
  {p:Array Ek} {x y ac bc n mg:Nat} (sm:Sm st st') (m:MW key a b p x y) (hx:x+1<a.size) (hy:y<b.size) (hn:n<=p.size):wpS (Es prog w) A E s (if mg>1 then vz a b p x y ac bc (mg-1) else vz a b p x y ac bc mg) (LoQ key a b st n) st':=by
 split
 ·exact t6 C hκ ua ub ha hb hl (mg-1) sm m hx hy hn
 ·exact t6 C hκ ua ub ha hb hl mg sm m hx hy hn
abbrev LoD:=Option (Array Ek)×Array Ek×Nat×Nat×Nat×Nat
abbrev LoE:=Option (Array Ek)×Array Ek×Nat×Nat×Nat
def xD (a b:Array Ek)(mg:Nat)(c:LoD):StateT EK Sem (ForInStep LoD):=do
  let u ← elem' b c.2.2.2.1
  let v ← elem' a c.2.2.1
  let __x ← lt' u v
  match __x with
  | some bw =>
    if bw=true then do
      let z ← elem' b c.2.2.2.1
      if (c.2.2.2.1+1 == b.size)=true then pure (.done (some (c.2.1.push z++a.extract c.2.2.1 a.size++b.extract (c.2.2.2.1+1) b.size),c.2.1.push z,c.2.2.1,c.2.2.2.1+1,0,c.2.2.2.2.2+1))
      else if c.2.2.2.2.2+1≥mg then pure (.done (none,c.2.1.push z,c.2.2.1,c.2.2.2.1+1,0,c.2.2.2.2.2+1))
      else pure (.yield (none,c.2.1.push z,c.2.2.1,c.2.2.2.1+1,0,c.2.2.2.2.2+1))
    else do
      let z ← elem' a c.2.2.1
      if (c.2.2.1+1+1 == a.size)=true then pure (.done (some (c.2.1.push z++b.extract c.2.2.2.1 b.size++a.extract (c.2.2.1+1) a.size),c.2.1.push z,c.2.2.1+1,c.2.2.2.1,c.2.2.2.2.1+1,0))
      else if c.2.2.2.2.1+1≥mg then pure (.done (none,c.2.1.push z,c.2.2.1+1,c.2.2.2.1,c.2.2.2.2.1+1,0))
      else pure (.yield (none,c.2.1.push z,c.2.2.1+1,c.2.2.2.1,c.2.2.2.2.1+1,0))
  | _=>pure (.done (some (c.2.1++a.extract c.2.2.1 a.size++b.extract c.2.2.2.1 b.size),c.2.1,c.2.2.1,c.2.2.2.1,c.2.2.2.2.1,c.2.2.2.2.2))
def B0 (a b:Array Ek)(c:LoC):StateT EK Sem (ForInStep LoC) :=
 if c.2.2.2.2.1>1 then vz a b c.2.1 c.2.2.1 c.2.2.2.1 c.2.2.2.2.2.1 c.2.2.2.2.2.2 (c.2.2.2.2.1-1) else vz a b c.2.1 c.2.2.1 c.2.2.2.1 c.2.2.2.2.2.1 c.2.2.2.2.2.2 c.2.2.2.2.1
def rR (a b:Array Ek)(c:LoE):StateT EK Sem (ForInStep LoE):=do
  let d ← forIn [0:a.size+b.size] ((none,c.2.1,c.2.2.1,c.2.2.2.1,0,0):LoD) λ_ d=>xD a b c.2.2.2.2 d
  match d.1 with
  | some r=>pure (.done (some r,d.2.1,d.2.2.1,d.2.2.2.1,c.2.2.2.2))
  | none=>do
    rule "list.sort.gallop"
    let e ← forIn [0:a.size+b.size] ((none,d.2.1,d.2.2.1,d.2.2.2.1,c.2.2.2.2+1,d.2.2.2.2.1,d.2.2.2.2.2):LoC) λ_ e=>B0 a b e
    match e.1 with
    | some r=>pure (.done (some r,e.2.1,e.2.2.1,e.2.2.2.1,e.2.2.2.2.1))
    | none=>do
      modify (λs=>SortSt.mk' (kindOf s) (Er s) (EG s) (e.2.2.2.2.1+1) (failedOf s))
      pure (.yield (none,e.2.1,e.2.2.1,e.2.2.2.1,e.2.2.2.2.1+1))
theorem zG (a b:Array Ek):mLo a b=(do
    rule "list.sort.merge-lo"
    let z ← elem' b 0
    if (1 == b.size)=true then pure (#[z]++a.extract 0 a.size++b.extract 1 b.size)
    else if (0+1 == a.size)=true then pure (#[z]++b.extract 1 b.size++a.extract 0 a.size)
    else do
      let g ← get
      let c ← forIn [0:a.size+b.size] ((none, #[z],0,1,gallopOf g):LoE) λ_ c=>rR a b c
      match c.1 with
      | some r=>pure r
      | none=>unsupported "internal:list.sort.merge-bound"):=by
  kernel_rfl
def LdI (key:Ek->O.α)(a b:Array Ek)(st:EK)(n:Nat)(c:LoD)(st':EK):Prop:=Sm st st'/\∃o' x y ac bc,c=(none,o',x,y,ac,bc)/\MW key a b o' x y/\x+1<a.size/\y<b.size/\n<=o'.size
def LdQ (key:Ek->O.α)(a b:Array Ek)(st:EK)(n:Nat)(c:LoD)(st':EK):Prop:=Sm st st'/\((∃r o x y ac bc,c=(some r,o,x,y,ac,bc)/\eC key a b r)\/∃o' x y ac bc,c=(none,o',x,y,ac,bc)/\MW key a b o' x y/\x+1<a.size/\y<b.size/\n<=o'.size)
theorem xE (C:Cmp prog w A s O key U κ){a b:Array Ek}{st st':EK}(hκ:kindOf st=κ)(ua:∀p∈a.toList,U p)(ub:∀p∈b.toList,U p)
  (ha:a.toList.Pairwise (Le key)) (hb:b.toList.Pairwise (Le key)) (hl:∀p q,p∈b.toList->a[a.size-1]? = some q->Le key p q)
  {mg n m':Nat} {c:LoD} (I:LdI key a b st n c st') (hm:m'<=n+1) {Q:ForInStep LoD->EK->Prop} (h:∀r st',(match r with | .done c'=>LdQ key a b st (n+1) c' st' | .yield c'=>LdI key a b st m' c' st')->Q r st'):wpS (Es prog w) A E s (xD a b mg c) Q st':=by
 obtain ⟨sm2,o',x,y,ac,bc,rfl,m,hx,hy,hz⟩:=I
 unfold xD
 obtain ⟨za,ea⟩:=bh (HJ hx)
 obtain ⟨zb,eb⟩:=bh hy
 refine Eb (aZ eb (Eb (aZ ea (Eb (C.lt _ st' zb za _ (sm2.k.trans hκ) (ub _ (bW eb)) (ua _ (bW ea)) ?_)))))
 dsimp only
 have sz:∀z,n+1<=(o'.push z).size:=λz=>by rw[HH];exact MD hz
 cases hlt:O.blt (key zb) (key za) with
 | true =>
  rw[if_pos rfl]
  refine Eb (aZ eb ?_)
  have m1:=m.oo eb hb λt ht=>by
   obtain ⟨n,hn,e⟩:=aY ht
   exact ET (FH hlt) (aM ha (aJ ea) e hn)
  by_cases c3:(y+1 == b.size)=true
  ·rw[if_pos c3]
   exact Ej (h _ _ ⟨sm2,.inl ⟨_,_,_,_,_,_,rfl,m1.vx ha (beq_iff_eq.mp c3)⟩⟩)
  ·rw[if_neg c3]
   have c3':=ltq hy c3
   split
   ·exact Ej (h _ _ ⟨sm2,.inr ⟨_,_,_,_,_,rfl,m1,hx,c3',sz _⟩⟩)
   ·exact Ej (h _ _ ⟨sm2,_,_,_,_,_,rfl,m1,hx,c3',EI hm (sz _)⟩)
 | false =>
  rw[if_neg Eh]
  refine Eb (aZ ea ?_)
  have m1:=m.j8 ea ha λt ht=>by
   obtain ⟨n,hn,e⟩:=aY ht
   exact ET (show O.kle (key za) (key zb) from hlt) (aM hb (aJ eb) e hn)
  by_cases c3:(x+1+1 == a.size)=true
  ·rw[if_pos c3]
   exact Ej (h _ _ ⟨sm2,.inl ⟨_,_,_,_,_,_,rfl,m1.last ha hb (beq_iff_eq.mp c3) hl⟩⟩)
  ·rw[if_neg c3]
   have c3':=ltq hx c3
   split
   ·exact Ej (h _ _ ⟨sm2,.inr ⟨_,_,_,_,_,rfl,m1,c3',hy,sz _⟩⟩)
   ·exact Ej (h _ _ ⟨sm2,_,_,_,_,_,rfl,m1,c3',hy,EI hm (sz _)⟩)
def LeI (key:Ek->O.α)(a b:Array Ek)(st:EK)(n:Nat)(c:LoE)(st':EK):Prop:=Sm st st'/\∃o x y mg,c=(none,o,x,y,mg)/\MW key a b o x y/\x+1<a.size/\y<b.size/\n+1<=o.size
def LeQ (key:Ek->O.α)(a b:Array Ek)(st:EK)(c:LoE)(st':EK):Prop:=Sm st st'/\((∃r o x y mg,c=(some r,o,x,y,mg)/\eC key a b r)\/∃o x y mg,c=(none,o,x,y,mg)/\MW key a b o x y/\x+1<a.size/\y<b.size/\a.size+b.size+1<=o.size)
theorem vA (C:Cmp prog w A s O key U κ){a b:Array Ek}{st st':EK}(hκ:kindOf st=κ)(ua:∀p∈a.toList,U p)(ub:∀p∈b.toList,U p)
  (ha:a.toList.Pairwise (Le key)) (hb:b.toList.Pairwise (Le key)) (na:0<a.size) (hl:∀p q,p∈b.toList->a[a.size-1]? = some q->Le key p q)
  {n:Nat} {c:LoE} (I:LeI key a b st n c st'):wpS (Es prog w) A E s (rR a b c) (λr st'=>match r with | .done c'=>LeQ key a b st c' st' | .yield c'=>LeI key a b st (n+1) c' st') st':=by
 obtain ⟨sm1,o,x,y,mg,rfl,m,hx,hy,hz⟩:=I
 unfold rR
 have q1:1<=a.size+b.size:=EI na (GP _ _)
 refine Eb (GH (FC (I:=λj c st'=>LdI key a b st (o.size+min j 1) c st') (Q:=LdQ key a b st (o.size+1)) (λj c st2 _ hj J=>xE (n:=o.size+min j 1) (m':=o.size+min (j+1) 1) C hκ ua ub ha hb hl J (by lia) λr st' k =>?_) (λc st' J =>?_) ⟨sm1,o,x,y,0,0,rfl,m,hx,hy,DS _⟩) ?_)
 ·cases r with
  | done c'=>exact k.imp id λz=>z.imp id λ⟨o',x,y,ac,bc,e,m,hx,hy,hz⟩=>⟨o',x,y,ac,bc,e,m,hx,hy,by lia⟩
  | yield c'=>exact k
 ·obtain ⟨sm,o',x,y,ac,bc,e,m,hx,hy,hz⟩:=J
  exact ⟨sm,.inr ⟨o',x,y,ac,bc,e,m,hx,hy,by lia⟩⟩
 rintro c st2 ⟨sm2,⟨r,o',x,y,ac,bc,rfl,fr⟩ | ⟨o',x,y,ac,bc,rfl,m,hx,hy,hz2⟩⟩
 ·exact Ej ⟨sm2,.inl ⟨_,_,_,_,_,rfl,fr⟩⟩
 dsimp only
 refine Eb (JR (Gz ⟨rfl,?_⟩))
 refine Eb (GH (FC (I:=λ_ c st'=>LoQ key a b st o'.size (.yield c) st') (Q:=λc st'=>LoQ key a b st o'.size (.done c) st') (λj c st3 _ hj J =>?_) (λc st' J=>⟨J.1,.inr J.2⟩) ⟨sm2,o',x,y,_,ac,bc,rfl,m,hx,hy,DS _⟩) ?_)
 ·obtain ⟨sm3,p,x,y,mg,ac,bc,rfl,m,hx,hy,hz3⟩:=J
  refine GH (zF C hκ ua ub ha hb hl sm3 m hx hy hz3) ?_
  intro r st' h
  cases r <;> exact h
 rintro c st3 ⟨sm3,⟨r,p,x,y,mg,ac,bc,rfl,fr⟩ | ⟨p,x,y,mg,ac,bc,rfl,m,hx,hy,hz3⟩⟩
 ·exact Ej ⟨sm3,.inl ⟨_,_,_,_,_,rfl,fr⟩⟩
 ·dsimp only
  exact Eb (G0 (Ej ⟨sm3.mg _,p,x,y,_,rfl,m,hx,hy,by lia⟩))
theorem B1 (C:Cmp prog w A s O key U κ){a b:Array Ek}{st:EK}{Q:Array Ek->EK->Prop}(hκ:kindOf st=κ)(ua:∀p∈a.toList,U p)(ub:∀p∈b.toList,U p)
  (ha:a.toList.Pairwise (Le key)) (hb:b.toList.Pairwise (Le key)) (na:0<a.size) (nb:0<b.size) (h0:∀p q,b[0]? = some p->a[0]? = some q->Le key p q) (hl:∀p q,p∈b.toList->a[a.size-1]? = some q->Le key p q)
  (h:∀r st',Sm st st'->eC key a b r->Q r st'):wpS (Es prog w) A E s (mLo a b) Q st:=by
 rw[zG]
 refine Eb (JR (Gz ⟨rfl,?_⟩))
 obtain ⟨b0,eb0⟩:=bh nb
 obtain ⟨a0,ea0⟩:=bh na
 have a0le:∀t∈a.toList,Le key a0 t:=λt ht=>by
  obtain ⟨i,e⟩:=Et.mp ht
  exact aM ha (aJ ea0) e (EB _)
 have m0:MW key a b #[] 0 0:=⟨EB _,EB _,Iv _,List.Pairwise.nil,λp hp=>by cases hp⟩
 have m1:MW key a b #[b0] 0 1:=m0.oo eb0 hb λt ht=>ET (h0 _ _ eb0 ea0) (a0le t ht)
 refine Eb (aZ eb0 ?_)
 by_cases c1:(1 == b.size)=true
 ·rw[if_pos c1]
  exact Ej (h _ st (Sm.refl st) (m1.vx ha (beq_iff_eq.mp c1)))
 rw[if_neg c1]
 by_cases c2:(0+1 == a.size)=true
 ·rw[if_pos c2]
  exact Ej (h _ st (Sm.refl st) (m1.last ha hb (beq_iff_eq.mp c2) hl))
 rw[if_neg c2]
 refine Eb (JH ?_)
 refine Eb (GH (FC (I:=λi c st'=>LeI key a b st i c st') (Q:=LeQ key a b st) (λi c st1 _ _ J=>GH (vA C hκ ua ub ha hb na hl J) λr st' h=>by cases r <;> exact h) (λc st' J =>?_) ⟨Sm.refl st,_,_,_,_,rfl,m1,ltq na c2,ltq nb c1,DS _⟩) ?_)
 ·obtain ⟨sm,o,x,y,mg,e,m,hx,hy,hz⟩:=J
  exact ⟨sm,.inr ⟨o,x,y,mg,e,m,hx,hy,by lia⟩⟩
 rintro c st' ⟨sm,⟨r,o,x,y,mg,rfl,fr⟩ | ⟨o,x,y,mg,rfl,m,hx,hy,hz⟩⟩
 ·exact Ej (h r st' sm fr)
 ·have:=m.size
  lia
end
section
variable  {O:Jm}(key:Ek->O.α)
structure MV (a b o:Array Ek)(x y:Nat):Prop where
 hx:x<=a.size
 hy:y<=b.size
 perm:((a.toList.take x++b.toList.take y)++o.toList.reverse).Perm (a.toList++b.toList)
 sorted:o.toList.reverse.Pairwise (Le key)
 above:∀p∈a.toList.take x++b.toList.take y,∀q∈o.toList.reverse,Le key p q
variable  {key}
theorem MV.fin {a b o:Array Ek}{x y:Nat}(m:MV key a b o x y){t:List Ek}{r:Array Ek}(hr:r.toList=t++o.toList.reverse)(ht:t.Perm (a.toList.take x++b.toList.take y))(hs:t.Pairwise (Le key)):eC key a b r:=by
 unfold eC
 rw[hr]
 exact ⟨(G8 _ ht).trans m.perm,Fw.mpr ⟨hs,m.sorted,λp hp q hq=>m.above p (ht.mem_iff.mp hp) q hq⟩⟩
theorem MV.take {a b o:Array Ek}{x y x' y':Nat}(m:MV key a b o x y){t:List Ek}{r:Array Ek}(hr:r.toList.reverse=t++o.toList.reverse)(hx:x'<=a.size)(hy:y'<=b.size)
  (ht:((a.toList.take x'++b.toList.take y')++t).Perm (a.toList.take x++b.toList.take y)) (hs:t.Pairwise (Le key)) (hb:∀p∈a.toList.take x'++b.toList.take y',∀q∈t,Le key p q):MV key a b r x' y':=by
 have sub:∀z,z∈a.toList.take x'++b.toList.take y'\/z∈t->z∈a.toList.take x++b.toList.take y:=λz hz=>ht.mem_iff.mp (D6.mpr hz)
 refine ⟨hx,hy,?_,?_,?_⟩
 ·rw[hr, <- E2]
  exact (G8 _ ht).trans m.perm
 ·rw[hr]
  exact Fw.mpr ⟨hs,m.sorted,λp hp q hq=>m.above p (sub p (.inr hp)) q hq⟩
 ·rw[hr]
  intro p hp z hz
  rcases D6.mp hz with h | h
  ·exact hb p hp z h
  ·exact m.above p (sub p (.inl hp)) z h
theorem bj {l:List Ek}{k:Nat}{t:Ek}(h:t∈l.take k):∃j,j<k/\l[j]? = some t:=by
 obtain ⟨n,e⟩:=Et.mp h
 rw[Gv] at e
 split at e
 ·exact ⟨n,by omega,e⟩
 ·cases e
theorem oq {l:List Ek}{x:Nat}{z:Ek}(hx:1<=x)(h:l[x-1]? = some z):l.take x=l.take (x-1)++[z]:=by
 obtain ⟨n,rfl⟩:∃n,x=n+1:=⟨x-1,by lia⟩
 rw[Nat.add_sub_cancel] at h ⊢
 rw[Ef,h]
 rfl
theorem t8 (a:Array Ek)(c x:Nat)(hx:x<=a.size):(a.extract c x).toList=(a.toList.take x).drop c:=by
 rw[FX,Fu,List.drop_take]
theorem gK (a:Array Ek)(x:Nat):(a.extract 0 x).toList=a.toList.take x:=by
 rw[FX,Fu,Iw,Mr]
theorem MV.j8 {a b o:Array Ek}{x y:Nat}{z:Ek}(m:MV key a b o x y)(h1:1<=x)(h:a[x-1]? = some z)(ha:a.toList.Pairwise (Le key))(hb:∀t∈b.toList.take y,Le key t z):MV key a b (o.push z) (x-1) y:=by
 have e:=oq h1 (aJ h)
 refine m.take (t:=[z]) (by rw[Gi,II];rfl) (by have:=m.hx;lia) m.hy ?_ (Gq _ _) λp hp q hq =>?_
 ·rw[e,E2,E2]
  exact Gj _ Hw
 ·have eq:q=z:=by simpa using hq
  subst eq
  rcases D6.mp hp with r | r
  ·obtain ⟨j,hj,e2⟩:=bj r
   exact aM ha e2 (aJ h) (by lia)
  ·exact hb p r
theorem MV.oo {a b o:Array Ek}{x y:Nat}{z:Ek}(m:MV key a b o x y)(h1:1<=y)(h:b[y-1]? = some z)(hb:b.toList.Pairwise (Le key))(ha:∀t∈a.toList.take x,Le key t z):MV key a b (o.push z) x (y-1):=by
 have e:=oq h1 (aJ h)
 refine m.take (t:=[z]) (by rw[Gi,II];rfl) m.hx (by have:=m.hy;lia) ?_ (Gq _ _) λp hp q hq =>?_
 ·rw[e,E2]
 ·have eq:q=z:=by simpa using hq
  subst eq
  rcases D6.mp hp with r | r
  ·exact ha p r
  ·obtain ⟨j,hj,e2⟩:=bj r
   exact aM hb e2 (aJ h) (by lia)
theorem ud (l:List Ek){c x:Nat}(h:c<=x):l.take x=l.take c++(l.take x).drop c:=by
 have e:(l.take x).take c=l.take c:=by rw[List.take_take,Nat.min_eq_left h]
 rw[<- e,FP]
theorem lI {l:List Ek}{c x:Nat}{t:Ek}(h:t∈(l.take x).drop c):∃j,c<=j/\j<x/\l[j]? = some t:=by
 obtain ⟨j,hj,e⟩:=aY h
 rw[Gv] at e
 split at e
 ·exact ⟨j,hj,by omega,e⟩
 ·cases e
theorem MV.xB {a b o:Array Ek}{x y c:Nat}(m:MV key a b o x y)(hc:c<=x)(ha:a.toList.Pairwise (Le key))(hb:∀j p,c<=j->j<x->a.toList[j]? = some p->∀t∈b.toList.take y,Le key t p):MV key a b (o++(a.extract c x).reverse) c y:=by
 refine m.take (t:=(a.toList.take x).drop c) (by rw[ER,II,HE,Lj,t8 _ _ _ m.hx]) (EI hc m.hx) m.hy ?_ ?_ λp hp q hq =>?_
 ·refine List.Perm.trans ?_ (G8 _ (List.Perm.of_eq (ud a.toList hc).symm))
  rw[E2,E2]
  exact Gj _ Hw
 ·exact ha.sublist ((Fx _ _).trans (FE _ _))
 ·obtain ⟨j,h1,h2,e⟩:=lI hq
  rcases D6.mp hp with r | r
  ·obtain ⟨i,hi,e2⟩:=bj r
   exact aM ha e2 e (by lia)
  ·exact hb j q h1 h2 e p r
theorem MV.xC {a b o:Array Ek}{x y c:Nat}(m:MV key a b o x y)(hc:c<=y)(hb:b.toList.Pairwise (Le key))(ha:∀j p,c<=j->j<y->b.toList[j]? = some p->∀t∈a.toList.take x,Le key t p):MV key a b (o++(b.extract c y).reverse) x c:=by
 refine m.take (t:=(b.toList.take y).drop c) (by rw[ER,II,HE,Lj,t8 _ _ _ m.hy]) m.hx (EI hc m.hy) ?_ ?_ λp hp q hq =>?_
 ·rw[E2, <- ud b.toList hc]
 ·exact hb.sublist ((Fx _ _).trans (FE _ _))
 ·obtain ⟨j,h1,h2,e⟩:=lI hq
  rcases D6.mp hp with r | r
  ·exact ha j q h1 h2 e p r
  ·obtain ⟨i,hi,e2⟩:=bj r
   exact aM hb e2 e (by lia)
theorem MV.vy {a b o:Array Ek}{x y:Nat}(m:MV key a b o x y)(hb:b.toList.Pairwise (Le key))(hx:x=0):eC key a b (a.extract 0 x++b.extract 0 y++o.reverse):=by
 subst hx
 refine m.fin (t:=b.toList.take y) (by rw[ER,ER,gK,gK,HE,JW,JC]) (by rw[JW,JC]) (hb.sublist (FE _ _))
theorem MV.vx {a b o:Array Ek}{x y:Nat}(m:MV key a b o x y)(ha:a.toList.Pairwise (Le key))(hy:y=0):eC key a b (a.extract 0 x++b.extract 0 y++o.reverse):=by
 subst hy
 refine m.fin (t:=a.toList.take x) (by rw[ER,ER,gK,gK,HE,JW,E6]) (by rw[JW,E6]) (ha.sublist (FE _ _))
theorem MV.first {a b o:Array Ek}{x y:Nat}(m:MV key a b o x y)(ha:a.toList.Pairwise (Le key))(hb:b.toList.Pairwise (Le key))(hy:y=1)(hl:∀p q,b[0]? = some p->q∈a.toList->Le key p q):eC key a b (b.extract 0 y++a.extract 0 x++o.reverse):=by
 refine m.fin (t:=b.toList.take y++a.toList.take x) (by rw[ER,ER,gK,gK,HE]) Hw ?_
 refine Fw.mpr ⟨hb.sublist (FE _ _),ha.sublist (FE _ _),λp hp q hq=>hl p q ?_ (Gy hq)⟩
 obtain ⟨i,hi,e⟩:=bj hp
 rw[D7] at e
 rw[show i=0 by lia] at e
 exact e
theorem MV.size {a b o:Array Ek}{x y:Nat}(m:MV key a b o x y):o.size+x+y=a.size+b.size:=by
 have e:=m.perm.length_eq
 have h1:=m.hx
 have h2:=m.hy
 simp only[DT,EF,DY,HW] at e
 lia
end
section
variable  {prog:D9}{w:EE}{A:EV}{E:DK->DP->Prop}{s:DP}{O:Jm}{key:Ek->O.α}{U:Ek->Prop}{κ:SortKind}
abbrev HiC:=Option (Array Ek)×Nat×Nat×Array Ek×Nat×Nat×Nat
def zI (a b:Array Ek)(x y:Nat)(o:Array Ek)(mg ac bc:Nat):StateT EK Sem (ForInStep HiC):=do
  let z ← elem' a (x-1)
  if (x-1 == 0)=true then pure (.done (some (a.extract 0 (x-1)++b.extract 0 y++(o.push z).reverse),x-1,y,o.push z,mg,ac,bc))
  else if (decide (ac<7) && decide (bc<7))=true then pure (.done (none,x-1,y,o.push z,mg,ac,bc))
  else pure (.yield (none,x-1,y,o.push z,mg,ac,bc))
def zJ (a b:Array Ek)(x y:Nat)(o:Array Ek)(mg ac bc:Nat):StateT EK Sem (ForInStep HiC):=do
  let z ← elem' b (y-1)
  if (y-1 == 1)=true then pure (.done (some (b.extract 0 (y-1)++a.extract 0 x++(o.push z).reverse),x,y-1,o.push z,mg,ac,bc))
  else do
    let z2 ← elem' a (x-1)
    let __x ← gal true z2 b 0 (y-1) (y-1-1)
    match __x with
    | some c =>
      if y-1-c>0 then
        if (c == 1)=true then pure (.done (some (b.extract 0 c++a.extract 0 x++(o.push z++(b.extract c (y-1)).reverse).reverse),x,c,o.push z++(b.extract c (y-1)).reverse,mg,ac,y-1-c))
        else if (c == 0)=true then pure (.done (some (a.extract 0 x++b.extract 0 c++(o.push z++(b.extract c (y-1)).reverse).reverse),x,c,o.push z++(b.extract c (y-1)).reverse,mg,ac,y-1-c))
        else zI a b x c (o.push z++(b.extract c (y-1)).reverse) mg ac (y-1-c)
      else zI a b x (y-1) (o.push z) mg ac (y-1-c)
    | _=>pure (.done (some (a.extract 0 x++b.extract 0 (y-1)++(o.push z).reverse),x,y-1,o.push z,mg,ac,bc))
def vB (a b:Array Ek)(x y:Nat)(p:Array Ek)(ac bc mg:Nat):StateT EK Sem (ForInStep HiC):=do
  modify (λs=>SortSt.mk' (kindOf s) (Er s) (EG s) mg (failedOf s))
  let z ← elem' b (y-1)
  let __x ← gal false z a 0 x (x-1)
  match __x with
  | some c =>
    if x-c>0 then
      if (c == 0)=true then pure (.done (some (a.extract 0 c++b.extract 0 y++(p++(a.extract c x).reverse).reverse),c,y,p++(a.extract c x).reverse,mg,x-c,bc))
      else zJ a b c y (p++(a.extract c x).reverse) mg (x-c) bc
    else zJ a b x y p mg (x-c) bc
  | _=>pure (.done (some (a.extract 0 x++b.extract 0 y++p.reverse),x,y,p,mg,ac,bc))
def HiQ (key:Ek->O.α)(a b:Array Ek)(st:EK)(n:Nat)(r:ForInStep HiC)(st':EK):Prop:=match r with
 | .done c=>Sm st st'/\((∃r x y p mg ac bc,c=(some r,x,y,p,mg,ac,bc)/\eC key a b r)\/∃x y p mg ac bc,c=(none,x,y,p,mg,ac,bc)/\MV key a b p x y/\1<=x/\2<=y/\n<=p.size)
 | .yield c=>Sm st st'/\∃x y p mg ac bc,c=(none,x,y,p,mg,ac,bc)/\MV key a b p x y/\1<=x/\2<=y/\n<=p.size
theorem HiQ.out {a b:Array Ek}{st st':EK}{n:Nat}{r:Array Ek}{c:Nat×Nat×Array Ek×Nat×Nat×Nat}(sm:Sm st st')(f:eC key a b r):HiQ key a b st n (.done (some r,c)) st':=by
 obtain ⟨p,x,y,mg,ac,bc⟩:=c
 exact ⟨sm,.inl ⟨_,_,_,_,_,_,_,rfl,f⟩⟩
theorem xF {x:Nat}(c:¬ (x == 0)=true):1<=x:=Nat.pos_of_ne_zero λz=>c (beq_iff_eq.mpr z)
theorem zK {y:Nat}(h:1<=y)(c:¬ (y == 1)=true):2<=y:=LQ h λz=>c (beq_iff_eq.mpr z.symm)
theorem ue {a b:Array Ek}{st st':EK}(hb:b.toList.Pairwise (Le key))
  {o:Array Ek} {x y mg ac bc n:Nat} {za:Ek} (sm:Sm st st') (ea:a[x-1]? = some za) (m4:MV key a b (o.push za) (x-1) y) (hy:2<=y) (hn:n<=o.size):wpS (Es prog w) A E s (zI a b x y o mg ac bc) (HiQ key a b st n) st':=by
 unfold zI
 refine Eb (aZ ea ?_)
 by_cases d5:(x-1 == 0)=true
 ·rw[if_pos d5]
  exact Ej (HiQ.out sm (m4.vy hb (beq_iff_eq.mp d5)))
 rw[if_neg d5]
 have hx2:=xF d5
 have hn':n<=(o.push za).size:=by rw[HH];exact HI hn
 split
 ·exact Ej ⟨sm,.inr ⟨_,_,_,_,_,_,rfl,m4,hx2,hy,hn'⟩⟩
 ·exact Ej ⟨sm,_,_,_,_,_,_,rfl,m4,hx2,hy,hn'⟩
theorem uf (C:Cmp prog w A s O key U κ){a b:Array Ek}{st st':EK}(hκ:kindOf st=κ)(ua:∀p∈a.toList,U p)(ub:∀p∈b.toList,U p)
  (ha:a.toList.Pairwise (Le key)) (hb:b.toList.Pairwise (Le key)) (h0:∀p q,b[0]? = some p->q∈a.toList->Le key p q)
  {o:Array Ek} {x y mg ac bc n:Nat} {zb:Ek} (sm:Sm st st') (eb:b[y-1]? = some zb) (mk:MV key a b o x y) (bl:∀t∈a.toList.take x,Le key t zb) (hx1:1<=x) (hy:2<=y) (hn:n<=o.size):wpS (Es prog w) A E s (zJ a b x y o mg ac bc) (HiQ key a b st n) st':=by
 unfold zJ
 refine Eb (aZ eb ?_)
 have m2:=mk.oo (Me hy) eb hb bl
 have y1:1<=y-1:=GS hy
 have bx1:=mk.hx
 have by1:=mk.hy
 by_cases d3:(y-1 == 1)=true
 ·rw[if_pos d3]
  exact Ej (HiQ.out sm (m2.first ha hb (beq_iff_eq.mp d3) h0))
 rw[if_neg d3]
 have hy1:=zK y1 d3
 obtain ⟨za,ea⟩:=bh (show x-1<a.size by lia)
 refine Eb (aZ ea ?_)
 refine Eb (BZ C (λi=>(b[i]?).getD za) (sm.k.trans hκ) (ua _ (bW ea)) (λi hi =>?_) (λi hi =>?_) (λi j hij hj =>?_) (Jt y1) λc2 hc2 g1 g2 =>?_)
 ·obtain ⟨z,e⟩:=bh (show i<b.size by lia)
  rw[Hy,e];rfl
 ·obtain ⟨z,e⟩:=bh (show i<b.size by lia)
  rw[e];exact ub _ (bW e)
 ·obtain ⟨z,e⟩:=bh (show i<b.size by lia)
  obtain ⟨z',e'⟩:=bh (show j<b.size by lia)
  rw[e,e'];exact aM hb (aJ e) (aJ e') hij
 dsimp only at g1 g2 ⊢
 have tb:∀j q,c2<=j->j<y-1->b.toList[j]? = some q->∀t∈a.toList.take x,Le key t q:=λj q hj hj2 e t ht=>by
  have z:=g2 j hj hj2
  rw[D7] at e
  rw[e] at z
  obtain ⟨n,hn,e2⟩:=bj ht
  exact ET (aM ha e2 (aJ ea) (GS hn)) z
 have m3:=m2.xC hc2 hb tb
 have bl2:∀t∈b.toList.take c2,Le key t za:=λt ht=>by
  obtain ⟨n,hn,e2⟩:=bj ht
  rw[D7] at e2
  have z:=g1 n hn
  rw[e2] at z
  exact FH z
 have hn1:n<=(o.push zb).size:=by rw[HH];exact HI hn
 by_cases k2:y-1-c2>0
 ·rw[if_pos k2]
  by_cases d4:(c2 == 1)=true
  ·rw[if_pos d4]
   exact Ej (HiQ.out sm (m3.first ha hb (beq_iff_eq.mp d4) h0))
  rw[if_neg d4]
  by_cases d6:(c2 == 0)=true
  ·rw[if_pos d6]
   exact Ej (HiQ.out sm (m3.vx ha (beq_iff_eq.mp d6)))
  rw[if_neg d6]
  exact ue hb sm ea (m3.j8 hx1 ea ha bl2) (zK (xF d6) d4) (EI hn1 (by rw[Iq];exact GP _ _))
 ·rw[if_neg k2]
  have ec2:c2=y-1:=IW hc2 (K0 (Ic k2))
  rw[ec2] at bl2
  exact ue hb sm ea (m2.j8 hx1 ea ha bl2) hy1 hn1
theorem ug (C:Cmp prog w A s O key U κ){a b:Array Ek}{st st':EK}(hκ:kindOf st=κ)(ua:∀p∈a.toList,U p)(ub:∀p∈b.toList,U p)
  (ha:a.toList.Pairwise (Le key)) (hb:b.toList.Pairwise (Le key)) (h0:∀p q,b[0]? = some p->q∈a.toList->Le key p q)
  {p:Array Ek} {x y ac bc n:Nat} (mg:Nat) (sm:Sm st st') (m:MV key a b p x y) (hx:1<=x) (hy:2<=y) (hn:n<=p.size):wpS (Es prog w) A E s (vB a b x y p ac bc mg) (HiQ key a b st n) st':=by
 unfold vB
 have bx:=m.hx
 have by':=m.hy
 obtain ⟨zb,eb⟩:=bh (show y-1<b.size by lia)
 refine Eb (G0 ?_)
 refine Eb (aZ eb ?_)
 refine Eb (BY C (λi=>(a[i]?).getD zb) ((sm.mg _).k.trans hκ) (ub _ (bW eb)) (λi hi =>?_) (λi hi =>?_) (λi j hij hj =>?_) (Jt hx) λc hc h1 h2 =>?_)
 ·obtain ⟨z,e⟩:=bh (Ec hi bx)
  rw[Hy,e];rfl
 ·obtain ⟨z,e⟩:=bh (Ec hi bx)
  rw[e];exact ua _ (bW e)
 ·obtain ⟨z,e⟩:=bh (show i<a.size by lia)
  obtain ⟨z',e'⟩:=bh (show j<a.size by lia)
  rw[e,e'];exact aM ha (aJ e) (aJ e') hij
 dsimp only at h1 h2 ⊢
 have ta:∀j q,c<=j->j<x->a.toList[j]? = some q->∀t∈b.toList.take y,Le key t q:=λj q hj hj2 e t ht=>by
  have z:=h2 j hj hj2
  rw[D7] at e
  rw[e] at z
  obtain ⟨n,hn,e2⟩:=bj ht
  exact ET (aM hb e2 (aJ eb) (GS hn)) (FH z)
 have mk:=m.xB hc ha ta
 have bl:∀t∈a.toList.take c,Le key t zb:=λt ht=>by
  obtain ⟨n,hn,e2⟩:=bj ht
  rw[D7] at e2
  have z:=h1 n hn
  rw[e2] at z
  exact z
 by_cases k0:x-c>0
 ·rw[if_pos k0]
  by_cases d1:(c == 0)=true
  ·rw[if_pos d1]
   exact Ej (HiQ.out (sm.mg _) (mk.vy hb (beq_iff_eq.mp d1)))
  rw[if_neg d1]
  exact uf C hκ ua ub ha hb h0 (sm.mg _) eb mk bl (xF d1) hy (EI hn (by rw[Iq];exact GP _ _))
 ·rw[if_neg k0]
  have ec:c=x:=IW hc (K0 (Ic k0))
  rw[ec] at bl
  exact uf C hκ ua ub ha hb h0 (sm.mg _) eb m bl hx hy hn
theorem zL (C:Cmp prog w A s O key U κ){a b:Array Ek}{st st':EK}(hκ:kindOf st=κ)(ua:∀p∈a.toList,U p)(ub:∀p∈b.toList,U p)
  (ha:a.toList.Pairwise (Le key)) (hb:b.toList.Pairwise (Le key)) (h0:∀p q,b[0]? = some p->q∈a.toList->Le key p q)
  {p:Array Ek} {x y ac bc n mg:Nat} (sm:Sm st st') (m:MV key a b p x y) (hx:1<=x) (hy:2<=y) (hn:n<=p.size):wpS (Es prog w) A E s (if mg>1 then vB a b x y p ac bc (mg-1) else vB a b x y p ac bc mg) (HiQ key a b st n) st':=by
 split
 ·exact ug C hκ ua ub ha hb h0 (mg-1) sm m hx hy hn
 ·exact ug C hκ ua ub ha hb h0 mg sm m hx hy hn
abbrev HiD:=Option (Array Ek)×Nat×Nat×Array Ek×Nat×Nat
abbrev HiE:=Option (Array Ek)×Nat×Nat×Array Ek×Nat
def xG (a b:Array Ek)(mg:Nat)(c:HiD):StateT EK Sem (ForInStep HiD):=do
  let u ← elem' b (c.2.2.1-1)
  let v ← elem' a (c.2.1-1)
  let __x ← lt' u v
  match __x with
  | some aw =>
    if aw=true then do
      let z ← elem' a (c.2.1-1)
      if (c.2.1-1 == 0)=true then pure (.done (some (a.extract 0 (c.2.1-1)++b.extract 0 c.2.2.1++(c.2.2.2.1.push z).reverse),c.2.1-1,c.2.2.1,c.2.2.2.1.push z,c.2.2.2.2.1+1,0))
      else if c.2.2.2.2.1+1≥mg then pure (.done (none,c.2.1-1,c.2.2.1,c.2.2.2.1.push z,c.2.2.2.2.1+1,0))
      else pure (.yield (none,c.2.1-1,c.2.2.1,c.2.2.2.1.push z,c.2.2.2.2.1+1,0))
    else do
      let z ← elem' b (c.2.2.1-1)
      if (c.2.2.1-1 == 1)=true then pure (.done (some (b.extract 0 (c.2.2.1-1)++a.extract 0 c.2.1++(c.2.2.2.1.push z).reverse),c.2.1,c.2.2.1-1,c.2.2.2.1.push z,0,c.2.2.2.2.2+1))
      else if c.2.2.2.2.2+1≥mg then pure (.done (none,c.2.1,c.2.2.1-1,c.2.2.2.1.push z,0,c.2.2.2.2.2+1))
      else pure (.yield (none,c.2.1,c.2.2.1-1,c.2.2.2.1.push z,0,c.2.2.2.2.2+1))
  | _=>pure (.done (some (a.extract 0 c.2.1++b.extract 0 c.2.2.1++c.2.2.2.1.reverse),c.2.1,c.2.2.1,c.2.2.2.1,c.2.2.2.2.1,c.2.2.2.2.2))
def B2 (a b:Array Ek)(c:HiC):StateT EK Sem (ForInStep HiC) :=
 if c.2.2.2.2.1>1 then vB a b c.2.1 c.2.2.1 c.2.2.2.1 c.2.2.2.2.2.1 c.2.2.2.2.2.2 (c.2.2.2.2.1-1) else vB a b c.2.1 c.2.2.1 c.2.2.2.1 c.2.2.2.2.2.1 c.2.2.2.2.2.2 c.2.2.2.2.1
def rS (a b:Array Ek)(c:HiE):StateT EK Sem (ForInStep HiE):=do
  let d ← forIn [0:a.size+b.size] ((none,c.2.1,c.2.2.1,c.2.2.2.1,0,0):HiD) λ_ d=>xG a b c.2.2.2.2 d
  match d.1 with
  | some r=>pure (.done (some r,d.2.1,d.2.2.1,d.2.2.2.1,c.2.2.2.2))
  | none=>do
    rule "list.sort.gallop"
    let e ← forIn [0:a.size+b.size] ((none,d.2.1,d.2.2.1,d.2.2.2.1,c.2.2.2.2+1,d.2.2.2.2.1,d.2.2.2.2.2):HiC) λ_ e=>B2 a b e
    match e.1 with
    | some r=>pure (.done (some r,e.2.1,e.2.2.1,e.2.2.2.1,e.2.2.2.2.1))
    | none=>do
      modify (λs=>SortSt.mk' (kindOf s) (Er s) (EG s) (e.2.2.2.2.1+1) (failedOf s))
      pure (.yield (none,e.2.1,e.2.2.1,e.2.2.2.1,e.2.2.2.2.1+1))
theorem zM (a b:Array Ek):mHi a b=(do
    rule "list.sort.merge-hi"
    let z ← elem' a (a.size-1)
    if (a.size-1 == 0)=true then pure (a.extract 0 (a.size-1)++b.extract 0 b.size++(#[z]:Array Ek).reverse)
    else if (b.size == 1)=true then pure (b.extract 0 b.size++a.extract 0 (a.size-1)++(#[z]:Array Ek).reverse)
    else do
      let g ← get
      let c ← forIn [0:a.size+b.size] ((none,a.size-1,b.size, #[z],gallopOf g):HiE) λ_ c=>rS a b c
      match c.1 with
      | some r=>pure r
      | none=>unsupported "internal:list.sort.merge-bound"):=by
  kernel_rfl
def HdI (key:Ek->O.α)(a b:Array Ek)(st:EK)(n:Nat)(c:HiD)(st':EK):Prop:=Sm st st'/\∃x y o' ac bc,c=(none,x,y,o',ac,bc)/\MV key a b o' x y/\1<=x/\2<=y/\n<=o'.size
def HdQ (key:Ek->O.α)(a b:Array Ek)(st:EK)(n:Nat)(c:HiD)(st':EK):Prop:=Sm st st'/\((∃r x y o ac bc,c=(some r,x,y,o,ac,bc)/\eC key a b r)\/∃x y o' ac bc,c=(none,x,y,o',ac,bc)/\MV key a b o' x y/\1<=x/\2<=y/\n<=o'.size)
theorem xH (C:Cmp prog w A s O key U κ){a b:Array Ek}{st st':EK}(hκ:kindOf st=κ)(ua:∀p∈a.toList,U p)(ub:∀p∈b.toList,U p)
  (ha:a.toList.Pairwise (Le key)) (hb:b.toList.Pairwise (Le key)) (h0:∀p q,b[0]? = some p->q∈a.toList->Le key p q)
  {mg n m':Nat} {c:HiD} (I:HdI key a b st n c st') (hm:m'<=n+1) {Q:ForInStep HiD->EK->Prop} (h:∀r st',(match r with | .done c'=>HdQ key a b st (n+1) c' st' | .yield c'=>HdI key a b st m' c' st')->Q r st'):wpS (Es prog w) A E s (xG a b mg c) Q st':=by
 obtain ⟨sm2,x,y,o',ac,bc,rfl,m,hx,hy,hz⟩:=I
 unfold xG
 have bx:=m.hx
 have by':=m.hy
 obtain ⟨za,ea⟩:=bh (show x-1<a.size by omega)
 obtain ⟨zb,eb⟩:=bh (show y-1<b.size by omega)
 refine Eb (aZ eb (Eb (aZ ea (Eb (C.lt _ st' zb za _ (sm2.k.trans hκ) (ub _ (bW eb)) (ua _ (bW ea)) ?_)))))
 dsimp only
 have sz:∀z,n+1<=(o'.push z).size:=λz=>by rw[HH];exact MD hz
 cases hlt:O.blt (key zb) (key za) with
 | true =>
  rw[if_pos rfl]
  refine Eb (aZ ea ?_)
  have m1:=m.j8 hx ea ha λt ht=>by
   obtain ⟨n,hn,e⟩:=bj ht
   exact ET (aM hb e (aJ eb) (GS hn)) (FH hlt)
  by_cases c3:(x-1 == 0)=true
  ·rw[if_pos c3]
   exact Ej (h _ _ ⟨sm2,.inl ⟨_,_,_,_,_,_,rfl,m1.vy hb (beq_iff_eq.mp c3)⟩⟩)
  ·rw[if_neg c3]
   have c3':=xF c3
   split
   ·exact Ej (h _ _ ⟨sm2,.inr ⟨_,_,_,_,_,rfl,m1,c3',hy,sz _⟩⟩)
   ·exact Ej (h _ _ ⟨sm2,_,_,_,_,_,rfl,m1,c3',hy,EI hm (sz _)⟩)
 | false =>
  rw[if_neg Eh]
  refine Eb (aZ eb ?_)
  have m1:=m.oo (Me hy) eb hb λt ht=>by
   obtain ⟨n,hn,e⟩:=bj ht
   exact ET (aM ha e (aJ ea) (GS hn)) (show O.kle (key za) (key zb) from hlt)
  by_cases c3:(y-1 == 1)=true
  ·rw[if_pos c3]
   exact Ej (h _ _ ⟨sm2,.inl ⟨_,_,_,_,_,_,rfl,m1.first ha hb (beq_iff_eq.mp c3) h0⟩⟩)
  ·rw[if_neg c3]
   have c3':=zK (GS hy) c3
   split
   ·exact Ej (h _ _ ⟨sm2,.inr ⟨_,_,_,_,_,rfl,m1,hx,c3',sz _⟩⟩)
   ·exact Ej (h _ _ ⟨sm2,_,_,_,_,_,rfl,m1,hx,c3',EI hm (sz _)⟩)
def HeI (key:Ek->O.α)(a b:Array Ek)(st:EK)(n:Nat)(c:HiE)(st':EK):Prop:=Sm st st'/\∃x y o mg,c=(none,x,y,o,mg)/\MV key a b o x y/\1<=x/\2<=y/\n+1<=o.size
def HeQ (key:Ek->O.α)(a b:Array Ek)(st:EK)(c:HiE)(st':EK):Prop:=Sm st st'/\((∃r x y o mg,c=(some r,x,y,o,mg)/\eC key a b r)\/∃x y o mg,c=(none,x,y,o,mg)/\MV key a b o x y/\1<=x/\2<=y/\a.size+b.size+1<=o.size)
theorem vC (C:Cmp prog w A s O key U κ){a b:Array Ek}{st st':EK}(hκ:kindOf st=κ)(ua:∀p∈a.toList,U p)(ub:∀p∈b.toList,U p)
  (ha:a.toList.Pairwise (Le key)) (hb:b.toList.Pairwise (Le key)) (h0:∀p q,b[0]? = some p->q∈a.toList->Le key p q) (na:0<a.size)
  {n:Nat} {c:HiE} (I:HeI key a b st n c st'):wpS (Es prog w) A E s (rS a b c) (λr st'=>match r with | .done c'=>HeQ key a b st c' st' | .yield c'=>HeI key a b st (n+1) c' st') st':=by
 obtain ⟨sm1,x,y,o,mg,rfl,m,hx,hy,hz⟩:=I
 unfold rS
 have q1:1<=a.size+b.size:=EI na (GP _ _)
 refine Eb (GH (FC (I:=λj c st'=>HdI key a b st (o.size+min j 1) c st') (Q:=HdQ key a b st (o.size+1)) (λj c st2 _ hj J=>xH (n:=o.size+min j 1) (m':=o.size+min (j+1) 1) C hκ ua ub ha hb h0 J (by lia) λr st' k =>?_) (λc st' J =>?_) ⟨sm1,x,y,o,0,0,rfl,m,hx,hy,DS _⟩) ?_)
 ·cases r with
  | done c'=>exact k.imp id λz=>z.imp id λ⟨x,y,o',ac,bc,e,m,hx,hy,hz⟩=>⟨x,y,o',ac,bc,e,m,hx,hy,by lia⟩
  | yield c'=>exact k
 ·obtain ⟨sm,x,y,o',ac,bc,e,m,hx,hy,hz⟩:=J
  exact ⟨sm,.inr ⟨x,y,o',ac,bc,e,m,hx,hy,by lia⟩⟩
 rintro c st2 ⟨sm2,⟨r,x,y,o',ac,bc,rfl,fr⟩ | ⟨x,y,o',ac,bc,rfl,m,hx,hy,hz2⟩⟩
 ·exact Ej ⟨sm2,.inl ⟨_,_,_,_,_,rfl,fr⟩⟩
 dsimp only
 refine Eb (JR (Gz ⟨rfl,?_⟩))
 refine Eb (GH (FC (I:=λ_ c st'=>HiQ key a b st o'.size (.yield c) st') (Q:=λc st'=>HiQ key a b st o'.size (.done c) st') (λj c st3 _ hj J =>?_) (λc st' J=>⟨J.1,.inr J.2⟩) ⟨sm2,x,y,o',_,ac,bc,rfl,m,hx,hy,DS _⟩) ?_)
 ·obtain ⟨sm3,x,y,p,mg,ac,bc,rfl,m,hx,hy,hz3⟩:=J
  refine GH (zL C hκ ua ub ha hb h0 sm3 m hx hy hz3) ?_
  intro r st' h
  cases r <;> exact h
 rintro c st3 ⟨sm3,⟨r,x,y,p,mg,ac,bc,rfl,fr⟩ | ⟨x,y,p,mg,ac,bc,rfl,m,hx,hy,hz3⟩⟩
 ·exact Ej ⟨sm3,.inl ⟨_,_,_,_,_,rfl,fr⟩⟩
 ·dsimp only
  exact Eb (G0 (Ej ⟨sm3.mg _,x,y,p,_,rfl,m,hx,hy,by lia⟩))
theorem B3 (C:Cmp prog w A s O key U κ){a b:Array Ek}{st:EK}{Q:Array Ek->EK->Prop}(hκ:kindOf st=κ)(ua:∀p∈a.toList,U p)(ub:∀p∈b.toList,U p)
  (ha:a.toList.Pairwise (Le key)) (hb:b.toList.Pairwise (Le key)) (na:0<a.size) (nb:0<b.size) (h0:∀p q,b[0]? = some p->q∈a.toList->Le key p q) (hl:∀p q,p∈b.toList->a[a.size-1]? = some q->Le key p q)
  (h:∀r st',Sm st st'->eC key a b r->Q r st'):wpS (Es prog w) A E s (mHi a b) Q st:=by
 rw[zM]
 refine Eb (JR (Gz ⟨rfl,?_⟩))
 obtain ⟨a0,ea0⟩:=bh (Jt na)
 have m0:MV key a b #[] a.size b.size:=by
  refine ⟨DS _,DS _,?_,List.Pairwise.nil,λp _ q hq=>by cases hq⟩
  rw[D5 (by rw[DY];exact DS _),D5 (by rw[DY];exact DS _)]
  show (a.toList++b.toList++[]).Perm _
  rw[E6]
 have m1:MV key a b #[a0] (a.size-1) b.size:=m0.j8 na ea0 ha λt ht=>hl t a0 (Gy ht) ea0
 refine Eb (aZ ea0 ?_)
 by_cases c1:(a.size-1 == 0)=true
 ·rw[if_pos c1]
  exact Ej (h _ st (Sm.refl st) (m1.vy hb (beq_iff_eq.mp c1)))
 rw[if_neg c1]
 by_cases c2:(b.size == 1)=true
 ·rw[if_pos c2]
  exact Ej (h _ st (Sm.refl st) (m1.first ha hb (beq_iff_eq.mp c2) h0))
 rw[if_neg c2]
 refine Eb (JH ?_)
 refine Eb (GH (FC (I:=λi c st'=>HeI key a b st i c st') (Q:=HeQ key a b st) (λi c st1 _ _ J=>GH (vC C hκ ua ub ha hb h0 na J) λr st' h=>by cases r <;> exact h) (λc st' J =>?_) ⟨Sm.refl st,_,_,_,_,rfl,m1,xF c1,zK nb c2,DS _⟩) ?_)
 ·obtain ⟨sm,x,y,o,mg,e,m,hx,hy,hz⟩:=J
  exact ⟨sm,.inr ⟨x,y,o,mg,e,m,hx,hy,by lia⟩⟩
 rintro c st' ⟨sm,⟨r,x,y,o,mg,rfl,fr⟩ | ⟨x,y,o,mg,rfl,m,hx,hy,hz⟩⟩
 ·exact Ej (h r st' sm fr)
 ·have:=m.size
  lia
end
theorem B4 (i:Nat):mAt i=(do
    let s ← get
    let (some (sa,na,pw),some (sb,nb,_)):=((EG s)[i]?,(EG s)[i+1]?) | unsupported "internal:list.sort.pending"
    set (SortSt.mk' (kindOf s) (Er s) (((EG s).setIfInBounds i (sa,na+nb,pw)).eraseIdxIfInBounds (i+1)) (gallopOf s) (failedOf s))
    let some k ← gal false (← elem' (Er s) sb) (Er s) sa na 0 | return false
    let (sa,na):=(sa+k,na-k)
    if na == 0 then return true
    let some nb ← gal true (← elem' (Er s) (sa+na-1)) (Er s) sb nb (nb-1) | return false
    if nb == 0 then return true
    let x:=(Er s).extract sa sb
    let y:=(Er s).extract sb (sb+nb)
    let mm ← if na<=nb then mLo x y else mHi x y
    modify λs=>setArr s (mm.toList.zipIdx.foldl (λa (p,j)=>a.setIfInBounds (sa+j) p) (Er s))
    return (failedOf (← get)).isNone):=rfl
theorem iQ {α:Type}(p r:List α)(k:Nat):(p++r).drop (p.length+k)=r.drop k:=by
 rw[<- M9,JX]
theorem rT {α:Type}(p r:List α)(k:Nat):(p++r)[p.length+k]? = r[k]? := by
 rw[EY (by lia),HV]
theorem A0 {α:Type}(p a r:List α){k:Nat}(h:k<a.length):(p++(a++r))[p.length+k]? = a[k]? := by
 rw[rT,EH h]
theorem written (l:List Ek):∀(c n:Nat) (a:Array Ek),c+n+l.length<=a.size->((l.zipIdx n).foldl (λ(a:Array Ek) (pj:Ek×Nat)=>a.setIfInBounds (c+pj.2) pj.1) a).toList=a.toList.take (c+n)++l++a.toList.drop (c+n+l.length):=by
 induction l with
 | nil=>intro c n a _;simp
 | cons z l ih =>
  intro c n a h
  rw[Eu] at h
  rw[Kt,MM,ih c (n+1) _ (by rw[J3];lia)]
  have e:(a.setIfInBounds (c+n) z).toList=a.toList.set (c+n) z:=JK ..
  rw[e]
  have lt:c+n<a.toList.length:=by rw[DY];lia
  have t1:(a.toList.set (c+n) z).take (c+(n+1))=a.toList.take (c+n)++[z]:=by
   rw[show c+(n+1)=c+n+1 by lia,Ef,List.take_set_of_le (DS _),F3 lt]
   rfl
  have t2:(a.toList.set (c+n) z).drop (c+(n+1)+l.length)=a.toList.drop (c+n+(l.length+1)):=by
   rw[List.drop_set_of_lt (by lia),show c+(n+1)+l.length=c+n+(l.length+1) by lia]
  rw[t1,t2,Eu]
  simp
section
variable  {prog:D9}{w:EE}{A:EV}{E:DK->DP->Prop}{s:DP}{O:Jm}{key:Ek->O.α}{U:Ek->Prop}{κ:SortKind}
theorem B5 (C:Cmp prog w A s O key U κ){i pw pw2:Nat}{st:EK}{Q:Bool->EK->Prop}{P X Y S:List Ek}(hκ:kindOf st=κ)(hf:failedOf st=none)
    (ha:(Er st).toList=P++(X++(Y++S))) (hu:∀p∈(Er st).toList,U p) (h1:(EG st)[i]? = some (P.length,X.length,pw)) (h2:(EG st)[i+1]? = some (P.length+X.length,Y.length,pw2))
    (nx:0<X.length) (ny:0<Y.length) (sx:X.Pairwise (Le key)) (sy:Y.Pairwise (Le key))
    (h:∀st' M,M.Perm (X++Y)->M.Pairwise (Le key)->(Er st').toList=P++(M++S)->EG st'=((EG st).setIfInBounds i (P.length,X.length+Y.length,pw)).eraseIdxIfInBounds (i+1)->kindOf st'=κ -> failedOf st'=none->Q true st') :
    wpS (Es prog w) A E s (mAt i) Q st:=by
  rw[B4]
  refine Eb (JH ?_)
  rw[h1,h2]
  dsimp only
  refine Eb (show wpS (Es prog w) A E s (modify λ_=>SortSt.mk' (kindOf st) (Er st) (((EG st).setIfInBounds i (P.length,X.length+Y.length,pw)).eraseIdxIfInBounds (i+1)) (gallopOf st) (failedOf st)) _ st from G0 ?_)
  generalize hst1:SortSt.mk' (kindOf st) (Er st) (((EG st).setIfInBounds i (P.length,X.length+Y.length,pw)).eraseIdxIfInBounds (i+1)) (gallopOf st) (failedOf st)=st1
  have k1:kindOf st1=κ:=by rw[<- hst1];exact hκ
  have a1:Er st1=Er st:=by rw[<- hst1]
  have p1:EG st1=((EG st).setIfInBounds i (P.length,X.length+Y.length,pw)).eraseIdxIfInBounds (i+1):=by rw[<- hst1]
  have f1:failedOf st1=none:=by rw[<- hst1];exact hf
  have sz:(Er st).size=P.length+X.length+Y.length+S.length:=by
    rw[<- DY,ha];simp only[DT];lia
  have atX:∀j,j<X.length->(Er st)[P.length+j]? = X[j]? := λj hj=>by
    rw[<- D7,ha,A0 _ _ _ hj]
  have atY:∀j,j<Y.length->(Er st)[P.length+X.length+j]? = Y[j]? := λj hj=>by
    rw[<- D7,ha, <- E2,show P.length+X.length+j=(P++X).length+j by rw[DT],A0 _ _ _ hj]
  have uX:∀p∈X,U p:=λp hp=>hu p (by rw[ha];simp[hp])
  have uY:∀p∈Y,U p:=λp hp=>hu p (by rw[ha];simp[hp])
  have xget:∀j,j<X.length->∃z,X[j]? = some z:=λj hj=>⟨X[j],by simp[hj]⟩
  have yget:∀j,j<Y.length->∃z,Y[j]? = some z:=λj hj=>⟨Y[j],by simp[hj]⟩
  obtain ⟨y0,ey0⟩:=yget 0 ny
  have plain:(∀p∈X,∀q∈Y,Le key p q)->Q true st1:=λhle=>h st1 (X++Y) (Iv _) (Fw.mpr ⟨sx,sy,hle⟩) (by rw[a1,ha,E2]) p1 k1 f1
  refine Eb (aZ (z:=y0) (by rw[show P.length+X.length=P.length+X.length+0 by lia,atY 0 ny];exact ey0) ?_)
  refine Eb (BY C (λj=>(X[j]?).getD y0) k1 (uY _ (DV ey0)) (λj hj =>?_) (λj hj =>?_) (λi j hij hj =>?_) nx λk hk g1 g2 =>?_)
  · obtain ⟨z,e⟩:=xget j hj
    rw[atX j hj,e];rfl
  · obtain ⟨z,e⟩:=xget j hj
    rw[e];exact uX _ (DV e)
  · obtain ⟨z,e⟩:=xget i (by lia)
    obtain ⟨z',e'⟩:=xget j hj
    rw[e,e'];exact aM sx e e' hij
  dsimp only at g1 g2 ⊢
  have y0le:∀q∈Y,Le key y0 q:=λq hq=>by
    obtain ⟨n,e⟩:=Et.mp hq
    exact aM sy ey0 e (EB _)
  by_cases c1:(X.length-k == 0)=true
  · rw[if_pos c1]
    refine Ej (plain λp hp q hq =>?_)
    obtain ⟨n,e⟩:=Et.mp hp
    have hn:n<X.length:=(DQ.mp e).1
    have z:=g1 n (by have:=beq_iff_eq.mp c1;lia)
    rw[e] at z
    exact ET z (y0le q hq)
  rw[if_neg c1]
  have kx:k<X.length:=by have:X.length-k≠0:=λz=>c1 (beq_iff_eq.mpr z);lia
  obtain ⟨xl,exl⟩:=xget (X.length-1) (by lia)
  have xlle:∀p∈X,Le key p xl:=λp hp=>by
    obtain ⟨n,e⟩:=Et.mp hp
    have hn:n<X.length:=(DQ.mp e).1
    exact aM sx e exl (by lia)
  refine Eb (aZ (z:=xl) (by rw[show P.length+k+(X.length-k)-1=P.length+(X.length-1) by lia,atX _ (by lia)];exact exl) ?_)
  refine Eb (BZ C (λj=>(Y[j]?).getD xl) k1 (uX _ (DV exl)) (λj hj =>?_) (λj hj =>?_) (λi j hij hj =>?_) (by lia) λm hm e1 e2 =>?_)
  · obtain ⟨z,e⟩:=yget j hj
    rw[atY j hj,e];rfl
  · obtain ⟨z,e⟩:=yget j hj
    rw[e];exact uY _ (DV e)
  · obtain ⟨z,e⟩:=yget i (by lia)
    obtain ⟨z',e'⟩:=yget j hj
    rw[e,e'];exact aM sy e e' hij
  dsimp only at e1 e2 ⊢
  by_cases c2:(m == 0)=true
  · rw[if_pos c2]
    refine Ej (plain λp hp q hq =>?_)
    obtain ⟨n,e⟩:=Et.mp hq
    have hn:n<Y.length:=(DQ.mp e).1
    have z:=e2 n (by have:=beq_iff_eq.mp c2;lia) hn
    rw[e] at z
    exact ET (xlle p hp) z
  rw[if_neg c2]
  have m0:0<m:=by have:m≠0:=λz=>c2 (beq_iff_eq.mpr z);lia
  have ex:((Er st).extract (P.length+k) (P.length+X.length)).toList=X.drop k:=by
    rw[FX,Fu,ha,iQ,Jo (by lia)]
    rw[List.take_left' (by rw[Ez];lia)]
  have ey:((Er st).extract (P.length+X.length) (P.length+X.length+m)).toList=Y.take m:=by
    have e:=iQ (P++X) (Y++S) 0
    rw[DT,K1,Iw,E2] at e
    rw[FX,Fu,ha,e,HV,Gg hm]
  have sX:((Er st).extract (P.length+k) (P.length+X.length)).size=X.length-k:=by rw[<- DY,ex,Ez]
  have sY:((Er st).extract (P.length+X.length) (P.length+X.length+m)).size=m:=by rw[<- DY,ey,EF];lia
  generalize (Er st).extract (P.length+k) (P.length+X.length)=xa at ex sX ⊢
  generalize (Er st).extract (P.length+X.length) (P.length+X.length+m)=ya at ey sY ⊢
  have xa0:∀q∈xa.toList,Le key y0 q:=λq hq=>by
    rw[ex] at hq
    obtain ⟨n,hn,e⟩:=aY hq
    have hn2:n<X.length:=(DQ.mp e).1
    have z:=g2 n hn hn2
    rw[e] at z
    exact FH z
  have yaL:∀p∈ya.toList,Le key p xl:=λp hp=>by
    rw[ey] at hp
    obtain ⟨n,hn,e⟩:=bj hp
    have z:=e1 n hn
    rw[e] at z
    exact FH z
  have first:∀p q,ya[0]? = some p->q∈xa.toList->Le key p q:=λp q hp hq=>by
    rw[<- D7,ey,Gv,if_pos m0,ey0] at hp
    cases hp
    exact xa0 q hq
  have lst:∀p q,p∈ya.toList->xa[xa.size-1]? = some q->Le key p q:=λp q hp hq=>by
    rw[<- D7,ex,FK,sX,show k+(X.length-k-1)=X.length-1 by lia,exl] at hq
    cases hq
    exact yaL p hp
  have sxa:xa.toList.Pairwise (Le key):=by rw[ex];exact sx.sublist (Fx _ _)
  have sya:ya.toList.Pairwise (Le key):=by rw[ey];exact sy.sublist (FE _ _)
  have uxa:∀p∈xa.toList,U p:=λp hp=>by rw[ex] at hp;exact uX p (FY hp)
  have uya:∀p∈ya.toList,U p:=λp hp=>by rw[ey] at hp;exact uY p (Gy hp)
  have post:∀r st',Sm st1 st'->eC key xa ya r->wpS (Es prog w) A E s (do modify λs=>setArr s (r.toList.zipIdx.foldl (λa (p,j)=>a.setIfInBounds (P.length+k+j) p) (Er s));return (failedOf (← get)).isNone) Q st':=by
    rintro r st' sm ⟨fp,fs⟩
    refine Eb (G0 (Eb (JH (Ej ?_))))
    have rl:r.toList.length=X.length-k+m:=by rw[fp.length_eq,DT,DY,DY,sX,sY]
    have wr:=written r.toList (P.length+k) 0 (Er st') (by rw[sm.a,a1,sz,rl];lia)
    have e:(failedOf (setArr st' (r.toList.zipIdx.foldl (λa (p,j)=>a.setIfInBounds (P.length+k+j) p) (Er st')))).isNone=true:=by
      show (failedOf st').isNone=true
      rw[sm.f,f1];rfl
    rw[e]
    have t1:(P++(X++(Y++S))).take (P.length+k+0)=P++X.take k:=by
      rw[K1,List.take_append,D5 (by lia),HV,Gg (by lia)]
    have t2:(P++(X++(Y++S))).drop (P.length+k+0+r.toList.length)=Y.drop m++S:=by
      rw[rl,show P.length+k+0+(X.length-k+m)=P.length+(X.length+m) by lia,iQ,iQ,Jo hm]
    have perm:(X.take k++(r.toList++Y.drop m)).Perm (X++Y):=by
      rw[ex,ey] at fp
      have q:(X.take k++(r.toList++Y.drop m)).Perm (X.take k++((X.drop k++Y.take m)++Y.drop m)):=Gj _ (G8 _ fp)
      have e3:X.take k++((X.drop k++Y.take m)++Y.drop m)=X++Y:=by
        rw[E2 (X.drop k),FP, <- E2,FP]
      rw[e3] at q
      exact q
    have inr:∀z∈r.toList,z∈X.drop k\/z∈Y.take m:=λz hz=>by
      have q:=fp.mem_iff.mp hz
      rw[ex,ey] at q
      exact D6.mp q
    refine h _ (X.take k++(r.toList++Y.drop m)) perm ?_ ?_ ?_ (sm.k.trans k1) (sm.f.trans f1)
    · refine Fw.mpr ⟨sx.sublist (FE _ _),Fw.mpr ⟨fs,sy.sublist (Fx _ _),λp hp q hq =>?_⟩,λp hp q hq =>?_⟩
      · obtain ⟨n,hn,en⟩:=aY hq
        have hn2:n<Y.length:=(DQ.mp en).1
        rcases inr p hp with z | z
        · have g:=e2 n hn hn2
          rw[en] at g
          exact ET (xlle p (FY z)) g
        · obtain ⟨j,hj,ej⟩:=bj z
          exact aM sy ej en (by lia)
      · obtain ⟨n,hn,en⟩:=bj hp
        have g:=g1 n hn
        rw[en] at g
        rcases D6.mp hq with z | z
        · rcases inr q z with z | z
          · obtain ⟨j,hj,ej⟩:=aY z
            exact aM sx en ej (by lia)
          · exact ET g (y0le q (Gy z))
        · exact ET g (y0le q (FY z))
    · show (r.toList.zipIdx.foldl (λa (p,j)=>a.setIfInBounds (P.length+k+j) p) (Er st')).toList=_
      rw[wr,sm.a,a1,ha,t1,t2]
      simp only[E2]
    · show EG st'=_
      rw[sm.p,p1]
  by_cases c3:X.length-k<=m
  · rw[if_pos c3]
    exact Eb (B1 C k1 uxa uya sxa sya (by lia) (by lia) (λp q hp hq=>first p q hp (bW hq)) lst λr st' sm fr=>post r st' sm fr)
  · rw[if_neg c3]
    exact Eb (B3 C k1 uxa uya sxa sya (by lia) (by lia) first lst λr st' sm fr=>post r st' sm fr)
end
theorem zN (lo m:Nat):BW lo m=(do
    let mut n:=1
    for _ in [1:m] do
      let some sm ← ltAt' (lo+n) (lo+n-1)
        | return none
      if sm then break
      n:=n+1
    if n == m then return some n
    if n>1 then
      let some ro ← ltAt' lo (lo+n-1)
        | return none
      if ro then return some n
      reverseSlice' lo (lo+n)
    rule "list.sort.descending-run"
    n:=n+1
    let mut q:=0
    for _ in [n:m] do
      let some sm ← ltAt' (lo+n) (lo+n-1)
        | return none
      if sm then
        if q>0 then reverseSlice' (lo+n-(q+1)) (lo+n)
        q:=0
      else
        let some lg ← ltAt' (lo+n-1) (lo+n)
          | return none
        if lg then break
        q:=q+1
      n:=n+1
    if q>0 then reverseSlice' (lo+n-(q+1)) (lo+n)
    reverseSlice' lo (lo+n)
    for _ in [n:m] do
      let some sm ← ltAt' (lo+n) (lo+n-1)
        | return none
      if sm then break
      n:=n+1
    return some n):=rfl
theorem xI (lo n ok:Nat):xy lo n ok=(do
    for k in [max ok 1:n] do
      let mut l:=0;let mut r:=k
      for _ in [0:k] do
        if l≥r then break
        let m:=(l+r)/2
        let some le ← ltAt' (lo+k) (lo+m)
          | return false
        if le then r:=m else l:=m+1
      moveDown' (lo+k) (lo+l)
    return true):=rfl
section
variable  {O:Jm}(key:Ek->O.α)
def kk (xs:Array Ek)(i:Nat):O.α:=key ((xs[i]?).getD (F7,F7))
def Up (xs:Array Ek)(lo n:Nat):Prop:=∀i j,lo<=i->i<=j->j<lo+n->O.kle (kk key xs i) (kk key xs j)
def Down (xs:Array Ek)(lo n:Nat):Prop:=∀i j,lo<=i->i<=j->j<lo+n->O.kle (kk key xs j) (kk key xs i)
variable  {key}
theorem iR {xs ys:Array Ek}{i j:Nat}(h:xs[i]? = ys[j]?):kk key xs i=kk key ys j:=by unfold kk;rw[h]
theorem ou {xs:Array Ek}{i j:Nat}(hj:j<=xs.size)(k:Nat):kk key (mirror xs i j ((j-i)/2)) k=if i<=k/\k<j then kk key xs (i+j-1-k) else kk key xs k:=by
 have e:=LG (i:=i) hj k
 by_cases h:i<=k/\k<j
 ·rw[if_pos h] at e ⊢;exact iR e
 ·rw[if_neg h] at e ⊢;exact iR e
theorem fz {xs:Array Ek}{i j:Nat}(hj:j<=xs.size)(he:∀k,i<=k->k<j->kk key xs k=kk key xs (j-1))(k:Nat):kk key (mirror xs i j ((j-i)/2)) k=kk key xs k:=by
 rw[ou hj]
 split
 ·rw[he _ (by omega) (by omega),he k (by omega) (by omega)]
 ·rfl
end
structure SA (lo:Nat)(st st':EK):Prop where
 perm:(Er st').Perm (Er st)
 pre:∀k,k<lo->(Er st')[k]? = (Er st)[k]?
 k:kindOf st'=kindOf st
 p:EG st'=EG st
 f:failedOf st'=failedOf st
theorem SA.refl (lo:Nat)(st:EK):SA lo st st:=⟨Array.Perm.refl _,λ_ _=>rfl,rfl,rfl,rfl⟩
theorem SA.size {lo:Nat}{st st':EK}(h:SA lo st st'):(Er st').size=(Er st).size:=h.perm.size_eq
theorem SA.mirror {lo:Nat}{st st':EK}(h:SA lo st st'){i j:Nat}(hi:lo<=i)(hj:j<=(Er st').size):SA lo st (setArr st' (mirror (Er st') i j ((j-i)/2))) :=
 ⟨(mirror_perm _ _ _ _).trans h.perm,λk hk=>by
  show (PyProof.Rows.mirror (Er st') i j ((j-i)/2))[k]? = _
  rw[LG hj,if_neg (by lia)]
  exact h.pre k hk,h.k,h.p,h.f⟩
theorem SA.mem {lo:Nat}{st st':EK}(h:SA lo st st'){p:Ek}(hp:p∈(Er st').toList):p∈(Er st).toList:=(JL.mp h.perm).mem_iff.mp hp
section
variable  {prog:D9}{w:EE}{A:EV}{E:DK->DP->Prop}{s:DP}{O:Jm}{key:Ek->O.α}{U:Ek->Prop}{κ:SortKind}
theorem gL (C:Cmp prog w A s O key U κ){st:EK}{i j:Nat}{Q:Option Bool->EK->Prop}(hκ:kindOf st=κ)(hu:∀p∈(Er st).toList,U p)(hi:i<(Er st).size)(hj:j<(Er st).size)
  (h:Q (some (O.blt (kk key (Er st) i) (kk key (Er st) j))) st):wpS (Es prog w) A E s (ltAt' i j) Q st:=by
 rw[ltAt'_eq]
 refine Eb (JH ?_)
 obtain ⟨x,ex⟩:=bh hi
 obtain ⟨y,ey⟩:=bh hj
 dsimp only
 refine Eb (aZ ex (Eb (aZ ey (C.lt _ st x y _ hκ (hu _ (bW ex)) (hu _ (bW ey)) ?_))))
 unfold kk at h
 rw[ex,ey] at h
 exact h
theorem zO (C:Cmp prog w A s O key U κ){st:EK}{lo m:Nat}{Q:Option Nat->EK->Prop}(hκ:kindOf st=κ)(hu:∀p∈(Er st).toList,U p)(hm:1<=m)(hz:lo+m=(Er st).size)
  (h:∀n st',1<=n->n<=m->SA lo st st'->Up key (Er st') lo n->Q (some n) st'):wpS (Es prog w) A E s (BW lo m) Q st:=by
 rw[zN]
 dsimp only
 refine Eb (GH (FC (I:=λx c st'=>st=st'/\c=(none,x)/\Up key (Er st) lo x)
  (Q:=λc st'=>st=st'/\∃n,c=(none,n)/\1<=n/\n<=m/\Up key (Er st) lo n/\(n<m->O.klt (kk key (Er st) (lo+n)) (kk key (Er st) (lo+n-1)))) ?step ?fin ⟨rfl,rfl,λi j h1 h2 h3=>by rw[show i=j by lia];exact Gu _⟩) ?post)
 case fin =>
  rintro c st' ⟨rfl,rfl,up⟩
  exact ⟨rfl,_,rfl,by lia,by lia,by rw[show max 1 m=m by lia] at up ⊢;exact up,by lia⟩
 case step =>
  rintro x c st' h1 h2 ⟨rfl,rfl,up⟩
  dsimp only
  refine Eb (gL C hκ hu (by lia) (by lia) ?_)
  dsimp only
  cases hb:O.blt (kk key (Er st) (lo+x)) (kk key (Er st) (lo+x-1)) with
  | true =>
   rw[if_pos rfl]
   exact Ej ⟨rfl,x,rfl,h1,by lia,up,λ_=>hb⟩
  | false =>
   rw[if_neg (by simp)]
   refine Ej ⟨rfl,rfl,λi j k1 k2 k3 =>?_⟩
   by_cases hj:j=lo+x
   ·by_cases hi:i=j
    ·rw[hi];exact Gu _
    ·rw[hj]
     exact ET (up i (lo+x-1) k1 (by lia) (by lia)) hb
   ·exact up i j k1 k2 (by lia)
 case post =>
  rintro c st' ⟨rfl,n,rfl,n1,n2,up,br⟩
  dsimp only
  by_cases c1:(n == m)=true
  ·rw[if_pos c1]
   exact Ej (h n st n1 n2 (SA.refl _ _) up)
  rw[if_neg c1]
  have nm:n<m:=by have:n≠m:=λz=>c1 (beq_iff_eq.mpr z);lia
  have br:=br nm
  by_cases c2:n>1
  case' pos =>
   rw[if_pos c2]
   refine Eb (gL C hκ hu (by lia) (by lia) ?_)
   dsimp only
   cases hro:O.blt (kk key (Er st) lo) (kk key (Er st) (lo+n-1))
   case' true =>
    rw[if_pos rfl]
    exact Ej (h n st n1 n2 (SA.refl _ _) up)
   rw[if_neg (by simp)]
   have eqs:∀k,lo<=k->k<lo+n->kk key (Er st) k=kk key (Er st) (lo+n-1):=λk k1 k2 =>
    LA (up k (lo+n-1) k1 (by lia) (by lia)) (ET (show O.kle (kk key (Er st) (lo+n-1)) (kk key (Er st) lo) from hro) (up lo k (DS _) k1 k2))
   rw[Jq]
   refine Eb (G0 ?_)
   have sa:=(SA.refl lo st).mirror (i:=lo) (j:=lo+n) (DS _) (by lia)
   have ke:=fz (key:=key) (xs:=Er st) (i:=lo) (j:=lo+n) (by lia) eqs
   have ka:∀k,kk key (Er (setArr st (mirror (Er st) lo (lo+n) ((lo+n-lo)/2)))) k=kk key (Er st) k:=ke
   generalize setArr st (mirror (Er st) lo (lo+n) ((lo+n-lo)/2))=st1 at sa ka ⊢
   clear ke
  case' neg =>
   rw[if_neg c2]
   have eqs:∀k,lo<=k->k<lo+n->kk key (Er st) k=kk key (Er st) (lo+n-1):=λk k1 k2=>by rw[show k=lo+n-1 by lia]
   obtain ⟨st1,e1⟩:∃st1,st1=st:=⟨_,rfl⟩
   have sa:SA lo st st1:=by rw[e1];exact SA.refl _ _
   have ka:∀k,kk key (Er st1) k=kk key (Er st) k:=λk=>by rw[e1]
   rw[<- e1]
   clear e1
  all_goals
   refine Eb (JR (Gz ⟨rfl,?_⟩))
   have dn:Down key (Er st1) lo (n+1):=λi j k1 k2 k3=>by
    rw[ka,ka]
    by_cases hj:j=lo+n
    ·by_cases hi:i=j
     ·rw[hi];exact Gu _
     ·rw[hj,eqs i k1 (by lia)]
      exact FH br
    ·rw[eqs i k1 (by lia),eqs j (by lia) (by lia)]
     exact Gu _
   clear eqs up br ka
   refine Eb (GH (FC (I:=λx c st'=>∃q,c=(none,x,q)/\x<=m/\SA lo st st'/\Down key (Er st') lo x/\q+1<=x/\∀k,lo+x-(q+1)<=k->k<lo+x->kk key (Er st') k=kk key (Er st') (lo+x-1))
    (Q:=λc st'=>∃x q,c=(none,x,q)/\1<=x/\x<=m/\SA lo st st'/\Down key (Er st') lo x/\q+1<=x/\∀k,lo+x-(q+1)<=k->k<lo+x->kk key (Er st') k=kk key (Er st') (lo+x-1)) ?step ?fin
    ⟨0,rfl,by lia,sa,dn,by lia,λk k1 k2=>by rw[show k=lo+(n+1)-1 by lia]⟩) ?post)
   case fin =>
    rintro c st' ⟨q,rfl,xm,sa,dn,hq,he⟩
    exact ⟨_,q,rfl,by lia,xm,sa,dn,hq,he⟩
   case step =>
    rintro x c st2 h1 h2 ⟨q,rfl,xm,sa2,dn2,hq,he⟩
    dsimp only
    have sz:=sa2.size
    have u2:∀p∈(Er st2).toList,U p:=λp hp=>hu p (sa2.mem hp)
    refine Eb (gL C (sa2.k.trans hκ) u2 (by lia) (by lia) ?_)
    dsimp only
    cases hb:O.blt (kk key (Er st2) (lo+x)) (kk key (Er st2) (lo+x-1)) with
    | true =>
     rw[if_pos rfl]
     have dn3:Down key (Er st2) lo (x+1):=λi j k1 k2 k3=>by
      by_cases hj:j=lo+x
      ·by_cases hi:i=j
       ·rw[hi];exact Gu _
       ·rw[hj];exact ET (FH hb) (dn2 i (lo+x-1) k1 (by lia) (by lia))
      ·exact dn2 i j k1 k2 (by lia)
     by_cases q0:q>0
     ·rw[if_pos q0,Jq]
      refine Eb (G0 (Ej ?_))
      have ke:=fz (key:=key) (xs:=Er st2) (i:=lo+x-(q+1)) (j:=lo+x) (by lia) he
      refine ⟨0,rfl,by lia,sa2.mirror (by lia) (by lia),λi j k1 k2 k3 =>?_,by lia,λk k1 k2=>by rw[show k=lo+(x+1)-1 by lia]⟩
      show O.kle (kk key (mirror (Er st2) (lo+x-(q+1)) (lo+x) ((lo+x-(lo+x-(q+1)))/2)) j) (kk key (mirror (Er st2) (lo+x-(q+1)) (lo+x) ((lo+x-(lo+x-(q+1)))/2)) i)
      rw[ke,ke]
      exact dn3 i j k1 k2 k3
     ·rw[if_neg q0]
      exact Ej ⟨0,rfl,by lia,sa2,dn3,by lia,λk k1 k2=>by rw[show k=lo+(x+1)-1 by lia]⟩
    | false =>
     rw[if_neg (by simp)]
     refine Eb (gL C (sa2.k.trans hκ) u2 (by lia) (by lia) ?_)
     dsimp only
     cases hb2:O.blt (kk key (Er st2) (lo+x-1)) (kk key (Er st2) (lo+x)) with
     | true =>
      rw[if_pos rfl]
      exact Ej ⟨x,q,rfl,by lia,xm,sa2,dn2,hq,he⟩
     | false =>
      rw[if_neg (by simp)]
      have eq:=LA (show O.kle (kk key (Er st2) (lo+x)) (kk key (Er st2) (lo+x-1)) from hb2) hb
      refine Ej ⟨q+1,rfl,by lia,sa2,λi j k1 k2 k3 =>?_,by lia,λk k1 k2 =>?_⟩
      ·by_cases hj:j=lo+x
       ·by_cases hi:i=j
        ·rw[hi];exact Gu _
        ·rw[hj,eq];exact dn2 i (lo+x-1) k1 (by lia) (by lia)
       ·exact dn2 i j k1 k2 (by lia)
      ·rw[show lo+(x+1)-1=lo+x by lia,eq]
       by_cases hk:k=lo+x
       ·rw[hk,eq]
       ·exact he k (by lia) (by lia)
   case post =>
    rintro c st2 ⟨x,q,rfl,x1,xm,sa2,dn2,hq,he⟩
    dsimp only
    have sz:=sa2.size
    by_cases q0:q>0
    case' pos =>
     rw[if_pos q0,Jq]
     refine Eb (G0 ?_)
     have ke:=fz (key:=key) (xs:=Er st2) (i:=lo+x-(q+1)) (j:=lo+x) (by lia) he
     have sa3:=sa2.mirror (i:=lo+x-(q+1)) (j:=lo+x) (by lia) (by lia)
     have dn3:Down key (Er (setArr st2 (mirror (Er st2) (lo+x-(q+1)) (lo+x) ((lo+x-(lo+x-(q+1)))/2)))) lo x:=λi j k1 k2 k3=>by
      show O.kle (kk key (mirror (Er st2) (lo+x-(q+1)) (lo+x) ((lo+x-(lo+x-(q+1)))/2)) j) (kk key (mirror (Er st2) (lo+x-(q+1)) (lo+x) ((lo+x-(lo+x-(q+1)))/2)) i)
      rw[ke,ke]
      exact dn2 i j k1 k2 k3
     generalize setArr st2 (mirror (Er st2) (lo+x-(q+1)) (lo+x) ((lo+x-(lo+x-(q+1)))/2))=st3 at sa3 dn3 ⊢
     clear ke
    case' neg =>
     rw[if_neg q0]
     obtain ⟨st3,e3⟩:∃st3,st3=st2:=⟨_,rfl⟩
     have sa3:SA lo st st3:=by rw[e3];exact sa2
     have dn3:Down key (Er st3) lo x:=by rw[e3];exact dn2
     rw[<- e3]
     clear e3
    all_goals
     rw[Jq]
     refine Eb (G0 ?_)
     have sz3:=sa3.size
     have sa4:=sa3.mirror (i:=lo) (j:=lo+x) (DS _) (by lia)
     have km:=ou (key:=key) (xs:=Er st3) (i:=lo) (j:=lo+x) (by lia)
     have up4:Up key (Er (setArr st3 (mirror (Er st3) lo (lo+x) ((lo+x-lo)/2)))) lo x:=λi j k1 k2 k3=>by
      show O.kle (kk key (mirror (Er st3) lo (lo+x) ((lo+x-lo)/2)) i) (kk key (mirror (Er st3) lo (lo+x) ((lo+x-lo)/2)) j)
      rw[km,km,if_pos ⟨by lia,by lia⟩,if_pos ⟨by lia,by lia⟩]
      exact dn3 _ _ (by lia) (by lia) (by lia)
     generalize setArr st3 (mirror (Er st3) lo (lo+x) ((lo+x-lo)/2))=st4 at sa4 up4 ⊢
     clear km
     have u4:∀p∈(Er st4).toList,U p:=λp hp=>hu p (sa4.mem hp)
     have sz4:=sa4.size
     refine Eb (GH (FC (I:=λz c st'=>st4=st'/\c=(none,z)/\z<=m/\Up key (Er st4) lo z)
      (Q:=λc st'=>st4=st'/\∃z,c=(none,z)/\1<=z/\z<=m/\Up key (Er st4) lo z) ?step ?fin ⟨rfl,rfl,xm,up4⟩) ?post)
     case fin =>
      rintro c st' ⟨rfl,rfl,zm,up⟩
      exact ⟨rfl,_,rfl,by lia,zm,up⟩
     case post =>
      rintro c st' ⟨rfl,z,rfl,z1,zm,up⟩
      exact Ej (h z st4 z1 zm sa4 up)
     case step =>
      rintro z c st' h1 h2 ⟨rfl,rfl,zm,up⟩
      dsimp only
      refine Eb (gL C (sa4.k.trans hκ) u4 (by lia) (by lia) ?_)
      dsimp only
      cases hb:O.blt (kk key (Er st4) (lo+z)) (kk key (Er st4) (lo+z-1)) with
      | true =>
       rw[if_pos rfl]
       exact Ej ⟨rfl,z,rfl,by lia,zm,up⟩
      | false =>
       rw[if_neg (by simp)]
       refine Ej ⟨rfl,rfl,by lia,λi j k1 k2 k3 =>?_⟩
       by_cases hj:j=lo+z
       ·by_cases hi:i=j
        ·rw[hi];exact Gu _
        ·rw[hj];exact ET (up i (lo+z-1) k1 (by lia) (by lia)) hb
       ·exact up i j k1 k2 (by lia)
theorem ow {xs:Array Ek}{src d:Nat}(hs:src<xs.size)(hd:d<=src)(k:Nat) :
  kk key (bubble xs src d) k=if k=src-d then kk key xs src else if src-d<k/\k<=src then kk key xs (k-1) else kk key xs k:=by
 have e:=getElem?_bubble hs d hd k
 by_cases h1:k=src-d
 ·rw[if_pos h1] at e ⊢;exact iR e
 ·rw[if_neg h1] at e ⊢
  by_cases h2:src-d<k/\k<=src
  ·rw[if_pos h2] at e ⊢;exact iR e
  ·rw[if_neg h2] at e ⊢;exact iR e
theorem SA.bubble {lo:Nat}{st st':EK}(h:SA lo st st'){src d:Nat}(hs:src<(Er st').size)(hd:lo+d<=src):SA lo st (setArr st' (bubble (Er st') src d)) :=
 ⟨(bubble_perm _ _ _).trans h.perm,λk hk=>by
  show (PyProof.Rows.bubble (Er st') src d)[k]? = _
  rw[getElem?_bubble hs d (by lia),if_neg (by lia),if_neg (by lia)]
  exact h.pre k hk,h.k,h.p,h.f⟩
theorem xJ (C:Cmp prog w A s O key U κ){st:EK}{lo n ok:Nat}{Q:Bool->EK->Prop}(hκ:kindOf st=κ)(hu:∀p∈(Er st).toList,U p)(hn:lo+n<=(Er st).size)(hok:ok<=n)(up:Up key (Er st) lo ok)
  (h:∀st',SA lo st st'->Up key (Er st') lo n->Q true st'):wpS (Es prog w) A E s (xy lo n ok) Q st:=by
 rw[xI]
 dsimp only
 refine Eb (GH (FC (I:=λx c st'=>c=(none,())/\SA lo st st'/\Up key (Er st') lo (min x n)) (Q:=λc st'=>c=(none,())/\SA lo st st'/\Up key (Er st') lo n) ?step ?fin ⟨rfl,SA.refl _ _,λi j k1 k2 k3 =>?_⟩) ?post)
 case post =>
  rintro c st' ⟨rfl,sa,up⟩
  exact Ej (h st' sa up)
 case fin =>
  rintro c st' ⟨rfl,sa,up⟩
  refine ⟨rfl,sa,?_⟩
  rw[show min (max (max ok 1) n) n=n by lia] at up
  exact up
 case step =>
  rintro k c st1 h1 h2 ⟨rfl,sa1,up1⟩
  rw[show min k n=k by lia] at up1
  have sz:=sa1.size
  have u1:∀p∈(Er st1).toList,U p:=λp hp=>hu p (sa1.mem hp)
  refine Eb (GH (FC (I:=λx c st'=>st1=st'/\∃l r,c=(none,l,r)/\l<=r/\r<=k/\r-l<=k-x/\(∀i,i<l->O.kle (kk key (Er st1) (lo+i)) (kk key (Er st1) (lo+k)))/\(∀i,r<=i->i<k->O.klt (kk key (Er st1) (lo+k)) (kk key (Er st1) (lo+i))))
   (Q:=λc st'=>st1=st'/\∃l r,c=(none,l,r)/\l<=k/\(∀i,i<l->O.kle (kk key (Er st1) (lo+i)) (kk key (Er st1) (lo+k)))/\(∀i,l<=i->i<k->O.klt (kk key (Er st1) (lo+k)) (kk key (Er st1) (lo+i)))) ?istep ?ifin ⟨rfl,0,k,rfl,by lia,by lia,by lia,λi hi=>by lia,λi a1 a2=>by lia⟩) ?ipost)
  case ifin =>
   rintro c st' ⟨rfl,l,r,rfl,b1,b2,b3,b4,b5⟩
   have e:l=r:=by lia
   subst e
   exact ⟨rfl,l,l,rfl,b2,b4,b5⟩
  case istep =>
   rintro x c st' _ hx ⟨rfl,l,r,rfl,b1,b2,b3,b4,b5⟩
   dsimp only
   by_cases hge:l≥r
   ·rw[if_pos hge]
    have e:l=r:=by lia
    subst e
    exact Ej ⟨rfl,l,l,rfl,b2,b4,b5⟩
   ·rw[if_neg hge]
    refine Eb (gL C (sa1.k.trans hκ) u1 (by lia) (by lia) ?_)
    dsimp only
    cases hb:O.blt (kk key (Er st1) (lo+k)) (kk key (Er st1) (lo+(l+r)/2)) with
    | true =>
     rw[if_pos rfl]
     exact Ej ⟨rfl,l,(l+r)/2,rfl,by lia,by lia,by lia,b4,λi a1 a2=>KeyOrd.klt_of_klt_of_kle hb (up1 _ _ (by lia) (by lia) (by lia))⟩
    | false =>
     rw[if_neg (by simp)]
     exact Ej ⟨rfl,(l+r)/2+1,r,rfl,by lia,by lia,by lia,λi a1=>ET (up1 (lo+i) (lo+(l+r)/2) (by lia) (by lia) (by lia)) hb,b5⟩
  case ipost =>
   rintro c st' ⟨rfl,l,r,rfl,b2,b4,b5⟩
   dsimp only
   rw[moveDown'_eq]
   have e:lo+k-(lo+l)=k-l:=by lia
   refine Eb (G0 (Ej ⟨rfl,?_,?_⟩))
   ·rw[e]
    exact sa1.bubble (by lia) (by lia)
   ·rw[show min (k+1) n=k+1 by lia]
    intro i j k1 k2 k3
    show O.kle (kk key (bubble (Er st1) (lo+k) (lo+k-(lo+l))) i) (kk key (bubble (Er st1) (lo+k) (lo+k-(lo+l))) j)
    have lt:lo+k<(Er st1).size:=by lia
    rw[e,ow lt (by lia),ow lt (by lia),show lo+k-(k-l)=lo+l by lia]
    have b4':∀z,lo<=z->z<lo+l->O.kle (kk key (Er st1) z) (kk key (Er st1) (lo+k)):=λz z1 z2=>by
     have:=b4 (z-lo) (by lia)
     rw[show lo+(z-lo)=z by lia] at this
     exact this
    have b5':∀z,lo+l<=z->z<lo+k->O.kle (kk key (Er st1) (lo+k)) (kk key (Er st1) z):=λz z1 z2=>by
     have:=b5 (z-lo) (by lia) (by lia)
     rw[show lo+(z-lo)=z by lia] at this
     exact FH this
    repeat' split
    all_goals first
     | (exfalso;lia)
     | exact Gu _
     | exact b4' _ (by lia) (by lia)
     | exact b5' _ (by lia) (by lia)
     | exact up1 _ _ (by lia) (by lia) (by lia)
 ·by_cases h1:ok=0
  ·rw[show i=j by lia];exact Gu _
  ·exact up i j k1 k2 (by lia)
end
def pwr:Nat->Nat->Nat->Nat->Nat:=sortPriv% PySem.Builtin.power
def mrn:Nat->Nat->Nat->Nat:=sortPriv% PySem.Builtin.minRun
theorem xK:AZ=(do
    let sz:=(Er (← get)).size
    let mr:=mrn sz sz 0
    let mut lo:=0
    for _ in [0:sz] do
      if lo≥sz then break
      let some fd ← BW lo (sz-lo)
        | return
      let mut n:=fd
      if n<mr then
        rule "list.sort.binary-insertion"
        let fo:=min (sz-lo) mr
        if !(← xy lo fo n) then return
        n:=fo
      if let some (s1,n1,_):=(EG (← get)).back? then
        let pw:=pwr sz (2*s1+n1) (2*s1+n1+n1+n) sz
        for _ in [0:sz] do
          let p:=EG (← get)
          let some (_,_,old):=(if p.size>1 then p[p.size-2]? else none)
            | break
          if old<=pw then break
          if !(← mAt (p.size-2)) then return
        modify λs=>SortSt.mk' (kindOf s) (Er s) ((EG s).modify ((EG s).size-1) λ(st,len,_)=>(st,len,pw)) (gallopOf s) (failedOf s)
      modify λs=>SortSt.mk' (kindOf s) (Er s) ((EG s).push (lo,n,0)) (gallopOf s) (failedOf s)
      lo:=lo+n
    for _ in [0:sz] do
      let p:=EG (← get)
      if p.size<=1 then break
      let i:=p.size-2
      let bf:=if i>0 then p[i-1]?.map (·.2.1) else none
      let i:=if bf.any (· < (p[i+1]?.elim 0 (·.2.1))) then i-1 else i
      if !(← mAt i) then return):=rfl
def Mt:Nat->List (List Ek)->List (Nat×Nat×Nat)->Prop
 | _,[],[]=>True
 | off,r :: rs,p :: ps=>p.1=off/\p.2.1=r.length/\Mt (off+r.length) rs ps
 | _,_,_=>False
theorem Mt.length:∀{off:Nat} {rs:List (List Ek)} {ps:List (Nat×Nat×Nat)},Mt off rs ps->ps.length=rs.length
 | _,[],[],_=>rfl
 | _,_ :: _,_ :: _,h=>by rw[Eu,Eu,Mt.length h.2.2]
theorem Mt.append:∀{off:Nat} {rs ts:List (List Ek)} {ps us:List (Nat×Nat×Nat)},Mt off rs ps->Mt (off+rs.flatten.length) ts us->Mt off (rs++ts) (ps++us)
 | _,[],_,[],_,_,h=>by simpa using h
 | off,r :: rs,ts,p :: ps,us,h,h'=>by
  refine ⟨h.1,h.2.1,Mt.append h.2.2 ?_⟩
  rw[J4,DT, <- Nl] at h'
  exact h'
theorem Mt.split:∀{off:Nat} {rs:List (List Ek)} {ps:List (Nat×Nat×Nat)} (i:Nat),Mt off rs ps->i+1<ps.length →
  ∃R1 X Y R2 L1 w1 w2 L2,rs=R1++X :: Y :: R2/\ps=L1++(off+R1.flatten.length,X.length,w1) :: (off+R1.flatten.length+X.length,Y.length,w2) :: L2/\L1.length=i/\Mt off R1 L1/\Mt (off+R1.flatten.length+X.length+Y.length) R2 L2
 | off,r :: r2 :: rs,p :: p2 :: ps,0,h,_=>by
  obtain ⟨a,b,w1⟩:=p
  obtain ⟨c,d,w2⟩:=p2
  obtain ⟨h1,h2,h3,h4,h5⟩:=h
  dsimp only at h1 h2 h3 h4
  subst h1 h2 h3 h4
  exact ⟨[],r,r2,rs,[],w1,w2,ps,rfl,rfl,rfl,trivial,h5⟩
 | off,r :: rs,p :: ps,i+1,h,hl=>by
  rw[Eu] at hl
  obtain ⟨R1,X,Y,R2,L1,w1,w2,L2,e1,e2,e3,m1,m2⟩:=Mt.split i h.2.2 (by lia)
  have ea:off+(r :: R1).flatten.length=off+r.length+R1.flatten.length:=by rw[J4,DT];lia
  refine ⟨r :: R1,X,Y,R2,p :: L1,w1,w2,L2,by rw[e1];rfl,?_,by rw[Eu,e3],⟨h.1,h.2.1,m1⟩,?_⟩
  ·rw[ea,e2];rfl
  ·rw[ea];exact m2
 | off,[],[],i,_,hl=>by simp at hl
 | off,[_],[_],0,_,hl=>by simp at hl
theorem Mt.modify (f:Nat×Nat×Nat->Nat×Nat×Nat)(hf:∀p,(f p).1=p.1/\(f p).2.1=p.2.1):∀{off:Nat} {rs:List (List Ek)} {ps:List (Nat×Nat×Nat)} (i:Nat),Mt off rs ps->Mt off rs (ps.modify i f)
 | _,[],[],i,_=>by cases i <;> exact trivial
 | off,r :: rs,p :: ps,0,h=>⟨(hf p).1.trans h.1,(hf p).2.trans h.2.1,h.2.2⟩
 | off,r :: rs,p :: ps,i+1,h=>⟨h.1,h.2.1,Mt.modify f hf i h.2.2⟩
theorem vD {α:Type}(l:List α)(a b c:α)(r:List α):((l++a :: b :: r).set l.length c).eraseIdx (l.length+1)=l++c :: r:=by
 induction l with
 | nil=>rfl
 | cons x l ih=>simp only[List.cons_append,Eu,List.set_cons_succ,Ki,ih]
section
variable  {O:Jm}(key:Ek->O.α)(U:Ek->Prop)(κ:SortKind)
structure Rn (a0:List Ek)(lo:Nat)(st:EK):Prop where
 ex:∃runs rest,(Er st).toList=runs.flatten++rest/\runs.flatten.length=lo/\(∀r∈runs,r.Pairwise (Le key)/\0<r.length)/\Mt 0 runs (EG st).toList
 perm:(Er st).toList.Perm a0
 k:kindOf st=κ
 f:failedOf st=none
end
section
variable  {prog:D9}{w:EE}{A:EV}{E:DK->DP->Prop}{s:DP}{O:Jm}{key:Ek->O.α}{U:Ek->Prop}{κ:SortKind}
theorem qu (C:Cmp prog w A s O key U κ){a0:List Ek}{lo i:Nat}{st:EK}{Q:Bool->EK->Prop}(hu:∀p∈a0,U p)(R:Rn key κ a0 lo st)(hi:i+1<(EG st).size)
  (h:∀st',Rn key κ a0 lo st'->(EG st').size+1=(EG st).size->(Er st').toList.drop lo=(Er st).toList.drop lo->Q true st'):wpS (Es prog w) A E s (mAt i) Q st:=by
 obtain ⟨runs,rest,ea,el,er,em⟩:=R.ex
 obtain ⟨R1,X,Y,R2,L1,w1,w2,L2,e1,e2,e3,m1,m2⟩:=Mt.split i em (by rw[DY];exact hi)
 subst e1
 rw[Hy] at e2 m2
 have hx:=er X (by simp)
 have hy:=er Y (by simp)
 have ga:(EG st)[i]? = some (R1.flatten.length,X.length,w1):=by
  rw[<- D7,e2, <- e3,show L1.length=L1.length+0 by lia,rT];rfl
 have gb:(EG st)[i+1]? = some (R1.flatten.length+X.length,Y.length,w2):=by
  rw[<- D7,e2, <- e3,rT];rfl
 refine B5 C (P:=R1.flatten) (X:=X) (Y:=Y) (S:=R2.flatten++rest) R.k R.f (by rw[ea];simp) (λp hp=>hu p (R.perm.mem_iff.mp hp)) ga gb hx.2 hy.2 hx.1 hy.1 λst' M pm sm ar pd kd fl =>?_
 have lm:M.length=X.length+Y.length:=by rw[pm.length_eq,DT]
 have ep:(EG st').toList=L1++(R1.flatten.length,X.length+Y.length,w1) :: L2:=by
  rw[pd,Array.toList_eraseIdxIfInBounds,JK,e2, <- e3]
  exact vD _ _ _ _ _
 refine h st' ⟨⟨R1++M :: R2,rest,?_,?_,λr hr =>?_,?_⟩,?_,kd,fl⟩ ?_ ?_
 ·rw[ar];simp
 ·rw[<- el];simp[lm];lia
 ·rcases D6.mp hr with q | q
  ·exact er r (by simp[q])
  ·rcases Eg.mp q with q | q
   ·rw[q];exact ⟨sm,by have:=hx.2;lia⟩
   ·exact er r (by simp[q])
 ·rw[ep]
  refine Mt.append m1 ⟨by rw[Hy],lm.symm,?_⟩
  rw[Hy,lm, <- Nl]
  exact m2
 ·rw[ar]
  refine List.Perm.trans ?_ R.perm
  rw[ea,show (R1++X :: Y :: R2).flatten++rest=R1.flatten++((X++Y)++(R2.flatten++rest)) by simp]
  exact Gj _ (G8 _ pm)
 ·rw[<- DY, <- DY,ep,e2]
  simp only[DT,Eu]
  lia
 ·have l1:(R1++M :: R2).flatten.length=lo:=by rw[<- el];simp[lm];lia
  have q1:(Er st').toList=(R1++M :: R2).flatten++rest:=by rw[ar];simp
  rw[q1,ea, <- l1,JX,l1, <- el,JX]
theorem Rn.sa {a0:List Ek}{lo:Nat}{st st':EK}(R:Rn key κ a0 lo st)(sa:SA lo st st'):Rn key κ a0 lo st':=by
 obtain ⟨runs,rest,ea,el,er,em⟩:=R.ex
 have et:(Er st').toList.take lo=runs.flatten:=by
  have e1:(Er st').toList.take lo=(Er st).toList.take lo:=by
   refine Je λi =>?_
   rw[Gv,Gv]
   split
   ·rw[D7,D7];exact sa.pre i (by assumption)
   ·rfl
  rw[e1,ea, <- el,List.take_left]
 refine ⟨⟨runs,(Er st').toList.drop lo,by rw[<- et,FP],el,er,by rw[sa.p];exact em⟩,(JL.mp sa.perm).trans R.perm,sa.k.trans R.k,sa.f.trans R.f⟩
theorem vE {xs:Array Ek}{lo n:Nat}(h:Up key xs lo n):((xs.toList.drop lo).take n).Pairwise (Le key):=by
 refine HB.mpr λi j hi hj hij =>?_
 have get:∀k (hk:k<((xs.toList.drop lo).take n).length),key ((xs.toList.drop lo).take n)[k]=kk key xs (lo+k)/\k<n:=λk hk=>by
  have hk':=hk
  rw[EF] at hk'
  refine ⟨?_,by lia⟩
  have e:((xs.toList.drop lo).take n)[k]? = xs[lo+k]? := by
   rw[Gv,if_pos (by lia),FK,D7]
  rw[DL hk] at e
  unfold kk
  rw[<- e];rfl
 obtain ⟨e1,l1⟩:=get i hi
 obtain ⟨e2,l2⟩:=get j hj
 show O.kle (key _) (key _)
 rw[e1,e2]
 exact h _ _ (by lia) (by lia) (by lia)
theorem Rn.push {a0:List Ek}{lo n:Nat}{st:EK}(R:Rn key κ a0 lo st)(hn:0<n)(hz:lo+n<=(Er st).size)(hs:(((Er st).toList.drop lo).take n).Pairwise (Le key)) :
  Rn key κ a0 (lo+n) (SortSt.mk' (kindOf st) (Er st) ((EG st).push (lo,n,0)) (gallopOf st) (failedOf st)):=by
 obtain ⟨runs,rest,ea,el,er,em⟩:=R.ex
 have ed:(Er st).toList.drop lo=rest:=by rw[ea, <- el,JX]
 rw[ed] at hs
 have lr:n<=rest.length:=by
  have:=congrArg List.length ea
  rw[DY,DT,el] at this
  lia
 have lt:(rest.take n).length=n:=by rw[EF];lia
 refine ⟨⟨runs++[rest.take n],rest.drop n,?_,?_,λr hr =>?_,?_⟩,R.perm,R.k,R.f⟩
 ·show (Er st).toList=_
  rw[ea];simp
 ·simp[lt,el]
 ·rcases D6.mp hr with q | q
  ·exact er r q
  ·have e:r=rest.take n:=by simpa using q
   rw[e];exact ⟨hs,by lia⟩
 ·show Mt 0 _ ((EG st).push (lo,n,0)).toList
  rw[Gi]
  exact Mt.append em ⟨by show lo=_;lia,lt.symm,trivial⟩
theorem Rn.mod {a0:List Ek}{lo:Nat}{st:EK}(R:Rn key κ a0 lo st)(i:Nat)(f:Nat×Nat×Nat->Nat×Nat×Nat)(hf:∀p,(f p).1=p.1/\(f p).2.1=p.2.1):Rn key κ a0 lo (SortSt.mk' (kindOf st) (Er st) ((EG st).modify i f) (gallopOf st) (failedOf st)):=by
 obtain ⟨runs,rest,ea,el,er,em⟩:=R.ex
 refine ⟨⟨runs,rest,ea,el,er,?_⟩,R.perm,R.k,R.f⟩
 show Mt 0 runs ((EG st).modify i f).toList
 rw[Array.toList_modify]
 exact Mt.modify f hf i em
theorem B6 {c:Prop}[Decidable c]{n:Nat}(h:1<n):(if c then n-2-1 else n-2)+1<n:=by split <;> omega
theorem ox:∀{runs:List (List Ek)},(∀r∈runs,0<r.length)->runs.length<=runs.flatten.length
 | [],_=>DS _
 | r :: rs,h=>by
  have h1:=h r En
  have h2:=ox λq hq=>h q (Em _ hq)
  rw[J4,DT,Eu]
  lia
theorem xM (C:Cmp prog w A s O key U κ){a0:List Ek}{st:EK}{Q:Unit->EK->Prop}(hu:∀p∈a0,U p)(ha:(Er st).toList=a0)(hp:EG st = #[])(hk:kindOf st=κ)(hf:failedOf st=none)(h1:1<=a0.length)
  (h:∀st',(Er st').toList.Perm a0->(Er st').toList.Pairwise (Le key)->failedOf st'=none->Q () st'):wpS (Es prog w) A E s AZ Q st:=by
 rw[xK]
 refine Eb (JH ?_)
 dsimp only
 have sz0:(Er st).size=a0.length:=by rw[<- DY,ha]
 have szR:∀{lo:Nat} {st':EK},Rn key κ a0 lo st'->(Er st').size=(Er st).size:=λR=>by rw[<- DY,R.perm.length_eq,sz0]
 have uR:∀{lo:Nat} {st':EK},Rn key κ a0 lo st'->∀p∈(Er st').toList,U p:=λR p hp=>hu p (R.perm.mem_iff.mp hp)
 have R0:Rn key κ a0 0 st:=⟨⟨[],a0,by rw[ha];rfl,rfl,λr hr=>(by cases hr),by rw[hp];exact trivial⟩,by rw[ha],hk,hf⟩
 refine Eb (GH (FC (I:=λx c st'=>∃lo,c=(none,lo)/\x<=lo/\lo<=(Er st).size/\Rn key κ a0 lo st') (Q:=λc st'=>c=(none,(Er st).size)/\Rn key κ a0 (Er st).size st') ?step ?fin ⟨0,rfl,DS _,EB _,R0⟩) ?post)
 case fin =>
  rintro c st' ⟨lo,rfl,l1,l2,R⟩
  obtain rfl:lo=(Er st).size:=by lia
  exact ⟨rfl,R⟩
 case post =>
  rintro c st1 ⟨rfl,R⟩
  dsimp only
  have p0:(EG st1).size<=(Er st).size:=by
   obtain ⟨runs,rest,ea,el,er,em⟩:=R.ex
   have q:=em.length
   rw[DY] at q
   have:=ox λr hr=>(er r hr).2
   lia
  refine Eb (GH (FC (I:=λx c st'=>c=(none,())/\Rn key κ a0 (Er st).size st'/\((EG st').size<=1\/(EG st').size+x<=(Er st).size)) (Q:=λc st'=>c=(none,())/\Rn key κ a0 (Er st).size st'/\(EG st').size<=1) ?stepB ?finB ⟨rfl,R,.inr (by lia)⟩) ?postB)
  case finB =>
   rintro c st' ⟨rfl,R,q⟩
   exact ⟨rfl,R,by lia⟩
  case stepB =>
   rintro x c st' _ hx ⟨rfl,R,q⟩
   refine Eb (JH ?_)
   by_cases c1:(EG st').size<=1
   ·rw[if_pos c1]
    exact Ej ⟨rfl,R,c1⟩
   rw[if_neg c1]
   refine Eb (qu C hu R (B6 (by lia)) λst2 R2 s2 _ =>?_)
   simp only[FV,Ei,if_false]
   exact Ej ⟨rfl,R2,by lia⟩
  case postB =>
   rintro c st' ⟨rfl,R,q⟩
   obtain ⟨runs,rest,ea,el,er,em⟩:=R.ex
   have lm:=em.length
   rw[DY] at lm
   have lr:=congrArg List.length ea
   rw[DY,szR R,DT,el] at lr
   have er0:rest=[]:=IX.mp (by lia)
   subst er0
   rw[E6] at ea
   match runs,er,lm,el,ea with
   | [],_,_,el,_=>simp at el;lia
   | [r],er,_,_,ea =>
    have e:(Er st').toList=r:=by rw[ea];simp
    exact Ej (h st' R.perm (by rw[e];exact (er r (by simp)).1) R.f)
   | _ :: _ :: _,_,lm,_,_=>simp at lm;lia
 case step =>
  rintro x c st1 _ hx ⟨lo,rfl,l1,l2,R⟩
  dsimp only
  by_cases cl:lo≥(Er st).size
  ·rw[if_pos cl]
   obtain rfl:lo=(Er st).size:=by lia
   exact Ej ⟨rfl,R⟩
  rw[if_neg cl]
  have s1:=szR R
  refine Eb (zO C R.k (uR R) (by lia) (by lia) λn st2 n1 n2 sa2 up2 =>?_)
  dsimp only
  have R2:=R.sa sa2
  have s2:=szR R2
  by_cases cm:n<mrn (Er st).size (Er st).size 0
  case' pos =>
   rw[if_pos cm]
   refine Eb (JR (Gz ⟨rfl,?_⟩))
   obtain ⟨fo,e⟩:∃fo,fo=min ((Er st).size-lo) (mrn (Er st).size (Er st).size 0):=⟨_,rfl⟩
   rw[<- e]
   refine Eb (xJ C R2.k (uR R2) (by lia) (by lia) up2 λst3 sa3 up3 =>?_)
   simp only[FV,Ei,if_false]
   have R3:=R2.sa sa3
   have f0:0<fo:=by lia
   have f1:lo+fo<=(Er st).size:=by lia
  case' neg =>
   rw[if_neg cm]
   obtain ⟨fo,e⟩:∃fo,fo=n:=⟨_,rfl⟩
   subst e
   obtain ⟨st3,e3⟩:∃st3,st3=st2:=⟨_,rfl⟩
   subst e3
   have R3:=R2
   have up3:=up2
   have f0:0<fo:=n1
   have f1:lo+fo<=(Er st).size:=by lia
  all_goals
   have srt:=vE up3
   have s3:=szR R3
   refine Eb (JH ?_)
   cases hbk:(EG st3).back? with
   | none =>
    dsimp only
    exact Eb (G0 (Ej ⟨lo+fo,rfl,by lia,f1,R3.push f0 (by lia) srt⟩))
   | some t =>
    obtain ⟨t1,t2,t3⟩:=t
    dsimp only
    refine Eb (GH (FC (I:=λ_ c st'=>c=(none,())/\Rn key κ a0 lo st'/\(Er st').toList.drop lo=(Er st3).toList.drop lo) (Q:=λc st'=>c=(none,())/\Rn key κ a0 lo st'/\(Er st').toList.drop lo=(Er st3).toList.drop lo) ?stepC ?finC ⟨rfl,R3,rfl⟩) ?postC)
    case finC=>exact λc st' q=>q
    case stepC =>
     rintro z c st4 _ _ ⟨rfl,R4,d4⟩
     refine Eb (JH ?_)
     by_cases p1:(EG st4).size>1
     ·rw[if_pos p1]
      have lt:(EG st4).size-2<(EG st4).size:=by lia
      have e:(EG st4)[(EG st4).size-2]? = some (EG st4)[(EG st4).size-2]:=by simp[lt]
      rw[e]
      dsimp only
      split
      ·exact Ej ⟨rfl,R4,d4⟩
      ·refine Eb (qu C hu R4 (by lia) λst5 R5 _ d5 =>?_)
       simp only[FV,Ei,if_false]
       exact Ej ⟨rfl,R5,d5.trans d4⟩
     ·rw[if_neg p1]
      exact Ej ⟨rfl,R4,d4⟩
    case postC =>
     rintro c st4 ⟨rfl,R4,d4⟩
     dsimp only
     have s4:=szR R4
     refine Eb (G0 (Eb (G0 (Ej ⟨lo+fo,rfl,by lia,f1,?_⟩))))
     refine Rn.push ?_ f0 ?_ ?_
     ·refine Rn.mod R4 _ _ ?_
      exact λp=>⟨rfl,rfl⟩
     ·show lo+fo<=(Er st4).size
      lia
     ·show (((Er st4).toList.drop lo).take fo).Pairwise (Le key)
      rw[d4]
      exact srt
end
structure kK (prog:D9)(w:EE)(s:DP)(vs:List DK)(O:Jm)(key:DK->O.α):Prop where
 ok:2<=vs.length->∀(A:EV) (h6:Heap),(∀b o,s.heap.get? b=some o->h6.get? b=some o)->∃κ,(∀(Q:SortKind->DP->Prop) (E:DK->DP->Prop),Q κ { s with heap:=h6 }->Ee (Es prog w) A (keyKind' vs.toArray) Q E { s with heap:=h6 }) ∧
  Cmp prog w A { s with heap:=h6 } O (λp=>key p.1) (λp=>p.1=p.2/\p.1∈vs) κ
section
variable  {prog:D9}{w:EE}{A:EV}{E:DK->DP->Prop}{s:DP}{O:Jm}{key:DK->O.α}
theorem zs:∀vs:List DK,(vs.zip vs).map (·.2)=vs
 | []=>rfl
 | v :: vs=>by rw[IU,Ew,zs vs]
theorem qv {l:List Ek}{vs:List DK}(h:l.Perm (vs.zip vs)):(l.map (·.2)).Perm vs/\∀p∈l,p.1=p.2/\p.1∈vs:=by
 have e:=zs vs
 refine ⟨by have:=h.map (·.2);rw[e] at this;exact this,λp hp =>?_⟩
 have m:=h.mem_iff.mp hp
 obtain ⟨i,hi⟩:=Et.mp m
 rw[HA] at hi
 have e1:=hi.1.symm.trans hi.2
 exact ⟨EA e1,DV hi.1⟩
theorem eE {a:Addr}{vs:List DK}{n:Nat}{P:Fin->DP->Prop}(ho:s.heap.get? a=some (seqObj "list" vs.toArray n))(hz:vs.length<=D3)
    (hc:2<=vs.length->∀h6,(∀b o,b≠a->s.heap.get? b=some o->h6.get? b=some o)->∃κ,(∀(Q:SortKind->DP->Prop) (E:DK->DP->Prop),Q κ { s with heap:=h6 }->Ee (Es prog w) A (keyKind' vs.toArray) Q E { s with heap:=h6 }) ∧
      Cmp prog w A { s with heap:=h6 } O (λp=>key p.1) (λp=>p.1=p.2/\p.1∈vs) κ)
    (h:∀out:List DK,out.Perm vs->out.Pairwise (λx y=>O.kle (key x) (key y))->P (.done (.ret .none)) { s with heap:=sortedHeap s.heap a vs out.toArray }):Ee (Es prog w) A (Builtin.«list.sort» ⟨[.ref a],[]⟩) P E s:=by
  rw[list_sort_plain]
  have ha:a<s.heap.objs.size:=D4 ho
  refine DH (Mu ho rfl ?_)
  refine DH (L0 ho rfl ?_ (by rw[DR];exact hz) (EB _))
  obtain ⟨e1,ho1⟩:∃e1,(s.heap.update a (F8 λ_ => #[])).get? a=some (seqObj "list" #[] e1):=⟨_,get?_update_seq ho (λ_ => #[])⟩
  refine DH (seqEpoch_at ho1 rfl (DH (wpAny_newTuple ?_ (by exact hz))))
  refine DH (Jx ?_ (EB _))
  refine Fb ?_
  generalize hH:((s.heap.update a (F8 λ_ => #[])).push (seqObj "tuple" vs.toArray 0)).push (seqObj "list" #[] 0)=h6
  have kp:∀b o,b≠a->s.heap.get? b=some o->h6.get? b=some o:=λb o nb e=>by
    rw[<- hH]
    refine DJ _ (DJ _ ?_)
    rw[LB _ _ _ _ nb]
    exact e
  have ho6:h6.get? a=some (seqObj "list" #[] e1):=by
    rw[<- hH]
    exact DJ _ (DJ _ ho1)
  have eH:∀out:List DK,sortedHeap s.heap a vs out.toArray=h6.update a (F8 λ_=>out.toArray):=λout=>by rw[<- hH];rfl
  have go:∀st':EK,(Er st').toList.Perm (vs.zip vs)->(Er st').toList.Pairwise (λp q=>O.kle (key p.1) (key q.1))->failedOf st'=none →
      Ee (Es prog w) A (do
        let sorted:=(Er st').map (·.2)
        let touched:=(← seqEpoch a) != e1
        Builtin.List.listUpdate (.ref a) λ_=>sorted
        if let some e:=failedOf st' then rule "list.sort.comparison-raised";throw e
        if touched then rule "list.sort.modified";raiseError "ValueError" "list modified during sort"
        ret .none) P E { s with heap:=h6 }:=by
    intro st' pm ps hf
    obtain ⟨z1,z2⟩:=qv pm
    have em:(Er st').map (·.2)=((Er st').toList.map (·.2)).toArray:=by
      apply IA.mp
      rw[Jp]
    dsimp only
    refine DH (seqEpoch_at ho6 rfl ?_)
    refine DH (L0 ho6 rfl ?_ (EB _) (by rw[E5, <- DY,pm.length_eq,K2,JP];lia))
    rw[hf]
    simp only[bne_self_eq_false,Ei,if_false]
    refine DN ?_
    rw[em, <- eH]
    refine h _ z1 (EN.mpr (ps.imp_of_mem λ{p q} hp hq le =>?_))
    rw[<- (z2 p hp).1, <- (z2 q hq).1]
    exact le
  by_cases h2:vs.toArray.size<2
  · rw[if_pos h2,if_pos h2]
    refine DH (DN ?_)
    dsimp only
    rw[StateT.run_pure]
    refine DH (DN ?_)
    refine go (SortSt.mk' general' (vs.toArray.zip vs.toArray) #[] 7 none) (by show (vs.toArray.zip vs.toArray).toList.Perm _;simp) ?_ rfl
    rw[DR] at h2
    have et:(vs.toArray.zip vs.toArray).toList=vs.zip vs:=by simp
    show (vs.toArray.zip vs.toArray).toList.Pairwise (λ(p q:Ek)=>O.kle (key p.1) (key q.1))
    rw[et]
    have short:∀us:List DK,us.length<2->(us.zip us).Pairwise (λ(p q:Ek)=>O.kle (key p.1) (key q.1)):=λus hu=>by
      match us,hu with
      | [],_=>exact List.Pairwise.nil
      | [v],_=>exact Gq _ _
      | _ :: _ :: _,hu=>simp only[Eu] at hu;lia
    exact short vs h2
  · rw[if_neg h2,if_neg h2]
    rw[DR] at h2
    obtain ⟨κ,k1,C⟩:=hc (by lia) h6 kp
    refine DH (k1 _ _ ?_)
    have et:(vs.toArray.zip vs.toArray).toList=vs.zip vs:=by simp
    refine DH (Gk (xM C (E:=E) (a0:=vs.zip vs) (st:=SortSt.mk' κ (vs.toArray.zip vs.toArray) #[] 7 none)
      (Q:=λ_ st'=>(Er st').toList.Perm (vs.zip vs)/\(Er st').toList.Pairwise (Le λ(p:Ek)=>key p.1)/\failedOf st'=none)
      (qv (Iv _)).2 et rfl rfl rfl (by rw[K2,JP];lia) λst' a1 a2 a3=>⟨a1,a2,a3⟩) ?_ λ_ _ e=>e)
    rintro ⟨⟨⟩,st'⟩ s' ⟨rfl,hp,hs,hf⟩
    exact go st' hp hs hf
def lJ (prog:D9)(w:EE)(s:DP)(v:DK)(vs:List DK):Prop :=
 ∀(A:EV) (E:DK->DP->Prop) (R:List DK->DP->Prop),(∀h1,(∀b o,s.heap.get? b=some o->h1.get? b=some o)->s.heap.objs.size<=h1.objs.size->R vs { s with heap:=h1 })->Ee (Es prog w) A (collect v) R E s
theorem rV {v:DK}{vs:List DK}{Q:DK->DP->Prop}(hv:lJ prog w s v vs)(hz:vs.length<=D3)(C:kK prog w s vs O key)
  (h:∀(h':Heap) (p:Addr) (out:List DK) (n:Nat),(∀b o,s.heap.get? b=some o->h'.get? b=some o)->s.heap.objs.size<=p->h'.get? p=some (seqObj "list" out.toArray n)->out.Perm vs->out.Pairwise (λx y=>O.kle (key x) (key y))->Q (.ref p) { s with heap:=h' }) :
  Ee (Es prog w) A (call (.builtin "sorted") [v]) Q E s:=by
 refine Iy MZ Mv Mw (Mx _) ?_
 unfold Builtin.«sorted»
 refine DH (m:=checkCount "sorted" 1 1 _) (DN ?_)
 refine DH (hv _ _ _ λh1 k1 z1=>DH (Jx ?_ hz))
 have hoL:(h1.push (seqObj "list" vs.toArray 0)).get? h1.objs.size=some (seqObj "list" vs.toArray 0):=D2 _ rfl
 have kL:∀b o,s.heap.get? b=some o->(h1.push (seqObj "list" vs.toArray 0)).get? b=some o:=λb o e=>DJ _ (k1 b o e)
 refine DH (Fb (E8 slot_list_sort ⟨_,hoL,rfl⟩ entry_list_sort (eE (key:=key) (O:=O) hoL hz (λh2 h6 k6 =>?_) λout pm ps=>⟨_,rfl,?_⟩) (Lx _)))
 ·exact C.ok h2 _ h6 λb o e=>k6 b o (Ed (Ec (D4 e) z1)) (kL b o e)
 ·obtain ⟨n,en⟩:=L3 (out:=out.toArray) hoL
  refine DN ⟨_,rfl,h _ _ out n (λb o e =>?_) z1 en pm ps⟩
  have lt:=Ec (D4 e) z1
  rw[Ly (Ed lt) (by rw[Mq];exact FG lt)]
  exact kL b o e
theorem iT {l:Addr}{o:Obj}{vs:List DK}{n:Nat}(ho:s.heap.get? l=some o)(hc:o.cls = .type "list" \/ o.cls = .type "tuple")(hd:o.data = .seq vs.toArray n)(hz:vs.length<=D3):lJ prog w s (.ref l) vs:=by
  intro A E R h
  unfold collect
  refine DH (Jj (ES entry_proto_collect' ?_))
  show Ee _ _ (do again (.builtin "list.__iadd__" ⟨[<- newList [],.ref l],[]⟩)) _ _ s
  refine DH (Jx (DN ⟨IY _ (by decide +kernel),ES entry_list_iadd' ?_⟩))
  show Ee _ _ (Fy (.ref s.heap.objs.size) (.ref l) (.ref s.heap.objs.size)) _ _ { s with heap:=s.heap.push (seqObj "list" #[] 0) }
  unfold Fy
  have ho':(s.heap.push (seqObj "list" #[] 0)).get? l=some o:=DJ _ ho
  have cond:∀T,o.cls = .type T->(T = "list" \/ T = "tuple")->Ee (Es prog w) A (typeOf (.ref l)) (λt s'=>t = .type T/\s'={ s with heap:=s.heap.push (seqObj "list" #[] 0) }) E { s with heap:=s.heap.push (seqObj "list" #[] 0) }:=λT e _=>Hz (T:=T) ⟨o,ho',e⟩ ⟨rfl,rfl⟩
  obtain ⟨T,eT,hT⟩:∃T,o.cls = .type T/\(T = "list" \/ T = "tuple"):=by
    rcases hc with hc | hc
    · exact ⟨_,hc,.inl rfl⟩
    · exact ⟨_,hc,.inr rfl⟩
  refine DH (Hz (T:=T) ⟨o,ho',eT⟩ ?_)
  rw[if_pos (by rcases hT with rfl | rfl <;> simp)]
  refine DH (Mu ho' hd ?_)
  refine DH (Mu (xs := #[]) (n:=0) (D2 _ rfl) rfl ?_)
  rw[if_neg (by simp)]
  refine DH (L0 (xs := #[]) (n:=0) (D2 _ rfl) rfl ?_ (EB _) (by show (#[]++vs.toArray).size<=D3+1;simp only[Iq,DR,G2];lia))
  refine DN ?_
  show Ee (Es prog w) A (do
      let o ← load s.heap.objs.size
      match o.data with
      | .seq xs _=>pure xs.toList
      | _=>unsupported "internal:collect") R E { s with heap:=(s.heap.push (seqObj "list" #[] 0)).update s.heap.objs.size (F8 (· ++ vs.toArray)) }
  refine DH (Mo (get?_update_seq (D2 _ rfl) _) ?_)
  show Ee _ _ (pure ((#[]:Array DK)++vs.toArray).toList) R E _
  rw[show ((#[]:Array DK)++vs.toArray).toList=vs by simp]
  refine DN (h _ (λb ob e =>?_) ?_)
  · rw[LB _ _ _ _ (Ed (D4 e))]
    exact DJ _ e
  · rw[Heap.size_update,Mq]
    exact Kg _
end
def xN:Jm where
 α:=Int
 blt:=λa b=>decide (a<b)
 irrefl:=λa=>by simp
 trans:=λa b c h1 h2=>by simp at *;lia
 negTrans:=λa b c h=>by simp at *;lia
 total:=λa b h1 h2=>by simp at *;lia
theorem lex_irrefl:∀a,HT.lexLt a a=false
 | []=>rfl
 | x :: xs=>by rw[HT.cH,if_pos rfl];exact lex_irrefl xs
theorem lex_trans:∀a b c,HT.lexLt a b=true->HT.lexLt b c=true->HT.lexLt a c=true
 | [],[],_,h,_=>by cases h
 | [],_ :: _,[],_,h=>by cases h
 | [],_ :: _,_ :: _,_,_=>rfl
 | _ :: _,[],_,h,_=>by cases h
 | _ :: _,_ :: _,[],_,h=>by cases h
 | x :: xs,y :: ys,z :: zs,h1,h2=>by
  rw[HT.cH] at *
  by_cases e1:x=y
  ·subst e1
   rw[if_pos rfl] at h1
   by_cases e2:x=z
   ·rw[if_pos e2] at h2 ⊢
    exact lex_trans xs ys zs h1 h2
   ·rw[if_neg e2] at h2 ⊢
    exact h2
  ·rw[if_neg e1] at h1
   have l1:=of_decide_eq_true h1
   by_cases e2:y=z
   ·subst e2
    rw[if_neg e1]
    exact h1
   ·rw[if_neg e2] at h2
    have l2:=of_decide_eq_true h2
    rw[if_neg (by omega)]
    exact decide_eq_true (by omega)
theorem df:∀a b,HT.lexLt a b=false->HT.lexLt b a=false->a=b
 | [],[],_,_=>rfl
 | [],_ :: _,h,_=>by cases h
 | _ :: _,[],_,h=>by cases h
 | x :: xs,y :: ys,h1,h2=>by
  rw[HT.cH] at *
  by_cases e:x=y
  ·subst e
   rw[if_pos rfl] at h1 h2
   rw[df xs ys h1 h2]
  ·rw[if_neg e] at h1
   rw[if_neg (Ft e)] at h2
   have a1:=of_decide_eq_false h1
   have a2:=of_decide_eq_false h2
   omega
theorem zP (a b c:List Int)(h:HT.lexLt a c=true):HT.lexLt a b=true\/HT.lexLt b c=true:=by
 cases h1:HT.lexLt a b with
 | true=>exact .inl rfl
 | false =>
  right
  cases h2:HT.lexLt b a with
  | true=>exact lex_trans b a c h2 h
  | false=>rw[<- df a b h1 h2];exact h
def lexOrd:Jm where
 α:=List Int
 blt:=HT.lexLt
 irrefl:=lex_irrefl
 trans:=lex_trans
 negTrans:=zP
 total:=df
def intOf:DK->Int
 | .int i _=>i
 | _=>0
section
variable  {prog:D9}{w:EE}{A:EV}{E:DK->DP->Prop}{s:DP}
theorem iU:∀{vs:List DK} {ns:List Int},Gh vs ns->∀v∈vs,∃i t,v = .int i t
 | _,_,.nil,v,h=>by cases h
 | _,_,.cons n t r,v,h=>by
  rcases Eg.mp h with e | e
  ·exact ⟨n,t,e⟩
  ·exact iU r v e
theorem pq {vs:List DK}{ns:List Int}(hI:Gh vs ns):kK prog w s vs xN intOf:=by
 refine ⟨λh2 A h6 _=>⟨oneType',λQ E q =>?_,⟨λE st x y Q hk hx hy q =>?_⟩⟩⟩
 ·match vs,h2,hI with
  | v1 :: v2 :: rest,_,hI =>
   rw[keyKind_ints hI]
   exact DN q
  | [],h2,_=>simp at h2
  | [_],h2,_=>simp at h2
 ·obtain ⟨i,t,e1⟩:=iU hI _ hx.2
  obtain ⟨j,u,e2⟩:=iU hI _ hy.2
  rw[lt'_eq]
  refine Eb (JH ?_)
  rw[hk,keyLt'_oneType,e1,e2]
  refine Eb (JR (GG (oneLt_int ⟨rfl,?_⟩)))
  refine Ej ?_
  have q':Q (some (decide (intOf x.1<intOf y.1))) st:=q
  rw[e1,e2] at q'
  exact q'
def cF (h:Heap)(v:DK):List Int:=match v with
 | .ref p=>match h.get? p with
  | some o=>match o.data with
   | .seq xs _=>xs.toList.map intOf
   | _=>[]
  | none=>[]
 | _=>[]
def bX (h:Heap)(v:DK)(ns:List Int):Prop:=∃p o xs n,v = .ref p/\h.get? p=some o/\o.cls = .type "tuple" /\ o.data = .seq xs n/\Gh xs.toList ns
theorem ints_map:∀{vs:List DK} {ns:List Int},Gh vs ns->vs.map intOf=ns
 | _,_,.nil=>rfl
 | _,_,.cons n t r=>by rw[Ew,ints_map r];rfl
theorem bX.ints {h:Heap}{v:DK}{ns:List Int}(x:bX h v ns):cF h v=ns:=by
 obtain ⟨p,o,xs,n,rfl,e,_,d,r⟩:=x
 unfold cF
 dsimp only
 rw[e]
 dsimp only
 rw[d]
 exact ints_map r
theorem bX.keeps {h h':Heap}{v:DK}{ns:List Int}(x:bX h v ns)(k:∀b o,h.get? b=some o->h'.get? b=some o):bX h' v ns:=by
 obtain ⟨p,o,xs,n,rfl,e,r⟩:=x
 exact ⟨p,o,xs,n,rfl,k _ _ e,r⟩
theorem qw {fin:Bool}{Q:Bool->DP->Prop}:∀{us ws:List DK} {ns ms:List Int} (i:Nat),Gh us ns->Gh ws ms->(fin=true↔(decide (ns.length<ms.length)=true))->Q (HT.lexLt ns ms) s →
  PySem.W.KatLex prog w A true fin Q (us.zip ws) i s
 | _,_,_,_,i,.nil,.nil,hf,q=>by
  refine JD ?_
  have e:fin=false:=by cases fin with
   | false=>rfl
   | true=>have:=hf.mp rfl;simp at this
  rw[e];exact q
 | _,_,_,_,i,.nil,.cons _ _ _,hf,q=>by
  refine JD ?_
  have e:fin=true:=hf.mpr (by simp)
  rw[e];exact q
 | _,_,_,_,i,.cons _ _ _,.nil,hf,q=>by
  refine JD ?_
  have e:fin=false:=by cases fin with
   | false=>rfl
   | true=>have:=hf.mp rfl;simp at this
  rw[e];exact q
 | _,_,_,_,i,.cons (ns:=ns) a t r,.cons (ns:=ms) c u r',hf,q=>by
  rw[IU]
  refine Ku (wpAny_eqBool_int ?_)
  rw[HT.cH] at q
  by_cases e:a=c
  ·rw[if_pos e] at q
   rw[beq_iff_eq.mpr e]
   exact K3 (qw (i+1) r r' (by rw[hf];simp) q)
  ·rw[if_neg e] at q
   rw[beq_eq_false_iff_ne.mpr e]
   refine Lu ?_
   by_cases i0:(true && i == 0)=true
   ·rw[i0]
    exact oneLt_int q
   ·rw[GX.mpr i0,oneLt'_eq]
    simp only[Ei,if_false]
    refine DH (HT.qp _ _ a t c u prog w _ _ ?_)
    exact Gm q
theorem lK {h:Heap}:∀{vs:List DK},(∀v∈vs,∃ns,bX h v ns/\ns≠[])->∃fs,PySem.W.KatTups h vs fs/\fs.length=vs.length/\∀f∈fs,∃i t,f = .int i t
 | [],_=>⟨[],trivial,rfl,λf hf=>by cases hf⟩
 | v :: vs,hv=>by
  obtain ⟨fs,t,l,hf⟩:=lK λu hu=>hv u (Em _ hu)
  obtain ⟨ns,⟨p,o,xs,n,rfl,e,c,d,r⟩,ne⟩:=hv v En
  have hx:∃i t,xs[0]? = some (.int i t):=by
   rw[<- D7]
   generalize xs.toList=l at r
   cases r with
   | nil=>exact absurd rfl ne
   | cons i t r=>exact ⟨i,t,rfl⟩
  obtain ⟨i,t',hx⟩:=hx
  exact ⟨.int i t' :: fs,Lk e c d hx t,by rw[Eu,Eu,l],λf hf'=>by
   rcases Eg.mp hf' with q | q
   ·exact ⟨i,t',q⟩
   ·exact hf f q⟩
theorem iV {vs:List DK}(hv:∀v∈vs,∃ns,bX s.heap v ns/\ns≠[]):kK prog w s vs lexOrd (cF s.heap):=by
 refine ⟨λh2 A h6 k6=>⟨tuples' true,λQ E q =>?_,⟨λE st x y Q hk hx hy q =>?_⟩⟩⟩
 ·obtain ⟨fs,t,l,hf⟩:=lK (h:=h6) (vs:=vs) λv hv'=>by
   obtain ⟨ns,i,ne⟩:=hv v hv'
   exact ⟨ns,i.keeps k6,ne⟩
  refine ME (T :=.type "int") t (by lia) (λf hf' =>?_) rfl q
  obtain ⟨i,t',rfl⟩:=hf f hf'
  exact Nq rfl
 ·obtain ⟨ns,i1,_⟩:=hv _ hx.2
  obtain ⟨ms,i2,_⟩:=hv _ hy.2
  have q':Q (some (HT.lexLt (cF s.heap x.1) (cF s.heap y.1))) st:=q
  rw[i1.ints,i2.ints] at q'
  obtain ⟨p1,o1,xs1,n1,e1,g1,c1,d1,r1⟩:=i1.keeps k6
  obtain ⟨p2,o2,xs2,n2,e2,g2,c2,d2,r2⟩:=i2.keeps k6
  rw[lt'_eq]
  refine Eb (JH ?_)
  rw[hk,e1,e2]
  have l1:=r1.length
  have l2:=r2.length
  refine Eb (JR (GG (Na g1 d1 g2 d2 (qw 0 r1 r2 ?_ ⟨rfl,?_⟩))))
  ·rw[<- l1, <- l2,DY,DY]
  ·exact Ej q'
end
end Srt
namespace L2
open PySem PySem.Spec PyProof.Rows
theorem ig {α β:Type}{f:α -> β}:∀{l:List β} {m:List α},l.Perm (m.map f)->∃m':List α,m'.Perm m/\l=m'.map f:=by
 intro l m h
 generalize hk:m.map f=k at h
 induction h generalizing m with
 | nil =>
  have:m=[]:=List.map_eq_nil_iff.mp hk
  exact ⟨[],by rw[this],rfl⟩
 | cons x _ ih =>
  match m,hk with
  | y :: m,hk =>
   rw[Ew] at hk
   injection hk with h1 h2
   obtain ⟨m',p,e⟩:=ih h2
   exact ⟨y :: m',p.cons y,by rw[Ew, <- e,h1]⟩
  | [],hk=>cases hk
 | swap x y l =>
  match m,hk with
  | a :: b :: m,hk =>
   rw[Ew,Ew] at hk
   injection hk with h1 h2
   injection h2 with h2 h3
   exact ⟨b :: a :: m,List.Perm.swap a b m,by rw[Ew,Ew,h1,h2,h3]⟩
  | [],hk=>cases hk
  | [_],hk=>simp at hk
 | trans _ _ ih1 ih2 =>
  obtain ⟨m',p,e⟩:=ih2 hk
  obtain ⟨m'',p',e'⟩:=ih1 e.symm
  exact ⟨m'',p'.trans p,e'⟩
theorem cv:∀{ns:List Int} {us:List DK},Vals (ns.map V.int) us->Gh us ns:=λr=>intsAre_of r
theorem iW:∀{us:List DK} {ns:List Int},Gh us ns->Vals (ns.map V.int) us:=λr=>jt r
theorem gM:∀{us:List DK},(∀u∈us,∃i t,u=FT i t)->Gh us (us.map Srt.intOf)
 | [],_ =>.nil
 | u :: us,h=>by
  obtain ⟨i,t,e⟩:=h u En
  subst e
  exact .cons i t (gM λv hv=>h v (Em _ hv))
theorem eR:∀{α:Type} {f:α -> Addr} {ps:List α} {us:List DK},Vals (ps.map λx=>V.ref (f x)) us->us=ps.map λx=>D8 (f x)
 | _,_,[],_,r=>by cases r;rfl
 | _,f,p :: ps,_,r=>by
  cases r with
  | cons h t=>rw[Ew, <- eR t,show _=D8 (f p) from h]
theorem eU {α:Type}{f:α -> Addr}:∀{ps:List α},Vals (ps.map λx=>V.ref (f x)) (ps.map λx=>D8 (f x))
 | [] =>.nil
 | p :: ps =>.cons rfl eU
section
variable  {X:Cx}
theorem Inv.qy {pins:List (Addr×Obj)}{σ:St}{H:Hp}{s:DP}{p:Addr}{ys:List V}(I:Inv X pins σ H s)(h:SqL X.K H p ys\/SqT X.K H p ys) :
  ∃(its:List DK) (o:Obj) (n:Nat),Vals ys its/\s.heap.get? p=some o/\(o.cls = .type "list" \/ o.cls = .type "tuple")/\o.data = .seq its.toArray n/\ys.length<=D3:=by
 rcases h with h | h
 ·obtain ⟨its,r,⟨o,n,e,c,_,d⟩,z⟩:=I.list h
  exact ⟨its,o,n,r,e,.inl c,d,z⟩
 ·obtain ⟨its,r,⟨o,e,c,n,d⟩,z⟩:=I.tuple h
  exact ⟨its,o,n,r,e,.inr c,d,z⟩
theorem Inv.newList {pins:List (Addr×Obj)}{σ:St}{H:Hp}{s:DP}{h':Heap}{p:Addr}{ys:List V}{its:List DK}{n:Nat}(I:Inv X pins σ H s)(k:∀b o,s.heap.get? b=some o->h'.get? b=some o)(hp:s.heap.objs.size<=p)
  (e:h'.get? p=some { cls :=.type "list",data :=.seq its.toArray n }) (r:Vals ys its) (hz:ys.length<=D3):Inv X pins σ (upd H p (.lst ys)) { s with heap:=h' } :=
 I.laid (t':=s.toks) k hp ⟨hz,its,n,r,e⟩
theorem iX:bH X (.builtin "sorted") (λxs H Q=>∃(p:Addr) (ts:List (Addr×List Int)),xs=[.ref p]/\(SqL X.K H p (ts.map λt =>.ref t.1)\/SqT X.K H p (ts.map λt =>.ref t.1))/\(∀t∈ts,SqT X.K H t.1 (t.2.map V.int)/\t.2≠[]) ∧
  ∀(l:Addr) (out:List (Addr×List Int)),H l=none->out.Perm ts->out.Pairwise (λa b=>HT.lexLt b.2 a.2=false)->Q (.ref l) (upd H l (.lst (out.map λt =>.ref t.1)))):=by
 intro pins s σ H xs us Q I r h
 obtain ⟨p,ts,rfl,hs,ht,q⟩:=h
 obtain ⟨u,rfl,ru⟩:=vals1 r
 cases (show u=D8 p from ru)
 obtain ⟨its,o,n,rv,e,c,d,z⟩:=I.qy hs
 have ei:=eR rv
 have lz:its.length<=D3:=by rw[<- rv.length];exact z
 have tup:∀t∈ts,Srt.bX s.heap (D8 t.1) t.2:=λt hm=>by
  obtain ⟨jts,jr,⟨jo,je,jc,jn,jd⟩,_⟩:=I.tuple (ht t hm).1
  exact ⟨t.1,jo,_,jn,rfl,je,jc,jd,by simpa using cv jr⟩
 have hv:∀v∈its,∃ns,Srt.bX s.heap v ns/\ns≠[]:=λv hv=>by
  rw[ei] at hv
  obtain ⟨t,hm,rfl⟩:=DZ.mp hv
  exact ⟨t.2,tup t hm,(ht t hm).2⟩
 refine Srt.rV (Srt.iT e c d lz) lz (Srt.iV hv) λh' l out m k hl el pm ps =>?_
 rw[ei] at pm
 obtain ⟨out',pm',rfl⟩:=ig pm
 refine ⟨.ref l,_,I.newList k hl el eU (by rw[DI,pm'.length_eq, <- DI (f:=λt:Addr×List Int=>V.ref t.1)];exact z),rfl,q l _ (I.hok.fresh hl) pm' ?_⟩
 refine (EN.mp ps).imp_of_mem λ{a b} ha hb le =>?_
 have le':HT.lexLt (Srt.cF s.heap (D8 b.1)) (Srt.cF s.heap (D8 a.1))=false:=le
 rw[(tup a (pm'.mem_iff.mp ha)).ints,(tup b (pm'.mem_iff.mp hb)).ints] at le'
 exact le'
end
def qz (a b:List Int):Prop:=HT.lexLt b a=false
theorem lM:∀{l m:List (List Int)},l.Perm m->l.Pairwise qz->m.Pairwise qz->l=m
 | [],m,p,_,_=>(List.Perm.nil_eq p)
 | a :: l,[],p,_,_=>absurd p.length_eq (by simp)
 | a :: l,b :: m,p,h1,h2=>by
  have e:a=b:=by
   have ha:a∈b :: m:=p.mem_iff.mp En
   have hb:b∈a :: l:=p.mem_iff.mpr En
   rcases Eg.mp ha with z | z
   ·exact z
   rcases Eg.mp hb with y | y
   ·exact y.symm
   have q1:=(Gs.mp h1).1 b y
   have q2:=(Gs.mp h2).1 a z
   exact Srt.df a b q2 q1
  subst e
  rw[lM ((List.perm_cons a).mp p) (Gs.mp h1).2 (Gs.mp h2).2]
section
variable  {X:Cx}{tg:Expr}
def iSeq (K:DM)(tl:TE):TI:=λσ H R=>tl σ H λx H1=>∃a,x = .ref a/\(((∃xs,SqL K H1 a xs)/\R (Itl K a) H1)\/((∃xs,SqT K H1 a xs)/\R (Itt K a) H1))
theorem B7 {l:Expr}{tl:TE}(hl:PE X l tl):PI X tg l (iSeq X.K tl):=by
 intro pins s σ H R I h;refine thn (hl pins s σ H _ I h) λv s1 ⟨x,H1,I1,r1,q1⟩ =>?_
 obtain ⟨a,e,q1⟩:=q1
 subst e
 cases r1
 have fp:∀b∈[s1.heap.objs.size],iH X pins H1 b:=λb hb=>by
  have e:b=s1.heap.objs.size:=by simpa using hb
  rw[e];exact I1.vg (DS _) (I1.hok.fresh (DS _))
 rcases q1 with ⟨⟨xs,hq⟩,q⟩ | ⟨⟨xs,hq⟩,q⟩
 ·obtain ⟨its,rv,p,hz⟩:=I1.list hq;refine GZ p.isList ?_
  exact ⟨s1.heap.objs.size,_,_,_,H1,rfl,I1.kept (t':=s1.toks) (λb o e=>DJ _ e),nX a _,⟨_,D2 _ rfl,rfl,rfl⟩,fp,q⟩
 ·obtain ⟨its,rv,p,hz⟩:=I1.tuple hq;refine GL (show s1.heap.IsTuple a its.toArray from p) ?_
  exact ⟨s1.heap.objs.size,_,_,_,H1,rfl,I1.kept (t':=s1.toks) (λb o e=>DJ _ e),k8 a _,⟨_,D2 _ rfl,rfl,rfl⟩,fp,q⟩
end
theorem vF {K:DM}{a:Addr}{xs:List V}{k:Nat}{tc:TT}{te:TE}{τ:St}{H:Hp}{Q:VK}(Pv:Nat->List V->Hp->Prop)(hp:H a=some (.lst xs)\/H a=some (.tup xs))(h0:Pv 0 [] H)(hz:xs.length<=D3)
  (hl:∀i ys H',Pv i ys H'->H' a=H a) (hs:∀i x ys H,xs[i]? = some x->ys.length<=i->Pv i ys H->tW k tc te τ Pv i x ys H)
  (hd:∀ys H,ys.length<=xs.length->Pv xs.length ys H->∀l,H l=none->Q (.ref l) (upd H l (.lst ys))) :
  ((∃xs,SqL K H a xs)/\iO (Itl K a) (fR k) tc te τ Q H)\/((∃xs,SqT K H a xs)/\iO (Itt K a) (fR k) tc te τ Q H):=by
 rcases hp with hp | hp
 ·exact .inl ⟨⟨_,SqL.of hp⟩,aW Pv h0 hz (λi ys H' _ z=>SqL.of ((hl i ys H' z).trans hp)) hs hd⟩
 ·exact .inr ⟨⟨_,SqT.of hp⟩,gH Pv h0 hz (λi ys H' _ z=>SqT.of ((hl i ys H' z).trans hp)) hs hd⟩
theorem lO {X:Cx}{K:DM}{x y:Str}{i j k:Nat}{p p' pos:Pos}(hN:X.N.Nodup)(hi:X.N[i]? = some x)(hj:X.N[j]? = some y)(hx:Loc X.env.scope x)(hy:Loc X.env.scope y)(hc:X.calm=true:=by rfl)(h:X.K=K:=by rfl)
  (hf:X.fn x=true\/X.env.scope.names.lookup x=some .local:=by first | exact .inl rfl | exact .inr rfl) (hg:X.fn y=true\/X.env.scope.names.lookup y=some .local:=by first | exact .inl rfl | exact .inr rfl):PG X (.Tuple [.Name x p,.Name y p'] k pos) (tX K i j):=by
 subst h
 exact o7 hc (dk (aB hN hi hx hf) (dk (aB hN hj hy hg) kG))
end L2
namespace STab
open PySem PySem.SetTable
def pA (xs:Array Nat):Prop:=∀i j a b:Nat,xs[i]? = some a->xs[j]? = some b->i<j->a<b
theorem xO {xs:Array Nat}(R:pA xs)(j:Nat):∀(fuel lo hi:Nat),lo<=hi->hi<=xs.size->hi-lo<=fuel →
  (∀i a,i<lo->xs[i]? = some a->a<j)->(∀i a,hi<=i->xs[i]? = some a->j<=a) →
  below.go xs j fuel lo hi<=xs.size/\(∀i a,xs[i]? = some a->(i<below.go xs j fuel lo hi↔a<j)):=by
 intro fuel
 induction fuel with
 | zero =>
  intro lo hi h1 h2 h3 h4 h5
  unfold below.go
  refine ⟨by lia,λi a e=>⟨λq=>h4 i a q e,λq =>?_⟩⟩
  apply Ia
  intro q2
  have:=h5 i a (by lia) e
  lia
 | succ fuel ih =>
  intro lo hi h1 h2 h3 h4 h5
  unfold below.go
  by_cases hl:lo<hi
  ·rw[if_pos hl]
   dsimp only
   have hm:(lo+hi)/2<xs.size:=by lia
   have em:xs[(lo+hi)/2]? = some xs[(lo+hi)/2]:=Ep hm
   have eg:xs.getD ((lo+hi)/2) j=xs[(lo+hi)/2]:=by simp[Array.getD,hm]
   rw[eg]
   by_cases hc:xs[(lo+hi)/2]<j
   ·rw[if_pos hc]
    refine ih _ _ (by lia) h2 (by lia) (λi a q e =>?_) h5
    by_cases q2:i=(lo+hi)/2
    ·rw[q2,em] at e;cases e;exact hc
    ·exact Nat.lt_trans (R i _ _ _ e em (by lia)) hc
   ·rw[if_neg hc]
    refine ih _ _ (by lia) (by lia) (by lia) h4 (λi a q e =>?_)
    by_cases q2:i=(lo+hi)/2
    ·rw[q2,em] at e;cases e;lia
    ·have:=R _ i _ _ em e (by lia)
     lia
  ·rw[if_neg hl]
   refine ⟨by lia,λi a e=>⟨λq=>h4 i a q e,λq =>?_⟩⟩
   apply Ia
   intro q2
   have:=h5 i a (by lia) e
   lia
theorem dI {xs:Array Nat}(R:pA xs)(j:Nat):below xs j<=xs.size/\∀i a,xs[i]? = some a->(i<below xs j↔a<j) :=
 xO R j _ _ _ (EB _) (DS _) (by lia) (λi a h=>by lia) λi a h e=>by
  rw[G9 (by lia)] at e;cases e
theorem below_at {xs:Array Nat}(R:pA xs){i j:Nat}(h:xs[i]? = some j):below xs j=i:=by
 obtain ⟨h1,h2⟩:=dI R j
 have hi:i<xs.size:=by
  apply Ia;intro q;rw[G9 q] at h;cases h
 have a1:¬ i<below xs j:=λq=>by have:=(h2 i j h).mp q;lia
 apply IW (by lia)
 apply Jn
 intro q
 have e:=Ep (xs:=xs) (i:=below xs j) (by lia)
 have l1:=R _ _ _ _ e h q
 have:=(h2 _ _ e).mpr l1
 lia
theorem rW {xs:Array Nat}(R:pA xs){i j:Nat}(h:xs[i]? = some j):below xs (j+1)=i+1:=by
 obtain ⟨h1,h2⟩:=dI R (j+1)
 have a1:i<below xs (j+1):=(h2 i j h).mpr (by lia)
 apply IW _ a1
 apply Jn
 intro q
 have hk:i+1<xs.size:=by lia
 have e:=Ep (xs:=xs) hk
 have l1:=R _ _ _ _ h e (by lia)
 have:=(h2 _ _ e).mp q
 lia
theorem rX {xs:Array Nat}(R:pA xs):below xs 0=0:=by
 obtain ⟨h1,h2⟩:=dI R 0
 apply IW _ (EB _)
 apply Jn
 intro q
 have:=(h2 0 _ (Ep (by lia))).mp q
 lia
theorem bZ {α:Type}(xs:Array α)(p:Nat)(x:α):(insertAt xs p x).toList=xs.toList.take p++x :: xs.toList.drop p:=by
 unfold insertAt
 simp
 rw[D5 (by simp)]
theorem cw {α:Type}(xs:Array α){p:Nat}(hp:p<=xs.size)(x:α)(i:Nat) :
  (insertAt xs p x)[i]? = if i<p then xs[i]? else if i=p then some x else xs[i-1]? := by
 rw[<- D7,bZ]
 have hl:(xs.toList.take p).length=p:=by rw[EF,DY];lia
 by_cases h1:i<p
 ·rw[if_pos h1,EH (by lia),Gv,if_pos h1,D7]
 ·rw[if_neg h1,EY (by lia),hl]
  by_cases h2:i=p
  ·rw[if_pos h2,h2,Nat.sub_self];rfl
  ·rw[if_neg h2]
   obtain ⟨d,hd⟩:∃d,i-p=d+1:=⟨i-p-1,by lia⟩
   rw[hd,GU,FK,D7]
   congr 1;lia
theorem cC {α:Type}(xs:Array α)(p:Nat)(x:α):(insertAt xs p x).size=xs.size+1:=by
 rw[<- DY,bZ,DT,Eu,EF,Ez,DY]
 lia
theorem insertAt_perm {α:Type}(xs:Array α)(p:Nat)(x:α):(insertAt xs p x).toList.Perm (x :: xs.toList):=by
 rw[bZ]
 exact Ks.trans (by rw[FP])
theorem fA {α β:Type}(xs:Array α)(p:Nat)(x:α)(f:α -> β):(insertAt xs p x).map f=insertAt (xs.map f) p (f x):=by
 apply IA.mp
 rw[Jp,bZ,bZ,Jp,DU,Ew,IZ,HX]
theorem nE {xs:Array Nat}(R:pA xs){j:Nat}(hj:∀i:Nat,xs[i]? ≠ some j):pA (insertAt xs (below xs j) j):=by
 obtain ⟨h1,h2⟩:=dI R j
 intro a b x y ea eb hab
 rw[cw _ h1] at ea eb
 by_cases a1:a<below xs j
 ·rw[if_pos a1] at ea
  have:=(h2 _ _ ea).mp a1
  by_cases b1:b<below xs j
  ·rw[if_pos b1] at eb;exact R _ _ _ _ ea eb hab
  ·rw[if_neg b1] at eb
   by_cases b2:b=below xs j
   ·rw[if_pos b2] at eb;cases eb;exact this
   ·rw[if_neg b2] at eb
    exact R _ _ _ _ ea eb (by lia)
 ·rw[if_neg a1] at ea
  rw[if_neg (by lia),if_neg (by lia)] at eb
  have l1:¬ y<j:=λq=>by have:=(h2 _ _ eb).mpr q;lia
  by_cases a2:a=below xs j
  ·rw[if_pos a2] at ea;cases ea
   have:y≠j:=λq=>hj _ (q ▸ eb)
   lia
  ·rw[if_neg a2] at ea
   exact R _ _ _ _ ea eb (by lia)
def occ (t:SetTable)(j:Nat):Prop:=∃i:Nat,t.place[i]? = some j
theorem ju {t:SetTable}(R:pA t.place){i j:Nat}(h:t.place[i]? = some j):t.slot j = .live i:=by
 unfold SetTable.slot
 dsimp only
 rw[below_at R h,h]
 simp
theorem rY {t:SetTable}(D:t.dummies = #[]){j:Nat}(h:¬ occ t j):t.slot j = .empty:=by
 unfold SetTable.slot
 dsimp only
 have h1:(t.place[below t.place j]? == some j)=false:=by
  rw[beq_eq_false_iff_ne];exact λq=>h ⟨_,q⟩
 rw[h1,D]
 simp[has]
def adv (mask:Nat)(p:Probe):Probe :=
 if p.more>0 then { p with j:=p.j+1,more:=p.more-1 } else
 let (i,perturb):=leap mask p.i p.perturb
 { p with j:=i,more:=runEnd mask i-i,i,perturb }
def dy (mask i perturb:Nat):Probe:={ j:=i,more:=runEnd mask i-i,i,perturb,dummy:=none }
def start (mask:Nat)(h:Int):Probe:=dy mask (bits h%(mask+1)) (bits h)
inductive Way (oc:Nat->Prop)(mask:Nat):Nat->Probe->Probe->Prop
 | here (p:Probe):Way oc mask 0 p p
 | step {n:Nat} {p q:Probe}:oc p.j->Way oc mask n (adv mask p) q->Way oc mask (n+1) p q
theorem Way.mono {oc oc':Nat->Prop}{mask n:Nat}{p q:Probe}(m:∀j,oc j->oc' j)(h:Way oc mask n p q):Way oc' mask n p q:=by
 induction h with
 | here p=>exact .here p
 | step a _ ih=>exact .step (m _ a) ih
theorem Way.dummy {oc:Nat->Prop}{mask n:Nat}{p q:Probe}(h:Way oc mask n p q):q.dummy=p.dummy:=by
 induction h with
 | here p=>rfl
 | @step n p q _ _ ih =>
  rw[ih];unfold adv;split <;> rfl
theorem B8 {mask:Nat}{p:Probe}(h:p.j+p.more<=mask):(adv mask p).j+(adv mask p).more<=mask:=by
 unfold adv
 split
 ·dsimp only;lia
 ·dsimp only[leap]
  have:(p.i*5+1+p.perturb/32)%(mask+1)<mask+1:=Jf _ (IP mask)
  unfold runEnd
  split <;> lia
theorem qA (mask:Nat)(h:Int):(start mask h).j+(start mask h).more<=mask:=by
 unfold start dy
 dsimp only
 have:bits h%(mask+1)<mask+1:=Jf _ (IP mask)
 unfold runEnd
 split <;> lia
theorem Way.le {oc:Nat->Prop}{mask n:Nat}{p q:Probe}(h:Way oc mask n p q):p.j+p.more<=mask->q.j<=mask:=by
 induction h with
 | here p=>intro;lia
 | step _ _ ih=>intro h;exact ih (B8 h)
def pB (mask:Nat):Nat->Probe->Probe
 | 0,p=>p
 | n+1,p=>pB mask n (adv mask p)
theorem qB (mask:Nat):∀(a b:Nat) (p:Probe),pB mask (a+b) p=pB mask b (pB mask a p)
 | 0,b,p=>by rw[Hy];rfl
 | a+1,b,p=>by rw[show a+1+b=(a+b)+1 by lia];exact qB mask a b (adv mask p)
theorem vG (oc:Nat->Prop)(mask:Nat):∀(n:Nat) (p:Probe),¬ oc (pB mask n p).j->∃k q,k<=n/\Way oc mask k p q/\¬ oc q.j:=by
 intro n
 induction n with
 | zero=>intro p h;exact ⟨0,p,DS _,.here p,h⟩
 | succ n ih =>
  intro p h
  by_cases hp:oc p.j
  ·obtain ⟨k,q,a,b,c⟩:=ih (adv mask p) h
   exact ⟨k+1,q,by lia,.step hp b,c⟩
  ·exact ⟨0,p,EB _,.here p,hp⟩
theorem zQ (mask:Nat):∀(m:Nat) (p:Probe),p.more=m->p.dummy=none->pB mask (m+1) p=dy mask (leap mask p.i p.perturb).1 (leap mask p.i p.perturb).2:=by
 intro m
 induction m with
 | zero =>
  intro p h d
  show adv mask p=_
  unfold adv
  rw[if_neg (by lia)]
  obtain ⟨j,mo,i,pe,dm⟩:=p
  cases d
  rfl
 | succ m ih =>
  intro p h d
  show pB mask (m+1) (adv mask p)=_
  have e:adv mask p={ p with j:=p.j+1,more:=p.more-1 }:=by unfold adv;rw[if_pos (by lia)]
  rw[e]
  exact ih _ (by dsimp only;lia) d
def cM (mask:Nat):Nat->Nat×Nat->Nat×Nat
 | 0,x=>x
 | k+1,x=>cM mask k (leap mask x.1 x.2)
theorem oy (mask:Nat):∀(a b:Nat) (x:Nat×Nat),cM mask (a+b) x=cM mask b (cM mask a x)
 | 0,b,x=>by rw[Hy];rfl
 | a+1,b,x=>by rw[show a+1+b=(a+b)+1 by lia];exact oy mask a b _
theorem more_le (mask i:Nat):runEnd mask i-i<=9:=by unfold runEnd;split <;> lia
theorem rZ (mask:Nat):∀(k i pe:Nat),∃n,n<=10*k/\pB mask n (dy mask i pe)=dy mask (cM mask k (i,pe)).1 (cM mask k (i,pe)).2:=by
 intro k
 induction k with
 | zero=>intro i pe;exact ⟨0,by lia,rfl⟩
 | succ k ih =>
  intro i pe
  obtain ⟨n,h1,h2⟩:=ih (leap mask i pe).1 (leap mask i pe).2
  refine ⟨(runEnd mask i-i+1)+n,by have:=more_le mask i;lia,?_⟩
  rw[qB,zQ mask (runEnd mask i-i) (dy mask i pe) rfl rfl]
  exact h2
theorem hV (mask:Nat):∀(k i pe:Nat),(cM mask k (i,pe)).2=pe/32 ^ k
 | 0,i,pe=>by simp[cM]
 | k+1,i,pe=>by
  show (cM mask k (leap mask i pe)).2=_
  rw[show leap mask i pe=((leap mask i pe).1,pe/32) from rfl,hV mask k,Nat.div_div_eq_div_mul,Nat.pow_succ,Nat.mul_comm 32]
theorem qC (mask:Nat):∀(k i pe:Nat),i<=mask->(cM mask k (i,pe)).1<=mask
 | 0,i,pe,h=>h
 | k+1,i,pe,h=>by
  show (cM mask k (leap mask i pe)).1<=mask
  rw[show leap mask i pe=((leap mask i pe).1,pe/32) from rfl]
  exact qC mask k _ _ (HK (Jf _ (IP mask)))
def ste (m i:Nat):Nat:=(i*5+1)%m
def its (m:Nat):Nat->Nat->Nat
 | 0,i=>i
 | n+1,i=>its m n (ste m i)
theorem kM (m:Nat):∀(a b i:Nat),its m (a+b) i=its m b (its m a i)
 | 0,b,i=>by rw[Hy];rfl
 | a+1,b,i=>by rw[show a+1+b=(a+b)+1 by lia];exact kM m a b _
def orb (m:Nat):Nat->Nat->List Nat
 | 0,_=>[]
 | n+1,i=>i :: orb m n (ste m i)
theorem pC (m:Nat):∀(n i j:Nat),j∈orb m n i->∃r,r<n/\its m r i=j
 | 0,i,j,h=>by cases h
 | n+1,i,j,h=>by
  rcases Eg.mp h with h | h
  ·exact ⟨0,by lia,h.symm⟩
  ·obtain ⟨r,a,b⟩:=pC m n _ _ h
   exact ⟨r+1,by lia,b⟩
def whole (m:Nat):Bool:=((EU m).all λj=>(orb m m 0).contains j) && (its m m 0 == 0)
theorem vH {m:Nat}(h:whole m=true){i j:Nat}(hi:i<m)(hj:j<m):∃r,r<m/\its m r i=j:=by
 unfold whole at h
 rw[Fo,Gf,beq_iff_eq] at h
 obtain ⟨h1,h2⟩:=h
 obtain ⟨a,a1,a2⟩:=pC m m 0 i (K4.mp (h1 i (E9.mpr hi)))
 obtain ⟨b,b1,b2⟩:=pC m m 0 j (K4.mp (h1 j (E9.mpr hj)))
 by_cases hab:a<=b
 ·refine ⟨b-a,by lia,?_⟩
  rw[<- a2, <- kM,show a+(b-a)=b by lia]
  exact b2
 ·refine ⟨m+b-a,by lia,?_⟩
  rw[<- a2, <- kM,show a+(m+b-a)=m+b by lia,kM,h2]
  exact b2
theorem B9:whole 8=true:=by decide +kernel
theorem zR:whole 32=true:=by decide +kernel
theorem xP:whole 128=true:=by decide +kernel
theorem xQ:whole 512=true:=by decide +kernel
def Msk (mask:Nat):Prop:=mask=7\/mask=31\/mask=127\/mask=511
theorem Msk.whole {mask:Nat}(h:Msk mask):whole (mask+1)=true:=by
 rcases h with rfl | rfl | rfl | rfl
 ·exact B9
 ·exact zR
 ·exact xP
 ·exact xQ
theorem oz (mask:Nat):∀(r i:Nat),cM mask r (i,0)=(its (mask+1) r i,0)
 | 0,i=>rfl
 | r+1,i=>by
  show cM mask r (leap mask i 0)=_
  rw[show leap mask i 0=(ste (mask+1) i,0) from rfl,oz mask r];rfl
theorem zS (h:Int):bits h<2 ^ 64:=by
 unfold bits
 have h1:=Ii h (show (0:Int)<2 ^ 64 by decide)
 have h0:=Ja h (show (2 ^ 64:Int)≠0 by decide)
 have:((2 ^ 64:Nat):Int)=2 ^ 64:=by decide
 lia
theorem lP {mask:Nat}(hm:Msk mask){h:Int}{j:Nat}(hj:j<=mask):∃k,k<turns mask/\(cM mask k (bits h%(mask+1),bits h)).1=j:=by
 have p0:(cM mask 13 (bits h%(mask+1),bits h)).2=0:=by
  rw[hV]
  exact Nat.div_eq_of_lt (Ec (zS h) (by decide))
 have i0:=qC mask 13 (bits h%(mask+1)) (bits h) (HK (Jf _ (IP mask)))
 obtain ⟨r,r1,r2⟩:=vH hm.whole (i:=(cM mask 13 (bits h%(mask+1),bits h)).1) (j:=j) (by lia) (by lia)
 refine ⟨13+r,by unfold turns;lia,?_⟩
 rw[oy,show cM mask 13 (bits h%(mask+1),bits h)=((cM mask 13 (bits h%(mask+1),bits h)).1,0) from Kf rfl p0,oz]
 exact r2
theorem xR {mask:Nat}(hm:Msk mask)(oc:Nat->Prop)(h:Int){j:Nat}(hj:j<=mask)(he:¬ oc j):∃n q,n<10*turns mask/\Way oc mask n (start mask h) q/\¬ oc q.j/\q.j<=mask/\q.dummy=none:=by
 obtain ⟨k,k1,k2⟩:=lP hm (h:=h) hj
 obtain ⟨n,n1,n2⟩:=rZ mask k (bits h%(mask+1)) (bits h)
 obtain ⟨n',q,a,b,c⟩:=vG oc mask n (start mask h) (by
  show ¬ oc (pB mask n (dy mask _ _)).j
  rw[n2]
  show ¬ oc (cM mask k (bits h%(mask+1),bits h)).1
  rw[k2]
  exact he)
 exact ⟨n',q,by lia,b,c,b.le (qA mask h),b.dummy⟩
theorem oA {mask n:Nat}(oc:Nat->Prop)(f:Nat->Nat)(hf:∀j,j<=mask->oc j->f j<n)(inj:∀i j,i<=mask->j<=mask->oc i->oc j->f i=f j->i=j)(hn:n<=mask):∃j,j<=mask/\¬ oc j:=by
 by_cases q:∃j,j<=mask/\¬ oc j
 ·exact q
 ·exfalso
  have all:∀j,j<=mask->oc j:=λj hj=>by
   by_cases o:oc j
   ·exact o
   ·exact absurd ⟨j,hj,o⟩ q
  have nd:((EU (mask+1)).map f).Nodup:=by
   unfold List.Nodup
   rw[EN]
   refine IQ (λ{a b} ha hb hab e=>hab (inj a b ?_ ?_ (all _ ?_) (all _ ?_) e)) (MF)
   all_goals (rw[E9] at ha hb;lia)
  have:=GI nd (l₂:=EU n) (λx hx=>by
   obtain ⟨j,hj,e⟩:=DZ.mp hx
   rw[E9] at hj ⊢
   rw[<- e]
   exact hf j (by lia) (all j (by lia)))
  rw[DI,GY,GY] at this
  lia
structure Tab (t:SetTable)(hs:Array Int):Prop where
 dm:t.dummies = #[]
 rise:pA t.place
 size:t.place.size=hs.size
 le:∀i j:Nat,t.place[i]? = some j->j<=t.mask
 msk:Msk t.mask
 fit:hs.size<=t.mask
 reach:∀(i j:Nat) (h:Int),t.place[i]? = some j->hs[i]? = some h->∃n q,Way (occ t) t.mask n (start t.mask h) q/\q.j=j
theorem eV {α:Type}{xs:Array α}{i:Nat}{a:α}(h:xs[i]? = some a):i<xs.size:=by
 apply Ia;intro q;rw[G9 q] at h;cases h
theorem Tab.fill {t:SetTable}{hs:Array Int}(T:Tab t hs):t.fill=hs.size:=by
 unfold SetTable.fill;rw[T.dm,T.size];rfl
theorem Tab.fits {t:SetTable}{hs:Array Int}(T:Tab t hs):t.fits hs.size=true:=by
 unfold SetTable.fits
 rw[T.fill,T.size]
 simp[T.fit]
theorem Tab.ends {t:SetTable}{hs:Array Int}(T:Tab t hs)(h:Int):∃n q,n<10*turns t.mask/\Way (occ t) t.mask n (start t.mask h) q/\¬ occ t q.j/\q.j<=t.mask/\q.dummy=none:=by
 obtain ⟨j,hj,he⟩:=oA (mask:=t.mask) (n:=hs.size) (occ t) (λj=>below t.place j)
  (λj _ ⟨i,e⟩=>by show below t.place j<hs.size;rw[below_at T.rise e, <- T.size];exact eV e)
  (λi j _ _ ⟨a,ea⟩ ⟨b,eb⟩ e=>by
   have e':below t.place i=below t.place j:=e
   rw[below_at T.rise ea,below_at T.rise eb] at e'
   subst e'
   exact EA (ea.symm.trans eb)) T.fit
 exact xR T.msk (occ t) h hj he
theorem xS {t:SetTable}{hs:Array Int}(T:Tab t hs){H:Nat->Int}{h:Int}:∀(n:Nat) (p q:Probe) (fuel:Nat),Way (occ t) t.mask n p q->¬ occ t q.j->n<fuel->p.dummy=none →
  (SetTable.probe.go t H h fuel p=some (.empty q.j none)/\∀k r i,Way (occ t) t.mask k p r->t.place[i]? = some r.j->H i≠h) ∨
  (∃k r i,k<n/\Way (occ t) t.mask k p r/\t.place[i]? = some r.j/\H i=h/\SetTable.probe.go t H h fuel p=some (.candidate r.j i (adv t.mask r))/\Way (occ t) t.mask (n-k-1) (adv t.mask r) q/\(adv t.mask r).dummy=none
   /\ ∀k' r' i',k'<k->Way (occ t) t.mask k' p r'->t.place[i']? = some r'.j->H i'≠h):=by
 intro n
 induction n with
 | zero =>
  intro p q fuel W he hf hd
  cases W
  obtain ⟨fuel,rfl⟩:∃f,fuel=f+1:=⟨fuel-1,by lia⟩
  refine .inl ⟨?_,λk r i Wr er =>?_⟩
  ·unfold SetTable.probe.go
   rw[rY T.dm he]
   dsimp only
   rw[hd]
  ·cases Wr with
   | here=>exact absurd ⟨i,er⟩ he
   | step a _=>exact absurd a he
 | succ n ih =>
  intro p q fuel W he hf hd
  obtain ⟨fuel,rfl⟩:∃f,fuel=f+1:=⟨fuel-1,by lia⟩
  cases W with
  | step a W =>
   obtain ⟨i,ei⟩:=a
   have hd':(adv t.mask p).dummy=none:=by rw[<- hd];unfold adv;split <;> rfl
   by_cases hh:H i=h
   ·refine .inr ⟨0,p,i,by lia,.here p,ei,hh,?_,W,hd',λk' r' i' hk=>by lia⟩
    unfold SetTable.probe.go
    rw[ju T.rise ei]
    dsimp only
    rw[if_pos (by rw[hh];exact beq_self_eq_true h)]
    rfl
   ·have e0:SetTable.probe.go t H h (fuel+1) p=SetTable.probe.go t H h fuel (adv t.mask p):=by
     conv=>lhs;unfold SetTable.probe.go
     rw[ju T.rise ei]
     dsimp only
     rw[if_neg (by rw[beq_iff_eq];exact hh)]
     rfl
    rcases ih (adv t.mask p) q fuel W he (by lia) hd' with ⟨r1,r2⟩ | ⟨k,r,i',k1,w1,e1,h1,g1,w2,d2,no⟩
    ·refine .inl ⟨e0.trans r1,λk r j Wr er =>?_⟩
     cases Wr with
     | here =>
      obtain rfl:i=j:=by
       have x:=below_at T.rise ei
       have y:=below_at T.rise er
       exact x.symm.trans y
      exact hh
     | step _ Wr=>exact r2 _ _ _ Wr er
    ·refine .inr ⟨k+1,r,i',by lia,.step ⟨i,ei⟩ w1,e1,h1,e0.trans g1,by rw[show n+1-(k+1)-1=n-k-1 by lia];exact w2,d2,λk' r' j hk Wr er =>?_⟩
     cases Wr with
     | here =>
      obtain rfl:i=j:=by
       have x:=below_at T.rise ei
       have y:=below_at T.rise er
       exact x.symm.trans y
      exact hh
     | step _ Wr=>exact no _ _ _ (by lia) Wr er
theorem qD {t:SetTable}{hs:Array Int}(T:Tab t hs){H:Nat->Int}{h:Int}{n:Nat}{p q:Probe}(W:Way (occ t) t.mask n p q)(he:¬ occ t q.j)(hn:n<10*turns t.mask)(hd:p.dummy=none) :
  (t.probe H h p=some (.empty q.j none)/\∀k r i,Way (occ t) t.mask k p r->t.place[i]? = some r.j->H i≠h) ∨
  (∃k r i,k<n/\Way (occ t) t.mask k p r/\t.place[i]? = some r.j/\H i=h/\t.probe H h p=some (.candidate r.j i (adv t.mask r))/\Way (occ t) t.mask (n-k-1) (adv t.mask r) q/\(adv t.mask r).dummy=none
   /\ ∀k' r' i',k'<k->Way (occ t) t.mask k' p r'->t.place[i']? = some r'.j->H i'≠h) :=
 xS T n p q _ W he hn hd
theorem Tab.xT {t:SetTable}{hs:Array Int}(T:Tab t hs)(j:Nat):t.put j=({ t with place:=insertAt t.place (below t.place j) j },below t.place j):=by
 unfold SetTable.put
 dsimp only
 have:has t.dummies j=false:=by rw[T.dm];simp[has]
 rw[this]
 rfl
theorem Tab.put {t:SetTable}{hs:Array Int}(T:Tab t hs){h:Int}{n:Nat}{q:Probe}(W:Way (occ t) t.mask n (start t.mask h) q)(he:¬ occ t q.j)(hq:q.j<=t.mask)(hf:hs.size+1<=t.mask) :
  Tab { t with place:=insertAt t.place (below t.place q.j) q.j } (insertAt hs (below t.place q.j) h):=by
 have hp:=(dI T.rise q.j).1
 have hp':below t.place q.j<=hs.size:=by rw[<- T.size];exact hp
 have up:∀j,occ t j->occ { t with place:=insertAt t.place (below t.place q.j) q.j } j:=by
  rintro j ⟨i,e⟩
  by_cases l:i<below t.place q.j
  ·exact ⟨i,by show (insertAt _ _ _)[i]? = _;rw[cw _ hp,if_pos l];exact e⟩
  ·exact ⟨i+1,by show (insertAt _ _ _)[i+1]? = _;rw[cw _ hp,if_neg (by lia),if_neg (by lia)];exact e⟩
 refine ⟨T.dm,nE T.rise λi e=>he ⟨i,e⟩,?_,λi j e =>?_,T.msk,by rw[cC];exact hf,λi j h' e eh =>?_⟩
 ·show (insertAt _ _ _).size=_
  rw[cC,cC,T.size]
 ·have e':(insertAt t.place (below t.place q.j) q.j)[i]? = some j:=e
  rw[cw _ hp] at e'
  split at e'
  ·exact T.le _ _ e'
  ·split at e'
   ·cases e';exact hq
   ·exact T.le _ _ e'
 ·have e':(insertAt t.place (below t.place q.j) q.j)[i]? = some j:=e
  rw[cw _ hp] at e'
  rw[cw _ hp'] at eh
  by_cases l1:i<below t.place q.j
  ·rw[if_pos l1] at e' eh
   obtain ⟨n',q',w,eq⟩:=T.reach _ _ _ e' eh
   exact ⟨n',q',w.mono up,eq⟩
  ·rw[if_neg l1] at e' eh
   by_cases l2:i=below t.place q.j
   ·rw[if_pos l2] at e' eh
    cases e';cases eh
    exact ⟨n,q,W.mono up,rfl⟩
   ·rw[if_neg l2] at e' eh
    obtain ⟨n',q',w,eq⟩:=T.reach _ _ _ e' eh
    exact ⟨n',q',w.mono up,eq⟩
def ocw (owner:Array (Option Nat))(j:Nat):Prop:=∃k,owner[j]? = some (some k)
theorem Way.trans {oc:Nat->Prop}{mask n m:Nat}{p q r:Probe}(h:Way oc mask n p q)(h2:Way oc mask m q r):∃k,Way oc mask k p r:=by
 induction h with
 | here=>exact ⟨m,h2⟩
 | step a _ ih=>obtain ⟨k,w⟩:=ih h2;exact ⟨k+1,.step a w⟩
theorem pE (oc:Nat->Prop)(mask:Nat):∀(k:Nat) (p:Probe),k<=p.more->(∀k',k'<k->oc (p.j+k'))->Way oc mask k p { p with j:=p.j+k,more:=p.more-k }
 | 0,p,_,_ =>.here p
 | k+1,p,h,ho=>by
  have e:adv mask p={ p with j:=p.j+1,more:=p.more-1 }:=by unfold adv;rw[if_pos (by lia)]
  refine .step (ho 0 (by lia)) ?_
  rw[e]
  have:=pE oc mask k { p with j:=p.j+1,more:=p.more-1 } (by dsimp only;lia) λk' hk=>by
   have:=ho (k'+1) (by lia)
   rw[show p.j+(k'+1)=p.j+1+k' by lia] at this
   exact this
  dsimp only at this
  rw[show p.j+1+k=p.j+(k+1) by lia,show p.more-1-k=p.more-(k+1) by lia] at this
  exact this
theorem fU {owner:Array (Option Nat)}{mask j:Nat}(hs:owner.size=mask+1)(hj:j<=mask):(owner.getD j (some 0)).isNone=true↔¬ ocw owner j:=by
 have hl:j<owner.size:=by lia
 have e:owner[j]? = some owner[j]:=Ep hl
 rw[show owner.getD j (some 0)=owner[j] by simp[Array.getD,hl]]
 unfold ocw
 rw[e]
 cases owner[j] with
 | none=>simp
 | some k=>simp
theorem oB {mask i:Nat}(h:i<=mask):runEnd mask i<=mask/\i<=runEnd mask i:=by
 unfold runEnd;split <;> lia
theorem vI {mask:Nat}{owner:Array (Option Nat)}(hs:owner.size=mask+1):∀(fuel i pe j:Nat),i<=mask->SetTable.layClean.free mask owner fuel i pe=some j →
  ¬ ocw owner j/\∃n q,Way (ocw owner) mask n (dy mask i pe) q/\q.j=j:=by
 intro fuel
 induction fuel with
 | zero=>intro i pe j hi h;unfold SetTable.layClean.free at h;cases h
 | succ fuel ih =>
  intro i pe j hi h
  unfold SetTable.layClean.free at h
  obtain ⟨r1,r2⟩:=oB hi
  have no:∀k,k<runEnd mask i+1-i->((owner.getD (i+k) (some 0)).isNone=false)->ocw owner (i+k):=λk hk e=>by
   by_cases o:ocw owner (i+k)
   ·exact o
   ·rw[(fU hs (by lia)).mpr o] at e;cases e
  cases hf:(EU (runEnd mask i+1-i)).find? λk=>(owner.getD (i+k) (some 0)).isNone with
  | some k =>
   rw[hf] at h
   dsimp only at h
   cases h
   rw[List.find?_range_eq_some] at hf
   obtain ⟨f1,f2,f3⟩:=hf
   rw[E9] at f2
   refine ⟨(fU hs (by lia)).mp f1,k,_,pE (ocw owner) mask k (dy mask i pe) (by show k<=runEnd mask i-i;lia) λk' hk =>?_,rfl⟩
   refine no k' (by lia) ?_
   have:=f3 k' hk
   simpa using this
  | none =>
   rw[hf] at h
   dsimp only at h
   rw[J5] at hf
   have all:∀k,k<runEnd mask i+1-i->ocw owner (i+k):=λk hk=>no k hk (by simpa using hf k hk)
   obtain ⟨g1,n,q,w,eq⟩:=ih _ _ _ (HK (Jf _ (IP mask))) h
   refine ⟨g1,?_⟩
   have w0:=pE (ocw owner) mask (runEnd mask i-i) (dy mask i pe) (DS _) λk' hk=>all k' (by lia)
   have w1:Way (ocw owner) mask (n+1) { (dy mask i pe) with j:=(dy mask i pe).j+(runEnd mask i-i),more:=(dy mask i pe).more-(runEnd mask i-i) } q:=by
    refine .step (all (runEnd mask i-i) (by lia)) ?_
    have e:adv mask { (dy mask i pe) with j:=(dy mask i pe).j+(runEnd mask i-i),more:=(dy mask i pe).more-(runEnd mask i-i) }=dy mask (leap mask i pe).1 (leap mask i pe).2:=by
     unfold adv
     rw[if_neg (by show ¬ (runEnd mask i-i-(runEnd mask i-i))>0;lia)]
     rfl
    rw[e]
    exact w
   obtain ⟨k,w2⟩:=w0.trans w1
   exact ⟨k,q,w2,eq⟩
theorem vJ {mask:Nat}{owner:Array (Option Nat)}(hs:owner.size=mask+1):∀(fuel i pe k:Nat),i<=mask->k<fuel->¬ ocw owner (cM mask k (i,pe)).1->∃j,SetTable.layClean.free mask owner fuel i pe=some j:=by
 intro fuel
 induction fuel with
 | zero=>intro i pe k _ h;lia
 | succ fuel ih =>
  intro i pe k hi hk he
  unfold SetTable.layClean.free
  obtain ⟨r1,r2⟩:=oB hi
  cases hf:(EU (runEnd mask i+1-i)).find? λk=>(owner.getD (i+k) (some 0)).isNone with
  | some k=>exact ⟨_,rfl⟩
  | none =>
   dsimp only
   rw[J5] at hf
   cases k with
   | zero =>
    have h0:=hf 0 (by lia)
    have:(owner.getD (i+0) (some 0)).isNone=true:=(fU hs (by lia)).mpr he
    rw[this] at h0
    cases h0
   | succ k=>exact ih _ _ k (HK (Jf _ (IP mask))) (by lia) he
structure Own (mask:Nat)(owner:Array (Option Nat))(hs:List Int):Prop where
 size:owner.size=mask+1
 cov:∀(k:Nat) (h:Int),hs[k]? = some h->∃j n q,owner[j]? = some (some k)/\Way (ocw owner) mask n (start mask h) q/\q.j=j
 bnd:∀j k:Nat,owner[j]? = some (some k)->k<hs.length
 inj:∀i j k:Nat,owner[i]? = some (some k)->owner[j]? = some (some k)->i=j
theorem Own.step {mask:Nat}(hm:Msk mask){owner:Array (Option Nat)}{hs:List Int}(O:Own mask owner hs)(h:Int)(hl:hs.length<=mask) :
  ∃j,SetTable.layClean.free mask owner (turns mask) (bits h%(mask+1)) (bits h)=some j/\Own mask (owner.setIfInBounds j (some hs.length)) (hs++[h]):=by
 obtain ⟨e,he,hne⟩:=oA (mask:=mask) (n:=hs.length) (ocw owner) (λj=>(owner.getD j none).getD 0)
  (λj _ ⟨k,ek⟩=>by
   have:=eV ek
   show (owner.getD j none).getD 0<_
   rw[show owner.getD j none=some k by rw[Gw,ek];rfl]
   exact O.bnd j k ek)
  (λi j _ _ ⟨a,ea⟩ ⟨b,eb⟩ q=>by
   have q':(owner.getD i none).getD 0=(owner.getD j none).getD 0:=q
   rw[show owner.getD i none=some a by rw[Gw,ea];rfl,show owner.getD j none=some b by rw[Gw,eb];rfl] at q'
   have q'':a=b:=q'
   subst q''
   exact O.inj i j a ea eb) hl
 have i0:bits h%(mask+1)<=mask:=HK (Jf _ (IP mask))
 obtain ⟨k,k1,k2⟩:=lP hm (h:=h) he
 obtain ⟨j,hj⟩:=vJ O.size (turns mask) _ _ k i0 k1 (by rw[k2];exact hne)
 obtain ⟨hno,n,q,w,eq⟩:=vI O.size _ _ _ _ i0 hj
 have hjm:j<=mask:=by rw[<- eq];exact w.le (qA mask h)
 have hjs:j<owner.size:=by rw[O.size];lia
 have ej:owner[j]? = some none:=by
  rw[Ep hjs]
  cases ho:owner[j] with
  | none=>rfl
  | some k=>exact absurd ⟨k,by rw[Ep hjs,ho]⟩ hno
 have get:∀i:Nat,(owner.setIfInBounds j (some hs.length))[i]? = if i=j then some (some hs.length) else owner[i]? := λi=>by
  rw[Array.getElem?_setIfInBounds]
  by_cases q:j=i
  ·rw[if_pos q,if_pos q.symm,if_pos hjs]
  ·rw[if_neg q,if_neg (Ft q)]
 have up:∀i,ocw owner i->ocw (owner.setIfInBounds j (some hs.length)) i:=by
  rintro i ⟨k,ek⟩
  refine ⟨k,?_⟩
  rw[get,if_neg (λq=>by rw[q,ej] at ek;cases ek)]
  exact ek
 refine ⟨j,hj,by rw[J3];exact O.size,λk h' eh =>?_,λi k ek =>?_,λi i' k ei ei' =>?_⟩
 ·by_cases lk:k<hs.length
  ·rw[EH lk] at eh
   obtain ⟨j',n',q',a,b,c⟩:=O.cov k h' eh
   refine ⟨j',n',q',?_,b.mono up,c⟩
   rw[get,if_neg (λq=>by rw[q,ej] at a;cases a)]
   exact a
  ·rw[EY (by lia)] at eh
   have:k-hs.length=0:=by
    cases hk:k-hs.length with
    | zero=>rfl
    | succ m=>rw[hk] at eh;cases eh
   rw[this] at eh
   cases eh
   obtain rfl:k=hs.length:=by lia
   exact ⟨j,n,q,by rw[get,if_pos rfl],w.mono up,eq⟩
 ·rw[DT,Fj]
  rw[get] at ek
  split at ek
  ·cases ek;lia
  ·have:=O.bnd _ _ ek;lia
 ·rw[get] at ei ei'
  by_cases q1:i=j
  ·by_cases q2:i'=j
   ·rw[q1,q2]
   ·rw[if_pos q1] at ei;rw[if_neg q2] at ei'
    cases ei
    have:=O.bnd _ _ ei';lia
  ·rw[if_neg q1] at ei
   by_cases q2:i'=j
   ·rw[if_pos q2] at ei'
    cases ei'
    have:=O.bnd _ _ ei;lia
   ·rw[if_neg q2] at ei'
    exact O.inj _ _ _ ei ei'
theorem qF {mask:Nat}(hm:Msk mask):∀(l:List Int) (owner:Array (Option Nat)) (hs:List Int),Own mask owner hs->hs.length+l.length<=mask+1 →
    ∃owner',l.foldl (λacc h=>do
      let (owner,k) ← acc
      let j ← SetTable.layClean.free mask owner (turns mask) (bits h%(mask+1)) (bits h)
      pure (owner.setIfInBounds j (some k),k+1)) (some (owner,hs.length))=some (owner',hs.length+l.length)/\Own mask owner' (hs++l)
  | [],owner,hs,O,_=>⟨owner,rfl,by rw[E6];exact O⟩
  | h :: l,owner,hs,O,hl=>by
    rw[Eu] at hl
    obtain ⟨j,hj,O'⟩:=O.step hm h (by lia)
    obtain ⟨owner',e,O''⟩:=qF hm l _ _ O' (by rw[DT,Fj];lia)
    refine ⟨owner',?_,by rw[E2] at O'';exact O''⟩
    rw[MM]
    have:(do
      let (owner,k) ← some (owner,hs.length)
      let j ← SetTable.layClean.free mask owner (turns mask) (bits h%(mask+1)) (bits h)
      pure (owner.setIfInBounds j (some k),k+1):Option (Array (Option Nat)×Nat))=some (owner.setIfInBounds j (some hs.length),(hs++[h]).length):=by
      show (SetTable.layClean.free mask owner (turns mask) (bits h%(mask+1)) (bits h)).bind _=_
      rw[hj,DT]
      rfl
    rw[this,e]
    rw[DT,Fj,Eu]
    congr 2
    lia
theorem qG {mask:Nat}(hm:Msk mask)(hs:Array Int)(hl:hs.size<=mask+1):∃owner,SetTable.layClean mask hs=some owner/\Own mask owner hs.toList:=by
  have O0:Own mask (Array.replicate (mask+1) none) []:=by
    refine ⟨by simp,λk h e=>by simp at e,λj k e =>?_,λi j k e =>?_⟩
    · rw[J6] at e;split at e <;> cases e
    · rw[J6] at e;split at e <;> cases e
  obtain ⟨owner,e,O⟩:=qF hm hs.toList _ [] O0 (by rw[G2,DY];lia)
  refine ⟨owner,?_,by rw[JC] at O;exact O⟩
  unfold SetTable.layClean
  rw[<- Array.foldl_toList]
  have e':hs.toList.foldl (λacc h=>do
      let (owner,k) ← acc
      let j ← SetTable.layClean.free mask owner (turns mask) (bits h%(mask+1)) (bits h)
      pure (owner.setIfInBounds j (some k),k+1)) (some (Array.replicate (mask+1) none,0))=some (owner,0+hs.toList.length):=e
  rw[e']
  rfl
theorem filterMap_get {α β:Type}{f:α -> Option β}:∀(l:List α),(∀x∈l,(f x).isSome=true)->∀i:Nat,(l.filterMap f)[i]? = l[i]?.bind f
 | [],_,i=>by simp
 | x :: l,h,i=>by
  obtain ⟨y,hy⟩:=J2.mp (h x En)
  rw[List.filterMap_cons_some hy]
  cases i with
  | zero=>simp[hy]
  | succ i =>
   rw[GU,GU]
   exact filterMap_get l (λz hz=>h z (Em _ hz)) i
theorem zT {mask:Nat}(hm:Msk mask)(finger moves:Nat)(led plain:Bool)(es:Array (Int×DK))(hl:es.size<=mask) :
  ∃t order,SetTable.laid mask finger moves led plain (es.map (·.1))=some (t,order)/\order.toList.Perm (EU es.size)/\Tab t ((order.filterMap (es[·]?)).map (·.1))/\(order.filterMap (es[·]?)).toList.Perm es.toList/\t.led=led/\t.plain=plain/\t.mask=mask:=by
 obtain ⟨owner,e,O⟩:=qG hm (es.map (·.1)) (by rw[E5];lia)
 refine ⟨_,_,by unfold SetTable.laid;rw[e];rfl,?_⟩
 generalize hlive:((EU (mask+1)).filterMap λj=>(owner.getD j none).map (j, ·))=live
 have mem:∀j k,(j,k)∈live↔owner[j]? = some (some k):=λj k=>by
  rw[<- hlive,Ig]
  constructor
  ·rintro ⟨a,ha,ea⟩
   rw[Gw] at ea
   cases ho:owner[a]? with
   | none=>rw[ho] at ea;cases ea
   | some x =>
    rw[ho] at ea
    cases x with
    | none=>cases ea
    | some k'=>cases ea;exact ho
  ·intro ho
   refine ⟨j,?_,?_⟩
   ·rw[E9, <- O.size];exact eV ho
   ·rw[Gw,ho];rfl
 have pw:live.Pairwise (λa b=>a.1<b.1):=by
  rw[<- hlive,List.pairwise_filterMap]
  refine NB (λ{a b} hab x hx y hy =>?_) KN
  have hx':x.1=a:=by cases ho:owner.getD a none with
   | none=>rw[ho] at hx;cases hx
   | some k=>rw[ho] at hx;cases hx;rfl
  have hy':y.1=b:=by cases ho:owner.getD b none with
   | none=>rw[ho] at hy;cases hy
   | some k=>rw[ho] at hy;cases hy;rfl
  rw[hx',hy'];exact hab
 have nd:(live.map (·.2)).Nodup:=by
  unfold List.Nodup
  rw[EN]
  refine IQ (λ{a b} ha hb hab q =>?_) pw
  have:=O.inj a.1 b.1 a.2 ((mem _ _).mp ha) (by rw[q];exact (mem _ _).mp hb)
  lia
 have hlen:(es.map (·.1)).toList.length=es.size:=by rw[DY,E5]
 have perm:(live.map (·.2)).Perm (EU es.size):=by
  rw[Hs nd MF]
  intro k
  rw[E9,DZ]
  constructor
  ·rintro ⟨⟨j,k'⟩,hm',rfl⟩
   have:=O.bnd _ _ ((mem _ _).mp hm')
   rw[hlen] at this
   exact this
  ·intro hk
   obtain ⟨j,_,_,ej,_⟩:=O.cov k _ (DL (by rw[hlen];exact hk))
   exact ⟨(j,k),(mem _ _).mpr ej,rfl⟩
 have all:∀x∈live.map (·.2),(es[x]?).isSome=true:=λx hx=>by
  have:=(perm.mem_iff).mp hx
  rw[E9] at this
  rw[Ep this];rfl
 have tl:(live.map (·.2)).toArray.toList=live.map (·.2):=rfl
 have ll:live.length=es.size:=by have:=perm.length_eq;rw[DI,GY] at this;exact this
 have fm:((live.map (·.2)).toArray.filterMap (es[·]?)).toList=(live.map (·.2)).filterMap (es[·]?):=by simp
 have fl:((live.map (·.2)).filterMap (es[·]?)).Perm es.toList:=by
  have p1:=perm.filterMap (es[·]?)
  have:(EU es.size).filterMap (es[·]?)=es.toList:=by
   apply Je
   intro i
   rw[filterMap_get _ (λx hx=>by rw[E9] at hx;rw[Ep hx];rfl)]
   by_cases hi:i<es.size
   ·rw[JE hi,D7];rfl
   ·rw[Fp (by rw[GY];lia),Fp (by rw[DY];lia)];rfl
  rw[this] at p1
  exact p1
 refine ⟨perm,?_,by rw[fm];exact fl,rfl,rfl,rfl⟩
 have sz:(((live.map (·.2)).toArray.filterMap (es[·]?)).map (·.1)).size=es.size:=by
  rw[E5, <- DY,fm,fl.length_eq,DY]
 have occ_of:∀j,ocw owner j->occ { mask:=mask,place:=(live.map (·.1)).toArray,dummies := #[],finger:=finger,led:=led,moves:=moves,plain:=plain } j:=by
  rintro j ⟨k,ek⟩
  obtain ⟨i,hi,ei⟩:=IJ ((mem j k).mpr ek)
  refine ⟨i,?_⟩
  show (live.map (·.1)).toArray[i]? = some j
  rw[ED,D1,DL hi,ei]
  rfl
 refine ⟨rfl,λi j a b ea eb hij =>?_,?_,λi j ej =>?_,hm,by rw[sz];exact hl,λi j h ej eh =>?_⟩
 ·have ea':(live.map (·.1)).toArray[i]? = some a:=ea
  have eb':(live.map (·.1)).toArray[j]? = some b:=eb
  rw[ED] at ea' eb'
  have pw':(live.map (·.1)).Pairwise (· < ·):=by rw[EN];exact pw
  obtain ⟨hi,xi⟩:=DQ.mp ea'
  obtain ⟨hj,xj⟩:=DQ.mp eb'
  rw[<- xi, <- xj]
  exact HB.mp pw' i j hi hj hij
 ·show (live.map (·.1)).toArray.size=_
  rw[sz,DR,DI,ll]
 ·have ej':(live.map (·.1)).toArray[i]? = some j:=ej
  rw[ED,D1] at ej'
  cases hx:live[i]? with
  | none=>rw[hx] at ej';cases ej'
  | some x =>
   rw[hx] at ej'
   cases ej'
   have:=eV ((mem x.1 x.2).mp (DV hx))
   show x.1<=mask
   rw[O.size] at this
   lia
 ·have ej':(live.map (·.1)).toArray[i]? = some j:=ej
  rw[ED,D1] at ej'
  cases hx:live[i]? with
  | none=>rw[hx] at ej';cases ej'
  | some x =>
   rw[hx] at ej'
   cases ej'
   have ho:=(mem x.1 x.2).mp (DV hx)
   have hk:=O.bnd _ _ ho
   rw[LR, <- D7,fm,filterMap_get _ all,D1,hx] at eh
   have eh':(es[x.2]?).map (·.1)=some h:=eh
   obtain ⟨j',n,q,a,b,c⟩:=O.cov x.2 h (by rw[Jp,D1,D7];exact eh')
   obtain rfl:=O.inj _ _ _ ho a
   exact ⟨n,q,b.mono occ_of,c⟩
open PySem PySem.SetTable PyProof.Rows
section
variable  {prog:D9}{w:EE}{A:EV}{E:DK->DP->Prop}{s:DP}
abbrev TK (prog:D9)(w:EE):=IsTupleKey (prog:=prog) (w:=w) (intKind prog w)
def cD (prog:D9)(w:EE)(ks:List Int):Int:=tupleKeyHash (intKind prog w) ks
def aS (es:Array (Int×DK))(ep:Nat)(t:SetTable):Obj:={ cls :=.type "set",dict:=none,data :=.set es ep t }
def ElT (prog:D9)(w:EE)(h:Heap)(e:Int×DK)(ks:List Int):Prop:=∃b,e=(cD prog w ks,.ref b)/\TK prog w h ks b
theorem pF (d:Nat){v:DK}(h:carriedByValue v=true):ofAClassStatement d v=pure false:=by
 cases v with
 | ref a=>simp[carriedByValue] at h
 | _=>cases d <;> rfl
theorem iY {ks:List Int}{b:Addr}{Q:Bool->DP->Prop}(hk:TK prog w s.heap ks b)(h:Q false s):Ee (Es prog w) A (ofAClassStatement 8 (.ref b)) Q E s:=by
 have hT:=hk.typeIs
 obtain ⟨o,items,n,ho,_,hd,hi⟩:=hk
 unfold ofAClassStatement
 refine DH (Hz hT ?_)
 dsimp only
 rw[if_pos (by decide)]
 refine DH (DN ?_)
 simp only[FV,Ei,if_false]
 refine DH (Fv ho hd ?_)
 dsimp only
 refine DH ?_
 rw[<- LS]
 refine IE _ (λrest r s'=>r.1=none/\s'=s/\∀v∈rest,carriedByValue v=true) _ ?_ ?_ _ _ ⟨rfl,rfl,hi.byValue⟩
 ·rintro v rest r s' ⟨hr,rfl,hall⟩
  rw[pF _ (hall v En)]
  refine DH (DN ?_)
  simp only[Ei,if_false]
  exact DN ⟨rfl,rfl,λu hu'=>hall u (Em _ hu')⟩
 ·rintro ⟨r1,r2⟩ s' ⟨hr,rfl,_⟩
  simp only at hr
  subst hr
  exact DN h
theorem Ca {ks:List Int}{b:Addr}{vs:List DK}{Q:Bool->DP->Prop}(hk:TK prog w s.heap ks b)(hv:∀v∈vs,∃ks' b',v = .ref b'/\TK prog w s.heap ks' b')(h:Q false s) :
  Ee (Es prog w) A (searchCouldBeSeen (.ref b) vs) Q E s:=by
 unfold searchCouldBeSeen
 refine DH ?_
 refine IE _ (λrest r s'=>r.1=none/\s'=s/\∀v∈rest,∃ks' b',v = .ref b'/\TK prog w s.heap ks' b') _ ?_ ?_ _ _ ⟨rfl,rfl,hv⟩
 ·rintro v rest r s' ⟨hr,rfl,hall⟩
  obtain ⟨ks',b',rfl,hk'⟩:=hall v En
  have go:∀u∈rest,∃ks' b',u = .ref b'/\TK prog w s'.heap ks' b':=λu hu'=>hall u (Em _ hu')
  dsimp only
  split
  ·exact DN ⟨rfl,rfl,go⟩
  ·refine DH (Lc hk ?_)
   simp only[FV,Ei,if_false]
   refine DH (Lc hk' ?_)
   simp only[FV,Ei,if_false]
   refine DH (iY hk ?_)
   simp only[Ei,if_false]
   refine DH (iY hk' ?_)
   simp only[Ei,if_false]
   exact DN ⟨rfl,rfl,go⟩
 ·rintro ⟨r1,r2⟩ s' ⟨hr,rfl,_⟩
  simp only at hr
  subst hr
  exact DN h
theorem zU {m:Nat}(h:Msk m):(m%2 == 0)=false:=by rcases h with rfl | rfl | rfl | rfl <;> rfl
theorem bN {a:Addr}{es:Array (Int×DK)}{ep:Nat}{t:SetTable}{Q:(Array (Int×DK)×Nat×SetTable)->DP->Prop}(ho:s.heap.get? a=some (aS es ep t))(T:Tab t (es.map (·.1)))(h:Q (es,ep,t) s) :
  Ee (Es prog w) A (setState a) Q E s:=wpAny_setState_of ho rfl (by have:=T.fits;rwa [E5] at this) h
theorem r6 (es:Array (Int×DK))(i:Nat)(e:Int×DK)(h:es[i]? = some e):(es.map (·.1))[i]? = some e.1:=by rw[LR,h];rfl
theorem Way.split {oc:Nat->Prop}{mask k:Nat}{p r:Probe}(h:Way oc mask k p r):∀{k':Nat} {r':Probe},Way oc mask k' p r'->k<=k'->Way oc mask (k'-k) r r':=by
 induction h with
 | here p=>intro k' r' h2 _;exact h2
 | @step n p q a _ ih =>
  intro k' r' h2 l
  cases h2 with
  | here=>lia
  | @step m _ _ _ h2=>rw[show m+1-(n+1)=m-n by lia];exact ih h2 (by lia)
theorem r9 {a b:Addr}{es:Array (Int×DK)}{ep:Nat}{t:SetTable}{ks:List Int}{Q:SetFound->DP->Prop}(hu:A.units<cLine)(ho:s.heap.get? a=some (aS es ep t))(T:Tab t (es.map (·.1)))
    (els:∀e∈es,∃ks',ElT prog w s.heap e ks') (hk:TK prog w s.heap ks b) {q:Probe} (he:¬ occ t q.j) :
    ∀(fuel n:Nat) (st:Option Probe) (p:Probe),st.getD (start t.mask (cD prog w ks))=p->Way (occ t) t.mask n p q->n<fuel->n<10*turns t.mask->p.dummy=none →
      ((∃(k:Nat) (r:Probe) (i:Nat) (e:Int×DK),Way (occ t) t.mask k p r/\t.place[i]? = some r.j/\es[i]? = some e/\ElT prog w s.heap e ks)->Q (.there none) s) →
      ((¬ ∃(k:Nat) (r:Probe) (i:Nat) (e:Int×DK),Way (occ t) t.mask k p r/\t.place[i]? = some r.j/\es[i]? = some e/\ElT prog w s.heap e ks)->Q (.free q.j false) s) →
      Ee (Es prog w) A (setSearchFrom a (.ref b) (cD prog w ks) true fuel st) Q E s:=by
  intro fuel
  induction fuel with
  | zero=>intro n st p _ _ h;omega
  | succ fuel ih =>
    intro n st p hst W hn hn2 hd hit mis
    unfold setSearchFrom
    refine DH (bN ho T ?_)
    dsimp only
    rw[show t.gaveWay=false from zU T.msk]
    simp only[Ei,if_false]
    rw[show st.getD (t.probeStart (cD prog w ks))=p from hst]
    rcases qD T (H:=λi=>(es[i]?.map (·.1)).getD 0) (h:=cD prog w ks) W he hn2 hd with ⟨g,no⟩ | ⟨k,r,i,k1,w1,e1,h1,g,w2,d2,no⟩
    · erw [g]
      dsimp only
      refine DN (mis ?_)
      rintro ⟨k,r,i,e,wr,er,ee,eb,rfl,_⟩
      refine no k r i wr er ?_
      show (es[i]?.map (·.1)).getD 0=_
      rw[ee]
      rfl
    · erw [g]
      dsimp only
      have hi:i<es.size:=by have:=eV e1;rw[T.size,E5] at this;exact this
      have ee:es[i]? = some es[i]:=Ep hi
      obtain ⟨ks',b',eq,hk'⟩:=els es[i] (Jg hi)
      rw[eq] at ee
      have hh:cD prog w ks'=cD prog w ks:=by
        have h1':(es[i]?.map (·.1)).getD 0=cD prog w ks:=h1
        rw[ee] at h1'
        exact h1'
      have tail:Ee (Es prog w) A (do
          let equal ← Jr [D8 b'] (eqBool (.ref b') (.ref b))
          let (es',_,t') ← setState a
          if (true && equal)=true then return .there none
          let some same:=t'.sameMemory t.moves t.mask | unsupported "set.changed-during-lookup:is-the-new-block-at-the-old-address"
          let still ← match (if same then t'.slot r.j else .empty) with
            | .live i'=>match es'[i']? with
              | some (_,y')=>do pure (if ← isSame y' (.ref b') then some i' else none)
              | none=>pure none
            | _=>pure none
          match still with
          | none=>rule "set.search.anew";setSearchFrom a (.ref b) (cD prog w ks) true fuel none
          | some i'=>if equal then return .there (some i') else setSearchFrom a (.ref b) (cD prog w ks) true fuel (some (adv t.mask r))) Q E s:=by
        refine DH (Fb (JS hu hk' hk ?_))
        refine DH (bN ho T ?_)
        dsimp only
        by_cases hks:ks'=ks
        · subst hks
          rw[decide_eq_true rfl]
          simp only[Bool.and_self,if_true]
          exact DN (hit ⟨k,r,i,_,w1,e1,ee,b',rfl,hk'⟩)
        · rw[decide_eq_false hks]
          simp only[Lv,Ei,if_false]
          rw[show t.sameMemory t.moves t.mask=some true by unfold SetTable.sameMemory;simp]
          dsimp only
          simp only[if_true]
          rw[ju T.rise e1]
          dsimp only
          rw[ee]
          dsimp only
          refine DH (wpAny_isSame_ref_self (DH (DN ?_)))
          simp only[if_true]
          refine ih (n-k-1) _ _ rfl w2 (by omega) (by omega) d2 (λx=>hit ?_) λx=>mis λy=>x ?_
          · obtain ⟨k',r',i',e',a1,a2,a3,a4⟩:=x
            obtain ⟨k'',w''⟩:=w1.trans (.step ⟨i,e1⟩ a1)
            exact ⟨k'',r',i',e',w'',a2,a3,a4⟩
          · obtain ⟨k',r',i',e',a1,a2,a3,a4⟩:=y
            have hx:(es[i']?.map (·.1)).getD 0=cD prog w ks:=by
              obtain ⟨bb,rfl,_⟩:=a4
              rw[a3];rfl
            by_cases lt:k'<k
            · exact absurd hx (no k' r' i' lt a1 a2)
            · have w3:=w1.split a1 (by omega)
              cases hd3:k'-k with
              | zero =>
                rw[hd3] at w3
                cases w3
                obtain rfl:i=i':=(below_at T.rise e1).symm.trans (below_at T.rise a2)
                obtain ⟨bb,rfl,hbb⟩:=a4
                rw[ee] at a3
                injection a3 with a3
                injection a3 with a31 a32
                injection a32 with a32
                subst a32
                exact absurd (hk'.inj hbb) hks
              | succ m =>
                rw[hd3] at w3
                cases w3 with
                | step _ w3=>exact ⟨m,r',i',e',w3,a2,a3,a4⟩
      cases hl:t.led with
      | true =>
        simp only[FV,Ei,if_false]
        rw[ee]
        exact tail
      | false =>
        simp only[Ls,if_true]
        refine DH (Ca hk (λv hv =>?_) ?_)
        · obtain ⟨e',he',rfl⟩:=DZ.mp hv
          obtain ⟨ks2,b2,e2,hk2⟩:=els e' (Array.mem_of_mem_filter (EJ.mp he'))
          exact ⟨ks2,b2,by rw[e2],hk2⟩
        · simp only[Ei,if_false]
          rw[ee]
          exact tail
end
section
variable  {prog:D9}{w:EE}{A:EV}{E:DK->DP->Prop}{s:DP}
def dE (w:EE)(h:Heap)(a:Addr)(es:Array (Int×DK)):Prop :=
 ∃ep t,h.get? a=some (aS es ep t)/\Tab t (es.map (·.1))/\es.size*5<t.mask*3/\t.led = !w.params.followText "set-order" /\ t.plain=true
theorem dE.at {h h':Heap}{a:Addr}{es:Array (Int×DK)}(x:dE w h a es)(e:∀o,h.get? a=some o->h'.get? a=some o):dE w h' a es :=
 let ⟨ep,t,ho,r⟩:=x;⟨ep,t,e _ ho,r⟩
theorem qH {m n:Nat}(hm:Msk m)(h1:n*5<m*3)(h2:(n+1)*5≥m*3)(h3:n<300):Msk (sizeAbove (grown (n+1))-1)/\n+1<=sizeAbove (grown (n+1))-1/\(n+1)*5<(sizeAbove (grown (n+1))-1)*3/\sizeAbove (grown (n+1))<=512:=by
 have c:n=4\/n=18\/n=76:=by
  rcases hm with rfl | rfl | rfl | rfl <;> lia
 unfold Msk
 rcases c with rfl | rfl | rfl <;> decide
theorem oD:512<=D3:=by rw[G4];lia
theorem iZ {a:Addr}{es es':Array (Int×DK)}{ep:Nat}{t t':SetTable}{Q:Unit->DP->Prop}(ho:s.heap.get? a=some (aS es ep t))(hz:es'.size<=512)
  (h:∀h',Heap.SameBut a s.heap h'->h'.get? a=some (aS es' (ep+1) t')->Q () { s with heap:=h' }):Ee (Es prog w) A (storeSet a es' t') Q E s:=by
 refine wpAny_storeSet_of (o:=aS es ep t) ho rfl ?_ (EI hz oD)
 refine h _ (IH s.heap a _) ?_
 have:=EZ (Obj.putSet es' t') ho (by rw[putSet_of es' t' (o:=aS es ep t) rfl];rfl)
 rw[putSet_of es' t' (o:=aS es ep t) rfl] at this
 exact this
theorem Tab.tooFull {t:SetTable}{hs:Array Int}(T:Tab t hs):t.tooFull=decide (hs.size*5≥t.mask*3):=by
 unfold SetTable.tooFull;rw[T.fill]
theorem oF {t:SetTable}{es:Array (Int×DK)}(T:Tab t (es.map (·.1))){n:Nat}(hn:es.size=n+1)(h1:n*5<t.mask*3)(h2:(n+1)*5≥t.mask*3)(h3:n<300) :
  ∃t' order,t.relaid (es.map (·.1)) (grown (n+1))=some (t',order)/\order.toList.Perm (EU es.size)/\Tab t' ((order.filterMap (es[·]?)).map (·.1))/\(order.filterMap (es[·]?)).toList.Perm es.toList/\t'.led=t.led/\t'.plain=t.plain/\(n+1)*5<t'.mask*3:=by
 obtain ⟨k1,k2,k3,k4⟩:=qH T.msk h1 h2 h3
 obtain ⟨t',order,e,pm,T',pe,l,p,m⟩:=zT k1 t.finger (t.movedTo (sizeAbove (grown (n+1))-1)) t.led t.plain es (by lia)
 exact ⟨t',order,e,pm,T',pe,l,p,by rw[m];exact k3⟩
theorem si {ks:List Int}{b:Addr}{Q:Bool->DP->Prop}(hk:TK prog w s.heap ks b)(h:Q true s):Ee (Es prog w) A (hashByValue 8 (.ref b)) Q E s:=by
 have hT:=hk.typeIs
 obtain ⟨o,items,n,ho,_,hd,hi⟩:=hk
 unfold hashByValue
 refine DH (G6 hT F.slot_tuple_hash.lookup ?_)
 dsimp only
 refine DH (Fv ho hd ?_)
 refine DH ?_
 show Ee _ _ (forIn items _ _) _ _ s
 rw[<- LS]
 have hall0:∀v∈items.toList,∃k t,v = .int k t:=by
  clear hd ho
  generalize items.toList=l at hi
  induction hi with
  | nil=>intro v hv;cases hv
  | cons h1 _ ih =>
   intro v hv
   rcases Eg.mp hv with rfl | hv
   ·obtain ⟨t,e⟩:=J1 h1;exact ⟨_,t,e⟩
   ·exact ih v hv
 refine IE _ (λrest r s'=>r.1=none/\s'=s/\∀v∈rest,∃k t,v=FT k t) _ ?_ ?_ _ _ ⟨rfl,rfl,hall0⟩
 ·rintro v rest r s' ⟨hr,rfl,hall⟩
  obtain ⟨k,t,rfl⟩:=hall v En
  rw[show hashByValue 7 (.int k t)=pure true from rfl]
  refine DH (DN ?_)
  simp only[FV,Ei,if_false]
  exact DN ⟨rfl,rfl,λu hu'=>hall u (Em _ hu')⟩
 ·rintro ⟨r1,r2⟩ s' ⟨hr,rfl,_⟩
  simp only at hr
  subst hr
  exact DN h
theorem zV {a b:Addr}{es:Array (Int×DK)}{ks:List Int}{Q:Bool->DP->Prop}(hu:A.units<cLine)(I:dE w s.heap a es)(els:∀e∈es,∃ks',ElT prog w s.heap e ks')(hk:TK prog w s.heap ks b)(hz:es.size<300)
  (hin:(∃e∈es,ElT prog w s.heap e ks)->Q false s)
  (hnew:(¬ ∃e∈es,ElT prog w s.heap e ks)->∀h' es',Heap.SameBut a s.heap h'->dE w h' a es'->es'.toList.Perm ((cD prog w ks,.ref b) :: es.toList)->Q true { s with heap:=h' }) :
  Ee (Es prog w) A (setAddHashed a (.ref b) (cD prog w ks)) Q E s:=by
 obtain ⟨ep,t,ho,T,rm,hl,hp⟩:=I
 unfold setAddHashed setAddHashedIn
 refine Fb (DH (bN ho T ?_))
 dsimp only
 rw[show byScan (.ref b) es=false from rfl]
 simp only[Ei,if_false]
 obtain ⟨n,q,hn,W,he,hq,hd⟩:=T.ends (cD prog w ks)
 have hn':n<100000:=by
  have:t.mask<=511:=by rcases T.msk with e | e | e | e <;> lia
  unfold turns at hn
  lia
 unfold setSearch
 refine DH (r9 hu ho T els hk he 100000 n none _ rfl W hn' hn rfl (λx =>?_) λx =>?_)
 ·obtain ⟨k,r,i,e,_,_,ee,el⟩:=x
  exact DN (hin ⟨e,Array.mem_of_getElem? ee,el⟩)
 ·have nx:¬ ∃e∈es,ElT prog w s.heap e ks:=by
   rintro ⟨e,he',el⟩
   obtain ⟨i,hi,ei⟩:=Array.getElem_of_mem he'
   have ee:es[i]? = some e:=by rw[Ep hi,ei]
   have hpl:i<t.place.size:=by rw[T.size,E5];exact hi
   obtain ⟨bb,rfl,hbb⟩:=el
   obtain ⟨k,r,w1,er⟩:=T.reach i _ _ (Ep hpl) (r6 es i _ ee)
   exact x ⟨k,r,i,_,w1,by rw[er];exact Ep hpl,ee,bb,rfl,hbb⟩
  dsimp only
  refine DH (bN ho T ?_)
  dsimp only
  rw[T.xT]
  dsimp only
  rw[hp]
  simp only[if_true]
  have hz':(es.map (·.1)).size+1<=t.mask:=by
   rw[E5];have:=T.fit;rw[E5] at this
   rcases T.msk with e | e | e | e <;> rw[e] at rm ⊢ <;> lia
  have T':=T.put W he hq hz'
  rw[<- fA es (below t.place q.j) (cD prog w ks,D8 b) (·.1),hp] at T'
  have sz:(insertAt es (below t.place q.j) (cD prog w ks,D8 b)).size=es.size+1:=cC _ _ _
  refine DH (si hk ?_)
  simp only[if_true]
  refine DH (iZ ho (by rw[sz];lia) λh1 sb1 ho1 =>?_)
  have pm1:=insertAt_perm es (below t.place q.j) (cD prog w ks,D8 b)
  rw[T'.tooFull,E5,sz]
  by_cases full:(es.size+1)*5≥t.mask*3
  ·rw[if_pos (by simpa using full)]
   unfold setRelay
   obtain ⟨t2,order,e2,pm2,T2,pe2,l2,p2,rm2⟩:=oF T' sz (n:=es.size) (by simpa using rm) full hz
   obtain ⟨_,_,_,sa⟩:=qH T.msk rm full hz
   refine DH (DH (bN (s:={ s with heap:=h1 }) ho1 T' ?_))
   dsimp only
   rw[if_neg (Nat.not_lt.mpr (EI sa oD))]
   rw[e2]
   have z2:(order.filterMap ((insertAt es (below t.place q.j) (cD prog w ks,D8 b))[·]?)).size=es.size+1:=by
    rw[<- DY,pe2.length_eq,DY,sz]
   refine DH ?_
   show Ee _ _ (if ((order.filterMap ((insertAt es (below t.place q.j) (cD prog w ks,D8 b))[·]?)).size != (insertAt es (below t.place q.j) (cD prog w ks,D8 b)).size)=true then _ else _) _ _ _
   rw[if_neg (by rw[z2,sz];simp)]
   refine DN ?_
   dsimp only
   refine iZ (s:={ s with heap:=h1 }) ho1 (by rw[z2];lia) λh2 sb2 ho2 =>?_
   refine DN (hnew nx h2 _ (sb1.trans sb2) ⟨_,_,ho2,T2,by rw[z2];exact rm2,by rw[l2];exact hl,by rw[p2]⟩ (pe2.trans pm1))
  ·rw[if_neg (by simpa using full)]
   refine DN (hnew nx h1 _ sb1 ⟨_,_,ho1,T',?_,hl,rfl⟩ pm1)
   rw[sz]
   exact Ia full
end
section
variable  {prog:D9}{w:EE}{A:EV}{E:DK->DP->Prop}{s:DP}
def ElI (e:Int×DK)(k:Int):Prop:=∃t,e=(hashInt k,FT k t)
theorem vK {es:Array (Int×DK)}(els:∀e∈es,∃k,ElI e k):ElemsOf (intKind prog w) es.toList:=by
 intro e he
 obtain ⟨k,t,rfl⟩:=els e (EJ.mp he)
 exact ⟨⟨k,Ke _ _ _ _,rfl⟩,rfl⟩
theorem vL {t:SetTable}{es:Array (Int×DK)}(T:Tab t (es.map (·.1)))(h:Int)(x:DK){n:Nat}{q:Probe}(hn:n<10*turns t.mask)(W:Way (occ t) t.mask n (start t.mask h) q)(he:¬ occ t q.j)(hq:q.j<=t.mask)(hz:es.size+1<=t.mask) :
  layNew t es h x=(insertAt es (below t.place q.j) (h,x),{ t with place:=insertAt t.place (below t.place q.j) q.j },false,false):=by
 have hf:t.freeSlot h=some (q.j,false):=by
  unfold SetTable.freeSlot
  rcases qD T (H:=λ_=>h+1) (h:=h) W he hn rfl with ⟨g,_⟩ | ⟨_,_,i,_,_,_,h1,_⟩
  ·rw[show t.probe (λ_=>h+1) h (t.probeStart h)=some (.empty q.j none) from g]
   rfl
  ·have:h+1=h:=h1
   lia
 have T':=T.put W he hq (by rw[E5];exact hz)
 rw[<- fA es (below t.place q.j) (h,x) (·.1)] at T'
 have ft:=T'.fits
 rw[E5] at ft
 unfold layNew
 rw[hf]
 dsimp only
 rw[T.xT]
 dsimp only
 unfold SetTable.orStandIn
 rw[if_pos ft,ft]
 rfl
theorem qI {t:SetTable}{es:Array (Int×DK)}{n:Nat}{t':SetTable}{order:Array Nat}(e:t.relaid (es.map (·.1)) n=some (t',order))(pm:order.toList.Perm (EU es.size))(T':Tab t' ((order.filterMap (es[·]?)).map (·.1))) :
  relayAll t es n=(order.filterMap (es[·]?),t',false):=by
 unfold relayAll
 rw[e]
 dsimp only
 have c:coversAll order es.size=true:=by unfold coversAll;rw[List.isPerm_iff];exact pm
 have f:=T'.fits
 rw[E5] at f
 rw[c,f]
 rfl
theorem add_int {a:Addr}{es:Array (Int×DK)}{k:Int}{tok:Tok}{Q:Bool->DP->Prop}(I:dE w s.heap a es)(els:∀e∈es,∃k',ElI e k')(hz:es.size<300)
  (hin:(∃e∈es,ElI e k)->Q false s)
  (hnew:(¬ ∃e∈es,ElI e k)->∀h' es',Heap.SameBut a s.heap h'->dE w h' a es'->es'.toList.Perm ((hashInt k,.int k tok) :: es.toList)->Q true { s with heap:=h' }) :
  Ee (Es prog w) A (setAddHashed a (.int k tok) (hashInt k)) Q E s:=by
 obtain ⟨ep,t,ho,T,rm,hl,hp⟩:=I
 have hel:=vK (prog:=prog) (w:=w) els
 have hb:es.size<scanBound:=by unfold scanBound;lia
 have hf:t.fits es.size=true:=by have:=T.fits;rwa [E5] at this
 unfold setAddHashed setAddHashedIn
 refine Fb (DH (bN ho T ?_))
 dsimp only
 rw[byScan_of (knd:=intKind prog w) rfl hb hel]
 simp only[↓reduceIte]
 unfold setAddByScan
 refine DH ?_
 refine DH (Gz ?_)
 refine DH (wpAny_setScan_of (knd:=intKind prog w) (k:=k) (Ke _ _ _ _) ho rfl hf hel ?_)
 cases hr:List.findIdx? (λe=>(intKind prog w).is k e.2) es.toList with
 | some j =>
  dsimp only
  obtain ⟨hj,hpj,_⟩:=List.findIdx?_eq_some_iff_getElem.mp hr
  refine DN (DN (hin ⟨es.toList[j],EJ.mp (GB hj),?_⟩))
  obtain ⟨k',t',e'⟩:=els es.toList[j] (EJ.mp (GB hj))
  obtain ⟨u,e2⟩:=J1 hpj
  rw[e'] at e2
  cases e2
  exact ⟨_,e'⟩
 | none =>
  dsimp only
  have nx:¬ ∃e∈es,ElI e k:=by
   rintro ⟨e,he,t',rfl⟩
   have:=List.findIdx?_eq_none_iff.mp hr _ (EJ.mpr he)
   rw[Ke] at this
   cases this
  have hgw:∀(b:Bool) {s₁:DP} {Q':Unit->DP->Prop},Q' () s₁->Ee (Es prog w) A (match b with | true=>rule "set.scan.the-table-gave-way" | false=>pure ()) Q' E s₁ :=
   λb s₁ Q' hq=>by cases b <;> first | exact DN hq | exact Gz hq
  obtain ⟨n,q,hn,W,he,hq,hd⟩:=T.ends (hashInt k)
  have hz':es.size+1<=t.mask:=by
   rcases T.msk with e | e | e | e <;> rw[e] at rm ⊢ <;> lia
  rw[vL T (hashInt k) (.int k tok) hn W he hq hz']
  dsimp only
  refine DH (DN (a:=()) ?_)
  have T':=T.put W he hq (by rw[E5];exact hz')
  rw[<- fA es (below t.place q.j) (hashInt k,FT k tok) (·.1),hp] at T'
  rw[hp]
  simp only[↓reduceIte]
  refine DH ?_
  rw[show hashByValue 8 (.int k tok)=pure true from rfl]
  refine DN ?_
  simp only[↓reduceIte]
  have sz:(insertAt es (below t.place q.j) (hashInt k,FT k tok)).size=es.size+1:=cC _ _ _
  refine DH (iZ ho (by rw[sz];lia) λh1 sb1 ho1 =>?_)
  have pm1:=insertAt_perm es (below t.place q.j) (hashInt k,FT k tok)
  rw[T'.tooFull,E5,sz]
  by_cases full:(es.size+1)*5≥t.mask*3
  ·rw[if_pos (by simpa using full)]
   obtain ⟨t2,order,e2,pm2,T2,pe2,l2,p2,rm2⟩:=oF T' sz (n:=es.size) (by simpa using rm) full hz
   rw[qI e2 pm2 T2]
   dsimp only
   have z2:(order.filterMap ((insertAt es (below t.place q.j) (hashInt k,FT k tok))[·]?)).size=es.size+1:=by
    rw[<- DY,pe2.length_eq,DY,sz]
   refine DH (DN (a:=()) ?_)
   refine DH (iZ (s:={ s with heap:=h1 }) ho1 (by rw[z2];lia) λh2 sb2 ho2 =>?_)
   refine DN (DN (hnew nx h2 _ (sb1.trans sb2) ⟨_,_,ho2,T2,by rw[z2];exact rm2,by rw[l2];exact hl,by rw[p2]⟩ (pe2.trans pm1)))
  ·rw[if_neg (by simpa using full)]
   refine DN (DN (hnew nx h1 _ sb1 ⟨_,_,ho1,T',?_,hl,rfl⟩ pm1))
   rw[sz]
   exact Ia full
end
open PySem PySem.SetTable PyProof.Rows PySem.Spec
def TS (h h':Heap):Prop:=∀b o,o.cls = .type "tuple" -> h.get? b=some o->h'.get? b=some o
structure Kd (prog:D9)(w:EE)(κ:Type) where
 El:Heap->DK -> κ -> Prop
 hash:κ -> Int
 room:EV->Prop
 keeps:∀{h h':Heap} {v:DK} {k:κ},El h v k->TS h h'->El h' v k
 inj:∀{h:Heap} {v:DK} {k k':κ},El h v k->El h v k'->k=k'
 add:∀{A:EV} {E:DK->DP->Prop} {s:DP} {a:Addr} {es:Array (Int×DK)} {v:DK} {k:κ} {Q:Bool->DP->Prop},room A->dE w s.heap a es->(∀e∈es,∃k',e.1=hash k'/\El s.heap e.2 k')->El s.heap v k->es.size<300 →
  ((∃e∈es,El s.heap e.2 k)->∀tk,s.toks<=tk->Q false { s with toks:=tk }) →
  ((¬ ∃e∈es,El s.heap e.2 k)->∀h' es' tk,s.toks<=tk->Heap.SameBut a s.heap h'->dE w h' a es'->es'.toList.Perm ((hash k,v) :: es.toList)->Q true { s with heap:=h',toks:=tk }) →
  Ee (Es prog w) A (setAdd a v) Q E s
theorem TK.keep {prog:D9}{w:EE}{h h':Heap}{ks:List Int}{b:Addr}(x:TK prog w h ks b)(t:TS h h'):TK prog w h' ks b :=
 let ⟨o,items,n,ho,hc,r⟩:=x;⟨o,items,n,t b o hc ho,hc,r⟩
def kg (prog:D9)(w:EE):Kd prog w (List Int) where
 El:=λh v ks=>∃b,v = .ref b/\TK prog w h ks b
 hash:=cD prog w
 room:=λA=>A.units<cLine
 keeps:=λ⟨b,e,x⟩ t=>⟨b,e,x.keep t⟩
 inj:=λ⟨b,e,x⟩ ⟨b',e',x'⟩=>by
  rw[e] at e';injection e' with e';subst e';exact x.inj x'
 add:=by
  intro A E s a es v k Q hu I els hv hz hin hnew
  obtain ⟨b,rfl,hk⟩:=hv
  unfold setAdd
  refine Fb (DH (wpAny_pyHash_tuple hu hk ?_))
  have els':∀e∈es,∃ks',ElT prog w s.heap e ks':=λe he=>by
   obtain ⟨k',e1,b',e2,x⟩:=els e he
   exact ⟨k',b',Kf e1 e2,x⟩
  have conv:∀e∈es,(ElT prog w s.heap e k↔∃b,e.2 = .ref b/\TK prog w s.heap k b):=λe he=>by
   constructor
   ·rintro ⟨b',rfl,x⟩;exact ⟨b',rfl,x⟩
   ·rintro ⟨b',e2,x⟩
    obtain ⟨k',e1,b2,e3,x2⟩:=els e he
    rw[e2] at e3;injection e3 with e3;subst e3
    obtain rfl:=x.inj x2
    exact ⟨b',Kf e1 e2,x⟩
  refine zV (s:={ s with toks:=s.toks+(k.length+1) }) hu I els' hk hz (λx=>hin ?_ _ (GP _ _)) λx h' es' sb I' pm=>hnew ?_ h' es' _ (GP _ _) sb I' pm
  ·obtain ⟨e,he,x⟩:=x;exact ⟨e,he,(conv e he).mp x⟩
  ·rintro ⟨e,he,y⟩;exact x ⟨e,he,(conv e he).mpr y⟩
def uh (prog:D9)(w:EE):Kd prog w Int where
 El:=λ_ v k=>∃t,v = .int k t
 hash:=hashInt
 room:=λ_=>True
 keeps:=λx _=>x
 inj:=λ⟨t,e⟩ ⟨t',e'⟩=>by rw[e] at e';injection e'
 add:=by
  intro A E s a es v k Q _ I els hv hz hin hnew
  obtain ⟨t,rfl⟩:=hv
  unfold setAdd
  refine Fb (DH ((intKind prog w).pyHash (k:=k) (Ke _ _ _ _) ?_))
  have els':∀e∈es,∃k',ElI e k':=λe he=>by
   obtain ⟨k',e1,t',e2⟩:=els e he
   exact ⟨k',t',Kf e1 e2⟩
  have conv:∀e∈es,(ElI e k↔∃t,e.2=FT k t):=λe he=>by
   constructor
   ·rintro ⟨t',rfl⟩;exact ⟨t',rfl⟩
   ·rintro ⟨t',e2⟩
    obtain ⟨k',e1,t2,e3⟩:=els e he
    rw[e2] at e3;injection e3 with e3 e4;subst e3
    exact ⟨t',Kf e1 e2⟩
  refine add_int (s:={ s with toks:=s.toks+1 }) I els' hz (λx=>hin ?_ _ (Kg _)) λx h' es' sb I' pm=>hnew ?_ h' es' _ (Kg _) sb I' pm
  ·obtain ⟨e,he,x⟩:=x;exact ⟨e,he,(conv e he).mp x⟩
  ·rintro ⟨e,he,y⟩;exact x ⟨e,he,(conv e he).mpr y⟩
section
variable  {prog:D9}{w:EE}{κ:Type}(kd:Kd prog w κ)
structure Good (h:Heap)(es:Array (Int×DK))(l:List κ):Prop where
 el:∀e∈es,∃k,k∈l/\e.1=kd.hash k/\kd.El h e.2 k
 all:∀k∈l,∃e∈es,kd.El h e.2 k
 dis:es.toList.Pairwise (λe e'=>∀k,kd.El h e.2 k->¬ kd.El h e'.2 k)
 len:es.size<=l.length
variable  {kd}
theorem Good.keeps {h h':Heap}{es:Array (Int×DK)}{l:List κ}(G:Good kd h es l)(t:TS h h'):Good kd h' es l:=by
 refine ⟨λe he =>?_,λk hk =>?_,?_,G.len⟩
 ·obtain ⟨k,a,b,c⟩:=G.el e he;exact ⟨k,a,b,kd.keeps c t⟩
 ·obtain ⟨e,a,b⟩:=G.all k hk;exact ⟨e,a,kd.keeps b t⟩
 ·refine IQ (λ{e e'} he he' x k y z =>?_) G.dis
  obtain ⟨k1,_,_,c1⟩:=G.el e (EJ.mp he)
  obtain ⟨k2,_,_,c2⟩:=G.el e' (EJ.mp he')
  obtain rfl:=kd.inj y (kd.keeps c1 t)
  obtain rfl:=kd.inj z (kd.keeps c2 t)
  exact x _ c1 c2
theorem Good.nil (h:Heap):Good kd h #[] []:=⟨λe he=>(by simp at he),λk hk=>(by cases hk),(by simp),DS _⟩
theorem Good.same {h:Heap}{es:Array (Int×DK)}{l:List κ}(G:Good kd h es l){k:κ}(x:∃e∈es,kd.El h e.2 k):Good kd h es (l++[k]):=by
 refine ⟨λe he =>?_,λk' hk =>?_,G.dis,by rw[DT];have:=G.len;lia⟩
 ·obtain ⟨k,a,b⟩:=G.el e he;exact ⟨k,FJ _ a,b⟩
 ·rcases D6.mp hk with hk | hk
  ·exact G.all k' hk
  ·rw[DW] at hk;subst hk;exact x
theorem Good.more {h:Heap}{es es':Array (Int×DK)}{l:List κ}(G:Good kd h es l){k:κ}{v:DK}(hv:kd.El h v k)(x:¬ ∃e∈es,kd.El h e.2 k)(pm:es'.toList.Perm ((kd.hash k,v) :: es.toList)):Good kd h es' (l++[k]):=by
 have mem:∀e,e∈es'↔e=(kd.hash k,v)\/e∈es:=λe=>by
  rw[<- EJ,pm.mem_iff,Eg,EJ]
 refine ⟨λe he =>?_,λk' hk =>?_,?_,?_⟩
 ·rcases (mem e).mp he with rfl | he
  ·exact ⟨k,EC _ (DW.mpr rfl),rfl,hv⟩
  ·obtain ⟨k,a,b⟩:=G.el e he;exact ⟨k,FJ _ a,b⟩
 ·rcases D6.mp hk with hk | hk
  ·obtain ⟨e,a,b⟩:=G.all k' hk;exact ⟨e,(mem e).mpr (.inr a),b⟩
  ·rw[DW] at hk;subst hk;exact ⟨_,(mem _).mpr (.inl rfl),hv⟩
 ·rw[pm.pairwise_iff (λ{a b} z k y1 y2=>z k y2 y1)]
  refine List.Pairwise.cons (λe he k' y1 y2 =>?_) G.dis
  obtain rfl:=kd.inj y1 hv
  exact x ⟨e,EJ.mp he,y2⟩
 ·have:=pm.length_eq
  rw[Eu,DY,DY] at this
  rw[DT,Fj]
  have:=G.len
  lia
end
section
variable  {prog:D9}{w:EE}{A:EV}{R:Result->DP->Prop}{I:Addr}{fp:List Addr}{G:Array GenState->Array GenState->Prop}{n:Nat}{P:Nat->DK->Prop}{St:Nat->DP->Prop}{κ:Type}{kd:Kd prog w κ}
theorem qJ (W:WalksS prog w A.in1 I fp [I] G n P St)(hrm:kd.room A.in1)(hI:∀i s,St i s->∃o,s.heap.get? I=some o/\o.cls ≠ .type "tuple")(S:Addr)(hSf:S∉fp)(hIf:I∈fp)(ks:List κ)(hn:n=ks.length)(hb:n<300) :
  ∀(k i:Nat) (s:DP) (es:Array (Int×DK)),n-i=k->i<=n->St i s->(∀j v,P j v->∃q,ks[j]? = some q/\kd.El s.heap v q) →
   dE w s.heap S es->Good kd s.heap es (ks.take i) →
   (∀s' es',Moved [S,I] G s s'->dE w s'.heap S es'->Good kd s'.heap es' ks->R (.ok (.ret .none)) s') →
   IL (Es prog w) A (.builtin "set.update.loop" ⟨[.ref S,.ref I],[]⟩) R s:=by
 have hSI:S≠I:=λe=>hSf (e ▸ hIf)
 have ts:∀i s s',St i s->Moved [I] G s s'->TS s.heap s'.heap:=λi s s' hst hm b o hc e=>by
  refine hm.heap b o (λhb =>?_) e
  rw[DW] at hb
  obtain ⟨o',e',c'⟩:=hI i s hst
  rw[hb,e'] at e;cases e;exact c' hc
 intro k
 induction k with
 | zero =>
  intro i s es hk hi hst hv hS hG hR
  have hin:i=n:=by omega
  subst hin
  refine ES Kj ?_
  rw[EM HY _]
  show Ee _ A.in1 (pyNext (.ref I) >>= _) _ _ s
  refine DH (W.done s _ _ hst λs' hm =>?_)
  show Ee _ A.in1 (ret F7) _ _ s'
  rw[D5 (by omega)] at hG
  exact DN (hR s' es (hm.mono λb hb=>by rw[DW] at hb;simp[hb]) (hS.at λo e=>hm.heap S o (by rw[DW];exact hSI) e) (hG.keeps (ts _ _ _ hst hm)))
 | succ k ih =>
  intro i s es hk hi hst hv hS hG hR
  have hlt:i<n:=by omega
  refine ES Kj ?_
  rw[EM HY _]
  show Ee _ A.in1 (pyNext (.ref I) >>= _) _ _ s
  refine DH (W.item i s _ _ hlt hst λv s' hP hst' hm =>?_)
  have t0:=ts _ _ _ hst hm
  obtain ⟨q,eq,hq⟩:=hv i v hP
  have hS':dE w s'.heap S es:=hS.at λo e=>hm.heap S o (by rw[DW];exact hSI) e
  have hG':=hG.keeps t0
  have tk:ks.take (i+1)=ks.take i++[q]:=by rw[Nb,eq];rfl
  show Ee _ A.in1 (Jr [v] (setAdd S v) >>= _) _ _ s'
  have hm2:Moved [S,I] G s s':=hm.mono λb hb=>by rw[DW] at hb;simp[hb]
  refine DH (Fb (kd.add hrm hS' (λe he =>?_) (kd.keeps hq t0) ?_ (λx tk' htk =>?_) λx h' es' tk' htk sb I' pm =>?_))
  ·obtain ⟨k',_,a,b⟩:=hG'.el e he;exact ⟨k',a,b⟩
  ·have:=hG'.len;rw[EF] at this;omega
  ·refine DN ⟨Fs HY _,ih (i+1) _ es (by omega) hlt (W.frame _ s' _ _ hst' htk λb _ o e=>e) (λj v' p =>?_) hS' (by rw[tk];exact hG'.same x) λs'' es'' hm'' a b =>?_⟩
   ·obtain ⟨q',a,b⟩:=hv j v' p;exact ⟨q',a,kd.keeps b t0⟩
   ·exact hR s'' es'' (Nt W.gtrans (hm2.then_heap htk λb o _ e=>e) hm'') a b
  ·have t1:TS s'.heap h':=λb o hc e=>by
    rw[sb.2 b (λhb=>by
     obtain ⟨ep,t,ho,_⟩:=hS'
     rw[hb,ho] at e;cases e;simp[aS] at hc)]
    exact e
   refine DN ⟨Fs HY _,ih (i+1) _ es' (by omega) hlt (W.frame _ s' _ _ hst' htk λb hb o e =>?_) (λj v' p =>?_) I' (by rw[tk];exact (hG'.more (kd.keeps hq t0) x pm).keeps t1) λs'' es'' hm'' a b =>?_⟩
   ·rw[sb.2 b (λh:b=S=>hSf (h ▸ hb))];exact e
   ·obtain ⟨q',a,b⟩:=hv j v' p;exact ⟨q',a,kd.keeps (kd.keeps b t0) t1⟩
   ·refine hR s'' es'' (Nt W.gtrans (hm2.then_heap htk λb o hb e =>?_) hm'') a b
    rw[sb.2 b (λh:b=S=>hb (by rw[h];exact En))];exact e
end
section
variable  {prog:D9}{w:EE}{A:EV}{E:DK->DP->Prop}{s:DP}
theorem uj (a:DK){Q₁:DK->DP->Prop}
    (h:Q₁ (.ref s.heap.objs.size) { s with heap:=s.heap.push (aS #[] 0 (.fresh 0 0 (!w.params.followText "set-order"))) }) :
    IL (Es prog w) A (.call (.builtin "set.__new__") ⟨[.type "set",a],[]⟩) (wants Q₁ E) s:=by
  refine Ld ?_
  show Ee _ A.in1 (do checkBuiltinCall "set.__new__" ⟨[.type "set",a],[]⟩;again (.builtin "set.__new__" ⟨[.type "set",a],[]⟩)) _ _ s
  refine DH (Gx (PySem.F.newCall_set_1 a) (DN ⟨Fs MN _,ES F.entry_set_new ?_⟩))
  rw[EM MN _]
  unfold Builtin.«set.__new__» Builtin.Frozenset.newClass
  have hsub:=sub_set_self
  obtain ⟨hp,g,d,tk,os⟩:=s
  dsimp only
  wp_walk
  refine KD (DN ?_)
  dsimp only
  simp only[newObj]
  refine DH (wpAny_alloc (DN ?_))
  exact DN h
theorem vM (led:Bool):Tab (.fresh 0 0 led) #[]:=by
 refine ⟨rfl,λi j a b e =>?_,rfl,λi j e =>?_,.inl rfl,EB _,λi j h e =>?_⟩ <;> (simp[SetTable.fresh] at e)
theorem lQ {h:Heap}{a:Addr}(ho:h.get? a=some (aS #[] 0 (.fresh 0 0 (!w.params.followText "set-order")))):dE w h a #[] :=
 ⟨0,_,ho,(by rw[Array.map_empty];exact vM _),(by show 0*5<7*3;decide),rfl,rfl⟩
theorem sub_tuple_set:isSubtype (.type "tuple") (.type "set")=pure false:=by rw[GW];kernel_rfl
theorem sub_tuple_frozenset:isSubtype (.type "tuple") (.type "frozenset")=pure false:=by rw[GW];kernel_rfl
end
section
variable  {prog:D9}{w:EE}{A:EV}{E:DK->DP->Prop}{s:DP}
set_option maxHeartbeats 3200000 in
theorem fV {κ:Type}{kd:Kd prog w κ}{l:Addr}{items:Array DK}{ks:List κ}{Q:DK->DP->Prop}
  (hh:A.handled=none) (hrm:kd.room A.in1.in1.in1) (hl:s.heap.IsTuple l items) (hz:items.size=ks.length) (hi:∀(i:Nat) v,items[i]? = some v->∃q,ks[i]? = some q/\kd.El s.heap v q) (hb:items.size<300)
  (h:∀(h':Heap) (es:Array (Int×DK)) (tk:Nat),s.toks<=tk->dE w h' s.heap.objs.size es->Good kd h' es ks →
   (∀b o,s.heap.get? b=some o->h'.get? b=some o)->Q (.ref s.heap.objs.size) { s with heap:=h',toks:=tk }) :
  Ee (Es prog w) A (call (.type "set") [.ref l]) Q E s:=by
 obtain ⟨c,tl,hmro⟩:=FQ.mro
 have hmade:=FQ.made
 have hsub:=FQ.sub
 refine Lh (Ld ?_)
 show Ee _ _ (callAny (.type "set") _) _ _ _
 refine DN ⟨IY _ (by decide +kernel),ES Mf ?_⟩
 rw[LU (Lf "set" [.ref l] []) rfl]
 have h1:=FQ.notType
 have h2:=FQ.canCreate
 have hct:=KO (.ref l)
 repeat (any_goals (first | assumption | wp_step))
 have gd:(s.heap.push (aS #[] 0 (.fresh 0 0 (!w.params.followText "set-order")))).objs.size=s.heap.objs.size+1:=Fz _ _
 refine HS (uj (w:=w) (.ref l) (E:=E) (Q₁:=λobj s₁=>obj = .ref s.heap.objs.size/\s₁={ s with heap:=s.heap.push (aS #[] 0 (.fresh 0 0 (!w.params.followText "set-order"))) }) ⟨rfl,rfl⟩) λr s₁ hr =>?_
 cases r with
 | error e=>exact hr
 | ok fl =>
  cases fl with
  | ret obj =>
   obtain ⟨rfl,rfl⟩:=hr
   generalize hled:(!w.params.followText "set-order")=led at gd ⊢
   have hS:(s.heap.push (aS #[] 0 (.fresh 0 0 led))).get? s.heap.objs.size=some (aS #[] 0 (.fresh 0 0 led)):=D2 _ rfl
   have hT:Shared.TypeIs { s with heap:=s.heap.push (aS #[] 0 (.fresh 0 0 led)) } (.ref s.heap.objs.size) "set" :=⟨_,hS,rfl⟩
   have hli:=FQ.init.lookup
   have hbi:=FQ.init.bind (.ref s.heap.objs.size)
   repeat (any_goals (first | assumption | wp_step))
   refine HS (HF (R:=wants (λr s₂=>r = .none/\∃h' es tk,s₂={ s with heap:=h',toks:=tk }/\s.toks<=tk ∧
     dE w h' s.heap.objs.size es/\Good kd h' es ks ∧
     (∀b o,s.heap.get? b=some o->h'.get? b=some o)) E) FQ.init.plain MG (check_set_init_1 hT ?_)) λr₂ s₂ hr₂ =>?_
   ·obtain ⟨ol,hol,hcl,nl,hdl⟩:=id hl
    obtain ⟨ocls,odict,odata,oslots⟩:=ol
    simp only at hcl hdl
    subst hcl;subst hdl
    have hol':(s.heap.push (aS #[] 0 (.fresh 0 0 led))).get? l=some { cls :=.type "tuple",dict:=odict,data :=.seq items nl,slots:=oslots }:=DJ _ hol
    have hsls:=sub_tuple_set
    have hslf:=sub_tuple_frozenset
    have hne:(GO "tuple" == GO "dict")=false:=by decide
    have hl1:(s.heap.push (aS #[] 0 (.fresh 0 0 led))).IsTuple l items:=⟨_,hol',rfl,nl,rfl⟩
    unfold Builtin.«set.__init__» noKeywords Builtin.Frozenset.updateFrom
    generalize hPI:pyIter=PI
    wp_walk
    subst hPI
    refine GL hl1 ?_
    refine DH (Jj ?_)
    have hlS:l<s.heap.objs.size:=D4 hol
    have hh3:A.in1.in1.in1.handled=none:=by simp[hh]
    have hneI:l≠(s.heap.push (aS #[] 0 (.fresh 0 0 led))).objs.size:=by
     rw[gd];exact Ed (FG hlS)
    have hSf:s.heap.objs.size∉[(s.heap.push (aS #[] 0 (.fresh 0 0 led))).objs.size,l]:=by
     rw[gd];simp only[Eg,DW,IC,or_false,not_or]
     exact ⟨Ed (GA _),Hu hlS⟩
    refine qJ (kd:=kd) ((Nu hh3 _ l hneI items).toS) hrm (λi s' st =>?hI) s.heap.objs.size hSf En ks hz hb (items.size-0) 0 _ #[] (by lia) (EB _)
     ⟨⟨_,D2 _ rfl,rfl,rfl⟩,(hl1.push _)⟩ ?hv (by subst hled;exact lQ (DJ _ hS)) (Good.nil _) ?hR
    case hI =>
     obtain ⟨o,ho,hc,_⟩:=st.1
     exact ⟨o,ho,by rw[hc];decide⟩
    case hv =>
     intro j v hv
     obtain ⟨q,e,x⟩:=hi j v hv
     exact ⟨q,e,kd.keeps x λb o _ e=>DJ _ (DJ _ e)⟩
    case hR =>
     intro s' es' hm hS' hG'
     obtain ⟨h',g',d',tk',os'⟩:=s'
     have eg:g'=s.gens:=hm.gens
     have ed:d'=s.drawn:=hm.drawn
     have eo:os'=s.os:=hm.os
     subst eg;subst ed;subst eo
     show Ee _ _ _ _ _ _
     refine DN ?_
     show Ee _ _ (ret F7) _ _ _
     refine DN ⟨rfl,h',es',tk',rfl,hm.toks,hS',hG',λb o e =>?_⟩
     have hbb:=D4 e
     have hb1:b≠s.heap.objs.size:=Ed hbb
     have hb2:b≠(s.heap.push (aS #[] 0 (.fresh 0 0 led))).objs.size:=by
      rw[gd];exact Ed (FG hbb)
     exact hm.heap b o (by simp only[Eg,DW,IC,or_false,not_or];exact ⟨hb1,hb2⟩) (DJ _ (DJ _ e))
   ·cases r₂ with
    | error e=>exact hr₂
    | ok fl₂ =>
     cases fl₂ with
     | ret r =>
      obtain ⟨rfl,h',es,tk,rfl,htk,hS',hG',hk'⟩:=hr₂
      repeat (any_goals (first | assumption | wp_step))
      exact h _ _ _ htk hS' hG' hk'
     | _=>exact hr₂.elim
  | _=>exact hr.elim
end
section
variable  {prog:D9}{w:EE}{A:EV}{E:DK->DP->Prop}{s:DP}
set_option maxHeartbeats 3200000 in
theorem call_set_list {κ:Type}{kd:Kd prog w κ}{l:Addr}{items:Array DK}{ks:List κ}{Q:DK->DP->Prop}
  (hh:A.handled=none) (hrm:kd.room A.in1.in1.in1) (hl:s.heap.IsList l items) (hz:items.size=ks.length) (hi:∀(i:Nat) v,items[i]? = some v->∃q,ks[i]? = some q/\kd.El s.heap v q) (hb:items.size<300)
  (h:∀(h':Heap) (es:Array (Int×DK)) (tk:Nat),s.toks<=tk->dE w h' s.heap.objs.size es->Good kd h' es ks →
   (∀b o,s.heap.get? b=some o->h'.get? b=some o)->Q (.ref s.heap.objs.size) { s with heap:=h',toks:=tk }) :
  Ee (Es prog w) A (call (.type "set") [.ref l]) Q E s:=by
 obtain ⟨c,tl,hmro⟩:=FQ.mro
 have hmade:=FQ.made
 have hsub:=FQ.sub
 refine Lh (Ld ?_)
 show Ee _ _ (callAny (.type "set") _) _ _ _
 refine DN ⟨IY _ (by decide +kernel),ES Mf ?_⟩
 rw[LU (Lf "set" [.ref l] []) rfl]
 have h1:=FQ.notType
 have h2:=FQ.canCreate
 have hct:=KO (.ref l)
 repeat (any_goals (first | assumption | wp_step))
 have gd:(s.heap.push (aS #[] 0 (.fresh 0 0 (!w.params.followText "set-order")))).objs.size=s.heap.objs.size+1:=Fz _ _
 refine HS (uj (w:=w) (.ref l) (E:=E) (Q₁:=λobj s₁=>obj = .ref s.heap.objs.size/\s₁={ s with heap:=s.heap.push (aS #[] 0 (.fresh 0 0 (!w.params.followText "set-order"))) }) ⟨rfl,rfl⟩) λr s₁ hr =>?_
 cases r with
 | error e=>exact hr
 | ok fl =>
  cases fl with
  | ret obj =>
   obtain ⟨rfl,rfl⟩:=hr
   generalize hled:(!w.params.followText "set-order")=led at gd ⊢
   have hS:(s.heap.push (aS #[] 0 (.fresh 0 0 led))).get? s.heap.objs.size=some (aS #[] 0 (.fresh 0 0 led)):=D2 _ rfl
   have hT:Shared.TypeIs { s with heap:=s.heap.push (aS #[] 0 (.fresh 0 0 led)) } (.ref s.heap.objs.size) "set" :=⟨_,hS,rfl⟩
   have hli:=FQ.init.lookup
   have hbi:=FQ.init.bind (.ref s.heap.objs.size)
   repeat (any_goals (first | assumption | wp_step))
   refine HS (HF (R:=wants (λr s₂=>r = .none/\∃h' es tk,s₂={ s with heap:=h',toks:=tk }/\s.toks<=tk ∧
     dE w h' s.heap.objs.size es/\Good kd h' es ks ∧
     (∀b o,s.heap.get? b=some o->h'.get? b=some o)) E) FQ.init.plain MG (check_set_init_1 hT ?_)) λr₂ s₂ hr₂ =>?_
   ·obtain ⟨ol,hol,hcl,nl,hdl⟩:=id hl
    obtain ⟨ocls,odict,odata,oslots⟩:=ol
    simp only at hcl hdl
    subst hcl;subst hdl
    have hol':(s.heap.push (aS #[] 0 (.fresh 0 0 led))).get? l=some { cls :=.type "list",dict:=odict,data :=.seq items nl,slots:=oslots }:=DJ _ hol
    have hsls:=PySem.F.sub_list_set
    have hslf:=PySem.F.sub_list_frozenset
    have hne:(GO "list" == GO "dict")=false:=by decide
    have hl1:(s.heap.push (aS #[] 0 (.fresh 0 0 led))).IsList l items:=⟨_,hol',rfl,nl,rfl⟩
    unfold Builtin.«set.__init__» noKeywords Builtin.Frozenset.updateFrom
    generalize hPI:pyIter=PI
    wp_walk
    subst hPI
    refine GZ hl1 ?_
    refine DH (Jj ?_)
    have hlS:l<s.heap.objs.size:=D4 hol
    have hh3:A.in1.in1.in1.handled=none:=by simp[hh]
    have hneI:l≠(s.heap.push (aS #[] 0 (.fresh 0 0 led))).objs.size:=by
     rw[gd];exact Ed (FG hlS)
    have hSf:s.heap.objs.size∉[(s.heap.push (aS #[] 0 (.fresh 0 0 led))).objs.size,l]:=by
     rw[gd];simp only[Eg,DW,IC,or_false,not_or]
     exact ⟨Ed (GA _),Hu hlS⟩
    refine qJ (kd:=kd) ((Ma hh3 _ l hneI items).toS) hrm (λi s' st =>?hI) s.heap.objs.size hSf En ks hz hb (items.size-0) 0 _ #[] (by lia) (EB _)
     ⟨⟨_,D2 _ rfl,rfl,rfl⟩,(hl1.push _)⟩ ?hv (by subst hled;exact lQ (DJ _ hS)) (Good.nil _) ?hR
    case hI =>
     obtain ⟨o,ho,hc,_⟩:=st.1
     exact ⟨o,ho,by rw[hc];decide⟩
    case hv =>
     intro j v hv
     obtain ⟨q,e,x⟩:=hi j v hv
     exact ⟨q,e,kd.keeps x λb o _ e=>DJ _ (DJ _ e)⟩
    case hR =>
     intro s' es' hm hS' hG'
     obtain ⟨h',g',d',tk',os'⟩:=s'
     have eg:g'=s.gens:=hm.gens
     have ed:d'=s.drawn:=hm.drawn
     have eo:os'=s.os:=hm.os
     subst eg;subst ed;subst eo
     show Ee _ _ _ _ _ _
     refine DN ?_
     show Ee _ _ (ret F7) _ _ _
     refine DN ⟨rfl,h',es',tk',rfl,hm.toks,hS',hG',λb o e =>?_⟩
     have hbb:=D4 e
     have hb1:b≠s.heap.objs.size:=Ed hbb
     have hb2:b≠(s.heap.push (aS #[] 0 (.fresh 0 0 led))).objs.size:=by
      rw[gd];exact Ed (FG hbb)
     exact hm.heap b o (by simp only[Eg,DW,IC,or_false,not_or];exact ⟨hb1,hb2⟩) (DJ _ (DJ _ e))
   ·cases r₂ with
    | error e=>exact hr₂
    | ok fl₂ =>
     cases fl₂ with
     | ret r =>
      obtain ⟨rfl,h',es,tk,rfl,htk,hS',hG',hk'⟩:=hr₂
      repeat (any_goals (first | assumption | wp_step))
      exact h _ _ _ htk hS' hG' hk'
     | _=>exact hr₂.elim
  | _=>exact hr.elim
end
namespace F9
theorem fB:Slot "set_iterator" "__next__" "set_iterator.__next__" :=
 .of (owner := "set_iterator") (n := "__next__") (by rw[HN,Gn];kernel_rfl) (by decide +kernel) (by decide +kernel) (by decide +kernel)
  (by first | exact .inl (by decide +kernel) | exact .inr (by decide +kernel)) (by rw[GW];kernel_rfl)
theorem nF:entryFor table "set_iterator.__next__" = some Builtin.«set_iterator.__next__» := KG (by kernel_rfl)
theorem pG (a:DK):argsOk "set_iterator.__next__" ⟨[a],[]⟩:=by
 unfold argsOk;kernel_rfl
theorem lR:entryFor table "set.__iter__" = some Builtin.«frozenset.__iter__» :=
 entryFor_alias (id' := "frozenset.__iter__") (by kernel_rfl) rfl (by decide +kernel) (by kernel_rfl)
end F9
theorem lT {α:Type}:∀(l:List α) (i:Nat) (x:α),l[i]? = some x->(x :: l.eraseIdx i).Perm l
 | [],i,x,h=>by simp at h
 | y :: l,0,x,h=>by simp at h;subst h;exact Iv _
 | y :: l,i+1,x,h=>by
  rw[GU] at h
  rw[Ki]
  exact (List.Perm.swap y x _).trans (List.Perm.cons y (lT l i x h))
theorem um {α:Type}(next:Nat->Nat):∀(fuel k:Nat) (left:List α) (out:Array α),left.length=fuel->(pickOrder.go next fuel k left out).toList.Perm (out.toList++left)
 | 0,k,left,out,h=>by
  have:left=[]:=IX.mp h
  subst this
  unfold pickOrder.go
  rw[E6]
 | fuel+1,k,left,out,h=>by
  unfold pickOrder.go
  have hl:next k%left.length<left.length:=Jf _ (by lia)
  have e:=DL hl
  rw[e]
  dsimp only
  have ih:=um next fuel (k+1) (left.eraseIdx (next k%left.length)) (out.push left[next k%left.length]) (by rw[Ll,if_pos hl];lia)
  refine ih.trans ?_
  rw[Gi,E2]
  exact Gj _ (lT _ _ _ e)
theorem vN {α:Type}(next:Nat->Nat)(xs:Array α):(pickOrder next xs).toList.Perm xs.toList:=by
 unfold pickOrder
 have:=um next xs.size 0 xs.toList #[] (by simp)
 simpa using this
section
variable  {prog:D9}{w:EE}{A:EV}{E:DK->DP->Prop}{s:DP}
def walkVals (w:EE)(a:Addr)(es:Array (Int×DK))(ep:Nat):List DK :=
 if w.params.followText "set-order" = true then (pickOrder (w.params.setOrder a ep) es).toList.map (·.2) else es.toList.map (·.2)
theorem oG (w:EE)(a:Addr)(es:Array (Int×DK))(ep:Nat):(walkVals w a es ep).Perm (es.toList.map (·.2)):=by
 unfold walkVals
 split
 ·exact (vN _ _).map _
 ·exact Iv _
theorem jv {Q:Bool->DP->Prop}(h:Q (w.params.followText "set-order") s):Ee (Es prog w) A setsByText Q E s:=by
 unfold setsByText
 exact DH (KD (DN h))
theorem sj {a:Addr}{es:Array (Int×DK)}{ep:Nat}{t:SetTable}{Q:Option (DK×Nat)->DP->Prop}(ho:s.heap.get? a=some (aS es ep t))(T:Tab t (es.map (·.1)))(hl:t.led = !w.params.followText "set-order")(hp:t.plain=true){slot i:Nat}
  (hs:w.params.followText "set-order" = false->below t.place slot=i)
  (hy:∀x slot',(walkVals w a es ep)[i]? = some x->(w.params.followText "set-order" = false->below t.place slot'=i+1)->Q (some (x,slot')) s)
  (hn:(walkVals w a es ep)[i]? = none->Q none s):Ee (Es prog w) A (setNext a slot i ep) Q E s:=by
 unfold setNext
 refine DH (bN ho T ?_)
 dsimp only
 refine DH (jv ?_)
 cases hb:w.params.followText "set-order" with
 | true =>
  rw[hb] at hs hy
  simp only[bne_self_eq_false,Ei,if_true,if_false]
  refine DH ?_
  unfold setWalk
  refine DH (bN ho T ?_)
  dsimp only
  refine DH (jv ?_)
  rw[hb]
  simp only[if_true]
  refine DH (KD (DN ?_))
  refine DN ?_
  have ew:(walkVals w a es ep)[i]? = ((pickOrder (w.params.setOrder a ep) es)[i]?).map (·.2):=by
   unfold walkVals
   rw[if_pos hb,D1,D7]
  show Q (((pickOrder (w.params.setOrder a ep) es)[i]?).map λe=>(e.2,slot)) s
  cases hx:(pickOrder (w.params.setOrder a ep) es)[i]? with
  | none=>rw[hx] at ew;exact hn ew
  | some e=>rw[hx] at ew;exact hy _ _ ew (λq=>by cases q)
 | false =>
  have hs':=hs hb
  simp only[Ei,if_false]
  have ew:(walkVals w a es ep)[i]? = (es[i]?).map (·.2):=by
   unfold walkVals
   rw[if_neg (by rw[hb];exact Eh),D1,D7]
  show Ee _ _ (if (!t.plain && decide (es.size>1))=true then _ else _) _ _ _
  rw[hp]
  simp only[FV,JU,Ei,if_false]
  refine DH ?_
  show Ee _ _ (if (!t.led && !es.isEmpty)=true then _ else _) _ _ _
  rw[hl,hb]
  simp only[Ls,FV,JU,Ei,if_false]
  refine DN ?_
  rw[hs']
  by_cases hi:i<es.size
  ·have ee:es[i]? = some es[i]:=Ep hi
   have hpl:i<t.place.size:=by rw[T.size,E5];exact hi
   have ep':t.place[i]? = some t.place[i]:=Ep hpl
   rw[ee,ep']
   rw[ee] at ew
   exact DN (hy _ _ ew λ_=>rW T.rise ep')
  ·have ee:es[i]? = none:=G9 (by lia)
   rw[ee]
   rw[ee] at ew
   exact DN (hn ew)
def jw (h:Heap)(it a:Addr)(slot i n ep:Nat):Prop:=h.get? it=some { cls :=.type "set_iterator",data :=.fields #[.int slot 0,.int i 0,.ref a,.int n 0,.int ep 0] }
theorem jw.typeIs {it a:Addr}{slot i n ep:Nat}(x:jw s.heap it a slot i n ep):s.TypeIs (.ref it) "set_iterator" :=⟨_,x,rfl⟩
end
open PySem PySem.SetTable PyProof.Rows
section
variable  {prog:D9}{w:EE}{A:EV}{E:DK->DP->Prop}{s:DP}
structure sk (w:EE)(h:Heap)(it a:Addr)(es:Array (Int×DK))(ep i:Nat):Prop where
 st:∃t slot,h.get? a=some (aS es ep t)/\Tab t (es.map (·.1))/\t.led=(!w.params.followText "set-order")/\t.plain=true/\(w.params.followText "set-order" = false->below t.place slot=i)/\jw h it a slot i es.size ep
theorem uo {it a:Addr}{es:Array (Int×DK)}{ep i:Nat}{Q:Option DK->DP->Prop}(hh:A.handled=none)(hne:it≠a)(O:sk w s.heap it a es ep i)
  (hy:∀x h',(walkVals w a es ep)[i]? = some x->sk w h' it a es ep (i+1)->Heap.SameBut it s.heap h'->Q (some x) { s with heap:=h' })
  (hn:(walkVals w a es ep)[i]? = none->∀h',Heap.ExtBut it s.heap h'->Q none { s with heap:=h' }) :
  Ee (Es prog w) A (pyNext (.ref it)) Q E s:=by
 obtain ⟨t,slot,ho,T,hl,hp,hs,hit⟩:=O.st
 have hf:t.fits es.size=true:=by have:=T.fits;rwa [E5] at this
 unfold pyNext
 refine DH (GG (Fi (name:=Str.ofString "__next__") hit.typeIs F9.fB
  (E8 F9.fB hit.typeIs F9.nF ?_ (F9.pG _))))
 show Ee _ _ (fieldsOf (.ref it) >>= _) _ _ s
 refine DH (wpAny_fieldsOf hit rfl ?_)
 show Ee _ _ (setEntries a >>= _) _ _ s
 refine DH (LH ho rfl hf ?_)
 rw[if_neg (by simp)]
 show Ee _ _ (setNext a ((slot:Int).toNat) ((i:Int).toNat) ((ep:Int).toNat) >>= _) _ _ s
 rw[E1,E1,E1]
 refine DH (sj ho T hl hp hs (λx slot' ex hs' =>?_) λex =>?_)
 ·dsimp only
  refine DH (F1 hit (by simp) λh1 e1 sb1 =>?_)
  refine DH (F1 e1 (by simp) λh2 e2 sb2 =>?_)
  refine DN ⟨x,rfl,DN (hy x h2 ex ⟨t,slot',?_,T,hl,hp,hs',?_⟩ (sb1.trans sb2))⟩
  ·rw[(sb1.trans sb2).2 a (Ft hne)];exact ho
  ·unfold jw
   rw[e2]
   simp[HD]
 ·dsimp only
  refine DH (F1 hit (by simp) λh1 e1 sb1 =>?_)
  show Ee _ _ (newExc (.type "StopIteration") [] >>= _) _ _ _
  refine DH ?_
  simp only[newExc,newTuple]
  refine DH (E7 ?_ (by size_fits))
  refine DH (m:=firstArgMember _ _) (Gx (a:=F7) (by first | rfl | (simp only[firstArgMember];rfl)) ?_)
  refine E7 ?_ (by size_fits)
  simp only[raiseNew]
  refine DH (LZ ?_)
  first | rw[show A.in1.handled=none from hh] | rw[hh]
  refine DH (DN (MY ?_))
  refine DH (Ht (T := "StopIteration") (b:=true) ⟨_,D2 _ rfl,rfl⟩ J0 ?_)
  exact DN (hn ex _ ((sb1.extBut.push _).push _))
theorem qK {it a S:Addr}{es:Array (Int×DK)}{ep:Nat}{res:DK}{R:Result->DP->Prop}(hh:A.in1.handled=none)(hne:it≠a)(hSI:S≠it)(hSa:S≠a)(hz:es.size<300) :
  ∀(k i:Nat) (h:Heap) (acc:Array DK) (c:Nat),es.size-i=k->i<=es.size->sk w h it a es ep i->h.get? S=some { cls :=.type "list",dict:=none,data :=.seq acc c,slots := #[] }->acc.toList=(walkVals w a es ep).take i →
  (∀h' acc' c',(∀b o,b≠S->b≠it->h.get? b=some o->h'.get? b=some o)->h'.get? S=some { cls :=.type "list",dict:=none,data :=.seq acc' c',slots := #[] }->acc'.toList=walkVals w a es ep->R (.ok (.ret res)) { s with heap:=h' }) →
  IL (Es prog w) A (.builtin "list.extend.loop" ⟨[.ref S,.ref it,res],[]⟩) R { s with heap:=h }:=by
 have lw:(walkVals w a es ep).length=es.size:=by rw[(oG w a es ep).length_eq,DI,DY]
 have zl:300<=D3:=by rw[G4];lia
 intro k
 induction k with
 | zero =>
  intro i h acc c hk hi O hS ha hR
  have hin:i=es.size:=by lia
  subst hin
  refine ES LC ?_
  rw[EM IK _]
  show Ee _ A.in1 (pyNext (.ref it) >>= _) _ _ { s with heap:=h }
  refine DH (uo hh hne O (λx h' ex =>?_) λex h' xb =>?_)
  ·rw[Fp (by lia)] at ex;cases ex
  ·refine DN (hR h' acc c (λb o _ hb e=>xb b o hb e) (xb S _ hSI hS) ?_)
   rw[ha,D5 (by lia)]
 | succ k ih =>
  intro i h acc c hk hi O hS ha hR
  have hlt:i<es.size:=by lia
  refine ES LC ?_
  rw[EM IK _]
  show Ee _ A.in1 (pyNext (.ref it) >>= _) _ _ { s with heap:=h }
  refine DH (uo hh hne O (λx h' ex O' sb =>?_) λex =>?_)
  ·have hS':h'.get? S=some { cls :=.type "list",dict:=none,data :=.seq acc c,slots := #[] }:=by rw[sb.2 S hSI];exact hS
   have hal:acc.size=i:=by rw[<- DY,ha,EF];lia
   show Ee _ A.in1 (updateSeq S (·.push x) >>= _) _ _ _
   refine DH ?_
   refine FR (s:={ s with heap:=h' }) hS' rfl (DN ⟨Fs IK _,ih (i+1) _ (acc.push x) _ (by lia) hlt ?_ (EZ _ hS' rfl) ?_ λh'' acc' c' kk hS'' ha' =>?_⟩)
    (by rw[hal];lia) (by show (acc.push x).size<=D3+1;rw[HH,hal];lia)
   ·obtain ⟨t,slot,ho,T,hl,hp,hs,hit⟩:=O'.st
    exact ⟨t,slot,(Eo _ _ hSa).trans ho,T,hl,hp,hs,(Eo _ _ hSI).trans hit⟩
   ·rw[Gi,ha,Nb,ex];rfl
   ·refine hR h'' acc' c' (λb o hb hb2 e=>kk b o hb hb2 ?_) hS'' ha'
    refine (Eo _ _ (Ft hb)).trans ?_
    rw[sb.2 b hb2];exact e
  ·rw[DL (by lia)] at ex;cases ex
theorem qL {a:Addr}{es:Array (Int×DK)}{R:List DK->DP->Prop}(hh:A.handled=none)(I:dE w s.heap a es)(hz:es.size<300)
  (h:∀h1 vs,vs.Perm (es.toList.map (·.2))->(∀b o,s.heap.get? b=some o->h1.get? b=some o)->s.heap.objs.size<=h1.objs.size->R vs { s with heap:=h1 }) :
  Ee (Es prog w) A (collect (.ref a)) R E s:=by
 obtain ⟨ep,t,ho,T,rm,hl,hp⟩:=I
 have hf:t.fits es.size=true:=by have:=T.fits;rwa [E5] at this
 have hlt:=D4 ho
 unfold collect
 refine DH (Jj (ES F.entry_proto_collect ?_))
 rw[EM F.plain_proto_collect _]
 show Ee _ A.in1 (newList [] >>= λl=>again (.builtin "list.__iadd__" ⟨[l,.ref a],[]⟩)) _ _ s
 refine DH (E7 ?_)
 refine DN ⟨Fs Mg _,ES F.entry_list_iadd ?_⟩
 rw[EM Mg _]
 show Ee _ A.in1 (Fy (.ref s.heap.objs.size) (.ref a) (.ref s.heap.objs.size)) _ _ _
 unfold Fy
 have hSa:s.heap.objs.size≠a:=Hu hlt
 have z1:(s.heap.push { cls :=.type "list",data :=.seq ([]:List DK).toArray }).objs.size=s.heap.objs.size+1:=Fz _ _
 have ho1:(s.heap.push { cls :=.type "list",data :=.seq ([]:List DK).toArray }).get? a=some (aS es ep t):=DJ _ ho
 have hT1:Shared.TypeIs { s with heap:=s.heap.push { cls :=.type "list",data :=.seq ([]:List DK).toArray } } (.ref a) "set" :=⟨_,ho1,rfl⟩
 refine DH (Hz hT1 ?_)
 have h1:HP (.ref s.heap.objs.size) (.ref a)=false:=by simp[HP,hSa]
 have h2:(GO "set" == GO "list")=false:=by decide
 have h3:(GO "set" == GO "tuple")=false:=by decide
 simp only[h1,h2,h3,Nm,Ei,if_false]
 refine DH (Jh hT1 MO (E8 MO hT1 F9.lR ?_ (F.args_set_iter_1 _)))
 unfold Builtin.«frozenset.__iter__» Builtin.Frozenset.slot0 slotArgs
 simp only[List.isEmpty_nil,FV,Ei, ↓reduceIte,bind_assoc,G2,bne_self_eq_false]
 unfold Builtin.Frozenset.addrOf Builtin.Frozenset.sizeOf
 refine DH (DN ?_)
 try dsimp only
 refine DH (DN ?_)
 refine DH (DH (LH ho1 rfl hf (DN ?_)))
 refine DH ?_
 unfold setDrawn
 refine DH (bN ho1 T ?_)
 dsimp only
 refine DH (jv ?_)
 show Ee _ _ (pure (!w.params.followText "set-order" && (!t.plain && decide (es.size>1)))) _ _ _
 rw[hp]
 simp only[FV,JU,Lv]
 refine DN ?_
 simp only[Ei,if_false]
 refine DH (DN ?_)
 refine DH (wpAny_setEpoch_of ho1 rfl hf ?_)
 refine DH (E7 (DN ⟨_,rfl, "set_iterator",_,⟨_,D2 _ rfl,rfl⟩,F9.fB.lookup,?_⟩))
 have zit:(s.heap.push { cls :=.type "list",data :=.seq ([]:List DK).toArray }).objs.size=s.heap.objs.size+1:=z1
 show Ee _ A.in1 (Jr [.ref (s.heap.push { cls :=.type "list",data :=.seq ([]:List DK).toArray }).objs.size] (G7 (.ref a)) >>= _) _ _ { s with heap:=(s.heap.push { cls :=.type "list",data :=.seq ([]:List DK).toArray }).push { cls :=.type "set_iterator",data :=.fields #[HD 0,HD 0,.ref a,HD es.size,HD ep] } }
 rw[zit]
 generalize hH:(s.heap.push { cls :=.type "list",data :=.seq ([]:List DK).toArray }).push { cls :=.type "set_iterator",data :=.fields #[HD 0,HD 0,.ref a,HD es.size,HD ep] }=H
 have kH:∀b o,(s.heap.push { cls :=.type "list",data :=.seq ([]:List DK).toArray }).get? b=some o->H.get? b=some o:=λb o e=>by rw[<- hH];exact DJ _ e
 have zH:H.objs.size=s.heap.objs.size+2:=by rw[<- hH,Fz,z1]
 have hit:jw H (s.heap.objs.size+1) a 0 0 es.size ep:=by
  unfold jw
  rw[<- hH, <- z1]
  exact D2 _ rfl
 have hT2:Shared.TypeIs { s with heap:=H } (.ref a) "set" :=⟨_,kH _ _ ho1,rfl⟩
 refine DH (Fb ?_)
 unfold G7
 refine DH (G6 hT2 F.slot_set_len.lookup ?_)
 dsimp only
 rw[show splitId "set.__len__" = some ("set", "__len__") by kernel_rfl]
 dsimp only
 refine DH (Ht hT2 sub_set_self ?_)
 simp only[FV,Ei,if_false]
 show Ee _ _ (typeOf (.ref a) >>= _) _ _ _
 refine DH (Hz hT2 ?_)
 refine DN ?_
 show Ee _ A.in1 (rule "list.extend.makes-room" >>= λ_=>Builtin.List.listTouch (.ref s.heap.objs.size) >>= λ_ =>
  again (.builtin "list.extend.loop" ⟨[.ref s.heap.objs.size,.ref (s.heap.objs.size+1),.ref s.heap.objs.size],[]⟩)) _ _ _
 refine DH (Gz ?_)
 have hS₁:H.get? s.heap.objs.size=some { cls :=.type "list",data :=.seq ([]:List DK).toArray }:=kH _ _ (D2 _ rfl)
 refine DH ?_
 show Ee _ A.in1 (updateSeq s.heap.objs.size (·.push .none) >>= λ_=>updateSeq s.heap.objs.size (·.pop)) _ _ _
 refine DH (FR (s:={ s with heap:=H }) hS₁ rfl ?_)
 have hS₂:=EZ (F8 (·.push F7)) hS₁ rfl
 refine FR hS₂ rfl ?_
 have hS₃:=EZ (F8 (·.pop)) hS₂ rfl
 have oth:∀b o,b≠s.heap.objs.size->H.get? b=some o->((H.update s.heap.objs.size (F8 (·.push F7))).update s.heap.objs.size (F8 (·.pop))).get? b=some o :=
  λb o hb e=>(Eo _ _ (Ft hb)).trans ((Eo _ _ (Ft hb)).trans e)
 refine DN ⟨Fs IK _,qK (it:=s.heap.objs.size+1) (a:=a) (es:=es) (ep:=ep) (s:=s) hh (Hu (FG hlt)) (Ed (GA _)) hSa hz es.size 0 _ _ _ rfl (EB _)
  ⟨t,0,oth a _ (Ft hSa) (kH _ _ ho1),T,hl,hp,λ_=>rX T.rise,oth _ _ (Hu (GA _)) hit⟩ hS₃ rfl λh' acc' c' kk hS' ha =>?_⟩
 show Ee _ A (load s.heap.objs.size >>= _) _ _ { s with heap:=h' }
 refine DH (Mo hS' ?_)
 have kf:∀b o,s.heap.get? b=some o->h'.get? b=some o:=λb o e=>by
  have:=D4 e
  exact kk b o (Ed this) (Ed (FG this)) (oth b o (Ed this) (kH b o (DJ _ e)))
 refine DN ?_
 rw[ha]
 exact h h' _ (oG w a es ep) kf (FN (D4 hS'))
end
open PySem PySem.SetTable PyProof.Rows Srt
def Kd.sub {prog:D9}{w:EE}{κ:Type}(kd:Kd prog w κ)(M:DK->Prop):Kd prog w κ where
 El:=λh v k=>kd.El h v k/\M v
 hash:=kd.hash
 room:=kd.room
 keeps:=λx t=>⟨kd.keeps x.1 t,x.2⟩
 inj:=λx y=>kd.inj x.1 y.1
 add:=by
  intro A E s a es v k Q hr I els hv hz hin hnew
  refine kd.add hr I (λe he =>?_) hv.1 hz (λx tk htk=>hin ?_ tk htk) λx h' es' tk htk sb I' pm=>hnew ?_ h' es' tk htk sb I' pm
  ·obtain ⟨k',a1,a2,a3⟩:=els e he;exact ⟨k',a1,a2⟩
  ·obtain ⟨e,he,y⟩:=x
   obtain ⟨k',a1,a2,a3⟩:=els e he
   exact ⟨e,he,y,a3⟩
  ·rintro ⟨e,he,y,_⟩;exact x ⟨e,he,y⟩
section
variable  {prog:D9}{w:EE}{A:EV}{E:DK->DP->Prop}{s:DP}{O:Jm}{key:DK->O.α}
theorem lU {a:Addr}{es:Array (Int×DK)}{Q:DK->DP->Prop}(hh:A.handled=none)(I:dE w s.heap a es)(hz:es.size<300)(C:∀vs:List DK,vs.Perm (es.toList.map (·.2))->kK prog w s vs O key)
  (h:∀(h':Heap) (p:Addr) (out:List DK) (n:Nat),(∀b o,s.heap.get? b=some o->h'.get? b=some o)->s.heap.objs.size<=p->h'.get? p=some (seqObj "list" out.toArray n)->out.Perm (es.toList.map (·.2))->out.Pairwise (λx y=>O.kle (key x) (key y))->Q (.ref p) { s with heap:=h' }) :
  Ee (Es prog w) A (call (.builtin "sorted") [.ref a]) Q E s:=by
 refine Iy MZ Mv Mw (Mx _) ?_
 unfold Builtin.«sorted»
 refine DH (m:=checkCount "sorted" 1 1 _) (DN ?_)
 refine DH (qL (by simpa using hh) I hz λh1 vs pv k1 z1 =>?_)
 have hz':vs.length<=D3:=by
  rw[pv.length_eq,DI,DY]
  have:300<=D3:=by rw[G4];lia
  lia
 refine DH (Jx ?_ hz')
 have hoL:(h1.push (seqObj "list" vs.toArray 0)).get? h1.objs.size=some (seqObj "list" vs.toArray 0):=D2 _ rfl
 have kL:∀b o,s.heap.get? b=some o->(h1.push (seqObj "list" vs.toArray 0)).get? b=some o:=λb o e=>DJ _ (k1 b o e)
 refine DH (Fb (E8 slot_list_sort ⟨_,hoL,rfl⟩ entry_list_sort (eE (key:=key) (O:=O) hoL hz' (λh2 h6 k6 =>?_) λout pm ps=>⟨_,rfl,?_⟩) (Lx _)))
 ·exact (C vs pv).ok h2 _ h6 λb o e=>k6 b o (Ed (Ec (D4 e) z1)) (kL b o e)
 ·obtain ⟨n,en⟩:=L3 (out:=out.toArray) hoL
  refine DN ⟨_,rfl,h _ _ out n (λb o e =>?_) z1 en (pm.trans pv) ps⟩
  have lt:=Ec (D4 e) z1
  rw[Ly (Ed lt) (by rw[Mq];exact FG lt)]
  exact kL b o e
end
end STab
namespace L2
open PySem PySem.Spec PyProof.Rows
section
variable  {X:Cx}
def cZ (w:EE)(a:Addr)(ys:List V):HO :=.ext λh=>∃es,STab.dE w h a es/\Vals ys (es.toList.map (·.2))
theorem ur {prog:D9}{w:EE}{H:Hp}{h:Heap}{a:Addr}{ys:List V}{es:Array (Int×DK)}(I:STab.dE w h a es)(r:Vals ys (es.toList.map (·.2))):bp prog w (upd H a (cZ w a ys)) h a (cZ w a ys):=by
 refine ⟨⟨es,I,r⟩,?_,λh1 h2 ⟨es',I',r'⟩ k=>⟨es',I'.at k,r'⟩⟩
 obtain ⟨ep,t,ho,_⟩:=I
 exact ⟨_,ho⟩
theorem qM:∀{ns:List Int} {xs:List DK} {prog:D9} {w:EE},Gh xs ns->ItemsAre (intKind prog w) ns xs
 | _,_,_,_,.nil =>.nil
 | _,_,_,_,.cons n t r =>.cons (Ke _ _ _ _) (qM r)
theorem Inv.tk {pins:List (Addr×Obj)}{σ:St}{H:Hp}{s:DP}(I:Inv X pins σ H s){b:Addr}{ns:List Int}(h:SqT X.K H b (ns.map V.int)):STab.TK X.prog X.w s.heap ns b:=by
 obtain ⟨its,r,⟨o,e,c,n,d⟩,_⟩:=I.tuple h
 exact ⟨o,_,n,e,c,d,qM (by simpa using cv r)⟩
theorem pull {α β:Type}{f:α -> β}{ts:List α}:∀{l:List β},(∀v∈l,∃t∈ts,v=f t)->∃us:List α,l=us.map f/\∀t∈us,t∈ts
 | [],_=>⟨[],rfl,λt h=>by cases h⟩
 | v :: l,h=>by
  obtain ⟨t,ht,e⟩:=h v En
  obtain ⟨us,e2,m⟩:=pull (l:=l) λv' hv=>h v' (Em _ hv)
  refine ⟨t :: us,by rw[Ew, <- e, <- e2],λt' ht' =>?_⟩
  rcases Eg.mp ht' with rfl | h'
  ·exact ht
  ·exact m _ h'
theorem vO (hh:X.A.handled=none)(hu:X.A.units+64<cLine):bH X (.type "set") (λxs H Q=>∃(p:Addr) (ts:List (Addr×List Int)),xs=[.ref p]/\(SqL X.K H p (ts.map λt =>.ref t.1)\/SqT X.K H p (ts.map λt =>.ref t.1))/\(∀t∈ts,SqT X.K H t.1 (t.2.map V.int))/\ts.length<300 ∧
  ∀(a:Addr) (us:List (Addr×List Int)),H a=none->(∀t∈us,t∈ts)->(us.map (·.2)).Nodup->(∀t∈ts,t.2∈us.map (·.2))->us.length<=ts.length->Q (.ref a) (upd H a (cZ X.w a (us.map λt =>.ref t.1)))):=by
 intro pins s σ H xs vs Q I r h
 obtain ⟨p,ts,rfl,hs,ht,hl,q⟩:=h
 obtain ⟨u,rfl,ru⟩:=vals1 r
 cases (show u=D8 p from ru)
 have goal:∀(items:Array DK),items.toList=(ts.map λt=>D8 t.1)->∀(h':Heap) (es:Array (Int×DK)) (tk:Nat),s.toks<=tk->STab.dE X.w h' s.heap.objs.size es->STab.Good ((STab.kg X.prog X.w).sub (· ∈ items.toList)) h' es (ts.map (·.2)) →
   (∀b o,s.heap.get? b=some o->h'.get? b=some o)->EP X pins σ Q (.ref s.heap.objs.size) { s with heap:=h',toks:=tk }:=by
  intro items ei h' es tk _ S G k
  obtain ⟨us,eu,mu⟩:=pull (f:=λt:Addr×List Int=>D8 t.1) (ts:=ts) (l:=es.toList.map (·.2)) (λv hv=>by
   obtain ⟨e,he,rfl⟩:=DZ.mp hv
   obtain ⟨_,_,_,_,m⟩:=G.el e (EJ.mp he)
   rw[ei] at m
   obtain ⟨t,ht',e'⟩:=DZ.mp m
   exact ⟨t,ht',e'.symm⟩)
  have tk':∀t∈us,STab.TK X.prog X.w h' t.2 t.1:=λt m=>(I.tk (ht t (mu t m))).keep λb o _ e=>k b o e
  have elu:∀t∈us,((STab.kg X.prog X.w).sub (· ∈ items.toList)).El h' (.ref t.1) t.2:=λt m=>⟨⟨t.1,rfl,tk' t m⟩,by
   rw[ei];exact DZ.mpr ⟨t,mu t m,rfl⟩⟩
  have nd:(us.map (·.2)).Nodup:=by
   have d:=G.dis
   have d2:(es.toList.map (·.2)).Pairwise (λv v'=>∀k,((STab.kg X.prog X.w).sub (· ∈ items.toList)).El h' v k->¬ ((STab.kg X.prog X.w).sub (· ∈ items.toList)).El h' v' k):=by
    rw[EN];exact d
   rw[eu,EN] at d2
   unfold List.Nodup
   rw[EN]
   refine d2.imp_of_mem λ{t t'} m m' x e=>x t.2 (elu t m) ?_
   have:=elu t' m'
   rw[<- e] at this
   exact this
  have cov:∀t∈ts,t.2∈us.map (·.2):=λt m=>by
   obtain ⟨e,he,x,_⟩:=G.all t.2 (DZ.mpr ⟨t,m,rfl⟩)
   have:e.2∈us.map λt=>D8 t.1:=by rw[<- eu];exact DZ.mpr ⟨e,EJ.mpr he,rfl⟩
   obtain ⟨u,hu',e'⟩:=DZ.mp this
   obtain ⟨b,eb,x⟩:=x
   rw[<- e'] at eb
   injection eb with eb
   subst eb
   exact DZ.mpr ⟨u,hu',(tk' u hu').inj x⟩
  have hlen:us.length<=ts.length:=by
   have:=G.len
   rw[DI] at this
   have e2:=congrArg List.length eu
   rw[DI,DI,DY] at e2
   lia
  refine ⟨.ref s.heap.objs.size,_,I.laid k (DS _) (ur (ys:=us.map λt=>V.ref t.1) S (by rw[eu];exact eU)),rfl,q _ us (I.hok.fresh (DS _)) mu nd cov hlen⟩
 have rm:((STab.kg X.prog X.w).sub (λv=>True)).room X.A.in1.in1.in1:=by show X.A.units+1+1+1<cLine;lia
 have itm:∀(its:List DK),its=(ts.map λt=>D8 t.1)->∀(i:Nat) (v:DK),its.toArray[i]? = some v->∃q,(ts.map (·.2))[i]? = some q/\((STab.kg X.prog X.w).sub (· ∈ its.toArray.toList)).El s.heap v q:=by
  intro its ei i v hv
  rw[ED,ei,D1] at hv
  cases ht':ts[i]? with
  | none=>rw[ht'] at hv;cases hv
  | some t =>
   rw[ht'] at hv
   cases hv
   have m:=DV ht'
   refine ⟨t.2,by rw[D1,ht'];rfl,⟨t.1,rfl,I.tk (ht t m)⟩,?_⟩
   show D8 t.1∈its
   rw[ei]
   exact DZ.mpr ⟨t,m,rfl⟩
 rcases hs with hs | hs
 ·obtain ⟨its,rv,⟨o,n,e,c,dn,d⟩,z⟩:=I.list hs
  have ei:=eR rv
  have lz:its.length=ts.length:=by rw[ei,DI]
  refine STab.call_set_list (kd:=(STab.kg X.prog X.w).sub (· ∈ its.toArray.toList)) (items:=its.toArray) (ks:=ts.map (·.2)) hh rm ⟨o,e,c,n,d⟩ (by simp[lz]) (λi v hv =>?_) (by simpa [lz] using hl) (goal its.toArray (by simpa using ei))
  exact itm its ei i v hv
 ·obtain ⟨its,rv,⟨o,e,c,n,d⟩,z⟩:=I.tuple hs
  have ei:=eR rv
  have lz:its.length=ts.length:=by rw[ei,DI]
  refine STab.fV (kd:=(STab.kg X.prog X.w).sub (· ∈ its.toArray.toList)) (items:=its.toArray) (ks:=ts.map (·.2)) hh rm ⟨o,e,c,n,d⟩ (by simp[lz]) (λi v hv =>?_) (by simpa [lz] using hl) (goal its.toArray (by simpa using ei))
  exact itm its ei i v hv
theorem vP (hh:X.A.handled=none):bH X (.type "set") (λxs H Q=>∃(p:Addr) (ns:List Int),xs=[.ref p]/\(SqL X.K H p (ns.map V.int)\/SqT X.K H p (ns.map V.int))/\ns.length<300 ∧
  ∀(a:Addr) (us:List Int),H a=none->(∀k,k∈us↔k∈ns)->us.Nodup->us.length<=ns.length->Q (.ref a) (upd H a (cZ X.w a (us.map V.int)))):=by
 intro pins s σ H xs vs Q I r h
 obtain ⟨p,ns,rfl,hs,hl,q⟩:=h
 obtain ⟨u,rfl,ru⟩:=vals1 r
 cases (show u=D8 p from ru)
 have goal:∀(h':Heap) (es:Array (Int×DK)) (tk:Nat),s.toks<=tk->STab.dE X.w h' s.heap.objs.size es->STab.Good (STab.uh X.prog X.w) h' es ns →
   (∀b o,s.heap.get? b=some o->h'.get? b=some o)->EP X pins σ Q (.ref s.heap.objs.size) { s with heap:=h',toks:=tk }:=by
  intro h' es tk _ S G k
  have sh:∀v∈es.toList.map (·.2),∃k t,v=FT k t:=λv hv=>by
   obtain ⟨e,he,rfl⟩:=DZ.mp hv
   obtain ⟨k',_,_,t,e'⟩:=G.el e (EJ.mp he)
   exact ⟨k',t,e'⟩
  have ru:=iW (gM sh)
  have mem:∀k,k∈(es.toList.map (·.2)).map Srt.intOf↔k∈ns:=λk=>by
   constructor
   ·intro m
    obtain ⟨v,hv,rfl⟩:=DZ.mp m
    obtain ⟨e,he,rfl⟩:=DZ.mp hv
    obtain ⟨k',mk,_,t,e'⟩:=G.el e (EJ.mp he)
    rw[e'];exact mk
   ·intro m
    obtain ⟨e,he,t,e'⟩:=G.all k m
    exact DZ.mpr ⟨e.2,DZ.mpr ⟨e,EJ.mpr he,rfl⟩,by rw[e'];rfl⟩
  have nd:((es.toList.map (·.2)).map Srt.intOf).Nodup:=by
   unfold List.Nodup
   rw[EN,EN]
   refine G.dis.imp_of_mem λ{e e'} m m' x y =>?_
   obtain ⟨k1,_,_,t1,e1⟩:=G.el e (EJ.mp m)
   obtain ⟨k2,_,_,t2,e2⟩:=G.el e' (EJ.mp m')
   rw[e1,e2] at y
   have y':k1=k2:=y
   subst y'
   exact x k1 ⟨t1,e1⟩ ⟨t2,e2⟩
  refine ⟨.ref s.heap.objs.size,_,I.laid k (DS _) (ur S ru),rfl,q _ _ (I.hok.fresh (DS _)) mem nd (by rw[DI,DI,DY];exact G.len)⟩
 have itm:∀(its:List DK),Vals (ns.map V.int) its->∀(i:Nat) (v:DK),its.toArray[i]? = some v->∃q,ns[i]? = some q/\(STab.uh X.prog X.w).El s.heap v q:=by
  intro its rv i v hv
  have hI:=cv rv
  obtain ⟨t,e⟩:=IntsAre.int_at hI i v (by rw[ED] at hv;exact hv)
  have hlt:i<ns.length:=by
   have:=hI.length
   rw[ED] at hv
   have:=(DQ.mp hv).1
   lia
  refine ⟨ns.getD i 0,?_,t,e⟩
  rw[DX,DL hlt]
  rfl
 rcases hs with hs | hs
 ·obtain ⟨its,rv,⟨o,n,e,c,dn,d⟩,z⟩:=I.list hs
  have lz:its.length=ns.length:=by have:=rv.length;rw[DI] at this;exact this.symm
  exact STab.call_set_list (kd:=STab.uh X.prog X.w) (items:=its.toArray) (ks:=ns) hh trivial ⟨o,e,c,n,d⟩ (by simp[lz]) (itm its rv) (by simpa [lz] using hl) goal
 ·obtain ⟨its,rv,⟨o,e,c,n,d⟩,z⟩:=I.tuple hs
  have lz:its.length=ns.length:=by have:=rv.length;rw[DI] at this;exact this.symm
  exact STab.fV (kd:=STab.uh X.prog X.w) (items:=its.toArray) (ks:=ns) hh trivial ⟨o,e,c,n,d⟩ (by simp[lz]) (itm its rv) (by simpa [lz] using hl) goal
theorem Inv.cZ {pins:List (Addr×Obj)}{σ:St}{H:Hp}{s:DP}(I:Inv X pins σ H s){a:Addr}{ys:List V}(h:H a=some (cZ X.w a ys)):∃es,STab.dE X.w s.heap a es/\Vals ys (es.toList.map (·.2)):=by
 exact (I.hok a _ h).1
theorem nG (hh:X.A.handled=none):bH X (.builtin "sorted") (λxs H Q=>∃(a:Addr) (ns:List Int),xs=[.ref a]/\H a=some (cZ X.w a (ns.map V.int))/\ns.length<300/\∀(l:Addr) (out:List Int),H l=none->out.Perm ns->out.Pairwise (· <= ·)->Q (.ref l) (upd H l (.lst (out.map V.int)))):=by
 intro pins s σ H xs us Q I r h
 obtain ⟨a,ns,rfl,hs,hl,q⟩:=h
 obtain ⟨u,rfl,ru⟩:=vals1 r
 cases (show u=D8 a from ru)
 obtain ⟨es,S,rv⟩:=I.cZ hs
 have hI:=cv rv
 have lz:es.size=ns.length:=by have:=rv.length;simp at this;lia
 have sh:∀v∈es.toList.map (·.2),∃i t,v=FT i t:=λv hv=>Srt.iU hI v hv
 refine STab.lU (O:=Srt.xN) (key:=Srt.intOf) hh S (by lia) (λvs pv=>Srt.pq (gM λv hv=>sh v (pv.mem_iff.mp hv))) λh' l out m k hl' el pm ps =>?_
 have hO:=gM λv hv=>sh v (pm.mem_iff.mp hv)
 have pm':(out.map Srt.intOf).Perm ns:=by
  have:=pm.map Srt.intOf
  rw[Srt.ints_map hI] at this
  exact this
 have z:ns.length<=D3:=by have:300<=D3:=(by rw[G4];lia);lia
 refine ⟨.ref l,_,I.newList k hl' el (iW hO) (by rw[DI,pm'.length_eq];exact z),rfl,q l _ (I.hok.fresh hl') pm' ?_⟩
 refine EN.mpr (ps.imp λ{x y} le =>?_)
 have le':decide (Srt.intOf y<Srt.intOf x)=false:=le
 have:=of_decide_eq_false le'
 lia
theorem nH (hh:X.A.handled=none):bH X (.builtin "sorted") (λxs H Q=>∃(a:Addr) (ts:List (Addr×List Int)),xs=[.ref a]/\H a=some (cZ X.w a (ts.map λt =>.ref t.1))/\(∀t∈ts,SqT X.K H t.1 (t.2.map V.int)/\t.2≠[])/\ts.length<300 ∧
  ∀(l:Addr) (out:List (Addr×List Int)),H l=none->out.Perm ts->out.Pairwise (λa b=>HT.lexLt b.2 a.2=false)->Q (.ref l) (upd H l (.lst (out.map λt =>.ref t.1)))):=by
 intro pins s σ H xs us Q I r h
 obtain ⟨a,ts,rfl,hs,ht,hl,q⟩:=h
 obtain ⟨u,rfl,ru⟩:=vals1 r
 cases (show u=D8 a from ru)
 obtain ⟨es,S,rv⟩:=I.cZ hs
 have ei:=eR rv
 have lz:es.size=ts.length:=by have:=rv.length;simp at this;lia
 have tup:∀t∈ts,Srt.bX s.heap (D8 t.1) t.2:=λt hm=>by
  obtain ⟨jts,jr,⟨jo,je,jc,jn,jd⟩,_⟩:=I.tuple (ht t hm).1
  exact ⟨t.1,jo,_,jn,rfl,je,jc,jd,by simpa using cv jr⟩
 have hv:∀v∈es.toList.map (·.2),∃ns,Srt.bX s.heap v ns/\ns≠[]:=λv hv=>by
  rw[ei] at hv
  obtain ⟨t,hm,rfl⟩:=DZ.mp hv
  exact ⟨t.2,tup t hm,(ht t hm).2⟩
 refine STab.lU (O:=Srt.lexOrd) (key:=Srt.cF s.heap) hh S (by lia) (λvs pv=>Srt.iV λv hm=>hv v (pv.mem_iff.mp hm)) λh' l out m k hl' el pm ps =>?_
 rw[ei] at pm
 obtain ⟨out',pm',rfl⟩:=ig pm
 have z:ts.length<=D3:=by have:300<=D3:=(by rw[G4];lia);lia
 refine ⟨.ref l,_,I.newList k hl' el eU (by rw[DI,pm'.length_eq];exact z),rfl,q l _ (I.hok.fresh hl') pm' ?_⟩
 refine (EN.mp ps).imp_of_mem λ{a b} ha hb le =>?_
 have le':HT.lexLt (Srt.cF s.heap (D8 b.1)) (Srt.cF s.heap (D8 a.1))=false:=le
 rw[(tup a (pm'.mem_iff.mp ha)).ints,(tup b (pm'.mem_iff.mp hb)).ints] at le'
 exact le'
end
section
variable  {X:Cx}{w:EE}
theorem sr (hw:X.w=w)(hh:X.A.handled=none)(hu:X.A.units+64<cLine):bH X (.type "set") (λxs H Q=>∃(p:Addr) (ts:List (Addr×List Int)),xs=[.ref p]/\(SqL X.K H p (ts.map λt =>.ref t.1)\/SqT X.K H p (ts.map λt =>.ref t.1))/\(∀t∈ts,SqT X.K H t.1 (t.2.map V.int))/\ts.length<300 ∧
  ∀(a:Addr) (us:List (Addr×List Int)),H a=none->(∀t∈us,t∈ts)->(us.map (·.2)).Nodup->(∀t∈ts,t.2∈us.map (·.2))->us.length<=ts.length->Q (.ref a) (upd H a (cZ w a (us.map λt =>.ref t.1)))):=by
 subst hw
 exact vO hh hu
theorem ij (hw:X.w=w)(hh:X.A.handled=none):bH X (.type "set") (λxs H Q=>∃(p:Addr) (ns:List Int),xs=[.ref p]/\(SqL X.K H p (ns.map V.int)\/SqT X.K H p (ns.map V.int))/\ns.length<300 ∧
  ∀(a:Addr) (us:List Int),H a=none->(∀k,k∈us↔k∈ns)->us.Nodup->us.length<=ns.length->Q (.ref a) (upd H a (cZ w a (us.map V.int)))):=by
 subst hw
 exact vP hh
theorem lV (hw:X.w=w)(hh:X.A.handled=none):bH X (.builtin "sorted") (λxs H Q=>∃(a:Addr) (ns:List Int),xs=[.ref a]/\H a=some (cZ w a (ns.map V.int))/\ns.length<300/\∀(l:Addr) (out:List Int),H l=none->out.Perm ns->out.Pairwise (· <= ·)->Q (.ref l) (upd H l (.lst (out.map V.int)))):=by
 subst hw
 exact nG hh
theorem lX (hw:X.w=w)(hh:X.A.handled=none):bH X (.builtin "sorted") (λxs H Q=>∃(a:Addr) (ts:List (Addr×List Int)),xs=[.ref a]/\H a=some (cZ w a (ts.map λt =>.ref t.1))/\(∀t∈ts,SqT X.K H t.1 (t.2.map V.int)/\t.2≠[])/\ts.length<300 ∧
  ∀(l:Addr) (out:List (Addr×List Int)),H l=none->out.Perm ts->out.Pairwise (λa b=>HT.lexLt b.2 a.2=false)->Q (.ref l) (upd H l (.lst (out.map λt =>.ref t.1)))):=by
 subst hw
 exact nH hh
end
section
variable  {X:Cx}
def tBMT (r:V->List V->Hp->VK->Prop)(to:TE)(t:TA):TE:=λσ H Q=>to σ H λx H1=>(∃p xs,x = .ref p/\H1 p=some (.tup xs))/\t σ H1 λxs H2=>r x xs H2 Q
theorem Cc {o e:Expr}{es:List Expr}{to:TE}{t:TA}{name:Str}{apos cpos:Pos}{id:String}{r:V->List V->Hp->VK->Prop}(slot:Slot "tuple" name id)(hty:typeOf (.builtin id)=pure (.type "method_descriptor"))(hm:MtR X id r)(ho:PE X o to)(ha:PA X (e :: es) t)
  (hbase:attributeBase o name X.env (eval o X.env)=eval o X.env:=by rfl)
  (hfew:((Ib cpos (EL (e :: es) X.env)).all (λx => !x.1) && (backToKw cpos (keywordEach [] X.env)).all (λx=>x.1.isSome)
   && decide ((e :: es).length+([]:List Keyword).length+(if ([]:List Keyword).isEmpty then 0 else 1)<30))=true:=by rfl)
  (hline:(apos.endLine == cpos.line)=true:=by rfl) (hs:EL (e :: es) X.env=(false,eval e X.env) :: EL es X.env:=by rfl) (hplain:(Ib cpos (EL es X.env)).any (·.1)=false:=by rfl) :
  PE X (.Call (.Attribute o name apos) (e :: es) [] cpos) (tBMT r to t):=by
 intro pins s σ H Q I h
 refine KQ hbase hfew hline rfl (thn (ho pins s σ H _ I h) λv s1 ⟨x,H1,I1,r1,ty,q1⟩ =>?_)
 obtain ⟨p,xs,rfl,hp⟩:=ty
 cases (show v=D8 p from r1)
 obtain ⟨_,its,_,ob,e1,⟨c1,d1⟩,n,s1'⟩:=(show bp X.prog X.w H1 s1.heap p (.tup xs) from I1.hok p _ hp)
 refine ⟨"tuple",id,PySem.F.plainAttrs_tuple,slot,hty,⟨ob,e1,c1⟩,λa e=>by cases e;exact ⟨ob,e1,d1⟩,?_⟩
 have hA:=ha cpos pins s1 σ H1 _ I1 q1
 rw[hs] at hA ⊢
 refine KI (by show (false || (Ib cpos (EL es X.env)).any (·.1))=false;rw[hplain] <;> rfl) (Js ?_)
 exact thn hA λus s2 ⟨vs,H2,I2,r2,q2⟩=>hm pins s2 σ H2 (.ref p) vs _ us Q I2 rfl r2 q2
theorem jy {A:EV}{s:DP}{k:Int}{t:Tok}{its:List DK}{ns:List Int}(hi:Gh its ns):∀y,y∈its.toArray->Iu A s y (.int k t) (isInt k y):=λy hy =>
 (eq_isInt k t hi y (by simpa using hy)).at _ _
theorem gN:∀{ns:List Int} {xs:List DK} {prog:D9} {w:EE},Gh xs ns->ItemsAre (intKind prog w) ns xs
 | _,_,_,_,.nil =>.nil
 | _,_,_,_,.cons n t r =>.cons (Ke _ _ _ _) (gN r)
theorem Inv.tkA {pins:List (Addr×Obj)}{σ:St}{H:Hp}{s:DP}(I:Inv X pins σ H s){b:Addr}{ns:List Int}(h:SqT X.K H b (ns.map V.int))(prog:D9)(w:EE):IsTupleKey (intKind prog w) s.heap ns b:=by
 obtain ⟨its,r,⟨o,e,c,n,d⟩,_⟩:=I.tuple h
 exact ⟨o,_,n,e,c,d,gN (by simpa using intsAre_of r)⟩
theorem Inv.eqT {pins:List (Addr×Obj)}{σ:St}{H:Hp}{s:DP}(I:Inv X pins σ H s){A:EV}(hu:A.units<cLine){a b:Addr}{ns ms:List Int}(h1:SqT X.K H a (ns.map V.int))(h2:SqT X.K H b (ms.map V.int)):Iu A s (.ref a) (.ref b) (decide (ns=ms)) :=
 λprog w E Q q=>JS hu (I.tkA h1 prog w) (I.tkA h2 prog w) q
theorem cI:∀{ps:List (Addr×List Int)} {us:List DK},Vals (ps.map λx=>V.ref x.1) us->us=ps.map λx=>D8 x.1
 | [],_,r=>by cases r;rfl
 | p :: ps,_,r=>by
  cases r with
  | cons h t=>rw[Ew, <- cI t,show _=D8 p.1 from h]
noncomputable def cu (ts:List (Addr×List Int))(m:List Int):DK->Bool:=λv=>decide (∃t∈ts,v = .ref t.1/\t.2=m)
theorem cx {pins:List (Addr×Obj)}{σ:St}{H:Hp}{s:DP}(I:Inv X pins σ H s){ts:List (Addr×List Int)}(ht:∀t∈ts,SqT X.K H t.1 (t.2.map V.int)){m:List Int}{t:Addr×List Int}(hm:t∈ts):cu ts m (.ref t.1)=decide (t.2=m):=by
 unfold cu
 by_cases e:t.2=m
 ·rw[decide_eq_true e,decide_eq_true ⟨t,hm,rfl,e⟩]
 ·rw[decide_eq_false e,decide_eq_false]
  rintro ⟨t',m',e1,e2⟩
  injection e1 with e1
  have:=I.gG (ht t hm) (by rw[e1];exact ht t' m')
  have inj:Function.Injective V.int:=λa b h=>by injection h
  have:t.2=t'.2:=(List.map_inj_right (λx y h=>inj h)).mp this
  exact e (this.trans e2)
theorem su {pins:List (Addr×Obj)}{σ:St}{H:Hp}{s:DP}(I:Inv X pins σ H s){ts:List (Addr×List Int)}(ht:∀t∈ts,SqT X.K H t.1 (t.2.map V.int)){m:List Int}:∀us:List (Addr×List Int),(∀t∈us,t∈ts)->(us.map λt=>D8 t.1).countP (cu ts m)=(us.map (·.2)).count m
 | [],_=>rfl
 | u :: us,h=>by
  rw[Ew,Ew,Kv,MP,su I ht us (λt hm=>h t (Em _ hm)),cx I ht (h u En)]
  by_cases e:u.2=m
  ·rw[decide_eq_true e,e];simp
  ·rw[decide_eq_false e];simp[e]
theorem i3 {pins:List (Addr×Obj)}{σ:St}{H:Hp}{s:DP}(I:Inv X pins σ H s){ts:List (Addr×List Int)}(ht:∀t∈ts,SqT X.K H t.1 (t.2.map V.int)){m:List Int}:∀us:List (Addr×List Int),(∀t∈us,t∈ts)->(us.map λt=>D8 t.1).any (cu ts m)=decide (m∈us.map (·.2))
 | [],_=>by simp
 | u :: us,h=>by
  rw[Ew,Ew,Ip,i3 I ht us (λt hm=>h t (Em _ hm)),cx I ht (h u En)]
  by_cases e:u.2=m
  ·rw[decide_eq_true e,e];simp
  ·rw[decide_eq_false e,LV]
   have:(m∈u.2 :: us.map (·.2))↔m∈us.map (·.2):=by
    rw[Eg]
    exact ⟨λh=>h.elim (λh=>absurd h.symm e) id,.inr⟩
   exact decide_eq_decide.mpr this.symm
theorem pH (hu:X.A.units+8<cLine):OpR X (Fl .In) (λx y H Q=>∃(p b:Addr) (ts:List (Addr×List Int)) (m:List Int),x = .ref b/\y = .ref p/\H p=some (.tup (ts.map λt =>.ref t.1))/\(∀t∈ts,H t.1=some (.tup (t.2.map V.int)))/\H b=some (.tup (m.map V.int))/\Q (.bl (decide (m∈ts.map (·.2)))) H):=by
 intro pins s σ H x y v u Q I rx ry h
 obtain ⟨p,b,ts,m,rfl,rfl,hp,ht,hb,q⟩:=h
 cases rx
 cases ry
 have ht':∀t∈ts,SqT X.K H t.1 (t.2.map V.int):=λt hm=>SqT.of (ht t hm)
 obtain ⟨its,r,pl,hz⟩:=I.tuple (SqT.of (K:=X.K) hp)
 have ei:=cI r
 refine MA (cu ts m) pl (λy hy =>?_) ⟨.bl _,H,I,rfl,?_⟩
 ·have hy':y∈its:=by simpa using hy
  rw[ei] at hy'
  obtain ⟨t,hm,rfl⟩:=DZ.mp hy'
  rw[cx I ht' hm]
  exact I.eqT (by show X.A.units+1<cLine;omega) (ht' t hm) (SqT.of hb)
 ·rw[show its.toArray.any (cu ts m)=its.any (cu ts m) by simp,ei,i3 I ht' ts (λt h=>h)]
  exact q
theorem fW:∀{its:List DK} {ns:List Int},Gh its ns->∃xs:List (Int×Tok),its=xs.map (λp=>FT p.1 p.2)/\xs.map (·.1)=ns
 | _,_,.nil=>⟨[],rfl,rfl⟩
 | _,_,.cons n t r=>by
  obtain ⟨xs,e1,e2⟩:=fW r
  exact ⟨(n,t) :: xs,by rw[Ew, <- e1],by rw[Ew,e2]⟩
end
end L2
namespace HT
open PySem PySem.Spec PyProof.Rows
section
variable  {prog:D9}{w:EE}{A:EV}{E:DK->DP->Prop}{s:DP}
theorem gY {t sl:Addr}{items:Array DK}{vl vu:DK}{lo hi:Option Int}{Q:DK->DP->Prop}(ht:IsTup s.heap t items)(hs:s.heap.IsSliceOf sl vl vu .none)(pl:IsPart vl lo)(pu:IsPart vu hi)
  (hw:sIx items.size 0 lo=0/\sIx items.size items.size hi=items.size) (h:Q (.ref t) s):Ee (Es prog w) A (getItem (.ref t) (.ref sl)) Q E s:=by
 obtain ⟨os,hos,hcs,hds⟩:=id hs
 have hTs:s.TypeIs (.ref sl) "slice" :=⟨os,hos,hcs⟩
 unfold getItem
 try with_reducible refine Fb ?_
 first | refine DH (DN ?_) | skip
 refine DH (Mp ht.typeIs (by decide) ?_)
 refine DH (Fi (name:=Str.ofString "__getitem__") ht.typeIs Fd
  (E8 Fd ht.typeIs entry_tuple_getitem ?_ (LY _ _)))
 show Ee _ _ (Builtin.Tuple.tupleItemsOf (.ref t) >>= _) _ _ s
 refine DH (tupleItemsOf_ ht ?_)
 refine DH (Hz hTs ?_)
 rw[if_pos (by decide)]
 refine DH (eO hs pl pu ?_)
 show Ee _ _ (if (((sIx items.size 0 lo:Nat):Int) == 0 && (1:Int) == 1 && (sIx items.size items.size hi-sIx items.size 0 lo) == items.size)=true then _ else _) _ _ s
 rw[hw.1,hw.2,if_pos (by simp)]
 unfold Builtin.Tuple.tupleIsExact
 refine DH (DH (Hz ht.typeIs (DN ?_)))
 rw[if_pos (by decide)]
 exact DH (Gz (DN ⟨_,rfl,DN h⟩))
end
end HT
namespace L2
open PySem PySem.Spec PyProof.Rows
section
variable  {X:Cx}
theorem zW:SlR X (λx lo hi H Q=>∃a xs,x = .ref a/\SqT X.K H a xs/\((HT.sIx xs.length 0 lo=0/\HT.sIx xs.length xs.length hi=xs.length)->Q (.ref a) H) ∧
  (¬ (HT.sIx xs.length 0 lo=0/\HT.sIx xs.length xs.length hi=xs.length)->∀p,H p=none->Q (.ref p) (upd H p (.tup (eQ xs lo hi))))):=by
 intro pins s σ H x v vl vu lo hi sl Q I rx hs pl pu h
 obtain ⟨a,xs,rfl,hx,q1,q2⟩:=h
 by_cases hw:HT.sIx xs.length 0 lo=0/\HT.sIx xs.length xs.length hi=xs.length
 ·cases rx
  obtain ⟨its,r,ht,hz⟩:=I.tuple hx
  have hlen:its.toArray.size=xs.length:=by rw[DR];exact r.length.symm
  refine ⟨"tuple",_,Fd.lookup,ht.typeIs,?_⟩
  exact HT.gY ht hs pl pu (by rw[hlen];exact hw) ⟨.ref a,H,I,rfl,q1 hw⟩
 ·exact BO pins s σ H _ v vl vu lo hi sl Q I rx hs pl pu ⟨a,xs,rfl,hx,hw,q2 hw⟩
theorem qN:bH X (.type "range") (λxs H Q=>∃n:Int,xs=[.int n]/\∀a,H a=none->Q (.ref a) (upd H a (.rng 0 n))):=by
 intro pins s σ H xs us Q I r h
 obtain ⟨n,rfl,q⟩:=h
 obtain ⟨u,rfl,⟨t,rfl⟩⟩:=vals1 r
 refine call_range_1 ?_
 exact ⟨.ref s.heap.objs.size,_,I.laid (o :=.rng 0 n) (λb ob q=>DJ _ q) (DS _) ⟨_,_,_,D2 _ rfl⟩,rfl,q _ (I.hok.fresh (DS _))⟩
end
section
variable  {prog:D9}{w:EE}{A:EV}{E:DK->DP->Prop}{s:DP}
end
section
variable  {X:Cx}
theorem sv:∀{vs:List DK},(∀(i:Nat) (x:DK),vs[i]? = some x->∃t,x=FT i t)->Vals ((EU vs.length).map λi=>V.int (i:Nat)) vs:=by
 suffices h:∀(vs:List DK) (k:Nat),(∀(i:Nat) (x:DK),vs[i]? = some x->∃t,x=FT ((i+k:Nat):Int) t)->Vals ((List.range' k vs.length).map λi=>V.int (i:Nat)) vs by
  intro vs hv
  have:=h vs 0 hv
  rw[List.range_eq_range']
  exact this
 intro vs
 induction vs with
 | nil=>intro k _;exact .nil
 | cons x vs ih =>
  intro k hv
  rw[Eu,Kw,Ew]
  refine .cons ?_ (ih (k+1) λi y hy =>?_)
  ·obtain ⟨t,e⟩:=hv 0 x rfl
   exact ⟨t,by rw[e,Hy]⟩
  ·obtain ⟨t,e⟩:=hv (i+1) y (by rw[GU];exact hy)
   exact ⟨t,by rw[e,show i+1+k=i+(k+1) by lia]⟩
end
section
variable  {κ:Type}[DecidableEq κ]
def dJ (kvs:List (κ×V))(k:κ):Option V:=(kvs.find? λkv=>decide (kv.1=k)).map (·.2)
def putK (kvs:List (κ×V))(k:κ)(v:V):List (κ×V) :=
 if (kvs.any λkv=>decide (kv.1=k))=true then kvs.map (λkv=>if kv.1=k then (kv.1,v) else kv) else kvs++[(k,v)]
theorem i4 {p:κ×V}{r:List (κ×V)}{k:κ}(e:p.1=k):dJ (p :: r) k=some p.2:=by simp[dJ,Il,e]
theorem i5 {p:κ×V}{r:List (κ×V)}{k:κ}(e:¬ p.1=k):dJ (p :: r) k=dJ r k:=by simp[dJ,Il,e]
theorem lY (k:κ):∀kvs:List (κ×V),(kvs.any λkv=>decide (kv.1=k))=(dJ kvs k).isSome
 | []=>rfl
 | p :: r=>by
  rw[Ip]
  by_cases e:p.1=k
  ·simp only[i4 e,decide_eq_true e,Bool.true_or,Option.isSome_some]
  ·rw[i5 e,decide_eq_false e,LV];exact lY k r
theorem fX (kvs:List (κ×V))(k:κ)(v:V):(putK kvs k v).length<=kvs.length+1:=by
 unfold putK
 split
 ·rw[DI];lia
 ·rw[DT,Eu,G2];lia
theorem xU {kvs:List (κ×V)}{k:κ}(v:V)(h:dJ kvs k=none):putK kvs k v=kvs++[(k,v)]:=by
 unfold putK
 rw[lY,h]
 exact if_neg (by decide)
theorem kT.jz {o:Option V}{u:Option DK}(r:kT o u):o.isSome=u.isSome:=by
 cases o with
 | none=>cases u with
  | none=>rfl
  | some _=>exact (show False from r).elim
 | some _=>cases u with
  | none=>exact (show False from r).elim
  | some _=>rfl
theorem KV.val {kvs:List (κ×V)}{vs:List (κ×DK)}(r:KV kvs vs)(k:κ):kT (dJ kvs k) (valueAt vs k):=by
 unfold KV at r
 induction r with
 | nil=>exact True.intro
 | @cons p q ps qs h t ih =>
  obtain ⟨h1,h2⟩:=h
  by_cases e:p.1=k
  ·have e':q.1=k:=h1.symm.trans e
   have b:valueAt (q :: qs) k=some q.2:=by simp[valueAt,Il,e']
   rw[i4 e,b];exact h2
  ·have e':¬ q.1=k:=λz=>e (h1.trans z)
   have b:valueAt (q :: qs) k=valueAt qs k:=by simp[valueAt,Il,e']
   rw[i5 e,b];exact ih
theorem KV.any {kvs:List (κ×V)}{vs:List (κ×DK)}(r:KV kvs vs)(k:κ):(kvs.any λkv=>decide (kv.1=k))=vs.any λkv=>decide (kv.1=k):=by
 unfold KV at r
 induction r with
 | nil=>rfl
 | cons h t ih=>rw[Ip,Ip,ih,h.1]
theorem KV.Cd {kvs:List (κ×V)}{vs:List (κ×DK)}(r:KV kvs vs)(k:κ){y:V}{u:DK}(ry:RelV y u) :
  KV (kvs.map λkv=>if kv.1=k then (kv.1,y) else kv) (vs.map λkv=>if kv.1=k then (kv.1,u) else kv):=by
 unfold KV at r ⊢
 induction r with
 | nil=>exact .nil
 | @cons p q ps qs h t ih =>
  rw[Ew,Ew]
  refine .cons ?_ ih
  obtain ⟨h1,h2⟩:=h
  by_cases e:p.1=k
  ·rw[if_pos e,if_pos (h1.symm.trans e)];exact ⟨h1,ry⟩
  ·rw[if_neg e,if_neg (λz=>e (h1.trans z))];exact ⟨h1,h2⟩
theorem KV.put {kvs:List (κ×V)}{vs:List (κ×DK)}(r:KV kvs vs)(k:κ){y:V}{u:DK}(ry:RelV y u):KV (putK kvs k y) (stored vs k u):=by
 unfold putK stored
 rw[r.any k]
 by_cases e:(vs.any λkv=>decide (kv.1=k))=true
 ·rw[if_pos e,if_pos e];exact r.Cd k ry
 ·rw[if_neg e,if_neg e];exact Nv r ⟨rfl,ry⟩
theorem KV.length {kvs:List (κ×V)}{vs:List (κ×DK)}(r:KV kvs vs):kvs.length=vs.length:=HU r
end
theorem qO {P:D9}{w:EE}{k:Key}{u:DK}(r:RelV (kV k) u):(bQ P w).is k u=true:=by
 cases k with
 | inl i=>obtain ⟨t,e⟩:=(show ∃t,u=FT i t from r);subst e;exact qj P w i t
 | inr x=>obtain ⟨t,e⟩:=(show ∃t,u=Value.str x t from r);subst e;exact qk P w x t
theorem oH {P:D9}{w:EE}:∀{ks:List Key} {us:List DK},Vals (ks.map kV) us->ItemsAre (bQ P w) ks us
 | [],_,r=>by rw[KU] at r;cases r;exact .nil
 | k :: ks,_,r=>by
  rw[Ew] at r
  cases r with
  | cons h t=>exact .cons (qO h) (oH t)
abbrev KT (H:Hp):List (List Key×V)->List (List Key×Addr×DK)->Prop:=Paired λp q=>p.1=q.1/\H q.2.1=some (.tup (p.1.map kV))/\RelV p.2 q.2.2
theorem KT.val {H:Hp}{kvs:List (List Key×V)}{xs:List (List Key×Addr×DK)}(r:KT H kvs xs)(k:List Key):kT (dJ kvs k) ((atKey xs k).map (·.2)):=by
 induction r with
 | nil=>exact True.intro
 | @cons p q ps qs h t ih =>
  obtain ⟨h1,_,h2⟩:=h
  by_cases e:p.1=k
  ·have e':q.1=k:=h1.symm.trans e
   have b:atKey (q :: qs) k=some q.2:=by simp[atKey,Il,e']
   rw[i4 e,b];exact h2
  ·have e':¬ q.1=k:=λz=>e (h1.trans z)
   have b:atKey (q :: qs) k=atKey qs k:=by simp[atKey,Il,e']
   rw[i5 e,b];exact ih
theorem KT.Cd {H:Hp}{kvs:List (List Key×V)}{xs:List (List Key×Addr×DK)}(r:KT H kvs xs)(k:List Key){y:V}{u:DK}(ry:RelV y u) :
  KT H (kvs.map λkv=>if kv.1=k then (kv.1,y) else kv) (xs.map (putAt k u)):=by
 induction r with
 | nil=>exact .nil
 | @cons p q ps qs h t ih =>
  rw[Ew,Ew]
  refine .cons ?_ ih
  obtain ⟨h1,h2,h3⟩:=h
  unfold putAt
  by_cases e:p.1=k
  ·rw[if_pos e,if_pos (h1.symm.trans e)];exact ⟨h1,h2,ry⟩
  ·rw[if_neg e,if_neg (λz=>e (h1.trans z))];exact ⟨h1,h2,h3⟩
theorem KT.put {H:Hp}{kvs:List (List Key×V)}{xs:List (List Key×Addr×DK)}(r:KT H kvs xs)(k:List Key){b:Addr}{y:V}{u:DK}(hb:H b=some (.tup (k.map kV)))(ry:RelV y u) :
  KT H (putK kvs k y) (storedH xs k b u):=by
 have e:(kvs.any λkv=>decide (kv.1=k))=(atKey xs k).isSome:=by
  rw[lY,(r.val k).jz,Mh]
 unfold putK storedH
 rw[e]
 by_cases q:(atKey xs k).isSome=true
 ·rw[if_pos q,if_pos q];exact r.Cd k ry
 ·rw[if_neg q,if_neg q];exact Nv r ⟨rfl,hb,ry⟩
theorem KT.keeps {H H':Hp}{kvs:List (List Key×V)}{xs:List (List Key×Addr×DK)}(r:KT H kvs xs)(ht:∀b ys,H b=some (.tup ys)->H' b=some (.tup ys)):KT H' kvs xs :=
 Paired.By r λ_ _ z=>⟨z.1,ht _ _ z.2.1,z.2.2⟩
section
variable  {P:D9}{w:EE}{H:Hp}{h:Heap}{a:Addr}
theorem A1 {u:HO}(ok:HOk P w H h)(e:Rd H a u):bp P w H h a u:=e.ok ok
theorem uv {kvs:List (Key×V)}(ok:HOk P w H h)(e:Rd H a (.dK kvs)):kvs.length<=D3/\(a == sysModules)=false/\∃vs,KV kvs vs/\h.DictOf (bQ P w) a vs :=
 show bp P w H h a (.dK kvs) from A1 ok e
theorem A3 {kvs:List (Key×V)}(ok:HOk P w H h)(e:H a=some (.dK kvs)):kvs.length<=D3/\(a == sysModules)=false/\∃vs,KV kvs vs/\h.DictOf (bQ P w) a vs:=uv ok (.inl e)
theorem pI {ks:List Key}(ok:HOk P w H h)(e:H a=some (.tup (ks.map kV))):(tupleKind (bQ P w)).is h ks a:=by
 obtain ⟨_,its,r,o,h1,h2,n,h3⟩:=(show bp P w H h a (.tup (ks.map kV)) from ok a _ e)
 exact ⟨o,its.toArray,n,h1,h2.1,h3,by simpa using oH r⟩
theorem uw {kvs:List (List Key×V)}(ok:HOk P w H h)(e:Rd H a (.dT kvs)):kvs.length<=D3/\(a == sysModules)=false ∧
  ∃xs,KT H kvs xs/\h.DictOfH (tupleKind (bQ P w)) a xs:=by
 obtain ⟨z,y,xs,r,o,es,ep,h1,h2,h3,h4,h5⟩:=(show bp P w H h a (.dT kvs) from A1 ok e)
 refine ⟨z,y,xs,r,o,es,ep,h1,h2,h3,h4,λx hx =>?_,h5⟩
 have all:∀{l:List (List Key×V)} {m:List (List Key×Addr×DK)},KT H l m->∀x∈m,(tupleKind (bQ P w)).is h x.1 x.2.1:=by
  intro l m q
  induction q with
  | nil=>intro x hx;exact nomatch hx
  | @cons p q ps qs hq t ih =>
   intro x hx
   rcases Eg.mp hx with e | hx
   ·subst e
    exact pI ok (by rw[<- hq.1];exact hq.2.1)
   ·exact ih x hx
 exact all r x hx
theorem Dh {kvs:List (List Key×V)}(ok:HOk P w H h)(e:H a=some (.dT kvs)):kvs.length<=D3/\(a == sysModules)=false ∧
  ∃xs,KT H kvs xs/\h.DictOfH (tupleKind (bQ P w)) a xs:=uw ok (.inl e)
end
def mf (H:Hp)(a:Addr)(y:V)(r:Option V):Prop :=
 (∃kvs k,Rd H a (.dK kvs)/\y=kV k/\r=dJ kvs k)\/∃kvs k b,Rd H a (.dT kvs)/\y = .ref b/\H b=some (.tup (k.map kV))/\r=dJ kvs k
def vQ (H:Hp)(a:Addr)(y v:V)(H':Hp):Prop :=
 (∃kvs k,H a=some (.dK kvs)/\y=kV k/\kvs.length<D3/\H'=upd H a (.dK (putK kvs k v))) ∨
 ∃kvs k b,H a=some (.dT kvs)/\y = .ref b/\H b=some (.tup (k.map kV))/\kvs.length<D3/\H'=upd H a (.dT (putK kvs k v))
theorem mf.k {H:Hp}{a:Addr}{kvs:List (Key×V)}{k:Key}(e:H a=some (.dK kvs)):mf H a (kV k) (dJ kvs k) :=.inl ⟨kvs,k,.inl e,rfl,rfl⟩
theorem vQ.k {H:Hp}{a:Addr}{kvs:List (Key×V)}{k:Key}{v:V}(e:H a=some (.dK kvs))(hl:kvs.length<D3):vQ H a (kV k) v (upd H a (.dK (putK kvs k v))) :=.inl ⟨kvs,k,e,rfl,hl,rfl⟩
section
variable  {X:Cx}{pins:List (Addr×Obj)}{σ:St}{H:Hp}{s:DP}{a:Addr}{y v:V}{u r:DK}{o:Option V}{A:EV}{E:DK->DP->Prop}
theorem Inv.big (I:Inv X pins σ H s):sysModules<s.heap.objs.size:=by
 have h:Ey<s.heap.objs.size:=(I.mod.glob.keeps I.bk).lt
 exact Nat.lt_trans (by decide) h
theorem vR {Q:DK->DP->Prop}(hu:A.units+1<cLine)(I:Inv X pins σ H s)(g:mf H a y (some v))(ry:RelV y u)(h:∀w' s',Inv X pins σ H s'->RelV v w'->Q w' s') :
  Ee (Es X.prog X.w) A (getItem (.ref a) u) Q E s:=by
 rcases g with ⟨kvs,k,e,ey,l⟩ | ⟨kvs,k,b,e,ey,eb,l⟩
 ·subst ey
  obtain ⟨z,hd,vs,rel,dd⟩:=uv I.hok e
  obtain ⟨w',hw,rw'⟩:=kT.some_of (v:=v) (o:=valueAt vs k) (by rw[l];exact rel.val k)
  exact wpAny_getItem_of (qO ry) dd.mapOf hw (h w' _ (I.tok _) rw')
 ·subst ey
  cases (show u=D8 b from ry)
  obtain ⟨z,hd,xs,rel,dd⟩:=uw I.hok e
  obtain ⟨w',hw,rw'⟩:=kT.some_of (v:=v) (o:=(atKey xs k).map (·.2)) (by rw[l];exact rel.val k)
  obtain ⟨p,hp,hp2⟩:=Ie.mp hw
  refine wpAny_getItem_heap (JT hu) (pI I.hok eb) dd hp ?_
  rw[hp2]
  exact h w' _ (I.tok _) rw'
theorem zX {Q:DK->DP->Prop}(hu:A.units+1<cLine)(I:Inv X pins σ H s)(g:mf H a y o)(ry:RelV y u)(h:∀s',Inv X pins σ H s'->Q (.bool (!o.isSome)) s') :
  Ee (Es X.prog X.w) A (Fl .NotIn u (.ref a)) Q E s:=by
 rcases g with ⟨kvs,k,e,ey,l⟩ | ⟨kvs,k,b,e,ey,eb,l⟩
 ·subst ey
  obtain ⟨z,hd,vs,rel,dd⟩:=uv I.hok e
  refine wpAny_notIn_of (qO ry) hd dd.mapOf ?_
  rw[<- (rel.val k).jz, <- l]
  exact h _ (I.tok _)
 ·subst ey
  cases (show u=D8 b from ry)
  obtain ⟨z,hd,xs,rel,dd⟩:=uw I.hok e
  refine wpAny_notIn_heap (JT hu) (pI I.hok eb) hd dd ?_
  have q:=(rel.val k).jz
  rw[Mh] at q
  rw[<- q, <- l]
  exact h _ (I.tok _)
theorem pJ {h':Heap}{t':Nat}{ob:HO}(I:Inv X pins σ H s)(mu:Mut (H a))(hs:Heap.SameBut a s.heap h')(he:∃q,h'.get? a=some q)(new:bp X.prog X.w (upd H a ob) h' a ob) :
  Inv X pins σ (upd H a ob) { s with heap:=h',toks:=t' } :=
 I.write (x:=a) (e:=a) mu (.inl rfl) (λb q hb z=>(hs.2 b hb).trans z) he new
theorem xV {P:D9}{w:EE}{H':Hp}{h':Heap}{kvs:List (Key×V)}{vs:List (Key×DK)}(z:kvs.length<=D3)(hd:(a == sysModules)=false)(rel:KV kvs vs)(dd:h'.DictOf (bQ P w) a vs) :
  bp P w H' h' a (.dK kvs):=⟨z,hd,vs,rel,dd⟩
theorem vS {H':Hp}{Q:Unit->DP->Prop}(hu:A.units+1<cLine)(I:Inv X pins σ H s)(g:vQ H a y v H')(ry:RelV y u)(rv:RelV v r)(h:∀s',Inv X pins σ H' s'->Q () s') :
  Ee (Es X.prog X.w) A (setItem (.ref a) u r) Q E s:=by
 rcases g with ⟨kvs,k,e,ey,l,eH⟩ | ⟨kvs,k,b,e,ey,eb,l,eH⟩
 ·subst ey eH
  obtain ⟨z,hd,vs,rel,dd⟩:=A3 I.hok e
  have hz:vs.length<=D3:=by rw[<- rel.length];exact z
  have hl:(putK kvs k v).length<=D3:=by have:=fX kvs k v;lia
  refine wpAny_setItem_pairs (hsz:=hz) (qO ry) dd λh' dd' hs=>h _ ?_
  have he:∃q,h'.get? a=some q:=let ⟨q,_,_,hq,_⟩:=dd';⟨q,hq⟩
  exact pJ I (by rw[e];exact True.intro) hs he (xV hl hd (rel.put k rv) dd')
 ·subst ey eH
  cases (show u=D8 b from ry)
  obtain ⟨z,hd,xs,rel,dd⟩:=Dh I.hok e
  have hz:xs.length<=D3:=by rw[<- HU rel];exact z
  have hl:(putK kvs k v).length<=D3:=by have:=fX kvs k v;lia
  refine wpAny_setItem_heap (hsz:=hz) (JT hu) (pI I.hok eb) dd λh' dd' hs=>h _ ?_
  obtain ⟨q,es,ep,hq,h2,h3,h4,_,h5⟩:=dd'
  refine pJ I (by rw[e];exact True.intro) hs ⟨q,hq⟩ ⟨hl,hd,_,(rel.put k eb rv).keeps λc ys ec =>?_,q,es,ep,hq,h2,h3,h4,h5⟩
  rw[aq (ql ec e (λz=>nomatch z))]
  exact ec
end
section
variable  {X:Cx}{pins:List (Addr×Obj)}{σ:St}{H:Hp}{s:DP}{a:Addr}{kvs:List (Key×V)}{k:Key}{u:DK}{A:EV}{E:DK->DP->Prop}
end
def Di (i:Expr):Prop:=∀ov iv,subscripted i false ov iv=operate [ov,iv] (getItem ov iv)
theorem zY {prog:D9}{w:EE}{A:EV}{E:DK->DP->Prop}{s:DP}{env:Env}{value slice:Expr}{pos:Pos}{T id:String}{Q:DK->DP->Prop}
  (hl:typeLookup (.type T) "__getitem__" = pure (some (.builtin id))) (hs:Di slice)
  (h:Ee (Es prog w) A (eval value env) (λo s₁=>Ee (Es prog w) A (eval slice env) (λi s₂=>s₂.TypeIs o T/\Ee (Es prog w) A (getItem o i) Q E s₂) E s₁) E s) :
  Ee (Es prog w) A (eval (.Subscript value slice pos) env) Q E s:=by
 refine Subscript_ (Gk h (λo s₁ h₁=>Gk h₁ (λi s₂ h₂ =>?_) λ_ _ x=>x) λ_ _ x=>x)
 obtain ⟨hT,h₂⟩:=h₂
 unfold subscriptTail
 refine DH ?_
 rw[getitemInPython_of_ne hT.not_modules]
 refine DH (G6 hT hl ?_)
 have fin:Ee (Es prog w) A (subscripted slice false o i) (λr s₃=>Ee (Es prog w) A (letTemporaryGo value o r >>= λ_=>pure r) Q E s₃) E s₂:=by
  rw[hs o i]
  exact wpAny_operating (Gk h₂ (λr s₃ h₃=>DH (wpAny_letTemporaryGo (DN h₃))) λ_ _ x=>x)
 first
  | exact DN (DH fin)
  | exact DH (DN (DH fin))
  | exact DH fin
theorem qP {X:Cx}{pins:List (Addr×Obj)}{σ:St}{H:Hp}{s:DP}{a:Addr}{y:V}{o:Option V}(I:Inv X pins σ H s)(g:mf H a y o):s.TypeIs (.ref a) "dict" := by
 rcases g with ⟨kvs,k,e,_,_⟩ | ⟨kvs,k,b,e,_,_,_⟩
 ·obtain ⟨_,_,vs,_,dd⟩:=uv I.hok e
  exact dd.typeIs
 ·obtain ⟨_,_,xs,_,dd⟩:=uw I.hok e
  exact dd.typeIs
def Dj (td ty:TE):TE:=λσ H Q=>td σ H λx H1=>ty σ H1 λy H2=>∃a v,x = .ref a/\mf H2 a y (some v)/\Q v H2
def zZ (ty td:TE):TE:=λσ H Q=>ty σ H λy H1=>td σ H1 λx H2=>∃a o,x = .ref a/\mf H2 a y o/\Q (.bl (!o.isSome)) H2
def Dk (td ty tv:TE):TS:=λD σ H=>tv σ H λv H1=>td σ H1 λx H2=>ty σ H2 λy H3=>∃a H4,x = .ref a/\vQ H3 a y v H4/\D.nx σ H4
section
variable  {X:Cx}{o i e value:Expr}{pos pos' tpos:Pos}{td ty tv:TE}
theorem Aa (hu:X.A.units+1<cLine)(ho:PE X o td)(hi:PE X i ty)(hs:Di i):PE X (.Subscript o i pos) (Dj td ty):=by
 intro pins s σ H Q I h
 refine zY PySem.F.slot_dict_getitem.lookup hs (thn (ho pins s σ H _ I h) λu s1 ⟨x,H1,I1,rx,q1⟩=>thn (hi pins s1 σ H1 _ I1 q1) λiv s2 ⟨y,H2,I2,ry,a,v,ex,g,q2⟩ =>?_)
 subst ex
 obtain rfl:u=D8 a:=rx
 exact ⟨qP I2 g,vR hu I2 g ry λw' s3 I3 rw'=>⟨v,H2,I3,rw',q2⟩⟩
theorem jA (hu:X.A.units+1<cLine)(hi:PE X i ty)(ho:PE X o td):PC X .NotIn i o (zZ ty td):=by
 intro pins s σ H Q I h
 refine thn (hi pins s σ H _ I h) λiv s1 ⟨y,H1,I1,ry,q1⟩=>thn (ho pins s1 σ H1 _ I1 q1) λu s2 ⟨x,H2,I2,rx,a,ov,ex,g,q2⟩ =>?_
 subst ex
 obtain rfl:u=D8 a:=rx
 exact zX hu I2 g ry λs3 I3=>⟨.bl (!ov.isSome),H2,I3,rfl,q2⟩
theorem Ab (hu:X.A.units+1<cLine)(ho:PE X o td)(hi:PE X i ty)(hv:PE X value tv)(hs:swapsWith value (some (.Subscript o i pos')) pos.line X.env=pure false) :
  PS X (.Assign [.Subscript o i pos'] value pos) (Dk td ty tv):=by
 intro pins s σ H D I h
 refine wpAny_Assign_Subscript (thn (hv pins s σ H _ I h) λr s1 ⟨v,H1,I1,rv,q1⟩=>thn (ho pins s1 σ H1 _ I1 q1) λu s2 ⟨x,H2,I2,rx,q2⟩=>thn (hi pins s2 σ H2 _ I2 q2) λiv s3 ⟨y,H3,I3,ry,a,H4,ex,g,q3⟩ =>?_) hs
 subst ex
 obtain rfl:u=D8 a:=rx
 exact vS hu I3 g ry rv λs4 I4=>⟨σ,H4,I4,q3⟩
end
theorem xW {P:D9}{w:EE}{H:Hp}(h:Heap)(hb:sysModules<h.objs.size):bp P w H (h.push { cls :=.type "dict",data :=.dict #[] }) h.objs.size (.dK []) :=
 ⟨EB _,beq_eq_false_iff_ne.mpr (Ft (Ed hb)),[],.nil,Heap.DictOf.new h⟩
section
variable  {X:Cx}{pos:Pos}
end
def sA:List (TE×TE)->St->Hp->(List (V×V)->Hp->Prop)->Prop
 | [],_,H,Q=>Q [] H
 | (tk,tv) :: r,σ,H,Q=>tk σ H λx H1=>tv σ H1 λy H2=>sA r σ H2 λps H3=>Q ((x,y) :: ps) H3
abbrev VV:List (V×V)->List (DK×DK)->Prop:=Paired λp q=>RelV p.1 q.1/\RelV p.2 q.2
def PPs (X:Cx)(pos:Pos)(keys:List (Option Expr))(values:List Expr)(trs:List (TE×TE)):Prop :=
 ∀(pins:List (Addr×Obj)) (s:DP) (σ:St) (H:Hp) (Q:List (V×V)->Hp->Prop),Inv X pins σ H s->sA trs σ H Q →
  Ee (Es X.prog X.w) X.A (evalPairs (pairTrees keys values X.env pos)) (λvs s'=>∃ps H',Inv X pins σ H' s'/\VV ps vs/\Q ps H') X.xe s
theorem Ac {X:Cx}{pos:Pos}:PPs X pos [] [] []:=λpins s σ H Q I h=>pairTrees_nil_walk ⟨[],H,I,.nil,h⟩
theorem xX {X:Cx}{pos:Pos}{k v:Expr}{ks:List (Option Expr)}{vs:List Expr}{tk tv:TE}{trs:List (TE×TE)}(hk:PE X k tk)(hv:PE X v tv)(hr:PPs X pos ks vs trs) :
  PPs X pos (some k :: ks) (v :: vs) ((tk,tv) :: trs):=λpins s σ H Q I h =>
 pairTrees_cons_walk (thn (hk pins s σ H _ I h) λu s1 ⟨x,H1,I1,rx,q1⟩=>thn (hv pins s1 σ H1 _ I1 q1) λw2 s2 ⟨y,H2,I2,ry,q2⟩ =>
  thn (hr pins s2 σ H2 _ I2 q2) λws s3 ⟨ps,H3,I3,rel,q3⟩=>⟨(x,y) :: ps,H3,I3,.cons ⟨rx,ry⟩ rel,q3⟩)
def fY (kvs more:List (Key×V)):List (Key×V):=more.foldl (λacc kv=>putK acc kv.1 kv.2) kvs
theorem KV.merge:∀{more:List (Key×V)} {rs:List (Key×DK)} {kvs:List (Key×V)} {vs:List (Key×DK)},KV more rs->KV kvs vs->KV (fY kvs more) (merged vs rs):=by
 intro more rs kvs vs r
 unfold KV at r
 induction r generalizing kvs vs with
 | nil=>intro q;exact q
 | @cons p q ps qs h t ih =>
  intro r0
  have e:KV (putK kvs p.1 p.2) (stored vs q.1 q.2):=by
   have:=r0.put p.1 h.2
   rw[<- h.1];exact this
  exact ih e
theorem hW:∀(more kvs:List (Key×V)),(fY kvs more).length<=kvs.length+more.length
 | [],kvs=>by show kvs.length<=kvs.length+0;lia
 | p :: r,kvs=>by
  have h1:=hW r (putK kvs p.1 p.2)
  have h2:=fX kvs p.1 p.2
  show (fY (putK kvs p.1 p.2) r).length<=_
  rw[Eu];lia
theorem mh {P:D9}{w:EE}:∀{kvs:List (Key×V)} {ws:List (DK×DK)},VV (kvs.map λkv=>(kV kv.1,kv.2)) ws->∃rs,Carries (bQ P w) ws rs/\KV kvs rs
 | [],_,r=>by rw[KU] at r;cases r;exact ⟨[],True.intro,.nil⟩
 | p :: kvs,_,r=>by
  rw[Ew] at r
  cases r with
  | @cons a b as bs h t =>
   obtain ⟨rs,c,q⟩:=mh (P:=P) (w:=w) t
   obtain ⟨b1,b2⟩:=b
   exact ⟨(p.1,b2) :: rs,⟨qO h.1,rfl,c⟩,.cons ⟨rfl,h.2⟩ q⟩
def Dl (trs:List (TE×TE)):TE:=λσ H Q=>∀p,H p=none->sA trs σ (upd H p (.dK [])) λps H2=>H2 p=some (.dK [])/\∃kvs:List (Key×V),ps=kvs.map (λkv=>(kV kv.1,kv.2))/\kvs.length<=15/\Q (.ref p) (upd H2 p (.dK (fY [] kvs)))
theorem Ad {X:Cx}{pos:Pos}{keys:List (Option Expr)}{values:List Expr}{trs:List (TE×TE)}(h:PPs X pos keys values trs)(hall:keys.all (·.isSome)=true)(hl:keys.length=values.length)(h0:keys≠[])
  (h15:keys.length<=15):PE X (.Dict keys values pos) (Dl trs):=by
 intro pins s σ H Q I q
 have hn:=I.hok.fresh (DS s.heap.objs.size)
 have I1:=I.laid (a:=s.heap.objs.size) (o :=.dK []) (h':=s.heap.push { cls :=.type "dict",data :=.dict #[] }) (t':=s.toks) (λ_ _ q=>DJ _ q) (DS _) (xW s.heap I.big)
 refine wpAny_Dict_walk (knd:=bQ X.prog X.w) hall hl h0 h15 (thn (h pins _ σ _ _ I1 (q _ hn)) λws s2 ⟨ps,H2,I2,rel,e,kvs,ep,lk,q2⟩ =>?_)
 subst ep
 obtain ⟨rs,c,rk⟩:=mh (P:=X.prog) (w:=X.w) rel
 obtain ⟨z,hd,vs0,r0,dd⟩:=A3 I2.hok e
 cases r0
 refine ⟨rs,c,dd,λh' dd' hs=>⟨.ref s.heap.objs.size,_,?_,rfl,q2⟩⟩
 have hz:(fY [] kvs).length<=D3:=by
  have h1:=hW kvs []
  rw[G2] at h1
  rw[G4];lia
 have he:∃q,h'.get? s.heap.objs.size=some q:=let ⟨q,_,_,hq,_⟩:=dd';⟨q,hq⟩
 exact pJ I2 (by rw[e];exact True.intro) hs he (xV hz hd (rk.merge .nil) dd')
structure M1 (X:Cx)(o:Expr)(m:Str)(apos:Pos)(e:Expr)(cpos:Pos):Prop where
 base:attributeBase o m X.env (eval o X.env)=eval o X.env
 few:((Ib cpos (EL [e] X.env)).all (λx => !x.1) && (backToKw cpos (keywordEach [] X.env)).all (λx=>x.1.isSome)
  && decide (([e]:List Expr).length+([]:List Keyword).length+(if ([]:List Keyword).isEmpty then 0 else 1)<30))=true
 line:(apos.endLine == cpos.line)=true
 trees:Ib cpos (EL [e] X.env)=[(false,eval e X.env)]
section
variable  {X:Cx}{pins:List (Addr×Obj)}{σ:St}{H:Hp}{s:DP}{a:Addr}{y d:V}{u r:DK}{o:Option V}{A:EV}{E:DK->DP->Prop}
end
section
variable  {X:Cx}{o e f:Expr}{apos cpos:Pos}{td ty tx:TE}
end
section
variable  {X:Cx}{pins:List (Addr×Obj)}{σ:St}{H:Hp}{s:DP}{a:Addr}{kvs:List (Key×V)}{A:EV}{E:DK->DP->Prop}
end
section
variable  {X:Cx}{pins:List (Addr×Obj)}{σ:St}{H:Hp}{s:DP}{a:Addr}{y:V}{u:DK}{A:EV}{E:DK->DP->Prop}
end
section
variable  {X:Cx}
end
section
variable  {κ:Type}[DecidableEq κ]
end
open PySem PyProof.Rows
section
variable  {X:Cx}
def Ce (ns ms:List Int)(j:Nat):Bool:=ns.getD j 0 == ms.getD j 0
theorem xY {ns ms:List Int}(h:ns.length=ms.length):((EU ns.length).all λj=>Ce ns ms j)=decide (ns=ms):=by
 rw[Gb,decide_eq_true_iff,Gf]
 constructor
 ·intro hh
  refine ID h λj h1 h2 =>?_
  have:=hh j (E9.mpr h1)
  unfold Ce at this
  rw[DX,DX,DL h1,DL h2] at this
  exact of_decide_eq_true (by simpa using this)
 ·rintro rfl j _
  exact beq_self_eq_true _
theorem intAt {ns:List Int}{us:List DK}(r:Vals (ns.map V.int) us){j:Nat}(h:j<us.toArray.size):∃t,us.toArray[j] = .int (ns.getD j 0) t:=by
 have l:=r.length
 rw[DI] at l
 rw[DR] at h
 have e1:(ns.map V.int)[j]? = some (.int (ns.getD j 0)):=by
  rw[D1,DX,DL (by lia)]
  rfl
 obtain ⟨u,g1,q1⟩:=r.get e1
 have f1:us.toArray[j]=u:=by simp[DQ] at g1;obtain ⟨_,g⟩:=g1;simpa using g
 rw[f1]
 exact q1
end
end L2
namespace HT
open PySem PySem.Spec PyProof.Rows
section
variable  {prog:D9}{w:EE}{A:EV}{R:Result->DP->Prop}{I:Addr}{fp wr:List Addr}{n:Nat}{P:Nat->DK->Prop}{St:Nat->Heap->Prop}{kw:List (Str×DK)}
end
section
variable  {prog:D9}{w:EE}{A:EV}{E:DK->DP->Prop}{s:DP}{l:Addr}{xs:Array (Int×Tok)}
end
end HT
namespace L2
open PySem PyProof.Rows
section
variable  {X:Cx}{x:Str}{id:String}{e:Expr}{es:List Expr}{kws:List Keyword}{p pos:Pos}{t tk:TA}{ks:List Str}{r:List V->List V->Hp->VK->Prop}
end
section
variable  {X:Cx}
theorem xZ {ns:List Int}{j:Nat}(h:j<ns.length):ns.getD j 0∈ns:=by
 rw[DX,DL h]
 exact GB h
theorem x6 {ns:List Int}{a:Int}(h:a∈ns):∃j,j<ns.length/\ns.getD j 0=a:=by
 obtain ⟨j,hj,e⟩:=IJ h
 exact ⟨j,hj,by rw[DX,DL hj];exact e⟩
end
section
variable  {X:Cx}
def qQ (ns ms:List Int)(j:Nat):Bool:=ns.getD j 0 == ms.getD j 0
theorem vT {ns ms:List Int}(h:ns.length=ms.length):((EU ns.length).all λj=>qQ ns ms j)=decide (ns=ms):=by
 rw[Gb,decide_eq_true_iff,Gf]
 constructor
 ·intro hh
  refine ID h λj h1 h2 =>?_
  have:=hh j (E9.mpr h1)
  unfold qQ at this
  rw[DX,DX,DL h1,DL h2] at this
  exact of_decide_eq_true (by simpa using this)
 ·rintro rfl j _
  exact beq_self_eq_true _
theorem oI {ns ms:List Int}:((EU (min ns.length ms.length)).all (qQ ns ms) && ns.length == ms.length)=decide (ns=ms):=by
 by_cases h:ns.length=ms.length
 ·rw[<- h,JP,show (ns.length == ns.length)=true from beq_self_eq_true _,Bool.and_true]
  exact vT h
 ·have ne:ns≠ms:=λz=>h (by rw[z])
  rw[decide_eq_false ne,show (ns.length == ms.length)=false from by simpa using h,Lv]
theorem pK {ns:List Int}{us:List DK}(r:Vals (ns.map V.int) us){j:Nat}(h:j<us.toArray.size):∃t,us.toArray[j] = .int (ns.getD j 0) t:=by
 have l:=r.length
 rw[DI] at l
 rw[DR] at h
 have e1:(ns.map V.int)[j]? = some (.int (ns.getD j 0)):=by
  rw[D1,DX,DL (by lia)]
  rfl
 obtain ⟨u,g1,q1⟩:=r.get e1
 have f1:us.toArray[j]=u:=by simp[DQ] at g1;obtain ⟨_,g⟩:=g1;simpa using g
 rw[f1]
 exact q1
theorem ux {k:Nat}(hr:cB k X.A):OpR X (Fl .Eq) (λx y H Q=>∃(a b:Addr) (ns ms:List Int),x = .ref a/\y = .ref b/\SqT X.K H a (ns.map V.int)/\SqT X.K H b (ms.map V.int)/\Q (.bl (decide (ns=ms))) H):=by
 intro pins s σ H x y v u Q I rx ry h
 obtain ⟨a,b,ns,ms,rfl,rfl,h1,h2,q⟩:=h
 cases (show v=D8 a from rx)
 cases (show u=D8 b from ry)
 obtain ⟨its,r1,p1,_⟩:=I.tuple h1
 obtain ⟨its2,r2,p2,_⟩:=I.tuple h2
 have l1:=r1.length
 have l2:=r2.length
 rw[DI] at l1 l2
 have hu:=hr.un
 have hu1:X.A.units<cLine:=by lia
 have R:=Mb (A:=X.A) (e:=qQ ns ms) (show s.heap.IsTuple a its.toArray from p1) (show s.heap.IsTuple b its2.toArray from p2) hu1 (by
  intro j h1 h2
  obtain ⟨t1,g1⟩:=pK r1 h1
  obtain ⟨t2,g2⟩:=pK r2 h2
  rw[g1,g2]
  exact GJ _ t1 _ t2)
 rw[DR,DR, <- l1, <- l2,oI] at R
 exact R _ _ _ _ ⟨.bl _,H,I,rfl,q⟩
def Wd (i:Int):Prop:=i.natAbs<2 ^ 4000
theorem Wd.bits {i:Int}(h:Wd i):Builtin.Int.intBits i<=2 ^ 20:=by
 unfold Builtin.Int.intBits
 split
 ·exact EB _
 ·have:i.natAbs.log2<4000:=by
   rcases Jb i.natAbs with h0 | hp
   ·rw[h0];decide
   ·exact (Nat.log2_lt (by lia)).mpr h
  lia
def Dm (i j:Int):Prop:=Wd i/\Wd j
theorem pL:OpR X (binaryOp .Mult) (rI Dm λi j =>.int (i*j)):=opI λ_ _ _ _ _ _ _ hc q=>mul_int q (IntMulOk.of_bits hc.1.bits hc.2.bits)
def Dn (_ j:Int):Prop:=0<j/\Wd j
theorem x8:OpR X (binaryOp .FloorDiv) (rI Dn λi j =>.int (i/j)):=opI λi j _ _ _ _ _ hc q=>by
 have h1:(0:Int)<j:=hc.1
 have h2:j.natAbs.log2<9000:=by
  have:j.natAbs.log2<4000:=(Nat.log2_lt (by lia)).mpr hc.2
  lia
 refine floordiv_int (by lia) ?_ (.inl (PyProof.noPylong_of_log2 h2))
 rw[JJ i (by lia)]
 exact q
end
section
variable  {P:D9}{w:EE}{K:DM}{mg:Str->Option DK}{base:Heap}
end
end L2
namespace L2.Rev
open PySem
open Sem (wp)
section
variable  {prog:D9}{w:EE}{A:EV}{E:DK->DP->Prop}{s:DP}
end
end L2.Rev
namespace L2
open PySem PySem.Spec PyProof.Rows
section
variable  {X:Cx}
theorem qR:Ff "reversed" = some (.type "reversed"):=by decide +kernel
theorem qS:∀{xs:List V} {us:List DK},Vals xs us->Vals xs.reverse us.reverse
 | [],[],_ =>.nil
 | x :: xs,u :: us,.cons h t=>by
  rw[Mi,Mi]
  exact (qS t).append (.cons h .nil)
end
end L2
namespace L2.Rem
open PySem PySem.SeqAt PySem.MeetsSeq
open AutoSeq1 (wpAny_loadPart')
theorem Ae (l:Addr)(items:Array DK)(n:Nat)(x:DK)(e:DK->Bool)(j:Nat)(hj:j<items.size)(hit:e items[j]=true)(k:Nat)(hs1:items.size<=D3) :
  ∀i:Nat,j-i=k->i<=j->(∀m (hm:m<items.size),i<=m->m<j->e items[m]=false)->Meets (Builtin.«list.remove.loop» ⟨[.ref l,x,HD i],[]⟩)
   (λA R s=>(s.heap.get? l=some { cls :=.type "list",dict:=none,data :=.seq items n,slots := #[] }/\∀y,y∈items->EqAt A.in1 s y x (e y))/\R (.ok (.ret .none)) { s with heap:=s.heap.update l (F8 λxs=>xs.eraseIdxIfInBounds j) }):=by
 induction k with
 | zero =>
  rintro i hk hij hno prog w A R ⟨hp,g,d,tk,os⟩ ⟨⟨hl,he⟩,h⟩
  obtain rfl:i=j:=by lia
  wp_walk using wpAny_loadPart' hl
  rw[show items[((i:Nat):Int).toNat]? = some items[i] by simp[hj]]
  refine DH (he _ (Jg hj) prog w _ _ ?_)
  rw[hit]
  wp_walk using (FR hl rfl (hz:=hs1) (_hz':=EI (size_erased items i) (HI hs1))),wpAny_loadPart' hl
  simpa using h
 | succ k ih =>
  rintro i hk hij hno prog w A R ⟨hp,g,d,tk,os⟩ ⟨⟨hl,he⟩,h⟩
  have lt:i<items.size:=by lia
  wp_walk using wpAny_loadPart' hl
  rw[show items[((i:Nat):Int).toNat]? = some items[i] by simp[lt]]
  refine DH (he _ (Jg lt) prog w _ _ ?_)
  rw[hno i lt (DS _) (by lia)]
  wp_walk
  rw[show ((i:Int)+1)=((i+1:Nat):Int) by push_cast;rfl]
  exact ⟨Fs plain_remove_loop _,ES entry_remove_loop (by
   rw[EM plain_remove_loop _]
   exact ih (i+1) (by lia) (by lia) (λm hm h1 h2=>hno m hm (by lia) h2) prog w A R _ ⟨⟨hl,he⟩,h⟩)⟩
theorem uz (l:Addr)(items:Array DK)(n:Nat)(x:DK)(e:DK->Bool)(j:Nat)(hj:j<items.size)(hit:e items[j]=true)(hno:∀m (hm:m<items.size),m<j->e items[m]=false)(hs1:items.size<=D3) :
  Meets (Builtin.«list.remove» ⟨[.ref l,x],[]⟩)
   (λA R s=>(s.heap.get? l=some { cls :=.type "list",dict:=none,data :=.seq items n,slots := #[] }/\∀y,y∈items->EqAt A.in1 s y x (e y))/\R (.ok (.ret .none)) { s with heap:=s.heap.update l (F8 λxs=>xs.eraseIdxIfInBounds j) }):=by
 rintro prog w A R ⟨hp,g,d,tk,os⟩ ⟨⟨hl,he⟩,h⟩
 wp_walk using wpAny_loadPart' hl
 exact ⟨Fs plain_remove_loop _,ES entry_remove_loop (by
  rw[EM plain_remove_loop _]
  exact Ae l items n x e j hj hit _ hs1 0 rfl (EB _) (λm hm _ h2=>hno m hm h2) prog w A R _ ⟨⟨hl,he⟩,h⟩)⟩
end L2.Rem
namespace L2
open PySem PySem.Spec PyProof.Rows
section
variable  {X:Cx}
theorem ik {α:Type}[BEq α][LawfulBEq α]{m:α}:∀{l:List α},m∈l->∃j,l[j]? = some m/\(∀i<j,∀x,l[i]? = some x->x≠m)/\l.erase m=l.eraseIdx j
 | [],h=>by cases h
 | x :: l,h=>by
  by_cases e:x=m
  ·subst e
   exact ⟨0,rfl,λi hi=>by lia,by simp⟩
  ·obtain ⟨j,h1,h2,h3⟩:=ik (l:=l) (by rcases Eg.mp h with z | z;exact absurd z.symm e;exact z)
   refine ⟨j+1,by simpa using h1,λi hi y hy =>?_,?_⟩
   ·cases i with
    | zero =>
     have:x=y:=by simpa using hy
     rw[<- this];exact e
    | succ i=>exact h2 i (by lia) y (by simpa using hy)
   ·rw[List.erase_cons_tail (by simpa using e),h3]
    rfl
def Dp:V->List V->Hp->VK->Prop:=λx vs H Q=>∃(l b:Addr) (ts:List (Addr×List Int)) (m:List Int),x = .ref l/\vs=[.ref b]/\H l=some (.lst (ts.map λt =>.ref t.1))/\(∀t∈ts,H t.1=some (.tup (t.2.map V.int)))/\H b=some (.tup (m.map V.int))/\m∈ts.map (·.2) ∧
 ∀us:List (Addr×List Int),us.map (·.2)=(ts.map (·.2)).erase m->(∀u∈us,u∈ts)->Q .non (upd H l (.lst (us.map λt =>.ref t.1)))
theorem Cf (hu:X.A.units+8<cLine):MtM X "list.remove" Dp:=by
 intro pins s σ H x vs v us Q I rx rv h
 obtain ⟨l,b,ts,m,rfl,rfl,hH,ht,hb,hm,q⟩:=h
 cases rx
 obtain ⟨ub,rfl,rb⟩:=vals1 rv
 cases (show ub=D8 b from rb)
 have ht':∀t∈ts,SqT X.K H t.1 (t.2.map V.int):=λt hm=>SqT.of (ht t hm)
 obtain ⟨z,its,n,r,hl,e⟩:=I.zv hH
 have ei:=cI r
 obtain ⟨j,j1,j2,j3⟩:=ik hm
 have lt:j<ts.length:=by
  have:=(DQ.mp j1).1
  rwa [DI] at this
 have li:its.length=ts.length:=by rw[ei,DI]
 have kat:∀(i:Nat) (hi:i<its.toArray.size),∃t∈ts,its.toArray[i]=D8 t.1/\(ts.map (·.2))[i]? = some t.2:=λi hi=>by
  rw[DR] at hi
  obtain ⟨t,et⟩:∃t,ts[i]? = some t:=⟨_,DL (show i<ts.length by lia)⟩
  refine ⟨t,DV et,?_,?_⟩
  ·have:its[i]? = some (D8 t.1):=by rw[ei,D1,et];rfl
   simp[DQ] at this
   obtain ⟨_,g⟩:=this
   simpa using g
  ·rw[D1,et];rfl
 refine Jz IS ⟨_,e,rfl⟩ JY (JM _ _) (Rem.uz l its.toArray n (.ref b) (cu ts m) j (by rw[DR];lia) ?_ ?_ (by rw[DR,li];have:=r.length;rw[DI] at this;rw[DI] at z;lia)) ⟨⟨e,?_⟩,?_⟩
 ·obtain ⟨t,ht2,e1,e2⟩:=kat j (by rw[DR];lia)
  rw[e1,cx I ht' ht2]
  rw[j1] at e2
  rw[decide_eq_true (EA e2).symm]
 ·intro i hi hij
  obtain ⟨t,ht2,e1,e2⟩:=kat i hi
  rw[e1,cx I ht' ht2,decide_eq_false (j2 i hij _ e2)]
 ·intro y hy
  have hy':y∈its:=by simpa using hy
  rw[ei] at hy'
  obtain ⟨t,hm2,rfl⟩:=DZ.mp hy'
  rw[cx I ht' hm2]
  exact I.eqT (by show X.A.units+1<cLine;lia) (ht' t hm2) (SqT.of hb)
 ·have ra:Vals ((ts.eraseIdx j).map λt=>V.ref t.1) (its.eraseIdx j):=by
   rw[ei]
   have g:∀(l:List (Addr×List Int)) (n:Nat),Vals ((l.eraseIdx n).map λt=>V.ref t.1) ((l.map λt=>D8 t.1).eraseIdx n):=by
    intro l
    induction l with
    | nil=>intro n;exact .nil
    | cons a l ih =>
     intro n
     cases n with
     | zero =>
      have:∀l:List (Addr×List Int),Vals (l.map λt=>V.ref t.1) (l.map λt=>D8 t.1):=by
       intro l
       induction l with
       | nil=>exact .nil
       | cons a l ih=>exact .cons rfl ih
      exact this l
     | succ n=>exact .cons rfl (ih n)
   exact g ts j
  have le:(ts.eraseIdx j).length<=ts.length:=by rw[Ll];split <;> lia
  refine ⟨.non,_,I.zu (its':=its.eraseIdx j) hH e ?_ ra (by rw[DI] at z ⊢;lia),rfl,q (ts.eraseIdx j) ?_ λu hu=>List.mem_of_mem_eraseIdx hu⟩
  ·apply IA.mp
   unfold Array.eraseIdxIfInBounds
   rw[dif_pos (by rw[DR];lia)]
   simp
  ·rw[j3]
   have g:∀(l:List (Addr×List Int)) (n:Nat),(l.eraseIdx n).map (·.2)=(l.map (·.2)).eraseIdx n:=by
    intro l
    induction l with
    | nil=>intro n;rfl
    | cons a l ih =>
     intro n
     cases n with
     | zero=>rfl
     | succ n=>show a.2 :: _=a.2 :: _;rw[ih n]
   exact g ts j
theorem any_range {bs:List Bool}:((EU bs.length).any λi=>bs.getD i false)=bs.any id:=by
 rw[Gb,Kx,Kx]
 constructor
 ·rintro ⟨i,hi,h⟩
  have lt:=E9.mp hi
  rw[DX,DL lt] at h
  exact ⟨bs[i],GB lt,h⟩
 ·rintro ⟨b,hb,h⟩
  obtain ⟨i,lt,e⟩:=IJ hb
  refine ⟨i,E9.mpr lt,?_⟩
  rw[DX,DL lt,e]
  exact h
theorem qT (hc:X.calm=true):bH X (.builtin "any") (λxs H Q=>∃(p:Addr) (bs:List Bool),xs=[.ref p]/\SqL X.K H p (bs.map V.bl)/\Q (.bl (bs.any id)) H):=by
 intro pins s σ H xs us Q I r h
 obtain ⟨p,bs,rfl,hs,q⟩:=h
 obtain ⟨u,rfl,ru⟩:=vals1 r
 cases (show u=D8 p from ru)
 obtain ⟨its,rv,pl,hz⟩:=I.list hs
 have l:=rv.length
 rw[DI] at l
 have hpl:p<s.heap.objs.size:=by obtain ⟨o,_,e,_⟩:=pl;exact D4 e
 refine call_any_walk (GZ pl.isList ?_)
 have hd:X.A.in1.handled=none:=I.ok.hd hc
 refine ⟨s.heap.objs.size,_,_,_,_,_,_,rfl,Ma hd s.heap.objs.size p (Ed hpl) its.toArray,⟨⟨_,D2 _ rfl,rfl,rfl⟩,?_⟩,j7 rv,λh' tk k =>?_⟩
 ·exact pl.isList.at λo e=>DJ _ e
 ·have e:((EU its.toArray.size).any λi=>bs.getD i false)=bs.any id:=by rw[DR, <- l,any_range]
  rw[e]
  refine ⟨.bl (bs.any id),H,I.kept (t':=tk) (λb o eb=>k b o ?_ (DJ _ eb)),rfl,q⟩
  intro hb
  have:b=s.heap.objs.size:=by simpa using hb
  exact absurd (D4 eb) (by rw[this];exact Fe _)
theorem op_neTE {k:Nat}(hr:cB k X.A):OpR X (Fl .NotEq) (λx y H Q=>∃a b xs ys,x = .ref a/\y = .ref b/\SqT X.K H a xs/\SqT X.K H b ys/\Paired (cT X.K H 20) xs ys/\Q (.bl false) H):=by
 intro pins s σ H x y v u Q I rx ry h
 obtain ⟨a,b,xs,ys,rfl,rfl,h1,h2,p,q⟩:=h
 cases (show v=D8 a from rx)
 cases (show u=D8 b from ry)
 obtain ⟨its,r1,p1,_⟩:=I.tuple h1
 obtain ⟨its2,r2,p2,_⟩:=I.tuple h2
 have l1:=r1.length
 have l2:=r2.length
 have pl:=HU p
 have hu:=hr.un
 have hu1:X.A.units<cLine:=by lia
 have R:=LD (A:=X.A) (e:=λ_=>true) (show s.heap.IsTuple a its.toArray from p1) (show s.heap.IsTuple b its2.toArray from p2) hu1 (cV p r1 r2 λx y u v h1 h2 h3=>gI I 20 _ x y u v (by show X.A.units+1+_<cLine;lia) h1 h2 h3)
 rw[DR,DR, <- l1, <- l2,pl,JP,beq_self_eq_true,all_true] at R
 exact R _ _ _ _ ⟨.bl false,H,I,rfl,q⟩
theorem Af {k:Nat}(hr:cB k X.A):OpR X (Fl .Eq) (λx y H Q=>∃a b xs ys,x = .ref a/\y = .ref b/\SqL X.K H a xs/\SqL X.K H b ys/\Paired (cT X.K H 20) xs ys/\Q (.bl true) H):=by
 intro pins s σ H x y v u Q I rx ry h
 obtain ⟨a,b,xs,ys,rfl,rfl,h1,h2,p,q⟩:=h
 cases (show v=D8 a from rx)
 cases (show u=D8 b from ry)
 obtain ⟨its,r1,p1,_⟩:=I.list h1
 obtain ⟨its2,r2,p2,_⟩:=I.list h2
 have l1:=r1.length
 have l2:=r2.length
 have pl:=HU p
 have hu:=hr.un
 have hu1:X.A.units<cLine:=by lia
 have R:=MB (A:=X.A) (e:=λ_=>true) p1.isList p2.isList (by rw[DR,DR, <- l1, <- l2,pl]) hu1 (cV p r1 r2 λx y u v h1 h2 h3=>gI I 20 _ x y u v (by show X.A.units+1+_<cLine;lia) h1 h2 h3)
 rw[all_true] at R
 exact R _ _ _ _ ⟨.bl true,H,I,rfl,q⟩
theorem fC (hu:X.A.units+8<cLine):OpR X (Fl .NotIn) (λx y H Q=>∃(p b:Addr) (ts:List (Addr×List Int)) (m:List Int),x = .ref b/\y = .ref p/\H p=some (.lst (ts.map λt =>.ref t.1))/\(∀t∈ts,H t.1=some (.tup (t.2.map V.int)))/\H b=some (.tup (m.map V.int))/\Q (.bl (!decide (m∈ts.map (·.2)))) H):=by
 intro pins s σ H x y v u Q I rx ry h
 obtain ⟨p,b,ts,m,rfl,rfl,hp,ht,hb,q⟩:=h
 cases rx
 cases ry
 have ht':∀t∈ts,SqT X.K H t.1 (t.2.map V.int):=λt hm=>SqT.of (ht t hm)
 obtain ⟨its,r,pl,hz⟩:=I.list (SqL.of (K:=X.K) hp)
 have ei:=cI r
 refine LO (cu ts m) pl.isList (λy hy =>?_) ⟨.bl _,H,I,rfl,?_⟩
 ·have hy':y∈its:=by simpa using hy
  rw[ei] at hy'
  obtain ⟨t,hm,rfl⟩:=DZ.mp hy'
  rw[cx I ht' hm]
  exact I.eqT (by show X.A.units+1<cLine;lia) (ht' t hm) (SqT.of hb)
 ·rw[show its.toArray.any (cu ts m)=its.any (cu ts m) by simp,ei,i3 I ht' ts (λt h=>h)]
  exact q
end
section
variable  {X:Cx}
theorem kh:bH X (.builtin "len") (λxs H Q=>∃(a:Addr) (ys:List V),xs=[.ref a]/\H a=some (cZ X.w a ys)/\ys.length<1000/\Q (.int ys.length) H):=by
 intro pins s σ H xs us Q I r h
 obtain ⟨a,ys,rfl,ha,hl,q⟩:=h
 obtain ⟨u,rfl,ru⟩:=vals1 r
 cases (show u=D8 a from ru)
 obtain ⟨⟨es,⟨ep,t,ho,T,_⟩,rv⟩,_⟩:=(show bp X.prog X.w H s.heap a (cZ X.w a ys) from I.hok a _ ha)
 have l:=rv.length
 have l2:es.size=ys.length:=by simpa using l.symm
 refine call_len_set ho ⟨rfl,rfl,rfl⟩ rfl (by have:=T.fits;rwa [E5] at this) (by lia) ?_
 rw[l2]
 exact ⟨.int ys.length,H,I.tok _,⟨_,rfl⟩,q⟩
end
theorem Inv.vU {X:Cx}{pins:List (Addr×Obj)}{σ:St}{H:Hp}{s:DP}{h':Heap}{t':Nat}{ch:List Addr}(I:Inv X pins σ H s)(f:∀b∈ch,iH X pins H b)
  (k:∀b ob,b∉ch->s.heap.get? b=some ob->h'.get? b=some ob):Inv X pins σ H { s with heap:=h',toks:=t' }:=by
 have nit:∀b u,H b=some u->b∉ch:=λb u e z=>by have:=(f b z).1;rw[this] at e;cases e
 refine I.step (g':=s.gens) (d':=s.drawn) (ch:=ch) (λb hb =>?_) (λb o _ _ hc e _=>k b o hc e) (λb o _ _ hc e _=>⟨o.slots,k b o hc e⟩) (λ_ _ _ _ n=>n)
  (λb o hc e=>⟨o,k b o hc e⟩) (λ_ _ e=>e) (λ_ _ _ e=>e) (λb ps e=>⟨#[],by rw[e];simp⟩) (λm hm =>?_) (λb u e =>?_) I.bare
 ·obtain ⟨g0,g1,g2,g3,g4,g5⟩:=f b hb
  exact ⟨g3,g1,g4,g5⟩
 ·obtain ⟨o,es,ep,ho,r⟩:=hm
  exact ⟨o,es,ep,k _ o (λz=>(f _ z).2.1 rfl) ho,r⟩
 ·refine (I.hok b u e).stay (λc v hc q=>k c v ?_ q) (λ_ q=>q) λ_ _ q=>q
  rcases hc with z | z
  ·rw[z];exact nit b u e
  ·exact nit c _ z
theorem Cg (n a b:Nat)(h1:a<n)(h2:b<n):ZipApart (n+4) (n+2) (n+3) n (n+1) a b :=
  ⟨λz=>absurd (show n+2=n+4 from z) (by lia),λz=>absurd (show n+3=n+4 from z) (by lia),λz=>absurd (show n=n+4 from z) (by lia),λz=>absurd (show n+1=n+4 from z) (by lia),λz=>absurd (show n+2=n+3 from z) (by lia),λz=>absurd (show n+2=n from z) (by lia),λz=>absurd (show n+2=n+1 from z) (by lia),λz=>absurd (show n+3=n from z) (by lia),λz=>absurd (show n+3=n+1 from z) (by lia),λz=>absurd (show n=n+1 from z) (by lia),
   λz=>absurd (show a=n+4 from z) (by lia),λz=>absurd (show a=n+3 from z) (by lia),λz=>absurd (show a=n from z) (by lia),λz=>absurd (show a=n+1 from z) (by lia),λz=>absurd (show b=n+4 from z) (by lia),λz=>absurd (show b=n+3 from z) (by lia),λz=>absurd (show b=n from z) (by lia),λz=>absurd (show b=n+1 from z) (by lia)⟩
theorem boot_zip:Ff "zip" = some (.type "zip"):=by decide +kernel
section
variable  {X:Cx}
end
theorem fO {α:Type}{g:α -> Addr}{ts:List α}{i:Nat}{x:V}(e:(ts.map λt=>V.ref (g t))[i]? = some x):∃u,ts[i]? = some u/\x = .ref (g u):=by
 rw[D1] at e
 cases z:ts[i]? with
 | none=>rw[z] at e;cases e
 | some tt=>rw[z] at e;exact ⟨tt,rfl,(EA e).symm⟩
theorem oJ {ns:List Int}{i:Nat}{x:V}(e:(ns.map V.int)[i]? = some x):∃u,ns[i]? = some u/\x = .int u:=by
 rw[D1] at e
 cases z:ns[i]? with
 | none=>rw[z] at e;cases e
 | some tt=>rw[z] at e;exact ⟨tt,rfl,(EA e).symm⟩
theorem Ci {xs:List Int}{d:Int}(h0:0<=d)(h1:d<xs.length):∃v,v∈xs/\atI (xs.map V.int) d=some (.int v):=by
 obtain ⟨n,rfl⟩:∃n:Nat,d=n:=⟨d.toNat,by lia⟩
 have hn:n<xs.length:=by lia
 refine ⟨xs[n],GB hn,cj ?_⟩
 rw[D1,DL hn]
 rfl
theorem Dq (k:Int):∀ps:List Int,inV (.int k) (ps.map V.int)=decide (k∈ps)
 | []=>by simp[inV]
 | p :: ps=>by
  have ih:=Dq k ps
  unfold inV at ih ⊢
  rw[Ew,Ip,ih]
  have e:eqV (.int p) (.int k)=(p == k):=rfl
  rw[e]
  by_cases h:p=k
  ·subst h;simp
  ·rw[beq_eq_false_iff_ne.mpr h,LV]
   apply decide_eq_decide.mpr
   rw[Eg]
   exact ⟨.inr,λx=>x.elim (λy=>absurd y.symm h) id⟩
theorem uC {K:DM}{H:Hp}{n:Nat}(a:Addr):cT K H (n+1) (.ref a) (.ref a) :=.inr (.inl ⟨a,rfl,rfl⟩)
theorem qU {K:DM}{H:Hp}{n:Nat}:∀ns:List Int,Paired (cT K H n) (ns.map V.int) (ns.map V.int)
 | [] =>.nil
 | i :: ns =>.cons (by cases n <;> exact .inl ⟨i,rfl,rfl⟩) (qU ns)
theorem Ag {K:DM}{H:Hp}{n:Nat}{a b:Addr}{ns:List Int}(ha:H a=some (.tup (ns.map V.int)))(hb:H b=some (.tup (ns.map V.int))):cT K H (n+1) (.ref a) (.ref b) :=.inr (.inr ⟨a,b,_,_,rfl,rfl,.inl ⟨SqT.of ha,SqT.of hb⟩,qU ns⟩)
def Pt (n:Nat)(H:Hp)(p:Addr):Prop:=∃xs:List Int,xs.length=n/\H p=some (.lst (xs.map V.int))
structure Bu (n:Nat)(p:Addr)(H H':Hp):Prop where
 pot:Pt n H' p
 st:∀q o,q≠p->H q=some o->H' q=some o
theorem Pt.same {n:Nat}{p:Addr}{H H1:Hp}(a:Pt n H p)(s:aA H H1):Pt n H1 p:=by obtain ⟨xs,l,e⟩:=a;exact ⟨xs,l,s _ _ e⟩
theorem Pt.ne {n:Nat}{p b:Addr}{H:Hp}(a:Pt n H p)(h:H b=none):b≠p:=by
 obtain ⟨xs,_,e⟩:=a
 exact Ft (av e h)
theorem Pt.neT {n:Nat}{p b:Addr}{H:Hp}{ys:List V}(a:Pt n H p)(h:H b=some (.tup ys)):b≠p:=by
 obtain ⟨xs,_,e⟩:=a
 exact ql h e (by intro z;cases z)
theorem Bu.refl {n:Nat}{p:Addr}{H:Hp}(h:Pt n H p):Bu n p H H:=⟨h,λ_ _ _ z=>z⟩
theorem Bu.trans {n:Nat}{p:Addr}{H H1 H2:Hp}(a:Bu n p H H1)(b:Bu n p H1 H2):Bu n p H H2:=⟨b.pot,λq o m z=>b.st q o m (a.st q o m z)⟩
theorem Bu.same {n:Nat}{p:Addr}{H H1 H2:Hp}(a:Bu n p H H1)(b:aA H1 H2):Bu n p H H2:=⟨a.pot.same b,λq o m z=>b _ _ (a.st q o m z)⟩
theorem Bu.put {n:Nat}{p:Addr}{H H1:Hp}(a:Bu n p H H1){ys:List Int}(l:ys.length=n):Bu n p H (upd H1 p (.lst (ys.map V.int))):=⟨⟨ys,l,ag⟩,λq o m z=>by rw[aq m];exact a.st q o m z⟩
theorem Bu.dh {n:Nat}{p l:Addr}{H H1:Hp}(a:Bu n p H H1)(hl:H l=none)(np:l≠p)(o:HO):Bu n p H (upd H1 l o):=⟨by obtain ⟨xs,z,e⟩:=a.pot;exact ⟨xs,z,by rw[aq np.symm];exact e⟩,λq u m z=>by rw[aq (av z hl)];exact a.st q u m z⟩
theorem Bu.tup {n:Nat}{p q:Addr}{H H1:Hp}(a:Bu n p H H1)(h:Pt n H p){xs:List V}(t:H q=some (.tup xs)):H1 q=some (.tup xs):=a.st q _ (h.neT t) t
theorem Bu.fresh {n:Nat}{p:Addr}{H H':Hp}{o:HO}(h:H p=none)(b:Bu n p (upd H p o) H'):aA H H':=λq u e=>by
 have m:q≠p:=av e h
 refine b.st q u m ?_
 rw[aq m]
 exact e
def Tus (H:Hp)(ts:List (Addr×List Int)):Prop:=∀u∈ts,H u.1=some (.tup (u.2.map V.int))
theorem Tus.same {H H':Hp}{ts:List (Addr×List Int)}(h:Tus H ts)(s:aA H H'):Tus H' ts:=λu hu=>s _ _ (h u hu)
theorem Tus.bu {n:Nat}{p:Addr}{H H':Hp}{ts:List (Addr×List Int)}(h:Tus H ts)(b:Bu n p H H')(hp:Pt n H p):Tus H' ts:=λu hu=>b.tup hp (h u hu)
theorem Tus.snoc {H:Hp}{ts:List (Addr×List Int)}(h:Tus H ts){u:Addr×List Int}(e:H u.1=some (.tup (u.2.map V.int))):Tus H (ts++[u]):=λv hv=>by
 rcases D6.mp hv with z | z
 ·exact h v z
 ·rw[DW] at z;subst z;exact e
structure Mkg (n:Nat)(p la:Addr)(H H':Hp)(us:List (Addr×List Int)):Prop where
 bu:Bu n p H H'
 at':H' la=some (.lst (us.map λu =>.ref u.1))
 tu:Tus H' us
 two:∀u∈us,∃x y,u.2=[x,y]
theorem Mkg.bu' {n:Nat}{p la:Addr}{H H1 H2:Hp}{us:List (Addr×List Int)}(m:Mkg n p la H H1 us)(np:la≠p)(b:Bu n p H1 H2):Mkg n p la H H2 us:=⟨m.bu.trans b,b.st _ _ np m.at',m.tu.bu b m.bu.pot,m.two⟩
theorem Mkg.add {n:Nat}{p la t:Addr}{H H1:Hp}{us:List (Addr×List Int)}(m:Mkg n p la H H1 us)(hla:H la=none)(np:la≠p)(ht:H1 t=none)(x y:Int):Mkg n p la H (upd (upd H1 t (.tup [.int x,.int y])) la (.lst ((us.map λu=>V.ref u.1)++[.ref t]))) (us++[(t,[x,y])]):=by
 have ntl:t≠la:=Ft (av m.at' ht)
 refine ⟨(m.bu.same (af ht _)).dh hla np _,?_,?_,?_⟩
 ·rw[ag,DU]
  rfl
 ·refine Tus.snoc (λu hu =>?_) ?_
  ·rw[aq (ql (m.tu u hu) m.at' (by intro z;cases z)),aq (av (m.tu u hu) ht)]
   exact m.tu u hu
  ·show upd (upd H1 t _) la _ t=_
   rw[aq ntl]
   exact ag
 ·intro u hu
  rcases D6.mp hu with z | z
  ·exact m.two u z
  ·rw[DW] at z;subst z;exact ⟨x,y,rfl⟩
variable  {X:Cx}
section
variable  {X:Cx}
theorem sC {k:Int}:∀{ns:List Int} {m:Nat} (h:m<ns.length),m<ns.idxOf k->ns[m]≠k
 | [],m,h,_=>absurd h (Im _)
 | n :: ns,0,_,l=>by
  intro z
  have e:(n :: ns)[0]=n:=rfl
  rw[e] at z
  subst z
  simp at l
 | n :: ns,m+1,h,l=>by
  have h':m<ns.length:=Nat.lt_of_succ_lt_succ h
  show ns[m]≠k
  refine sC h' ?_
  by_cases e:n=k
  ·subst e;simp at l
  ·rw[List.idxOf_cons,show (n == k)=false by simpa using e] at l
   simp at l
   exact l
theorem gO:MtR X "list.index" (λx vs H Q=>∃(p:Addr) (ns:List Int) (k:Int),x = .ref p/\vs=[.int k]/\H p=some (.lst (ns.map V.int))/\k∈ns/\ns.length<=100000/\Q (.int (ns.idxOf k:Nat)) H):=by
 intro pins s σ H x vs v us Q I rx rv h
 obtain ⟨p,ns,k,rfl,rfl,hp,hk,hz,q⟩:=h
 cases rx
 obtain ⟨u,rfl,⟨t,rfl⟩⟩:=vals1 rv
 obtain ⟨z,its,n,r,e1⟩:=(show bp X.prog X.w H s.heap p (.lst _) from I.hok p _ hp)
 have hi:Gh its ns:=intsAre_of r
 have hlen:=hi.length
 have hj:ns.idxOf k<ns.length:=GK.mpr hk
 refine Jz GV ⟨_,e1,rfl⟩ PySem.F.entry_list_index (PySem.F.args_list_index_2 _ _) (SeqAt.list_indexAt p its.toArray n none #[] (.int k t) (isInt k) (ns.idxOf k) (by simpa [hlen] using hj) (by lia) ?_ ?_) ⟨e1,λy hy=>jy hi y hy,⟨.int _,H,I.tok _,⟨_,rfl⟩,q⟩⟩
 ·show isInt k its[ns.idxOf k]=true
  rw[L4 k hi _ (by lia) hj];simpa using Jc hj
 ·intro j hjs hlt
  show isInt k its[j]=false
  rw[L4 k hi j (by simpa using hjs) (by lia)]
  simpa using sC (by lia) hlt
def uD (K:DM):R2:=λx y H Q=>∃a b xs ys,x = .ref a/\y = .ref b/\SqT K H a xs/\SqT K H b ys/\xs.length+ys.length<=D3/\(xs=[]->Q (.ref b) H)/\(ys=[]->Q (.ref a) H)/\(xs≠[]->ys≠[]->∀p,H p=none->Q (.ref p) (upd H p (.tup (xs++ys))))
theorem x9:OpR X (binaryOp .Add) (uD X.K):=by
 intro pins s σ H x y v u Q I rx ry h
 obtain ⟨a,b,xs,ys,rfl,rfl,ha,hb,hz,q1,q2,q3⟩:=h
 by_cases hx:xs=[]
 ·cases rx
  cases ry
  obtain ⟨its,r1,p1,_⟩:=I.tuple ha
  obtain ⟨its2,r2,p2,_⟩:=I.tuple hb
  obtain ⟨⟨c1,d1,da1,s1⟩,o1,k1,n1,g1⟩:=id p1
  obtain ⟨⟨c2,d2,da2,s2⟩,o2,k2,n2,g2⟩:=id p2
  simp only at k1 g1 k2 g2
  subst k1 g1 k2 g2
  have e0:its=[]:=r1.kJ.mpr hx
  exact La ⟨_,o1,rfl⟩ ⟨_,o2,rfl⟩ KC LX Jd IV (IM _ _)
   (tuple_addW0 a b its.toArray its2.toArray n1 n2 d1 d2 s1 s2 (by simp[e0])) ⟨o1,o2,⟨.ref b,H,I,rfl,q1 hx⟩⟩
 ·exact zr pins s σ H _ _ v u Q I rx ry ⟨a,b,xs,ys,rfl,rfl,ha,hb,hx,hz,q2,λhy=>q3 hx hy⟩
theorem uD.one {K:DM}{H:Hp}{Q:VK}{a b:Addr}{xs ys:List V}(ha:H a=some (.tup xs))(hb:H b=some (.tup ys))(hz:xs.length+ys.length<=D3)(q:∀p H',aA H H'->H' p=some (.tup (xs++ys))->Q (.ref p) H'):uD K (.ref a) (.ref b) H Q:=by
 refine ⟨a,b,xs,ys,rfl,rfl,SqT.of ha,SqT.of hb,hz,λz =>?_,λz =>?_,λ_ _ p hp=>q p _ (af hp _) ag⟩
 ·subst z;exact q b H (aA.refl _) hb
 ·subst z;exact q a H (aA.refl _) (by rw[E6];exact ha)
end
theorem vV {K:DM}{a:Addr}{xs:List V}{k l:Nat}{tc:TT}{te:TE}{τ:St}{H:Hp}{Q:VK}(Pv:Nat->List V->Hp->Prop)(hkl:k≠l)(h0:Pv 0 [] H)(hz:xs.length<=D3)
  (hl:∀i ys H,i<=xs.length->Pv i ys H->SqT K H a xs)
  (hs:∀i x ys H T,xs[i]? = some x->ys.length<=i->H T=none->Pv i ys H->xv k l tc te τ Pv i (.int i) x ys (upd H T (.tup [.int i,x])))
  (hd:∀ys H,ys.length<=xs.length->Pv xs.length ys H->∀r,H r=none->Q (.ref r) (upd H r (.lst ys))):iO (ItE K a) (tX K k l) tc te τ Q H:=by
 refine ⟨λi m σ ys H=>m=xs.length-i/\i<=xs.length/\(∀a b,(σ.set k (some a)).set l (some b)=(τ.set k (some a)).set l (some b))/\ys.length<=i/\Pv i ys H,⟨xs.length,by simp,EB _,λ_ _=>rfl,DS _,h0⟩,?_⟩
 rintro i m σ ys H ⟨rfl,hi,hτ,hy,pv⟩
 have q:=hl i ys H hi pv
 by_cases hlt:i<xs.length
 ·refine .inr ⟨⟨xs,xs[i],q,by simp[hlt]⟩,λx H' y =>?_⟩
  obtain ⟨T,v,hT,ex,eH,hv⟩:=y
  subst ex eH
  refine ⟨T,_,rfl,SqT.of ag,rfl,_,_,rfl,_,_,rfl,rfl,?_⟩
  rw[hτ]
  have hσ:∀a b,((((τ.set k (some (V.int i))).set l (some v)).set k (some a)).set l (some b))=(τ.set k (some a)).set l (some b):=λa b=>by
   rw[LP _ _ (Ft hkl),HQ,HQ]
  refine hs i v ys _ T (hv xs q) hy hT pv _ _ (λy4 H4 p4=>⟨by lia,xs.length-(i+1),by lia,rfl,hlt,hσ,by rw[DT,Fj];lia,p4⟩) λH3 p3=>⟨xs.length-(i+1),by lia,rfl,hlt,hσ,by lia,p3⟩
 ·have e:i=xs.length:=by lia
  subst e
  exact .inl ⟨⟨_,q,DS _⟩,by lia,hd ys H hy pv⟩
def ItB:Bool->Heap->Addr->Addr->Nat->Prop
 | true,h,it,l,i=>h.IsListIter it l i
 | false,h,it,l,i=>h.IsTupleIter it l i
def SB':Bool->Heap->Addr->Array DK->Prop
 | true,h,l,xs=>h.IsList l xs
 | false,h,l,xs=>h.IsTuple l xs
theorem ItB.to {b:Bool}{h h':Heap}{it l:Addr}{i:Nat}(x:ItB b h it l i)(k:∀o,h.get? it=some o->h'.get? it=some o):ItB b h' it l i:=by
 cases b
 ·exact Heap.IsTupleIter.at (show h.IsTupleIter it l i from x) k
 ·exact Heap.IsListIter.at (show h.IsListIter it l i from x) k
theorem SB'.to {b:Bool}{h h':Heap}{l:Addr}{xs:Array DK}(x:SB' b h l xs)(k:∀o,h.get? l=some o->h'.get? l=some o):SB' b h' l xs:=by
 cases b
 ·obtain ⟨o,e,r⟩:=(show h.IsTuple l xs from x);exact ⟨o,k o e,r⟩
 ·obtain ⟨o,e,r⟩:=(show h.IsList l xs from x);exact ⟨o,k o e,r⟩
theorem ItB.lt {b:Bool}{h:Heap}{it l:Addr}{i:Nat}(x:ItB b h it l i):it<h.objs.size:=by
 cases b
 ·obtain ⟨o,e,_⟩:=(show h.IsTupleIter it l i from x);exact D4 e
 ·obtain ⟨o,e,_⟩:=(show h.IsListIter it l i from x);exact D4 e
theorem ItB.obj {b:Bool}{h:Heap}{it l:Addr}{i:Nat}(x:ItB b h it l i):∃o,h.get? it=some o/\∀v,o.data ≠ .cell v:=by
 cases b
 ·obtain ⟨o,e,_,d⟩:=(show h.IsTupleIter it l i from x);exact ⟨o,e,λv z=>by rw[d] at z;cases z⟩
 ·obtain ⟨o,e,_,d⟩:=(show h.IsListIter it l i from x);exact ⟨o,e,λv z=>by rw[d] at z;cases z⟩
section
variable  {prog:D9}{w:EE}{A:EV}{E:DK->DP->Prop}{s:DP}
theorem yb {b:Bool}{it l:Addr}{i:Nat}{xs:Array DK}{x:DK}{Q:DK->DP->Prop}(hi:ItB b s.heap it l i)(hl:SB' b s.heap l xs)(hx:xs[i]? = some x)
  (q:∀h',ItB b h' it l (i+1)->Heap.SameBut it s.heap h'->Q x { s with heap:=h' }):Ee (Es prog w) A (Builtin.SmallTypes.nextOf (.ref it)) Q E s:=by
 cases b
 ·exact lH hi hl hx q
 ·exact wpAny_nextOf_list_item hi hl hx q
theorem oK {b:Bool}{it l:Addr}{i:Nat}{xs:Array DK}{Q:DK->DP->Prop}(hh:A.handled=none)(hi:ItB b s.heap it l i)(hl:SB' b s.heap l xs)(hx:xs[i]? = none)
  (q:∀h' e,Heap.ExtBut it s.heap h'->(∃o,h'.get? e=some o/\o.cls = .type "StopIteration")->E (.ref e) { s with heap:=h' }):Ee (Es prog w) A (Builtin.SmallTypes.nextOf (.ref it)) Q E s:=by
 cases b
 ·exact dH hh hi hl hx q
 ·exact wpAny_nextOf_list_end hh hi hl hx q
theorem vW {c d:Bool}{z TI TO i1 i2 l1 l2:Addr}{k1 k2:Nat}{xs ys:Array DK}{x y a b:DK}{Q:DK->DP->Prop}(D:ZipApart z TI TO i1 i2 l1 l2)
  (hz:IsZip s.heap z TI TO .none) (hTI:IsPair s.heap TI (.ref i1) (.ref i2)) (hTO:IsPair s.heap TO a b)
  (j1:ItB c s.heap i1 l1 k1) (j2:ItB d s.heap i2 l2 k2) (m1:SB' c s.heap l1 xs) (m2:SB' d s.heap l2 ys) (hx:xs[k1]? = some x) (hy:ys[k2]? = some y)
  (hQ:∀h',IsZip h' z TI TO (HD s.heap.objs.size)->IsPair h' TO x y->ItB c h' i1 l1 (k1+1)->ItB d h' i2 l2 (k2+1)->IsPair h' s.heap.objs.size x y->h'.objs.size=s.heap.objs.size+1 →
   (∀c o,c≠z->c≠TO->c≠i1->c≠i2->s.heap.get? c=some o->h'.get? c=some o)->Q (.ref s.heap.objs.size) { s with heap:=h' }) :
  Ee (Es prog w) A (Builtin.«zip.__next__» ⟨[.ref z],[]⟩) (λfin s'=>∃v,fin = .done (.ret v)/\Q v s') E s:=by
 show Ee _ _ (field (.ref z) 2 >>= _) _ _ _;refine DH (Fn hz rfl (x :=.bool false) rfl ?_)
 show Ee _ _ (field (.ref z) 3 >>= _) _ _ _;refine DH (Fn hz rfl (x :=.ref TI) rfl ?_)
 refine DH (Fv hTI rfl ?_);show Ee _ _ (Builtin.SmallTypes.ownedTupleIsFree (.ref z) >>= _) _ _ _
 refine DH ?_;unfold Builtin.SmallTypes.ownedTupleIsFree
 refine DH (Fn hz rfl (x :=.none) rfl (DN ?_));simp only[if_true]
 refine DH (Gz ?_);refine DH (Fn hz rfl (x :=.ref TO) rfl ?_)
 refine DH (F1 hz (by simp) λg1 hz1 s1 =>?_);replace hz1:IsZip g1 z TI TO .ellipsis:=hz1
 refine DH ?_;simp only[Kt,MQ,KY,Nc]
 refine DH (DH (Ko ?_));show Ee _ _ (Builtin.SmallTypes.nextOf (.ref i1) >>= _) _ _ _
 refine DH (yb (j1.to λo e=>s1.extBut _ _ D.i1z e) (m1.to λo e=>s1.extBut _ _ D.l1z e) hx λg2 j1' s2=>DN ?_)
 have t2:IsPair g2 TO a b:=s2.extBut _ _ D.TOi1 (s1.extBut _ _ D.TOz hTO)
 refine DH (Fv t2 rfl ?_);refine DH (Ju t2 λg3 t3 s3 =>?_)
 replace t3:IsPair g3 TO x b:=t3;refine DH (HC (DN ?_))
 refine DH (DH (Ko ?_));show Ee _ _ (Builtin.SmallTypes.nextOf (.ref i2) >>= _) _ _ _
 refine DH (yb (((j2.to λo e=>s1.extBut _ _ D.i2z e).to λo e=>s2.extBut _ _ D.i12.symm e).to λo e=>s3.extBut _ _ D.TOi2.symm e) (((m2.to λo e=>s1.extBut _ _ D.l2z e).to λo e=>s2.extBut _ _ D.l2i1 e).to λo e=>s3.extBut _ _ D.l2TO e) hy λg4 j2' s4=>DN ?_)
 have t4:IsPair g4 TO x b:=s4.extBut _ _ D.TOi2 t3
 refine DH (Fv t4 rfl ?_);refine DH (Ju t4 λg5 t5 s5 =>?_)
 replace t5:IsPair g5 TO x y:=t5;refine DH (HC (DN (DN ?_)))
 refine DH (Fv t5 rfl ?_);refine DH (wpAny_newTuple ?_)
 have sz:g5.objs.size=s.heap.objs.size:=by rw[s5.1,s4.1,s3.1,s2.1,s1.1]
 have z5:IsZip g5 z TI TO .ellipsis:=s5.extBut _ _ D.TOz.symm (s4.extBut _ _ D.i2z.symm (s3.extBut _ _ D.TOz.symm (s2.extBut _ _ D.i1z.symm hz1)))
 have k5:∀c o,c≠z->c≠TO->c≠i1->c≠i2->s.heap.get? c=some o->g5.get? c=some o:=λc o c1 c2 c3 c4 e=>s5.extBut _ _ c2 (s4.extBut _ _ c4 (s3.extBut _ _ c2 (s2.extBut _ _ c3 (s1.extBut _ _ c1 e))))
 have n1:ItB c g5 i1 l1 (k1+1):=((j1'.to λo e=>s3.extBut _ _ D.TOi1.symm e).to λo e=>s4.extBut _ _ D.i12 e).to λo e=>s5.extBut _ _ D.TOi1.symm e
 have n2:ItB d g5 i2 l2 (k2+1):=j2'.to λo e=>s5.extBut _ _ D.TOi2.symm e
 have zl:z<g5.objs.size:=D4 z5
 show Ee _ _ (Builtin.SmallTypes.ownedTupleHandOut (.ref z) (.ref g5.objs.size) >>= _) _ _ _;refine DH ?_
 unfold Builtin.SmallTypes.ownedTupleHandOut
 have z6:IsZip (g5.push { cls :=.type "tuple",data :=.seq #[x,y] }) z TI TO .ellipsis:=DJ _ z5
 refine DH (F1 z6 (by simp) λg7 z7 s7 =>?_);replace z7:IsZip g7 z TI TO (HD g5.objs.size):=z7
 refine F1 z7 (by simp) λg8 z8 s8 =>?_;replace z8:IsZip g8 z TI TO (HD g5.objs.size):=z8
 have up:∀c o,c≠z->g5.get? c=some o->g8.get? c=some o:=λc o c1 e=>s8.extBut _ _ c1 (s7.extBut _ _ c1 (DJ _ e))
 have p8:IsPair g8 g5.objs.size x y:=s8.extBut _ _ (Hu zl) (s7.extBut _ _ (Hu zl) (D2 _ rfl))
 have e8:g8.objs.size=g5.objs.size+1:=by rw[s8.1,s7.1,Fz]
 rw[sz] at z8 p8 e8
 refine DN ⟨_,rfl,?_⟩;show Q (.ref g5.objs.size) _;rw[sz]
 exact hQ g8 z8 (up _ _ D.TOz t5) (n1.to λo e=>up _ o D.i1z e) (n2.to λo e=>up _ o D.i2z e) p8 e8 λc o c1 c2 c3 c4 e=>up c o c1 (k5 c o c1 c2 c3 c4 e)
theorem yc {c d:Bool}{z TI TO i1 i2 l1 l2:Addr}{k1 k2:Nat}{xs ys:Array DK}{a b:DK}{Q:Fin->DP->Prop}(hh:A.handled=none)(D:ZipApart z TI TO i1 i2 l1 l2)
  (hz:IsZip s.heap z TI TO .none) (hTI:IsPair s.heap TI (.ref i1) (.ref i2)) (hTO:IsPair s.heap TO a b)
  (j1:ItB c s.heap i1 l1 k1) (j2:ItB d s.heap i2 l2 k2) (m1:SB' c s.heap l1 xs) (m2:SB' d s.heap l2 ys) (hend:xs[k1]? = none\/ys[k2]? = none)
  (hE:∀h' e,(∀c o,c≠z->c≠TO->c≠i1->c≠i2->s.heap.get? c=some o->h'.get? c=some o)->(∃o,h'.get? e=some o/\o.cls = .type "StopIteration")->E (.ref e) { s with heap:=h' }) :
  Ee (Es prog w) A (Builtin.«zip.__next__» ⟨[.ref z],[]⟩) Q E s:=by
 show Ee _ _ (field (.ref z) 2 >>= _) _ _ _;refine DH (Fn hz rfl (x :=.bool false) rfl ?_)
 show Ee _ _ (field (.ref z) 3 >>= _) _ _ _;refine DH (Fn hz rfl (x :=.ref TI) rfl ?_)
 refine DH (Fv hTI rfl ?_);show Ee _ _ (Builtin.SmallTypes.ownedTupleIsFree (.ref z) >>= _) _ _ _
 refine DH ?_;unfold Builtin.SmallTypes.ownedTupleIsFree
 refine DH (Fn hz rfl (x :=.none) rfl (DN ?_));simp only[if_true]
 refine DH (Gz ?_);refine DH (Fn hz rfl (x :=.ref TO) rfl ?_)
 refine DH (F1 hz (by simp) λg1 hz1 s1 =>?_);replace hz1:IsZip g1 z TI TO .ellipsis:=hz1
 refine DH ?_;simp only[Kt,MQ,KY,Nc]
 refine DH (DH (Ko ?_));show Ee _ _ (Builtin.SmallTypes.nextOf (.ref i1) >>= _) _ _ _
 cases hx:xs[k1]? with
 | none =>
  refine DH (oK hh (j1.to λo e=>s1.extBut _ _ D.i1z e) (m1.to λo e=>s1.extBut _ _ D.l1z e) hx λg2 e s2 he =>?_)
  obtain ⟨oe,hoe,hce⟩:=he
  have z2:IsZip g2 z TI TO .ellipsis:=s2 _ _ D.i1z.symm hz1
  have hez:e≠z:=λx=>by subst x;rw[z2] at hoe;cases hoe;simp at hce
  refine F1 z2 (by simp) λg3 _ s3=>hE g3 e (λc o c1 _ c3 _ x=>s3.extBut _ _ c1 (s2 _ _ c3 (s1.extBut _ _ c1 x))) ⟨oe,s3.extBut _ _ hez hoe,hce⟩
 | some x =>
  have hy:ys[k2]? = none:=by rcases hend with h | h;rw[hx] at h;cases h;exact h
  refine DH (yb (j1.to λo e=>s1.extBut _ _ D.i1z e) (m1.to λo e=>s1.extBut _ _ D.l1z e) hx λg2 j1' s2=>DN ?_)
  have t2:IsPair g2 TO a b:=s2.extBut _ _ D.TOi1 (s1.extBut _ _ D.TOz hTO)
  refine DH (Fv t2 rfl ?_);refine DH (Ju t2 λg3 t3 s3 =>?_)
  refine DH (HC (DN ?_));refine DH (DH (Ko ?_))
  show Ee _ _ (Builtin.SmallTypes.nextOf (.ref i2) >>= _) _ _ _;refine DH (oK hh (((j2.to λo e=>s1.extBut _ _ D.i2z e).to λo e=>s2.extBut _ _ D.i12.symm e).to λo e=>s3.extBut _ _ D.TOi2.symm e) (((m2.to λo e=>s1.extBut _ _ D.l2z e).to λo e=>s2.extBut _ _ D.l2i1 e).to λo e=>s3.extBut _ _ D.l2TO e) hy λg4 e s4 he =>?_)
  obtain ⟨oe,hoe,hce⟩:=he
  have z4:IsZip g4 z TI TO .ellipsis:=s4 _ _ D.i2z.symm (s3.extBut _ _ D.TOz.symm (s2.extBut _ _ D.i1z.symm hz1))
  have hez:e≠z:=λx=>by subst x;rw[z4] at hoe;cases hoe;simp at hce
  refine F1 z4 (by simp) λg5 _ s5=>hE g5 e (λc o c1 c2 c3 c4 x=>s5.extBut _ _ c1 (s4 _ _ c4 (s3.extBut _ _ c2 (s2.extBut _ _ c3 (s1.extBut _ _ c1 x))))) ⟨oe,s5.extBut _ _ hez hoe,hce⟩
theorem qV {c d:Bool}{z TI TO i1 i2 l1 l2:Addr}{k1 k2:Nat}{xs ys:Array DK}{x y a b:DK}{Q:Option DK->DP->Prop}(D:ZipApart z TI TO i1 i2 l1 l2)
  (hz:IsZip s.heap z TI TO .none) (hTI:IsPair s.heap TI (.ref i1) (.ref i2)) (hTO:IsPair s.heap TO a b)
  (j1:ItB c s.heap i1 l1 k1) (j2:ItB d s.heap i2 l2 k2) (m1:SB' c s.heap l1 xs) (m2:SB' d s.heap l2 ys) (hx:xs[k1]? = some x) (hy:ys[k2]? = some y)
  (hQ:∀h',IsZip h' z TI TO (HD s.heap.objs.size)->IsPair h' TO x y->ItB c h' i1 l1 (k1+1)->ItB d h' i2 l2 (k2+1)->IsPair h' s.heap.objs.size x y->h'.objs.size=s.heap.objs.size+1 →
   (∀c o,c≠z->c≠TO->c≠i1->c≠i2->s.heap.get? c=some o->h'.get? c=some o)->Q (some (.ref s.heap.objs.size)) { s with heap:=h' }):Ee (Es prog w) A (pyNext (.ref z)) Q E s:=by
 have hT:s.TypeIs (.ref z) "zip" :=⟨_,hz,rfl⟩
 unfold pyNext;exact DH (GG (Fi (name:=Str.ofString "__next__") hT JF (E8 JF hT MH (vW D hz hTI hTO j1 j2 m1 m2 hx hy λh' a1 a2 a3 a4 a5 a6 a7=>DN (hQ h' a1 a2 a3 a4 a5 a6 a7)) (Mj _))))
theorem kq {c d:Bool}{z TI TO i1 i2 l1 l2:Addr}{k1 k2:Nat}{xs ys:Array DK}{a b:DK}{Q:Option DK->DP->Prop}(hh:A.handled=none)(D:ZipApart z TI TO i1 i2 l1 l2)
  (hz:IsZip s.heap z TI TO .none) (hTI:IsPair s.heap TI (.ref i1) (.ref i2)) (hTO:IsPair s.heap TO a b)
  (j1:ItB c s.heap i1 l1 k1) (j2:ItB d s.heap i2 l2 k2) (m1:SB' c s.heap l1 xs) (m2:SB' d s.heap l2 ys) (hend:xs[k1]? = none\/ys[k2]? = none)
  (hQ:∀h',(∀c o,c≠z->c≠TO->c≠i1->c≠i2->s.heap.get? c=some o->h'.get? c=some o)->Q none { s with heap:=h' }):Ee (Es prog w) A (pyNext (.ref z)) Q E s:=by
 have hT:s.TypeIs (.ref z) "zip" :=⟨_,hz,rfl⟩
 unfold pyNext;refine DH (GG (Fi (name:=Str.ofString "__next__") hT JF (E8 JF hT MH (yc hh D hz hTI hTO j1 j2 m1 m2 hend λh' e hk he =>?_) (Mj _))))
 obtain ⟨o,ho,hc⟩:=he
 refine DH (Ht (T := "StopIteration") (b:=true) ⟨o,ho,hc⟩ J0 ?_);exact DN (hQ _ hk)
def uE:Bool->String
 | true => "list_iterator"
 | false => "tuple_iterator"
def zB1 (c:Bool)(h:Heap)(l1:Addr):Heap:=h.push { cls :=.type (uE c),data :=.fields #[.ref l1,.int 0 0] }
def zB2 (c d:Bool)(h:Heap)(l1 l2:Addr):Heap:=(zB1 c h l1).push { cls :=.type (uE d),data :=.fields #[.ref l2,.int 0 0] }
def zB3 (c d:Bool)(h:Heap)(l1 l2:Addr):Heap:=(zB2 c d h l1 l2).push { cls :=.type "tuple",data :=.seq #[.ref h.objs.size,.ref (zB1 c h l1).objs.size] }
def zB4 (c d:Bool)(h:Heap)(l1 l2:Addr):Heap:=(zB3 c d h l1 l2).push { cls :=.type "tuple",data :=.seq #[.none,.none] }
def zB5 (c d:Bool)(h:Heap)(l1 l2:Addr):Heap:=(zB4 c d h l1 l2).push { cls :=.type "zip",data :=.fields #[.none,.bool false,.bool false,.ref (zB2 c d h l1 l2).objs.size,.ref (zB3 c d h l1 l2).objs.size] }
theorem A4 {c:Bool}{l:Addr}{xs:Array DK}{Q:DK->DP->Prop}(hl:SB' c s.heap l xs)(q:Q (.ref s.heap.objs.size) { s with heap:=zB1 c s.heap l }):Ee (Es prog w) A (pyIter (.ref l)) Q E s:=by
 cases c
 ·exact GL hl q
 ·exact GZ hl q
theorem yd (c d:Bool)(l1 l2:Addr)(xs ys:Array DK):Meets (Builtin.«zip.__new__» ⟨[.type "zip",.ref l1,.ref l2],[]⟩) (λ_ R s=>SB' c s.heap l1 xs/\SB' d s.heap l2 ys ∧
   R (.ok (.ret (.ref (zB4 c d s.heap l1 l2).objs.size))) { s with heap:=zB5 c d s.heap l1 l2 }) :=
 .of_wp λprog w A R s h=>by
  obtain ⟨hp,g,dr,tk,os⟩:=s;obtain ⟨hl1,hl2,h⟩:=h
  have hsub:=sub_zip
  have m1:SB' c (Shared.heap ⟨hp,g,dr,tk,os⟩) l1 xs:=hl1
  have m2:SB' d (Shared.heap ⟨zB1 c hp l1,g,dr,tk,os⟩) l2 ys:=hl2.to λo e=>DJ _ e
  wp_walk using A4 m1,A4 m2
  exact ⟨_,rfl,h⟩
theorem vX {c d:Bool}{l1 l2:Addr}{xs ys:Array DK}{Q:DK->DP->Prop}(m1:SB' c s.heap l1 xs)(m2:SB' d s.heap l2 ys)
  (h:∀h',IsZip h' (s.heap.objs.size+4) (s.heap.objs.size+2) (s.heap.objs.size+3) .none->IsPair h' (s.heap.objs.size+2) (.ref s.heap.objs.size) (.ref (s.heap.objs.size+1)) →
   IsPair h' (s.heap.objs.size+3) .none .none->ItB c h' s.heap.objs.size l1 0->ItB d h' (s.heap.objs.size+1) l2 0 →
   (∀c o,s.heap.get? c=some o->h'.get? c=some o)->Q (.ref (s.heap.objs.size+4)) { s with heap:=h' }):Ee (Es prog w) A (call (.type "zip") [.ref l1,.ref l2]) Q E s:=by
 refine Lb F.called_zip (by decide) (F.typeCall_zip_2 _ _) (F.newCall_zip_2 _ _) (λobj=>F.args_object_init_3 obj _ _) F.entry_zip_new (yd c d l1 l2 xs ys) ⟨m1,m2,?_⟩
 have z1:(zB1 c s.heap l1).objs.size=s.heap.objs.size+1:=Fz ..
 have z2:(zB2 c d s.heap l1 l2).objs.size=s.heap.objs.size+2:=(Fz ..).trans (by rw[z1])
 have z3:(zB3 c d s.heap l1 l2).objs.size=s.heap.objs.size+3:=(Fz ..).trans (by rw[z2])
 have z4:(zB4 c d s.heap l1 l2).objs.size=s.heap.objs.size+4:=(Fz ..).trans (by rw[z3])
 have g5:(zB5 c d s.heap l1 l2).get? (zB4 c d s.heap l1 l2).objs.size=some { cls :=.type "zip",data :=.fields #[.none,.bool false,.bool false,.ref (zB2 c d s.heap l1 l2).objs.size,.ref (zB3 c d s.heap l1 l2).objs.size] }:=D2 _ rfl
 have g4:(zB5 c d s.heap l1 l2).get? (zB3 c d s.heap l1 l2).objs.size=some { cls :=.type "tuple",data :=.seq #[.none,.none] }:=DJ _ (D2 _ rfl)
 have g3:(zB5 c d s.heap l1 l2).get? (zB2 c d s.heap l1 l2).objs.size=some { cls :=.type "tuple",data :=.seq #[.ref s.heap.objs.size,.ref (zB1 c s.heap l1).objs.size] }:=DJ _ (DJ _ (D2 _ rfl))
 have g2:(zB5 c d s.heap l1 l2).get? (zB1 c s.heap l1).objs.size=some { cls :=.type (uE d),data :=.fields #[.ref l2,.int 0 0] }:=DJ _ (DJ _ (DJ _ (D2 _ rfl)))
 have g1:(zB5 c d s.heap l1 l2).get? s.heap.objs.size=some { cls :=.type (uE c),data :=.fields #[.ref l1,.int 0 0] }:=DJ _ (DJ _ (DJ _ (DJ _ (D2 _ rfl))))
 show _/\_
 rw[z2,z3,z4] at g5
 rw[z1,z2] at g3
 rw[z3] at g4
 rw[z1] at g2
 rw[z4]
 refine ⟨⟨_,g5,rfl⟩,h _ g5 g3 g4 ?_ ?_ λc' o x=>DJ _ (DJ _ (DJ _ (DJ _ (DJ _ x))))⟩
 ·cases c
  ·exact ⟨_,g1,rfl,rfl⟩
  ·exact ⟨_,g1,rfl,rfl⟩
 ·cases d
  ·exact ⟨_,g2,rfl,rfl⟩
  ·exact ⟨_,g2,rfl,rfl⟩
end
def SqB (K:DM):Bool->Hp->Addr->List V->Prop
 | true,H,a,xs=>SqL K H a xs
 | false,H,a,xs=>SqT K H a xs
theorem SqB.row {X:Cx}{c:Bool}{pins:List (Addr×Obj)}{σ:St}{H:Hp}{s:DP}(I:Inv X pins σ H s){a:Addr}{xs:List V}(h:SqB X.K c H a xs):∃its:List DK,Vals xs its/\SB' c s.heap a its.toArray:=by
 cases c
 ·obtain ⟨its,r,p,_⟩:=I.tuple (show SqT X.K H a xs from h);exact ⟨its,r,p⟩
 ·obtain ⟨its,r,p,_⟩:=I.list (show SqL X.K H a xs from h);exact ⟨its,r,p.isList⟩
theorem SB'.lt {c:Bool}{h:Heap}{l:Addr}{xs:Array DK}(x:SB' c h l xs):l<h.objs.size:=by
 cases c
 ·obtain ⟨o,e,_⟩:=(show h.IsTuple l xs from x);exact D4 e
 ·obtain ⟨o,e,_⟩:=(show h.IsList l xs from x);exact D4 e
theorem SqB.inj {X:Cx}{c:Bool}{pins:List (Addr×Obj)}{σ:St}{H:Hp}{s:DP}(I:Inv X pins σ H s){a:Addr}{xs ys:List V}(h:SqB X.K c H a xs)(g:SqB X.K c H a ys):xs=ys:=by
 cases c
 ·exact I.gG h g
 ·exact I.kY h g
def ItZ (K:DM)(c d:Bool)(a b:Addr):It :=
 ⟨λi H=>∃xs ys u v,SqB K c H a xs/\SqB K d H b ys/\xs[i]? = some u/\ys[i]? = some v,λi H x H'=>∃T u v,H T=none/\x = .ref T/\H'=upd H T (.tup [u,v])/\(∀xs,SqB K c H a xs->xs[i]? = some u)/\∀ys,SqB K d H b ys->ys[i]? = some v,λi H=>∃xs ys,SqB K c H a xs/\SqB K d H b ys/\(xs.length<=i\/ys.length<=i)⟩
theorem vY {P:D9}{w:EE}{K:DM}{elts:List Expr}{k:Nat}{pos:Pos}(c d:Bool)(a b z TI TO i1 i2:Addr)(D:ZipApart z TI TO i1 i2 a b):Turn P w K (.Tuple elts k pos) (ItZ K c d a b) [z,TI,TO,i1,i2] z (λi h=>IsZip h z TI TO .none/\IsPair h TI (.ref i1) (.ref i2)/\(∃x y,IsPair h TO x y)/\ItB c h i1 a i/\ItB d h i2 b i) where
 mem:=by simp
 obj:=λi h ⟨hz,hI,⟨x,y,hO⟩,h1,h2⟩ e he=>by
  have he':e=z\/e=TI\/e=TO\/e=i1\/e=i2:=by simpa using he
  rcases he' with q | q | q | q | q
  ·subst q;exact ⟨_,hz,λv z=>nomatch z⟩
  ·subst q;exact ⟨_,hI,λv z=>nomatch z⟩
  ·subst q;exact ⟨_,hO,λv z=>nomatch z⟩
  ·subst q;exact h1.obj
  ·subst q;exact h2.obj
 keep:=λi h h' ⟨hz,hI,⟨x,y,hO⟩,h1,h2⟩ kp=>⟨kp z (by simp) _ hz,kp TI (by simp) _ hI,⟨x,y,kp TO (by simp) _ hO⟩,h1.to λo e=>kp i1 (by simp) o e,h2.to λo e=>kp i2 (by simp) o e⟩
 item:=λX eP eW eK hcalm i pins s σ H E I f ⟨hz,hI,⟨x,y,hO⟩,h1,h2⟩ go=>by
  subst eP eW eK
  obtain ⟨xs,ys,u,v,ha,hb,hu,hv⟩:=go
  obtain ⟨its,r,pl⟩:=SqB.row I ha
  obtain ⟨jts,r',pl'⟩:=SqB.row I hb
  obtain ⟨u',eu,ru⟩:=r.get hu
  obtain ⟨v',ev,rv⟩:=r'.get hv
  refine qV D hz hI hO h1 h2 pl pl' (x:=u') (y:=v') (by rw[ED];exact eu) (by rw[ED];exact ev) λh' o1 o2 o3 o4 o5 o6 kp =>?_
  refine ⟨_,rfl,?_⟩
  refine wpAny_letOwnedTupleGo_zip o1 λh2' e2 sb =>?_
  have ez:z≠s.heap.objs.size:=Ed (D4 hz)
  have lt:∀e∈[z,TI,TO,i1,i2],e≠s.heap.objs.size:=λe he=>by
   have he':e=z\/e=TI\/e=TO\/e=i1\/e=i2:=by simpa using he
   rcases he' with q | q | q | q | q
   ·rw[q];exact ez
   ·rw[q];exact Ed (D4 hI)
   ·rw[q];exact Ed (D4 hO)
   ·rw[q];exact Ed h1.lt
   ·rw[q];exact Ed h2.lt
  have kp2:∀e ob,e∉[z,TI,TO,i1,i2]->s.heap.get? e=some ob->h2'.get? e=some ob:=λe ob he eb=>by
   have n1:e≠z:=λq=>he (by simp[q])
   have n2:e≠TO:=λq=>he (by simp[q])
   have n3:e≠i1:=λq=>he (by simp[q])
   have n4:e≠i2:=λq=>he (by simp[q])
   rw[sb.2 e n1];exact kp e ob n1 n2 n3 n4 eb
  have j1:ItB c h2' i1 a (i+1):=o3.to λob eb=>by rw[sb.2 i1 D.i1z];exact eb
  have j2:ItB d h2' i2 b (i+1):=o4.to λob eb=>by rw[sb.2 i2 D.i2z];exact eb
  have jI:IsPair h2' TI (.ref i1) (.ref i2):=by
   show h2'.get? TI=_
   rw[sb.2 TI D.TIz]
   exact kp TI _ D.TIz D.TITO D.TIi1 D.TIi2 hI
  have jO:IsPair h2' TO u' v':=by
   show h2'.get? TO=_
   rw[sb.2 TO D.TOz]
   exact o2
  have tp:h2'.get? s.heap.objs.size=some { cls :=.type "tuple",data :=.seq #[u',v'] }:=by rw[sb.2 _ (Ft ez)];exact o5
  refine ⟨.ref s.heap.objs.size,upd H s.heap.objs.size (.tup [u,v]),I.ie (ch:=[z,TI,TO,i1,i2]) f kp2 (λe he =>?_) (DS _) ?_,rfl,⟨s.heap.objs.size,u,v,I.hok.fresh (DS _),rfl,rfl,λzs hy =>?_,λzs hy =>?_⟩,⟨e2,jI,⟨_,_,jO⟩,j1,j2⟩,λe he =>?_⟩
  ·have he':e=z\/e=TI\/e=TO\/e=i1\/e=i2:=by simpa using he
   rcases he' with q | q | q | q | q
   ·rw[q];exact ⟨_,e2⟩
   ·rw[q];exact ⟨_,jI⟩
   ·rw[q];exact ⟨_,jO⟩
   ·rw[q];obtain ⟨o,ho,_⟩:=j1.obj;exact ⟨o,ho⟩
   ·rw[q];obtain ⟨o,ho,_⟩:=j2.obj;exact ⟨o,ho⟩
  ·refine ⟨(by show 2<=D3;decide),[u',v'],.cons ru (.cons rv .nil),_,tp,⟨rfl,rfl⟩,_,rfl⟩
  ·rw[SqB.inj I hy ha];exact hu
  ·rw[SqB.inj I hy hb];exact hv
  ·rw[aq (lt e he)];exact (f e he).1
 done:=λX eP eW eK hcalm i pins s σ H E I f ⟨hz,hI,⟨x,y,hO⟩,h1,h2⟩ stop=>by
  subst eP eW eK
  obtain ⟨xs,ys,ha,hb,hl⟩:=stop
  obtain ⟨its,r,pl⟩:=SqB.row I ha
  obtain ⟨jts,r',pl'⟩:=SqB.row I hb
  have l:=r.length
  have l':=r'.length
  refine kq (I.ok.hd hcalm) D hz hI hO h1 h2 pl pl' (hl.imp (λ_=>by rw[ED];exact FF.mpr (by lia)) (λ_=>by rw[ED];exact FF.mpr (by lia))) λh' ex=>⟨rfl,?_⟩
  exact I.vU (ch:=[z,TI,TO,i1,i2]) (h':=h') (t':=s.toks) f λe o he eb=>ex e o (λq=>he (by simp[q])) (λq=>he (by simp[q])) (λq=>he (by simp[q])) (λq=>he (by simp[q])) eb
 self:=λA i s Q E ⟨hz,_⟩ q=>wpAny_pyIter_zip hz q
def Dr (K:DM)(c d:Bool)(ta:TA):TI:=λσ H R=>ta σ H λvs H1=>∃a b,vs=[.ref a,.ref b]/\(∃xs,SqB K c H1 a xs)/\(∃ys,SqB K d H1 b ys)/\R (ItZ K c d a b) H1
theorem uF {X:Cx}(c d:Bool){a b:Expr}{ta:TA}{p pos pos':Pos}{elts:List Expr}{k:Nat}(hg:Gl X "zip")(hm:X.mg "zip" = none)(ha:PA X [a,b] ta)(hs:EL [a,b] X.env=[(false,eval a X.env),(false,eval b X.env)]:=by rfl)(hs2:EL [b] X.env=[(false,eval b X.env)]:=by rfl) :
  PI X (.Tuple elts k pos') (.Call (.Name "zip" p) [a,b] [] pos) (Dr X.K c d ta):=by
 intro pins s σ H R I h
 refine Call_ (d9 I hg hm boot_zip (FO (thn (ha pos pins s σ H _ I h) λus s1 ⟨vs,H1,I1,r1,q1⟩ =>?_) (by rw[hs,hs2]) (by rw[hs2];rfl)))
 obtain ⟨l1,l2,e,⟨xs,hx⟩,⟨ys,hy⟩,q⟩:=q1
 subst e
 cases r1 with
 | cons r rr =>
  cases rr with
  | cons r' rr =>
   cases rr
   cases r
   cases r'
   have fp:∀b∈[s1.heap.objs.size+4,s1.heap.objs.size+2,s1.heap.objs.size+3,s1.heap.objs.size,s1.heap.objs.size+1],iH X pins H1 b:=λb hb=>by
    have ge:s1.heap.objs.size<=b:=by
     simp at hb
     lia
    exact I1.vg ge (I1.hok.fresh ge)
   obtain ⟨its,rv,pl⟩:=SqB.row I1 hx
   obtain ⟨jts,rv',pl'⟩:=SqB.row I1 hy
   have D:=Cg _ _ _ pl.lt pl'.lt
   refine vX pl pl' λh' hz hI hO h1 h2 kp =>?_
   have T:=vY (P:=X.prog) (w:=X.w) (K:=X.K) (elts:=elts) (k:=k) (pos:=pos') c d l1 l2 _ _ _ _ _ D
   refine T.self _ 0 _ _ _ ⟨hz,hI,⟨_,_,hO⟩,h1,h2⟩ ?_
   exact ⟨_,_,_,_,H1,rfl,I1.kept (t':=s1.toks) kp,T,⟨hz,hI,⟨_,_,hO⟩,h1,h2⟩,fp,q⟩
theorem ye {K:DM}{c d:Bool}{a b:Addr}{xs ys:List V}{g:TG}{tb:TS}{D:Ends}{σ:St}{H:Hp}(n:Nat)(n1:n<=xs.length)(n2:n<=ys.length)(n3:n=xs.length\/n=ys.length)(Pv:Nat->St->Hp->Prop)(h0:Pv 0 σ H)(hl:∀i σ H,i<=n->Pv i σ H->SqB K c H a xs/\SqB K d H b ys)
  (hs:∀i x y σ H T,xs[i]? = some x->ys[i]? = some y->H T=none->Pv i σ H->g (.ref T) σ (upd H T (.tup [x,y])) λσ2 H2=>tb { D with nx:=Pv (i+1),ct:=Pv (i+1),bk:=D.nx } σ2 H2) (hd:∀σ H,Pv n σ H->D.nx σ H):ForW (ItZ K c d a b) g tb D σ H:=by
 refine ⟨λi m σ H=>m=n-i/\i<=n/\Pv i σ H,⟨n,by simp,EB _,h0⟩,?_⟩
 rintro i m σ H ⟨rfl,hi,p⟩
 obtain ⟨q1,q2⟩:=hl i σ H hi p
 by_cases hlt:i<n
 ·refine .inr ⟨⟨xs,ys,xs[i]'(by lia),ys[i]'(by lia),q1,q2,by simp[show i<xs.length by lia],by simp[show i<ys.length by lia]⟩,Pv (i+1),λσ' H' p'=>⟨n-(i+1),by lia,rfl,hlt,p'⟩,λx H' y =>?_⟩
  obtain ⟨T,u,v,hT,ex,eH,hu,hv⟩:=y
  subst ex eH
  exact hs i u v σ H T (hu xs q1) (hv ys q2) hT p
 ·have e:i=n:=by lia
  subst e
  exact .inl ⟨⟨xs,ys,q1,q2,n3.elim (λz =>.inl (by lia)) (λz =>.inr (by lia))⟩,hd σ H p⟩
theorem Ds {K:DM}{c d:Bool}{a b:Addr}{xs ys:List V}{k l:Nat}{tc:TT}{te:TE}{τ:St}{H:Hp}{Q:VK}(n:Nat)(n1:n<=xs.length)(n2:n<=ys.length)(n3:n=xs.length\/n=ys.length)(Pv:Nat->List V->Hp->Prop)(hkl:k≠l)(h0:Pv 0 [] H)(hz:n<=D3)
  (hl:∀i zs H,i<=n->Pv i zs H->SqB K c H a xs/\SqB K d H b ys)
  (hs:∀i x y zs H T,xs[i]? = some x->ys[i]? = some y->zs.length<=i->H T=none->Pv i zs H->xv k l tc te τ Pv i x y zs (upd H T (.tup [x,y])))
  (hd:∀zs H,zs.length<=n->Pv n zs H->∀r,H r=none->Q (.ref r) (upd H r (.lst zs))):iO (ItZ K c d a b) (tX K k l) tc te τ Q H:=by
 refine ⟨λi m σ zs H=>m=n-i/\i<=n/\(∀a b,(σ.set k (some a)).set l (some b)=(τ.set k (some a)).set l (some b))/\zs.length<=i/\Pv i zs H,⟨n,by simp,EB _,λ_ _=>rfl,DS _,h0⟩,?_⟩
 rintro i m σ zs H ⟨rfl,hi,hτ,hy,pv⟩
 obtain ⟨q1,q2⟩:=hl i zs H hi pv
 by_cases hlt:i<n
 ·refine .inr ⟨⟨xs,ys,xs[i]'(by lia),ys[i]'(by lia),q1,q2,by simp[show i<xs.length by lia],by simp[show i<ys.length by lia]⟩,λx H' y =>?_⟩
  obtain ⟨T,u,v,hT,ex,eH,hu,hv⟩:=y
  subst ex eH
  refine ⟨T,_,rfl,SqT.of ag,rfl,_,_,rfl,_,_,rfl,rfl,?_⟩
  rw[hτ]
  have hσ:∀a b,((((τ.set k (some u)).set l (some v)).set k (some a)).set l (some b))=(τ.set k (some a)).set l (some b):=λa b=>by
   rw[LP _ _ (Ft hkl),HQ,HQ]
  refine hs i u v zs _ T (hu xs q1) (hv ys q2) hy hT pv _ _ (λy4 H4 p4=>⟨by lia,n-(i+1),by lia,rfl,hlt,hσ,by rw[DT,Fj];lia,p4⟩) λH3 p3=>⟨n-(i+1),by lia,rfl,hlt,hσ,by lia,p3⟩
 ·have e:i=n:=by lia
  subst e
  exact .inl ⟨⟨xs,ys,q1,q2,n3.elim (λz =>.inl (by lia)) (λz =>.inr (by lia))⟩,by lia,hd zs H hy pv⟩
section
variable  {X:Cx}
theorem vZ:CM X (λo i H Q=>∃(p:Addr) (xs:List V) (k:Nat) (v:V),o = .ref p/\i = .int k/\SqL X.K H p xs/\xs[k]? = some v/\Q v H):=by
 intro pins s σ H o i ov iv Q I ro ri h
 obtain ⟨p,xs,k,v,rfl,rfl,hq,he,q⟩:=h
 cases (show ov=D8 p from ro)
 obtain ⟨t,rfl⟩:=(show ∃t,iv=FT k t from ri)
 obtain ⟨its,r,pl,hz⟩:=I.list hq
 obtain ⟨w,ew,rw'⟩:=r.get he
 have hk:k<xs.length:=(DQ.mp he).1
 have hn:=ib
 exact wpAny_getItem_list pl.isList (by lia) (by lia) (by simpa using ew) ⟨v,H,I,rw',q⟩
theorem v3 (hc:X.calm=true):bH X (.builtin "min") (λxs H Q=>∃(a:Addr) (ns:List Int),xs=[.ref a]/\SqL X.K H a (ns.map V.int)/\ns≠[]/\∀M:Int,M∈ns->(∀b∈ns,M<=b)->Q (.int M) H):=by
 intro pins s σ H xs us Q I r h
 obtain ⟨a,ns,rfl,hS,hne,q⟩:=h
 obtain ⟨u,rfl,ru⟩:=vals1 r
 cases (show u=D8 a from ru)
 obtain ⟨its,r1,p1,_⟩:=I.list hS
 obtain ⟨ps,e2,e3⟩:=fW (intsAre_of r1)
 have ei:its.toArray=Jy ps.toArray:=by rw[e2];simp[Jy]
 have hl:s.heap.IsList a (Jy ps.toArray):=by rw[<- ei];exact p1.isList
 have hz:ps.toArray.size=ns.length:=by rw[DR, <- e3,DI]
 have hp:0<ns.length:=G3.mpr hne
 have ht:ps.toArray.toList.map (·.1)=ns:=e3
 refine min_intList (I.ok.hd hc) hl (by lia) λv h' tk hv k =>?_
 rw[hz] at hv
 obtain ⟨t,rfl⟩:=M3 hv
 obtain ⟨h1,h2⟩:=argBest_lt (numAt ps.toArray) (ns.length-1)
 refine ⟨.int _,H,I.kept k,⟨_,rfl⟩,q _ ?_ λb hb =>?_⟩
 ·rw[Kp,ht];exact xZ (by lia)
 ·obtain ⟨j,hj,rfl⟩:=x6 hb
  have:=h2 j (by lia)
  rw[Kp,Kp,ht] at this
  rw[Kp,ht]
  exact this
end
end L2
namespace L2.RvT
open PySem PyProof.Rows
open Sem (wp)
theorem jB:Manifest.owners.lookup (String.ofList ['d', 'e', 's', 'r', 'e', 'v', 'e', 'r'].reverse)=some Manifest.sig_reversed:=by kernel_rfl
theorem slot_next:Slot "reversed" "__next__" "reversed.__next__" :=
 .of (owner := "reversed") (n := "__next__") (by rw[HN,Gn];kernel_rfl) (by decide +kernel) (by decide +kernel) (by decide +kernel)
  (by first | exact .inl (by decide +kernel) | exact .inr (by decide +kernel)) (by rw[GW];kernel_rfl)
theorem entry_next:entryFor table "reversed.__next__" = some Builtin.«reversed.__next__» := KG (by kernel_rfl)
theorem args_next (a:DK):argsOk "reversed.__next__" ⟨[a],[]⟩:=by
 unfold argsOk;rw[L5 (id := "reversed.__next__") (n:=['_', '_', 't', 'x', 'e', 'n', '_', '_']) (o:=['d', 'e', 's', 'r', 'e', 'v', 'e', 'r']) (by kernel_rfl) jB];kernel_rfl
theorem oM:Slot "reversed" "__iter__" "reversed.__iter__" :=
 .of (owner := "reversed") (n := "__iter__") (by rw[HN,Gn];kernel_rfl) (by decide +kernel) (by decide +kernel) (by decide +kernel)
  (by first | exact .inl (by decide +kernel) | exact .inr (by decide +kernel)) (by rw[GW];kernel_rfl)
theorem v5 (a:DK):argsOk "reversed.__iter__" ⟨[a],[]⟩:=by
 unfold argsOk;rw[L5 (id := "reversed.__iter__") (n:=['_', '_', 'r', 'e', 't', 'i', '_', '_']) (o:=['d', 'e', 's', 'r', 'e', 'v', 'e', 'r']) (by kernel_rfl) jB];kernel_rfl
theorem sD:entryFor table "reversed.__iter__" = some Builtin.«dict_keyiterator.__iter__» :=
 entryFor_alias (id' := "dict_keyiterator.__iter__") (by kernel_rfl) (by first | rfl | decide +kernel | (unfold String.splitOn;simp +decide [String.splitOnAux])) (by decide +kernel) (by kernel_rfl)
theorem Cj:typeLookup (.type "tuple") "__reversed__" = pure none:=by rw[HN,Gn];kernel_rfl
theorem Ck:typeLookup (.type "reversed") "__len__" = pure none:=by rw[HN,Gn];kernel_rfl
theorem qW:typeLookup (.type "reversed") "__length_hint__" = pure (some (.builtin "reversed.__length_hint__")):=by rw[HN,Gn];kernel_rfl
theorem sub_self:isSubtype (.type "reversed") (.type "reversed")=pure true:=by rw[GW];kernel_rfl
theorem yf:isSubtype (.type "tuple") (.type "dict")=pure false:=by rw[GW];kernel_rfl
theorem v7:Slot "reversed" "__init__" "object.__init__" :=
 .of (owner := "object") (n := "__init__") (by rw[HN,Gn];kernel_rfl) (by decide +kernel) (by decide +kernel) (by decide +kernel)
  (by first | exact .inl (by decide +kernel) | exact .inr (by decide +kernel)) (by rw[GW];kernel_rfl)
theorem called:TypeCalled "reversed" "reversed.__new__" "object.__init__" :=
 ⟨by decide +kernel,by decide +kernel,⟨_,_,Lm⟩,madeBy_type Lm PySem.F.lookup_reversed_new (by decide +kernel),by decide +kernel,by rw[GW];kernel_rfl,v7⟩
def rvO (t:Addr)(i:Int):Obj:={ cls :=.type "reversed",data :=.fields #[.ref t,HD i] }
def gZ (h:Heap)(a t:Addr)(i:Int):Prop:=∃o,h.get? a=some o/\o.cls = .type "reversed" /\ o.data = .fields #[.ref t,HD i]
section
variable  {prog:D9}{w:EE}{A:EV}{E:DK->DP->Prop}{s:DP}
theorem gZ.typeIs {a t:Addr}{i:Int}(x:gZ s.heap a t i):s.TypeIs (.ref a) "reversed" := let ⟨o,ho,hc,_⟩:=x;⟨o,ho,hc⟩
theorem gZ.at {h h':Heap}{a t:Addr}{i:Int}(x:gZ h a t i)(e:∀o,h.get? a=some o->h'.get? a=some o):gZ h' a t i:=let ⟨o,ho,r⟩:=x;⟨o,e _ ho,r⟩
theorem qX {h h':Heap}{a:Addr}{its:Array DK}(x:IsTup h a its)(e:∀o,h.get? a=some o->h'.get? a=some o):IsTup h' a its:=let ⟨o,ho,r⟩:=x;⟨o,e _ ho,r⟩
theorem v8 (t:Addr)(its:Array DK)(hz:(its.size:Int)<2 ^ 63) :
  Meets (Builtin.«reversed.__new__» ⟨[.type "reversed",.ref t],[]⟩) (λ_ R s=>IsTup s.heap t its/\R (.ok (.ret (.ref s.heap.objs.size))) { s with heap:=s.heap.push (rvO t ((its.size:Int)-1)),toks:=s.toks+1+1 }) :=
 .of_wp λprog w A R s h=>by
  obtain ⟨ht,h⟩:=h
  unfold Builtin.«reversed.__new__»
  refine DH (Gx (newClass_reversed _) ?_)
  try dsimp only
  refine DH (Gx (a:=()) (by first | rfl | kernel_rfl) ?_)
  refine DH (Gx (a:=()) (by first | rfl | kernel_rfl) ?_)
  try dsimp only
  refine DH (G6 ht.typeIs Cj ?_)
  try dsimp only
  refine DH ?_
  show Ee _ _ (isInstance (.ref t) (.type "dict") >>= _) _ _ s
  refine DH (Ht (T := "tuple") (b:=false) ht.typeIs yf ?_)
  refine Ge (λhab=>absurd hab (by decide)) (λ_ =>?_)
  refine DH (G6 ht.typeIs Fd.lookup ?_)
  refine Ge (λ_=>DN ?_) (λhab=>absurd (by decide +kernel) hab)
  refine Ge (λhab=>absurd hab (by decide)) (λ_ =>?_)
  refine DH (MX ht hz ?_)
  refine DH (Gx (a:=some (its.size:Int)) rfl ?_)
  refine DH ?_
  show Ee _ _ (newObj (.type "reversed") (.fields #[.ref t,HD ((its.size:Int)-1)])) _ _ _
  exact E7 (DN ⟨_,rfl,h⟩)
theorem yg {t:Addr}{its:Array DK}{Q:DK->DP->Prop}(ht:IsTup s.heap t its)(hz:(its.size:Int)<2 ^ 63)
  (h:Q (.ref s.heap.objs.size) { s with heap:=s.heap.push (rvO t ((its.size:Int)-1)),toks:=s.toks+1+1 }):Ee (Es prog w) A (call (.type "reversed") [.ref t]) Q E s:=by
 refine Lb called (by decide) (PySem.F.typeCall_reversed_1 _) (PySem.F.newCall_reversed_1 _) (λobj=>JN obj _) PySem.F.entry_reversed_new (v8 t its hz) ⟨ht,?_⟩
 exact ⟨⟨_,D2 _ rfl,rfl⟩,h⟩
theorem next_item {I t:Addr}{i:Nat}{its:Array DK}{x:DK}{Q:Option DK->DP->Prop}(hit:gZ s.heap I t (i:Int))(ht:IsTup s.heap t its)(hx:its[i]? = some x)(hi:(i:Int)<2 ^ 63)
  (hQ:∀h' tk,gZ h' I t ((i:Int)-1)->Heap.SameBut I s.heap h'->Q (some x) { s with heap:=h',toks:=tk }):Ee (Es prog w) A (pyNext (.ref I)) Q E s:=by
 obtain ⟨o,ho,hc,hd⟩:=id hit
 unfold pyNext
 refine DH (GG (Fi (name:=Str.ofString "__next__") hit.typeIs slot_next (E8 slot_next hit.typeIs entry_next ?_ (args_next _))))
 unfold Builtin.«reversed.__next__»
 refine DH (Gx (a:=(D8 I,[])) rfl ?_)
 try dsimp only
 refine DH (Fn ho hd (x :=.ref t) rfl ?_)
 refine DH (Fn ho hd (x:=HD (i:Int)) rfl ?_)
 show Ee _ _ (if (i:Int)<0 then _ else _) _ _ s
 rw[if_neg (by lia)]
 show Ee _ _ (specialOf (.ref t) "__getitem__" >>= _) _ _ s
 refine DH (G6 ht.typeIs Fd.lookup ?_)
 refine Ge (λhab=>absurd hab (by decide)) (λ_ =>?_)
 refine DH (M4 ?_)
 refine DH (GG ?_)
 refine PyProof.Rows.getItem_tuple (j:=i) ht (by lia) hi (LF (by lia) (by have:=(FW.mp hx).1;lia)) hx ?_
 refine DH (Fn ho hd (x:=HD (i:Int)) rfl ?_)
 show Ee _ _ (setField (.ref I) 1 (HD ((i:Int)-1)) >>= λ_=>ret x) _ _ _
 refine DH (Ji ho hd (by simp) ?_)
 refine DN ⟨x,rfl,DN (hQ _ _ ?_ (IH ..))⟩
 exact ⟨_,EZ _ ho (Jk (Hv hd _)),(Mc ..).trans hc,by rw[Hv hd];simp⟩
theorem next_end {I t:Addr}{Q:Option DK->DP->Prop}(hh:A.handled=none)(hit:gZ s.heap I t (-1))
  (hQ:∀h',Heap.ExtBut I s.heap h'->Q none { s with heap:=h' }):Ee (Es prog w) A (pyNext (.ref I)) Q E s:=by
 obtain ⟨o,ho,hc,hd⟩:=id hit
 unfold pyNext
 refine DH (GG (Fi (name:=Str.ofString "__next__") hit.typeIs slot_next (E8 slot_next hit.typeIs entry_next ?_ (args_next _))))
 unfold Builtin.«reversed.__next__»
 refine DH (Gx (a:=(D8 I,[])) rfl ?_)
 try dsimp only
 refine DH (Fn ho hd (x :=.ref t) rfl ?_)
 refine DH (Fn ho hd (x:=HD (-1)) rfl ?_)
 show Ee _ _ (if (-1:Int)<0 then _ else _) _ _ s
 rw[if_pos (by decide)]
 refine DH (Gz ?_)
 refine DH ?_
 show Ee _ _ (setField (.ref I) 1 (HD (-1)) >>= λ_=>setField (.ref I) 0 .none) _ _ s
 refine DH (Ji ho hd (by simp) ?_)
 have h1:=EZ (Obj.mapFields λfs=>fs.setIfInBounds 1 (HD (-1))) ho (Jk (Hv hd _))
 refine Ji h1 (Hv hd _) (by simp) ?_
 refine DH ?_
 show Ee _ _ (newExc (.type "StopIteration") [] >>= _) _ _ _
 refine DH ?_
 simp only[newExc,newTuple]
 refine DH (E7 ?_ (by size_fits))
 refine DH (m:=firstArgMember _ _) (Gx (a:=F7) (by first | rfl | (simp only[firstArgMember];rfl)) ?_)
 refine E7 ?_ (by size_fits)
 simp only[raiseNew]
 refine DH (LZ ?_)
 first | rw[show A.in1.handled=none from hh] | rw[hh]
 refine DH (DN (MY ?_))
 refine DH (Ht (T := "StopIteration") (b:=true) ⟨_,D2 _ rfl,rfl⟩ J0 ?_)
 refine DN (hQ _ ?_)
 refine MI (MI (λb o hb eo =>?_) _) _
 exact (Eo _ _ (Ft hb)).trans ((Eo _ _ (Ft hb)).trans eo)
theorem uG {I t:Addr}{i:Int}{Q:DK->DP->Prop}(hit:gZ s.heap I t i)(h:Q (.ref I) s):Ee (Es prog w) A (pyIter (.ref I)) Q E s:=by
 refine Jh hit.typeIs oM (E8 oM hit.typeIs sD ?_ (v5 _))
 show Ee _ _ (ret (.ref I)) _ _ s
 exact DN ⟨_,rfl, "reversed",_,hit.typeIs,slot_next.lookup,h⟩
theorem oN:Slot "reversed" "__length_hint__" "reversed.__length_hint__" :=
 .of (owner := "reversed") (n := "__length_hint__") qW (by decide +kernel) (by decide +kernel) (by decide +kernel)
  (by first | exact .inl (by decide +kernel) | exact .inr (by decide +kernel)) sub_self
theorem sF:entryFor table "reversed.__length_hint__" = some Builtin.«reversed.__length_hint__» := KG (by kernel_rfl)
theorem v9 (a:DK):argsOk "reversed.__length_hint__" ⟨[a],[]⟩:=by
 unfold argsOk;rw[L5 (id := "reversed.__length_hint__") (n:=['_', '_', 't', 'n', 'i', 'h', '_', 'h', 't', 'g', 'n', 'e', 'l', '_', '_']) (o:=['d', 'e', 's', 'r', 'e', 'v', 'e', 'r']) (by kernel_rfl) jB];kernel_rfl
theorem wa {I t:Addr}{its:Array DK}{Q:DK->DP->Prop}(hit:gZ s.heap I t ((its.size:Int)-1))(ht:IsTup s.heap t its)(hz:(its.size:Int)<2 ^ 63)
  (h:∀u tk,Q (.int its.size u) { s with toks:=tk }):Ee (Es prog w) A (call (.builtin "reversed.__length_hint__") [.ref I]) Q E s:=by
 obtain ⟨o,ho,hc,hd⟩:=id hit
 refine E8 oN hit.typeIs sF ?_ (v9 _)
 unfold Builtin.«reversed.__length_hint__»
 refine DH (Gx (a:=D8 I) rfl ?_)
 refine DH (Fn ho hd (x :=.ref t) rfl ?_)
 refine Ge (λhab=>absurd hab (show ¬ (false=true) from Eh)) (λ_ =>?_)
 refine DH (MX ht hz ?_)
 refine DH (Gx (a:=some (its.size:Int)) rfl ?_)
 refine DH (Fn ho hd (x:=HD ((its.size:Int)-1)) rfl ?_)
 show Ee _ _ (if (its.size:Int)<((its.size:Int)-1)+1 then _ else retInt (((its.size:Int)-1)+1)) _ _ _
 rw[if_neg (by lia),show ((its.size:Int)-1)+1=its.size by lia]
 exact DH (M4 (DN ⟨_,rfl,h _ _⟩))
theorem Ah {I t:Addr}{its:Array DK}{Q:Bool->DP->Prop}(hit:gZ s.heap I t ((its.size:Int)-1))(ht:IsTup s.heap t its)(hz:its.size<=2 ^ 24)(h:∀b tk,Q b { s with toks:=tk }):Ee (Es prog w) A (G7 (.ref I)) Q E s:=by
 unfold G7
 refine DH (G6 hit.typeIs Ck ?_)
 wp_delta
 refine DH (G6 hit.typeIs qW ?_)
 generalize hid:("reversed.__length_hint__" : String)=id0
 wp_delta
 rw[show splitId id0=some ("reversed", "__length_hint__") from by subst hid;decide +kernel]
 subst hid
 refine DH (Ht (T := "reversed") (b:=true) hit.typeIs sub_self ?_)
 refine Ge (λhab=>absurd hab (by decide)) (λ_ =>?_)
 refine Ge (λhab=>absurd hab (by decide +kernel)) (λ_ =>?_)
 refine DH (Gz ?_)
 refine DH (Gx (oN.bind _) ?_)
 refine DH (GG (wa hit ht (by lia) λu tk =>?_))
 show Ee _ A (asInt? (.int (its.size:Int) u) >>= _) Q E _
 have ea:asInt? (FT (its.size:Int) u)=pure (some (its.size:Int)):=rfl
 rw[ea,pure_bind]
 generalize hn:(its.size:Int)=n
 dsimp only
 refine Ge (λhab=>absurd hab ?_) (λ_ =>?_)
 ·unfold Builtin.List.listFitsIndex;simp;lia
 refine Ge (λhab=>absurd hab (by lia)) (λ_ =>?_)
 refine Ge (λhab=>absurd hab ?_) (λ_ =>?_)
 ·rw[L2.xr (by rw[G4];lia)];exact Eh
 exact DN (h _ _)
end
theorem walk {prog:D9}{w:EE}{A:EV}(hh:A.handled=none)(I t:Addr)(hne:t≠I)(its:Array DK)(hz:(its.size:Int)<2 ^ 63) :
  Walks prog w A I [I,t] [I] its.size (λi v=>its[its.size-1-i]? = some v) (λi h=>i<=its.size/\gZ h I t ((its.size:Int)-1-(i:Int))/\IsTup h t its) where
 sub:=λb hb=>by simp at hb;simp[hb]
 frame:=λ_ _ _ x hk=>⟨x.1,x.2.1.at λo e=>hk I (by simp) o e,qX x.2.2 λo e=>hk t (by simp) o e⟩
 item:=λi s Q E hi x hQ=>by
  have e:(its.size:Int)-1-(i:Int)=((its.size-1-i:Nat):Int):=by omega
  have hit:=x.2.1
  rw[e] at hit
  have hx:its[its.size-1-i]? = some (its[its.size-1-i]'(by omega)):=Ep (by omega)
  refine next_item hit x.2.2 hx (by omega) λh' tk hit' hs' =>?_
  have e2:((its.size-1-i:Nat):Int)-1=(its.size:Int)-1-((i+1:Nat):Int):=by omega
  rw[e2] at hit'
  exact hQ _ h' tk hx ⟨hi,hit',qX x.2.2 λo eo=>(hs'.2 t hne).trans eo⟩ λb o hb eo=>hs'.extBut b o (λh=>hb (by simp[h])) eo
 done:=λs Q E x hQ=>by
  have e:(its.size:Int)-1-(its.size:Int) = -1:=by omega
  have hit:=x.2.1
  rw[e] at hit
  exact next_end hh hit λh' he'=>hQ h' s.toks λb o hb eo=>he' b o (λh=>hb (by simp[h])) eo
 self:=λ_ _ _ _ x hQ=>uG x.2.1 hQ
section
variable  {prog:D9}{w:EE}{A:EV}{E:DK->DP->Prop}{s:DP}
theorem wc {R:Result->DP->Prop}{I t:Addr}{items:Array DK}(hh:A.handled=none)(hit:gZ s.heap I t ((items.size:Int)-1))(hl:IsTup s.heap t items)(hne:t≠I)(hlen:items.size<=2 ^ 24)
  (S:Addr) (hSI:S≠I) (hSl:S≠t) (res:DK) (c₀:Nat) (hS:s.heap.get? S=some { cls :=.type "list",data :=.seq #[] c₀ })
  (hR:∀h' tk acc' c',(∀b o,b≠S->b≠I->s.heap.get? b=some o->h'.get? b=some o)->h'.get? S=some { cls :=.type "list",dict:=none,data :=.seq acc' c',slots := #[] } →
   ItemsOf (λi v=>items[items.size-1-i]? = some v) acc' items.size->R (.ok (.ret res)) { s with heap:=h',toks:=tk }) :
  Ee (Es prog w) A.in1 (Fy (.ref S) (.ref I) res)
   (λfin s'=>match fin with | .done f=>R (.ok f) s' | .again c'=>c'.quiet=true/\IL (Es prog w) A c' R s') (λe s'=>R (.error e) s') s:=by
 have hSf:S∉[I,t]:=λhm=>by
  rcases Eg.mp hm with e | hm
  ·exact hSI e
  ·exact hSl (DW.mp hm)
 have W:=(walk (prog:=prog) (w:=w) (A:=A.in1) hh I t hne items (by omega)).toS
 unfold Fy
 refine DH (Hz (T := "reversed") hit.typeIs ?_)
 have h1:HP (.ref S) (.ref I)=false:=by simp[HP,hSI]
 have h2:(GO "reversed" == GO "list")=false:=by decide +kernel
 have h3:(GO "reversed" == GO "tuple")=false:=by decide +kernel
 simp only[h1,h2,h3,Nm,Ei,if_false]
 refine DH (uG hit ?_)
 refine DH (Fb (Ah hit hl hlen λb tk =>?_))
 refine Ge (λ_ =>?_) (λ_=>DN ⟨Fs JZ _,?_⟩)
 ·refine DH (Gz ?_)
  refine DH ?_
  show Ee _ A.in1 (updateSeq S (·.push .none) >>= λ_=>updateSeq S (·.pop)) _ _ _
  refine DH (FR hS rfl ?_)
  have hS₂:=EZ (F8 (·.push F7)) hS rfl
  refine FR (hz:=by seq_fits) hS₂ rfl ?_
  have hS₃:=EZ (F8 (·.pop)) hS₂ rfl
  have oth:∀b o,b≠S->s.heap.get? b=some o->((s.heap.update S (F8 (·.push F7))).update S (F8 (·.pop))).get? b=some o :=
   λb o hb e=>(Eo _ _ (Ft hb)).trans ((Eo _ _ (Ft hb)).trans e)
  refine DN ⟨Fs JZ _,Lr W (by rw[G4];omega) S hSf res items.size 0 _ _ _ rfl (EB _) ⟨EB _,by simpa using hit.at λo e=>oth I o (Ft hSI) e,qX hl λo e=>oth t o (Ft hSl) e⟩ hS₃ (Nw _) λs' acc' c' hm hS' hacc =>?_⟩
  rw[Nn hm]
  refine hR s'.heap s'.toks acc' c' (λb o hb hbI e=>hm.heap b o (λhmem =>?_) (oth b o hb e)) hS' hacc
  rcases Eg.mp hmem with e' | hmem
  ·exact hb e'
  ·exact hbI (DW.mp hmem)
 refine Lr W (by rw[G4];omega) S hSf res items.size 0 _ #[] c₀ rfl (EB _) ⟨EB _,by simpa using hit,hl⟩ hS (Nw _) λs' acc' c' hm hS' hacc =>?_
 rw[Nn hm]
 refine hR s'.heap s'.toks acc' c' (λb o hb hbI e=>hm.heap b o (λhmem =>?_) e) hS' hacc
 rcases Eg.mp hmem with e' | hmem
 ·exact hb e'
 ·exact hbI (DW.mp hmem)
theorem sH {R:List DK->DP->Prop}{I t:Addr}{items:Array DK}(hh:A.handled=none)(hit:gZ s.heap I t ((items.size:Int)-1))(hl:IsTup s.heap t items)(hne:t≠I)(hlen:items.size<=2 ^ 24)
    (h:∀(h1:Heap) (tk:Nat) (vs:List DK),vs=items.toList.reverse->(∀b o,b≠I->s.heap.get? b=some o->h1.get? b=some o)->R vs { s with heap:=h1,toks:=tk }) :
    Ee (Es prog w) A (collect (.ref I)) R E s:=by
  obtain ⟨oi,hoi,_⟩:=id hit
  obtain ⟨ol,hol,_⟩:=id hl
  unfold collect
  refine DH (Jj (ES PySem.F.entry_proto_collect ?_))
  rw[EM PySem.F.plain_proto_collect _]
  show Ee _ A.in1 (newList [] >>= λl=>again (.builtin "list.__iadd__" ⟨[l,.ref I],[]⟩)) _ _ s
  refine DH (E7 ?_)
  refine DN ⟨Fs Kk _,ES PySem.F.entry_list_iadd ?_⟩
  rw[EM Kk _]
  show Ee _ A.in1 (Fy (.ref s.heap.objs.size) (.ref I) (.ref s.heap.objs.size)) _ _ { s with heap:=s.heap.push { cls :=.type "list",data :=.seq ([]:List DK).toArray } }
  have hS0:(s.heap.push { cls :=.type "list",data :=.seq ([]:List DK).toArray }).get? s.heap.objs.size=some { cls :=.type "list",data :=.seq #[] 0 }:=D2 _ rfl
  refine wc (A:=A) (R:=λres s'=>match res with
      | .ok (.ret v)=>Ee (Es prog w) A (match v with | .ref a=>(do match (← load a).data with | .seq xs _=>pure xs.toList | _=>unsupported "internal:collect") | _=>unsupported "internal:collect") R E s'
      | .ok _=>False
      | .error e=>E e s') (s:={ s with heap:=s.heap.push { cls :=.type "list",data :=.seq ([]:List DK).toArray } }) hh (hit.at λo e=>DJ _ e) (qX hl λo e=>DJ _ e) hne hlen s.heap.objs.size (Ft (Ed (D4 hoi))) (Ft (Ed (D4 hol))) (.ref s.heap.objs.size) 0 hS0 λh' tk acc' c' kk hS' it =>?_
  show Ee _ A (load s.heap.objs.size >>= _) _ _ { s with heap:=h',toks:=tk }
  refine DH (Mo hS' ?_)
  refine DN (h h' tk acc'.toList ?_ λb o hb e=>kk b o (Ed (D4 e)) hb (DJ _ e))
  refine Je λj =>?_
  rw[D7]
  have h1:acc'.size=items.toList.length:=it.1
  by_cases hj:j<items.toList.length
  · obtain ⟨v,hv⟩:∃v,acc'[j]? = some v:=⟨acc'[j]'(by lia),Ep _⟩
    have:=it.2 j v hv
    dsimp only at this
    rw[<- D7] at this
    rw[hv,List.getElem?_reverse hj, <- this]
    rfl
  · rw[G9 (by lia),Fp (by rw[HW];lia)]
theorem kr (I t:Addr)(items:Array DK)(hne:t≠I)(hn:items.size<=1000) :
  Meets (Builtin.«tuple.__new__» ⟨[.type "tuple",.ref I],[]⟩)
   (λA R s=>A.handled=none/\gZ s.heap I t ((items.size:Int)-1)/\IsTup s.heap t items/\∀(h':Heap) (tk:Nat),(∀b o',b≠I->s.heap.get? b=some o'->h'.get? b=some o')->R (.ok (.ret (.ref h'.objs.size))) { s with heap:=h'.push { cls :=.type "tuple",data :=.seq items.toList.reverse.toArray },toks:=tk }) :=
 .of_wp λprog w A R s h=>by
  obtain ⟨hp,g,d,tk,os⟩:=s;obtain ⟨hh,hr,ht,h⟩:=h
  have hsub:=sub_tuple_self
  have hinit:=init_tuple_lookup
  have hmh:=madeHere_tuple
  have hT:Shared.TypeIs ⟨hp,g,d,tk,os⟩ (.ref I) "reversed" := gZ.typeIs (s:=⟨hp,g,d,tk,os⟩) hr
  wp_walk using Hz hT,sH (by simpa using hh) hr ht hne (by lia)
  rintro h' tk' vs rfl hk
  show Ee _ _ (Builtin.Tuple.tupleExact items.toList.reverse.toArray >>= λv=>ret v) _ _ _
  unfold Builtin.Tuple.tupleExact
  refine DH (E7 ?_ (by show items.toList.reverse.toArray.size<=D3;rw[DR,HW,DY];exact small hn))
  exact DN ⟨_,rfl,h h' tk' hk⟩
end
end L2.RvT
namespace L2
open PySem PySem.Spec PyProof.Rows
section
variable  {X:Cx}
theorem we:Ff "tuple" = some (.type "tuple"):=by decide +kernel
def Ai (K:DM)(te:TE):TE:=λσ H Q=>te σ H λx H1=>∃l xs,x = .ref l/\SqT K H1 l xs/\xs.length<=1000/\∀p,H1 p=none->Q (.ref p) (upd H1 p (.tup xs.reverse))
theorem wg {e:Expr}{te:TE}{p1 p2 pos1 pos2:Pos}(hh:X.A.handled=none)(hg1:Gl X "tuple")(hm1:X.mg "tuple" = none)(hg2:Gl X "reversed")(hm2:X.mg "reversed" = none)(he:PE X e te)
  (hs1:EL [Expr.Call (.Name "reversed" p2) [e] [] pos2] X.env=(false,eval (.Call (.Name "reversed" p2) [e] [] pos2) X.env) :: EL [] X.env:=by rfl) (hp1:(Ib pos1 (EL [] X.env)).any (·.1)=false:=by rfl)
  (hs2:EL [e] X.env=(false,eval e X.env) :: EL [] X.env:=by rfl) (hp2:(Ib pos2 (EL [] X.env)).any (·.1)=false:=by rfl) :
  PE X (.Call (.Name "tuple" p1) [.Call (.Name "reversed" p2) [e] [] pos2] [] pos1) (Ai X.K te):=by
 intro pins s σ H Q I h
 refine GN (d9 I hg1 hm1 we ?_ (by decide) (by decide))
 refine FO ?_ hs1 hp1
 rw[hs1]
 show Ee _ _ (spliced ((false,eval (.Call (.Name "reversed" p2) [e] [] pos2) X.env) :: Ib pos1 (EL [] X.env))) _ _ s
 refine LL ?_
 refine GN (d9 I hg2 hm2 qR ?_ (by decide) (by decide))
 refine FO (thn ((aa he ae hs2) pos2 pins s σ H (λvs H1=>match vs with | [x]=>∃l xs,x = .ref l/\SqT X.K H1 l xs/\xs.length<=1000/\∀p,H1 p=none->Q (.ref p) (upd H1 p (.tup xs.reverse)) | _=>False) I ?_) λus s1 ⟨vs,H1,I1,r1,q1⟩ =>?_) hs2 hp2
 ·exact h
 ·match vs,q1 with
  | [x],q1 =>
  obtain ⟨t,xs,rfl,hx,h1000,q⟩:=q1
  obtain ⟨u,rfl,ru⟩:=vals1 r1
  cases (show u=D8 t from ru)
  obtain ⟨its,r,ht,hz⟩:=I1.tuple hx
  have ll:=r.length
  have lz:its.toArray.size=xs.length:=by rw[DR];exact ll.symm
  refine RvT.yg ht (by rw[lz];omega) ?_
  refine L9 ?_
  obtain ⟨ot,hot,_⟩:=id ht
  refine Lb PySem.F.called_tuple (by decide) (PySem.F.typeCall_tuple_1 _) (PySem.F.newCall_tuple_1 _) (λobj=>JN obj _) PySem.F.entry_tuple_new
   (RvT.kr s1.heap.objs.size t its.toArray (Ed (D4 hot)) (by rw[lz];exact h1000)) ⟨by simpa using hh,⟨_,D2 _ rfl,rfl,rfl⟩,RvT.qX ht (λo e=>DJ _ e),λh' tk k=>⟨⟨_,D2 _ rfl,rfl⟩,?_⟩⟩
  have I2:Inv X pins σ H1 { s1 with heap:=h',toks:=tk }:=I1.kept λb o e=>k b o (Ed (D4 e)) (DJ _ e)
  exact ⟨.ref h'.objs.size,_,I2.laid (o :=.tup xs.reverse) (λb ob q=>DJ _ q) (DS _) ⟨by rw[HW];exact small h1000,its.reverse,qS r,d7.new _ _⟩,rfl,q _ (I2.hok.fresh (DS _))⟩
theorem Aj {k:Nat}(hr:cB k X.A):OpR X (Fl .Eq) (λx y H Q=>∃(a b:Addr) (ns ms:List Int),x = .ref a/\y = .ref b/\SqL X.K H a (ns.map V.int)/\SqL X.K H b (ms.map V.int)/\Q (.bl (decide (ns=ms))) H):=by
 intro pins s σ H x y v u Q I rx ry h
 obtain ⟨a,b,ns,ms,rfl,rfl,h1,h2,q⟩:=h
 cases (show v=D8 a from rx)
 cases (show u=D8 b from ry)
 obtain ⟨its,r1,⟨⟨c1,d1,da1,sl1⟩,n1,e1,k1,_,k3⟩,_⟩:=I.list h1
 obtain ⟨its2,r2,⟨⟨c2,d2,da2,sl2⟩,n2,e2,g1,_,g3⟩,_⟩:=I.list h2
 simp only at k1 k3 g1 g3
 subst k1 k3 g1 g3
 have l1:=r1.length
 have l2:=r2.length
 rw[DI] at l1 l2
 have hu:=hr.un
 have hu1:X.A.units<cLine:=by lia
 by_cases hl:ns.length=ms.length
 ·refine GD (op :=.Eq) ⟨_,e1,rfl⟩ ⟨_,e2,rfl⟩ Lw K5 (Ky _ _) (SeqAt.list_eqAt a b its.toArray its2.toArray n1 n2 d1 d2 sl1 sl2 (by rw[DR,DR];lia) (Ce ns ms)) ⟨e1,e2,?_,?_⟩ hu1
  ·intro j h1 h2
   obtain ⟨t1,g1⟩:=intAt r1 h1
   obtain ⟨t2,g2⟩:=intAt r2 h2
   rw[g1,g2]
   exact GJ _ t1 _ t2
  ·have ez:its.toArray.size=ns.length:=by rw[DR];lia
   rw[ez,xY hl]
   exact ⟨(λz=>nomatch z),⟨.bl _,H,I,rfl,q⟩⟩
 ·have ne:ns≠ms:=λz=>hl (by rw[z])
  rw[decide_eq_false ne] at q
  refine GD (op :=.Eq) ⟨_,e1,rfl⟩ ⟨_,e2,rfl⟩ Lw K5 (Ky _ _) (Kl a b its.toArray its2.toArray n1 n2 d1 d2 sl1 sl2 (by simp;lia)) ⟨e1,e2,?_⟩ hu1
  exact ⟨(λz=>nomatch z),⟨.bl false,H,I,rfl,q⟩⟩
theorem Cm {k:Nat}(hr:cB k X.A):OpR X (Fl .Eq) (λx y H Q=>∃a b xs ys,x = .ref a/\y = .ref b/\SqL X.K H a xs/\SqL X.K H b ys/\((xs.length≠ys.length/\Q (.bl false) H)\/(Paired (cT X.K H 20) xs ys/\Q (.bl true) H))):=by
 intro pins s σ H x y v u Q I rx ry h
 obtain ⟨a,b,xs,ys,rfl,rfl,h1,h2,h3⟩:=h
 rcases h3 with ⟨ne,q⟩ | ⟨p,q⟩
 ·cases (show v=D8 a from rx)
  cases (show u=D8 b from ry)
  obtain ⟨its,r1,⟨⟨c1,d1,da1,sl1⟩,n1,e1,k1,_,k3⟩,_⟩:=I.list h1
  obtain ⟨its2,r2,⟨⟨c2,d2,da2,sl2⟩,n2,e2,g1,_,g3⟩,_⟩:=I.list h2
  simp only at k1 k3 g1 g3
  subst k1 k3 g1 g3
  have l1:=r1.length
  have l2:=r2.length
  have hu:=hr.un
  have hu1:X.A.units<cLine:=by lia
  refine GD (op :=.Eq) ⟨_,e1,rfl⟩ ⟨_,e2,rfl⟩ Lw K5 (Ky _ _) (Kl a b its.toArray its2.toArray n1 n2 d1 d2 sl1 sl2 (by simp;lia)) ⟨e1,e2,?_⟩ hu1
  exact ⟨(λz=>nomatch z),⟨.bl false,H,I,rfl,q⟩⟩
 ·exact Af hr pins s σ H _ _ v u Q I rx ry ⟨a,b,xs,ys,rfl,rfl,h1,h2,p,q⟩
theorem gP:SlR X (λx lo hi H Q=>∃a xs,x = .ref a/\H a=some (.tup xs)/\∀p2 H2,aA H H2->H2 p2=some (.tup (eQ xs lo hi))->Q (.ref p2) H2):=by
 intro pins s σ H x v vl vu lo hi sl Q I rx hs pl pu h
 obtain ⟨a,xs,rfl,ep,key⟩:=h
 refine zW pins s σ H _ v vl vu lo hi sl Q I rx hs pl pu ⟨a,xs,rfl,SqT.of ep,λz=>key a H (aA.refl _) ?_,λ_ p2 hp2=>key p2 _ (af hp2 _) ag⟩
 unfold eQ
 rw[z.1,z.2,Iw,Mr,List.take_length]
 exact ep
theorem i6:OpR X (binaryOp .Add) (λx y H Q=>∃a b xs ys,x = .ref a/\y = .ref b/\H a=some (.tup xs)/\H b=some (.tup ys)/\xs.length+ys.length<=D3/\∀p H',aA H H'->H' p=some (.tup (xs++ys))->Q (.ref p) H'):=by
 intro pins s σ H x y v u Q I rx ry h
 obtain ⟨a,b,xs,ys,rfl,rfl,ha,hb,hz,q⟩:=h
 exact x9 pins s σ H _ _ v u Q I rx ry (uD.one ha hb hz q)
end
section
variable  {X:Cx}
theorem pM {K:DM}(h:X.K=K:=by rfl):bH X (.builtin "isinstance") (λxs H Q=>∃x T t b,xs=[x,.ty T]/\iJ K H x t/\PySem.W.kitOne K t (.type T)=some b/\Q (.bl b) H):=by subst h;exact dY
end
section
variable  {X:Cx}
theorem sI (hh:X.A.handled=none):bH X (.type "list") (λxs H Q=>∃(a:Addr) (n:Nat),xs=[.ref a]/\H a=some (.rng 0 n)/\n<=1000/\∀l,H l=none->Q (.ref l) (upd H l (.lst ((EU n).map λi=>V.int (i:Nat))))):=by
 intro pins s σ H xs us Q I r h
 obtain ⟨a,n,rfl,ha,hn,q⟩:=h
 obtain ⟨u,rfl,ru⟩:=vals1 r
 cases (show u=D8 a from ru)
 obtain ⟨t,u,v,e⟩:=(show bp X.prog X.w H s.heap a (.rng 0 n) from I.hok a _ ha)
 have rs:Builtin.Range.rangeSize 0 (n:Int) 1=(n:Int):=by
  rw[rangeSize_one]
  split <;> lia
 have n24:n<=2 ^ 24:=by lia
 refine call_list_range hh e (small_one (by lia) (by lia) (by lia) (by lia)) rs n24 λh' tk acc' c' k e' it =>?_
 have hv:∀(i:Nat) (x:DK),acc'.toList[i]? = some x->∃t,x=FT i t:=λi x hx=>by
  rw[D7] at hx
  obtain ⟨t',e⟩:=it.2 i x hx
  exact ⟨t',by rw[e];simp⟩
 have rv:=sv hv
 rw[DY,it.1] at rv
 exact ⟨.ref s.heap.objs.size,_,I.laid (o :=.lst ((EU n).map λi=>V.int (i:Nat))) k (DS _) ⟨by rw[DI,GY];exact small hn,acc'.toList,c',rv,by simpa using e'⟩,rfl,q _ (I.hok.fresh (DS _))⟩
end
open PySem PySem.Spec PyProof.Rows SeqAt
theorem nI (l:Addr)(items:Array DK)(n:Nat)(dd:Option Addr)(sl:Array (Option DK))(x:DK)(e:DK->Bool)(j:Nat)(hj:j<items.size)(hit:e items[j]=true)(hno:∀m (hm:m<items.size),m<j->e items[m]=false) :
  Meets (Builtin.«tuple.index» ⟨[.ref l,x],[]⟩)
   (λA R s=>s.heap.get? l=some { cls :=.type "tuple",dict:=dd,data :=.seq items n,slots:=sl }/\(∀y,y∈items->EqAt A.in1 s y x (e y))/\R (.ok (.ret (.int j s.toks))) { s with toks:=s.toks+1 }) :=
 .of_wp λprog w A R s h=>by
  obtain ⟨hl,he,h⟩:=h
  unfold Builtin.«tuple.index»
  refine DH (Gx (a:=(D8 l,[x])) rfl ?_)
  refine DH (PyProof.Rows.tupleItemsOf_ (⟨_,hl,rfl,_,rfl⟩:IsTup s.heap l items) ?_)
  dsimp only
  refine DH (DN (DH (DN ?_)))
  rw[JP,Lg]
  refine DH (IE _ (λrest b s'=>s'=s/\b=(none,())/\∃i,rest=List.range' i (items.size-i)/\i<=j) _ ?_ ?_ _ _ ⟨rfl,rfl,0,?_,EB _⟩)
  ·rintro k rest b s' ⟨rfl,rfl,i,er,hi⟩
   rw[show items.size-i=(items.size-(i+1))+1 by lia,Kw] at er
   injection er with e1 e2
   subst e1
   have hk:k<items.size:=by lia
   rw[Ep hk]
   refine DH (he _ (Jg hk) prog w _ _ ?_)
   by_cases z:k=j
   ·subst z
    rw[hit]
    refine DH (DH (M4 (DN (DN ?_))))
    exact DN ⟨_,rfl,h⟩
   ·rw[hno k hk (by lia)]
    exact DN ⟨rfl,rfl,k+1,e2,by lia⟩
  ·rintro b s' ⟨rfl,rfl,i,er,hi⟩
   rw[show items.size-i=(items.size-(i+1))+1 by lia,Kw] at er
   cases er
  ·simp[Std.Legacy.Range.size]
section
variable  {X:Cx}
theorem wj:MtR X "tuple.index" (λx vs H Q=>∃(p:Addr) (ns:List Int) (k:Int),x = .ref p/\vs=[.int k]/\H p=some (.tup (ns.map V.int))/\k∈ns/\Q (.int (ns.idxOf k:Nat)) H):=by
 intro pins s σ H x vs v us Q I rx rv h
 obtain ⟨p,ns,k,rfl,rfl,hp,hk,q⟩:=h
 cases rx
 obtain ⟨u,rfl,⟨t,rfl⟩⟩:=vals1 rv
 obtain ⟨z,its,r,ob,e1,⟨c1,d1⟩,n,s1⟩:=(show bp X.prog X.w H s.heap p (.tup _) from I.hok p _ hp)
 have hi:Gh its ns:=intsAre_of r
 have hlen:=hi.length
 have hj:ns.idxOf k<ns.length:=GK.mpr hk
 obtain ⟨cls,dd,data,sl⟩:=ob
 simp only at c1 s1
 subst c1 s1
 refine Jz J8 ⟨_,e1,rfl⟩ PySem.F.entry_tuple_index (PySem.F.args_tuple_index_2 _ _) (nI p its.toArray n dd sl (.int k t) (isInt k) (ns.idxOf k) (by simpa [hlen] using hj) ?_ ?_) ⟨e1,λy hy=>jy hi y hy,⟨.int _,H,I.tok _,⟨_,rfl⟩,q⟩⟩
 ·show isInt k its[ns.idxOf k]=true
  rw[L4 k hi _ (by omega) hj];simpa using Jc hj
 ·intro j hjs hlt
  show isInt k its[j]=false
  rw[L4 k hi j (by simpa using hjs) (by omega)]
  simpa using sC (by omega) hlt
end
section
variable  {X:Cx}
theorem ip (hu:X.A.units+8<cLine):OpR X (Fl .NotIn) (λx y H Q=>∃(p b:Addr) (ts:List (Addr×List Int)) (m:List Int),x = .ref b/\y = .ref p/\H p=some (.tup (ts.map λt =>.ref t.1))/\(∀t∈ts,H t.1=some (.tup (t.2.map V.int)))/\H b=some (.tup (m.map V.int))/\Q (.bl (!decide (m∈ts.map (·.2)))) H):=by
 intro pins s σ H x y v u Q I rx ry h
 obtain ⟨p,b,ts,m,rfl,rfl,hp,ht,hb,q⟩:=h
 cases rx
 cases ry
 have ht':∀t∈ts,SqT X.K H t.1 (t.2.map V.int):=λt hm=>SqT.of (ht t hm)
 obtain ⟨its,r,pl,hz⟩:=I.tuple (SqT.of (K:=X.K) hp)
 have ei:=cI r
 refine Lz (cu ts m) pl (λy hy =>?_) ⟨.bl _,H,I,rfl,?_⟩
 ·have hy':y∈its:=by simpa using hy
  rw[ei] at hy'
  obtain ⟨t,hm,rfl⟩:=DZ.mp hy'
  rw[cx I ht' hm]
  exact I.eqT (by show X.A.units+1<cLine;lia) (ht' t hm) (SqT.of hb)
 ·rw[show its.toArray.any (cu ts m)=its.any (cu ts m) by simp,ei,i3 I ht' ts (λt h=>h)]
  exact q
end
section
variable  {X:Cx}
theorem boolsOf:∀{bs:List Bool} {its:List DK},Vals (bs.map V.bl) its->its=bs.map Value.bool
 | [],_,.nil=>rfl
 | b :: bs,_,.cons r t=>by rw[boolsOf t];cases (show _=Value.bool b from r);rfl
theorem wm:MtR X "list.count" (λx vs H Q=>∃(p:Addr) (bs:List Bool) (k:Bool),x = .ref p/\vs=[.bl k]/\H p=some (.lst (bs.map V.bl))/\Q (.int (bs.count k:Nat)) H):=by
 intro pins s σ H x vs v us Q I rx rv h
 obtain ⟨p,bs,k,rfl,rfl,hp,q⟩:=h
 cases rx
 obtain ⟨u,rfl,ru⟩:=vals1 rv
 cases (show u=Value.bool k from ru)
 obtain ⟨z,its,n,r,e1⟩:=(show bp X.prog X.w H s.heap p (.lst _) from I.hok p _ hp)
 have ei:=boolsOf r
 subst ei
 refine Jz Km ⟨_,e1,rfl⟩ PySem.F.entry_list_count (PySem.F.args_list_count_2 _ _) (SeqAt.list_countAt p _ n _ _ (.bool k) (isBoolOf k)) ⟨e1,λy hy =>?_,?_⟩
 ·have hy':y∈bs.map Value.bool:=by simpa using hy
  obtain ⟨b,_,rfl⟩:=DZ.mp hy'
  exact Li b k
 ·have:(bs.map Value.bool).toArray.toList.countP (isBoolOf k)=bs.count k:=by
   rw[show (bs.map Value.bool).toArray.toList=bs.map Value.bool from rfl,MR]
   rfl
  rw[this]
  exact ⟨.int _,H,I.tok _,⟨_,rfl⟩,q⟩
def Dt:V->List V->Hp->VK->Prop:=λx vs H Q=>∃(l:Addr) (ns:List Int) (k:Int),x = .ref l/\vs=[.int k]/\H l=some (.lst (ns.map V.int))/\k∈ns/\Q .non (upd H l (.lst ((ns.erase k).map V.int)))
theorem mi:∀{xs:List V} {its:List DK} (j:Nat),Vals xs its->Vals (xs.eraseIdx j) (its.eraseIdx j)
 | [],_,_,.nil =>.nil
 | _ :: _,_,0,.cons _ t=>t
 | _ :: _,_,j+1,.cons r t =>.cons r (mi j t)
theorem mj:∀(ns:List Int) (j:Nat),(ns.eraseIdx j).map V.int=(ns.map V.int).eraseIdx j
 | [],_=>rfl
 | _ :: _,0=>rfl
 | n :: ns,j+1=>by show V.int n :: _=V.int n :: _;rw[mj ns j]
theorem sJ:MtM X "list.remove" Dt:=by
 intro pins s σ H x vs v us Q I rx rv h
 obtain ⟨l,ns,k,rfl,rfl,hH,hm,q⟩:=h
 cases rx
 obtain ⟨ub,rfl,⟨tk,rfl⟩⟩:=vals1 rv
 obtain ⟨z,its,n,r,hl,e⟩:=I.zv hH
 have hi:Gh its ns:=intsAre_of r
 obtain ⟨j,j1,j2,j3⟩:=ik hm
 have li:its.length=ns.length:=by have:=r.length;rw[DI] at this;exact this.symm
 have lt:j<ns.length:=(DQ.mp j1).1
 refine Jz IS ⟨_,e,rfl⟩ JY (JM _ _) (Rem.uz l its.toArray n (.int k tk) (isInt k) j (by rw[DR];lia) ?_ ?_ (by rw[DR,li];rw[DI] at z;lia)) ⟨⟨e,?_⟩,?_⟩
 ·have:=L4 k hi j (by lia) lt
  have e2:=(DQ.mp j1).2
  rw[e2] at this
  simpa using this
 ·intro i hi' hij
  have h1:i<its.length:=by simpa using hi'
  have:=L4 k hi i h1 (by lia)
  have ne:=j2 i hij ns[i] (DL (by lia))
  rw[beq_false_of_ne ne] at this
  simpa using this
 ·exact λy hy=>jy hi y hy
 ·have le:(ns.erase k).length<=ns.length:=List.length_erase_le
  refine ⟨.non,_,I.zu (its':=its.eraseIdx j) hH e ?_ (by rw[j3,show (ns.eraseIdx j).map V.int=(ns.map V.int).eraseIdx j from mj ns j];exact mi j r) (by rw[DI] at z ⊢;lia),rfl,q⟩
  apply IA.mp
  unfold Array.eraseIdxIfInBounds
  rw[dif_pos (by rw[DR];lia)]
  simp
end
open PySem PySem.Spec PySem.W PyProof.Rows
theorem bp.ex {P:D9}{w:EE}{H:Hp}{h:Heap}{a:Addr}{o:HO}(x:bp P w H h a o):∃u,h.get? a=some u:=by
 cases o with
 | lst xs=>obtain ⟨_,_,_,_,e⟩:=x;exact ⟨_,e⟩
 | tup xs=>obtain ⟨_,_,_,_,e,_⟩:=x;exact ⟨_,e⟩
 | dK kvs=>obtain ⟨_,_,_,_,o,_,_,e,_⟩:=x;exact ⟨_,e⟩
 | dT kvs=>obtain ⟨_,_,_,_,o,_,_,e,_⟩:=x;exact ⟨_,e⟩
 | set S n=>obtain ⟨o,_,_,_,e,_⟩:=x;exact ⟨_,e⟩
 | ins C dx fs=>obtain ⟨_,_,_,e,_⟩:=x;exact ⟨_,e⟩
 | own y=>obtain ⟨_,e⟩:=x;exact ⟨_,e⟩
 | xd fs=>obtain ⟨_,⟨_,_,_,e,_⟩,_⟩:=x;exact ⟨_,e⟩
 | rng lo hi=>obtain ⟨_,_,_,e⟩:=x;exact ⟨_,e⟩
 | frz ob u=>obtain ⟨e,_⟩:=x;exact ⟨_,e⟩
 | tbl ps=>exact ⟨_,show h.get? a=some _ from x⟩
 | met f y=>exact ⟨_,show h.get? a=some _ from x⟩
 | ext φ=>obtain ⟨_,⟨_,e⟩,_⟩:=x;exact ⟨_,e⟩
theorem HOk.noth {P:D9}{w:EE}{H:Hp}{h:Heap}{a:Addr}(x:HOk P w H h)(e:h.get? a=none):H a=none:=by
 cases q:H a with
 | none=>rfl
 | some o =>
  obtain ⟨u,z⟩:=(x a o q).ex
  rw[e] at z;cases z
theorem HOk.hide {P:D9}{w:EE}{H:Hp}{h:Heap}{l:List Addr}(x:HOk P w H h)(n:∀b∈l,H b=none):HOk P w H (hideAll h l):=λa o e =>
 (x a o e).stay (λb u hb q=>Kq _ q λm=>by
  have z:=n b m
  rcases hb with rfl | hb
  ·rw[e] at z;cases z
  ·rw[hb] at z;cases z) (λ_ q=>q) λ_ _ q=>q
structure Fly (P:D9)(w:EE)(outer:List Env)(H H':Hp)(h:Heap)(B:Heap)(ea:Addr)(cls a0:DK)(h':Heap):Prop where
 fl:Heap.FlyingW B outer ea cls a0 h'
 un:Un (frs outer) [] H H' h h'
 ok:HOk P w H' B
 cov:∀b o,h.get? b=some o->H b=none->b∉frs outer->B.get? b=some o
 all:∀b o,h.get? b=some o->b∉frs outer->∃u,B.get? b=some u
section
variable  {P:D9}{w:EE}{outer:List Env}{H H':Hp}{h B h' h2:Heap}{ea:Addr}{cls a0:DK}
theorem Fly.no (F:Fly P w outer H H' h B ea cls a0 h'):H' ea=none:=F.ok.noth F.fl.2.1
theorem Fly.hok (F:Fly P w outer H H' h B ea cls a0 h'):HOk P w H' h':=F.ok.kept F.fl.1
theorem Fly.new (F:Fly P w outer H H' h B ea cls a0 h'):h.get? ea=none:=by
 cases q:h.get? ea with
 | none=>rfl
 | some o =>
  by_cases m:ea∈frs outer
  ·obtain ⟨_,o',ho',hd⟩:=F.fl.2.2.1.mem m
   obtain ⟨oe,vs,he,_,hde,_⟩:=F.fl.first
   rw[he] at ho';cases ho'
   exact absurd hde (hd vs)
  ·obtain ⟨u,z⟩:=F.all ea o q m
   rw[F.fl.2.1] at z;cases z
theorem Fly.step {l:List Env}(F:Fly P w outer H H' h B ea cls a0 h')(f2:Heap.FlyingW B l ea cls a0 h2)(hs:∀b∈frs outer,∀o,h'.get? b=some o->∃sl,h2.get? b=some { o with slots:=sl }):Un (frs outer) [] H H' h h2 where
 keep:=λb o q n m _=>f2.1 _ _ (F.cov b o q n m)
 slot:=λb o q n m x=>by
  obtain ⟨sl,e⟩:=F.un.slot b o q n m x
  obtain ⟨sl',e'⟩:=hs b m _ e
  exact ⟨sl',e'⟩
 free:=F.un.free
 there:=λb o q x=>by
  by_cases m:b∈frs outer
  ·obtain ⟨o',e⟩:=F.un.there b o q x
   obtain ⟨sl',e'⟩:=hs b m _ e
   exact ⟨_,e'⟩
  ·obtain ⟨u,e⟩:=F.all b o q m
   exact ⟨u,f2.1 _ _ e⟩
 tups:=F.un.tups
 frzs:=F.un.frzs
 tbls:=F.un.tbls
theorem Fly.slots (F:Fly P w outer H H' h B ea cls a0 h')(k:h'.UpToSlots h2):∀b∈frs outer,∀o,h'.get? b=some o->∃sl,h2.get? b=some { o with slots:=sl }:=λb m o e=>by
 obtain ⟨_,o',ho',hd⟩:=F.fl.2.2.1.mem m
 rw[e] at ho';cases ho'
 exact k b o e hd
theorem Fly.on (F:Fly P w outer H H' h B ea cls a0 h')(f2:Heap.FlyingW B outer ea cls a0 h2)(k:h'.UpToSlots h2):Fly P w outer H H' h B ea cls a0 h2 :=
 ⟨f2,F.step f2 (F.slots k),F.ok,F.cov,F.all⟩
end
def CX1 (P:D9)(w:EE):CXT:=λouter H s E e s'=>∃ea cls a0 B H',e = .ref ea/\s'.os=s.os/\AllBare s'.gens/\Fly P w outer H H' s.heap B ea cls a0 s'.heap/\E cls none H'
section
variable  {X:Cx}{pins:List (Addr×Obj)}{σ:St}{H H':Hp}{s:DP}{B h':Heap}{ea:Addr}{cls a0:DK}
theorem Inv.land {s':DP}(I:Inv X pins σ H s)(os:s'.os=s.os)(g:AllBare s'.gens)(F:Fly X.prog X.w X.stack H H' s.heap B ea cls a0 s'.heap):Inv X pins σ H' s' :=
 I.AX os F.un F.hok g (λb z=>absurd z (by simp))
theorem Fly.out (I:Inv X pins σ H s)(hst:X.stack=X.env :: X.outer)(hfr:X.env.frame=some X.env.locals)(hex:X.ex=[])(F:Fly X.prog X.w X.stack H H' s.heap B ea cls a0 h')(f2:Heap.FlyingW B X.outer ea cls a0 h2)(k:h'.UpToSlots h2) :
  Fly X.prog X.w X.outer X.H₀ H' X.s₀.heap B ea cls a0 h2:=by
 have nL:∀b o,X.s₀.heap.get? b=some o->b≠X.env.locals:=λb o q z=>absurd (Ec (D4 q) (z ▸ I.ok.above)) (Fe _)
 have nst:∀b,b∉X.fs->b≠X.env.locals->b∉frs X.stack:=λb n1 n2 m=>by
  rw[hst] at m
  unfold frs at m
  rw[GF,hfr] at m
  rcases Eg.mp m with z | z
  ·exact n2 z
  ·exact n1 z
 have ust:=F.step f2 (F.slots k)
 have sub:∀b∈X.fs,b∈frs X.stack:=λb m=>by
  rw[hst];unfold frs;rw[GF,hfr];exact Em _ m
 have nx:∀b,b∉X.ex:=λb m=>by rw[hex] at m;cases m
 refine ⟨f2,⟨λb o q n m _ =>?_,λb o q n m _ =>?_,λb o q n _ =>?_,λb o q _ =>?_,λb xs q=>F.un.tups b xs (I.base.tups b xs q),λb o u q=>F.un.frzs b o u (I.base.frzs b o u q),λb ps q =>?_⟩,F.ok,λb o q n m =>?_,λb o q m =>?_⟩
 ·exact ust.keep b o (I.base.keep b o q n m (nx b)) (I.base.free b o q n (nx b)) (nst b m (nL b o q)) (by simp)
 ·obtain ⟨sl,e⟩:=I.base.slot b o q n m (nx b)
  obtain ⟨sl',e'⟩:=ust.slot b _ e (I.base.free b o q n (nx b)) (sub b m) (by simp)
  exact ⟨sl',e'⟩
 ·obtain ⟨o',e⟩:=I.base.there b o q (nx b)
  exact F.un.free b o' e (I.base.free b o q n (nx b)) (by simp)
 ·obtain ⟨o',e⟩:=I.base.there b o q (nx b)
  exact ust.there b o' e (by simp)
 ·obtain ⟨m1,e1⟩:=I.base.tbls b ps q
  obtain ⟨m2,e2⟩:=F.un.tbls b _ e1
  exact ⟨m1++m2,by rw[e2,LK]⟩
 ·exact F.cov b o (I.base.keep b o q n m (nx b)) (I.base.free b o q n (nx b)) (nst b m (nL b o q))
 ·obtain ⟨o',e⟩:=I.base.there b o q (nx b)
  exact F.all b o' e (nst b m (nL b o q))
theorem Fly.pass {M:Model}{E:DK->DP->Prop}{Q:Unit->DP->Prop}{s':DP}(I:Inv X pins σ H s)(hst:X.stack=X.env :: X.outer)(hfr:X.env.frame=some X.env.locals)(hex:X.ex=[])
  (F:Fly X.prog X.w X.stack H H' s.heap B ea cls a0 s'.heap) (hQ:∀h2,Fly X.prog X.w X.outer X.H₀ H' X.s₀.heap B ea cls a0 h2->Q () { s' with heap:=h2 }):Ee M X.A (leaving X.env (.ref ea)) Q E s':=by
 have fl:=F.fl
 rw[hst] at fl
 exact wpAny_leaves_onW (by rw[I.ok.frames,hst]) hfr fl λh2 f2 k=>hQ h2 (Fly.out I hst hfr hex F f2 k)
theorem Fly.made {M:Model}{E:DK->DP->Prop}{Q:Unit->DP->Prop}{s':DP}{vs:List DK}(I:Inv X pins σ H s)(hst:X.stack=X.env :: X.outer)(hfr:X.env.frame=some X.env.locals)(hex:X.ex=[])
  (hx:Heap.MadeExcOf s.heap s'.heap ea cls vs) (hQ:∀h2 B a0,Fly X.prog X.w X.outer X.H₀ H X.s₀.heap B ea cls a0 h2->Q () { s' with heap:=h2 }):Ee M X.A (leaving X.env (.ref ea)) Q E s':=by
 have ff:=I.stack
 have hin:∀env∈X.stack,∀b,env.frame=some b->b∈frs X.stack:=λenv he b hb=>Ig.mpr ⟨env,he,hb⟩
 have ff':=funFrames_hide ff hin
 have fh:∀b∈frs X.stack,H b=none:=I.oZ
 have F0:∀h2 t,Heap.FlyingW (hideAll s.heap (frs X.stack)) X.outer ea cls (.ref t) h2->s'.heap.UpToSlots h2->Fly X.prog X.w X.outer X.H₀ H X.s₀.heap (hideAll s.heap (frs X.stack)) ea cls (.ref t) h2:=λh2 t f2 k=>by
  have nL:∀b o,X.s₀.heap.get? b=some o->b≠X.env.locals:=λb o q z=>absurd (Ec (D4 q) (z ▸ I.ok.above)) (Fe _)
  have nst:∀b,b∉X.fs->b≠X.env.locals->b∉frs X.stack:=λb n1 n2 m=>by
   rw[hst] at m
   unfold frs at m
   rw[GF,hfr] at m
   rcases Eg.mp m with z | z
   ·exact n2 z
   ·exact n1 z
  have sub:∀b∈X.fs,b∈frs X.stack:=λb m=>by
   rw[hst];unfold frs;rw[GF,hfr];exact Em _ m
  have nx:∀b,b∉X.ex:=λb m=>by rw[hex] at m;cases m
  have sl:∀b∈frs X.stack,∀o,s.heap.get? b=some o->∃sl,h2.get? b=some { o with slots:=sl }:=λb m o e=>by
   obtain ⟨_,o',ho',hd⟩:=ff.mem m
   rw[e] at ho';cases ho'
   exact k b o (hx.keeps _ _ e) hd
  refine ⟨f2,⟨λb o q n m _ =>?_,λb o q n m _ =>?_,λb o q n _=>I.base.free b o q n (nx b),λb o q _ =>?_,I.base.tups,I.base.frzs,I.base.tbls⟩,I.hok.hide fh,λb o q n m =>?_,λb o q m =>?_⟩
  ·exact f2.1 _ _ (Kq _ (I.base.keep b o q n m (nx b)) (nst b m (nL b o q)))
  ·obtain ⟨s1,e⟩:=I.base.slot b o q n m (nx b)
   obtain ⟨s2,e'⟩:=sl b (sub b m) _ e
   exact ⟨s2,e'⟩
  ·obtain ⟨o',e⟩:=I.base.there b o q (nx b)
   by_cases m:b∈frs X.stack
   ·obtain ⟨s2,e'⟩:=sl b m _ e
    exact ⟨_,e'⟩
   ·exact ⟨o',f2.1 _ _ (Kq _ e m)⟩
  ·exact Kq _ (I.base.keep b o q n m (nx b)) (nst b m (nL b o q))
  ·obtain ⟨o',e⟩:=I.base.there b o q (nx b)
   exact ⟨o',Kq _ e (nst b m (nL b o q))⟩
 rw[hst] at ff'
 refine wpAny_leaves_madeW (base:=hideAll s.heap (frs (X.env :: X.outer))) (by rw[I.ok.frames,hst]) hfr (λb o q=>of_hideAll _ q) ff' hx λh2 t f2 _ _ k =>?_
 rw[<- hst] at f2
 exact hQ h2 _ _ (F0 h2 t f2 k)
end
theorem Fun.okX {P:D9}{w:EE}{K:DM}{mg:Str->Option DK}{base:Heap}{x qual:Str}{st:Stmt}{f:Addr}{fd:E4}{N ps:List Str}{k:Nat}{sp:Sp}(F:Fun K x qual st f fd)(S:aK N ps (ak st))(len:∀vs H Q E,sp vs H Q E->vs.length=ps.length)
  (hb:∀(cdv:DK) (A:EV) (outer:List Env) (s:DP) (H:Hp) (vs:List V) (Q:VK) (E:XK),cB k (A.deeper (envOfC qual (ak st) s.heap.objs.size f cdv))->sp vs H Q E →
   ∃t,PSs (kj (CX1 P w) P w K mg base N qual (ak st) f cdv A outer s H E) (ck st) t/\t { nx:=λ_ H'=>Q .non H',rt:=Q } (start N vs) H):bG P w K mg base (CX1 P w) (k+1) f fd ps sp:=by
 obtain ⟨oc,od,kV,doc,pm,an,cdv,ct,osl,rfl,lk,hcd⟩:=F.ex
 exact AY lk hcd S len λA outer s H vs Q E hr hsp=>hb cdv A outer s H vs Q E hr hsp
structure qY (P:D9)(w:EE)(K:DM)(mg:Str->Option DK)(base:Heap)(k:Nat)(x:Str)(ps:List Str)(sp:Sp):Prop where
 ex:∃f fd,bG P w K mg base (CX1 P w) k f fd ps sp/\mg x=some (.ref f)/\PySem.W.keepIn K (.ref f)=true/\Binds K fd ps []
theorem qY.calm {P:D9}{w:EE}{K:DM}{mg:Str->Option DK}{base:Heap}{k:Nat}{x:Str}{ps:List Str}{sp sp':Sp}(c:qY P w K mg base k x ps sp)(h:∀vs H Q E,sp' vs H Q E->sp vs H Q E0):Cal P w K mg base k x ps sp':=by
 obtain ⟨f,fd,F,m,kp,b⟩:=c.ex
 refine ⟨f,fd,⟨λvs H Q E q=>F.len vs H Q E0 (h _ _ _ _ q),λA outer s H args us vs Q E hr he hb hv hs=>HS (F.run A outer s H args us vs Q E0 hr he hb hv (h _ _ _ _ hs)) λr s' z =>?_⟩,m,kp,b⟩
 cases r with
 | error e =>
  obtain ⟨_,_,_,_,_,_,_,_,_,z⟩:=z
  exact z.elim
 | ok fl=>cases fl <;> exact z
section
variable  {P:D9}{w:EE}{K:DM}{mg:Str->Option DK}{base:Heap}{N:List Str}{qual:Str}{sc:Scope}{f:Addr}{cdv:DK}{A:EV}{outer:List Env}{s₀:DP}{H₀:Hp}{E:XK}
theorem Du:Passes (CX1 P w) (kj (CX1 P w) P w K mg base N qual sc f cdv A outer s₀ H₀ E) E:=λpins σ H s e s' I h=>by
 obtain ⟨ea,cls,a0,B,H2,rfl,os,g,F,q⟩:=h
 exact Fly.pass I rfl rfl rfl F λh2 F2=>⟨ea,cls,a0,B,H2,rfl,os.trans I.os,g,F2,q⟩
def Dv (X:Cx)(E:XK):Prop:=∀(pins:List (Addr×Obj)) (σ:St) (H:Hp) (s:DP) (h':Heap) (ea:Addr) (cls:DK) (vs:List DK),Inv X pins σ H s->Heap.MadeExcOf s.heap h' ea cls vs->E cls none H->X.xe (.ref ea) { s with heap:=h' }
theorem Dw:Dv (kj (CX1 P w) P w K mg base N qual sc f cdv A outer s₀ H₀ E) E:=λpins σ H s h' ea cls vs I hx q=>by
 exact Fly.made (s':={ s with heap:=h' }) I rfl rfl rfl hx λh2 B a0 F2=>⟨ea,cls,a0,B,H,rfl,I.os,I.bare,F2,q⟩
end
abbrev yh:List DK:=[.type "ValueError",.type "Exception",.type "BaseException",.type "object"]
structure ExC (K:DM)(mg:Str->Option DK)(x:Str)(C:Addr):Prop where
 ex:excIn K C yh "ValueError.__new__" = true
 mg:mg x=some (.ref C)
theorem Cn {K:DM}{h:Heap}{C:Addr}{bs:List DK}{nid:String}(X:K.In h)(q:excIn K C bs nid=true) :
  ∃bm N nm q bs' hd sn sub ab col dd k0 k1 k2 k3 k5 mN,h.get? C=some (excClassObj nm q C N bs' bm hd sn sub ab col dd k0 k1 k2 k3 k5 nid)/\h.Ns N mN/\mN "__init__" = none/\OwnTail h bs bm:=by
 unfold excIn at q
 split at q
 ·rename_i d1 c1 sl1 l1
  split at q
  ·rename_i C1 b1 j0 j1 j2 j3 n1 j5 m1 s1
   simp only[Fo,beq_iff_eq,Bool.not_eq_true'] at q
   obtain ⟨⟨⟨⟨⟨rfl,rfl⟩,q1⟩,q2⟩,q3⟩,q4⟩:=q
   obtain ⟨a1,a2,a3,a4,a5,a6,a7,a8,a9,a10,a11⟩:=c1
   dsimp only at m1 q1 q3 q4
   subst m1 q1
   obtain ⟨ll⟩:=sl1
   simp only at s1
   subst s1
   exact ⟨b1,a4,a1,a5,a2,a6,a7,a8,a9,a10,d1,j0,j1,j2,j3,j5,_,X _ _ l1,.of_isNs (isNs_of_in X q3),nsMap_none_of_in X q3 q4,tail_of_in X q2⟩
  ·cases q
 ·cases q
def Co (E:XK)(cls:DK)(t:TA):TS:=λ_ σ H=>t σ H λvs H1=>vs.length<=D3/\E cls none H1
theorem yi {X:Cx}{E:XK}{C:Addr}{x:Str}{e:Expr}{es:List Expr}{t:TA}{np cpos pos:Pos}(O:Dv X E)(hc:ExC X.K X.mg x C)(hh:X.A.handled=none)(hg:Gl X x)(ha:PA X (e :: es) t)
  (hdb:(x == ("__debug__" : Str))=false:=by decide) (he:EL (e :: es) X.env=(false,eval e X.env) :: EL es X.env:=by rfl) (hpl:(Ib cpos (EL es X.env)).any (·.1)=false:=by rfl) :
  PS X (.Raise (some (.Call (.Name x np) (e :: es) [] cpos)) none pos) (Co E (.ref C) t):=by
 intro pins s σ H D I h
 obtain ⟨bm,N,nm,q,bs',hd,sn,sub,ab,col,dd,k0,k1,k2,k3,k5,mN,hC,hN,hni,T⟩:=Cn I.mod.kin hc.ex
 have hpl':(Ib cpos (EL (e :: es) X.env)).any (·.1)=false:=by
  rw[he]
  show (false || (Ib cpos (EL es X.env)).any (·.1))=false
  rw[hpl];rfl
 refine wpAny_Raise_call_subT (nm:=nm) (q:=q) (N:=N) (bs:=bs') (bm:=bm) (hdct:=hd) (sn:=sn) (sub:=sub) (ab:=ab) (col:=col) (dd:=dd) (k0:=k0) (k1:=k1) (k2:=k2) (k3:=k3) (k5:=k5) (mN:=mN)
  Lo (T.hasType Lo.hasBase) hh hpl' hni (iE I hg hc.mg ⟨rfl,?_⟩ hdb)
 have hs:=ha cpos pins s σ H _ I h
 rw[he] at hs ⊢
 refine Js (Gk hs (λus s2 ⟨vs,H1,I1,r,z,qE⟩=>⟨rfl,by rw[<- r.length];exact z,I1.bk _ _ hC,hN.keeps I1.bk,T.keeps I1.bk,λh' ea hx=>O pins σ H1 s2 h' ea _ _ I1 hx qE⟩) λ_ _ y=>y)
abbrev Cx.mark (X:Cx)(ea:Addr):Cx:={ X with A:=X.A.mark (some (.ref ea)),calm:=false,xe:=λ_ _=>False }
section
variable  {X:Cx}{pins:List (Addr×Obj)}{σ:St}{H H':Hp}{s s':DP}{B h':Heap}{ea:Addr}{cls a0:DK}
theorem Inv.mark (I:Inv X pins σ H s)(ea:Addr):Inv (X.mark ea) pins σ H s :=
 ⟨⟨I.ok.mod,I.ok.kind,I.ok.glob,I.ok.blt,I.ok.above,I.ok.inj,I.ok.has,I.ok.cab,(λz=>Bool.noConfusion z),I.ok.frames,I.ok.stk,I.ok.exf,I.ok.bs,I.ok.bsz,I.ok.noex,I.ok.exfs,I.ok.funs,I.ok.frf⟩,I.os,I.bare,I.base,I.loc,I.cell,I.free,I.freeC,I.pin,I.hok,I.len⟩
theorem Inv.unmark (ok:X.Ok)(I:Inv (X.mark ea) pins σ H s):Inv X pins σ H s:=⟨ok,I.os,I.bare,I.base,I.loc,I.cell,I.free,I.freeC,I.pin,I.hok,I.len⟩
def wo (ea:Addr)(cls:DK):HO :=.ext λh=>∃o,h.get? ea=some o/\o.cls=cls
theorem HOk.exc {P:D9}{w:EE}{h:Heap}(x:HOk P w H h)(hn:H ea=none)(hc:∃o,h.get? ea=some o/\o.cls=cls):HOk P w (upd H ea (wo ea cls)) h:=λb u e=>by
 by_cases z:b=ea
 ·subst z
  rw[ag] at e
  cases e
  refine ⟨hc,?_,λh1 h2 p k =>?_⟩
  ·obtain ⟨o,q,_⟩:=hc;exact ⟨o,q⟩
  ·obtain ⟨o,q,c⟩:=p;exact ⟨o,k o q,c⟩
 ·rw[aq z] at e
  exact (x b u e).stay (λ_ _ _ q=>q) (λc q=>by rw[aq (av q hn)];exact q) λc xs q=>by rw[aq (av q hn)];exact q
theorem Inv.exc (I0:Inv X pins σ H s)(I:Inv X pins σ H' s')(F:Fly X.prog X.w X.stack H H' s.heap B ea cls a0 s'.heap):Inv X pins σ (upd H' ea (wo ea cls)) s':=by
 have nn:=F.new
 have hn:=F.no
 have ne:∀b o,s.heap.get? b=some o->b≠ea:=λb o q z=>by rw[z,nn] at q;cases q
 have nh:∀b u,H' b=some u->b≠ea:=λb u q=>av q hn
 refine ⟨I.ok,I.os,I.bare,⟨I.base.keep,I.base.slot,λb o q n m =>?_,I.base.there,λb xs q =>?_,λb o u q =>?_,λb ps q =>?_⟩,I.loc,I.cell,?_,λx c e =>?_,λp hp =>?_,I.hok.exc hn F.fl.there,I.len⟩
 ·obtain ⟨o',e⟩:=I0.base.there b o q m
  rw[aq (ne b o' e)];exact I.base.free b o q n m
 ·have:=I.base.tups b xs q
  rw[aq (nh b _ this)];exact this
 ·have:=I.base.frzs b o u q
  rw[aq (nh b _ this)];exact this
 ·obtain ⟨mo,this⟩:=I.base.tbls b ps q
  exact ⟨mo,by rw[aq (nh b _ this)];exact this⟩
 ·obtain ⟨m,⟨o,_,_,ho,_⟩,_⟩:=I0.loc
  rw[aq (ne _ o ho)];exact I.free
 ·obtain ⟨v,o,ho,_⟩:=I0.cell x c e
  rw[aq (ne _ o ho)];exact I.freeC x c e
 ·obtain ⟨e,n,n1,n2,d⟩:=I.pin p hp
  obtain ⟨e0,_⟩:=I0.pin p hp
  exact ⟨e,by rw[aq (ne _ _ e0)];exact n,n1,n2,d⟩
theorem Inv.gone {i:Nat}{x:Str}{m:Str->Option DK}{v:Option DK}{tk:Nat}(I:Inv X pins σ H s)(hN:X.N.Nodup)(hi:X.N[i]? = some x)(hn:s.heap.Ns X.env.locals m)(hl:∀(j:Nat) (y:Str) (v:V),X.N[j]? = some y->σ[j]? = some (some v)->Vis X.env.scope y->∃u,RelV v u/\Look X.env s.heap m y u)
  (hn':h'.Ns X.env.locals (λy=>if y=x then v else m y)) (hs:Heap.SameBut X.env.locals s.heap h'):Inv X pins (σ.set i none) H { s with heap:=h',toks:=tk }:=by
 obtain ⟨oL,_,_,hoL,_⟩:=id hn
 have cne:=I.cne
 have lt:∀b o,X.s₀.heap.get? b=some o->b≠X.env.locals:=λb o e=>Ed (Ec (D4 e) I.ok.above)
 refine ⟨I.ok,I.os,I.bare,⟨λb o e n hb hx =>?_,λb o e n hb hx =>?_,I.base.free,λb o e hx =>?_,I.base.tups,I.base.frzs,I.base.tbls⟩,⟨_,hn',λj y v' e1 e2 e3 =>?_⟩,λy c e =>?_,I.free,I.freeC,λp hp =>?_,λb ob e =>?_,by simpa using I.len⟩
 ·exact (hs.2 b (lt b o e)).trans (I.base.keep b o e n hb hx)
 ·obtain ⟨sl,e1⟩:=I.base.slot b o e n hb hx
  exact ⟨sl,(hs.2 b (lt b o e)).trans e1⟩
 ·obtain ⟨o',e1⟩:=I.base.there b o e hx
  exact ⟨o',(hs.2 b (lt b o e)).trans e1⟩
 ·by_cases hj:j=i
  ·subst hj
   have:j<σ.length:=by rw[I.len];exact (DQ.mp hi).1
   rw[F3 this] at e2
   cases e2
  ·rw[GR (Ft hj)] at e2
   obtain ⟨u',r',q⟩:=hl j y v' e1 e2 e3
   refine ⟨u',r',?_⟩
   rcases q with ⟨k,e⟩ | ⟨k,c,e,z⟩
   ·have:y≠x:=λe=>hj (kU hN e1 (e ▸ hi))
    exact .inl ⟨k,by simp[this,e]⟩
   ·exact .inr ⟨k,c,e,z.sameBut hs (cne y c e)⟩
 ·obtain ⟨w',z⟩:=I.cell y c e
  exact ⟨w',z.sameBut hs (cne y c e)⟩
 ·obtain ⟨e,n,ne,nf,d⟩:=I.pin p hp
  exact ⟨(hs.2 p.1 ne).trans e,n,ne,nf,d⟩
 ·have fr:=I.free
  refine (I.hok b ob e).stay (λc w' hc q=>(hs.2 c ?_).trans q) (λ_ q=>q) λ_ _ q=>q
  rintro rfl
  rcases hc with rfl | hc
  ·rw[fr] at e;cases e
  ·rw[fr] at hc;cases hc
end
abbrev EXt:=DK->St->Hp->Prop
def XP (X:Cx)(pins:List (Addr×Obj))(EX:EXt)(e:DK)(s':DP):Prop :=
 ∃σ H s ea cls a0 B H',Inv X pins σ H s/\e = .ref ea/\s'.os=s.os/\AllBare s'.gens/\Fly X.prog X.w X.stack H H' s.heap B ea cls a0 s'.heap/\EX cls σ H'
def PSx (X:Cx)(sts:List Stmt)(t:EXt->TS):Prop :=
 ∀(pins:List (Addr×Obj)) (s:DP) (σ:St) (H:Hp) (D:Ends) (EX:EXt),Inv X pins σ H s->t EX D σ H->Ee (Es X.prog X.w) X.A (execs sts X.env) (SP X pins D) (XP X pins EX) s
def Dx (X:Cx)(st:Stmt)(t:EXt->TS):Prop :=
 ∀(pins:List (Addr×Obj)) (s:DP) (σ:St) (H:Hp) (D:Ends) (EX:EXt),Inv X pins σ H s->t EX D σ H->Ee (Es X.prog X.w) X.A (exec st X.env) (SP X pins D) (XP X pins EX) s
section
variable  {X:Cx}{pos:Pos}
theorem Ak {st:Stmt}{t:EXt->TS}(h1:Dx X st t):PSx X [st] t:=by
 intro pins s σ H D EX I h
 refine KA (thn (h1 pins s σ H D EX I h) λf s1 q =>?_)
 cases f with
 | next=>exact Io q
 | ret v=>exact q
 | brk=>exact q
 | cont=>exact q
theorem Dy {k:Nat}{f:Addr}{fd:E4}{ps:List Str}{sp:Sp}{pins:List (Addr×Obj)}{σ:St}{H:Hp}{s:DP}{Q:VK}{EX:EXt}{us:List DK}{vs:List V}(F:bG X.prog X.w X.K X.mg X.base (CX1 X.prog X.w) k f fd ps sp)(hr:cB k X.A)(hb:Binds X.K fd ps [])
  (I:Inv X pins σ H s) (r:Vals vs us) (h:sp vs H Q λcls _ H'=>EX cls σ H'):Ee (Es X.prog X.w) X.A (call (.ref f) us) (EP X pins σ Q) (XP X pins EX) s:=by
 have hl:us.length=ps.length:=by rw[<- r.length];exact F.len _ _ _ _ h
 have hb':=hb s us I.kIn (by rw[E6];exact hl)
 rw[E6] at hb'
 refine Lh (HS (F.run X.A X.stack s H ⟨us,[]⟩ us vs Q _ hr I.C0 hb' r h) λr s' hq =>?_)
 cases r with
 | error e =>
  obtain ⟨ea,cls,a0,B,H2,rfl,os,g,F2,q⟩:=hq
  exact ⟨σ,H,s,ea,cls,a0,B,H2,I,rfl,os,g,F2,q⟩
 | ok fl =>
  cases fl with
  | ret u=>exact I.after hq
  | next=>exact False.elim hq
  | brk=>exact False.elim hq
  | cont=>exact False.elim hq
theorem ev_x {j k:Nat}{x:Str}{ps:List Str}{sp:Sp}{e:Expr}{es:List Expr}{t:TA}{p:Pos}{pins:List (Addr×Obj)}{σ:St}{H:Hp}{s:DP}{Q:VK}{EX:EXt}(C:qY X.prog X.w X.K X.mg X.base k x ps sp)(hr:cB j X.A)(hj:k<=j)(hg:Gl X x)(ha:PA X.nox (e :: es) t)
  (hdb:(x == ("__debug__" : Str))=false) (he:EL (e :: es) X.env=(false,eval e X.env) :: EL es X.env) (hpl:(Ib pos (EL es X.env)).any (·.1)=false)
  (I:Inv X pins σ H s) (h:t σ H λvs H1=>sp vs H1 Q λcls _ H2=>EX cls σ H2):Ee (Es X.prog X.w) X.A (eval (.Call (.Name x p) (e :: es) [] pos) X.env) (EP X pins σ Q) (XP X pins EX) s:=by
 obtain ⟨f,fd,F,m,kp,b⟩:=C.ex
 refine GN (iE I hg m ?_ hdb)
 refine LM (h₀:=X.base) I.ok.mod.kin kp (Gk (ha pos pins s σ H _ (I.kZ _) h) (λus s1 ⟨vs,H1,I1,r,q⟩=>⟨I1.eA.kIn,?_⟩) λ_ _ z=>False.elim z) he hpl
 exact Dy F (hr.mono hj) b I1.eA r q
theorem yj {j k:Nat}{x:Str}{ps:List Str}{sp:Sp}{e:Expr}{es:List Expr}{t:TA}{p pos':Pos}(C:qY X.prog X.w X.K X.mg X.base k x ps sp)(hr:cB j X.A)(hj:k<=j)(hg:Gl X x)(ha:PA X.nox (e :: es) t)
  (hdb:(x == ("__debug__" : Str))=false:=by decide) (he:EL (e :: es) X.env=(false,eval e X.env) :: EL es X.env:=by rfl) (hpl:(Ib pos (EL es X.env)).any (·.1)=false:=by rfl) (hs:swapsWith (.Call (.Name x p) (e :: es) [] pos) none pos'.line X.env=pure false:=by rfl) :
  Dx X (.Expr (.Call (.Name x p) (e :: es) [] pos) pos') (λEX D σ H=>t σ H λvs H1=>sp vs H1 (λ_ H2=>D.nx σ H2) λcls _ H2=>EX cls σ H2):=by
 intro pins s σ H D EX I h
 exact wpAny_Expr_any (thn (ev_x C hr hj hg ha hdb he hpl I h) λv s1 ⟨x,H1,I1,r1,q1⟩=>⟨σ,H1,I1,q1⟩) I.quiet hs
def tTry (K:DM)(i:Nat)(C:DK)(tb:EXt->TS)(th:TS):TS:=λD σ H =>
 tb (λcls σ1 H1=>exmOne K cls C=some true/\∀ea,H1 ea=none->th { nx:=λσ2 H2=>D.nx (σ2.set i none) H2,rt:=D.rt,bk:=λσ2 H2=>D.bk (σ2.set i none) H2,ct:=λσ2 H2=>D.ct (σ2.set i none) H2 } (σ1.set i (some (.ref ea))) (upd H1 ea (wo ea cls))) D σ H
theorem Cp {i:Nat}{n x:Str}{C:DK}{body:List Stmt}{b₀:Stmt}{suite:List Stmt}{tb:EXt->TS}{th:TS}{np hp:Pos}(hst:X.stack=X.env :: X.outer)(hfr:X.env.frame=some X.env.locals)
    (hN:X.N.Nodup) (hi:X.N[i]? = some n) (hx:X.env.scope.names.lookup n=some .local) (hg:Gl X x) (hm:X.mg x=some C) (hb:PSx X body tb) (hs:∀ea,PSs (X.mark ea) (b₀ :: suite) th) (hdb:(x == ("__debug__" : Str))=false:=by decide) :
    PS X (.Try body [.ExceptHandler (some (.Name x np)) (some n) (b₀ :: suite) hp] [] [] pos) (tTry X.K i C tb th):=by
  intro pins s σ H D I h
  refine wpAny_Try_except (Gk (hb pins s σ H D _ I h) (λf s1 q =>?_) λe s1 hx1 =>?_)
  · cases f with
    | next=>exact Io q
    | ret v=>exact q
    | brk=>exact q
    | cont=>exact q
  obtain ⟨σ1,H1,s0,ea,cls,a0,B,H2,I1,rfl,os,g,F,hm2,q⟩:=hx1
  have fl:=F.fl
  have hfr':X.A.frames=some (X.env :: X.outer):=by rw[I1.ok.frames,hst]
  rw[hst] at fl
  refine wpAny_looks_onW hfr' hfr fl λh4 held4 k4 =>?_
  refine wpAny_landsW held4 λh5 f5 k5 =>?_
  rw[<- hst] at f5
  have F5:=F.on f5 (k4.trans k5)
  have I5:Inv X pins σ1 H2 { s1 with heap:=h5 }:=I1.land os g F5
  refine wpAny_handleBy_cons (codeAny_handlers_test ?_) (by intro z;cases z)
  refine iE (X:=X.mark ea) (I5.mark ea) hg hm ?_ hdb
  have LT:Looks (Es X.prog X.w) h5 (typeOf (.ref ea)) cls:=by
    obtain ⟨ob,hob,hc⟩:=f5.there
    subst hc
    exact (Looks.ld hob).andThen .now
  refine (exm_one (M:=Es X.prog X.w) I5.kIn LT hm2).here ?_
  refine codeAny_handlers_suite_as ?_
  refine lands_againW f5 λh6 f6 k6 =>?_
  have F6:=F5.on f6 k6
  have I6:Inv X pins σ1 H2 { s1 with heap:=h6 }:=I1.land os g F6
  have I7:=I1.exc I6 F6
  refine kX (v :=.ref ea) I7 hN hi (.inl hx) rfl (λs7 I8 =>?_) (.inr hx)
  have cls0:(X.env.scope.kind == .class || (X.env.scope.kind == .module && X.env.locals != X.env.globals))=false:=by rw[I.ok.kind];rfl
  have go:∀{σ2:St} {H3:Hp} {s8:DP} {Q:Unit->DP->Prop} {E:DK->DP->Prop},Inv (X.mark ea) pins σ2 H3 s8->(∀s9,Inv X pins (σ2.set i none) H3 s9->Q () s9)->Ee (Es X.prog X.w) X.A (do bindName X.env n .none;unbindBehindTheSuite X.env n hp) Q E s8:=λ{σ2 H3 s8 Q E} J hQ=>by
    have J':Inv X pins σ2 H3 s8:=J.unmark I.ok
    obtain ⟨m,hn,hl⟩:=J'.loc
    exact wpAny_nameGoes_keeps hx hn cls0 λh9 v hn9 hs9=>hQ _ (J'.gone hN hi hn hl hn9 hs9)
  refine Gk (hs ea pins s7 _ _ _ (I8.mark ea) (q ea F.no)) (λf s8 r =>?_) λ_ _ z=>False.elim z
  cases f with
  | next =>
    obtain ⟨σ2,H3,J,r⟩:=r
    exact go J λs9 J9=>⟨_,H3,J9,r⟩
  | brk =>
    obtain ⟨σ2,H3,J,r⟩:=r
    exact go J λs9 J9=>⟨_,H3,J9,r⟩
  | cont =>
    obtain ⟨σ2,H3,J,r⟩:=r
    exact go J λs9 J9=>⟨_,H3,J9,r⟩
  | ret u =>
    obtain ⟨v,σ2,H3,J,rv,r⟩:=r
    exact go J λs9 J9=>⟨v,_,H3,J9,rv,r⟩
end
structure ExI (K:DM)(C:Addr):Prop where
 ga:findIn K (.ref C) "__getattribute__" = some (some (.builtin "BaseException.__getattribute__"))
 gt:findIn K (.ref C) "__getattr__" = some none
 cl:findIn K (.ref C) "__class__" = some (some (.builtin "object.__class__"))
 mo:subIn K (.ref C) (.type "object")=some true
 sb:subIn K (.ref C) (.type "BaseException")=some true
 it:(clsIn K C).isSome=true
section
variable  {K:DM}{prog:D9}{w:EE}{A:EV}{E:DK->DP->Prop}{h:Heap}{g:Array GenState}{d:Drawn}{t:Nat}{os:OsState}{a C:Addr}{o:Obj}
theorem Cq {R:Result->DP->Prop}(X:K.In h)(Z:ExI K C)(hx:h.get? a=some o)(hc:o.cls = .ref C)(hq:R (.ok (.ret (.ref C))) ⟨h,g,d,t,os⟩) :
  IL (Es prog w) A (.call (.builtin "getset_descriptor.__get__") ⟨[.builtin "object.__class__",.ref a,.ref C],[]⟩) R ⟨h,g,d,t,os⟩:=by
 have hT5:(⟨h,g,d,t,os⟩:DP).TypeIs (.builtin "object.__class__") "getset_descriptor" := Jl
 have L1:Looks (Es prog w) h (isSubtype (.ref C) (.type (".".intercalate ("object.__class__".cutAt '.').dropLast))) true:=by rw[F.owner_object_class];exact looks_subIn X Z.mo
 refine HF LW.plain F.entry_gs_get (LW.check _ _ _ _ _ _ _ _ hT5 (F.args_gs_get _ _ _) ?_)
 repeat (any_goals (first | assumption | (with_reducible refine Ir hx ?_;rw[hc]) | with_reducible refine L1.at ?_ | wp_step))
 refine ⟨IY _ (by decide +kernel),ES F.entry_object_class ?_⟩
 unfold Builtin.«object.__class__»
 repeat (any_goals (first | assumption | (with_reducible refine Ir hx ?_;rw[hc]) | wp_step))
theorem yk {tk:Tok}{Q:Fin->DP->Prop}(X:K.In h)(Z:ExI K C)(hx:h.get? a=some o)(hc:o.cls = .ref C)(hq:Q (.done (.ret (.ref C))) ⟨h,g,d,t,os⟩) :
  Ee (Es prog w) A (Builtin.«object.__getattribute__» ⟨[.ref a,.str "__class__" tk],[]⟩) Q E ⟨h,g,d,t,os⟩:=by
 have hT5:(⟨h,g,d,t,os⟩:DP).TypeIs (.builtin "object.__class__") "getset_descriptor" := Jl
 have f5:=Jl
 have f6:=LW.lookup
 have f7:=F.slot_gs_set.lookup
 have L1:=My (M:=Es prog w) X Z.cl
 repeat (any_goals (first | assumption | (with_reducible refine Ir hx ?_;rw[hc]) | with_reducible refine L1.at ?_ | wp_step))
 refine Cq X Z hx hc ?_
 repeat (any_goals (first | assumption | wp_step))
theorem ym {M:Model}{nv:DK}{Q:Unit->DP->Prop}(X:K.In h)(Z:ExI K C)(hx:h.get? a=some o)(hc:o.cls = .ref C)(hq:Q () ⟨h,g,d,t,os⟩):Ee M A (checkBuiltinCall "BaseException.__getattribute__" ⟨[.ref a,nv],[]⟩) Q E ⟨h,g,d,t,os⟩:=by
 have k1:builtinKind "BaseException.__getattribute__" = some .slot:=by decide +kernel
 have k2:splitId "BaseException.__getattribute__" = some ("BaseException", "__getattribute__"):=by decide +kernel
 have L1:=looks_subIn (M:=M) X Z.sb
 have k3:=F.args_bexc_ga (.ref a) nv
 simp only[checkBuiltinCall,k1,k2]
 refine DH ?_
 unfold isInstance
 repeat (first | (with_reducible refine Ir hx ?_;rw[hc]) | with_reducible refine L1.at ?_ | wp_step)
 exact hq
theorem Am {Q:Option DK->DP->Prop}(X:K.In h)(Z:ExI K C)(hx:h.get? a=some o)(hc:o.cls = .ref C)(hq:Q (some (.ref C)) ⟨h,g,d,t+1,os⟩) :
  Ee (Es prog w) A (getAttr? (.ref a) "__class__") Q E ⟨h,g,d,t,os⟩:=by
 have f3:=(K6).ga.bind (.ref a)
 have y2:(Value.builtin "BaseException.__getattribute__" == Value.builtin "object.__getattribute__")=false:=by decide +kernel
 have y1:(onTheHeap (D8 C) && Value.builtin "BaseException.__getattribute__" == Value.builtin "object.__getattribute__")=false:=by rw[y2];rfl
 have L1:=My (M:=Es prog w) X Z.ga
 have L2:=My (M:=Es prog w) X Z.gt
 unfold getAttr? getAttrBy?
 repeat (any_goals (first | assumption | (with_reducible refine Ir hx ?_;rw[hc]) | with_reducible refine L1.at ?_ | with_reducible refine L2.at ?_ | wp_step))
 refine HF (K6).ga.plain F.entry_bexc_ga (ym X Z hx hc (yk X Z hx hc ?_))
 repeat (any_goals (first | assumption | wp_step))
end
theorem yn {K:DM}{a C:Addr}(Z:ExI K C):KitX K (.ref a) (.ref C) (λh=>∃o,h.get? a=some o/\o.cls = .ref C) where
 ty:=λM h _ p=>by
  obtain ⟨o,h1,h2⟩:=p
  exact h2 ▸ (Looks.ld h1).andThen .now
 it:=λ_ _ X _=>by
  have z:=Z.it
  unfold clsIn at z
  split at z
  ·rename_i c' d' cd' sl' ho
   intro A' Q' E' s' k q
   unfold isType loadHead
   exact DH (wpAny_loadPart (k _ _ (X _ _ ho)) (DN q))
  ·cases z
 ne:=λh tp dd its n sl X htp=>by
  have z:=Z.it
  refine GX.mpr λq =>?_
  have e:C=tp:=Value.ref.inj (beq_iff_eq.mp q)
  subst e
  unfold clsIn at z
  split at z
  ·rename_i c' d' cd' sl' ho
   have y:=(X _ _ ho).symm.trans htp
   cases y
  ·cases z
 ca:=λ{_ _ _ _ _ s} X p k=>by
  obtain ⟨h,g,d,t,os⟩:=s
  obtain ⟨o,h1,h2⟩:=p
  exact Am X Z h1 h2 k
def Dz:V->DK
 | .ref a =>.ref a
 | .ty n =>.type n
 | _ =>.none
def A6:V->Bool
 | .ref _=>true
 | .ty _=>true
 | _=>false
theorem An {x:V}{u:DK}(h:A6 x=true)(r:RelV x u):u=Dz x:=by
 cases x <;> first | exact r | cases h
section
variable  {X:Cx}
theorem bU {K:DM}(hK:X.K=K:=by rfl):bH X (.builtin "isinstance") (λxs H Q=>∃(ea C:Addr) (c:V) (b:Bool),xs=[.ref ea,c]/\H ea=some (wo ea (.ref C))/\ExI K C/\A6 c=true/\kitOne K (.ref C) (Dz c)=some b/\Q (.bl b) H):=by
 subst hK
 intro pins s σ H xs us Q I r h
 obtain ⟨ea,C,c,b,rfl,he,Z,hc,hk,q⟩:=h
 cases r with | cons r1 r2 =>
 cases r2 with | cons r2 r3 =>
 cases r3
 obtain rfl:=An hc r2
 have r1:_=D8 ea:=r1
 subst r1
 obtain ⟨p,_⟩:=I.hok ea _ he
 exact kia_one (yn Z) I.kIn p hk (by intro z;cases z) λtk=>⟨.bl b,H,I.tok tk,rfl,q⟩
end
section
variable  {X:Cx}
theorem ml (hc:X.calm=true):bH X (.builtin "min") (λxs H Q=>∃(a:Addr) (ns:List Int),xs=[.ref a]/\SqT X.K H a (ns.map V.int)/\ns≠[]/\∀M:Int,M∈ns->(∀b∈ns,M<=b)->Q (.int M) H):=by
 intro pins s σ H xs us Q I r h
 obtain ⟨a,ns,rfl,hS,hne,q⟩:=h
 obtain ⟨u,rfl,ru⟩:=vals1 r
 cases (show u=D8 a from ru)
 obtain ⟨its,r1,p1,_⟩:=I.tuple hS
 obtain ⟨ps,e2,e3⟩:=fW (intsAre_of r1)
 have ei:its.toArray=Jy ps.toArray:=by rw[e2];simp[Jy]
 have hT:s.heap.IsTuple a (Jy ps.toArray):=by
  obtain ⟨o,ho,hc',n,hd⟩:=p1
  exact ⟨o,ho,hc',n,by rw[<- ei];exact hd⟩
 have hz:ps.toArray.size=ns.length:=by rw[DR, <- e3,DI]
 have hp:0<ns.length:=G3.mpr hne
 have ht:ps.toArray.toList.map (·.1)=ns:=e3
 have hal:a<s.heap.objs.size:=by obtain ⟨o,ho,_⟩:=p1;exact D4 ho
 refine call_min_walk (GL hT ?_)
 refine ⟨_,[_,a],[_],_,_,_,_,rfl,Nu (A:=X.A.in1) (I.ok.hd hc) _ a (Ed hal) (Jy ps.toArray),⟨⟨_,D2 _ rfl,rfl,rfl⟩,hT.push _⟩,λc hc' =>?_,by simp only[Jy,E5];lia,CmpOf.ints_lt (numAt ps.toArray) (λ_ _=>M3),λv h' tk hv hk =>?_⟩
 ·show c<(s.heap.push _).objs.size
  rw[Fz]
  rcases Eg.mp hc' with rfl | hc'
  ·exact GA _
  ·rw[DW.mp hc'];exact FG hal
 ·have k:∀b o,s.heap.get? b=some o->h'.get? b=some o:=λb o e=>hk b o (λhm=>by
   have:=D4 e
   rw[DW.mp hm] at this
   exact Fe _ this) (DJ _ e)
  have hsz:(Jy ps.toArray).size=ns.length:=by simp only[Jy,E5];exact hz
  rw[hsz] at hv
  obtain ⟨t,rfl⟩:=M3 hv
  obtain ⟨h1,h2⟩:=argBest_lt (numAt ps.toArray) (ns.length-1)
  refine ⟨.int _,H,I.kept k,⟨_,rfl⟩,q _ ?_ λb hb =>?_⟩
  ·rw[Kp,ht];exact xZ (by lia)
  ·obtain ⟨j,hj,rfl⟩:=x6 hb
   have:=h2 j (by lia)
   rw[Kp,Kp,ht] at this
   rw[Kp,ht]
   exact this
end
end L2
namespace L2.MnT
open PySem PyProof.Rows
section
variable  {prog:D9}{w:EE}{A:EV}{E:DK->DP->Prop}{I:Addr}{fp wr:List Addr}{n:Nat}{P:Nat->DK->Prop}{St:Nat->Heap->Prop}
def Cmp (prog:D9)(w:EE)(A:EV)(P:Nat->DK->Prop)(St:Nat->Heap->Prop)(bt:Nat->Nat->Bool):Prop :=
 ∀k i j x y (s:DP) (Q E:DK->DP->Prop),St k s.heap->P i x->P j y->Q (.bool (bt i j)) s->Ee (Es prog w) A (richCompare .Lt x y) Q E s
abbrev Bag (S:Addr)(xs:Array DK)(c:Nat)(h:Heap):Prop:=h.get? S=some { cls :=.type "list",dict:=none,data :=.seq xs c,slots := #[] }
abbrev Kept (wr:List Addr)(S:Addr)(h h':Heap):Prop:=∀b o,b∉wr->b≠S->h.get? b=some o->h'.get? b=some o
theorem loop {R:Result->DP->Prop}(W:Walks prog w A.in1 I fp wr n P St){bt:Nat->Nat->Bool}(C:Cmp prog w A.in1 P St bt){S:Addr}(nS:S∉fp):∀(d j:Nat) (s:DP) (best:DK) (c:Nat),n=j+1+d->St (j+1) s.heap->P (argBest bt j) best->Bag S #[best,best] c s.heap →
  (∀v h' tk,P (argBest bt (n-1)) v->Kept wr S s.heap h'->R (.ok (.ret v)) { s with heap:=h',toks:=tk })->IL (Es prog w) A (.builtin "min.loop" ⟨[.ref I,.none,.ref S],[]⟩) R s:=by
 have nw:S∉wr:=λh=>nS (W.sub _ h)
 have nm:(toString "min" ++ toString ".loop" : String) = "min.loop" := by decide
 intro d
 induction d with
 | zero =>
  intro j s best c hn st pb bg hR
  have e:j+1=n:=by lia
  rw[e] at st
  refine ES GC ?_
  rw[EM E3 _]
  show Ee _ _ (seqItems? (.ref S) >>= _) _ _ s
  refine DH (Fv bg rfl ?_)
  show Ee _ _ (tryCatch (pyNext (.ref I)) _ >>= _) _ _ s
  refine DH (Gp (W.done s _ _ st λh1 tk kp =>?_))
  show Ee _ _ (updateSeq S (λ_ => #[]) >>= _) _ _ _
  refine DH ?_
  refine FR (kp S _ nw bg) rfl (DH (HC (DN (hR best _ tk (by rw[<- e];exact pb) ?_))))
  exact λb o nb ns eb=>(Eo _ _ (Ft ns)).trans (kp b o nb eb)
 | succ d ih =>
  intro j s best c hn st pb bg hR
  refine ES GC ?_
  rw[EM E3 _]
  show Ee _ _ (seqItems? (.ref S) >>= _) _ _ s
  refine DH (Fv bg rfl ?_)
  show Ee _ _ (tryCatch (pyNext (.ref I)) _ >>= _) _ _ s
  refine DH (Gp (W.item (j+1) s _ _ (by lia) st λv h1 tk pv st1 kp =>?_))
  have bg1:=kp S _ nw bg
  show Ee _ _ (tryCatch (Jr [v,v] (richCompare .Lt v best >>= _)) _ >>= _) _ _ _
  refine DH (Gp (Fb (DH (C (j+1+1) (j+1) (argBest bt j) v best _ _ _ st1 pv pb ?_))))
  refine DH (Fb (Gm ?_))
  refine DH (HC (DN ?_))
  by_cases hb:bt (j+1) (argBest bt j)=true
  ·have ea:argBest bt (j+1)=j+1:=by simp only[argBest,hb,if_true]
   rw[hb]
   simp only[if_true]
   refine DH ?_
   refine FR bg1 rfl (DH (HC ?_))
   rw[nm]
   refine DN ⟨Fs E3 _,ih (j+1) _ v _ (by lia) (W.frame _ _ _ st1 λb fb o eb =>?_) (by rw[ea];exact pv) (EZ _ bg1 rfl) λv2 h2 tk2 p2 k2=>hR v2 h2 tk2 p2 λb o nb ns eb=>k2 b o nb ns ?_⟩
   ·exact (Eo _ _ (λz:S=b=>nS (z ▸ fb))).trans eb
   ·exact (Eo _ _ (Ft ns)).trans (kp b o nb eb)
  ·have ea:argBest bt (j+1)=argBest bt j:=by simp only[argBest,hb];rfl
   rw[GX.mpr hb]
   simp only[Ei,if_false]
   refine DH (HC ?_)
   rw[nm]
   exact DN ⟨Fs E3 _,ih (j+1) _ best c (by lia) st1 (by rw[ea];exact pb) bg1 λv2 h2 tk2 p2 k2=>hR v2 h2 tk2 p2 λb o nb ns eb=>k2 b o nb ns (kp b o nb eb)⟩
theorem first {R:Result->DP->Prop}(W:Walks prog w A.in1 I fp wr n P St){bt:Nat->Nat->Bool}(C:Cmp prog w A.in1 P St bt){S:Addr}(nS:S∉fp)(hn:0<n){s:DP}{c:Nat}(st:St 0 s.heap)(bg:Bag S #[] c s.heap)
  (hR:∀v h' tk,P (argBest bt (n-1)) v->Kept wr S s.heap h'->R (.ok (.ret v)) { s with heap:=h',toks:=tk }):IL (Es prog w) A (.builtin "min.loop" ⟨[.ref I,.none,.ref S],[]⟩) R s:=by
 have nw:S∉wr:=λh=>nS (W.sub _ h)
 have nm:(toString "min" ++ toString ".loop" : String) = "min.loop" := by decide
 refine ES GC ?_
 rw[EM E3 _]
 show Ee _ _ (seqItems? (.ref S) >>= _) _ _ s
 refine DH (Fv bg rfl ?_)
 show Ee _ _ (tryCatch (pyNext (.ref I)) _ >>= _) _ _ s
 refine DH (Gp (W.item 0 s _ _ hn st λv h1 tk pv st1 kp =>?_))
 have bg1:=kp S _ nw bg
 show Ee _ _ (updateSeq S (λ_ => #[v,v]) >>= _) _ _ _
 refine DH ?_
 refine FR bg1 rfl ?_
 rw[nm]
 refine DN ⟨Fs E3 _,loop W C nS (n-1) 0 _ v _ (by lia) (W.frame _ _ _ st1 λb fb o eb =>?_) pv (EZ _ bg1 rfl) λv2 h2 tk2 p2 k2=>hR v2 h2 tk2 p2 λb o nb ns eb=>k2 b o nb ns ?_⟩
 ·exact (Eo _ _ (λz:S=b=>nS (z ▸ fb))).trans eb
 ·exact (Eo _ _ (Ft ns)).trans (kp b o nb eb)
def TI (h:Heap)(t:Addr×List Int):Prop:=∃its:Array DK,IsTup h t.1 its/\Gh its.toList t.2
theorem TI.at {h h':Heap}{t:Addr×List Int}(x:TI h t)(e:∀o,h.get? t.1=some o->h'.get? t.1=some o):TI h' t:=let ⟨its,⟨o,ho,r⟩,y⟩:=x;⟨its,⟨o,e o ho,r⟩,y⟩
theorem more (W:Walks prog w A I fp wr n P St)(ts:List (Addr×List Int))(nw:∀t∈ts,t.1∉wr):Walks prog w A I (fp++ts.map (·.1)) wr n P (λi h=>St i h/\∀t∈ts,TI h t) where
 sub:=λb hb=>D6.mpr (.inl (W.sub b hb))
 frame:=λi h h' x hk=>⟨W.frame i h h' x.1 λb hb o e=>hk b (D6.mpr (.inl hb)) o e,λt ht=>(x.2 t ht).at (hk t.1 (D6.mpr (.inr (JG (f:=(·.1)) ht))))⟩
 item:=λi s Q E hi x hQ=>W.item i s Q E hi x.1 λv h' tk pv st' kp=>hQ v h' tk pv ⟨st',λt ht=>(x.2 t ht).at λo=>kp t.1 o (nw t ht)⟩ kp
 done:=λs Q E x hQ=>W.done s Q E x.1 hQ
 self:=λi s Q E x hQ=>W.self i s Q E x.1 hQ
theorem best (g:Nat->List Int):∀k,(argBest (λi j=>HT.lexLt (g i) (g j)) k<=k)/\∀j,j<=k->HT.lexLt (g j) (g (argBest (λi j=>HT.lexLt (g i) (g j)) k))=false
 | 0=>⟨DS _,λj hj=>by rw[MS.mp hj];exact Srt.lex_irrefl _⟩
 | k+1=>by
  obtain ⟨l,ih⟩:=best g k
  by_cases hb:HT.lexLt (g (k+1)) (g (argBest (λi j=>HT.lexLt (g i) (g j)) k))=true
  ·have ea:argBest (λi j=>HT.lexLt (g i) (g j)) (k+1)=k+1:=by simp only[argBest,hb,if_true]
   rw[ea]
   refine ⟨DS _,λj hj =>?_⟩
   by_cases e:j=k+1
   ·rw[e];exact Srt.lex_irrefl _
   ·refine GX.mpr λz =>?_
    have:=ih j (by lia)
    rw[Srt.lex_trans _ _ _ z hb] at this
    cases this
  ·have ea:argBest (λi j=>HT.lexLt (g i) (g j)) (k+1)=argBest (λi j=>HT.lexLt (g i) (g j)) k:=by simp only[argBest,hb];rfl
   rw[ea]
   refine ⟨by lia,λj hj =>?_⟩
   by_cases e:j=k+1
   ·rw[e];exact GX.mpr hb
   ·exact ih j (by lia)
end
end L2.MnT
namespace L2
open PySem PySem.Spec PyProof.Rows
section
variable  {X:Cx}
end
end L2
namespace L2.MnT
open PySem PyProof.Rows
section
variable  {prog:D9}{w:EE}{A:EV}{E:DK->DP->Prop}{I:Addr}{fp wr:List Addr}{n:Nat}{P:Nat->DK->Prop}{St:Nat->Heap->Prop}
abbrev eX (ts:List (Addr×List Int)):Nat->Nat->Bool:=λi j=>decide ((ts.getD i (0,[])).2.length<(ts.getD j (0,[])).2.length)
theorem yo {s:DP}{t:Addr×List Int}{Q:DK->DP->Prop}(x:TI s.heap t)(hz:t.2.length<2 ^ 63)(h:∀u tk,Q (.int t.2.length u) { s with toks:=tk }):Ee (Es prog w) A (call (.builtin "len") [.ref t.1]) Q E s:=by
 obtain ⟨its,ht,hi⟩:=x
 have e:its.size=t.2.length:=by rw[<- hi.length,DY]
 refine MX ht (by rw[e];lia) ?_
 rw[e]
 exact h _ _
theorem DA {R:Result->DP->Prop}{ts:List (Addr×List Int)}{kw:List (Str×DK)}(W:Walks prog w A.in1 I fp wr n P St)(hI:∀k h,St k h->∀t∈ts,TI h t)(hP:∀i v,P i v->∃t,ts[i]? = some t/\v = .ref t.1)(hz:∀t∈ts,t.2.length<2 ^ 63){S:Addr}(nS:S∉fp):∀(d j:Nat) (s:DP) (t:Addr×List Int) (tk c:Nat),n=j+1+d->St (j+1) s.heap->ts[argBest (eX ts) j]? = some t->Bag S #[.ref t.1,.int t.2.length tk] c s.heap →
  (∀t h' tk,ts[argBest (eX ts) (n-1)]? = some t->Kept wr S s.heap h'->R (.ok (.ret (.ref t.1))) { s with heap:=h',toks:=tk })->IL (Es prog w) A (.builtin "min.loop" ⟨[.ref I,.builtin "len",.ref S],kw⟩) R s:=by
 have nw:S∉wr:=λh=>nS (W.sub _ h)
 have nm:(toString "min" ++ toString ".loop" : String) = "min.loop" := by decide
 intro d
 induction d with
 | zero =>
  intro j s t tk c hn st et bg hR
  have e:j+1=n:=by lia
  rw[e] at st
  refine ES GC ?_
  rw[EM E3 _]
  show Ee _ _ (seqItems? (.ref S) >>= _) _ _ s
  refine DH (Fv bg rfl ?_)
  show Ee _ _ (tryCatch (pyNext (.ref I)) _ >>= _) _ _ s
  refine DH (Gp (W.done s _ _ st λh1 tk kp =>?_))
  show Ee _ _ (updateSeq S (λ_ => #[]) >>= _) _ _ _
  refine DH ?_
  refine FR (kp S _ nw bg) rfl (DH (HC (DN (hR t _ tk (by rw[<- e];exact et) ?_))))
  exact λb o nb ns eb=>(Eo _ _ (Ft ns)).trans (kp b o nb eb)
 | succ d ih =>
  intro j s t tk c hn st et bg hR
  refine ES GC ?_
  rw[EM E3 _]
  show Ee _ _ (seqItems? (.ref S) >>= _) _ _ s
  refine DH (Fv bg rfl ?_)
  show Ee _ _ (tryCatch (pyNext (.ref I)) _ >>= _) _ _ s
  refine DH (Gp (W.item (j+1) s _ _ (by lia) st λv h1 tk1 pv st1 kp =>?_))
  obtain ⟨u,eu,rfl⟩:=hP _ _ pv
  have bg1:=kp S _ nw bg
  show Ee _ _ (tryCatch (Jr [D8 u.1] (call (.builtin "len") [.ref u.1])) _ >>= _) _ _ _
  refine DH (Gp (Fb (yo (hI _ _ st1 u (DV eu)) (hz u (DV eu)) λtu tk2 =>?_)))
  show Ee _ _ (tryCatch (Jr [D8 u.1,.int u.2.length tu] (richCompare .Lt (.int u.2.length tu) (.int t.2.length tk) >>= _)) _ >>= _) _ _ _
  refine DH (Gp (Fb (DH (richCompare_gives (op :=.Lt) (Nk _ _ tu) (Nk _ _ tk) PySem.F.slot_int_lt PySem.F.entry_int_lt (PySem.F.args_int_lt_2 _ _) (gives_int_lt _ _ tu tk) (λx=>nomatch x) ?_))))
  refine DH (Fb (Gm ?_))
  refine DH (HC (DN ?_))
  have eb':eX ts (j+1) (argBest (eX ts) j)=decide (u.2.length<t.2.length):=by
   show decide _=_
   rw[DX,DX,eu,et];rfl
  by_cases hb:u.2.length<t.2.length
  ·have ea:argBest (eX ts) (j+1)=j+1:=by
    show (if eX ts (j+1) (argBest (eX ts) j)=true then _ else _)=_
    rw[eb',if_pos (decide_eq_true hb)]
   rw[show decide ((u.2.length:Int)<(t.2.length:Int))=true from decide_eq_true (by lia)]
   simp only[if_true]
   refine DH ?_
   refine FR bg1 rfl (DH (HC ?_))
   rw[nm]
   refine DN ⟨Fs E3 _,ih (j+1) _ u tu _ (by lia) (W.frame _ _ _ st1 λb fb o eb =>?_) (by rw[ea];exact eu) (EZ _ bg1 rfl) λv2 h2 tk2 p2 k2=>hR v2 h2 tk2 p2 λb o nb ns eb=>k2 b o nb ns ?_⟩
   ·exact (Eo _ _ (λz:S=b=>nS (z ▸ fb))).trans eb
   ·exact (Eo _ _ (Ft ns)).trans (kp b o nb eb)
  ·have ea:argBest (eX ts) (j+1)=argBest (eX ts) j:=by
    show (if eX ts (j+1) (argBest (eX ts) j)=true then _ else _)=_
    rw[eb',if_neg (by simpa using hb)]
   rw[show decide ((u.2.length:Int)<(t.2.length:Int))=false from decide_eq_false (by lia)]
   simp only[Ei,if_false]
   refine DH (HC ?_)
   rw[nm]
   exact DN ⟨Fs E3 _,ih (j+1) _ t tk c (by lia) st1 (by rw[ea];exact et) bg1 λv2 h2 tk2 p2 k2=>hR v2 h2 tk2 p2 λb o nb ns eb=>k2 b o nb ns (kp b o nb eb)⟩
theorem Cr {R:Result->DP->Prop}{ts:List (Addr×List Int)}{kn:Str}{d:DK}(W:Walks prog w A.in1 I fp wr n P St)(hI:∀k h,St k h->∀t∈ts,TI h t)(hP:∀i v,P i v->∃t,ts[i]? = some t/\v = .ref t.1)(hz:∀t∈ts,t.2.length<2 ^ 63){S:Addr}(nS:S∉fp){s:DP}{c:Nat}(st:St 0 s.heap)(bg:Bag S #[] c s.heap)
  (hR:∀v h' tk,((0<n/\∃t,ts[argBest (eX ts) (n-1)]? = some t/\v = .ref t.1)\/(n=0/\v=d))->Kept wr S s.heap h'->R (.ok (.ret v)) { s with heap:=h',toks:=tk }):IL (Es prog w) A (.builtin "min.loop" ⟨[.ref I,.builtin "len",.ref S],[(kn,d)]⟩) R s:=by
 have nw:S∉wr:=λh=>nS (W.sub _ h)
 have nm:(toString "min" ++ toString ".loop" : String) = "min.loop" := by decide
 refine ES GC ?_
 rw[EM E3 _]
 show Ee _ _ (seqItems? (.ref S) >>= _) _ _ s
 refine DH (Fv bg rfl ?_)
 show Ee _ _ (tryCatch (pyNext (.ref I)) _ >>= _) _ _ s
 by_cases hn:n=0
 ·subst hn
  refine DH (Gp (W.done s _ _ st λh1 tk kp =>?_))
  exact DH (Gz (DN (hR d h1 tk (.inr ⟨rfl,rfl⟩) λb o nb _ eb=>kp b o nb eb)))
 refine DH (Gp (W.item 0 s _ _ (by lia) st λv h1 tk pv st1 kp =>?_))
 obtain ⟨u,eu,rfl⟩:=hP _ _ pv
 have bg1:=kp S _ nw bg
 show Ee _ _ (tryCatch (Jr [D8 u.1] (call (.builtin "len") [.ref u.1])) _ >>= _) _ _ _
 refine DH (Gp (Fb (yo (hI _ _ st1 u (DV eu)) (hz u (DV eu)) λtu tk2 =>?_)))
 show Ee _ _ (updateSeq S (λ_ => #[.ref u.1,.int u.2.length tu]) >>= _) _ _ _
 refine DH ?_
 refine FR bg1 rfl ?_
 rw[nm]
 refine DN ⟨Fs E3 _,DA W hI hP hz nS (n-1) 0 _ u tu _ (by lia) (W.frame _ _ _ st1 λb fb o eb =>?_) eu (EZ _ bg1 rfl) λt2 h2 tk2 p2 k2=>hR _ h2 tk2 (.inl ⟨by lia,t2,p2,rfl⟩) λb o nb ns eb=>k2 b o nb ns ?_⟩
 ·exact (Eo _ _ (λz:S=b=>nS (z ▸ fb))).trans eb
 ·exact (Eo _ _ (Ft ns)).trans (kp b o nb eb)
theorem wq (a f d:DK):argsOk "min" ⟨[a],[("key",f),("default",d)]⟩:=by unfold argsOk;kernel_rfl
theorem DB {s:DP}{l:Addr}{its:Array DK}{ts:List (Addr×List Int)}{d:DK}{Q:DK->DP->Prop}(hh:A.handled=none)(hl:s.heap.IsList l its)(hT:∀t∈ts,TI s.heap t)(hP:∀(i:Nat) (v:DK),its[i]? = some v->∃t,ts[i]? = some t/\v = .ref t.1)(hz:∀t∈ts,t.2.length<2 ^ 63)
  (h:∀v h' tk,((0<its.size/\∃t,ts[argBest (eX ts) (its.size-1)]? = some t/\v = .ref t.1)\/(its.size=0/\v=d))->(∀b o,s.heap.get? b=some o->h'.get? b=some o)->Q v { s with heap:=h',toks:=tk }) :
  Ee (Es prog w) A (call (.builtin "min") [.ref l] [("key",.builtin "len"),("default",d)]) Q E s:=by
 have nm:(toString "min" ++ toString ".loop" : String) = "min.loop" := by decide
 have hlt:∀t∈ts,t.1<s.heap.objs.size:=λt ht=>by
  obtain ⟨_,⟨o,ho,_⟩,_⟩:=hT t ht
  exact D4 ho
 have hpl:l<s.heap.objs.size:=by obtain ⟨_,e,_⟩:=hl;exact D4 e
 refine Lh (HF PySem.F.plain_min PySem.F.entry_min ?_)
 have hg:Ee (Es prog w) A.in1 (Builtin.«min» ⟨[.ref l],[("key",.builtin "len"),("default",d)]⟩) (λfin s'=>match fin with
   | .done f=>(match (Except.ok f:Result) with | .ok (.ret v)=>Q v s' | .ok _=>False | .error e=>E e s')
   | .again c'=>c'.quiet=true/\IL (Es prog w) A c' (λr s'=>match r with | .ok (.ret v)=>Q v s' | .ok _=>False | .error e=>E e s') s') E s:=by
  show Ee _ A.in1 (Builtin.Builtins.bindParams "min" ["key", "default"] 0 ⟨[],[("key",.builtin "len"),("default",d)]⟩ >>= _) _ _ s
  refine DH (Gx (a:=[some (.builtin "len"),some d]) rfl ?_)
  refine DH (DN ?_)
  refine DH (GZ hl ?_)
  refine DH (E7 ?_)
  have W:=more (Ma (prog:=prog) (w:=w) (A:=A.in1) hh s.heap.objs.size l (Ed hpl) its) ts (λt ht hm=>by
   have:=hlt t ht
   rw[DW.mp hm] at this
   exact Fe _ this)
  rw[nm]
  refine DN ⟨Fs E3 _,Cr W (λk h x=>x.2) hP hz ?_ ⟨⟨⟨_,DJ _ (D2 _ rfl),rfl,rfl⟩,(hl.push _).push _⟩,λt ht=>(hT t ht).at λo e=>DJ _ (DJ _ e)⟩ (D2 _ rfl) λv h' tk hv kp =>?_⟩
  ·intro hm
   rw[Fz] at hm
   rcases D6.mp hm with hm | hm
   ·rcases Eg.mp hm with e | hm
    ·exact Nat.succ_ne_self _ e
    ·have:=DW.mp hm
     rw[<- this] at hpl
     exact Fe _ (HJ hpl)
   ·obtain ⟨t,ht,e⟩:=DZ.mp hm
    have:=hlt t ht
    rw[e] at this
    exact Fe _ (HJ this)
  ·refine h v h' tk hv λb o e=>kp b o (λhm =>?_) (λz =>?_) (DJ _ (DJ _ e))
   ·have:=D4 e
    rw[DW.mp hm] at this
    exact Fe _ this
   ·have:=D4 e
    rw[z,Fz] at this
    exact Fe _ (HJ this)
 simp only[checkBuiltinCall,PySem.F.kind_min]
 cases hsig:Manifest.signature? "min" with
 | none=>exact DN hg
 | some sig =>
  have ha':Bind.checkArgs "min" sig ⟨[.ref l],[("key",.builtin "len"),("default",d)]⟩=pure ():=by simpa only[argsOk,hsig] using wq (.ref l) (.builtin "len") d
  simp only[ha']
  exact DN hg
end
end L2.MnT
namespace L2
open PySem PySem.Spec PyProof.Rows
theorem MnT.yp (g:Nat->Nat):∀k,∀j,j<=k->g (argBest (λi j=>decide (g i<g j)) k)<=g j
 | 0,j,hj=>by rw[MS.mp hj];exact DS _
 | k+1,j,hj=>by
  have ih:=MnT.yp g k
  by_cases hb:g (k+1)<g (argBest (λi j=>decide (g i<g j)) k)
  ·have ea:argBest (λi j=>decide (g i<g j)) (k+1)=k+1:=by simp only[argBest,decide_eq_true hb,if_true]
   rw[ea]
   by_cases e:j=k+1
   ·rw[e];exact DS _
   ·have:=ih j (by lia);lia
  ·have ea:argBest (λi j=>decide (g i<g j)) (k+1)=argBest (λi j=>decide (g i<g j)) k:=by simp only[argBest,decide_eq_false hb];rfl
   rw[ea]
   by_cases e:j=k+1
   ·rw[e];lia
   ·exact ih j (by lia)
section
variable  {X:Cx}
end
theorem MnT.A7 (g:Nat->Nat):∀k,∀j,j<argBest (λi j=>decide (g i<g j)) k->g (argBest (λi j=>decide (g i<g j)) k)<g j
 | 0,j,hj=>absurd hj (Im _)
 | k+1,j,hj=>by
  by_cases hb:g (k+1)<g (argBest (λi j=>decide (g i<g j)) k)
  ·have ea:argBest (λi j=>decide (g i<g j)) (k+1)=k+1:=by simp only[argBest,decide_eq_true hb,if_true]
   rw[ea] at hj ⊢
   have:=MnT.yp g k j (by lia)
   lia
  ·have ea:argBest (λi j=>decide (g i<g j)) (k+1)=argBest (λi j=>decide (g i<g j)) k:=by simp only[argBest,decide_eq_false hb];rfl
   rw[ea] at hj ⊢
   exact MnT.A7 g k j hj
section
variable  {X:Cx}
def yq (K:DM)(te:TE):TE:=λσ H Q=>te σ H λx H1=>∃(p:Addr) (ts:List (Addr×List Int)),[x]=[.ref p]/\SqL K H1 p (ts.map λt =>.ref t.1)/\(∀t∈ts,SqT K H1 t.1 (t.2.map V.int))/\(ts=[]->Q .non H1)/\∀(i:Nat) (t:Addr×List Int),ts[i]? = some t->(∀u∈ts,t.2.length<=u.2.length)->(∀(j:Nat) (u:Addr×List Int),j<i->ts[j]? = some u->t.2.length<u.2.length)->Q (.ref t.1) H1
theorem sL {e:Expr}{te:TE}{j:Nat}{p p2 p3 pos kpos kpos2:Pos}(hc:X.calm=true)(hg:Gl X "min")(hm:X.mg "min" = none)(hg2:Gl X "len")(hm2:X.mg "len" = none)(hv:Ff "min" = some (.builtin "min"))(he:PE X e te)
    (hs:EL (e :: []) X.env=(false,eval e X.env) :: EL [] X.env:=by rfl)
    (ha:Ib pos (EL (e :: []) X.env)=(false,eval e X.env) :: Ib pos (EL [] X.env):=by rfl)
    (hplain:(Ib pos (EL (e :: []) X.env)).any (·.1)=false:=by rfl) :
    PE X (.Call (.Name "min" p) [e] [⟨some "key",.Name "len" p2,kpos⟩,⟨some "default",.Constant .none j p3,kpos2⟩] pos) (yq X.K te):=by
  intro pins s σ H Q I h
  refine GN (d9 I hg hm hv ?_)
  refine PyProof.Rows.callWith_kw (thn ((aa he ae hs) pos pins s σ H (λvs H1=>∃(p:Addr) (ts:List (Addr×List Int)),vs=[.ref p]/\SqL X.K H1 p (ts.map λt:Addr×List Int=>V.ref t.1)/\(∀t∈ts,SqT X.K H1 t.1 (t.2.map V.int))/\(ts=[]->Q .non H1)/\∀(i:Nat) (t:Addr×List Int),ts[i]? = some t->(∀u∈ts,t.2.length<=u.2.length)->(∀(j:Nat) (u:Addr×List Int),j<i->ts[j]? = some u->t.2.length<u.2.length)->Q (.ref t.1) H1) I h) λus s1 ⟨vs,H1,I1,r1,q1⟩ =>?_) ha hplain rfl rfl
  show Ee _ _ (evalAll ((do let v ← eval (.Name "len" p2) X.env;standAt pos;pure v) :: (do let v ← eval (.Constant .none j p3) X.env;standAt pos;pure v) :: [])) _ _ s1
  refine L6 (DH (d9 I1 hg2 hm2 PySem.boot_len (DH (Jw (DN ?_)))))
  refine L6 (DH (Constant_none (DH (Jw (DN (wpAny_evalAll_nil ?_))))))
  show Ee _ _ (call (.builtin "min") us [("key",.builtin "len"),("default",.none)]) _ _ s1
  obtain ⟨a,ts,rfl,hq,ht,q0,q⟩:=q1
  obtain ⟨u,rfl,ru⟩:=vals1 r1
  cases (show u=D8 a from ru)
  obtain ⟨its,rv,p1,_⟩:=I1.list hq
  have ll:=rv.length
  rw[DI] at ll
  refine MnT.DB (ts:=ts) (I1.ok.hd hc) p1.isList (λt h' =>?_) (λi v hv =>?_) (λt h' =>?_) λv h' tk hv k =>?_
  · obtain ⟨i2,r2,p2,_⟩:=I1.tuple (ht t h')
    exact ⟨_,p2,intsAre_of r2⟩
  · rw[ED] at hv
    have hi:i<ts.length:=by rw[ll];exact (DQ.mp hv).1
    have e1:(ts.map λt=>V.ref t.1)[i]? = some (.ref ts[i].1):=by rw[D1,DL hi];rfl
    obtain ⟨w',ew,rw'⟩:=rv.get e1
    rw[ew] at hv
    exact ⟨ts[i],DL hi,(EA hv).symm.trans rw'⟩
  · obtain ⟨i2,r2,p2,z2⟩:=I1.tuple (ht t h')
    rw[DI,G4] at z2
    lia
  · rw[DR, <- ll] at hv
    rcases hv with ⟨hn,t,et,rfl⟩ | ⟨hn,rfl⟩
    · refine ⟨.ref t.1,H1,I1.kept k,rfl,q _ t et (λu hu =>?_) λj u hj eu =>?_⟩
      · obtain ⟨i,hi,eu⟩:=IJ hu
        have:=MnT.yp (λi=>(ts.getD i (0,[])).2.length) (ts.length-1) i (by lia)
        rw[DX,DX,et,DL hi,eu] at this
        exact this
      · have:=MnT.A7 (λi=>(ts.getD i (0,[])).2.length) (ts.length-1) j hj
        rw[DX,DX,et,eu] at this
        exact this
    · exact ⟨.non,H1,I1.kept k,rfl,q0 (IX.mp hn)⟩
end
section
variable  {X:Cx}
theorem sM (hu:X.A.units+8<cLine):OpR X (Fl .NotIn) (λx y H Q=>∃(p b:Addr) (ts:List (Addr×List Int)) (m:List Int),x = .ref b/\y = .ref p/\(H p=some (.tup (ts.map λt =>.ref t.1))\/H p=some (.lst (ts.map λt =>.ref t.1)))/\(∀t∈ts,H t.1=some (.tup (t.2.map V.int)))/\H b=some (.tup (m.map V.int))/\Q (.bl (!decide (m∈ts.map (·.2)))) H):=by
 intro pins s σ H x y v u Q I rx ry h
 obtain ⟨p,b,ts,m,rfl,rfl,hp | hp,ht,hb,q⟩:=h
 ·exact ip hu pins s σ H _ _ v u Q I rx ry ⟨p,b,ts,m,rfl,rfl,hp,ht,hb,q⟩
 ·exact fC hu pins s σ H _ _ v u Q I rx ry ⟨p,b,ts,m,rfl,rfl,hp,ht,hb,q⟩
theorem yr {K:DM}(hu:X.A.units+8<cLine)(hK:X.K=K:=by rfl):OpR X (Fl .NotEq) (λx y H Q=>∃(a b:Addr) (ns ms:List Int),x = .ref a/\y = .ref b/\SqT K H a (ns.map V.int)/\SqT K H b (ms.map V.int)/\Q (.bl (!decide (ns=ms))) H):=by
 subst hK
 intro pins s σ H x y v u Q I rx ry h
 obtain ⟨a,b,ns,ms,rfl,rfl,h1,h2,q⟩:=h
 cases (show v=D8 a from rx)
 cases (show u=D8 b from ry)
 obtain ⟨its,r1,p1,_⟩:=I.tuple h1
 obtain ⟨its2,r2,p2,_⟩:=I.tuple h2
 have l1:=r1.length
 have l2:=r2.length
 rw[DI] at l1 l2
 have hu1:X.A.units<cLine:=by lia
 have R:=LD (A:=X.A) (e:=qQ ns ms) (show s.heap.IsTuple a its.toArray from p1) (show s.heap.IsTuple b its2.toArray from p2) hu1 (by
  intro j h1 h2
  obtain ⟨t1,g1⟩:=pK r1 h1
  obtain ⟨t2,g2⟩:=pK r2 h2
  rw[g1,g2]
  exact GJ _ t1 _ t2)
 rw[DR,DR, <- l1, <- l2,oI] at R
 exact R _ _ _ _ ⟨.bl _,H,I,rfl,q⟩
end
end L2
namespace Srt
open PySem PyProof.Rows
section
variable  {prog:D9}{w:EE}{A:EV}{E:DK->DP->Prop}{s:DP}{O:Jm}{key:DK->O.α}
theorem qZ {v:DK}{vs:List DK}{Q:DK->DP->Prop}(hv:lJ prog w s v vs)(hz:vs.length<=D3)
  (C:2<=vs.length->∀(B:EV) (h6:Heap),B.units<=A.units+6->(∀b o,s.heap.get? b=some o->h6.get? b=some o)->∃κ,(∀(Q:SortKind->DP->Prop) (E:DK->DP->Prop),Q κ { s with heap:=h6 }->Ee (Es prog w) B (keyKind' vs.toArray) Q E { s with heap:=h6 }) ∧
  Cmp prog w B { s with heap:=h6 } O (λp=>key p.1) (λp=>p.1=p.2/\p.1∈vs) κ)
  (h:∀(h':Heap) (p:Addr) (out:List DK) (n:Nat),(∀b o,s.heap.get? b=some o->h'.get? b=some o)->s.heap.objs.size<=p->h'.get? p=some (seqObj "list" out.toArray n)->out.Perm vs->out.Pairwise (λx y=>O.kle (key x) (key y))->Q (.ref p) { s with heap:=h' }) :
  Ee (Es prog w) A (call (.builtin "sorted") [v]) Q E s:=by
 refine Iy MZ Mv Mw (Mx _) ?_
 unfold Builtin.«sorted»
 refine DH (m:=checkCount "sorted" 1 1 _) (DN ?_)
 refine DH (hv _ _ _ λh1 k1 z1=>DH (Jx ?_ hz))
 have hoL:(h1.push (seqObj "list" vs.toArray 0)).get? h1.objs.size=some (seqObj "list" vs.toArray 0):=D2 _ rfl
 have kL:∀b o,s.heap.get? b=some o->(h1.push (seqObj "list" vs.toArray 0)).get? b=some o:=λb o e=>DJ _ (k1 b o e)
 refine DH (Fb (E8 slot_list_sort ⟨_,hoL,rfl⟩ entry_list_sort (eE (key:=key) (O:=O) hoL hz (λh2 h6 k6 =>?_) λout pm ps=>⟨_,rfl,?_⟩) (Lx _)))
 ·refine C h2 _ h6 ?_ λb o e=>k6 b o (Ed (Ec (D4 e) z1)) (kL b o e)
  simp only[MJ]
  lia
 ·obtain ⟨n,en⟩:=L3 (out:=out.toArray) hoL
  refine DN ⟨_,rfl,h _ _ out n (λb o e =>?_) z1 en pm ps⟩
  have lt:=Ec (D4 e) z1
  rw[Ly (Ed lt) (by rw[Mq];exact FG lt)]
  exact kL b o e
end
def pLt (a b:List Int×List Int):Bool:=if a.1=b.1 then HT.lexLt a.2 b.2 else HT.lexLt a.1 b.1
theorem sO (a:List Int×List Int):pLt a a=false:=by unfold pLt;rw[if_pos rfl];exact lex_irrefl _
theorem oO (a b c:List Int×List Int)(h1:pLt a b=true)(h2:pLt b c=true):pLt a c=true:=by
 unfold pLt at *
 by_cases e1:a.1=b.1
 ·rw[if_pos e1] at h1
  by_cases e2:b.1=c.1
  ·rw[if_pos e2] at h2
   rw[if_pos (e1.trans e2)]
   exact lex_trans _ _ _ h1 h2
  ·rw[if_neg e2] at h2
   rw[if_neg (λz=>e2 (e1.symm.trans z)),e1];exact h2
 ·rw[if_neg e1] at h1
  by_cases e2:b.1=c.1
  ·rw[if_neg (λz=>e1 (z.trans e2.symm)), <- e2];exact h1
  ·rw[if_neg e2] at h2
   have h3:=lex_trans _ _ _ h1 h2
   rw[if_neg (λz =>?_)]
   ·exact h3
   ·rw[z,lex_irrefl] at h3;cases h3
theorem oP (a b:List Int×List Int)(h1:pLt a b=false)(h2:pLt b a=false):a=b:=by
 unfold pLt at *
 by_cases e:a.1=b.1
 ·rw[if_pos e] at h1
  rw[if_pos e.symm] at h2
  exact Kf e (df _ _ h1 h2)
 ·rw[if_neg e] at h1
  rw[if_neg (λz=>e z.symm)] at h2
  exact absurd (df _ _ h1 h2) e
theorem Ao (a b c:List Int×List Int)(h:pLt a c=true):pLt a b=true\/pLt b c=true:=by
 by_cases h1:pLt a b=true
 ·exact .inl h1
 ·right
  have h1:pLt a b=false:=GX.mpr h1
  by_cases h2:pLt b a=true
  ·exact oO _ _ _ h2 h
  ·rw[<- oP a b h1 (GX.mpr h2)];exact h
def Ap:Jm where
 α:=List Int×List Int
 blt:=pLt
 irrefl:=sO
 trans:=oO
 negTrans:=Ao
 total:=oP
def i7 (h:Heap)(v:DK):List Int×List Int:=match v with
 | .ref p=>match h.get? p with
  | some o=>match o.data with
   | .seq xs _=>(cF h (xs.toList.getD 0 .none),cF h (xs.toList.getD 1 .none))
   | _=>([],[])
  | none=>([],[])
 | _=>([],[])
def IsPair (h:Heap)(v:DK)(k:List Int×List Int):Prop:=∃p o xs n a b,v = .ref p/\h.get? p=some o/\o.cls = .type "tuple" /\ o.data = .seq xs n/\xs.toList=[.ref a,.ref b]/\bX h (.ref a) k.1/\bX h (.ref b) k.2
theorem IsPair.key {h:Heap}{v:DK}{k:List Int×List Int}(x:IsPair h v k):i7 h v=k:=by
 obtain ⟨p,o,xs,n,a,b,rfl,e,_,d,r,i1,i2⟩:=x
 unfold i7
 dsimp only
 rw[e]
 dsimp only
 rw[d]
 dsimp only
 rw[r]
 exact Kf i1.ints i2.ints
theorem IsPair.keeps {h h':Heap}{v:DK}{k:List Int×List Int}(x:IsPair h v k)(kp:∀b o,h.get? b=some o->h'.get? b=some o):IsPair h' v k:=by
 obtain ⟨p,o,xs,n,a,b,rfl,e,c,d,r,i1,i2⟩:=x
 exact ⟨p,o,xs,n,a,b,rfl,kp _ _ e,c,d,r,i1.keeps kp,i2.keeps kp⟩
theorem bX.isTup {h:Heap}{a:Addr}{ns:List Int}(x:bX h (.ref a) ns):∃its:Array DK,IsTup h a its/\Gh its.toList ns:=by
 obtain ⟨p,o,xs,n,e,g,c,d,r⟩:=x
 cases e
 exact ⟨xs,⟨o,g,c,n,d⟩,r⟩
theorem oQ {A:EV}{s:DP}{a b:Addr}{ns ms:List Int}(hu:A.units<cLine)(x:bX s.heap (.ref a) ns)(y:bX s.heap (.ref b) ms):Iu A s (.ref a) (.ref b) (decide (ns=ms)):=by
 obtain ⟨p,o,xs,n,e,g,c,d,r⟩:=x
 cases e
 obtain ⟨p',o',xs',n',e',g',c',d',r'⟩:=y
 cases e'
 exact λprog w E Q q=>JS (knd:=intKind prog w) hu ⟨o,_,n,g,c,d,L2.gN r⟩ ⟨o',_,n',g',c',d',L2.gN r'⟩ q
theorem i8 {h:Heap}:∀{vs:List DK},(∀v∈vs,∃k,IsPair h v k)->∃fs,PySem.W.KatTups h vs fs/\fs.length=vs.length/\∀f∈fs,∃a ns,f = .ref a/\bX h f ns
 | [],_=>⟨[],trivial,rfl,λf hf=>by cases hf⟩
 | v :: vs,hv=>by
  obtain ⟨fs,t,l,hf⟩:=i8 λu hu=>hv u (Em _ hu)
  obtain ⟨k,p,o,xs,n,a,b,rfl,e,c,d,r,i1,i2⟩:=hv v En
  have hx:xs[0]? = some (.ref a):=by rw[<- D7,r];rfl
  exact ⟨.ref a :: fs,Lk e c d hx t,by rw[Eu,Eu,l],λf hf'=>by
   rcases Eg.mp hf' with q | q
   ·exact ⟨a,_,q,q ▸ i1⟩
   ·exact hf f q⟩
section
variable  {prog:D9}{w:EE}{s:DP}
theorem nJ {vs:List DK}(hv:∀v∈vs,∃k,IsPair s.heap v k)(h2:2<=vs.length)(A:EV)(h6:Heap)(hu:A.units<cLine)(k6:∀b o,s.heap.get? b=some o->h6.get? b=some o):∃κ,(∀(Q:SortKind->DP->Prop) (E:DK->DP->Prop),Q κ { s with heap:=h6 }->Ee (Es prog w) A (keyKind' vs.toArray) Q E { s with heap:=h6 }) ∧
  Cmp prog w A { s with heap:=h6 } Ap (λp=>i7 s.heap p.1) (λp=>p.1=p.2/\p.1∈vs) κ:=by
 refine ⟨tuples' false,λQ E q =>?_,⟨λE st x y Q hk hx hy q =>?_⟩⟩
 ·obtain ⟨fs,t,l,hf⟩:=i8 (h:=h6) (vs:=vs) λv hv'=>by
   obtain ⟨k,i⟩:=hv v hv'
   exact ⟨k,i.keeps k6⟩
  refine ME (T :=.type "tuple") t (by lia) (λf hf' =>?_) rfl q
  obtain ⟨a,ns,rfl,p,o,xs,n,e,g,c,d,r⟩:=hf f hf'
  cases e
  have L:PySem.W.Looks (Es prog w) h6 (typeOf (.ref a)) o.cls:=(NC g).andThen .now
  rw[c] at L
  exact L
 ·obtain ⟨k1,i1⟩:=hv _ hx.2
  obtain ⟨k2,i2⟩:=hv _ hy.2
  have q':Q (some (pLt (i7 s.heap x.1) (i7 s.heap y.1))) st:=q
  rw[i1.key,i2.key] at q'
  obtain ⟨p1,o1,xs1,n1,a1,b1,e1,g1,c1,d1,r1,u1,v1⟩:=i1.keeps k6
  obtain ⟨p2,o2,xs2,n2,a2,b2,e2,g2,c2,d2,r2,u2,v2⟩:=i2.keeps k6
  rw[lt'_eq]
  refine Eb (JH ?_)
  rw[hk,e1,e2]
  refine Eb (JR (GG (Na g1 d1 g2 d2 ?_)))
  rw[r1,r2]
  obtain ⟨j1,w1,z1⟩:=u1.isTup
  obtain ⟨j2,w2,z2⟩:=u2.isTup
  obtain ⟨j3,w3,z3⟩:=v1.isTup
  obtain ⟨j4,w4,z4⟩:=v2.isTup
  have sz:decide (xs1.size<xs2.size)=false:=decide_eq_false (by rw[<- DY, <- DY,r1,r2];exact Fe _)
  rw[sz]
  refine Ku (oQ hu u1 u2 _ _ _ _ ?_)
  unfold pLt at q'
  by_cases e:k1.1=k2.1
  ·rw[if_pos e] at q'
   rw[decide_eq_true e]
   refine K3 (Ku (oQ hu v1 v2 _ _ _ _ ?_))
   by_cases e':k1.2=k2.2
   ·rw[decide_eq_true e']
    refine K3 (JD ⟨rfl,Ej ?_⟩)
    rw[e',lex_irrefl] at q';exact q'
   ·rw[decide_eq_false e']
    refine Lu (MT _ _ (HT.ic w3 w4 z3 z4 hu ⟨rfl,Ej q'⟩))
  ·rw[if_neg e] at q'
   rw[decide_eq_false e]
   exact Lu (MT _ _ (HT.ic w1 w2 z1 z2 hu ⟨rfl,Ej q'⟩))
end
end Srt
namespace L2
open PySem PySem.Spec PyProof.Rows
section
variable  {X:Cx}
def Rws (H:Hp)(ks:List (Addr×(Addr×List Int)×Addr×List Int)):Prop:=∀k∈ks,H k.1=some (.tup [.ref k.2.1.1,.ref k.2.2.1])/\H k.2.1.1=some (.tup (k.2.1.2.map V.int))/\H k.2.2.1=some (.tup (k.2.2.2.map V.int))
theorem mq:∀{ps:List (Addr×(Addr×List Int)×Addr×List Int)} {us:List DK},Vals (ps.map λx=>V.ref x.1) us->us=ps.map λx=>D8 x.1
 | [],_,r=>by cases r;rfl
 | p :: ps,_,r=>by
  cases r with
  | cons h t=>rw[Ew, <- mq t,show _=D8 p.1 from h]
theorem pN (hu:X.A.units+8<cLine):bH X (.builtin "sorted") (λxs H Q=>∃(p:Addr) (ks:List (Addr×(Addr×List Int)×Addr×List Int)),xs=[.ref p]/\H p=some (.lst (ks.map λk =>.ref k.1))/\Rws H ks ∧
  ∀(l:Addr) (out:List (Addr×(Addr×List Int)×Addr×List Int)),H l=none->out.Perm ks->Q (.ref l) (upd H l (.lst (out.map λt =>.ref t.1)))):=by
 intro pins s σ H xs us Q I r h
 obtain ⟨p,ks,rfl,hs,ht,q⟩:=h
 obtain ⟨u,rfl,ru⟩:=vals1 r
 cases (show u=D8 p from ru)
 obtain ⟨its,o,n,rv,e,c,d,z⟩:=I.qy (.inl (SqL.of hs))
 have ei:=mq rv
 have lz:its.length<=D3:=by rw[<- rv.length];exact z
 have tI:∀{a:Addr} {ns:List Int},H a=some (.tup (ns.map V.int))->Srt.bX s.heap (D8 a) ns:=λ{a ns} h=>by
  obtain ⟨jts,jr,⟨jo,je,jc,jn,jd⟩,_⟩:=I.tuple (SqT.of h)
  exact ⟨a,jo,_,jn,rfl,je,jc,jd,by simpa using cv jr⟩
 have hv:∀v∈its,∃k,Srt.IsPair s.heap v k:=λv hv=>by
  rw[ei] at hv
  obtain ⟨k,hm,rfl⟩:=DZ.mp hv
  obtain ⟨h1,h2,h3⟩:=ht k hm
  obtain ⟨jts,jr,⟨jo,je,jc,jn,jd⟩,_⟩:=I.tuple (SqT.of h1)
  refine ⟨(k.2.1.2,k.2.2.2),k.1,jo,_,jn,k.2.1.1,k.2.2.1,rfl,je,jc,jd,?_,tI h2,tI h3⟩
  cases jr with
  | cons g1 t1=>cases t1 with
   | cons g2 t2 =>
    cases t2
    rw[show _=D8 k.2.1.1 from g1,show _=D8 k.2.2.1 from g2]
 refine Srt.qZ (Srt.iT e c d lz) lz (λh2 B h6 hB k6=>Srt.nJ hv h2 B h6 (by lia) k6) λh' l out m k hl el pm ps =>?_
 rw[ei] at pm
 obtain ⟨out',pm',rfl⟩:=ig pm
 exact ⟨.ref l,_,I.newList k hl el eU (by rw[DI,pm'.length_eq, <- DI (f:=λt:Addr×(Addr×List Int)×Addr×List Int=>V.ref t.1)];exact z),rfl,q l _ (I.hok.fresh hl) pm'⟩
theorem Aq {K:DM}(hu:X.A.units+8<cLine)(hK:X.K=K:=by rfl):OpR X (Fl .Lt) (C3 K):=by
 subst hK;exact BP (by lia)
def yt (us ws:List (Addr×List Int))(j:Nat):Bool:=decide ((us.map (·.2)).getD j []=(ws.map (·.2)).getD j [])
theorem wt {us ws:List (Addr×List Int)}(h:us.length=ws.length):((EU us.length).all λj=>yt us ws j)=decide (us.map (·.2)=ws.map (·.2)):=by
 rw[Gb,decide_eq_true_iff,Gf]
 constructor
 ·intro hh
  refine ID (by rw[DI,DI];exact h) λj h1 h2 =>?_
  have:=of_decide_eq_true (hh j (E9.mpr (by rw[DI] at h1;exact h1)))
  rw[DX,DX,DL h1,DL h2] at this
  exact this
 ·intro e j _
  exact decide_eq_true (by rw[e])
theorem A8 {us:List (Addr×List Int)}{its:List DK}(r:Vals (us.map λu=>V.ref u.1) its){j:Nat}(h:j<its.toArray.size):∃u,us[j]? = some u/\its.toArray[j] = .ref u.1:=by
 have e:=cI r
 subst e
 rw[DR,DI] at h
 exact ⟨us[j],DL h,by simp⟩
theorem pO {k:Nat}(hr:cB k X.A):OpR X (Fl .NotEq) (λx y H Q=>∃(a b:Addr) (us ws:List (Addr×List Int)),x = .ref a/\y = .ref b/\H a=some (.lst (us.map λu =>.ref u.1))/\H b=some (.lst (ws.map λu =>.ref u.1))/\(∀u∈us,H u.1=some (.tup (u.2.map V.int)))/\(∀u∈ws,H u.1=some (.tup (u.2.map V.int)))/\Q (.bl (!decide (us.map (·.2)=ws.map (·.2)))) H):=by
 intro pins s σ H x y v u Q I rx ry h
 obtain ⟨a,b,us,ws,rfl,rfl,h1,h2,t1,t2,q⟩:=h
 cases (show v=D8 a from rx)
 cases (show u=D8 b from ry)
 obtain ⟨its,r1,p1,_⟩:=I.list (SqL.of (K:=X.K) h1)
 obtain ⟨its2,r2,p2,_⟩:=I.list (SqL.of (K:=X.K) h2)
 have l1:=r1.length
 have l2:=r2.length
 rw[DI] at l1 l2
 have hu:=hr.un
 have hu1:X.A.units<cLine:=by lia
 by_cases hl:us.length=ws.length
 ·have R:=SeqAt.RcNeAt.lists (A:=X.A) (e:=yt us ws) p1.isList p2.isList (by rw[DR,DR];lia) hu1 (by
   intro j h1 h2
   obtain ⟨u,eu,g1⟩:=A8 r1 h1
   obtain ⟨w,ew,g2⟩:=A8 r2 h2
   rw[g1,g2]
   have:=I.eqT (A:=X.A.in1) (by rw[MJ];lia) (SqT.of (t1 u (DV eu))) (SqT.of (t2 w (DV ew)))
   unfold yt
   rw[DX,DX,D1,D1,eu,ew]
   exact this)
  rw[DR, <- l1,wt hl] at R
  exact R _ _ _ _ ⟨.bl _,H,I,rfl,q⟩
 ·have ne:us.map (·.2)≠ws.map (·.2):=λz=>hl (by have:=congrArg List.length z;simpa using this)
  rw[decide_eq_false ne] at q
  exact SeqAt.RcNeAt.lists_lengths (A:=X.A) p1.isList p2.isList (by simp;lia) hu1 _ _ _ _ ⟨.bl true,H,I,rfl,q⟩
theorem ku {K:DM}(h:X.K=K:=by rfl):bH X (.type "tuple") (λxs H Q=>∃p ys,xs=[.ref p]/\((SqL K H p ys/\∀l,H l=none->Q (.ref l) (upd H l (.tup ys)))\/(SqT K H p ys/\Q (.ref p) H))):=by
 subst h;exact aN
end
def bV (K:DM)(x:Str)(st:Stmt):Prop:=∃(f:Addr) (od an:Option Addr) (sl:Array (Option DK)) (oc kV dc pm cd ct:DK),EO K Ey x=some (some (.ref f))/\K.lookup f=some ⟨oc,od,.func (PySem.W.fnOf x x (dC st) (ck st) (ak st) .none kV dc pm an cd ct),sl⟩/\PySem.W.codeIn K cd x=true/\PySem.W.keepIn K (.ref f)=true
theorem bV.mk {K:DM}{x:Str}{st:Stmt}{f:Addr}{od an:Option Addr}{sl:Array (Option DK)}{oc kV dc pm cd ct:DK}(a:EO K Ey x=some (some (.ref f)))(l:K.lookup f=some ⟨oc,od,.func (PySem.W.fnOf x x (dC st) (ck st) (ak st) .none kV dc pm an cd ct),sl⟩)(c:PySem.W.codeIn K cd x=true)(k:PySem.W.keepIn K (.ref f)=true):bV K x st:=⟨_,_,_,_,_,_,_,_,_,_,a,l,c,k⟩
theorem bV.cal {K:DM}{x:Str}{st:Stmt}(hf:bV K x st)(P:D9)(w:EE)(base:Heap){h:Heap}{mg:Str->Option DK}(X:K.In h)(G:h.Ns Ey mg){lv:Nat}{ps:List Str}{sp:Sp}(ok:∀{f:Addr} {fd:E4},Fun K x x st f fd->bG P w K mg base CX0 lv f fd ps sp)
  (hb:∀(kV doc pm:DK) (an:Option Addr) (cdv ct:DK) (us:List DK),us.length=ps.length->bindArgs (PySem.W.fnOf x x (dC st) (ck st) (ak st) .none kV doc pm an cdv ct) ⟨us,[]⟩=pure (ps.zip us)):Cal P w K mg base lv x ps sp:=by
 obtain ⟨f,od,an,sl,oc,kV,dc,pm,cd,ct,a,l,c,k⟩:=hf
 have F:=rM l c k
 exact ⟨_,_,ok F,FL X G a,k,F.binds hb⟩
theorem bV.DC {K:DM}{x:Str}{st:Stmt}(hf:bV K x st)(P:D9)(w:EE)(base:Heap){h:Heap}{mg:Str->Option DK}(X:K.In h)(G:h.Ns Ey mg){lv:Nat}{ps:List Str}{sp:Sp}(ok:∀{f:Addr} {fd:E4},Fun K x x st f fd->bG P w K mg base (CX1 P w) lv f fd ps sp)
  (hb:∀(kV doc pm:DK) (an:Option Addr) (cdv ct:DK) (us:List DK),us.length=ps.length->bindArgs (PySem.W.fnOf x x (dC st) (ck st) (ak st) .none kV doc pm an cdv ct) ⟨us,[]⟩=pure (ps.zip us)):qY P w K mg base lv x ps sp:=by
 obtain ⟨f,od,an,sl,oc,kV,dc,pm,cd,ct,a,l,c,k⟩:=hf
 have F:=rM l c k
 exact ⟨_,_,ok F,FL X G a,k,F.binds hb⟩
end L2
set_option maxHeartbeats 800000
namespace K71
open PySem L2
abbrev LA:=List (Addr×List Int)
abbrev KX:=List (Addr×(Addr×List Int)×Addr×List Int)
variable  {P:D9}{w:EE}{K:DM}{mg:Str->Option DK}{base:Heap}{f T:Addr}{fd:E4}
def top (i:Nat):Stmt:=PySem.Challenge.pw_ringfell_k71_thinned_arrows.main.body.getD i (.Pass ⟨0,0,0,0⟩)
abbrev jC:Stmt:=top 14
abbrev jD:Stmt:=top 16
abbrev my:Stmt:=top 17
abbrev eF:Stmt:=top 18
abbrev fD:Stmt:=top 19
abbrev mz:Stmt:=top 20
abbrev iq:Stmt:=top 21
abbrev eY:Stmt:=top 23
abbrev fZ:Stmt:=top 24
abbrev f9:Stmt:=top 26
abbrev jE:Stmt:=top 27
abbrev gp:Stmt:=top 28
abbrev mB:Stmt:=top 29
abbrev dM:Stmt:=top 31
abbrev fE:Stmt:=top 32
abbrev eG:Stmt:=top 33
abbrev fF:Stmt:=top 34
abbrev dO:Stmt:=top 35
abbrev dP:Stmt:=top 36
abbrev pP:Stmt:=top 37
abbrev eI:Stmt:=top 38
abbrev mC:Stmt:=top 40
abbrev sP:Stmt:=top 41
abbrev mD:Stmt:=top 42
abbrev jF:Stmt:=top 43
abbrev jG:Stmt:=top 44
abbrev pQ:Stmt:=top 45
abbrev jH:Stmt:=top 46
abbrev gq:Stmt:=top 47
abbrev gs:Stmt:=top 48
abbrev yu:Stmt:=top 49
abbrev jJ:Stmt:=top 50
abbrev wu:Stmt:=top 51
structure Blt (mg:Str->Option DK):Prop where
 b_all:mg "all" = none
 b_any:mg "any" = none
 b_bool:mg "bool" = none
 b_enumerate:mg "enumerate" = none
 b_int:mg "int" = none
 b_isinstance:mg "isinstance" = none
 b_len:mg "len" = none
 b_list:mg "list" = none
 b_max:mg "max" = none
 b_min:mg "min" = none
 b_range:mg "range" = none
 b_reversed:mg "reversed" = none
 b_set:mg "set" = none
 b_sorted:mg "sorted" = none
 b_tuple:mg "tuple" = none
 b_zip:mg "zip" = none
 b_ValueError:mg "ValueError" = none
theorem pR:Ff "all" = some (.builtin "all"):=by decide +kernel
theorem yv:Ff "any" = some (.builtin "any"):=by decide +kernel
theorem As:Ff "bool" = some (.type "bool"):=by decide +kernel
theorem Ct:Ff "int" = some (.type "int"):=by decide +kernel
theorem aI:Ff "isinstance" = some (.builtin "isinstance"):=by decide +kernel
theorem cJ:Ff "len" = some (.builtin "len"):=by decide +kernel
theorem fG:Ff "list" = some (.type "list"):=by decide +kernel
theorem yx:Ff "max" = some (.builtin "max"):=by decide +kernel
theorem mE:Ff "min" = some (.builtin "min"):=by decide +kernel
theorem yy:Ff "range" = some (.type "range"):=by decide +kernel
theorem pU:Ff "set" = some (.type "set"):=by decide +kernel
theorem eZ:Ff "sorted" = some (.builtin "sorted"):=by decide +kernel
theorem bB:Ff "tuple" = some (.type "tuple"):=by decide +kernel
theorem nK:Ff "ValueError" = some (.type "ValueError"):=by decide +kernel
theorem hu8 {A:EV}{k:Nat}(hr:cB k A):A.units+8<cLine:=Ih (IG (by decide:8<=64) _) hr.units
structure Ow (H:Hp)(b:Addr)(m:Int)(ts:LA):Prop where
 at':∃t,H b=some (.tup [.int m,.ref t])/\H t=some (.tup (ts.map λu =>.ref u.1))
 tup:Tus H ts
 rng:∀u∈ts,∃x y,u.2=[x,y]/\0<=x/\x<m/\0<=y/\y<m
theorem Ow.same {H H':Hp}{b:Addr}{m:Int}{ts:LA}(W:Ow H b m ts)(s:aA H H'):Ow H' b m ts:=by
 obtain ⟨t,e1,e2⟩:=W.at'
 exact ⟨⟨t,s _ _ e1,s _ _ e2⟩,W.tup.same s,W.rng⟩
theorem Ow.bu {n:Nat}{p:Addr}{H H':Hp}{b:Addr}{m:Int}{ts:LA}(W:Ow H b m ts)(u:Bu n p H H')(h:Pt n H p):Ow H' b m ts:=by
 obtain ⟨t,e1,e2⟩:=W.at'
 exact ⟨⟨t,u.tup h e1,u.tup h e2⟩,W.tup.bu u h,W.rng⟩
structure Od (m:Int)(os:List Int):Prop where
 nd:os.Nodup
 mem:∀v,v∈os↔0<=v/\v<m
 len:(os.length:Int)=m
def rgI (m:Nat):List Int:=(EU m).map λi:Nat=>(i:Int)
theorem gQ {m:Nat}{v:Int}:v∈rgI m↔0<=v/\v<m:=by
 unfold rgI
 rw[DZ]
 constructor
 ·rintro ⟨i,hi,rfl⟩
  have:=E9.mp hi
  lia
 ·intro h
  exact ⟨v.toNat,E9.mpr (by lia),by lia⟩
theorem yz:∀m:Nat,(rgI m).Pairwise (· < ·):=λm=>by
 unfold rgI
 rw[EN]
 exact (KN (n:=m)).imp λ{a b} h=>by lia
theorem wx (m:Nat):(rgI m).Nodup:=(yz m).imp λ{a b} h=>by lia
theorem pV (m:Nat):(rgI m).length=m:=by unfold rgI;simp
theorem dQ {R:List Int}{m:Nat}(nd:R.Nodup)(h:∀v∈R,0<=v/\v<m):R.length<=m:=by
 have:=GI nd (l₂:=rgI m) λv hv=>gQ.mpr (h v hv)
 rwa [pV] at this
def Fr (E:List (List Int))(rk:List Int)(p:Int):Prop:=∀a,[a,p]∈E->a∈rk
structure Nx (m:Nat)(E:List (List Int))(rk:List Int)(p:Int):Prop where
 p0:0<=p
 pm:p<m
 nm:p∉rk
 fr:Fr E rk p
def Gr (m:Nat)(E:List (List Int))(G:List Int):Prop:=G.Nodup/\∀i p,G[i]? = some p->Nx m E (G.take i) p/\∀q,Nx m E (G.take i) q->p<=q
def Stk (m:Nat)(E:List (List Int))(G:List Int):Prop:=∀p,¬ Nx m E G p
section
variable  {m:Nat}{E:List (List Int)}{G:List Int}
theorem Gr.nil:Gr m E []:=⟨FU,λi p e=>by simp at e⟩
theorem Gr.snoc {p:Int}(h:Gr m E G)(n:Nx m E G p)(le:∀q,Nx m E G q->p<=q):Gr m E (G++[p]):=by
 refine ⟨?_,λi x e =>?_⟩
 ·rw[HL]
  exact ⟨h.1,Fm.mpr ⟨by simp,FU⟩,λa ha b hb e=>by rw[DW] at hb;subst hb;subst e;exact n.nm ha⟩
 ·rcases HR i G.length with c | c
  ·rw[EH c] at e
   rw[Gg (by lia)]
   exact h.2 i x e
  ·have l:=(DQ.mp e).1
   rw[DT] at l
   have l':i<G.length+1:=l
   have:i=G.length:=by lia
   subst this
   have e':p=x:=by simpa using e
   subst e'
   rw[Gg (DS _),D5 (DS _)]
   exact ⟨n,le⟩
theorem Gr.rng (h:Gr m E G):∀v∈G,0<=v/\v<m:=λv hv=>by
 obtain ⟨i,e⟩:=Et.mp hv
 have:=(h.2 i v e).1
 exact ⟨this.p0,this.pm⟩
theorem Gr.len (h:Gr m E G):G.length<=m:=dQ h.1 h.rng
theorem Gr.uniq {G':List Int}(h:Gr m E G)(h':Gr m E G'):∀i,i<=G.length->i<=G'.length->G.take i=G'.take i
 | 0,_,_=>rfl
 | i+1,l,l'=>by
  have ih:=Gr.uniq h h' i (by lia) (by lia)
  have e:=DL (show i<G.length by lia)
  have e':=DL (show i<G'.length by lia)
  obtain ⟨n,le⟩:=h.2 i _ e
  obtain ⟨n',le'⟩:=h'.2 i _ e'
  rw[ih] at n le
  have:G[i]=G'[i]:=Int.le_antisymm (le _ n') (le' _ n)
  rw[Ef,Ef,ih,e,e',this]
theorem Gr.is {G':List Int}(h:Gr m E G)(h':Gr m E G')(l:G.length<=G'.length):G=G'.take G.length:=by
 have:=h.uniq h' G.length (DS _) l
 rwa [D5 (DS _)] at this
theorem Gr.full (h:Gr m E G)(l:G.length=m){v:Int}(v0:0<=v)(v1:v<m):v∈G:=Ea λn=>by
 have:=dQ (m:=m) (R:=v :: G) (Fm.mpr ⟨n,h.1⟩) λx hx=>by
  rcases Eg.mp hx with z | z
  ·subst z;exact ⟨v0,v1⟩
  ·exact h.rng x z
 rw[Eu] at this
 lia
theorem Gr.Au (h:Gr m E G)(l:G.length≠m):∃v:Int,0<=v/\v<m/\v∉G:=Ea λn=>by
 have:=GI (wx m) (l₂:=G) λv hv=>Ea λz=>n ⟨v,(gQ.mp hv).1,(gQ.mp hv).2,z⟩
 rw[pV] at this
 have:=h.len
 lia
theorem Gr.turn (h:Gr m E G){i:Nat}{L L':List Int}(hL:∀v∈L',v∈L/\∃a∈L,[a,v]∈E)(hi:∀v∈L,v∈G.drop i):∀v∈L',v∈G.drop (i+1):=λv hv=>by
 obtain ⟨h1,a,ha,ea⟩:=hL v hv
 obtain ⟨j,ej⟩:=Et.mp (hi v h1)
 obtain ⟨k,ek⟩:=Et.mp (hi a ha)
 rw[FK] at ej ek
 cases j with
 | succ j=>exact Et.mpr ⟨j,by rw[FK];rw[<- ej];congr 1;lia⟩
 | zero =>
  exfalso
  have:=(h.2 _ v ej).1.fr a ea
  obtain ⟨q,eq⟩:=Et.mp this
  have lq:=(DQ.mp eq).1
  rw[EF] at lq
  rw[HG (by lia)] at eq
  have lk:=(DQ.mp ek).1
  have:=(Mk (by lia) h.1).mp (eq.trans ek.symm)
  lia
theorem Stk.turn (h:Stk m E G){L L':List Int}(rE:∀a b,[a,b]∈E->0<=a/\a<m)(hL:∀v,v∈L->(∃a∈L,[a,v]∈E)->v∈L')(hi:∀v:Int,0<=v->v<m->v∉G->v∈L):∀v:Int,0<=v->v<m->v∉G->v∈L':=λv v0 v1 nv=>by
 refine hL v (hi v v0 v1 nv) (Ea λno=>h v ⟨v0,v1,nv,λa ea=>Ea λna=>no ⟨a,hi a (rE a v ea).1 (rE a v ea).2 na,ea⟩⟩)
end
def cn (E:List (List Int))(rk:List Int)(p:Int):Nat:=E.countP λt=>decide (t.getD 1 0=p/\t.getD 0 0∉rk)
def outs (E:List (List Int))(a:Int):List Int:=(E.filter λt=>decide (t.getD 0 0=a)).map (·.getD 1 0)
theorem uH {rk:List Int}{a p:Int}(na:a∉rk):∀E:List (List Int),cn E rk p=cn E (rk++[a]) p+(outs E a).count p
 | []=>rfl
 | t :: E=>by
  have ih:=uH na (p:=p) E
  unfold cn outs at ih ⊢
  rw[Kv,Kv]
  by_cases c:t.getD 0 0=a
  ·rw[FD (p:=λt:List Int=>decide (t.getD 0 0=a)) (decide_eq_true c),Ew,MP]
   by_cases d:t.getD 1 0=p
   ·rw[if_pos (decide_eq_true ⟨d,by rw[c];exact na⟩),if_neg (λz=>(of_decide_eq_true z).2 (EC _ (by rw[c];exact DW.mpr rfl))),if_pos (beq_iff_eq.mpr d)]
    lia
   ·rw[if_neg (λz=>d (of_decide_eq_true z).1),if_neg (λz=>d (of_decide_eq_true z).1),if_neg (λz=>d (beq_iff_eq.mp z))]
    lia
  ·rw[Fq (p:=λt:List Int=>decide (t.getD 0 0=a)) (λz=>c (of_decide_eq_true z))]
   have:decide (t.getD 1 0=p/\t.getD 0 0∉rk)=decide (t.getD 1 0=p/\t.getD 0 0∉rk++[a]):=decide_eq_decide.mpr ⟨λz=>⟨z.1,λy=>by rcases D6.mp y with y | y;exact z.2 y;exact c (DW.mp y)⟩,λz=>⟨z.1,λy=>z.2 (FJ _ y)⟩⟩
   rw[this]
   lia
theorem gR {E:List (List Int)}(pr:∀t∈E,∃x y:Int,t=[x,y]){rk:List Int}{p:Int}:cn E rk p=0↔Fr E rk p:=by
 unfold cn
 rw[List.countP_eq_zero]
 constructor
 ·intro h a ha
  have:=h _ ha
  apply Ea
  intro z
  exact this (decide_eq_true ⟨rfl,z⟩)
 ·intro h t ht z
  obtain ⟨x,y,rfl⟩:=pr t ht
  obtain ⟨z1,z2⟩:=of_decide_eq_true z
  have z1:y=p:=z1
  subst z1
  exact z2 (h x ht)
theorem mF {E:List (List Int)}(pr:∀t∈E,∃x y:Int,t=[x,y]){a v:Int}:v∈outs E a↔[a,v]∈E:=by
 unfold outs
 rw[DZ]
 constructor
 ·rintro ⟨t,ht,rfl⟩
  obtain ⟨h1,h2⟩:=Ga.mp ht
  obtain ⟨x,y,rfl⟩:=pr t h1
  have:x=a:=of_decide_eq_true h2
  subst this
  exact h1
 ·intro h
  exact ⟨[a,v],Ga.mpr ⟨h,decide_eq_true rfl⟩,rfl⟩
def swp (t:List Int):List Int:=[t.getD 1 0,t.getD 0 0]
theorem yA {E E':List (List Int)}(pm:E'.Perm (E.map swp))(p:Int):(outs E' p).length=cn E [] p:=by
 unfold outs cn
 rw[DI, <- List.countP_eq_length_filter,pm.countP_eq,MR]
 apply List.countP_congr
 intro t _
 show decide (t.getD 1 0=p)=true↔_
 simp
theorem wA (E:List (List Int))(x y a:Int):outs (E++[[x,y]]) a=outs E a++if x=a then [y] else []:=by
 unfold outs
 rw[FA,DU]
 congr 1
 by_cases c:x=a
 ·rw[if_pos c,FD (by simpa using c)];rfl
 ·rw[if_neg c,Fq (by simpa using c)];rfl
theorem q8 (E:List (List Int))(a:Int):(outs E a).length<=E.length:=by unfold outs;rw[DI];exact K7 _ _
def Rg (m:Int)(us:LA):Prop:=∀u∈us,∃x y,u.2=[x,y]/\0<=x/\x<m/\0<=y/\y<m
theorem Rg.snoc {m:Int}{us:LA}(h:Rg m us){t:Addr}{x y:Int}(x0:0<=x)(x1:x<m)(y0:0<=y)(y1:y<m):Rg m (us++[(t,[x,y])]):=λu hu=>by
 rcases D6.mp hu with z | z
 ·exact h u z
 ·rw[DW] at z;subst z;exact ⟨x,y,rfl,x0,x1,y0,y1⟩
structure Rows (H2 H':Hp)(as:List Addr)(vs:List (List Int)):Prop where
 len:vs.length=as.length
 row:∀(j:Nat) a v,as[j]? = some a->vs[j]? = some v->H' a=some (.lst (v.map V.int))
 stay:∀b u,b∉as->H2 b=some u->H' b=some u
theorem Rows.push {H2 H':Hp}{as:List Addr}{vs:List (List Int)}(R:Rows H2 H' as vs)(nd:as.Nodup){j:Nat}{a:Addr}{v:List Int}(ea:as[j]? = some a)(ev:vs[j]? = some v)(x:Int) :
  Rows H2 (upd H' a (.lst ((v.map V.int)++[V.int x]))) as (vs.set j (v++[x])):=by
 have hj:j<vs.length:=(DQ.mp ev).1
 refine ⟨by rw[KW];exact R.len,λi b u eb eu =>?_,λb u hb e =>?_⟩
 ·by_cases h:i=j
  ·subst h
   rw[ea] at eb;cases eb
   rw[F3 hj] at eu;cases eu
   rw[ag,DU];rfl
  ·rw[GR (Ft h)] at eu
   have ne:b≠a:=λz=>by
    subst z
    have hi:i<as.length:=(DQ.mp eb).1
    exact h ((Mk hi nd).mp (eb.trans ea.symm))
   rw[aq ne]
   exact R.row i b u eb eu
 ·have ne:b≠a:=λz=>hb (z ▸ DV ea)
  rw[aq ne]
  exact R.stay b u hb e
abbrev yB:Sp:=λvs H Q _=>∃(r:Addr) (m:Nat) (ts:LA),vs=[.ref r]/\Ow H r (m:Int) ts/\m<=200/\ts.length<=300/\∀(l:Addr) (H':Hp) (as:List Addr),aA H H'->H' l=some (.lst (as.map V.ref))->as.length=m->(∀(j:Nat) a,as[j]? = some a->H' a=some (.lst ((outs (ts.map (·.2)) (j:Int)).map V.int)))->Q (.ref l) H'
@[irreducible] def q9:Sp:=yB
theorem gS {vs:List V}{H:Hp}{Q:VK}{E:XK}:q9 vs H Q E↔yB vs H Q E:=by
 delta q9
 exact FZ
section
theorem ir:aK ["web", "lists", "arrow"] ["web"] (ak jD):=⟨rfl,rfl,rfl,by decide +kernel,rfl,by decide +kernel,by decide +kernel⟩
theorem jK:(["place"]:List Str).Nodup:=by decide +kernel
theorem sQ (F:Fun K "out_lists" "out_lists" jD f fd)(B:Blt mg):bG P w K mg base CX0 1 f fd ["web"] q9:=by
 refine F.ok ir (λvs H Q E h =>?_) (λcdv A outer s H vs Q E hr h =>?_)
 ·obtain ⟨_,_,_,rfl,_⟩:=gS.mp h
  rfl
 obtain ⟨r,m,ts,rfl,W,m2,tl,q⟩:=gS.mp h
 refine ⟨_,(ah (fj (i:=1) ["place"] [none] rfl ir.nd rfl rfl (bJ rfl B.b_range (aa (aH aP (pv 0) ai (λ_ _=>rfl)) ae rfl)) rfl (λ_ _ _ _ _=>(aB (i:=0) jK rfl (Or.inl rfl))) (λ_ _ _ _ _=>cA) (λ_ _ _ _ _=>(bI ae)))
  (ah (cz Fc rfl (hZ (aH aP (pv 0) ai (λ_ _=>rfl))) (aB (i:=2) ir.nd rfl (Or.inl rfl))
   (aj (cg (da Ex Fg Fh cc (aH bR (pv 1) (aH aP (pv 2) ai (λ_ _=>rfl)) (λ_ _=>rfl)) (aa (aH aP (pv 2) ai (λ_ _=>rfl)) ae rfl)))) (λ_=>rfl))
  (aj (aD (pv 1))))),?_⟩
 obtain ⟨t,e1,e2⟩:=W.at'
 let W0:Nat->List V->Hp->Prop:=λi ys H'=>aA H H'/\∃as:List Addr,ys=as.map V.ref/\as.length=i/\as.Nodup/\∀a∈as,H a=none/\H' a=some (.lst [])
 refine ⟨_,rfl,r,_,0,_,rfl,rfl,SqT.of e1,rfl,(m:Int),rfl,by lia,by lia,du (lo:=0) (n:=m) W0 ⟨aA.refl _,[],rfl,rfl,FU,λa ha=>by cases ha⟩ (small (by lia)) ?_ ?_⟩
 ·rintro i ys H3 hi hy ⟨s3,as,rfl,la,nd,ha⟩ R1 R0 r1 r0
  refine bO ⟨(by show 0<=D3;decide),λp hp=>r1 _ _ ⟨s3.trans (af hp _),as++[p],by rw[DU];rfl,by rw[DT,la];rfl,?_,λa m' =>?_⟩⟩
  ·rw[HL]
   refine ⟨nd,Fm.mpr ⟨by simp,FU⟩,λx hx y hy e =>?_⟩
   rw[DW] at hy
   subst hy;subst e
   rw[(ha x hx).2] at hp;cases hp
  ·rcases D6.mp m' with z | z
   ·exact ⟨(ha a z).1,(af hp _) _ _ (ha a z).2⟩
   ·rw[DW] at z
    subst z
    exact ⟨s3.free hp,ag⟩
 rintro ys H3 hy ⟨s3,as,rfl,la,nd,ha⟩ l hl
 have s1:=s3.trans (af hl (.lst (as.map V.ref)))
 have nl:l∉as:=λz=>by rw[(ha l z).2] at hl;cases hl
 have ha1:∀a∈as,upd H3 l (.lst (as.map V.ref)) a=some (.lst []):=λa z=>(af hl _) _ _ (ha a z).2
 have hl1:upd H3 l (.lst (as.map V.ref)) l=some (.lst (as.map V.ref)):=ag
 generalize upd H3 l (.lst (as.map V.ref))=H1 at s1 ha1 hl1
 have old:∀{b:Addr} {o:HO},H b=some o->b∉as:=λ{b o} e z=>by rw[(ha b z).1] at e;cases e
 let W1:Nat->St->Hp->Prop:=λi σ H'=>(∃c,σ=[some (.ref r),some (.ref l),c])/\∃vs,Rows H1 H' as vs/\∀(j:Nat) v,vs[j]? = some v->v=outs ((ts.map (·.2)).take i) (j:Int)
 refine ⟨_,rfl,r,_,1,_,rfl,rfl,SqT.of (s1 _ _ e1),rfl,t,rfl,⟨_,SqT.of (s1 _ _ e2)⟩,kI (xs:=ts.map λu =>.ref u.1) W1 ⟨⟨_,rfl⟩,FI m [],⟨by rw[KS,la],λj b v eb ev =>?_,λb u _ e=>e⟩,λj v ev =>?_⟩ (λi σ H' _ z =>?_) ?_ ?_⟩
 ·rw[IT] at ev
  split at ev
  ·cases ev
   exact ha1 b (DV eb)
  ·cases ev
 ·rw[IT] at ev
  split at ev
  ·cases ev;rfl
  ·cases ev
 ·obtain ⟨_,vs,R,_⟩:=z
  exact SqT.of (R.stay t _ (old e2) (s1 _ _ e2))
 ·rintro i x σ H' hx ⟨⟨c,rfl⟩,vs,R,RO⟩
  obtain ⟨u,eu,rfl⟩:=fO hx
  have mu:=DV eu
  obtain ⟨x,y,e3,x0,x1,y0,y1⟩:=W.rng u mu
  have hu0:=W.tup u mu
  have hu':=R.stay _ _ (old hu0) (s1 _ _ hu0)
  rw[e3] at hu'
  have tk:(ts.map (·.2)).take (i+1)=(ts.map (·.2)).take i++[[x,y]]:=by rw[Ef,D1,eu, <- e3];rfl
  obtain ⟨xn,rfl⟩:∃n:Nat,x=n:=⟨x.toNat,by lia⟩
  have lv:=R.len
  have hlst:=R.stay l _ nl hl1
  have axn:as[xn]? = some as[xn]:=DL (by lia)
  have vxn:vs[xn]? = some vs[xn]:=DL (by lia)
  have at1:atI (as.map V.ref) (xn:Int)=some (.ref as[xn]):=cj (by rw[D1,axn];rfl)
  have ll:vs[xn].length<=300:=by
   rw[RO xn _ vxn]
   refine EI (q8 _ _) ?_
   rw[EF,DI]
   lia
  have rowx:=R.row xn _ _ axn vxn
  refine ⟨_,rfl,_,rfl,u.1,_,0,_,rfl,rfl,SqT.of hu',rfl,l,_,(xn:Int),_,rfl,rfl,SqL.of hlst,at1,.inl ⟨rfl,_,SqL.of rowx⟩,_,rfl,u.1,_,1,_,rfl,rfl,SqT.of hu',rfl,as[xn],_,_,rfl,rfl,rowx,(by rw[DI];exact bq (by lia)),?_⟩
  refine ⟨⟨_,rfl⟩,_,R.push nd axn vxn y,λj v ev =>?_⟩
  rw[tk,wA]
  by_cases jx:xn=j
  ·subst jx
   rw[F3 (by lia)] at ev
   cases ev
   rw[if_pos rfl, <- RO xn _ vxn]
  ·rw[GR jx] at ev
   rw[if_neg (by lia),E6]
   exact RO j v ev
 ·rintro σ H' ⟨⟨c,rfl⟩,vs,R,RO⟩
  rw[DI,D5 (by rw[DI];exact DS _)] at RO
  refine ⟨_,rfl,q l H' as (λb o e=>R.stay b o (old e) (s1 _ _ e)) (R.stay l _ nl hl1) la λj a ea =>?_⟩
  have lv:=R.len
  have hj:=(DQ.mp ea).1
  have ev:vs[j]? = some vs[j]:=DL (by lia)
  rw[<- RO j _ ev]
  exact R.row j a _ ea ev
end
abbrev rf:Sp:=λvs H Q _=>∃(r:Addr) (m:Nat) (ts:LA),vs=[.ref r]/\Ow H r (m:Int) ts/\ts.length<=250/\∀(b:Addr) (us:LA) (H':Hp),aA H H'->Ow H' b (m:Int) us->(us.map (·.2)).Perm ((ts.map (·.2)).map swp)->us.Pairwise (λa b=>HT.lexLt b.2 a.2=false)->Q (.ref b) H'
@[irreducible] def kN:Sp:=rf
theorem gu {vs:List V}{H:Hp}{Q:VK}{E:XK}:kN vs H Q E↔rf vs H Q E:=by
 delta kN
 exact FZ
section
theorem mG:aK ["web"] ["web"] (ak eF):=⟨rfl,rfl,rfl,by decide +kernel,rfl,by decide +kernel,by decide +kernel⟩
theorem gv:(["arrow"]:List Str).Nodup:=by decide +kernel
theorem mH (F:Fun K "turned_arrows" "turned_arrows" eF f fd)(B:Blt mg):bG P w K mg base CX0 1 f fd ["web"] kN:=by
 refine F.ok mG (λvs H Q E h =>?_) (λcdv A outer s H vs Q E hr h =>?_)
 ·obtain ⟨_,_,_,rfl,_⟩:=gu.mp h
  rfl
 obtain ⟨r,m,ts,rfl,W,tl,q⟩:=gu.mp h
 refine ⟨_,(aj (aD (ba (aa (aH aP (pv 0) ai (λ_ _=>rfl)) (aa (aL aN rfl B.b_tuple bB (aa (au iX rfl B.b_sorted eZ (aa (bo ["arrow"] [none] rfl (hZ (aH aP (pv 0) ai (λ_ _=>rfl))) rfl (λ_ _ _ _ _=>(aB (i:=0) gv rfl (Or.inl rfl))) (λ_ _ _ _ _=>cA) (λ_ _ _ _ _=>(ba (aa (aH (cp (K:=K)) (pv 0) ai (λ_ _=>rfl)) (aa (aH (cp (K:=K)) (pv 0) ai (λ_ _=>rfl)) ae rfl) rfl)))) ae rfl)) ae rfl)) ae rfl) rfl)))),?_⟩
 obtain ⟨t,e1,e2⟩:=W.at'
 let W2:Nat->List V->Hp->Prop:=λi ys H'=>aA H H'/\∃us:LA,ys=us.map (λu =>.ref u.1)/\Tus H' us/\us.map (·.2)=((ts.map (·.2)).take i).map swp
 refine ⟨_,rfl,r,_,0,_,rfl,rfl,SqT.of e1,rfl,_,rfl,r,_,1,_,rfl,rfl,SqT.of e1,rfl,t,rfl,⟨_,SqT.of e2⟩,gH (xs:=ts.map λu =>.ref u.1) W2 ⟨aA.refl _,[],rfl,λu hu=>(by cases hu),rfl⟩ (by rw[DI];exact small (by lia)) (λi ys H' _ k=>SqT.of (k.1 _ _ e2)) ?_ ?_⟩
 ·rintro i x ys H1 hx hy ⟨s1,us,rfl,tu,eu⟩ R1 R0 r1 r0
  obtain ⟨u,hu,rfl⟩:=fO hx
  have mu:=DV hu
  obtain ⟨x,y,e3,_⟩:=W.rng u mu
  have hu1:=s1 _ _ (W.tup u mu)
  rw[e3] at hu1
  refine bO ⟨_,rfl,u.1,_,1,_,rfl,rfl,SqT.of hu1,rfl,_,rfl,u.1,_,0,_,rfl,rfl,SqT.of hu1,rfl,(by show 2<=D3;decide),λa ha=>r1 _ _ ⟨s1.trans (af ha _),us++[(a,[y,x])],by rw[DU];rfl,Tus.snoc (tu.same (af ha _)) (u:=(a,[y,x])) ag,?_⟩⟩
  rw[DU,eu,Ef,D1,hu,DU]
  show _++[[y,x]]=_++[swp u.2]
  rw[e3];rfl
 ·rintro ys H1 hy ⟨s1,us,rfl,tu,eu⟩ l hl
  rw[DI,D5 (by rw[DI];exact DS _)] at eu
  have rg:Rg (m:Int) us:=λu hu=>by
   have:u.2∈us.map (·.2):=DZ.mpr ⟨u,hu,rfl⟩
   rw[eu] at this
   obtain ⟨v,hv,ev⟩:=DZ.mp this
   obtain ⟨w,hw,rfl⟩:=DZ.mp hv
   obtain ⟨x,y,e,x0,x1,y0,y1⟩:=W.rng w hw
   exact ⟨y,x,by rw[<- ev,e];rfl,y0,y1,x0,x1⟩
  have g5:=af hl (.lst (us.map λu =>.ref u.1))
  have el:upd H1 l (.lst (us.map λu =>.ref u.1)) l=some (.lst (us.map λu =>.ref u.1)):=ag
  refine ⟨l,us,rfl,.inl (SqL.of el),λt ht=>⟨SqT.of ((tu.same g5) t ht),?_⟩,λl2 out hl2 pm so =>?_⟩
  ·obtain ⟨x,y,e,_⟩:=rg t ht
   rw[e]
   intro z
   cases z
  refine ⟨l2,_,rfl,.inl ⟨SqL.of ag,λl3 hl3=>⟨(by show 2<=D3;decide),λb hb =>?_⟩⟩⟩
  have gA:=((g5.trans (af hl2 (.lst (out.map λt =>.ref t.1)))).trans (af hl3 (.tup (out.map λt =>.ref t.1)))).trans (af hb (.tup [.int (m:Int),.ref l3]))
  refine q b out _ (s1.trans gA) ⟨⟨l3,ag,(af hb _) _ _ ag⟩,λu hu=>gA _ _ (tu u (pm.mem_iff.mp hu)),λu hu=>rg u (pm.mem_iff.mp hu)⟩ (by rw[<- eu];exact pm.map _) so
end
abbrev A9:Sp:=λvs H Q _=>∃(r:Addr) (m:Nat) (ts:LA),vs=[.ref r]/\Ow H r (m:Int) ts/\m<=200/\ts.length<=250/\∀(l:Addr) (H':Hp) (as:List Addr) (vs:List (List Int)),aA H H'->H' l=some (.lst (as.map V.ref))->as.length=m->vs.length=m->(∀(j:Nat) a v,as[j]? = some a->vs[j]? = some v->H' a=some (.lst (v.map V.int)))->(∀(j:Nat) v,vs[j]? = some v->v.length=cn (ts.map (·.2)) [] (j:Int))->(∃S:List (List Int),S.Perm ((ts.map (·.2)).map swp)/\S.Pairwise qz/\vs=(EU m).map λj:Nat=>outs S (j:Int))->Q (.ref l) H'
@[irreducible] def yC:Sp:=A9
theorem i9 {vs:List V}{H:Hp}{Q:VK}{E:XK}:yC vs H Q E↔A9 vs H Q E:=by
 delta yC
 exact FZ
section
theorem wB:aK ["web"] ["web"] (ak my):=⟨rfl,rfl,rfl,by decide +kernel,rfl,by decide +kernel,by decide +kernel⟩
theorem wC (F:Fun K "in_lists" "in_lists" my f fd)(B:Blt mg)(cOutLists:Cal P w K mg base 1 "out_lists" ["web"] q9)(cTurnedArrows:Cal P w K mg base 1 "turned_arrows" ["web"] kN):bG P w K mg base CX0 2 f fd ["web"] yC:=by
 refine F.ok wB (λvs H Q E h =>?_) (λcdv A outer s H vs Q E hr h =>?_)
 ·obtain ⟨_,_,_,rfl,_⟩:=i9.mp h
  rfl
 obtain ⟨r,m,ts,rfl,W,m2,tl,q⟩:=i9.mp h
 refine ⟨_,(aj (aD (ay cOutLists hr (by decide) rfl (aa (ay cTurnedArrows hr (by decide) rfl (aa (pv 0) ae rfl)) ae rfl)))),?_⟩
 refine ⟨_,rfl,gu.mpr ⟨r,m,ts,rfl,W,tl,λb us H1 s1 W1 pm so =>?_⟩⟩
 have lu:us.length=ts.length:=by have:=pm.length_eq;simpa using this
 refine gS.mpr ⟨b,m,us,rfl,W1,m2,by lia,λl H2 as s2 el la hr =>?_⟩
 refine q l H2 as ((EU m).map λj:Nat=>outs (us.map (·.2)) (j:Int)) (s1.trans s2) el la (by simp) (λj a v ea ev =>?_) (λj v ev =>?_) ⟨us.map (·.2),pm,by rw[EN];exact so,rfl⟩
 ·rw[D1] at ev
  have hj:j<m:=by have:=(DQ.mp ea).1;lia
  rw[JE hj] at ev
  cases ev
  exact hr j a ea
 ·rw[D1] at ev
  cases h:(EU m)[j]? with
  | none=>rw[h] at ev;cases ev
  | some k =>
   have:k=j:=by have:=DQ.mp h;obtain ⟨h1,h2⟩:=this;simpa using h2.symm
   subst this
   rw[h] at ev
   cases ev
   exact yA pm _
end
theorem aA.dh {H H':Hp}{l:Addr}(s:aA H H')(hl:H l=none)(o:HO):aA H (upd H' l o):=λb u e=>by
 rw[aq (av e hl)];exact s _ _ e
theorem yD {i:Nat}{v:V}{σ:St}{H:Hp}{Q:St->Hp->Prop}(h:Q (σ.set i (some v)) H):fR i v σ H Q:=h
theorem Cu {a b:TS}{D:Ends}{σ:St}{H:Hp}(h:a { D with nx:=b D } σ H):CH a b D σ H:=h
def Cv (H:Hp)(l:Addr):Nat:=match H l with
 | some (.lst xs)=>xs.length
 | _=>0
theorem uI {H:Hp}{l:Addr}{xs:List V}(e:H l=some (.lst xs)):Cv H l=xs.length:=by unfold Cv;rw[e]
abbrev Ba:Sp:=λvs H Q _=>∃(r:Addr) (m:Nat) (ts:LA),vs=[.ref r]/\Ow H r (m:Int) ts/\m<=200/\ts.length<=250/\∀(l:Addr) (H':Hp) (G:List Int),aA H H'->H l=none->H' l=some (.lst (G.map V.int))->Gr m (ts.map (·.2)) G->Stk m (ts.map (·.2)) G->Q (.ref l) H'
@[irreducible] def Av:Sp:=Ba
theorem mI {vs:List V}{H:Hp}{Q:VK}{E:XK}:Av vs H Q E↔Ba vs H Q E:=by
 delta Av
 exact FZ
section
theorem bY:aK ["web", "behind", "counts", "ready", "ranks", "place", "other"] ["web"] (ak f9):=⟨rfl,rfl,rfl,by decide +kernel,rfl,by decide +kernel,by decide +kernel⟩
theorem jL:(["row"]:List Str).Nodup:=by decide +kernel
theorem dS:(["place", "counts"]:List Str).Nodup:=by decide +kernel
theorem pW (F:Fun K "first_ranks" "first_ranks" f9 f fd)(B:Blt mg)(cOutLists:Cal P w K mg base 1 "out_lists" ["web"] q9)(cInLists:Cal P w K mg base 2 "in_lists" ["web"] yC):bG P w K mg base CX0 3 f fd ["web"] Av:=by
 refine F.ok bY (λvs H Q E h =>?_) (λcdv A outer s H vs Q E hr h =>?_)
 ·obtain ⟨_,_,_,rfl,_⟩:=mI.mp h
  rfl
 obtain ⟨r,m,ts,rfl,W,m2,tl,q⟩:=mI.mp h
 refine ⟨_,(ah (az (i:=1) bY.nd rfl (Or.inl rfl) (ay cOutLists hr (by decide) rfl (aa (pv 0) ae rfl)))
  (ah (az (i:=2) bY.nd rfl (Or.inr rfl) (bo ["row"] [none] rfl (bC (ay cInLists hr (by decide) rfl (aa (pv 0) ae rfl))) rfl (λ_ _ _ _ _=>(aB (i:=0) jL rfl (Or.inl rfl))) (λ_ _ _ _ _=>cA) (λ_ _ _ _ _=>(au (vt (K:=K)) rfl B.b_len cJ (aa (pv 0) ae rfl)))))
  (ah (fj (i:=3) ["place", "counts"] [none,some 2] rfl bY.nd rfl rfl (bJ rfl B.b_range (aa (aH aP (pv 0) ai (λ_ _=>rfl)) ae rfl)) rfl (λ_ _ _ _ _=>(aB (i:=0) dS rfl (Or.inl rfl))) (λ_ _ _ _ _=>(eB (ax cK (aH (xw (K:=K)) (pv 1) (pv 0) (λ_ _=>rfl)) ai (aE _)))) (λ_ _ _ _ _=>(pv 0)))
  (ah (az (i:=4) bY.nd rfl (Or.inl rfl) (bI ae))
  (ah (k7 Fc (qm (pv 3) (λ_=>rfl))
   (ah (az (i:=5) bY.nd rfl (Or.inl rfl) (au (v3 rfl) rfl B.b_min mE (aa (pv 3) ae rfl)))
   (ah (cg (da Ex IS PySem.F.type_list_remove sJ (pv 3) (aa (pv 5) ae rfl)))
   (ah (cg (da Ex Fg Fh cc (pv 4) (aa (pv 5) ae rfl)))
   (aj (cz Fc rfl (bC (aH bR (pv 1) (pv 5) (λ_ _=>rfl))) (aB (i:=6) bY.nd rfl (Or.inl rfl))
    (ah (zi (pv 2) (pv 6) vZ ai BF set_list)
    (aj (aX (ax cK (aH bR (pv 2) (pv 6) (λ_ _=>rfl)) ai (aE _)) (aj (cg (da Ex Fg Fh cc (pv 3) (aa (pv 6) ae rfl)))) aG))) (λ_=>rfl)))))))
  (aj (aD (pv 4)))))))),?_⟩
 have O:=W.rng
 have pr:∀t∈ts.map (·.2),∃x y:Int,t=[x,y]:=λt ht=>by
  obtain ⟨u,hu,rfl⟩:=DZ.mp ht
  obtain ⟨x,y,e,_⟩:=O u hu
  exact ⟨x,y,e⟩
 have rE:∀a b:Int,[a,b]∈ts.map (·.2)->(0<=a/\a<m)/\0<=b/\b<m:=λa b h=>by
  obtain ⟨u,hu,e'⟩:=DZ.mp h
  obtain ⟨x,y,e,x0,x1,y0,y1⟩:=O u hu
  rw[e] at e'
  cases e'
  exact ⟨⟨x0,x1⟩,y0,y1⟩
 refine ⟨_,rfl,gS.mpr ⟨r,m,ts,rfl,W,m2,by lia,λbl H1 as s1 eb la hb =>?_⟩⟩
 refine ⟨_,rfl,i9.mpr ⟨r,m,ts,rfl,W.same s1,m2,tl,λil H2 as2 vs s2 ei la2 lv hv hc _ =>?_⟩⟩
 have s02:=s1.trans s2
 generalize hE:ts.map (·.2)=E at pr rE hb hc q
 refine ⟨il,rfl,⟨_,SqL.of ei⟩,aW (xs:=as2.map V.ref) (λi ys H'=>H'=H2/\ys=((vs.take i).map λv=>(v.length:Int)).map V.int) ⟨rfl,rfl⟩ (by rw[DI];exact small (by lia)) (λi ys H' _ k=>by rw[k.1];exact SqL.of ei) ?_ ?_⟩
 ·rintro i x ys H3 hx hy ⟨eH,rfl⟩ R1 R0 r1 r0
  rw[D1] at hx
  have hi:i<as2.length:=by
   rcases HR i as2.length with c | c
   ·exact c
   ·rw[Fp c] at hx;cases hx
  have ea:=DL hi
  have ev:vs[i]? = some vs[i]:=DL (by lia)
  rw[ea] at hx
  cases hx
  have row:=hv i _ _ ea ev
  rw[<- eH] at row
  refine bO ⟨_,rfl,as2[i],_,rfl,.inl (SqL.of row),r1 _ _ ⟨eH,?_⟩⟩
  rw[Ef,ev,DU,DU,DI];rfl
 rintro ys H3 hy ⟨eH,rfl⟩ lc hlc
 rw[eH] at hlc ⊢
 rw[DI,D5 (by lia)]
 have ccs:∀j:Nat,j<m->(vs.map λv=>(v.length:Int))[j]? = some (cn E [] (j:Int):Int):=λj hj=>by
  have ev:vs[j]? = some vs[j]:=DL (by lia)
  rw[D1,ev, <- hc j _ ev];rfl
 have lcs:(vs.map λv=>(v.length:Int)).length=m:=by rw[DI,lv]
 generalize (vs.map λv=>(v.length:Int))=Cs at ccs lcs
 obtain ⟨H4,zQ9,g3,elc⟩:=nwZ hlc (.lst (Cs.map V.int))
 rw[zQ9]
 obtain ⟨t,e1,e2⟩:=(W.same (s02.trans g3)).at'
 let W0:Nat->List V->Hp->Prop:=λi ys H'=>H'=H4/\∃Rd:List Int,ys=Rd.map V.int/\Rd.Nodup/\∀p:Int,p∈Rd↔0<=p/\p<i/\cn E [] p=0
 refine ⟨_,rfl,r,_,0,_,rfl,rfl,SqT.of e1,rfl,(m:Int),rfl,by lia,by lia,du (lo:=0) (n:=m) W0 ⟨rfl,[],rfl,FU,λp=>⟨λz=>(by cases z),λz=>(by lia)⟩⟩ (small (by lia)) ?_ ?_⟩
 ·rintro i ys H5 hi hy2 ⟨eH5,Rd,rfl,nd,hR⟩ R1 R0 r1 r0
  have e0:(0+(i:Int))=((i:Nat):Int):=by lia
  rw[eH5]
  refine ⟨_,rfl,_,rfl,lc,_,_,_,rfl,rfl,SqL.of elc,cj (v:=V.int (cn E [] (i:Int):Int)) (by rw[D1,Hy,ccs i hi];rfl),rfl,_,rfl,?_⟩
  refine bD (λz =>?_) λz =>?_
  ·have z':cn E [] (i:Int)=0:=by have:=V.int.inj (of_decide_eq_true z);lia
   refine ⟨_,rfl,r1 _ _ ⟨rfl,Rd++[(0+(i:Int))],by rw[DU];rfl,?_,λp =>?_⟩⟩
   ·rw[HL]
    exact ⟨nd,Fm.mpr ⟨by simp,FU⟩,λa ha b hb e=>by rw[DW] at hb;have:=(hR a).mp ha;lia⟩
   ·rw[D6,DW,hR p,e0]
    constructor
    ·rintro (y | y)
     ·exact ⟨y.1,by lia,y.2.2⟩
     ·rw[y];exact ⟨by lia,by lia,z'⟩
    ·rintro ⟨y1,y2,y3⟩
     by_cases c:p=(i:Int)
     ·exact .inr c
     ·exact .inl ⟨y1,by lia,y3⟩
  ·refine r0 _ ⟨rfl,Rd,rfl,nd,λp =>?_⟩
   rw[hR p]
   constructor
   ·exact λy=>⟨y.1,by lia,y.2.2⟩
   ·rintro ⟨y1,y2,y3⟩
    refine ⟨y1,?_,y3⟩
    have:p≠(i:Int):=λc=>z (decide_eq_true (by rw[<- c,y3];rfl))
    lia
 rintro ys H5 hy2 ⟨eH5,Rd,rfl,nd,hR⟩ lr hlr
 rw[eH5] at hlr ⊢
 have g5:=af hlr (.lst (Rd.map V.int))
 have elr:upd H4 lr (.lst (Rd.map V.int)) lr=some (.lst (Rd.map V.int)):=ag
 have n1:lc≠lr:=av elc hlr
 have elc5:=g5 _ _ elc
 generalize upd H4 lr (.lst (Rd.map V.int))=H5' at g5 elr elc5
 refine ⟨(by show 0<=D3;decide),λlk hlk =>?_⟩
 have g6:=af hlk (.lst [])
 have elk:upd H5' lk (.lst []) lk=some (.lst (([]:List Int).map V.int)):=ag
 have n2:lc≠lk:=av elc5 hlk
 have n3:lr≠lk:=av elr hlk
 have elc6:=g6 _ _ elc5
 have elr6:=g6 _ _ elr
 have fc:H2 lc=none:=hlc
 have fr:H2 lr=none:=g3.free hlr
 have fk:H2 lk=none:=(g3.trans g5).free hlk
 have s26:=g3.trans (g5.trans g6)
 generalize upd H5' lk (.lst [])=H6 at g6 elk elc6 elr6 s26
 have eb2:=s2 _ _ eb
 refine yD ?_
 dsimp only
 refine Cu ?_
 refine k9 (λσ H'=>∃(c5 c6:Option V) (Cs Rd rk:List Int),σ=[some (.ref r),some (.ref bl),some (.ref lc),some (.ref lr),some (.ref lk),c5,c6]/\aA H2 H'/\H' lc=some (.lst (Cs.map V.int))/\H' lr=some (.lst (Rd.map V.int))/\H' lk=some (.lst (rk.map V.int))/\Gr m E rk/\Cs.length=m/\(∀j:Nat,j<m->Cs[j]? = some (cn E rk (j:Int):Int))/\Rd.Nodup/\∀p,p∈Rd↔Nx m E rk p)
  (λ_ H'=>m-Cv H' lk) ⟨_,_,Cs,Rd,[],rfl,s26,elc6,elr6,elk,Gr.nil,lcs,ccs,nd,λp=>(hR p).trans ⟨λy=>⟨y.1,y.2.1,by simp,(gR pr).mp y.2.2⟩,λy=>⟨y.p0,y.pm,(gR pr).mpr y.fr⟩⟩⟩ ?_ ?_
 ·rintro σ H' ⟨c5,c6,Cs,Rd,rk,rfl,s',ec,er,ek,G,lC,hC,nR,hR⟩
  refine ⟨_,rfl, !(Rd.map V.int).isEmpty,.inl ⟨_,SqL.of er,rfl⟩,?_⟩
  by_cases hY:Rd=[]
  ·subst hY
   refine cq ⟨_,rfl,q lk H' rk (s02.trans s') (s02.free fk) ek G λp hp =>?_⟩
   have:=(hR p).mpr hp
   cases this
  rw[show (!(Rd.map V.int).isEmpty)=true by cases Rd with | nil=>exact absurd rfl hY | cons a t=>rfl]
  refine bO ⟨_,rfl,lr,Rd,rfl,SqL.of er,hY,λM hM le =>?_⟩
  have nx:=(hR M).mp hM
  have rk1:=G.len
  refine ⟨_,rfl,.inl ⟨rfl,_,SqL.of er⟩,_,rfl,lr,Rd,M,rfl,rfl,er,hM,?_⟩
  have s7:=aA.dh s' fr (.lst ((Rd.erase M).map V.int))
  have er7:upd H' lr (.lst ((Rd.erase M).map V.int)) lr=some (.lst ((Rd.erase M).map V.int)):=ag
  have ec7:upd H' lr (.lst ((Rd.erase M).map V.int)) lc=some (.lst (Cs.map V.int)):=by rw[aq n1];exact ec
  have ek7:upd H' lr (.lst ((Rd.erase M).map V.int)) lk=some (.lst (rk.map V.int)):=by rw[aq n3.symm];exact ek
  generalize upd H' lr (.lst ((Rd.erase M).map V.int))=H7 at s7 er7 ec7 ek7
  refine ⟨_,rfl,.inl ⟨rfl,_,SqL.of ek7⟩,_,rfl,lk,_,_,rfl,rfl,ek7,by rw[DI];exact bq (by lia),?_⟩
  rw[show rk.map V.int++[V.int M]=(rk++[M]).map V.int by rw[DU];rfl]
  have s8:=aA.dh s7 fk (.lst ((rk++[M]).map V.int))
  have ek8:upd H7 lk (.lst ((rk++[M]).map V.int)) lk=some (.lst ((rk++[M]).map V.int)):=ag
  have ec8:upd H7 lk (.lst ((rk++[M]).map V.int)) lc=some (.lst (Cs.map V.int)):=by rw[aq n2];exact ec7
  have er8:upd H7 lk (.lst ((rk++[M]).map V.int)) lr=some (.lst ((Rd.erase M).map V.int)):=by rw[aq n3];exact er7
  generalize upd H7 lk (.lst ((rk++[M]).map V.int))=H8 at s8 er8 ec8 ek8
  have M0:=nx.p0
  have M1:=nx.pm
  obtain ⟨k,rfl⟩:∃n:Nat,M=n:=⟨M.toNat,by lia⟩
  have hk:k<as.length:=by lia
  have eak:as[k]? = some as[k]:=DL hk
  have row:=s2 _ _ (hb k _ eak)
  have row8:=s8 _ _ row
  have G':=G.snoc nx λq hq=>le q ((hR q).mpr hq)
  have lo:(outs E (k:Int)).length<=250:=EI (q8 _ _) (by rw[<- hE,DI];exact tl)
  have nrk:∀o∈outs E (k:Int),o∉rk++[(k:Int)]:=λo ho hm=>by
   have ho:=(mF pr).mp ho
   obtain ⟨j,ej⟩:=Et.mp hm
   have:=(G'.2 j o ej).1.fr _ ho
   have lj:=(DQ.mp ej).1
   rw[DT] at lj
   have lj:j<rk.length+1:=lj
   rw[Gg (by lia)] at this
   exact nx.nm (Gy this)
  generalize ho:outs E (k:Int)=os at row8 lo nrk
  have cs:=λp=>uH (p:=p) nx.nm E
  rw[ho] at cs
  generalize hrk:rk++[(k:Int)]=rk' at ek8 G' nrk cs
  refine ⟨_,rfl,_,rfl,bl,_,_,_,rfl,rfl,SqL.of (s8 _ _ eb2),cj (v:=V.ref as[k]) (by rw[D1,eak];rfl),as[k],rfl,⟨_,SqL.of row8⟩,iI (xs:=os.map V.int) (λi σ H'=>∃(c6:Option V) (Cs Rd:List Int),σ=[some (.ref r),some (.ref bl),some (.ref lc),some (.ref lr),some (.ref lk),some (.int k),c6]/\aA H2 H'/\H' lc=some (.lst (Cs.map V.int))/\H' lr=some (.lst (Rd.map V.int))/\H' lk=some (.lst (rk'.map V.int))/\Cs.length=m/\(∀j:Nat,j<m->Cs[j]? = some ((cn E rk' (j:Int)+(os.drop i).count (j:Int):Nat):Int))/\Rd.Nodup/\∀p,p∈Rd↔0<=p/\p<m/\p∉rk'/\cn E rk' p+(os.drop i).count p=0) ⟨_,Cs,Rd.erase k,rfl,s8,ec8,er8,ek8,lC,λj hj =>?_,nR.erase _,λp =>?_⟩ (λi σ H' _ z =>?_) ?_ ?_⟩
  ·rw[hC j hj,Iw,cs]
  ·rw[nR.mem_erase_iff,hR p,Iw, <- cs, <- hrk,D6,DW]
   constructor
   ·rintro ⟨y1,y2⟩
    exact ⟨y2.p0,y2.pm,λy=>y.elim y2.nm y1,(gR pr).mpr y2.fr⟩
   ·rintro ⟨y1,y2,y3,y4⟩
    exact ⟨λy=>y3 (.inr y),y1,y2,λy=>y3 (.inl y),(gR pr).mp y4⟩
  ·obtain ⟨_,_,_,_,s9,_⟩:=z
   have:=s9 _ _ row
   rw[ho] at this
   exact SqL.of this
  ·rintro i x σ Ha hx ⟨c6,Cs,Rd,rfl,sa,eca,era,eka,lCa,hCa,nRa,hRa⟩
   obtain ⟨o,eo,rfl⟩:=oJ hx
   have mo:=DV eo
   have oE:[(k:Int),o]∈E:=(mF pr).mp (by rw[ho];exact mo)
   obtain ⟨_,o0,o1⟩:=rE _ _ oE
   have no:=nrk o mo
   obtain ⟨on,rfl⟩:∃n:Nat,o=n:=⟨o.toNat,by lia⟩
   have on1:on<m:=by lia
   have hi:=(DQ.mp eo).1
   have dr:os.drop i=(on:Int) :: os.drop (i+1):=by rw[JV hi,(DQ.mp eo).2]
   have lRa:Rd.length<=200:=EI (dQ nRa λv hv=>⟨((hRa v).mp hv).1,((hRa v).mp hv).2.1⟩) m2
   have nin:(on:Int)∉Rd:=λy=>by
    have:=((hRa _).mp y).2.2.2
    rw[dr,Lp] at this
    lia
   have ix:ixN (Cs.map V.int).length (on:Int)=some on:=by rw[DI];unfold ixN;simp;lia
   have cne:∀p:Int,p≠on->(os.drop i).count p=(os.drop (i+1)).count p:=λp hp=>by rw[dr,List.count_cons_of_ne (Ft hp)]
   have hon:Cs[on]? = some (((cn E rk' (on:Int)+(os.drop (i+1)).count (on:Int):Nat):Int)+1):=by
    rw[hCa on on1,dr,Lp];congr 1
   generalize hv:cn E rk' (on:Int)+(os.drop (i+1)).count (on:Int)=v at hon
   refine ⟨_,rfl,_,rfl,lc,_,on,_,rfl,rfl,SqL.of eca,(by rw[D1,hon];rfl),_,_,rfl,rfl,lc,_,_,on,rfl,rfl,eca,ix,?_⟩
   rw[show (Cs.map V.int).set on (V.int ((v:Int)+1-1))=(Cs.set on (v:Int)).map V.int by rw[List.map_set,show (v:Int)+1-1=v by lia]]
   have sb:=aA.dh sa fc (.lst ((Cs.set on (v:Int)).map V.int))
   have ecb:upd Ha lc (.lst ((Cs.set on (v:Int)).map V.int)) lc=some (.lst ((Cs.set on (v:Int)).map V.int)):=ag
   have erb:upd Ha lc (.lst ((Cs.set on (v:Int)).map V.int)) lr=some (.lst (Rd.map V.int)):=by rw[aq n1.symm];exact era
   have ekb:upd Ha lc (.lst ((Cs.set on (v:Int)).map V.int)) lk=some (.lst (rk'.map V.int)):=by rw[aq n2.symm];exact eka
   have lCb:(Cs.set on (v:Int)).length=m:=by rw[KW];exact lCa
   have hCb:∀j:Nat,j<m->(Cs.set on (v:Int))[j]? = some ((cn E rk' (j:Int)+(os.drop (i+1)).count (j:Int):Nat):Int):=λj hj=>by
    by_cases c:on=j
    ·subst c
     rw[F3 (by lia),hv]
    ·rw[GR c,hCa j hj,cne j (by lia)]
   generalize Cs.set on (v:Int)=Cb at sb ecb erb ekb lCb hCb
   generalize upd Ha lc (.lst (Cb.map V.int))=Hb at sb ecb erb ekb
   have hz:=hCb on on1
   rw[hv] at hz
   refine ⟨_,rfl,_,rfl,lc,_,_,_,rfl,rfl,SqL.of ecb,cj (v:=V.int (v:Int)) (by rw[D1,hz];rfl),rfl,_,rfl,bD (λz =>?_) λz =>?_⟩
   ·have z':v=0:=by have:=V.int.inj (of_decide_eq_true z);lia
    refine ⟨_,rfl,.inl ⟨rfl,_,SqL.of erb⟩,_,rfl,lr,_,_,rfl,rfl,erb,by rw[DI];exact bq (by lia),?_⟩
    rw[show Rd.map V.int++[V.int (on:Int)]=(Rd++[(on:Int)]).map V.int by rw[DU];rfl]
    refine ⟨_,Cb,Rd++[(on:Int)],rfl,aA.dh sb fr _,by rw[aq n1];exact ecb,ag,by rw[aq n3.symm];exact ekb,lCb,hCb,?_,λp =>?_⟩
    ·rw[HL]
     exact ⟨nRa,Fm.mpr ⟨by simp,FU⟩,λa ha b hb e=>by rw[DW] at hb;subst hb;subst e;exact nin ha⟩
    ·rw[D6,DW]
     by_cases c:p=(on:Int)
     ·rw[c]
      exact ⟨λ_=>⟨o0,o1,no,by rw[hv,z']⟩,λ_ =>.inr rfl⟩
     ·rw[hRa p,cne p c]
      exact ⟨λy=>y.elim id λy=>absurd y c,.inl⟩
   ·refine ⟨_,Cb,Rd,rfl,sb,ecb,erb,ekb,lCb,hCb,nRa,λp =>?_⟩
    by_cases c:p=(on:Int)
    ·rw[c]
     exact ⟨λy=>absurd y nin,λy=>absurd y.2.2.2 (by rw[hv];exact λe=>z (decide_eq_true (by rw[e];rfl)))⟩
    ·rw[hRa p,cne p c]
  ·rintro σ Ha ⟨c6,Cs,Rd,rfl,sa,eca,era,eka,lCa,hCa,nRa,hRa⟩
   rw[DI,List.drop_length] at hCa hRa
   refine ⟨⟨_,_,Cs,Rd,rk',rfl,sa,eca,era,eka,G',lCa,λj hj=>by rw[hCa j hj];rfl,nRa,λp=>(hRa p).trans ⟨λy=>⟨y.1,y.2.1,y.2.2.1,(gR pr).mp y.2.2.2⟩,λy=>⟨y.p0,y.pm,y.nm,(gR pr).mpr y.fr⟩⟩⟩,?_⟩
   rw[uI eka,uI ek,DI,DI, <- hrk,DT]
   have:=G'.len
   rw[<- hrk,DT] at this
   show m-(rk.length+1)<m-rk.length
   have:rk.length+1<=m:=this
   lia
 ·rintro σ H' Q1 Q2 im ⟨x,e,k,tk,q⟩
  exact ⟨x,e,k,tk,im _ _ q⟩
end
def rst (ts:LA)(S:List (List Int)):LA:=ts.filter λu => !decide (u.2∈S)
theorem bE {ts:LA}{S:List (List Int)}{u:Addr×List Int}:u∈rst ts S↔u∈ts/\u.2∉S:=by unfold rst;rw[Ga];simp
theorem pX (ts:LA)(S:List (List Int)):(rst ts S).length<=ts.length:=K7 _ _
structure Sm (H:Hp)(a:Addr)(ss:LA):Prop where
 at':H a=some (.tup (ss.map λu =>.ref u.1))\/H a=some (.lst (ss.map λu =>.ref u.1))
 tup:Tus H ss
abbrev Bb:Sp:=λvs H Q _=>∃(r:Addr) (m:Nat) (ts:LA),vs=[.ref r]/\Ow H r (m:Int) ts/\m<=200/\ts.length<=250/\∀(H':Hp) (G:List Int),aA H H'->Gr m (ts.map (·.2)) G->Stk m (ts.map (·.2)) G->Q (.bl (decide (G.length=m))) H'
@[irreducible] def Aw:Sp:=Bb
theorem mJ {vs:List V}{H:Hp}{Q:VK}{E:XK}:Aw vs H Q E↔Bb vs H Q E:=by
 delta Aw
 exact FZ
section
theorem sR:aK ["web"] ["web"] (ak jE):=⟨rfl,rfl,rfl,by decide +kernel,rfl,by decide +kernel,by decide +kernel⟩
theorem sS (F:Fun K "has_ranks" "has_ranks" jE f fd)(B:Blt mg)(cFirstRanks:Cal P w K mg base 3 "first_ranks" ["web"] Av):bG P w K mg base CX0 4 f fd ["web"] Aw:=by
 refine F.ok sR (λvs H Q E h =>?_) (λcdv A outer s H vs Q E hr h =>?_)
 ·obtain ⟨_,_,_,rfl,_⟩:=mJ.mp h
  rfl
 obtain ⟨r,m,ts,rfl,W,m2,tl,q⟩:=mJ.mp h
 refine ⟨_,(aj (aD (cQ cK (au aR rfl B.b_len cJ (aa (ay cFirstRanks hr (by decide) rfl (aa (pv 0) ae rfl)) ae rfl)) (aH aP (pv 0) ai (λ_ _=>rfl)) (aE _)))),?_⟩
 refine ⟨_,rfl,mI.mpr ⟨r,m,ts,rfl,W,m2,tl,λl H1 G s1 hl el gr st =>?_⟩⟩
 obtain ⟨t,e1,e2⟩:=(W.same s1).at'
 refine ⟨l,_,rfl,.inl (SqL.of el),_,rfl,r,_,0,_,rfl,rfl,SqT.of e1,rfl,rfl,?_⟩
 have:=q H1 G s1 gr st
 rw[show decide (V.int ((G.map V.int).length:Int)=V.int (m:Int))=decide (G.length=m) from decide_eq_decide.mpr (by rw[DI];exact ⟨λh=>by have:=V.int.inj h;lia,λh=>by rw[h]⟩)]
 exact this
end
abbrev Bc:Sp:=λvs H Q _=>∃(r a:Addr) (m:Nat) (ts ss:LA),vs=[.ref r,.ref a]/\Ow H r (m:Int) ts/\Sm H a ss/\ts.length<=250/\∀(b:Addr) (H':Hp),aA H H'->Ow H' b (m:Int) (rst ts (ss.map (·.2)))->Q (.ref b) H'
@[irreducible] def yE:Sp:=Bc
theorem ja {vs:List V}{H:Hp}{Q:VK}{E:XK}:yE vs H Q E↔Bc vs H Q E:=by
 delta yE
 exact FZ
section
theorem kz:aK ["web", "arrows"] ["web", "arrows"] (ak dM):=⟨rfl,rfl,rfl,by decide +kernel,rfl,by decide +kernel,by decide +kernel⟩
theorem dB:(["arrow", "arrows"]:List Str).Nodup:=by decide +kernel
theorem kA (F:Fun K "without_arrows" "without_arrows" dM f fd)(B:Blt mg):bG P w K mg base CX0 1 f fd ["web", "arrows"] yE:=by
 refine F.ok kz (λvs H Q E h =>?_) (λcdv A outer s H vs Q E hr h =>?_)
 ·obtain ⟨_,_,_,_,_,rfl,_⟩:=ja.mp h
  rfl
 obtain ⟨r,a,m,ts,ss,rfl,W,S,tl,q⟩:=ja.mp h
 refine ⟨_,(aj (aD (ba (aa (aH aP (pv 0) ai (λ_ _=>rfl)) (aa (aL aN rfl B.b_tuple bB (aa (bo ["arrow", "arrows"] [none,some 1] rfl (hZ (aH aP (pv 0) ai (λ_ _=>rfl))) rfl (λ_ _ _ _ _=>(aB (i:=0) dB rfl (Or.inl rfl))) (λ_ _ _ _ _=>(eB (ax (sM (hu8 hr)) (pv 0) (pv 1) rfl))) (λ_ _ _ _ _=>(pv 0))) ae rfl)) ae rfl) rfl)))),?_⟩
 obtain ⟨t,e1,e2⟩:=W.at'
 refine ⟨_,rfl,r,_,0,_,rfl,rfl,SqT.of e1,rfl,_,rfl,r,_,1,_,rfl,rfl,SqT.of e1,rfl,t,rfl,⟨_,SqT.of e2⟩,gH (xs:=ts.map λu =>.ref u.1) (λi ys H'=>H'=H/\ys=(rst (ts.take i) (ss.map (·.2))).map λu =>.ref u.1) ⟨rfl,rfl⟩ (by rw[DI];exact small (by lia)) (λi ys H' _ k=>by rw[k.1];exact SqT.of e2) ?_ ?_⟩
 ·rintro i x ys H1 hx hy ⟨eH,rfl⟩ R1 R0 r1 r0
  obtain ⟨u,hu,rfl⟩:=fO hx
  have mu:=DV hu
  rw[eH]
  refine ⟨_,rfl,_,rfl,a,u.1,ss,u.2,rfl,rfl,S.at',S.tup,W.tup u mu,_,rfl,bD (λz =>?_) λz =>?_⟩
  ·refine ⟨_,rfl,r1 _ _ ⟨rfl,?_⟩⟩
   unfold rst
   rw[Ef,hu,FA,DU]
   rw[show (some u).toList.filter (λu => !decide (u.2∈ss.map (·.2)))=[u] from FD z]
   rfl
  ·refine r0 _ ⟨rfl,?_⟩
   unfold rst
   rw[Ef,hu,FA,DU]
   rw[show (some u).toList.filter (λu => !decide (u.2∈ss.map (·.2)))=[] from Fq z]
   exact (E6 _).symm
 ·rintro ys H1 hy ⟨eH,rfl⟩ l hl
  rw[eH] at hl ⊢
  rw[DI,D5 (DS _)]
  refine ⟨l,_,rfl,.inl ⟨SqL.of ag,λl3 hl3=>⟨(by show 2<=D3;decide),λb hb =>?_⟩⟩⟩
  have gA:=((af hl (.lst ((rst ts (ss.map (·.2))).map λu =>.ref u.1))).trans (af hl3 (.tup ((rst ts (ss.map (·.2))).map λu =>.ref u.1)))).trans (af hb (.tup [.int (m:Int),.ref l3]))
  exact q b _ gA ⟨⟨l3,ag,(af hb _) _ _ ag⟩,λu hu=>gA _ _ (W.tup u (bE.mp hu).1),λu hu=>W.rng u (bE.mp hu).1⟩
end
abbrev Bd:Sp:=λvs H Q _=>∃(r a:Addr) (m:Nat) (ts ss:LA),vs=[.ref r,.ref a]/\Ow H r (m:Int) ts/\Sm H a ss/\m<=200/\ts.length<=250/\∀(H':Hp) (G:List Int),aA H H'->Gr m ((rst ts (ss.map (·.2))).map (·.2)) G->Stk m ((rst ts (ss.map (·.2))).map (·.2)) G->Q (.bl (decide (G.length=m))) H'
@[irreducible] def wD:Sp:=Bd
theorem gw {vs:List V}{H:Hp}{Q:VK}{E:XK}:wD vs H Q E↔Bd vs H Q E:=by
 delta wD
 exact FZ
section
theorem nM:aK ["web", "arrows"] ["web", "arrows"] (ak fE):=⟨rfl,rfl,rfl,by decide +kernel,rfl,by decide +kernel,by decide +kernel⟩
theorem nN (F:Fun K "arrows_clear" "arrows_clear" fE f fd)(B:Blt mg)(cHasRanks:Cal P w K mg base 4 "has_ranks" ["web"] Aw)(cWithoutArrows:Cal P w K mg base 1 "without_arrows" ["web", "arrows"] yE):bG P w K mg base CX0 5 f fd ["web", "arrows"] wD:=by
 refine F.ok nM (λvs H Q E h =>?_) (λcdv A outer s H vs Q E hr h =>?_)
 ·obtain ⟨_,_,_,_,_,rfl,_⟩:=gw.mp h
  rfl
 obtain ⟨r,a,m,ts,ss,rfl,W,S,m2,tl,q⟩:=gw.mp h
 refine ⟨_,(aj (aD (ay cHasRanks hr (by decide) rfl (aa (ay cWithoutArrows hr (by decide) rfl (aa (pv 0) (aa (pv 1) ae rfl) rfl)) ae rfl)))),?_⟩
 refine ⟨_,rfl,_,rfl,ja.mpr ⟨r,a,m,ts,ss,rfl,W,S,tl,λb H1 s1 W1 =>?_⟩⟩
 exact mJ.mpr ⟨b,m,_,rfl,W1,m2,EI (pX _ _) tl,λH2 G s2 gr st=>q H2 G (s1.trans s2) gr st⟩
end
@[irreducible] def pZ (K:DM):Sp:=λvs H Q _=>∃(a:Addr) (ns:List Int) (k:Int),vs=[.ref a,.int k]/\SqL K H a (ns.map V.int)/\0<=k/\k<100/\∀(x y:Int) (p:Addr),H p=none->Q (.ref p) (upd H p (.lst ([x,y].map V.int)))
theorem iu {K:DM}{vs:List V}{H:Hp}{Q:VK}{E:XK}:pZ K vs H Q E↔∃(a:Addr) (ns:List Int) (k:Int),vs=[.ref a,.int k]/\SqL K H a (ns.map V.int)/\0<=k/\k<100/\∀(x y:Int) (p:Addr),H p=none->Q (.ref p) (upd H p (.lst ([x,y].map V.int))):=by
 delta pZ
 exact FZ
abbrev uJ:Sp:=λvs H Q _=>∃(p:Addr) (m:Int),vs=[.ref p,.int m]/\Pt 2 H p/\0<m/\Wd m/\∀(r:Int) (H':Hp),0<=r->r<m->Bu 2 p H H'->Q (.int r) H'
@[irreducible] def iw:Sp:=uJ
theorem aF {vs:List V}{H:Hp}{Q:VK}{E:XK}:iw vs H Q E↔uJ vs H Q E:=by
 delta iw
 exact FZ
theorem aQ {i:Int}(h0 : -100000<=i)(h1:i<=100000):Wd i:=by
 unfold Wd
 have:i.natAbs<=100000:=by lia
 exact Ih this (by decide +kernel)
theorem w64:Wd ((10:Int) ^ (64:Int).toNat):=by unfold Wd;decide +kernel
theorem w128:Wd ((10:Int) ^ (64:Int).toNat*(10:Int) ^ (64:Int).toNat):=by unfold Wd;decide +kernel
theorem w192:Wd ((10:Int) ^ (64:Int).toNat*(10:Int) ^ (64:Int).toNat*(10:Int) ^ (64:Int).toNat):=by unfold Wd;decide +kernel
theorem p256:(0:Int)<(10:Int) ^ (64:Int).toNat*(10:Int) ^ (64:Int).toNat*(10:Int) ^ (64:Int).toNat*(10:Int) ^ (64:Int).toNat:=by decide +kernel
section
theorem jb:aK ["script", "k", "cell", "digits"] ["script", "k"] (ak mC):=⟨rfl,rfl,rfl,by decide +kernel,rfl,by decide +kernel,by decide +kernel⟩
theorem Ax (F:Fun K "_law_deal" "_law_deal" mC f fd)(B:Blt mg):bG P w K mg base CX0 1 f fd ["script", "k"] (pZ K):=by
 refine F.ok jb (λvs H Q E h =>?_) (λcdv A outer s H vs Q E hr h =>?_)
 ·obtain ⟨_,_,_,rfl,_⟩:=iu.mp h
  rfl
 obtain ⟨a,ns,k,rfl,hS,h0,h1,q⟩:=iu.mp h
 have TD:∃t,PSs (kj CX0 P w K mg base ["script", "k", "cell", "digits"] "_law_deal" (ak mC) f cdv A outer s H E).nox ((ck mC).drop 2) t/\∀(c:Int) (c3:Option V),t { nx:=λ_ H'=>Q .non H',rt:=Q } [some (.ref a),some (.int k),some (.int c),c3] H:=by
  refine ⟨_,(ah (az (i:=3) jb.nd rfl (Or.inl rfl) ai)
  (ah (aX (ax CU (pv 2) (aO js ai ai) (aE _)) (aj (az (i:=3) jb.nd rfl (Or.inl rfl) (aO ly (pv 2) (aO js ai ai)))) aG)
  (aj (aD (bI (aa (pv 3) (aa (aO fS (aO o8 (aO dA (aO dA (aO fS (pv 2) ai) (aO o8 ai (pv 1))) ai) ai) ai) ae rfl) rfl)))))),λc c3 =>?_⟩
  have last:∀dg:Int,∃v,some (some (V.int dg))=some (some v)/\True:=λdg=>⟨_,rfl,trivial⟩
  refine ⟨_,rfl,_,_,rfl,rfl,⟨by decide,by decide,by decide⟩,_,_,rfl,rfl,_,rfl,bD (λz =>?_) (λz =>?_)⟩
  ·refine ⟨_,rfl,_,_,rfl,rfl,⟨by decide,by decide,by decide⟩,_,_,rfl,rfl,?_⟩
   refine ⟨_,rfl,_,rfl,_,_,rfl,rfl,(by show (0:Int)<_;decide),_,rfl,_,_,rfl,rfl,.inl ⟨by decide,by decide⟩,_,_,rfl,rfl,_,_,rfl,rfl,_,_,rfl,rfl,.inr ⟨by decide,by decide⟩,_,_,rfl,rfl,(by show (0:Int)<_;decide),(by show 2<=D3;decide),λp hp=>q _ _ p hp⟩
  ·refine ⟨_,rfl,_,rfl,_,_,rfl,rfl,(by show (0:Int)<_;decide),_,rfl,_,_,rfl,rfl,.inl ⟨by decide,by decide⟩,_,_,rfl,rfl,_,_,rfl,rfl,_,_,rfl,rfl,.inr ⟨by decide,by decide⟩,_,_,rfl,rfl,(by show (0:Int)<_;decide),(by show 2<=D3;decide),λp hp=>q _ _ p hp⟩
 obtain ⟨tD,pD,gD⟩:=TD
 refine ⟨_,(ah (az (i:=2) jb.nd rfl (Or.inl rfl) ai)
  (ah (aX (ax tP (pv 1) (au aR rfl B.b_len cJ (aa (pv 0) ae rfl)) (aE _)) (aj (az (i:=2) jb.nd rfl (Or.inl rfl) (aO fS (aH bR (pv 0) (pv 1) (λ_ _=>rfl)) (aO pL (aO pL (aO pL (aO js ai ai) (aO js ai ai)) (aO js ai ai)) (aO js ai ai))))) aG)
  pD)),?_⟩
 refine ⟨_,rfl,_,rfl,a,_,rfl,.inl hS,_,_,rfl,rfl,_,rfl,bD (λc =>?_) (λc=>gD _ _)⟩
 have c':k<((ns.map V.int).length:Int):=of_decide_eq_true c
 rw[DI] at c'
 obtain ⟨v,_,hat⟩:=Ci h0 c'
 exact ⟨_,rfl,_,rfl,a,_,k,_,rfl,rfl,hS,hat,_,_,rfl,rfl,⟨by decide,by decide,by decide⟩,_,_,rfl,rfl,⟨by decide,by decide,by decide⟩,_,_,rfl,rfl,⟨w64,w64⟩,_,_,rfl,rfl,⟨by decide,by decide,by decide⟩,_,_,rfl,rfl,⟨w128,w64⟩,
  _,_,rfl,rfl,⟨by decide,by decide,by decide⟩,_,_,rfl,rfl,⟨w192,w64⟩,_,_,rfl,rfl,p256,gD _ _⟩
end
section
theorem uK:aK ["pot", "many", "found"] ["pot", "many"] (ak sP):=⟨rfl,rfl,rfl,by decide +kernel,rfl,by decide +kernel,by decide +kernel⟩
theorem Ay (F:Fun K "_law_pick" "_law_pick" sP f fd)(B:Blt mg):bG P w K mg base CX0 1 f fd ["pot", "many"] iw:=by
 refine F.ok uK (λvs H Q E h =>?_) (λcdv A outer s H vs Q E hr h =>?_)
 ·obtain ⟨_,_,rfl,_⟩:=aF.mp h
  rfl
 obtain ⟨p,m,rfl,hp,h0,h1,q⟩:=aF.mp h
 refine ⟨_,(ah (aX (ax xh (aH bR (pv 0) ai (λ_ _=>rfl)) ai (aE _)) (ah (az (i:=2) uK.nd rfl (Or.inl rfl) (aO fS (aH bR (pv 0) ai (λ_ _=>rfl)) (pv 1)))
   (ah (rF (aO x8 (aH bR (pv 0) ai (λ_ _=>rfl)) (pv 1)) (w6 (pv 0) ai set_list) rfl rfl rfl)
   (aj (aD (pv 2))))) aG)
  (ah (rF (aO fS (aO dA (aO o8 (aH bR (pv 0) ai (λ_ _=>rfl)) ai) ai) ai) (w6 (pv 0) ai set_list) rfl rfl rfl)
  (aj (aD (aO fS (aO tJ (aO fS (aO o8 (aH bR (pv 0) ai (λ_ _=>rfl)) (aH bR (pv 0) ai (λ_ _=>rfl))) ai) ai) (pv 1)))))),?_⟩
 have bt:=Bu.refl hp
 obtain ⟨xs,lx,ep⟩:=hp
 match xs,lx with
 | [x,y],_ =>
  refine ⟨_,rfl,p,_,0,_,rfl,rfl,SqL.of ep,rfl,_,_,rfl,rfl,_,rfl,bD (λc =>?_) (λc =>?_)⟩
  ·refine ⟨_,rfl,p,_,0,_,rfl,rfl,SqL.of ep,rfl,_,rfl,_,_,rfl,rfl,h0,?_⟩
   refine ⟨_,rfl,p,_,0,_,rfl,rfl,SqL.of ep,rfl,_,rfl,_,_,rfl,rfl,⟨h0,h1⟩,_,rfl,p,_,0,0,rfl,rfl,ep,rfl,?_⟩
   refine ⟨_,rfl,?_⟩
   exact q _ _ (Ja _ (by lia)) (Ii _ h0) (bt.put (ys:=[x/m,y]) rfl)
  ·refine ⟨_,rfl,p,_,1,_,rfl,rfl,SqL.of ep,rfl,_,_,rfl,rfl,.inr ⟨by decide,by decide⟩,_,_,rfl,rfl,_,_,rfl,rfl,(by show (0:Int)<_;decide),_,rfl,p,_,1,1,rfl,rfl,ep,rfl,?_⟩
   dsimp only
   have b1:=Ja (y*69621+12345) (b:=2147483647) (by decide)
   have b2:=Ii (y*69621+12345) (b:=2147483647) (by decide)
   generalize (y*69621+12345)%2147483647=z at b1 b2 ⊢
   have e:((([x,y]:List Int).map V.int).set 1 (V.int z))=([x,z]:List Int).map V.int:=rfl
   rw[e]
   refine ⟨_,rfl,p,_,1,_,rfl,rfl,SqL.of ag,rfl,_,rfl,p,_,1,_,rfl,rfl,SqL.of ag,rfl,_,_,rfl,rfl,.inl ⟨by lia,by lia⟩,_,_,rfl,rfl,(by show (0:Int)<_;decide),_,_,rfl,rfl,⟨by decide,by decide⟩,_,rfl,_,_,rfl,rfl,h0,?_⟩
   exact q _ _ (Ja _ (by lia)) (Ii _ h0) (bt.put (ys:=[x,z]) rfl)
end
theorem Od.ins {k d:Nat}{os:List Int}(O:Od (k:Int) os)(hd:d<=os.length):Od ((k+1:Nat):Int) (os.take d++(k:Int) :: os.drop d):=by
 have hp:(os.take d++(k:Int) :: os.drop d).Perm ((k:Int) :: os):=by
  refine Ks.trans ?_
  rw[FP]
 have hk:(k:Int)∉os:=λz=>by have:=(O.mem k).mp z;lia
 refine ⟨hp.nodup_iff.mpr (Fm.mpr ⟨hk,O.nd⟩),λv =>?_,?_⟩
 ·rw[hp.mem_iff,Eg,O.mem]
  lia
 ·rw[hp.length_eq,Eu]
  have:=O.len
  lia
theorem Od.nil:Od ((0:Nat):Int) []:=⟨FU,λv=>⟨λz=>(by cases z),λz=>(by lia)⟩,rfl⟩
theorem kO {n:Nat}{p la:Addr}{H H1:Hp}(hb:Bu n p H H1)(h:H1 la=none):H la=none:=by
 cases e:H la with
 | none=>rfl
 | some o =>
  by_cases z:la=p
  ·subst z
   obtain ⟨xs,_,e2⟩:=hb.pot
   rw[h] at e2
   cases e2
  ·rw[hb.st la o z e] at h
   cases h
def Ri (ts:LA):Prop:=ts.Pairwise λu v=>HT.lexLt u.2 v.2=true
def Ln (n k j:Nat)(us:LA):Prop:=us.length<=n/\Ri us/\∀u∈us,∃x y:Int,u.2=[x,y]/\(x<k\/x=k/\y<j)
theorem lex2 {a b c d:Int}(h:a<c\/a=c/\b<d):HT.lexLt [a,b] [c,d]=true:=by
 rw[HT.cH]
 rcases h with z | ⟨z,y⟩
 ·rw[if_neg (by lia)];exact decide_eq_true z
 ·rw[if_pos z,HT.cH,if_neg (by lia)];exact decide_eq_true y
theorem Ln.nil {n k j:Nat}:Ln n k j []:=⟨EB _,List.Pairwise.nil,λu hu=>by cases hu⟩
theorem Ln.stay {n k j:Nat}{us:LA}(h:Ln n k j us):Ln (n+1) k (j+1) us:=⟨by have:=h.1;lia,h.2.1,λu hu=>by
 obtain ⟨x,y,e,c⟩:=h.2.2 u hu
 exact ⟨x,y,e,by lia⟩⟩
theorem Ln.add {n k j:Nat}{us:LA}(h:Ln n k j us){t:Addr}:Ln (n+1) k (j+1) (us++[(t,[0+(k:Int),0+(j:Int)])]):=by
 refine ⟨by rw[DT];have:=h.1;show _+1<=_;lia,Fw.mpr ⟨h.2.1,Gq _ _,λu hu v hv =>?_⟩,λu hu =>?_⟩
 ·rw[DW] at hv
  obtain ⟨x,y,e,c⟩:=h.2.2 u hu
  rw[hv,e]
  exact lex2 (by lia)
 ·rcases D6.mp hu with z | z
  ·obtain ⟨x,y,e,c⟩:=h.2.2 u z
   exact ⟨x,y,e,by lia⟩
  ·rw[DW] at z
   exact ⟨_,_,by rw[z],by lia⟩
theorem Ln.on {n m k:Nat}{us:LA}(h:Ln n k m us):Ln n (k+1) 0 us:=⟨h.1,h.2.1,λu hu=>by
 obtain ⟨x,y,e,c⟩:=h.2.2 u hu
 exact ⟨x,y,e,by lia⟩⟩
abbrev oR:Sp:=λvs H Q _=>∃(p:Addr) (mo:Int),vs=[.ref p,.int mo]/\Pt 2 H p/\0<=mo/\mo<=10/\∀(b:Addr) (m:Nat) (ts:LA) (H':Hp),Bu 2 p H H'->Ow H' b (m:Int) ts->m<=10->ts.length<=200->Ri ts->Q (.ref b) H'
@[irreducible] def jf:Sp:=oR
theorem fH {vs:List V}{H:Hp}{Q:VK}{E:XK}:jf vs H Q E↔oR vs H Q E:=by
 delta jf
 exact FZ
section
theorem cf:aK ["pot", "most", "many", "share", "loops", "order", "place", "arrows", "a", "b", "rises"] ["pot", "most"] (ak mD):=⟨rfl,rfl,rfl,by decide +kernel,rfl,by decide +kernel,by decide +kernel⟩
theorem wF (F:Fun K "_law_oneway" "_law_oneway" mD f fd)(B:Blt mg)(cLPick:Cal P w K mg base 1 "_law_pick" ["pot", "many"] iw):bG P w K mg base CX0 2 f fd ["pot", "most"] jf:=by
 refine F.ok cf (λvs H Q E h =>?_) (λcdv A outer s H vs Q E hr h =>?_)
 ·obtain ⟨_,_,rfl,_⟩:=fH.mp h
  rfl
 obtain ⟨p,mo,rfl,hp,mo0,mo1,q⟩:=fH.mp h
 refine ⟨_,(ah (az (i:=2) cf.nd rfl (Or.inl rfl) (ay cLPick hr (by decide) rfl (aa (pv 0) (aa (aO dA (pv 1) ai) ae rfl) rfl)))
  (ah (az (i:=3) cf.nd rfl (Or.inl rfl) (ay cLPick hr (by decide) rfl (aa (pv 0) (aa ai ae rfl) rfl)))
  (ah (az (i:=4) cf.nd rfl (Or.inl rfl) (ay cLPick hr (by decide) rfl (aa (pv 0) (aa ai ae rfl) rfl)))
  (ah (az (i:=5) cf.nd rfl (Or.inl rfl) (bI ae))
  (ah (cz Fc rfl (bJ rfl B.b_range (aa (pv 2) ae rfl)) (aB (i:=6) cf.nd rfl (Or.inl rfl))
   (aj (cg (da Ex Kb Kc oj (pv 5) (aa (ay cLPick hr (by decide) rfl (aa (pv 0) (aa (aO dA (pv 6) ai) ae rfl) rfl)) (aa (pv 6) ae rfl) rfl)))) (λ_=>rfl))
  (ah (az (i:=7) cf.nd rfl (Or.inl rfl) (bI ae))
  (ah (cz Fc rfl (bJ rfl B.b_range (aa (pv 2) ae rfl)) (aB (i:=8) cf.nd rfl (Or.inl rfl))
   (aj (cz Fc rfl (bJ rfl B.b_range (aa (pv 2) ae rfl)) (aB (i:=9) cf.nd rfl (Or.inl rfl))
    (ah (az (i:=10) cf.nd rfl (Or.inl rfl) (cQ tP (da Ex GV HZ gO (pv 5) (aa (pv 8) ae rfl)) (da Ex GV HZ gO (pv 5) (aa (pv 9) ae rfl)) (aE _)))
    (aj (aX (ax cK (pv 8) (pv 9) (aE _)) (aj (aX (PW.pt (jq (ax cK (pv 4) ai (aE _)) (gF (ax cK (ay cLPick hr (by decide) rfl (aa (pv 0) (aa ai ae rfl) rfl)) ai (aE _))))) (aj (cg (da Ex Fg Fh cc (pv 7) (aa (ba (aa (pv 8) (aa (pv 9) ae rfl) rfl)) ae rfl)))) aG)) (aj (aX (PW.pt (jq (ax tP (ay cLPick hr (by decide) rfl (aa (pv 0) (aa ai ae rfl) rfl)) (aO dA (pv 3) (aL vi rfl B.b_int Ct (aa (pv 10) ae rfl))) (aE _)) (gF (PW.pt (cP (ax xh (pv 3) ai (aE _)) (cy (bT (pv 10)))))))) (aj (cg (da Ex Fg Fh cc (pv 7) (aa (ba (aa (pv 8) (aa (pv 9) ae rfl) rfl)) ae rfl)))) aG))))) (λ_=>rfl))) (λ_=>rfl))
  (aj (aD (ba (aa (pv 2) (aa (aL aN rfl B.b_tuple bB (aa (pv 7) ae rfl)) ae rfl) rfl))))))))))),?_⟩
 refine ⟨_,rfl,_,rfl,_,_,rfl,rfl,aF.mpr ⟨p,mo+1,rfl,hp,by lia,aQ (by lia) (by lia),λm' H1 m0 m1 u1 =>?_⟩⟩
 obtain ⟨m,rfl⟩:∃n:Nat,m'=n:=⟨m'.toNat,by lia⟩
 have hm:m<=10:=by lia
 refine ⟨_,rfl,aF.mpr ⟨p,5,rfl,u1.pot,by decide,aQ (by decide) (by decide),λsh H2 s0 s1 u2 =>?_⟩⟩
 refine ⟨_,rfl,aF.mpr ⟨p,3,rfl,u2.pot,by decide,aQ (by decide) (by decide),λlp H3 l0 l1 u3 =>?_⟩⟩
 have uA:=(u1.trans u2).trans u3
 refine ⟨(by show 0<=D3;decide),λlo hlo1 =>?_⟩
 have hlo:=kO uA hlo1
 have npo:lo≠p:=hp.ne hlo
 have uB:=uA.same (af hlo1 (.lst []))
 have elo:upd H3 lo (.lst []) lo=some (.lst (([]:List Int).map V.int)):=ag
 generalize upd H3 lo (.lst [])=H4 at uB elo
 let W0:Nat->St->Hp->Prop:=λk σ H'=>(∃c6 c7 c8 c9 c10,σ=[some (.ref p),some (.int mo),some (.int m),some (.int sh),some (.int lp),some (.ref lo),c6,c7,c8,c9,c10])/\Bu 2 p H H'/\∃os,H' lo=some (.lst (os.map V.int))/\Od (k:Int) os
 refine ⟨_,rfl,(m:Int),rfl,by lia,by lia,de W0 ⟨⟨_,_,_,_,_,rfl⟩,uB,[],elo,Od.nil⟩ ?_ ?_⟩
 ·rintro k σ H5 hk ⟨⟨c6,c7,c8,c9,c10,rfl⟩,b5,os,eo,O⟩
  have hk':(k:Int)<40:=by lia
  have lo':=O.len
  refine ⟨_,rfl,.inl ⟨rfl,_,SqL.of eo⟩,_,rfl,_,rfl,_,_,rfl,rfl,aF.mpr ⟨p,0+(k:Int)+1,rfl,b5.pot,by lia,aQ (by lia) (by lia),λd H6 d0 d1 b6 =>?_⟩⟩
  obtain ⟨n,rfl⟩:∃n:Nat,d=n:=⟨d.toNat,by lia⟩
  have eo3:=b6.st _ _ npo eo
  refine ⟨_,rfl,lo,_,(n:Int),_,rfl,rfl,eo3,by lia,by rw[DI];lia,by rw[DI];exact bq (by lia),?_⟩
  refine ⟨⟨_,_,_,_,_,rfl⟩,(b5.trans b6).dh hlo npo _,os.take n++(k:Int) :: os.drop n,?_,O.ins (by lia)⟩
  have e0:(0+(k:Int))=k:=by lia
  rw[ag,e0,E1,DU,Ew,IZ,HX]
 rintro σ H5 ⟨⟨c6,c7,c8,c9,c10,rfl⟩,b5,os,eo,O⟩
 rw[E1] at O
 have lno:=O.len
 refine ⟨(by show 0<=D3;decide),λla hla1 =>?_⟩
 have hla:=kO b5 hla1
 have np:la≠p:=hp.ne hla
 have nlo:lo≠la:=av eo hla1
 have m6:Mkg 2 p la H (upd H5 la (.lst [])) []:=⟨b5.same (af hla1 _),ag,(λu hu=>by cases hu),λu hu=>by cases hu⟩
 have eo6:=(af hla1 (.lst [])) _ _ eo
 generalize upd H5 la (.lst [])=H6 at m6 eo6
 let W1:Nat->St->Hp->Prop:=λk σ H'=>(∃c8 c9 c10,σ=[some (.ref p),some (.int mo),some (.int m),some (.int sh),some (.int lp),some (.ref lo),c6,some (.ref la),c8,c9,c10])/\H' lo=some (.lst (os.map V.int))/\∃us,Mkg 2 p la H H' us/\Rg m us/\Ln (m*k) k 0 us
 refine ⟨_,rfl,(m:Int),rfl,by lia,by lia,de W1 ⟨⟨_,_,_,rfl⟩,eo6,[],m6,λu hu=>(by cases hu),Ln.nil⟩ ?_ ?_⟩
 ·rintro k σ H7 hk ⟨⟨c8,c9,c10,rfl⟩,eo7,us,m7,rg,lu⟩
  have hk':(k:Int)<m:=by lia
  have km:m*k<=100:=EI (Nd hm (show k<=10 by lia)) (by decide)
  let W2:Nat->St->Hp->Prop:=λj σ H'=>(∃c9 c10,σ=[some (.ref p),some (.int mo),some (.int m),some (.int sh),some (.int lp),some (.ref lo),c6,some (.ref la),some (.int (0+(k:Int))),c9,c10])/\H' lo=some (.lst (os.map V.int))/\∃us,Mkg 2 p la H H' us/\Rg m us/\Ln (m*k+j) k j us
  refine ⟨_,rfl,(m:Int),rfl,by lia,by lia,de W2 ⟨⟨_,_,rfl⟩,eo7,us,m7,rg,lu⟩ ?_ ?_⟩
  ·rintro j σ H8 hj ⟨⟨c9,c10,rfl⟩,eo8,us,m8,rg,lu⟩
   have hj':(j:Int)<m:=by lia
   have lu0:=lu.1
   refine ⟨_,rfl,.inl ⟨rfl,_,SqL.of eo8⟩,_,rfl,lo,os,0+(k:Int),rfl,rfl,eo8,(O.mem _).mpr ⟨by lia,by lia⟩,by lia,_,rfl,.inl ⟨rfl,_,SqL.of eo8⟩,_,rfl,lo,os,0+(j:Int),rfl,rfl,eo8,(O.mem _).mpr ⟨by lia,by lia⟩,by lia,_,_,rfl,rfl,?_⟩
   generalize decide (((os.idxOf (0+(k:Int)):Nat):Int)<((os.idxOf (0+(j:Int)):Nat):Int))=ri
   have stay:∀H9,Bu 2 p H8 H9->(H9 lo=some (.lst (os.map V.int))/\Mkg 2 p la H H9 us):=λH9 u=>⟨u.st _ _ npo eo8,m8.bu' np u⟩
   refine ⟨_,rfl,_,rfl,rfl,_,rfl,bD (λz =>?_) (λz =>?_)⟩
   ·refine ⟨_,rfl,rfl,_,rfl,bD (λz =>?_) (λz =>?_)⟩
    ·refine ⟨_,rfl,aF.mpr ⟨p,3,rfl,m8.bu.pot,by decide,aQ (by decide) (by decide),λd3 H9 f0 f1 b9=>⟨rfl,_,rfl,bD (λz =>?_) (λz =>?_)⟩⟩⟩
     ·obtain ⟨eoX,mX⟩:=stay H9 b9
      refine ⟨_,rfl,.inl ⟨rfl,_,SqL.of mX.at'⟩,_,rfl,_,rfl,(by show 2<=D3;decide),λt ht =>?_⟩
      have m9:=mX.add hla np ht (0+(k:Int)) (0+(j:Int))
      have eo9:upd (upd H9 t (.tup [.int (0+(k:Int)),.int (0+(j:Int))])) la (.lst ((us.map λu=>V.ref u.1)++[.ref t])) lo=some (.lst (os.map V.int)):=by rw[aq nlo];exact (af ht _) _ _ eoX
      refine ⟨la,_,_,rfl,rfl,(af ht _) _ _ mX.at',by rw[DI];exact bq (by lia),?_⟩
      exact ⟨⟨_,_,rfl⟩,eo9,_,m9,rg.snoc (by lia) (by lia) (by lia) (by lia),lu.add⟩
     ·obtain ⟨eoX,mX⟩:=stay H9 b9
      exact ⟨⟨_,_,rfl⟩,eoX,us,mX,rg,lu.stay⟩
    ·exact cq ⟨⟨_,_,rfl⟩,eo8,us,m8,rg,lu.stay⟩
   ·refine ⟨_,rfl,aF.mpr ⟨p,5,rfl,m8.bu.pot,by decide,aQ (by decide) (by decide),λd5 H9 f0 f1 b9 =>?_⟩⟩
    obtain ⟨eoX,mX⟩:=stay H9 b9
    refine ⟨_,rfl,_,rfl,.inr ⟨_,rfl,_,_,rfl,rfl,_,_,rfl,rfl,_,rfl,bD (λz =>?_) (λz =>?_)⟩⟩
    ·refine ⟨_,rfl,_,_,rfl,rfl,_,rfl,bD (λz =>?_) (λz =>?_)⟩
     ·skip
      refine bO ⟨_,rfl,.inl ⟨rfl,_,SqL.of mX.at'⟩,_,rfl,_,rfl,(by show 2<=D3;decide),λt ht =>?_⟩
      have m9:=mX.add hla np ht (0+(k:Int)) (0+(j:Int))
      have eo9:upd (upd H9 t (.tup [.int (0+(k:Int)),.int (0+(j:Int))])) la (.lst ((us.map λu=>V.ref u.1)++[.ref t])) lo=some (.lst (os.map V.int)):=by rw[aq nlo];exact (af ht _) _ _ eoX
      refine ⟨la,_,_,rfl,rfl,(af ht _) _ _ mX.at',by rw[DI];exact bq (by lia),?_⟩
      exact ⟨⟨_,_,rfl⟩,eo9,_,m9,rg.snoc (by lia) (by lia) (by lia) (by lia),lu.add⟩
     ·refine ⟨_,rfl,_,rfl,bD (λz =>?_) (λz =>?_)⟩
      ·skip
       refine ⟨_,rfl,.inl ⟨rfl,_,SqL.of mX.at'⟩,_,rfl,_,rfl,(by show 2<=D3;decide),λt ht =>?_⟩
       have m9:=mX.add hla np ht (0+(k:Int)) (0+(j:Int))
       have eo9:upd (upd H9 t (.tup [.int (0+(k:Int)),.int (0+(j:Int))])) la (.lst ((us.map λu=>V.ref u.1)++[.ref t])) lo=some (.lst (os.map V.int)):=by rw[aq nlo];exact (af ht _) _ _ eoX
       refine ⟨la,_,_,rfl,rfl,(af ht _) _ _ mX.at',by rw[DI];exact bq (by lia),?_⟩
       exact ⟨⟨_,_,rfl⟩,eo9,_,m9,rg.snoc (by lia) (by lia) (by lia) (by lia),lu.add⟩
      ·exact ⟨⟨_,_,rfl⟩,eoX,us,mX,rg,lu.stay⟩
    ·exact cq ⟨⟨_,_,rfl⟩,eoX,us,mX,rg,lu.stay⟩
  ·rintro σ H8 ⟨⟨c9,c10,rfl⟩,eo8,us,m8,rg,lu⟩
   rw[E1] at lu
   exact ⟨⟨_,_,_,rfl⟩,eo8,us,m8,rg,by rw[Nat.mul_succ];exact lu.on⟩
 ·rintro σ H7 ⟨⟨c8,c9,c10,rfl⟩,eo7,us,m7,rg,lu⟩
  rw[E1] at lu
  have lu0:=lu.1
  have mm:m*m<=100:=EI (Nd hm hm) (by decide)
  refine ⟨_,rfl,_,rfl,la,_,rfl,.inl ⟨SqL.of m7.at',λl3 hl3=>⟨(by show 2<=D3;decide),λb hb =>?_⟩⟩⟩
  have gA:=(af hl3 (.tup (us.map λt =>.ref t.1))).trans (af hb (.tup [.int m,.ref l3]))
  exact q b m us _ (m7.bu.same gA) ⟨⟨l3,ag,(af hb _) _ _ ag⟩,λu hu=>gA _ _ (m7.tu u hu),rg⟩ hm (by lia) lu.2.1
end
theorem Be {us:LA}(so:us.Pairwise λa b=>HT.lexLt b.2 a.2=false)(nd:(us.map (·.2)).Nodup):Ri us:=by
 unfold Ri
 have nd:=EN.mp nd
 refine (so.and nd).imp λ{a b} h =>?_
 cases c:HT.lexLt a.2 b.2 with
 | true=>rfl
 | false=>exact absurd (Srt.df _ _ c h.1) h.2
theorem Az {i:Int}(h0:0<=i)(h1:i<4):∃v:Nat,atI [V.int 8,V.int 9,V.int 12,V.int 40] i=some (.int (v:Int))/\8<=v/\v<=40:=by
 rcases (show i=0\/i=1\/i=2\/i=3 by lia) with z | z | z | z <;> subst z
 ·exact ⟨8,rfl,by decide,by decide⟩
 ·exact ⟨9,rfl,by decide,by decide⟩
 ·exact ⟨12,rfl,by decide,by decide⟩
 ·exact ⟨40,rfl,by decide,by decide⟩
theorem yF {x y z i:Int}{P:Int->Prop}(h0:0<=i)(h1:i<3)(px:P x)(py:P y)(pz:P z):∃v:Int,atI [V.int x,V.int y,V.int z] i=some (.int v)/\P v:=by
 rcases (show i=0\/i=1\/i=2 by lia) with c | c | c <;> subst c
 ·exact ⟨_,rfl,px⟩
 ·exact ⟨_,rfl,py⟩
 ·exact ⟨_,rfl,pz⟩
abbrev Bf:Sp:=λvs H Q _=>∃(p:Addr),vs=[.ref p]/\Pt 2 H p/\∀(b:Addr) (m:Nat) (ts:LA) (H':Hp),Bu 2 p H H'->Ow H' b (m:Int) ts->m<=40->ts.length<=200->Ri ts->Q (.ref b) H'
@[irreducible] def AA:Sp:=Bf
theorem mK {vs:List V}{H:Hp}{Q:VK}{E:XK}:AA vs H Q E↔Bf vs H Q E:=by
 delta AA
 exact FZ
section
theorem di:aK ["pot", "many", "arrows", "turn", "a", "b"] ["pot"] (ak jH):=⟨rfl,rfl,rfl,by decide +kernel,rfl,by decide +kernel,by decide +kernel⟩
theorem sU (F:Fun K "_law_some_web" "_law_some_web" jH f fd)(B:Blt mg)(cLPick:Cal P w K mg base 1 "_law_pick" ["pot", "many"] iw)(cLOneway:Cal P w K mg base 2 "_law_oneway" ["pot", "most"] jf):bG P w K mg base CX0 3 f fd ["pot"] AA:=by
 refine F.ok di (λvs H Q E h =>?_) (λcdv A outer s H vs Q E hr h =>?_)
 ·obtain ⟨_,rfl,_⟩:=mK.mp h
  rfl
 obtain ⟨p,rfl,hp,q⟩:=mK.mp h
 refine ⟨_,(ah (aX (ax xh (ay cLPick hr (by decide) rfl (aa (pv 0) (aa ai ae rfl) rfl)) ai (aE _)) (aj (aD (ay cLOneway hr (by decide) rfl (aa (pv 0) (aa ai ae rfl) rfl)))) aG)
  (ah (az (i:=1) di.nd rfl (Or.inl rfl) (aH aP (ba (aa ai (aa ai (aa ai (aa ai ae rfl) rfl) rfl) rfl)) (ay cLPick hr (by decide) rfl (aa (pv 0) (aa ai ae rfl) rfl)) (λ_ _=>rfl)))
  (ah (az (i:=2) di.nd rfl (Or.inl rfl) (bI ae))
  (ah (cz Fc rfl (bJ rfl B.b_range (aa (ay cLPick hr (by decide) rfl (aa (pv 0) (aa ai ae rfl) rfl)) ae rfl)) (aB (i:=3) di.nd rfl (Or.inl rfl))
   (ah (az (i:=4) di.nd rfl (Or.inl rfl) (ay cLPick hr (by decide) rfl (aa (pv 0) (aa (pv 1) ae rfl) rfl)))
   (ah (az (i:=5) di.nd rfl (Or.inl rfl) (aH aP (ba (aa (ay cLPick hr (by decide) rfl (aa (pv 0) (aa (pv 1) ae rfl) rfl)) (aa (aO fS (aO dA (pv 4) ai) (pv 1)) (aa (au (n5 rfl) rfl B.b_max yx (aa ai (aa (aO ly (pv 4) ai) ae rfl) rfl)) ae rfl) rfl) rfl)) (ay cLPick hr (by decide) rfl (aa (pv 0) (aa ai ae rfl) rfl)) (λ_ _=>rfl)))
   (aj (aX (ax (fC (hu8 hr)) (ba (aa (pv 4) (aa (pv 5) ae rfl) rfl)) (pv 2) rfl) (aj (cg (da Ex Fg Fh cc (pv 2) (aa (ba (aa (pv 4) (aa (pv 5) ae rfl) rfl)) ae rfl)))) aG)))) (λ_=>rfl))
  (aj (aD (ba (aa (pv 1) (aa (aL aN rfl B.b_tuple bB (aa (au iX rfl B.b_sorted eZ (aa (pv 2) ae rfl)) ae rfl)) ae rfl) rfl)))))))),?_⟩
 refine ⟨_,rfl,aF.mpr ⟨p,4,rfl,hp,by decide,aQ (by decide) (by decide),λd1 H1 d0 d4 u1 =>?_⟩⟩
 refine ⟨_,_,rfl,rfl,_,rfl,bD (λz =>?_) λz =>?_⟩
 ·refine ⟨_,rfl,fH.mpr ⟨p,7,rfl,u1.pot,by decide,by decide,λb m ts H2 u2 W m10 tl ri=>q b m ts H2 (u1.trans u2) W (by lia) tl ri⟩⟩
 refine ⟨(by show 4<=D3;decide),λt ht =>?_⟩
 have g2:=af ht (.tup [.int 8,.int 9,.int 12,.int 40])
 have et:upd H1 t (.tup [.int 8,.int 9,.int 12,.int 40]) t=some (.tup [.int 8,.int 9,.int 12,.int 40]):=ag
 have u2:=u1.same g2
 refine ⟨_,rfl,aF.mpr ⟨p,4,rfl,u2.pot,by decide,aQ (by decide) (by decide),λd8 H3 d0' d1' u3 =>?_⟩⟩
 obtain ⟨m,em,m8,m40⟩:=Az d0' d1'
 refine ⟨t,_,d8,_,rfl,rfl,SqT.of (u3.tup u2.pot et),em,?_⟩
 have uA:=u2.trans u3
 refine ⟨(by show 0<=D3;decide),λla hla1 =>?_⟩
 have hla:=kO uA hla1
 have np:la≠p:=hp.ne hla
 have m6:Mkg 2 p la H (upd H3 la (.lst [])) []:=⟨uA.same (af hla1 _),ag,(λu hu=>by cases hu),λu hu=>by cases hu⟩
 generalize upd H3 la (.lst [])=H6 at m6
 refine ⟨_,rfl,aF.mpr ⟨p,17,rfl,m6.bu.pot,by decide,aQ (by decide) (by decide),λn H7 n0 n17 u7 =>?_⟩⟩
 have m7:=m6.bu' np u7
 let W0:Nat->St->Hp->Prop:=λk σ H'=>(∃c3 c4 c5,σ=[some (.ref p),some (.int (m:Int)),some (.ref la),c3,c4,c5])/\∃us,Mkg 2 p la H H' us/\Rg m us/\us.length<=k/\(us.map (·.2)).Nodup
 refine ⟨n,rfl,by lia,by lia,de W0 ⟨⟨_,_,_,rfl⟩,[],m7,λu hu=>(by cases hu),EB _,FU⟩ ?_ ?_⟩
 ·rintro k σ H8 hk ⟨⟨c3,c4,c5,rfl⟩,us,m8',rg,lu,ndu⟩
  refine ⟨_,rfl,_,rfl,aF.mpr ⟨p,(m:Int),rfl,m8'.bu.pot,by lia,aQ (by lia) (by lia),λa H9 a0 a1 u9 =>?_⟩⟩
  have m9:=m8'.bu' np u9
  refine ⟨_,rfl,_,rfl,aF.mpr ⟨p,(m:Int),rfl,m9.bu.pot,by lia,aQ (by lia) (by lia),λb1 Ha b0 b1' ua =>?_⟩⟩
  have ma:=m9.bu' np ua
  refine ⟨_,rfl,_,_,rfl,rfl,_,rfl,_,_,rfl,rfl,(by show (0:Int)<_;lia),_,rfl,_,_,rfl,rfl,_,_,rfl,(by show 3<=D3;decide),λt3 ht3 =>?_⟩
  generalize hmx:(if a-1>0 then a-1 else (0:Int))=mx
  have mx0:0<=mx/\mx<m:=by rw[<- hmx];split <;> lia
  have g3:=af ht3 (.tup [.int b1,.int ((a+1)%(m:Int)),.int mx])
  have et3:upd Ha t3 (.tup [.int b1,.int ((a+1)%(m:Int)),.int mx]) t3=some (.tup [.int b1,.int ((a+1)%(m:Int)),.int mx]):=ag
  have mb:=ma.bu' np ((Bu.refl ma.bu.pot).same g3)
  generalize upd Ha t3 (.tup [.int b1,.int ((a+1)%(m:Int)),.int mx])=Hb at g3 et3 mb
  refine ⟨_,rfl,aF.mpr ⟨p,3,rfl,mb.bu.pot,by decide,aQ (by decide) (by decide),λd3 Hc f0 f1 uc =>?_⟩⟩
  have mc:=mb.bu' np uc
  obtain ⟨v,ev,v0,v1⟩:=yF (P:=λv=>0<=v/\v<m) f0 f1 ⟨b0,b1'⟩ ⟨Ja (a+1) (b:=(m:Int)) (by lia),Ii (a+1) (b:=(m:Int)) (by lia)⟩ mx0
  refine ⟨t3,_,d3,_,rfl,rfl,SqT.of (uc.tup mb.bu.pot et3),ev,?_⟩
  refine ⟨_,rfl,_,rfl,(by show 2<=D3;decide),λt4 ht4 =>?_⟩
  have g4:=af ht4 (.tup ([a,v].map V.int))
  have et4:upd Hc t4 (.tup ([a,v].map V.int)) t4=some (.tup ([a,v].map V.int)):=ag
  have md:=mc.bu' np ((Bu.refl mc.bu.pot).same g4)
  rw[show [V.int a,V.int v]=[a,v].map V.int from rfl]
  generalize upd Hc t4 (.tup ([a,v].map V.int))=Hd at g4 et4 md
  refine ⟨_,rfl,la,t4,us,[a,v],rfl,rfl,md.at',md.tu,et4,_,rfl,bD (λz =>?_) λz =>?_⟩
  ·refine ⟨_,rfl,.inl ⟨rfl,_,SqL.of md.at'⟩,_,rfl,_,rfl,(by show 2<=D3;decide),λt5 ht5 =>?_⟩
   have me:=md.add hla np ht5 a v
   refine ⟨la,_,_,rfl,rfl,(af ht5 _) _ _ md.at',by rw[DI];exact bq (by lia),?_⟩
   refine ⟨⟨_,_,_,rfl⟩,_,me,rg.snoc a0 a1 v0 v1,by rw[DT];show _+1<=_;lia,?_⟩
   rw[DU]
   refine HL.mpr ⟨ndu,Fm.mpr ⟨IC,FU⟩,λx hx y hy e =>?_⟩
   have hy:=DW.mp hy
   rw[e,hy] at hx
   rw[decide_eq_true hx] at z
   cases z
  ·exact ⟨⟨_,_,_,rfl⟩,us,md,rg,by lia,ndu⟩
 ·rintro σ H8 ⟨⟨c3,c4,c5,rfl⟩,us,m8',rg,lu,ndu⟩
  refine ⟨_,rfl,_,rfl,la,us,rfl,.inl (SqL.of m8'.at'),λt ht=>⟨SqT.of (m8'.tu t ht),?_⟩,λl2 out hl2 pm so =>?_⟩
  ·obtain ⟨x,y,e,_⟩:=rg t ht
   rw[e]
   intro z
   cases z
  refine ⟨l2,_,rfl,.inl ⟨SqL.of ag,λl3 hl3=>⟨(by show 2<=D3;decide),λb hb =>?_⟩⟩⟩
  have gA:=((af hl2 (.lst (out.map λt =>.ref t.1))).trans (af hl3 (.tup (out.map λt =>.ref t.1)))).trans (af hb (.tup [.int (m:Int),.ref l3]))
  have:out.length<=17:=by rw[pm.length_eq];lia
  exact q b m out _ (m8'.bu.same gA) ⟨⟨l3,ag,(af hb _) _ _ ag⟩,λu hu=>gA _ _ (m8'.tu u (pm.mem_iff.mp hu)),λu hu=>rg u (pm.mem_iff.mp hu)⟩ m40 (by lia) (Be so (((pm.map (·.2)).nodup_iff).mpr ndu))
end
theorem rh (k:Int):∀ps:List Int,inV (.int k) (ps.map V.int)=decide (k∈ps):=λps=>Dq k ps
theorem jM (ps:List Int):(ps.map V.int).all iL=true:=by
 rw[Gf]
 intro x hx
 obtain ⟨n,_,rfl⟩:=DZ.mp hx
 rfl
structure Ar (H:Hp)(l:Addr)(m:Nat)(us:LA):Prop where
 at':H l=some (.lst (us.map λu =>.ref u.1))
 tup:Tus H us
 rng:Rg (m:Int) us
theorem Ar.same {H H':Hp}{l:Addr}{m:Nat}{us:LA}(A:Ar H l m us)(s:aA H H'):Ar H' l m us:=⟨s _ _ A.at',A.tup.same s,A.rng⟩
theorem Ar.pr {H:Hp}{l:Addr}{m:Nat}{us:LA}(A:Ar H l m us):∀a b:Int,[a,b]∈us.map (·.2)->(0<=a/\a<m)/\0<=b/\b<m:=λa b h=>by
 obtain ⟨u,hu,e'⟩:=DZ.mp h
 obtain ⟨x,y,e,x0,x1,y0,y1⟩:=A.rng u hu
 rw[e] at e'
 cases e'
 exact ⟨⟨x0,x1⟩,y0,y1⟩
theorem wG (us:LA):(us.map λu=>(u.1,V.int (u.2.getD 0 0),V.int (u.2.getD 1 0))).map (λt=>V.ref t.1)=us.map λu=>V.ref u.1:=by rw[JQ];rfl
theorem Ar.pairs {K:DM}{H:Hp}{l:Addr}{m:Nat}{us:LA}(A:Ar H l m us):SqL K H l ((us.map λu=>(u.1,V.int (u.2.getD 0 0),V.int (u.2.getD 1 0))).map λt =>.ref t.1)/\∀t∈us.map λu=>(u.1,V.int (u.2.getD 0 0),V.int (u.2.getD 1 0)),SqT K H t.1 [t.2.1,t.2.2]:=by
 rw[wG]
 refine ⟨SqL.of A.at',λt ht =>?_⟩
 obtain ⟨u,hu,rfl⟩:=DZ.mp ht
 obtain ⟨x,y,e,_⟩:=A.rng u hu
 have:=A.tup u hu
 rw[e] at this
 have e0:(u.1,V.int (u.2.getD 0 0),V.int (u.2.getD 1 0))=(u.1,V.int x,V.int y):=by rw[e];rfl
 rw[e0]
 exact SqT.of this
theorem AB {us:LA}{i:Nat}{t:Addr×V×V}(h:(us.map λu=>(u.1,V.int (u.2.getD 0 0),V.int (u.2.getD 1 0)))[i]? = some t):∃u,us[i]? = some u/\t=(u.1,V.int (u.2.getD 0 0),V.int (u.2.getD 1 0)):=by
 rw[D1] at h
 cases e:us[i]? with
 | none=>rw[e] at h;cases h
 | some u=>rw[e] at h;exact ⟨u,rfl,(EA h).symm⟩
abbrev Bg:Sp:=λvs H Q _=>∃(l:Addr) (m:Nat) (us:LA),vs=[.int (m:Nat),.ref l]/\Ar H l m us/\m<=40/\us.length<=250/\∀(b:Bool) (H':Hp),aA H H'->(∀G,Gr m (us.map (·.2)) G->Stk m (us.map (·.2)) G->(b=true↔G.length=m))->Q (.bl b) H'
@[irreducible] def AD:Sp:=Bg
theorem mL {vs:List V}{H:Hp}{Q:VK}{E:XK}:AD vs H Q E↔Bg vs H Q E:=by
 delta AD
 exact FZ
section
theorem dR:aK ["many", "arrows", "left", "turn", "heads"] ["many", "arrows"] (ak jF):=⟨rfl,rfl,rfl,by decide +kernel,rfl,by decide +kernel,by decide +kernel⟩
theorem hJ:(["a", "b", "left"]:List Str).Nodup:=by decide +kernel
theorem fI:(["place", "heads"]:List Str).Nodup:=by decide +kernel
theorem sV (F:Fun K "_law_no_round" "_law_no_round" jF f fd)(B:Blt mg):bG P w K mg base CX0 1 f fd ["many", "arrows"] AD:=by
 refine F.ok dR (λvs H Q E h =>?_) (λcdv A outer s H vs Q E hr h =>?_)
 ·obtain ⟨_,_,_,rfl,_⟩:=mL.mp h
  rfl
 obtain ⟨l,m,us,rfl,A,m40,ul,q⟩:=mL.mp h
 refine ⟨_,(ah (az (i:=2) dR.nd rfl (Or.inr rfl) (aL (sI hr.hd) rfl B.b_list fG (aa (aL qN rfl B.b_range yy (aa (pv 0) ae rfl)) ae rfl)))
  (ah (cz Fc rfl (bJ rfl B.b_range (aa (pv 0) ae rfl)) (aB (i:=3) dR.nd rfl (Or.inl rfl))
   (ah (az (i:=4) dR.nd rfl (Or.inr rfl) (bo ["a", "b", "left"] [none,none,some 2] rfl (bC (pv 1)) rfl (λ_ _ _ _ _=>(lO (K:=K) (i:=0) (j:=1) hJ rfl rfl (Or.inl rfl) (Or.inl rfl))) (λ_ _ _ _ _=>(eB (ax (xx (K:=K)) (pv 0) (pv 2) rfl))) (λ_ _ _ _ _=>(pv 1))))
   (aj (az (i:=2) dR.nd rfl (Or.inr rfl) (bo ["place", "heads"] [none,some 4] rfl (bC (pv 2)) rfl (λ_ _ _ _ _=>(aB (i:=0) fI rfl (Or.inl rfl))) (λ_ _ _ _ _=>(eB (ax (xx (K:=K)) (pv 0) (pv 1) rfl))) (λ_ _ _ _ _=>(pv 0)))))) (λ_=>rfl))
  (aj (aD (cQ (Aj hr) (pv 2) (bI ae) (aE _)))))),?_⟩
 refine ⟨_,rfl,(m:Int),rfl,λra hra=>⟨ra,m,rfl,ag,by lia,λlf0 hlf0 =>?_⟩⟩
 have g1:=(af hra (.rng 0 m)).trans (af hlf0 (.lst ((EU m).map λi:Nat=>V.int (i:Int))))
 have elf0:upd (upd H ra (.rng 0 m)) lf0 (.lst ((EU m).map λi:Nat=>V.int (i:Int))) lf0=some (.lst ((rgI m).map V.int)):=by rw[ag];unfold rgI;rw[JQ];rfl
 generalize upd (upd H ra (.rng 0 m)) lf0 (.lst ((EU m).map λi:Nat=>V.int (i:Int)))=H1 at g1 elf0
 let W0:Nat->St->Hp->Prop:=λi σ H'=>∃(c3 c4:Option V) (lf:Addr) (L:List Int),σ=[some (.int (m:Int)),some (.ref l),some (.ref lf),c3,c4]/\aA H H'/\H' lf=some (.lst (L.map V.int))/\L.length<=m/\(∀G,Gr m (us.map (·.2)) G->Stk m (us.map (·.2)) G->∀v:Int,0<=v->v<m->v∉G->v∈L)/\∀G,Gr m (us.map (·.2)) G->G.length=m->∀v∈L,v∈G.drop i
 refine ⟨_,rfl,(m:Int),rfl,by lia,by lia,de W0 ⟨_,_,lf0,rgI m,rfl,g1,elf0,by rw[pV];exact DS _,λG _ _ v v0 v1 _=>gQ.mpr ⟨v0,v1⟩,λG h hl v hv=>h.full hl (gQ.mp hv).1 (gQ.mp hv).2⟩ ?_ ?_⟩
 ·rintro i σ H2 hi ⟨c3,c4,lf,L,rfl,s2,el,lL,iS,iG⟩
  have A2:=A.same s2
  refine ⟨_,rfl,l,rfl,⟨_,SqL.of A2.at'⟩,rP (ts:=us.map λu=>(u.1,V.int (u.2.getD 0 0),V.int (u.2.getD 1 0))) (λi ys H'=>H'=H2/\∃hs:List Int,ys=hs.map V.int/\hs.length<=i/\∀v,v∈hs↔∃a∈L,[a,v]∈(us.take i).map (·.2)) (by decide) ⟨rfl,[],rfl,DS _,λv=>⟨λz=>(by cases z),λ⟨a,_,z⟩=>(by cases z)⟩⟩ (by rw[DI];exact FN (small (by lia))) (λi ys H' _ k=>by rw[k.1];exact A2.pairs) ?_ ?_⟩
  ·rintro j t ys Ha ht hy ⟨eH,hs,rfl,lh,hh⟩ R1 R0 r1 r0
   obtain ⟨u,hu,rfl⟩:=AB ht
   obtain ⟨x,y,e3,_⟩:=A.rng u (DV hu)
   rw[eH]
   have g0:u.2.getD 0 0=x:=by rw[e3];rfl
   have g1:u.2.getD 1 0=y:=by rw[e3];rfl
   have tk:(us.take (j+1)).map (·.2)=(us.take j).map (·.2)++[[x,y]]:=by rw[Ef,hu,DU, <- e3];rfl
   rw[g0,g1]
   refine ⟨_,rfl,_,rfl,lf,_,rfl,.inl (SqL.of el),rfl,jM L,_,rfl,?_⟩
   show if (if false=true then _ else inV (.int x) (L.map V.int))=true then _ else _
   rw[if_neg Eh,rh]
   refine bD (λz =>?_) λz =>?_
   ·have z:=of_decide_eq_true z
    refine ⟨_,rfl,r1 _ _ ⟨rfl,hs++[y],by rw[DU];rfl,by rw[DT];show _+1<=_;lia,λv =>?_⟩⟩
    rw[D6,DW,hh v,tk]
    constructor
    ·rintro (⟨a,ha,h⟩ | rfl)
     ·exact ⟨a,ha,FJ _ h⟩
     ·exact ⟨x,z,EC _ (DW.mpr rfl)⟩
    ·rintro ⟨a,ha,h⟩
     rcases D6.mp h with h | h
     ·exact .inl ⟨a,ha,h⟩
     ·have:=DW.mp h
      cases this
      exact .inr rfl
   ·have z:x∉L:=λy=>z (decide_eq_true y)
    refine r0 _ ⟨rfl,hs,rfl,by lia,λv =>?_⟩
    rw[hh v,tk]
    constructor
    ·rintro ⟨a,ha,h⟩
     exact ⟨a,ha,FJ _ h⟩
    ·rintro ⟨a,ha,h⟩
     rcases D6.mp h with h | h
     ·exact ⟨a,ha,h⟩
     ·have:=DW.mp h
      cases this
      exact absurd ha z
  rintro ys Ha hy ⟨eH,hs,rfl,lh,hh⟩ lh' hlh
  rw[eH] at hlh ⊢
  rw[DI,D5 (DS _)] at hh
  rw[DI] at lh
  have g3:=af hlh (.lst (hs.map V.int))
  have elh:upd H2 lh' (.lst (hs.map V.int)) lh'=some (.lst (hs.map V.int)):=ag
  have el3:=g3 _ _ el
  generalize upd H2 lh' (.lst (hs.map V.int))=H3 at g3 elh el3
  let W1:Nat->List V->Hp->Prop:=λi ys H'=>H'=H3/\∃L':List Int,ys=L'.map V.int/\L'.length<=i/\∀v,v∈L'↔v∈L.take i/\v∈hs
  refine ⟨_,rfl,lf,rfl,⟨_,SqL.of el3⟩,aW (xs:=L.map V.int) W1 ⟨rfl,[],rfl,DS _,λv=>⟨λz=>(by cases z),λz=>(by cases z.1)⟩⟩ (by rw[DI];exact small (by lia)) (λi ys H' _ k=>by rw[k.1];exact SqL.of el3) ?_ ?_⟩
  ·rintro j x ys Ha hx hy ⟨eH,L',rfl,lL',hL'⟩ R1 R0 r1 r0
   obtain ⟨v,ev,rfl⟩:=oJ hx
   rw[eH]
   refine ⟨_,rfl,_,rfl,lh',_,rfl,.inl (SqL.of elh),rfl,jM hs,_,rfl,?_⟩
   show if (if false=true then _ else inV (.int v) (hs.map V.int))=true then _ else _
   rw[if_neg Eh,rh]
   have tk:L.take (j+1)=L.take j++[v]:=by rw[Ef,ev];rfl
   refine bD (λz =>?_) λz =>?_
   ·have z:=of_decide_eq_true z
    refine ⟨_,rfl,r1 _ _ ⟨rfl,L'++[v],by rw[DU];rfl,by rw[DT];show _+1<=_;lia,λx =>?_⟩⟩
    rw[D6,DW,hL' x,tk,D6,DW]
    constructor
    ·rintro (h | rfl)
     ·exact ⟨.inl h.1,h.2⟩
     ·exact ⟨.inr rfl,z⟩
    ·rintro ⟨h | h,h2⟩
     ·exact .inl ⟨h,h2⟩
     ·exact .inr h
   ·have z:v∉hs:=λy=>z (decide_eq_true y)
    refine r0 _ ⟨rfl,L',rfl,by lia,λx =>?_⟩
    rw[hL' x,tk,D6,DW]
    constructor
    ·exact λh=>⟨.inl h.1,h.2⟩
    ·rintro ⟨h | h,h2⟩
     ·exact ⟨h,h2⟩
     ·subst h;exact absurd h2 z
  rintro ys Ha hy2 ⟨eH,L',rfl,lL',hL'⟩ lf' hlf'
  rw[eH] at hlf' ⊢
  rw[DI,D5 (DS _)] at hL'
  rw[DI] at lL'
  refine ⟨_,_,lf',L',rfl,s2.trans (g3.trans (af hlf' _)),ag,by lia,λG hG hS=>hS.turn (λa b h=>(A.pr a b h).1) (λv h1 h2=>(hL' v).mpr ⟨h1,(hh v).mpr h2⟩) (iS G hG hS),λG hG hl=>hG.turn (L:=L) (L':=L') (λv hv=>⟨((hL' v).mp hv).1,(hh v).mp ((hL' v).mp hv).2⟩) (iG G hG hl)⟩
 rintro σ H2 ⟨c3,c4,lf,L,rfl,s2,el,lL,iS,iG⟩
 rw[E1] at iG
 refine ⟨_,rfl,(by show 0<=D3;decide),λl9 hl9 =>?_⟩
 have g9:=af hl9 (.lst [])
 refine ⟨lf,l9,L,[],rfl,rfl,SqL.of (g9 _ _ el),SqL.of ag,q _ _ (s2.trans g9) λG hG hS =>?_⟩
 rw[decide_eq_true_iff]
 constructor
 ·intro e
  apply Ea
  intro n
  obtain ⟨v,v0,v1,nv⟩:=hG.Au n
  have:=iS G hG hS v v0 v1 nv
  rw[e] at this
  cases this
 ·intro hl
  apply List.eq_nil_iff_forall_not_mem.mpr
  intro v hv
  have:=iG G hG hl v hv
  rw[List.drop_of_length_le (by lia)] at this
  cases this
end
def nbs (ns:List (List Int))(k:Int):List Int:=(ns.filter λt=>decide (t.getD 1 0=k)).map (·.getD 0 0)
def Adj (ns:List (List Int))(p o:Int):Prop:=o∈nbs ns p
def Ok (m:Nat)(ns:List (List Int)):Prop:=∀t∈ns,∃a b:Int,t=[a,b]/\0<=a/\a<m/\0<=b/\b<m
theorem kP {m:Nat}{ns:List (List Int)}(O:Ok m ns){p o:Int}:o∈nbs ns p↔[o,p]∈ns:=by
 unfold nbs
 rw[DZ]
 constructor
 ·rintro ⟨t,ht,rfl⟩
  obtain ⟨h1,h2⟩:=Ga.mp ht
  obtain ⟨x,y,rfl,_⟩:=O t h1
  have:y=p:=of_decide_eq_true h2
  subst this
  exact h1
 ·intro h
  exact ⟨[o,p],Ga.mpr ⟨h,decide_eq_true rfl⟩,rfl⟩
theorem AE {m:Nat}{ns:List (List Int)}(O:Ok m ns){u v:Int}(h:Adj ns u v):(0<=u/\u<m)/\0<=v/\v<m:=by
 obtain ⟨a,b,e,h1,h2,h3,h4⟩:=O _ ((kP O).mp h)
 cases e
 exact ⟨⟨h3,h4⟩,h1,h2⟩
theorem sW {R:List Int}{v:Int}(nd:R.Nodup)(h:v∉R):(R++[v]).Nodup:=by
 rw[HL]
 exact ⟨nd,Fm.mpr ⟨by simp,FU⟩,λx hx y hy e=>h (by rw[DW] at hy;subst hy;subst e;exact hx)⟩
structure jN (H:Hp)(n:Addr)(m:Nat)(ns:List (List Int))(os:LA):Prop where
 at':H n=some (.lst (os.map λu =>.ref u.1))
 len:os.length=m
 row:∀u∈os,H u.1=some (.lst (u.2.map V.int))
 is:∀(j:Nat) u,os[j]? = some u->∀x,x∈u.2↔x∈nbs ns (j:Int)
theorem jN.same {H H':Hp}{n:Addr}{m:Nat}{ns:List (List Int)}{os:LA}(h:jN H n m ns os)(s:aA H H'):jN H' n m ns os:=⟨s _ _ h.at',h.len,λu hu=>s _ _ (h.row u hu),h.is⟩
def yG (H:Hp)(d:Addr):Nat:=match H d with | some (.dK kvs)=>kvs.length | _=>0
def AF (H:Hp)(y:Addr):Nat:=match H y with | some (.lst xs)=>xs.length | _=>0
inductive Wk (R:Int->Int->Prop)(s:Int):Nat->Int->Prop
 | z:Wk R s 0 s
 | st {n:Nat} {p o:Int}:Wk R s n p->R p o->Wk R s (n+1) o
def Dst (R:Int->Int->Prop)(s:Int)(n:Nat)(v:Int):Prop:=Wk R s n v/\∀k,k<n->¬ Wk R s k v
theorem Dst.uniq {R:Int->Int->Prop}{s:Int}{a b:Nat}{v:Int}(h1:Dst R s a v)(h2:Dst R s b v):a=b:=by
 rcases Ml a b with h | h | h
 ·exact absurd h1.1 (h2.2 a h)
 ·exact h
 ·exact absurd h2.1 (h1.2 b h)
theorem Wk.zero {R:Int->Int->Prop}{s v:Int}(h:Wk R s 0 v):v=s:=by cases h;rfl
def stp (ns:List (List Int))(s g p o:Int):Prop:=Adj ns p o/\(p≠s\/o≠g)
theorem Wk.rng {m:Nat}{ns:List (List Int)}(O:Ok m ns){s g:Int}(hs:0<=s/\s<m){n:Nat}{v:Int}(h:Wk (stp ns s g) s n v):0<=v/\v<m:=by
 cases h with
 | z=>exact hs
 | st _ r=>exact (AE O r.1).2
def mp (C:List (Int×V)):List (Key×V):=C.map λe=>(Sum.inl e.1,e.2)
theorem p6 (v:Int):∀C:List (Int×V),(v∉C.map (·.1)/\dJ (mp C) (Sum.inl v)=none)\/∃x,(v,x)∈C/\dJ (mp C) (Sum.inl v)=some x
 | [] =>.inl ⟨by simp,rfl⟩
 | e :: C=>by
  by_cases h:e.1=v
  ·refine .inr ⟨e.2,by rw[<- h];exact En,?_⟩
   show dJ ((Sum.inl e.1,e.2) :: mp C) (Sum.inl v)=some e.2
   rw[i4 (by rw[h])]
  ·have en:dJ (mp (e :: C)) (Sum.inl v)=dJ (mp C) (Sum.inl v):=by
    show dJ ((Sum.inl e.1,e.2) :: mp C) (Sum.inl v)=_
    rw[i5 (λz=>h (by injection z))]
   rw[en]
   rcases p6 v C with ⟨h1,h2⟩ | ⟨x,h1,h2⟩
   ·exact .inl ⟨by rw[Ew,Eg];exact λz=>z.elim (λy=>h y.symm) h1,h2⟩
   ·exact .inr ⟨x,Em _ h1,h2⟩
theorem yH (v:Int)(C:List (Int×V)):(dJ (mp C) (Sum.inl v)).isSome=decide (v∈C.map (·.1)):=by
 rcases p6 v C with ⟨h1,h2⟩ | ⟨x,h1,h2⟩
 ·rw[h2,decide_eq_false h1];rfl
 ·rw[h2,decide_eq_true (JG (f:=(·.1)) h1)];rfl
theorem Cw {v:Int}{C:List (Int×V)}(h:v∈C.map (·.1)):∃x,(v,x)∈C/\dJ (mp C) (Sum.inl v)=some x:=by
 rcases p6 v C with ⟨h1,_⟩ | z
 ·exact absurd h h1
 ·exact z
theorem Cy {v:Int}{C:List (Int×V)}(h:v∉C.map (·.1))(x:V):putK (mp C) (Sum.inl v) x=mp (C++[(v,x)]):=by
 rcases p6 v C with ⟨_,h2⟩ | ⟨x,h1,_⟩
 ·rw[xU _ h2];unfold mp;rw[DU];rfl
 ·exact absurd (JG (f:=(·.1)) h1) h
theorem sZ (C:List (Int×V)):(mp C).length=C.length:=DI _
structure Rnd (ns:List (List Int))(s g:Int)(d:Nat)(C:List (Int×V))(Y F:List Int):Prop where
 nd:(C.map (·.1)).Nodup
 ent:∀e∈C,(e.1=s/\e.2 = .non)\/∃(p:Int) (n:Nat),e.2 = .int p/\Dst (stp ns s g) s n p/\Dst (stp ns s g) s (n+1) e.1/\stp ns s g p e.1
 key:∀v,v∈C.map (·.1)↔(∃n,n<=d/\Wk (stp ns s g) s n v)\/v∈F
 rdy:∀v,v∈Y↔Dst (stp ns s g) s d v
 fur:∀v∈F,Dst (stp ns s g) s (d+1) v
theorem Rnd.start (ns:List (List Int))(s g:Int):Rnd ns s g 0 [(s,.non)] [s] []:=by
 refine ⟨Fm.mpr ⟨by simp,FU⟩,λe he =>?_,λv =>?_,λv =>?_,λv h=>by cases h⟩
 ·rw[DW] at he;subst he;exact .inl ⟨rfl,rfl⟩
 ·show v∈[s]↔_
  rw[DW]
  refine ⟨λh =>.inl ⟨0,DS _,h ▸ .z⟩,λh =>?_⟩
  rcases h with ⟨n,h1,h2⟩ | h
  ·cases MS.mp h1;exact h2.zero
  ·cases h
 ·rw[DW]
  exact ⟨λh=>⟨h ▸ .z,λk hk=>absurd hk (Im _)⟩,λh=>h.1.zero⟩
theorem Rnd.add {ns:List (List Int)}{s g:Int}{d:Nat}{C:List (Int×V)}{Y F:List Int}(h:Rnd ns s g d C Y F){p o:Int}(hp:p∈Y)(ha:stp ns s g p o)(hn:o∉C.map (·.1)):Rnd ns s g d (C++[(o,.int p)]) Y (F++[o]):=by
 have dp:=(h.rdy p).mp hp
 have dw:Dst (stp ns s g) s (d+1) o:=⟨.st dp.1 ha,λk hk w=>hn ((h.key o).mpr (.inl ⟨k,HK hk,w⟩))⟩
 refine ⟨?_,λe he =>?_,λv =>?_,h.rdy,λv hv =>?_⟩
 ·rw[DU];exact sW h.nd hn
 ·rcases D6.mp he with z | z
  ·exact h.ent e z
  ·rw[DW] at z;subst z
   exact .inr ⟨p,d,rfl,dp,dw,ha⟩
 ·rw[DU,D6,h.key,D6]
  exact or_assoc
 ·rcases D6.mp hv with z | z
  ·exact h.fur v z
  ·rw[DW] at z;subst z;exact dw
theorem Rnd.next {ns:List (List Int)}{s g:Int}{d:Nat}{C:List (Int×V)}{Y F:List Int}(h:Rnd ns s g d C Y F)(cl:∀p∈Y,∀o,stp ns s g p o->o∈C.map (·.1)):Rnd ns s g (d+1) C F []:=by
 have lo:∀v,Wk (stp ns s g) s (d+1) v->v∈C.map (·.1):=λv w=>by
  cases w with
  | st w1 r =>
   rename_i p
   by_cases z:∃k,k<d/\Wk (stp ns s g) s k p
   ·obtain ⟨k,hk,wk⟩:=z
    exact (h.key v).mpr (.inl ⟨k+1,hk,.st wk r⟩)
   ·exact cl p ((h.rdy p).mpr ⟨w1,λk hk wk=>z ⟨k,hk,wk⟩⟩) v r
 refine ⟨h.nd,h.ent,λv=>⟨λhv =>?_,λhv =>?_⟩,λv=>⟨h.fur v,λdv =>?_⟩,λv hv=>by cases hv⟩
 ·rcases (h.key v).mp hv with ⟨n,hn,w⟩ | z
  ·exact .inl ⟨n,HI hn,w⟩
  ·exact .inl ⟨d+1,DS _,(h.fur v z).1⟩
 ·rcases hv with ⟨n,hn,w⟩ | z
  ·rcases HR d n with c | c
   ·have:n=d+1:=by lia
    subst this;exact lo v w
   ·exact (h.key v).mpr (.inl ⟨n,c,w⟩)
  ·cases z
 ·rcases (h.key v).mp (lo v dv.1) with ⟨n,hn,w⟩ | z
  ·exact absurd w (dv.2 n (Nat.lt_succ_of_le hn))
  ·exact z
theorem Rnd.stop {ns:List (List Int)}{s g:Int}{d:Nat}{C:List (Int×V)}(h:Rnd ns s g d C [] []){k:Nat}{v:Int}(w:Wk (stp ns s g) s k v):v∈C.map (·.1):=by
 refine (h.key v).mpr (.inl ?_)
 induction w with
 | z=>exact ⟨0,EB _,.z⟩
 | st w1 r ih =>
  rename_i n p o
  obtain ⟨n,hn,wn⟩:=ih
  by_cases z:∃k,k<d/\Wk (stp ns s g) s k p
  ·obtain ⟨k,hk,wk⟩:=z
   exact ⟨k+1,hk,.st wk r⟩
  ·have:n=d:=by
    rcases HR n d with c | c
    ·exact absurd ⟨n,c,wn⟩ z
    ·lia
   subst this
   have:=(h.rdy p).mpr ⟨wn,λk hk wk=>z ⟨k,hk,wk⟩⟩
   cases this
theorem Rnd.dst {ns:List (List Int)}{s g:Int}{d:Nat}{C:List (Int×V)}{Y:List Int}(h:Rnd ns s g d C Y []){v:Int}(hv:v∈C.map (·.1)):∃n,n<=d/\Dst (stp ns s g) s n v:=by
 obtain ⟨e,he,rfl⟩:=DZ.mp hv
 rcases h.ent e he with ⟨h1,_⟩ | ⟨p,n,_,_,h3,_⟩
 ·exact ⟨0,EB _,h1 ▸ .z,λk hk=>absurd hk (Im _)⟩
 ·rcases (h.key e.1).mp hv with ⟨k,hk,w⟩ | z
  ·refine ⟨n+1,?_,h3⟩
   rcases HR d (n+1) with c | c
   ·exact absurd w (h3.2 k (by lia))
   ·exact c
  ·cases z
structure Trl (ns:List (List Int))(s g:Int)(N:Nat)(Z:List Int):Prop where
 hd:Z[0]? = some g
 dst:∀i x,Z[i]? = some x->i<=N/\Dst (stp ns s g) s (N-i) x
 ch:∀i x y,Z[i]? = some x->Z[i+1]? = some y->stp ns s g y x
theorem Trl.start {ns:List (List Int)}{s g:Int}{N:Nat}(h:Dst (stp ns s g) s N g):Trl ns s g N [g]:=by
 refine ⟨rfl,λi x e =>?_,λi x y _ e=>by simp at e⟩
 cases i with
 | zero=>cases e;exact ⟨EB _,h⟩
 | succ i=>simp at e
theorem Trl.add {ns:List (List Int)}{s g:Int}{N n:Nat}{W:List Int}{p q:Int}(h:Trl ns s g N (W++[p]))(hn:n+1+W.length=N)(dq:Dst (stp ns s g) s n q)(hs:stp ns s g q p):Trl ns s g N (W++[p]++[q]):=by
 have lz:(W++[p]).length=W.length+1:=by simp
 refine ⟨?_,λi x e =>?_,λi x y e1 e2 =>?_⟩
 ·rw[EH (by lia)];exact h.hd
 ·rcases HR i (W.length+1) with c | c
  ·rw[EH (by lia)] at e;exact h.dst i x e
  ·rw[EY (by lia),lz] at e
   have:i-(W.length+1)=0:=by
    rcases Jb (i-(W.length+1)) with z | z
    ·exact z
    ·rw[Fp (by simp;lia)] at e;cases e
   rw[this] at e;cases e
   refine ⟨by lia,?_⟩
   rw[show N-i=n by lia];exact dq
 ·rcases HR (i+1) (W.length+1) with c | c
  ·rw[EH (by lia)] at e1 e2;exact h.ch i x y e1 e2
  ·rw[EY (by lia),lz] at e2
   have:i+1-(W.length+1)=0:=by
    rcases Jb (i+1-(W.length+1)) with z | z
    ·exact z
    ·rw[Fp (by simp;lia)] at e2;cases e2
   rw[this] at e2;cases e2
   rw[EH (by lia),EY (by lia),show i-W.length=0 by lia] at e1
   cases e1;exact hs
def Way (ns:List (List Int))(s g:Int)(N:Nat)(Z:List Int):Prop:=Trl ns s g N Z/\Z.length=N+1
theorem Trl.inj {ns:List (List Int)}{s g:Int}{N:Nat}{Z:List Int}(h:Trl ns s g N Z):Z.Nodup:=by
 refine HB.mpr λi j hi hj hij e =>?_
 have a:=h.dst i Z[i] (DL hi)
 have b:=h.dst j Z[j] (DL hj)
 rw[<- e] at b
 have:=a.2.uniq b.2
 omega
theorem Trl.rng {m:Nat}{ns:List (List Int)}(O:Ok m ns){s g:Int}(hs:0<=s/\s<m){N:Nat}{Z:List Int}(h:Trl ns s g N Z):∀v∈Z,0<=v/\v<m:=λv hv=>by
 obtain ⟨i,e⟩:=Et.mp hv
 exact (h.dst i v e).2.1.rng O hs
theorem Way.last {ns:List (List Int)}{s g:Int}{N:Nat}{Z:List Int}(h:Way ns s g N Z):Z[N]? = some s:=by
 obtain ⟨x,ex⟩:∃x,Z[N]? = some x:=⟨_,DL (by have:=h.2;lia)⟩
 have a:=(h.1.dst N x ex).2
 rw[Nat.sub_self] at a
 rw[ex,a.1.zero]
def inn (s g p:Int)(CF:List (Int×V)×List Int)(o:Int):List (Int×V)×List Int :=
 if o∈CF.1.map (·.1)\/¬ (p≠s\/o≠g) then CF else (CF.1++[(o,.int p)],CF.2++[o])
def Cz (nb:Int->List Int)(s g:Int)(CF:List (Int×V)×List Int)(p:Int):List (Int×V)×List Int:=(nb p).foldl (inn s g p) CF
def itW (nb:Int->List Int)(s g:Int):Nat->List (Int×V)×List Int
 | 0=>([(s,.non)],[s])
 | k+1=>(itW nb s g k).2.foldl (Cz nb s g) ((itW nb s g k).1,[])
def yI (g:Int)(CY:List (Int×V)×List Int):Prop:=CY.2=[]\/g∈CY.1.map (·.1)
def yJ (nb:Int->List Int)(s g:Int)(C:List (Int×V)):Prop:=∃k,(itW nb s g k).1=C/\yI g (itW nb s g k)/\∀j,j<k->¬ yI g (itW nb s g j)
theorem yJ.uniq {nb:Int->List Int}{s g:Int}{C C':List (Int×V)}(h:yJ nb s g C)(h':yJ nb s g C'):C=C':=by
 obtain ⟨k,e,st,no⟩:=h
 obtain ⟨k',e',st',no'⟩:=h'
 have:k=k':=by
  rcases Ml k k' with z | z | z
  ·exact absurd st (no' k z)
  ·exact z
  ·exact absurd st' (no k' z)
 rw[<- e, <- e',this]
def nxt:Option Int->V
 | some y =>.int y
 | none =>.non
theorem AG {a b:Option Int}(h:nxt a=nxt b):a=b:=by
 cases a <;> cases b <;> simp[nxt] at h ⊢
 exact h
def Tra (C:List (Int×V))(g:Int)(Z:List Int):Prop:=Z[0]? = some g/\∀(i:Nat) x,Z[i]? = some x->dJ (mp C) (Sum.inl x)=some (nxt Z[i+1]?)
theorem Tra.uniq {C:List (Int×V)}{g:Int}{Z Z':List Int}(h:Tra C g Z)(h':Tra C g Z'):Z=Z':=by
 apply Je
 intro i
 induction i with
 | zero=>rw[h.1,h'.1]
 | succ i ih =>
  cases e:Z[i]? with
  | none =>
   rw[e] at ih
   rw[Fp (by have:=FF.mp e;lia),Fp (by have:=FF.mp ih.symm;lia)]
  | some x =>
   have a:=h.2 i x e
   have b:=h'.2 i x (ih ▸ e)
   rw[a] at b
   exact AG (EA b)
def yK (nb:Int->List Int)(s g:Int)(Z:List Int):Prop:=∃C,yJ nb s g C/\Tra C g Z
theorem yK.uniq {nb:Int->List Int}{s g:Int}{Z Z':List Int}(h:yK nb s g Z)(h':yK nb s g Z'):Z=Z':=by
 obtain ⟨C,f,t⟩:=h
 obtain ⟨C',f',t'⟩:=h'
 have:=f.uniq f'
 subst this
 exact t.uniq t'
def p7 (rows:List (List Int))(p:Int):List Int:=rows.getD p.toNat []
theorem dZ {α β:Type}{f:β -> α -> β}{b:β}{l:List α}{i:Nat}{x:α}(e:l[i]? = some x):(l.take (i+1)).foldl f b=f ((l.take i).foldl f b) x:=by
 rw[Ef,e,Mm];rfl
theorem wH {X:Cx}{body:List Stmt}{D0:Ends}{σ0:St}{H0:Hp}(sts:List Stmt)(M:St->Hp->Prop)(h:∃t2,PSs X sts t2/\∀σ H,M σ H->t2 D0 σ H)
  (g:∀t2,PSs X sts t2->(∀σ H,M σ H->t2 D0 σ H)->∃t,PSs X body t/\t D0 σ0 H0):∃t,PSs X body t/\t D0 σ0 H0:=by
 obtain ⟨t2,p2,m2⟩:=h
 exact g t2 p2 m2
def yl (σ:St)(H:Hp):Nat:=match σ with
 | _ :: _ :: _ :: _ :: some (.ref y) :: _=>match H y with
  | some (.lst (_ :: _))=>1
  | _=>0
 | _=>0
theorem Bh {c0 c1 c2 c3:Option V}{y:Addr}{r:St}{H:Hp}{xs:List V}(e:H y=some (.lst xs)):yl (c0 :: c1 :: c2 :: c3 :: some (.ref y) :: r) H=if xs=[] then 0 else 1:=by
 unfold yl
 dsimp only
 rw[e]
 cases xs with
 | nil=>rfl
 | cons a t=>rfl
theorem tf {n:Nat}(h:n<=5000):n<D3:=Ih h (by decide)
theorem oJ {ms:List Int}{i:Nat}{x:V}(e:(ms.map V.int)[i]? = some x):∃n,ms[i]? = some n/\x = .int n:=by
 rw[D1] at e
 cases z:ms[i]? with
 | none=>rw[z] at e;cases e
 | some n=>rw[z] at e;exact ⟨n,rfl,(EA e).symm⟩
theorem uL {H:Hp}{d:Addr}{kvs:List (Key×V)}(e:H d=some (.dK kvs)):yG H d=kvs.length:=by unfold yG;rw[e]
theorem uM {H:Hp}{d:Addr}{xs:List V}(e:H d=some (.lst xs)):AF H d=xs.length:=by unfold AF;rw[e]
theorem gU {l:List Int}{i:Nat}{x v:Int}(e:l[i]? = some x)(h:v∈l.take (i+1)):v∈l.take i\/v=x:=by
 rw[Ef,e] at h
 rcases D6.mp h with z | z
 ·exact .inl z
 ·exact .inr (by simpa using z)
abbrev yL:Sp:=λvs H Q _=>∃(n:Addr) (m:Nat) (ns:List (List Int)) (os:LA) (s g:Int),vs=[.ref n,.int s,.int g]/\jN H n m ns os/\Ok m ns/\m<=400/\(0<=s/\s<m)/\s≠g/\(∀H',aA H H'->(∀k,¬ Wk (stp ns s g) s k g)->Q .non H')/\∀(z:Addr) (H':Hp) (N:Nat) (Z:List Int),aA H H'->H' z=some (.tup (Z.map V.int))->Way ns s g N Z->yK (p7 (os.map (·.2))) s g Z->Q (.ref z) H'
@[irreducible] def uN:Sp:=yL
theorem jP {vs:List V}{H:Hp}{Q:VK}{E:XK}:uN vs H Q E↔yL vs H Q E:=by
 delta uN
 exact FZ
def WM (H:Hp)(n:Addr)(sa gb:Int)(ns:List (List Int))(os:LA)(σ:St)(H':Hp):Prop:=∃(c5 c6 c7:Option V) (dd y:Addr) (d:Nat) (C:List (Int×V)) (Y:List Int),σ=[some (.ref n),some (.int sa),some (.int gb),some (.ref dd),some (.ref y),c5,c6,c7,none]/\H dd=none/\aA H H'/\H' dd=some (.dK (mp C))/\H' y=some (.lst (Y.map V.int))/\Rnd ns sa gb d C Y []/\(Y=[]\/gb∈C.map (·.1))/\yJ (p7 (os.map (·.2))) sa gb C
def WT (H:Hp)(n dd y wy:Addr)(sa gb:Int)(ns:List (List Int))(C:List (Int×V))(NN:Nat)(c5 c7:Option V)(σ:St)(H':Hp):Prop:=∃(x:V) (W Z:List Int),σ=[some (.ref n),some (.int sa),some (.int gb),some (.ref dd),some (.ref y),c5,some x,c7,some (.ref wy)]/\aA H H'/\H' dd=some (.dK (mp C))/\H' wy=some (.lst (W.map V.int))/\Trl ns sa gb NN Z/\(∀(i:Nat) u v,Z[i]? = some u->Z[i+1]? = some v->dJ (mp C) (Sum.inl u)=some (.int v))/\((∃(p:Int) (k:Nat),x = .int p/\Z=W++[p]/\Dst (stp ns sa gb) sa k p/\k+W.length=NN)\/(x = .non/\Z=W/\Z.length=NN+1/\∀u,Z[NN]? = some u->dJ (mp C) (Sum.inl u)=some .non))
def WA (H:Hp)(n dd:Addr)(sa gb:Int)(ns:List (List Int))(os:LA)(σ:St)(H':Hp):Prop:=∃(c5 c6 c7:Option V) (y:Addr) (d:Nat) (C:List (Int×V)) (Y:List Int),σ=[some (.ref n),some (.int sa),some (.int gb),some (.ref dd),some (.ref y),c5,c6,c7,none]/\aA H H'/\H' dd=some (.dK (mp C))/\H' y=some (.lst (Y.map V.int))/\Rnd ns sa gb d C Y []/\∃k,itW (p7 (os.map (·.2))) sa gb k=(C,Y)/\∀j,j<k->¬ yI gb (itW (p7 (os.map (·.2))) sa gb j)
def WB (H:Hp)(n dd y fu:Addr)(sa gb:Int)(ns:List (List Int))(os:LA)(d:Nat)(C:List (Int×V))(Y:List Int)(i:Nat)(σ:St)(H4:Hp):Prop:=∃(c6 c7:Option V) (C4:List (Int×V)) (F4:List Int),σ=[some (.ref n),some (.int sa),some (.int gb),some (.ref dd),some (.ref y),some (.ref fu),c6,c7,none]/\aA H H4/\H4 dd=some (.dK (mp C4))/\H4 y=some (.lst (Y.map V.int))/\H4 fu=some (.lst (F4.map V.int))/\Rnd ns sa gb d C4 Y F4/\C4.length=C.length+F4.length/\(∀p∈Y.take i,∀o,stp ns sa gb p o->o∈C4.map (·.1))/\(Y.take i).foldl (Cz (p7 (os.map (·.2))) sa gb) (C,[])=(C4,F4)
def WC (H:Hp)(n dd y fu:Addr)(pn:Nat)(sa gb:Int)(ns:List (List Int))(uu:Addr×List Int)(d:Nat)(C C4:List (Int×V))(Y F4:List Int)(i:Nat)(j:Nat)(σ:St)(H5:Hp):Prop:=∃(c7:Option V) (C5:List (Int×V)) (F5:List Int),σ=[some (.ref n),some (.int sa),some (.int gb),some (.ref dd),some (.ref y),some (.ref fu),some (.int pn),c7,none]/\aA H H5/\H5 dd=some (.dK (mp C5))/\H5 y=some (.lst (Y.map V.int))/\H5 fu=some (.lst (F5.map V.int))/\Rnd ns sa gb d C5 Y F5/\C5.length=C.length+F5.length/\(∀p∈Y.take i,∀o,stp ns sa gb p o->o∈C5.map (·.1))/\(∀o∈uu.2.take j,stp ns sa gb pn o->o∈C5.map (·.1))/\(uu.2.take j).foldl (inn sa gb pn) (C4,F4)=(C5,F5)
section
theorem bP:aK ["near", "start", "goal", "came", "ready", "further", "place", "other", "way"] ["near", "start", "goal"] (ak eY):=⟨rfl,rfl,rfl,by decide +kernel,rfl,by decide +kernel,by decide +kernel⟩
theorem tj (F:Fun K "way_about" "way_about" eY f fd)(B:Blt mg):bG P w K mg base CX0 1 f fd ["near", "start", "goal"] uN:=by
 refine F.ok bP (λvs H Q E h =>?_) (λcdv A outer s H vs Q E hr h =>?_)
 ·obtain ⟨_,_,_,_,_,_,rfl,_⟩:=jP.mp h
  rfl
 obtain ⟨n,m,ns,os,sa,gb,rfl,N,O,m4,hs,nsg,q0,q1⟩:=jP.mp h
 have hu:(kj CX0 P w K mg base ["near", "start", "goal", "came", "ready", "further", "place", "other", "way"] "way_about" (ak eY) f cdv A outer s H E).nox.A.units+1<cLine:=Dd hr
 have kl:∀{d:Nat} {C:List (Int×V)} {Y F:List Int},Rnd ns sa gb d C Y F->C.length<=m:=λ{d C Y F} I=>by
  have:=dQ I.nd (m:=m) λv hv=>by
   rcases (I.key v).mp hv with ⟨k,_,wk⟩ | z
   ·exact wk.rng O hs
   ·exact (I.fur v z).1.rng O hs
  rwa [DI] at this
 refine wH ((ck eY).drop 3) (WM H n sa gb ns os) ?hT λtT pT mT =>?gT
 case hT =>
  refine ⟨_,(ah (aX (rD (jA hu (pv 2) (pv 3))) (aj (aD hX)) aG)
  (ah (az (i:=8) bP.nd rfl (Or.inl rfl) (bI ae))
  (ah (az (i:=6) bP.nd rfl (Or.inl rfl) (pv 2))
  (ah (k7 Fc (ax tQ (pv 6) hX (aE _))
   (ah (cg (da Ex Fg Fh cc (pv 8) (aa (pv 6) ae rfl)))
   (aj (az (i:=6) bP.nd rfl (Or.inl rfl) (Aa hu (pv 3) (pv 6) (λ_ _=>rfl))))))
  (aj (aD (aL aN rfl B.b_tuple bB (aa (pv 8) ae rfl)))))))),?_⟩
  rintro σ H' ⟨c5,c6,c7,dd,y,d,C,Y,rfl,hdd,s',ed,ey,I,h2,fw⟩
  refine ⟨_,rfl,_,rfl,dd,_,rfl,mf.k (k:=Sum.inl gb) ed,_,rfl,?_⟩
  rw[yH]
  by_cases hg:gb∈C.map (·.1)
  ·rw[decide_eq_true hg]
   refine cq ⟨(by show 0<=D3;decide),λwy hwy =>?_⟩
   have g2:=af hwy (.lst [])
   have ew:upd H' wy (.lst []) wy=some (.lst (([]:List Int).map V.int)):=ag
   have ed2:=g2 _ _ ed
   have hw0:=s'.free hwy
   have ndw:dd≠wy:=av ed hwy
   have s2:=s'.trans g2
   generalize upd H' wy (.lst [])=H2 at g2 ew ed2 s2
   obtain ⟨NN,hN,dN⟩:=I.dst hg
   refine ⟨_,rfl,?_⟩
   refine k9 (WT H n dd y wy sa gb ns C NN c5 c7)
    (λσ H'=>NN+1-AF H' wy) ⟨_,[],[gb],rfl,s2,ed2,ew,Trl.start dN,λi u v _ e=>by simp at e,.inl ⟨gb,NN,rfl,rfl,dN,rfl⟩⟩ ?_ ?_
   ·rintro σ H3 ⟨x,W,Z,rfl,s3,ed3,ew3,tr,vc,cs⟩
    have yw:=uM ew3
    rw[DI] at yw
    rcases cs with ⟨p,k,rfl,rfl,dp,kW⟩ | ⟨rfl,rfl,lZ,vl⟩
    ·refine ⟨_,rfl,rfl,_,rfl,bO ?_⟩
     refine ⟨_,rfl,.inl ⟨rfl,_,SqL.of ew3⟩,_,rfl,wy,_,_,rfl,rfl,ew3,by rw[DI];exact bq (by have:=dQ tr.inj (tr.rng O hs);rw[DT] at this;lia),?_⟩
     have ew4:upd H3 wy (.lst (W.map V.int++[.int p])) wy=some (.lst ((W++[p]).map V.int)):=by rw[ag,DU];rfl
     have ed4:upd H3 wy (.lst (W.map V.int++[.int p])) dd=some (.dK (mp C)):=by rw[aq ndw];exact ed3
     have s4:=aA.dh s3 hw0 (.lst (W.map V.int++[.int p]))
     generalize upd H3 wy (.lst (W.map V.int++[.int p]))=H4 at ew4 ed4 s4
     have y4:=uM ew4
     rw[DI,DT] at y4
     have y4':AF H4 wy=W.length+1:=y4
     obtain ⟨x,hx,ex⟩:=Cw ((I.key p).mpr (.inl ⟨k,by lia,dp.1⟩))
     refine ⟨_,rfl,_,rfl,dd,x,rfl,?_,⟨x,W++[p],?_⟩,by rw[yw,y4'];lia⟩
     ·have:=mf.k (k:=Sum.inl p) ed4
      rw[ex] at this
      exact this
     rcases I.ent _ hx with ⟨e1,e2⟩ | ⟨p',k',e2,d1,d2,st⟩
     ·have k0:k=0:=dp.uniq (b:=0) (by rw[show p=sa from e1];exact ⟨.z,λj hj=>absurd hj (Im _)⟩)
      refine ⟨W++[p],rfl,s4,ed4,ew4,tr,vc,.inr ⟨e2,rfl,by rw[DT];show W.length+1=_;lia,λu eu =>?_⟩⟩
      rw[EY (by lia),show NN-W.length=0 by lia] at eu
      cases eu
      rw[ex,show x=V.non from e2]
     ·have kk:k=k'+1:=dp.uniq d2
      refine ⟨W++[p]++[p'],rfl,s4,ed4,ew4,tr.add (by lia) d1 st,λi u v e3 e4 =>?_,.inl ⟨p',k',e2,rfl,d1,by rw[DT];show k'+(W.length+1)=_;lia⟩⟩
      have lW:(W++[p]).length=W.length+1:=by simp
      rcases HR (i+1) (W.length+1) with c | c
      ·rw[EH (by lia)] at e3 e4;exact vc i u v e3 e4
      ·rw[EY (by lia),lW] at e4
       have:i+1-(W.length+1)=0:=by
        rcases Jb (i+1-(W.length+1)) with z | z
        ·exact z
        ·rw[Fp (by simp;lia)] at e4;cases e4
       rw[this] at e4;cases e4
       rw[EH (by lia),EY (by lia),show i-W.length=0 by lia] at e3
       cases e3
       rw[ex,show x=V.int p' from e2]
    ·refine ⟨_,rfl,rfl,_,rfl,cq ?_⟩
     refine ⟨_,rfl,wy,_,rfl,.inl ⟨SqL.of ew3,λz hz=>q1 z _ NN Z (s3.trans (af hz _)) ag ⟨tr,lZ⟩ ⟨C,fw,tr.hd,λi u eu =>?_⟩⟩⟩
     cases ev:Z[i+1]? with
     | some v=>exact vc i u v eu ev
     | none =>
      have h1:=(DQ.mp eu).1
      have h2:=FF.mp ev
      exact vl u (by rw[show NN=i by lia];exact eu)
   ·rintro σ H Q Q' h ⟨v,e,k,c,t,q⟩;exact ⟨v,e,k,c,t,h _ _ q⟩
  ·rw[decide_eq_false hg]
   have hY:Y=[]:=h2.resolve_right hg
   subst hY
   exact bO (q0 H' s' λk wk=>hg (I.stop wk))
 case gT =>
 refine ⟨_,(ah (az (i:=3) bP.nd rfl (Or.inl rfl) (Ad (xX (pv 1) hX Ac) rfl rfl (by simp) (by decide)))
  (ah (az (i:=4) bP.nd rfl (Or.inl rfl) (bI (aa (pv 1) ae rfl)))
  (ah (k7 Fc (PW.pt (jq (qm (pv 4) (λ_=>rfl)) (gF (rD (jA hu (pv 2) (pv 3))))))
   (ah (az (i:=5) bP.nd rfl (Or.inl rfl) (bI ae))
   (ah (cz Fc rfl (bC (pv 4)) (aB (i:=6) bP.nd rfl (Or.inl rfl))
    (aj (cz Fc rfl (bC (aH bR (pv 0) (pv 6) (λ_ _=>rfl))) (aB (i:=7) bP.nd rfl (Or.inl rfl))
     (aj (aX (PW.pt (jq (rD (jA hu (pv 7) (pv 3))) (gF (PW.pt (cP (ax nZ (pv 6) (pv 1) (aE _)) (cy (ax nZ (pv 7) (pv 2) (aE _)))))))) (ah (Ab hu (pv 3) (pv 7) (pv 6) rfl)
      (aj (cg (da Ex Fg Fh cc (pv 5) (aa (pv 7) ae rfl))))) aG)) (λ_=>rfl))) (λ_=>rfl))
   (aj (az (i:=4) bP.nd rfl (Or.inl rfl) (pv 5))))))
  pT))),?_⟩
 refine λdd hdd=>⟨_,rfl,ag,[(Sum.inl sa,.non)],rfl,(by show 1<=15;decide),?_⟩
 have e1d:upd (upd H dd (.dK [])) dd (.dK (fY [] [(Sum.inl sa,V.non)])) dd=some (.dK (mp [(sa,.non)])):=ag
 have s1:aA H (upd (upd H dd (.dK [])) dd (.dK (fY [] [(Sum.inl sa,V.non)]))):=λb o e=>by
  rw[aq (av e hdd),aq (av e hdd)];exact e
 generalize upd (upd H dd (.dK [])) dd (.dK (fY [] [(Sum.inl sa,V.non)]))=H1 at e1d s1
 refine ⟨_,rfl,(by show 1<=D3;decide),λy hy =>?_⟩
 have g2:=af hy (.lst [.int sa])
 have e2y:upd H1 y (.lst [.int sa]) y=some (.lst (([sa]:List Int).map V.int)):=ag
 have e2d:=g2 _ _ e1d
 have s2:=s1.trans g2
 generalize upd H1 y (.lst [.int sa])=H2 at g2 e2y e2d s2
 refine k9 (WA H n dd sa gb ns os)
  (λσ H'=>2*(m-yG H' dd)+yl σ H') ⟨_,_,_,y,0,_,_,rfl,s2,e2d,e2y,Rnd.start ns sa gb,0,rfl,λj hj=>absurd hj (Im _)⟩ ?_ ?_
 ·rintro σ H' ⟨c5,c6,c7,y,d,C,Y,rfl,s',ed,ey,I,kk,ekk,nst⟩
  refine ⟨_,rfl, !(Y.map V.int).isEmpty,.inl ⟨_,SqL.of ey,rfl⟩,?_⟩
  by_cases hY:Y=[]
  ·have fin:=mT _ _ ⟨c5,c6,c7,dd,y,d,C,Y,rfl,hdd,s',ed,ey,I,.inl hY,kk,by rw[ekk],by rw[ekk];exact .inl hY,nst⟩
   subst hY
   exact cq fin
  rw[show (!(Y.map V.int).isEmpty)=true by cases Y with | nil=>exact absurd rfl hY | cons a t=>rfl]
  refine bO ⟨_,rfl,_,rfl,dd,_,rfl,mf.k (k:=Sum.inl gb) ed,_,rfl,?_⟩
  rw[yH]
  by_cases hg:gb∈C.map (·.1)
  ·rw[decide_eq_true hg]
   exact cq (mT _ _ ⟨c5,c6,c7,dd,y,d,C,Y,rfl,hdd,s',ed,ey,I,.inr hg,kk,by rw[ekk],by rw[ekk];exact .inr hg,nst⟩)
  rw[decide_eq_false hg]
  refine bO ⟨(by show 0<=D3;decide),λfu hfu =>?_⟩
  have hf0:=s'.free hfu
  have g3:=af hfu (.lst [])
  have ef:upd H' fu (.lst []) fu=some (.lst (([]:List Int).map V.int)):=ag
  have ed3:=g3 _ _ ed
  have ey3:=g3 _ _ ey
  have ndf:dd≠fu:=av ed hfu
  have nyf:y≠fu:=av ey hfu
  have s3:=s'.trans g3
  have nyd:y≠dd:=ql ey ed (by intro z;cases z)
  have mu0:2*(m-yG H' dd)+yl [some (.ref n),some (.int sa),some (.int gb),some (.ref dd),some (.ref y),c5,c6,c7,none] H'=2*(m-C.length)+1:=by
   rw[uL ed,sZ,Bh ey,if_neg (by simpa using hY)]
  rw[mu0]
  generalize upd H' fu (.lst [])=H3 at g3 ef ed3 ey3 s3
  have kC:=kl I
  refine ⟨_,rfl,y,rfl,⟨_,SqL.of ey3⟩,iI (xs:=Y.map V.int) (WB H n dd y fu sa gb ns os d C Y)
   ⟨_,_,C,[],rfl,s3,ed3,ey3,ef,I,rfl,λp hp=>by simp at hp,rfl⟩ (λi σ H4 _ z =>?_) ?_ ?_⟩
  ·obtain ⟨_,_,_,_,_,_,_,e,_⟩:=z
   exact SqL.of e
  ·rintro i x σ H4 hx ⟨c6,c7,C4,F4,rfl,s4,ed4,ey4,ef4,I4,l4,cl4,fo4⟩
   obtain ⟨p,ep,rfl⟩:=oJ hx
   have pY:=DV ep
   have pr:=((I4.rdy p).mp pY).1.rng O hs
   obtain ⟨pn,rfl⟩:∃k:Nat,p=k:=⟨p.toNat,by lia⟩
   have N4:=N.same s4
   have pl:pn<os.length:=by rw[N.len];lia
   obtain ⟨uu,eu⟩:∃u,os[pn]? = some u:=⟨_,DL pl⟩
   have rowu:=N4.row _ (DV eu)
   have isu:=N.is pn _ eu
   have enb:p7 (os.map (·.2)) (pn:Int)=uu.2:=by unfold p7;rw[E1,DX,D1,eu];rfl
   refine ⟨_,rfl,_,rfl,n,_,(pn:Int),_,rfl,rfl,SqL.of N4.at',cj (by rw[D1,eu];rfl),uu.1,rfl,⟨_,SqL.of rowu⟩,iI (xs:=uu.2.map V.int)
    (WC H n dd y fu pn sa gb ns uu d C C4 Y F4 i)
    ⟨_,C4,F4,rfl,s4,ed4,ey4,ef4,I4,l4,cl4,λo ho=>by simp at ho,rfl⟩ (λj σ H5 _ z =>?_) ?_ ?_⟩
   ·obtain ⟨_,_,_,_,s5,_⟩:=z
    exact SqL.of ((N.same s5).row _ (DV eu))
   ·rintro j x σ H5 hx ⟨c7,C5,F5,rfl,s5,ed5,ey5,ef5,I5,l5,cl5,tk5,fo5⟩
    obtain ⟨o,eo,rfl⟩:=oJ hx
    have ao:Adj ns pn o:=(isu o).mp (DV eo)
    refine ⟨_,rfl,_,rfl,dd,_,rfl,mf.k (k:=Sum.inl o) ed5,_,rfl,?_⟩
    rw[yH]
    by_cases ho:o∈C5.map (·.1)
    ·rw[decide_eq_true ho]
     refine cq (cq ⟨_,C5,F5,rfl,s5,ed5,ey5,ef5,I5,l5,cl5,λo' h' st =>?_,by rw[dZ eo,fo5];unfold inn;rw[if_pos (.inl ho)]⟩)
     rcases gU eo h' with z | z
     ·exact tk5 o' z st
     ·rw[z];exact ho
    rw[decide_eq_false ho]
    have k5:=kl I5
    have hd:vQ H5 dd (.int o) (.int pn) (upd H5 dd (.dK (putK (mp C5) (Sum.inl o) (.int pn)))):=vQ.k (k:=Sum.inl o) ed5 (by rw[sZ];exact tf (by lia))
    rw[Cy ho] at hd
    have ed6:upd H5 dd (.dK (mp (C5++[(o,.int pn)]))) dd=some (.dK (mp (C5++[(o,.int pn)]))):=ag
    have ef6:upd H5 dd (.dK (mp (C5++[(o,.int pn)]))) fu=some (.lst (F5.map V.int)):=by rw[aq (Ft ndf)];exact ef5
    have ey6:upd H5 dd (.dK (mp (C5++[(o,.int pn)]))) y=some (.lst (Y.map V.int)):=by rw[aq nyd];exact ey5
    have s6:=aA.dh s5 hdd (.dK (mp (C5++[(o,.int pn)])))
    generalize upd H5 dd (.dK (mp (C5++[(o,.int pn)])))=H6 at hd ed6 ef6 ey6 s6
    have fin:stp ns sa gb pn o->WC H n dd y fu pn sa gb ns uu d C C4 Y F4 i (j+1) [some (.ref n),some (.int sa),some (.int gb),some (.ref dd),some (.ref y),some (.ref fu),some (.int pn),some (.int o),none] (upd H6 fu (.lst (F5.map V.int++[.int o]))):=λst=>by
     refine ⟨_,C5++[(o,.int pn)],F5++[o],rfl,aA.dh s6 hf0 _,by rw[aq ndf];exact ed6,by rw[aq nyf];exact ey6,by rw[ag,DU];rfl,I5.add pY st ho,by rw[DT,DT,l5];rfl,λp' hp' o' st' =>?_,λo' h' st' =>?_,by rw[dZ eo,fo5];unfold inn;rw[if_neg (λz=>z.elim ho λy=>y st.2)]⟩
     ·rw[DU];exact FJ _ (cl5 p' hp' o' st')
     ·rw[DU]
      rcases gU eo h' with z | z
      ·exact FJ _ (tk5 o' z st')
      ·rw[z];exact EC _ (by simp)
    have lf:F5.length<=400:=by lia
    refine bO ⟨_,rfl,_,rfl,rfl,_,rfl,bD (λz =>?_) λz=>⟨_,rfl,_,rfl,rfl,_,rfl,bD (λz2 =>?_) λz2 =>?_⟩⟩
    ·have h1:(pn:Int)≠sa:=by simpa using z
     exact bO ⟨_,rfl,_,rfl,_,rfl,dd,_,rfl,hd,_,rfl,.inl ⟨rfl,_,SqL.of ef6⟩,_,rfl,fu,_,_,rfl,rfl,ef6,by rw[DI];exact tf (by lia),fin ⟨ao,.inl h1⟩⟩
    ·have h1:o≠gb:=by simpa using z2
     exact ⟨_,rfl,_,rfl,_,rfl,dd,_,rfl,hd,_,rfl,.inl ⟨rfl,_,SqL.of ef6⟩,_,rfl,fu,_,_,rfl,rfl,ef6,by rw[DI];exact tf (by lia),fin ⟨ao,.inr h1⟩⟩
    ·have h1:(pn:Int)=sa:=by simpa using z
     have h2:o=gb:=by simpa using z2
     refine ⟨_,C5,F5,rfl,s5,ed5,ey5,ef5,I5,l5,cl5,λo' h' st =>?_,by rw[dZ eo,fo5];unfold inn;rw[if_pos (.inr (λz=>z.elim (λy=>y h1) λy=>y h2))]⟩
     rcases gU eo h' with y' | y'
     ·exact tk5 o' y' st
     ·subst y'
      exact absurd st.2 (by simp[h1,h2])
   ·rintro σ H5 ⟨c7,C5,F5,rfl,s5,ed5,ey5,ef5,I5,l5,cl5,tk5,fo5⟩
    rw[DI,D5 (DS _)] at tk5 fo5
    refine ⟨_,_,C5,F5,rfl,s5,ed5,ey5,ef5,I5,l5,λp' hp' o st =>?_,by rw[dZ ep,fo4];unfold Cz;rw[enb];exact fo5⟩
    rcases gU ep hp' with z | z
    ·exact cl5 p' z o st
    ·subst z
     exact tk5 o ((isu o).mpr st.1) st
  ·rintro σ H4 ⟨c6,c7,C4,F4,rfl,s4,ed4,ey4,ef4,I4,l4,cl4,fo4⟩
   rw[DI,D5 (DS _)] at cl4 fo4
   have I5:=I4.next cl4
   have k4:=kl I4
   refine ⟨_,rfl,⟨_,_,_,fu,d+1,C4,F4,rfl,s4,ed4,ef4,I5,kk+1,by show (itW _ sa gb kk).2.foldl _ ((itW _ sa gb kk).1,[])=_;rw[ekk];exact fo4,λj hj =>?_⟩,?_⟩
   ·rcases HR j kk with c | c
    ·exact nst j c
    ·rw[show j=kk by lia,ekk]
     exact λz=>z.elim hY hg
   show 2*(m-yG H4 dd)+yl [some (.ref n),some (.int sa),some (.int gb),some (.ref dd),some (.ref fu),some (.ref fu),c6,c7,none] H4<_
   rw[uL ed4,sZ,Bh ef4]
   by_cases hF:F4=[]
   ·subst hF;rw[if_pos (show List.map V.int []=[] from rfl),l4];show 2*(m-(C.length+0))+0<_;lia
   ·rw[if_neg (by simpa using hF),l4]
    have:=G3.mpr hF
    lia
 ·rintro σ H Q Q' h ⟨v,e,k,t,q⟩
  refine ⟨v,e,k,t,?_⟩
  cases k with
  | false=>exact h _ _ q
  | true =>
   obtain ⟨v,e,v2,e2,a,o,e3,g,c,e4,q⟩:=q
   exact ⟨v,e,v2,e2,a,o,e3,g,c,e4,h _ _ q⟩
end
def rot (ns:List Int)(k:Nat):List Int:=ns.drop k++ns.take k
theorem yM (xs:List V){k:Nat}(h:k<=xs.length):eQ xs none (some (k:Int))=xs.take k:=by
 unfold eQ HT.sIx
 simp only[show ¬ ((k:Int)<0) by lia,if_false,E1,Mr,Iw,show min k xs.length=k by lia]
theorem yN (xs:List V){k:Nat}(h:k<=xs.length):eQ xs (some (k:Int)) none=xs.drop k:=by
 unfold eQ HT.sIx
 simp only[show ¬ ((k:Int)<0) by lia,if_false,E1,show min k xs.length=k by lia]
 exact D5 (by rw[Ez];exact DS _)
abbrev Bi:Sp:=λvs H Q _=>∃(p:Addr) (ns:List Int),vs=[.ref p]/\H p=some (.tup (ns.map V.int))/\ns≠[]/\ns.length<=500/\∀(z:Addr) (H':Hp) (M:Int),aA H H'->M∈ns->(∀b∈ns,M<=b)->H' z=some (.tup ((rot ns (ns.idxOf M)).map V.int))->Q (.ref z) H'
@[irreducible] def yO:Sp:=Bi
theorem jg {vs:List V}{H:Hp}{Q:VK}{E:XK}:yO vs H Q E↔Bi vs H Q E:=by
 delta yO
 exact FZ
section
theorem ki:aK ["places", "at"] ["places"] (ak iq):=⟨rfl,rfl,rfl,by decide +kernel,rfl,by decide +kernel,by decide +kernel⟩
theorem rj (F:Fun K "round_form" "round_form" iq f fd)(B:Blt mg):bG P w K mg base CX0 1 f fd ["places"] yO:=by
 refine F.ok ki (λvs H Q E h =>?_) (λcdv A outer s H vs Q E hr h =>?_)
 ·obtain ⟨_,_,rfl,_⟩:=jg.mp h
  rfl
 obtain ⟨p,ns,rfl,ep,ne,l5,q⟩:=jg.mp h
 refine ⟨_,(ah (az (i:=1) ki.nd rfl (Or.inl rfl) (Cc J8 PySem.F.type_tuple_index wj (pv 0) (aa (au (ml rfl) rfl B.b_min mE (aa (pv 0) ae rfl)) ae rfl)))
  (aj (aD (aO i6 (aL aN rfl B.b_tuple bB (aa (bz gP (pv 0) (bM (pv 1)) bL) ae rfl)) (aL aN rfl B.b_tuple bB (aa (bz gP (pv 0) bL (bM (pv 1))) ae rfl)))))),?_⟩
 have lm:(ns.map V.int).length=ns.length:=DI _
 refine ⟨_,rfl,⟨p,_,rfl,ep⟩,_,rfl,p,ns,rfl,SqT.of ep,ne,λM hM mn=>⟨p,ns,M,rfl,rfl,ep,hM,?_⟩⟩
 have hk:ns.idxOf M<=ns.length:=FN (GK.mpr hM)
 have q:=λz H'=>q z H' M
 unfold rot at q
 generalize ns.idxOf M=k at hk q
 refine ⟨_,rfl,_,rfl,_,rfl,p,_,rfl,ep,λp1 H1 s1 e1=>⟨p1,_,rfl,.inr ⟨SqT.of e1,?_⟩⟩⟩
 rw[yN _ (by rw[lm];exact hk), <- HX] at e1
 refine ⟨_,rfl,_,rfl,_,rfl,p,_,rfl,s1 _ _ ep,λp2 H2 s2 e2=>⟨p2,_,rfl,.inr ⟨SqT.of e2,?_⟩⟩⟩
 rw[yM _ (by rw[lm];exact hk), <- IZ] at e2
 refine ⟨p1,p2,_,_,rfl,rfl,s2 _ _ e1,e2,by rw[DI,DI,Ez,EF];exact small (by lia),λp3 H3 s3 e3 =>?_⟩
 rw[<- DU] at e3
 exact q p3 H3 (s1.trans (s2.trans s3)) hM mn e3
end
def AH (ns:List (List Int))(a b:Int):Prop:=a≠b/\[b,a]∉ns/\∀k,¬ Wk (stp ns a b) a k b
def Al (ns:List (List Int))(a b:Int)(Z:List Int):Prop:=(a=b/\Z=[a])\/(a≠b/\[b,a]∈ns/\Z=[a,b])\/(a≠b/\[b,a]∉ns/\∃N,Way ns a b N Z)
def AlD (nb:Int->List Int)(ns:List (List Int))(a b:Int)(Z:List Int):Prop:=(a=b/\Z=[a])\/(a≠b/\[b,a]∈ns/\Z=[a,b])\/(a≠b/\[b,a]∉ns/\yK nb a b Z)
theorem AlD.uniq {nb:Int->List Int}{ns:List (List Int)}{a b:Int}{Z Z':List Int}(h:AlD nb ns a b Z)(h':AlD nb ns a b Z'):Z=Z':=by
 rcases h with ⟨e,rfl⟩ | ⟨n,c,rfl⟩ | ⟨n,c,w⟩ <;> rcases h' with ⟨e',rfl⟩ | ⟨n',c',rfl⟩ | ⟨n',c',w'⟩
 ·rfl
 ·exact absurd e n'
 ·exact absurd e n'
 ·exact absurd e' n
 ·rfl
 ·exact absurd c c'
 ·exact absurd e' n
 ·exact absurd c' c
 ·exact w.uniq w'
theorem oS {H:Hp}{r:Addr}{m:Nat}{ts:LA}(W:Ow H r (m:Int) ts):Ok m (ts.map (·.2)):=λp hp=>by
 obtain ⟨u,hu,rfl⟩:=DZ.mp hp
 exact W.rng u hu
abbrev Bj:Sp:=λvs H Q _=>∃(r n t:Addr) (m:Nat) (ts os:LA) (a b:Int),vs=[.ref r,.ref n,.ref t]/\Ow H r (m:Int) ts/\jN H n m (ts.map (·.2)) os/\m<=400/\H t=some (.tup [.int a,.int b])/\[a,b]∈ts.map (·.2)/\(∀H',aA H H'->AH (ts.map (·.2)) a b->Q .non H')/\∀(z:Addr) (H':Hp) (Z:List Int),aA H H'->H' z=some (.tup (Z.map V.int))->Al (ts.map (·.2)) a b Z->AlD (p7 (os.map (·.2))) (ts.map (·.2)) a b Z->Q (.ref z) H'
@[irreducible] def AI:Sp:=Bj
theorem mO {vs:List V}{H:Hp}{Q:VK}{E:XK}:AI vs H Q E↔Bj vs H Q E:=by
 delta AI
 exact FZ
section
theorem p9:aK ["web", "ahead", "arrow"] ["web", "ahead", "arrow"] (ak gp):=⟨rfl,rfl,rfl,by decide +kernel,rfl,by decide +kernel,by decide +kernel⟩
theorem qa (F:Fun K "round_along" "round_along" gp f fd)(B:Blt mg)(cWayAbout:Cal P w K mg base 1 "way_about" ["near", "start", "goal"] uN):bG P w K mg base CX0 2 f fd ["web", "ahead", "arrow"] AI:=by
 refine F.ok p9 (λvs H Q E h =>?_) (λcdv A outer s H vs Q E hr h =>?_)
 ·obtain ⟨_,_,_,_,_,_,_,_,rfl,_⟩:=mO.mp h
  rfl
 obtain ⟨r,n,t,m,ts,os,a,b,rfl,W,N,m4,et,hp,q0,q1⟩:=mO.mp h
 refine ⟨_,(ah (aX (ax cK (aH aP (pv 2) ai (λ_ _=>rfl)) (aH aP (pv 2) ai (λ_ _=>rfl)) (aE _)) (aj (aD (ba (aa (aH aP (pv 2) ai (λ_ _=>rfl)) ae rfl)))) aG)
  (ah (aX (ax (pH (hu8 hr)) (ba (aa (aH aP (pv 2) ai (λ_ _=>rfl)) (aa (aH aP (pv 2) ai (λ_ _=>rfl)) ae rfl) rfl)) (aH aP (pv 0) ai (λ_ _=>rfl)) rfl) (aj (aD (pv 2))) aG)
  (aj (aD (ay cWayAbout hr (by decide) rfl (aa (pv 1) (aa (aH aP (pv 2) ai (λ_ _=>rfl)) (aa (aH aP (pv 2) ai (λ_ _=>rfl)) ae rfl) rfl) rfl)))))),?_⟩
 have O:=oS W
 obtain ⟨_,_,e,a0,am,b0,bm⟩:=O _ hp
 cases e
 obtain ⟨w,e1,e2⟩:=W.at'
 refine ⟨_,rfl,t,_,0,_,rfl,rfl,SqT.of et,rfl,_,rfl,t,_,1,_,rfl,rfl,SqT.of et,rfl,rfl,_,rfl,bD (λz =>?_) λz =>?_⟩
 ·have eq:a=b:=by simpa using z
  exact ⟨_,rfl,t,_,0,_,rfl,rfl,SqT.of et,rfl,(by show 1<=D3;decide),λz hz=>q1 z _ [a] (af hz _) ag (.inl ⟨eq,rfl⟩) (.inl ⟨eq,rfl⟩)⟩
 have ne:a≠b:=by simpa using z
 refine ⟨_,rfl,t,_,1,_,rfl,rfl,SqT.of et,rfl,_,rfl,t,_,0,_,rfl,rfl,SqT.of et,rfl,(by show 2<=D3;decide),λc hc =>?_⟩
 have s1:=af hc (.tup [.int b,.int a])
 have ec:upd H c (.tup [.int b,.int a]) c=some (.tup ([b,a].map V.int)):=ag
 generalize upd H c (.tup [.int b,.int a])=H1 at s1 ec
 refine ⟨_,rfl,r,_,1,_,rfl,rfl,SqT.of (s1 _ _ e1),rfl,w,c,ts,[b,a],rfl,rfl,s1 _ _ e2,λu hu=>s1 _ _ (W.tup u hu),ec,_,rfl,bD (λz =>?_) λz =>?_⟩
 ·have c2:=of_decide_eq_true z
  exact ⟨_,rfl,q1 t H1 [a,b] s1 (s1 _ _ et) (.inr (.inl ⟨ne,c2,rfl⟩)) (.inr (.inl ⟨ne,c2,rfl⟩))⟩
 have c2:[b,a]∉ts.map (·.2):=λy=>z (decide_eq_true y)
 exact ⟨_,rfl,_,rfl,t,_,0,_,rfl,rfl,SqT.of (s1 _ _ et),rfl,_,rfl,t,_,1,_,rfl,rfl,SqT.of (s1 _ _ et),rfl,jP.mpr ⟨n,m,_,os,a,b,rfl,N.same s1,O,m4,⟨a0,am⟩,ne,λH2 s2 no=>q0 H2 (s1.trans s2) ⟨ne,c2,no⟩,λz H2 NN Z s2 ez w wd=>q1 z H2 Z (s1.trans s2) ez (.inr (.inr ⟨ne,c2,NN,w⟩)) (.inr (.inr ⟨ne,c2,wd⟩))⟩⟩
end
def enc:Option (Addr×List Int)->V
 | none =>.non
 | some u =>.ref u.1
def keep (ws:List (Option (Addr×List Int))):LA:=ws.filterMap id
def FMin (l:List (List Int))(Z:List Int):Prop:=∃i:Nat,l[i]? = some Z/\(∀u∈l,Z.length<=u.length)/\∀(j:Nat) u,j<i->l[j]? = some u->Z.length<u.length
theorem jh {ws:List (Option (Addr×List Int))}{u:Addr×List Int}:u∈keep ws↔some u∈ws:=by
 unfold keep
 rw[Ig]
 exact ⟨λ⟨a,h,e⟩=>by rw[<- show a=some u from e];exact h,λh=>⟨some u,h,rfl⟩⟩
abbrev rn:Sp:=λvs H Q _=>∃(l:Addr) (ws:List (Option (Addr×List Int))),vs=[.ref l]/\H l=some (.lst (ws.map enc))/\(∀u,some u∈ws->H u.1=some (.tup (u.2.map V.int)))/\ws.length<=1000/\(∀H',aA H H'->(∀x∈ws,x=none)->Q .non H')/\∀(u:Addr×List Int) (H':Hp),aA H H'->some u∈ws->(∀v,some v∈ws->u.2.length<=v.2.length)->FMin ((keep ws).map (·.2)) u.2->Q (.ref u.1) H'
@[irreducible] def kQ:Sp:=rn
theorem gy {vs:List V}{H:Hp}{Q:VK}{E:XK}:kQ vs H Q E↔rn vs H Q E:=by
 delta kQ
 exact FZ
section
theorem qb:aK ["ways"] ["ways"] (ak fZ):=⟨rfl,rfl,rfl,by decide +kernel,rfl,by decide +kernel,by decide +kernel⟩
theorem jQ:(["way"]:List Str).Nodup:=by decide +kernel
theorem qc (F:Fun K "shortest_of" "shortest_of" fZ f fd)(B:Blt mg):bG P w K mg base CX0 1 f fd ["ways"] kQ:=by
 refine F.ok qb (λvs H Q E h =>?_) (λcdv A outer s H vs Q E hr h =>?_)
 ·obtain ⟨_,_,rfl,_⟩:=gy.mp h
  rfl
 obtain ⟨l,ws,rfl,el,tu,l9,q0,q1⟩:=gy.mp h
 refine ⟨_,(aj (aD (sL rfl rfl B.b_min rfl B.b_len mE (bo ["way"] [none] rfl (bC (pv 0)) rfl (λ_ _ _ _ _=>(aB (i:=0) jQ rfl (Or.inl rfl))) (λ_ _ _ _ _=>(eB (ax tQ (pv 0) hX (aE _)))) (λ_ _ _ _ _=>(pv 0)))))),?_⟩
 refine ⟨_,rfl,l,rfl,⟨_,SqL.of el⟩,aW (xs:=ws.map enc) (λi ys H'=>H'=H/\ys=(keep (ws.take i)).map λu =>.ref u.1) ⟨rfl,rfl⟩ (by rw[DI];exact small l9) (λi ys H' _ z=>by rw[z.1];exact SqL.of el) ?_ ?_⟩
 ·rintro i x ys H3 hx hy ⟨eH,rfl⟩ R1 R0 r1 r0
  rw[D1] at hx
  cases z:ws[i]? with
  | none=>rw[z] at hx;cases hx
  | some o =>
   rw[z] at hx
   have hx:enc o=x:=EA hx
   subst hx
   cases o with
   | none =>
    refine ⟨_,rfl,rfl,_,rfl,cq (r0 _ ⟨eH,?_⟩)⟩
    unfold keep
    rw[Ef,z,K8]
    show _=((ws.take i).filterMap id++[]).map _
    rw[E6]
   | some u =>
    refine ⟨_,rfl,rfl,_,rfl,bO ⟨_,rfl,r1 _ _ ⟨eH,?_⟩⟩⟩
    unfold keep
    rw[Ef,z,K8,DU];rfl
 ·rintro ys H3 hy ⟨eH,rfl⟩ l2 hl2
  rw[eH] at hl2 ⊢
  rw[DI,D5 (DS _)]
  have g2:=af hl2 (.lst ((keep ws).map λu =>.ref u.1))
  refine ⟨l2,keep ws,rfl,SqL.of ag,λt ht=>SqT.of (g2 _ _ (tu t (jh.mp ht))),λz=>q0 _ g2 λx hx =>?_,λi t et mn fi=>q1 t _ g2 (jh.mp (DV et)) (λv hv=>mn v (jh.mpr hv)) ⟨i,by rw[D1,et];rfl,λu hu =>?_,λj u hj eu =>?_⟩⟩
  rotate_left
  ·obtain ⟨v,hv,rfl⟩:=DZ.mp hu
   exact mn v hv
  ·rw[D1] at eu
   obtain ⟨v,ev,rfl⟩:=Ie.mp eu
   exact fi j v hj ev
  cases x with
  | none=>rfl
  | some u =>
   have:=jh.mpr hx
   rw[z] at this;cases this
end
def RD (m:Nat)(E:List (List Int))(a b:Int)(Z:List Int):Prop:=∃S:List (List Int),S.Perm (E.map swp)/\S.Pairwise qz/\AlD (p7 ((EU m).map λj:Nat=>outs S (j:Int))) E a b Z
theorem RD.uniq {m:Nat}{E:List (List Int)}{a b:Int}{Z Z':List Int}(h:RD m E a b Z)(h':RD m E a b Z'):Z=Z':=by
 obtain ⟨S,p,l,w⟩:=h
 obtain ⟨S',p',l',w'⟩:=h'
 rw[lM (p'.trans p.symm) l' l] at w'
 exact w.uniq w'
abbrev Bk:Sp:=λvs H Q _=>∃(r l t:Addr) (m:Nat) (ts:LA) (a b:Int),vs=[.ref r,.ref l]/\Ow H r (m:Int) ts/\H l=some (.lst [.ref t])/\H t=some (.tup [.int a,.int b])/\[a,b]∈ts.map (·.2)/\m<=200/\ts.length<=250/\¬ AH (ts.map (·.2)) a b/\∀(z:Addr) (H':Hp) (Z:List Int) (M:Int),aA H H'->M∈Z->(∀v∈Z,M<=v)->H' z=some (.tup ((rot Z (Z.idxOf M)).map V.int))->Al (ts.map (·.2)) a b Z->RD m (ts.map (·.2)) a b Z->Q (.ref z) H'
@[irreducible] def AJ:Sp:=Bk
theorem mP {vs:List V}{H:Hp}{Q:VK}{E:XK}:AJ vs H Q E↔Bk vs H Q E:=by
 delta AJ
 exact FZ
section
theorem jR:aK ["web", "arrows", "ahead", "least"] ["web", "arrows"] (ak mB):=⟨rfl,rfl,rfl,by decide +kernel,rfl,by decide +kernel,by decide +kernel⟩
theorem dU:(["arrow", "web", "ahead"]:List Str).Nodup:=by decide +kernel
theorem wI (F:Fun K "round_by" "round_by" mB f fd)(B:Blt mg)(cInLists:Cal P w K mg base 2 "in_lists" ["web"] yC)(cShortestOf:Cal P w K mg base 1 "shortest_of" ["ways"] kQ)(cRoundForm:Cal P w K mg base 1 "round_form" ["places"] yO)(cRoundAlong:Cal P w K mg base 2 "round_along" ["web", "ahead", "arrow"] AI):bG P w K mg base CX0 3 f fd ["web", "arrows"] AJ:=by
 refine F.ok jR (λvs H Q E h =>?_) (λcdv A outer s H vs Q E hr h =>?_)
 ·obtain ⟨_,_,_,_,_,_,_,rfl,_⟩:=mP.mp h
  rfl
 obtain ⟨r,l,t,m,ts,a,b,rfl,W,el,et,hp,m2,tl,nn,q⟩:=mP.mp h
 refine ⟨_,(ah (az (i:=2) jR.nd rfl (Or.inr rfl) (ay cInLists hr (by decide) rfl (aa (pv 0) ae rfl)))
  (ah (az (i:=3) jR.nd rfl (Or.inl rfl) (ay cShortestOf hr (by decide) rfl (aa (bo ["arrow", "web", "ahead"] [none,some 0,some 2] rfl (bC (pv 1)) rfl (λ_ _ _ _ _=>(aB (i:=0) dU rfl (Or.inl rfl))) (λ_ _ _ _ _=>cA) (λ_ _ _ _ _=>(ay cRoundAlong hr (by decide) rfl (aa (pv 1) (aa (pv 2) (aa (pv 0) ae rfl) rfl) rfl)))) ae rfl)))
  (ah (aX (ax BJ (pv 3) hX (aE _)) (aj (aD hX)) aG)
  (aj (aD (ay cRoundForm hr (by decide) rfl (aa (pv 3) ae rfl))))))),?_⟩
 have O:=oS W
 refine ⟨_,rfl,i9.mpr ⟨r,m,ts,rfl,W,m2,tl,λn H1 as vs s1 en la lv hv hc hS =>?_⟩⟩
 obtain ⟨S,pS,lS,eS⟩:=hS
 have NA:jN H1 n m (ts.map (·.2)) (as.zip vs):=by
  refine ⟨?_,by rw[K2];lia,λu hu =>?_,λj u e x =>?_⟩
  ·rw[show (as.zip vs).map (λu=>V.ref u.1)=as.map V.ref from ?_]
   ·exact en
   ·have:(as.zip vs).map Prod.fst=as:=List.map_fst_zip (by lia)
    exact (JQ (f:=Prod.fst) (g:=V.ref) (l:=as.zip vs)).symm.trans (by rw[this])
  ·obtain ⟨j,e⟩:=Et.mp hu
   obtain ⟨h1,h2⟩:=HA.mp e
   exact hv j _ _ h1 h2
  ·obtain ⟨h1,h2⟩:=HA.mp e
   have hj:j<m:=by have:=(DQ.mp h1).1;lia
   rw[eS,D1,JE hj] at h2
   rw[<- EA h2]
   have pr:∀t∈S,∃x y:Int,t=[x,y]:=λt ht=>by
    obtain ⟨t',_,e⟩:=DZ.mp (pS.mem_iff.mp ht)
    exact ⟨_,_,e.symm⟩
   show x∈outs S (j:Int)↔_
   rw[mF pr,kP O,pS.mem_iff,DZ]
   constructor
   ·rintro ⟨t',ht,e⟩
    obtain ⟨x',y',rfl,_⟩:=O t' ht
    have e:[y',x']=[(j:Int),x]:=e
    cases e
    exact ht
   ·intro h
    exact ⟨_,h,rfl⟩
 have ezv:(as.zip vs).map (·.2)=(EU m).map λj:Nat=>outs S (j:Int):=by rw[<- eS];exact List.map_snd_zip (by lia)
 have el1:=s1 _ _ el
 let W0:Nat->List V->Hp->Prop:=λi ys H'=>aA H1 H'/\((i=0/\ys=[])\/∃(z:Addr) (Z:List Int),ys=[enc (some (z,Z))]/\H' z=some (.tup (Z.map V.int))/\Al (ts.map (·.2)) a b Z/\RD m (ts.map (·.2)) a b Z)
 refine ⟨_,rfl,l,rfl,⟨_,SqL.of el1⟩,aW (xs:=[.ref t]) W0 ⟨aA.refl _,.inl ⟨rfl,rfl⟩⟩ (small (by show 1<=1000;lia)) (λi ys H' _ k=>SqL.of (k.1 _ _ el1)) ?_ ?_⟩
 ·rintro i x ys H2 hx hy ⟨s2,hi⟩ R1 R0 r1 r0
  have i0:i=0:=by have:=(DQ.mp hx).1;simpa using this
  subst i0
  have ex:V.ref t=x:=by simpa using hx
  subst ex
  have ey:ys=[]:=by cases ys with | nil=>rfl | cons a l=>simp at hy
  subst ey
  refine bO ⟨_,rfl,_,rfl,_,rfl,mO.mpr ⟨r,n,t,m,ts,_,a,b,rfl,W.same (s1.trans s2),NA.same s2,by lia,(s1.trans s2) _ _ et,hp,λH3 s3 no=>absurd no nn,λz H3 Z s3 ez al ad=>r1 _ _ ⟨s2.trans s3,.inr ⟨z,Z,rfl,ez,al,S,pS,lS,by rw[<- ezv];exact ad⟩⟩⟩⟩
 rintro ys H2 hy ⟨s2,hi⟩ lw hlw
 rcases hi with ⟨z,_⟩ | ⟨z,Z,rfl,ez,al,rd'⟩
 ·exact absurd z (by show ¬ (1:Nat)=0;lia)
 have g3:=af hlw (.lst [enc (some (z,Z))])
 have ew:upd H2 lw (.lst [enc (some (z,Z))]) lw=some (.lst ([some (z,Z)].map enc)):=ag
 have ez3:=g3 _ _ ez
 generalize upd H2 lw (.lst [enc (some (z,Z))])=H3 at g3 ew ez3
 have s13:=s1.trans (s2.trans g3)
 have neZ:Z≠[]:=by
  rcases al with ⟨_,rfl⟩ | ⟨_,_,rfl⟩ | ⟨_,_,N,w⟩
  ·simp
  ·simp
  ·intro e;have:=w.2;rw[e] at this;cases this
 have lZ:Z.length<=m:=by
  obtain ⟨_,_,e,a0,am,b0,bm⟩:=O _ hp
  cases e
  rcases al with ⟨_,rfl⟩ | ⟨ne,_,rfl⟩ | ⟨ne,_,N,w⟩
  ·show 1<=m;lia
  ·show 2<=m;lia
  ·exact dQ w.1.inj (w.1.rng O ⟨a0,am⟩)
 refine gy.mpr ⟨lw,[some (z,Z)],rfl,ew,λu hu =>?_,(by show 1<=1000;lia),λH4 s4 no =>?_,λu H4 s4 hu mn fm =>?_⟩
 ·have:u=(z,Z):=by simpa using hu
  rw[this];exact ez3
 ·have:=no _ (DW.mpr rfl)
  cases this
 ·have eu:u=(z,Z):=by simpa using hu
  subst eu
  refine ⟨_,rfl,rfl,_,rfl,cq ⟨_,rfl,jg.mpr ⟨z,Z,rfl,s4 _ _ ez3,neZ,by lia,λz2 H5 M s5 hM mM e5 =>?_⟩⟩⟩
  exact q z2 H5 Z M (s13.trans (s4.trans s5)) hM mM e5 al rd'
end
structure Exs (K:DM)(mg:Str->Option DK)(ča čj čg čh če čk či čc čb čd čl čf:Addr):Prop where
 x_WebError:mg "WebError" = some (.ref ča)
 x_BadWeb:mg "BadWeb" = some (.ref čj)
 x_NoStep:mg "NoStep" = some (.ref čg)
 x_NoText:mg "NoText" = some (.ref čh)
 x_TooMany:mg "TooMany" = some (.ref če)
 x_NoTie:mg "NoTie" = some (.ref čk)
 x_NoRing:mg "NoRing" = some (.ref či)
 x_NotClear:mg "NotClear" = some (.ref čc)
 x_NotThree:mg "NotThree" = some (.ref čb)
 x_BadBoard:mg "BadBoard" = some (.ref čd)
 x_NoRow:mg "NoRow" = some (.ref čl)
 x_NoBack:mg "NoBack" = some (.ref čf)
 n_ex:PySem.W.excIn K čc yh "ValueError.__new__" = true
 n_i:ExI K čc
 n_m:PySem.W.exmOne K (.ref čc) (.ref ča)=some true
 n_v:PySem.W.kitOne K (.ref čc) (.type "ValueError")=some true
 n_w:PySem.W.kitOne K (.ref čc) (.ref ča)=some true
 n_n:PySem.W.kitOne K (.ref čc) (.ref čc)=some true
 n_o0:PySem.W.kitOne K (.ref čc) (.ref čj)=some false
 n_o1:PySem.W.kitOne K (.ref čc) (.ref čg)=some false
 n_o2:PySem.W.kitOne K (.ref čc) (.ref čh)=some false
 n_o3:PySem.W.kitOne K (.ref čc) (.ref če)=some false
 n_o4:PySem.W.kitOne K (.ref čc) (.ref čk)=some false
 n_o5:PySem.W.kitOne K (.ref čc) (.ref či)=some false
 n_o6:PySem.W.kitOne K (.ref čc) (.ref čb)=some false
 n_o7:PySem.W.kitOne K (.ref čc) (.ref čd)=some false
 n_o8:PySem.W.kitOne K (.ref čc) (.ref čl)=some false
 n_o9:PySem.W.kitOne K (.ref čc) (.ref čf)=some false
theorem Gr.one {m:Nat}{E:List (List Int)}{G G':List Int}(h:Gr m E G)(s:Stk m E G)(h':Gr m E G')(s':Stk m E G'):G=G':=by
 have k:∀{A B:List Int},Gr m E A->Stk m E A->Gr m E B->¬ A.length<B.length:=λ{A B} ha sa hb lt=>by
  have e:=ha.is hb (FN lt)
  have:=(hb.2 A.length _ (DL lt)).1
  rw[<- e] at this
  exact sa _ this
 have l:G.length=G'.length:=by
  have:=k h s h'
  have:=k h' s' h
  lia
 have:=h.is h' (by lia)
 rwa [l,D5 (DS _)] at this
theorem AK {X:Cx}{E:XK}{j k:Nat}{x:Str}{ps:List Str}{sp:Sp}{e:Expr}{es:List Expr}{t:TA}{p pos:Pos}(hx:Passes (CX1 X.prog X.w) X E)(C:qY X.prog X.w X.K X.mg X.base k x ps sp)(hr:cB j X.A)(hj:k<=j)(hg:Gl X x)(ha:PA X (e :: es) t)
  (hdb:(x == ("__debug__" : Str))=false:=by decide) (he:EL (e :: es) X.env=(false,eval e X.env) :: EL es X.env:=by rfl) (hpl:(Ib pos (EL es X.env)).any (·.1)=false:=by rfl) :
  PE X (.Call (.Name x p) (e :: es) [] pos) (xk sp [] E t):=by
 obtain ⟨f,fd,F,m,kp,b⟩:=C.ex
 exact tR F (hr.mono hj) hg m kp b .nil hx ha hdb he hpl
@[irreducible] def uO (C:Addr):Sp:=λvs H Q E=>∃(r a:Addr) (m:Nat) (ts ss:LA),vs=[.ref r,.ref a]/\Ow H r (m:Int) ts/\Sm H a ss/\m<=200/\ts.length<=250/\(∀(H':Hp) (G:List Int),aA H H'->Gr m ((rst ts (ss.map (·.2))).map (·.2)) G->Stk m ((rst ts (ss.map (·.2))).map (·.2)) G->G.length=m->Q .non H')/\∀(H':Hp) (G:List Int),aA H H'->Gr m ((rst ts (ss.map (·.2))).map (·.2)) G->Stk m ((rst ts (ss.map (·.2))).map (·.2)) G->G.length≠m->E (.ref C) none H'
theorem jS {C:Addr}{vs:List V}{H:Hp}{Q:VK}{E:XK}:uO C vs H Q E↔∃(r a:Addr) (m:Nat) (ts ss:LA),vs=[.ref r,.ref a]/\Ow H r (m:Int) ts/\Sm H a ss/\m<=200/\ts.length<=250/\(∀(H':Hp) (G:List Int),aA H H'->Gr m ((rst ts (ss.map (·.2))).map (·.2)) G->Stk m ((rst ts (ss.map (·.2))).map (·.2)) G->G.length=m->Q .non H')/\∀(H':Hp) (G:List Int),aA H H'->Gr m ((rst ts (ss.map (·.2))).map (·.2)) G->Stk m ((rst ts (ss.map (·.2))).map (·.2)) G->G.length≠m->E (.ref C) none H':=by
 delta uO
 exact FZ
section
variable  {P:D9}{w:EE}{K:DM}{mg:Str->Option DK}{base:Heap}{f:Addr}{fd:E4}{ča čj čg čh če čk či čc čb čd čl čf:Addr}
theorem mQ:aK ["web", "arrows"] ["web", "arrows"] (ak eG):=⟨rfl,rfl,rfl,by decide +kernel,rfl,by decide +kernel,by decide +kernel⟩
theorem mR (F:Fun K "look_clearing" "look_clearing" eG f fd)(B:Blt mg)(Z:Exs K mg ča čj čg čh če čk či čc čb čd čl čf)(cArrowsClear:Cal P w K mg base 5 "arrows_clear" ["web", "arrows"] wD):bG P w K mg base (CX1 P w) 6 f fd ["web", "arrows"] (uO čc):=by
 refine F.okX mQ (λvs H Q E h =>?_) (λcdv A outer s H vs Q E hr h =>?_)
 ·obtain ⟨_,_,_,_,_,rfl,_⟩:=jS.mp h
  rfl
 obtain ⟨r,a,m,ts,ss,rfl,W,S,m2,tl,q1,q2⟩:=jS.mp h
 refine ⟨_,(aj (aX (cG (bT (ay cArrowsClear hr (by decide) rfl (aa (pv 0) (aa (pv 1) ae rfl) rfl)))) (aj (yi (x := "NotClear") Dw ⟨Z.n_ex,Z.x_NotClear⟩ hr.hd rfl (aa BB ae rfl))) aG)),?_⟩
 refine ⟨_,rfl,_,rfl,gw.mpr ⟨r,a,m,ts,ss,rfl,W,S,m2,tl,λH1 G s1 gr st=>⟨_,rfl,?_⟩⟩⟩
 by_cases c:G.length=m
 ·rw[decide_eq_true c]
  exact cq (q1 H1 G s1 gr st c)
 ·rw[decide_eq_false c]
  exact bO ⟨(by show 1<=D3;decide),q2 H1 G s1 gr st c⟩
end
theorem Gr.none {m:Nat}{F:List (List Int)}{G:List Int}(h:Gr m F G)(l:G.length=m){U:Int->Prop}(r:∀p,U p->0<=p/\p<m)(c:∀p,U p->∃q,U q/\[q,p]∈F):∀p,¬ U p:=by
 have k:∀(n i:Nat) (p:Int),i<n->G[i]? = some p->¬ U p:=by
  intro n
  induction n with
  | zero=>intro i p hi;lia
  | succ n ih =>
   intro i p hi e u
   obtain ⟨q,uq,hq⟩:=c p u
   have:=(h.2 i p e).1.fr q hq
   obtain ⟨j,ej⟩:=Et.mp this
   have lj:=(DQ.mp ej).1
   rw[EF] at lj
   rw[HG (by lia)] at ej
   exact ih j q (by lia) ej uq
 intro p u
 obtain ⟨p0,p1⟩:=r p u
 obtain ⟨i,e⟩:=Et.mp (h.full l p0 p1)
 exact k (i+1) i p (GA _) e u
theorem tm {m:Nat}{F F':List (List Int)}{a b:Int}(O':Ok m F')(im:∀t∈F',t∈F\/t=[a,b]){G G':List Int}(g:Gr m F G)(l:G.length=m)(g':Gr m F' G')(s':Stk m F' G')(l':G'.length≠m):¬ AH F' a b:=by
 rintro ⟨ne,nb,nw⟩
 have cU:∀p:Int,((0<=p/\p<m)/\p∉G')->∃q:Int,((0<=q/\q<m)/\q∉G')/\[q,p]∈F':=λp hp=>by
  apply Ea
  intro no
  refine s' p ⟨hp.1.1,hp.1.2,hp.2,λq hq=>Ea λnq=>no ⟨q,⟨?_,nq⟩,hq⟩⟩
  obtain ⟨x,y,e,h1,h2,_⟩:=O' _ hq
  cases e
  exact ⟨h1,h2⟩
 obtain ⟨p,p0,p1,np⟩:=g'.Au l'
 by_cases ha:(0<=a/\a<m)/\a∉G'
 ·refine g.none l (U:=λp=>((0<=p/\p<m)/\p∉G')/\∃k,Wk (stp F' a b) a k p) (λp h=>h.1.1) (λp h =>?_) a ⟨ha,0,.z⟩
  obtain ⟨hp,k,w⟩:=h
  obtain ⟨q,hq,hf⟩:=cU p hp
  rcases im _ hf with z | z
  ·refine ⟨q,⟨hq,k+1,.st w ⟨(kP O').mpr hf,?_⟩⟩,z⟩
   by_cases c:p=a
   ·right
    intro e
    rw[e,c] at hf
    exact nb hf
   ·exact .inl c
  ·cases z
   exact absurd w (nw k)
 ·refine g.none l (U:=λp=>(0<=p/\p<m)/\p∉G') (λp h=>h.1) (λp hp =>?_) p ⟨⟨p0,p1⟩,np⟩
  obtain ⟨q,hq,hf⟩:=cU p hp
  rcases im _ hf with z | z
  ·exact ⟨q,hq,z⟩
  ·cases z
   exact absurd hq ha
theorem Gr.mono {m:Nat}{F F':List (List Int)}{G G':List Int}(sub:∀t∈F,t∈F')(O':∀a b:Int,[a,b]∈F->0<=a/\a<m)(g':Gr m F' G')(l':G'.length=m)(g:Gr m F G)(s:Stk m F G):G.length=m:=by
 apply Ea
 intro n
 obtain ⟨p,p0,p1,np⟩:=g.Au n
 refine g'.none l' (U:=λp=>(0<=p/\p<m)/\p∉G) (λp h=>h.1) (λp hp =>?_) p ⟨⟨p0,p1⟩,np⟩
 apply Ea
 intro no
 exact s p ⟨hp.1.1,hp.1.2,hp.2,λq hq=>Ea λnq=>no ⟨q,⟨O' q p hq,nq⟩,sub _ hq⟩⟩
theorem wJ {m:Nat}{P:Int->Prop}(r:∀p,P p->0<=p){p:Int}(h:P p):∃q,P q/\∀x,P x->q<=x:=by
 have k:∀(n:Nat) (p:Int),P p->p<n->∃q,P q/\∀x,P x->q<=x:=by
  intro n
  induction n with
  | zero=>intro p hp hn;have:=r p hp;lia
  | succ n ih =>
   intro p hp hn
   by_cases c:∃x,P x/\x<p
   ·obtain ⟨x,hx,lx⟩:=c
    exact ih x hx (by lia)
   ·exact ⟨p,hp,λx hx=>Ea λz=>c ⟨x,hx,by lia⟩⟩
 exact k (p.toNat+1) p h (by have:=r p h;lia)
theorem Gr.ex (m:Nat)(E:List (List Int)):∃G,Gr m E G/\Stk m E G:=by
 have k:∀(n:Nat) (G:List Int),Gr m E G->m-G.length<=n->∃G,Gr m E G/\Stk m E G:=by
  intro n
  induction n with
  | zero =>
   intro G g h
   refine ⟨G,g,λp hp =>?_⟩
   exact hp.nm (g.full (by have:=g.len;omega) hp.p0 hp.pm)
  | succ n ih =>
   intro G g h
   by_cases c:∃p,Nx m E G p
   ·obtain ⟨p,hp⟩:=c
    obtain ⟨q,hq,le⟩:=wJ (m:=m) (P:=Nx m E G) (λp h=>h.p0) hp
    refine ih (G++[q]) (g.snoc hq le) ?_
    rw[DT]
    show m-(G.length+1)<=n
    omega
   ·exact ⟨G,g,λp hp=>c ⟨p,hp⟩⟩
 exact k m [] Gr.nil (by simp)
def Clr (m:Nat)(E:List (List Int)):Prop:=∃G,Gr m E G/\G.length=m
theorem ji {m:Nat}{E:List (List Int)}{G:List Int}(g:Gr m E G)(s:Stk m E G):Clr m E↔G.length=m:=by
 constructor
 ·rintro ⟨G',g',l'⟩
  have s':Stk m E G':=λp hp=>hp.nm (g'.full l' hp.p0 hp.pm)
  rw[g.one s g' s'];exact l'
 ·exact λl=>⟨G,g,l⟩
theorem Clr.mono {m:Nat}{F F':List (List Int)}(sub:∀t∈F,t∈F')(O:∀a b:Int,[a,b]∈F->0<=a/\a<m)(h:Clr m F'):Clr m F:=by
 obtain ⟨G',g',l'⟩:=h
 obtain ⟨G,g,s⟩:=Gr.ex m F
 exact ⟨G,g,Gr.mono sub O g' l' g s⟩
def oth (N:LA)(e:List Int):LA:=N.filter λu => !decide (u.2=e)
theorem dj {N:LA}{e:List Int}{u:Addr×List Int}:u∈oth N e↔u∈N/\u.2≠e:=by unfold oth;rw[Ga];simp
open Classical in
noncomputable def wK (m:Nat)(ts N:LA)(e:List Int):LA:=if Clr m ((rst ts ((oth N e).map (·.2))).map (·.2)) then oth N e else N
noncomputable def thn (m:Nat)(ts:LA)(N ss:LA):LA:=ss.foldl (λN u=>wK m ts N u.2) N
abbrev Bl:Sp:=λvs H Q _=>∃(l t:Addr) (N:LA) (e:List Int),vs=[.ref l,.ref t]/\H l=some (.lst (N.map λu =>.ref u.1))/\Tus H N/\N.length<=300/\H t=some (.tup (e.map V.int))/\∀(l':Addr) (H':Hp),aA H H'->H' l'=some (.lst ((oth N e).map λu =>.ref u.1))->Q (.ref l') H'
@[irreducible] def AL:Sp:=Bl
theorem jj {vs:List V}{H:Hp}{Q:VK}{E:XK}:AL vs H Q E↔Bl vs H Q E:=by
 delta AL
 exact FZ
section
theorem nO:aK ["arrows", "arrow"] ["arrows", "arrow"] (ak fF):=⟨rfl,rfl,rfl,by decide +kernel,rfl,by decide +kernel,by decide +kernel⟩
theorem dW:(["other", "arrow"]:List Str).Nodup:=by decide +kernel
theorem nP (F:Fun K "other_arrows" "other_arrows" fF f fd)(B:Blt mg):bG P w K mg base CX0 1 f fd ["arrows", "arrow"] AL:=by
 refine F.ok nO (λvs H Q E h =>?_) (λcdv A outer s H vs Q E hr h =>?_)
 ·obtain ⟨_,_,_,_,rfl,_⟩:=jj.mp h
  rfl
 obtain ⟨l,t,N,e,rfl,el,tu,lN,et,q⟩:=jj.mp h
 refine ⟨_,(aj (aD (bo ["other", "arrow"] [none,some 1] rfl (bC (pv 0)) rfl (λ_ _ _ _ _=>(aB (i:=0) dW rfl (Or.inl rfl))) (λ_ _ _ _ _=>(eB (ax (yr (K:=K) (hu8 hr)) (pv 0) (pv 1) (aE _)))) (λ_ _ _ _ _=>(pv 0))))),?_⟩
 refine ⟨_,rfl,l,rfl,⟨_,SqL.of el⟩,aW (xs:=N.map λu =>.ref u.1) (λi ys H'=>H'=H/\ys=(oth (N.take i) e).map λu =>.ref u.1) ⟨rfl,rfl⟩ (by rw[DI];exact small (by lia)) (λi ys H' _ k=>by rw[k.1];exact SqL.of el) ?_ ?_⟩
 ·rintro i x ys H1 hx hy ⟨eH,rfl⟩ R1 R0 r1 r0
  obtain ⟨u,hu,rfl⟩:=fO hx
  have mu:=DV hu
  rw[eH]
  refine ⟨_,rfl,_,rfl,u.1,t,u.2,e,rfl,rfl,SqT.of (tu u mu),SqT.of et,_,rfl,bD (λz =>?_) λz =>?_⟩
  ·refine ⟨_,rfl,r1 _ _ ⟨rfl,?_⟩⟩
   unfold oth
   rw[Ef,hu,FA,DU]
   rw[show (some u).toList.filter (λu => !decide (u.2=e))=[u] from FD z]
   rfl
  ·refine r0 _ ⟨rfl,?_⟩
   unfold oth
   rw[Ef,hu,FA,DU]
   rw[show (some u).toList.filter (λu => !decide (u.2=e))=[] from Fq z]
   exact (E6 _).symm
 ·rintro ys H1 hy ⟨eH,rfl⟩ l2 hl2
  rw[eH] at hl2 ⊢
  rw[DI,D5 (DS _)]
  exact q l2 _ (af hl2 _) ag
end
structure Trw (H:Hp)(m:Nat)(ts ss:LA)(ks:KX):Prop where
 row:∀k∈ks,H k.1=some (.tup [.ref k.2.1.1,.ref k.2.2.1])/\H k.2.2.1=some (.tup (k.2.2.2.map V.int))/\∃(a b:Int) (Z:List Int) (M:Int),k.2.1.2=[a,b]/\k.2.2.2=rot Z (Z.idxOf M)/\M∈Z/\(∀v∈Z,M<=v)/\Al ((rst ts ((oth (ks.map (·.2.1)) k.2.1.2).map (·.2))).map (·.2)) a b Z/\RD m ((rst ts ((oth (ks.map (·.2.1)) k.2.1.2).map (·.2))).map (·.2)) a b Z
 is:ks.map (·.2.1)=thn m ts ss ss
 sub:(ks.map (·.2.1)).Sublist ss
 clr:Clr m ((rst ts ((ks.map (·.2.1)).map (·.2))).map (·.2))
 mn:∀e∈(ks.map (·.2.1)).map (·.2),¬ Clr m ((rst ts ((oth (ks.map (·.2.1)) e).map (·.2))).map (·.2))
@[irreducible] def rp (C:Addr):Sp:=λvs H Q E=>∃(r a:Addr) (m:Nat) (ts ss:LA),vs=[.ref r,.ref a]/\Ow H r (m:Int) ts/\H a=some (.tup (ss.map λu =>.ref u.1))/\(∀u∈ss,u∈ts)/\m<=200/\ts.length<=250/\ss.length<=250/\(Clr m ((rst ts (ss.map (·.2))).map (·.2))->∀(l:Addr) (H':Hp) (ks:KX),aA H H'->H l=none->H' l=some (.lst (ks.map λk =>.ref k.1))->Trw H' m ts ss ks->Q (.ref l) H')/\(¬ Clr m ((rst ts (ss.map (·.2))).map (·.2))->∀H',aA H H'->E (.ref C) none H')
theorem gW {C:Addr}{vs:List V}{H:Hp}{Q:VK}{E:XK}:rp C vs H Q E↔∃(r a:Addr) (m:Nat) (ts ss:LA),vs=[.ref r,.ref a]/\Ow H r (m:Int) ts/\H a=some (.tup (ss.map λu =>.ref u.1))/\(∀u∈ss,u∈ts)/\m<=200/\ts.length<=250/\ss.length<=250/\(Clr m ((rst ts (ss.map (·.2))).map (·.2))->∀(l:Addr) (H':Hp) (ks:KX),aA H H'->H l=none->H' l=some (.lst (ks.map λk =>.ref k.1))->Trw H' m ts ss ks->Q (.ref l) H')/\(¬ Clr m ((rst ts (ss.map (·.2))).map (·.2))->∀H',aA H H'->E (.ref C) none H'):=by
 delta rp
 exact FZ
section
variable  {P:D9}{w:EE}{K:DM}{mg:Str->Option DK}{base:Heap}{f:Addr}{fd:E4}{ča čj čg čh če čk či čc čb čd čl čf:Addr}
theorem cb:aK ["web", "arrows", "needed", "arrow", "fewer"] ["web", "arrows"] (ak dO):=⟨rfl,rfl,rfl,by decide +kernel,rfl,by decide +kernel,by decide +kernel⟩
theorem cW:(["arrow", "web", "needed"]:List Str).Nodup:=by decide +kernel
theorem kB (F:Fun K "thinned_arrows" "thinned_arrows" dO f fd)(B:Blt mg)(Z:Exs K mg ča čj čg čh če čk či čc čb čd čl čf)(xLook:qY P w K mg base 6 "look_clearing" ["web", "arrows"] (uO čc))(cOtherArrows:Cal P w K mg base 1 "other_arrows" ["arrows", "arrow"] AL)(cArrowsClear:Cal P w K mg base 5 "arrows_clear" ["web", "arrows"] wD)(cRoundBy:Cal P w K mg base 3 "round_by" ["web", "arrows"] AJ)(cWithoutArrows:Cal P w K mg base 1 "without_arrows" ["web", "arrows"] yE):bG P w K mg base (CX1 P w) 7 f fd ["web", "arrows"] (rp čc):=by
 refine F.okX cb (λvs H Q E h =>?_) (λcdv A outer s H vs Q E hr h =>?_)
 ·obtain ⟨_,_,_,_,_,rfl,_⟩:=gW.mp h
  rfl
 obtain ⟨r,a,m,ts,ss,rfl,W,ea,sb,m2,tl,sl,q1,q2⟩:=gW.mp h
 refine ⟨_,(ah (cg (AK Du xLook hr (by decide) rfl (aa (pv 0) (aa (pv 1) ae rfl) rfl)))
  (PSs.nox (ah (az (i:=2) cb.nd rfl (Or.inr rfl) (aL cS rfl B.b_list fG (aa (pv 1) ae rfl)))
  (ah (cz Fc rfl (hZ (pv 1)) (aB (i:=3) cb.nd rfl (Or.inl rfl))
   (ah (az (i:=4) cb.nd rfl (Or.inl rfl) (ay cOtherArrows hr (by decide) rfl (aa (pv 2) (aa (pv 3) ae rfl) rfl)))
   (aj (aX (bT (ay cArrowsClear hr (by decide) rfl (aa (pv 0) (aa (pv 4) ae rfl) rfl))) (aj (az (i:=2) cb.nd rfl (Or.inr rfl) (pv 4))) aG))) (λ_=>rfl))
  (aj (aD (bo ["arrow", "web", "needed"] [none,some 0,some 2] rfl (bC (pv 2)) rfl (λ_ _ _ _ _=>(aB (i:=0) cW rfl (Or.inl rfl))) (λ_ _ _ _ _=>cA) (λ_ _ _ _ _=>(ba (aa (pv 0) (aa (ay cRoundBy hr (by decide) rfl (aa (ay cWithoutArrows hr (by decide) rfl (aa (pv 1) (aa (ay cOtherArrows hr (by decide) rfl (aa (pv 2) (aa (pv 0) ae rfl) rfl)) ae rfl) rfl)) (aa (bI (aa (pv 0) ae rfl)) ae rfl) rfl)) ae rfl) rfl)))))))))),?_⟩
 have O:=oS W
 have S:Sm H a ss:=⟨.inl ea,λu hu=>W.tup u (sb u hu)⟩
 refine ⟨_,rfl,_,rfl,jS.mpr ⟨r,a,m,ts,ss,rfl,W,S,m2,tl,λH1 G s1 gr st c =>?_,λH1 G s1 gr st c=>q2 (λz=>c ((ji gr st).mp z)) H1 s1⟩⟩
 have c0:=(ji gr st).mpr c
 have q1:=q1 c0
 have ea1:=s1 _ _ ea
 refine ⟨_,rfl,a,_,rfl,.inr (SqT.of ea1),λln hln =>?_⟩
 have g2:=af hln (.lst (ss.map λu =>.ref u.1))
 have en:upd H1 ln (.lst (ss.map λu =>.ref u.1)) ln=some (.lst (ss.map λu =>.ref u.1)):=ag
 have s2:=s1.trans g2
 generalize upd H1 ln (.lst (ss.map λu =>.ref u.1))=H2 at g2 en s2
 let W0:Nat->St->Hp->Prop:=λi σ H'=>∃(ln:Addr) (N:LA) (c3 c4:Option V),σ=[some (.ref r),some (.ref a),some (.ref ln),c3,c4]/\aA H H'/\H' ln=some (.lst (N.map λu =>.ref u.1))/\N=thn m ts ss (ss.take i)/\N.Sublist ss/\Clr m ((rst ts (N.map (·.2))).map (·.2))/\∀e∈(ss.take i).map (·.2),e∈N.map (·.2)->¬ Clr m ((rst ts ((oth N e).map (·.2))).map (·.2))
 refine ⟨_,rfl,a,rfl,⟨_,SqT.of (s2 _ _ ea)⟩,kI (xs:=ss.map λu =>.ref u.1) W0 ⟨ln,ss,_,_,rfl,s2,en,rfl,Mn _,c0,λe he=>by simp at he⟩ (λi σ H' _ k=>by obtain ⟨_,_,_,_,_,s',_⟩:=k;exact SqT.of (s' _ _ ea)) ?_ ?_⟩
 ·rintro i x σ H3 hx ⟨ln,N,c3,c4,rfl,s3,eN,iN,sN,cN,mN⟩
  obtain ⟨u,hu,rfl⟩:=fO hx
  have mu:=DV hu
  have lN:=sN.length_le
  have tN:∀{H':Hp},aA H H'->Tus H' N:=λs v hv=>s _ _ (W.tup v (sb v (sN.subset hv)))
  have tk:ss.take (i+1)=ss.take i++[u]:=by rw[Ef,hu];rfl
  have fo:thn m ts ss (ss.take (i+1))=wK m ts N u.2:=by rw[tk,iN];unfold thn;rw[Mm];rfl
  refine ⟨_,rfl,_,rfl,jj.mpr ⟨ln,u.1,N,u.2,rfl,eN,tN s3,by lia,s3 _ _ (W.tup u (sb u mu)),λlf H4 s4 ef =>?_⟩⟩
  have s34:=s3.trans s4
  have tO:Tus H4 (oth N u.2):=λv hv=>tN s34 v (dj.mp hv).1
  refine ⟨_,rfl,_,rfl,gw.mpr ⟨r,lf,m,ts,oth N u.2,rfl,W.same s34,⟨.inr ef,tO⟩,m2,tl,λH5 G5 s5 gr5 st5=>⟨_,rfl,?_⟩⟩⟩
  have ci:=ji gr5 st5
  have s35:=s34.trans s5
  by_cases c5:Clr m ((rst ts ((oth N u.2).map (·.2))).map (·.2))
  ·rw[decide_eq_true (ci.mp c5)]
   have e1:wK m ts N u.2=oth N u.2:=by unfold wK;rw[if_pos c5]
   refine bO ⟨_,rfl,lf,oth N u.2,_,_,rfl,s35,s5 _ _ ef,by rw[fo,e1],List.filter_sublist.trans sN,c5,λe he hn cl =>?_⟩
   obtain ⟨v,hv,rfl⟩:=DZ.mp hn
   have hv':=dj.mp hv
   rw[tk,DU,D6] at he
   rcases he with he | he
   ·refine mN v.2 he (DZ.mpr ⟨v,hv'.1,rfl⟩) (Clr.mono (λt ht =>?_) (λa b h =>?_) cl)
    ·obtain ⟨w,hw,rfl⟩:=DZ.mp ht
     obtain ⟨h1,h2⟩:=bE.mp hw
     refine DZ.mpr ⟨w,bE.mpr ⟨h1,λh=>h2 ?_⟩,rfl⟩
     obtain ⟨x,hx,e⟩:=DZ.mp h
     obtain ⟨h3,h4⟩:=dj.mp hx
     exact DZ.mpr ⟨x,dj.mpr ⟨(dj.mp h3).1,h4⟩,e⟩
    ·obtain ⟨w,hw,e⟩:=DZ.mp h
     obtain ⟨_,_,e',h1,h2,_⟩:=W.rng w (bE.mp hw).1
     rw[e] at e'
     cases e'
     exact ⟨h1,h2⟩
   ·have:v.2=u.2:=by simpa using he
    exact hv'.2 this
  ·rw[decide_eq_false (λz=>c5 (ci.mpr z))]
   have e1:wK m ts N u.2=N:=by unfold wK;rw[if_neg c5]
   refine cq ⟨ln,N,_,_,rfl,s35,s5 _ _ (s4 _ _ eN),by rw[fo,e1],sN,cN,λe he hn =>?_⟩
   rw[tk,DU,D6] at he
   rcases he with he | he
   ·exact mN e he hn
   ·have:e=u.2:=by simpa using he
    rw[this];exact c5
 rintro σ H3 ⟨ln,N,c3,c4,rfl,s3,eN,iN,sN,cN,mN⟩
 rw[DI,D5 (DS _)] at iN mN
 have lN:=sN.length_le
 have tN:∀{H':Hp},aA H H'->Tus H' N:=λs v hv=>s _ _ (W.tup v (sb v (sN.subset hv)))
 let W1:Nat->List V->Hp->Prop:=λi ys H'=>aA H3 H'/\∃ks:KX,ys=ks.map (λk =>.ref k.1)/\ks.map (·.2.1)=N.take i/\∀k∈ks,H' k.1=some (.tup [.ref k.2.1.1,.ref k.2.2.1])/\H' k.2.2.1=some (.tup (k.2.2.2.map V.int))/\∃(a b:Int) (Z:List Int) (M:Int),k.2.1.2=[a,b]/\k.2.2.2=rot Z (Z.idxOf M)/\M∈Z/\(∀v∈Z,M<=v)/\Al ((rst ts ((oth N k.2.1.2).map (·.2))).map (·.2)) a b Z/\RD m ((rst ts ((oth N k.2.1.2).map (·.2))).map (·.2)) a b Z
 refine ⟨_,rfl,ln,rfl,⟨_,SqL.of eN⟩,aW (xs:=N.map λu =>.ref u.1) W1 ⟨aA.refl _,[],rfl,rfl,λk hk=>(by cases hk)⟩ (by rw[DI];exact small (by lia)) (λi ys H' _ k=>SqL.of (k.1 _ _ eN)) ?_ ?_⟩
 ·rintro i x ys H4 hx hy ⟨s4,ks,rfl,ek,hk⟩ R1 R0 r1 r0
  obtain ⟨u,hu,rfl⟩:=fO hx
  have mu:=DV hu
  have mt:=sb u (sN.subset mu)
  have s34:=s3.trans s4
  obtain ⟨a',b',eu,a0,a1,b0,b1⟩:=W.rng u mt
  refine bO ⟨_,rfl,_,rfl,_,rfl,_,rfl,jj.mpr ⟨ln,u.1,N,u.2,rfl,s4 _ _ eN,tN s34,by lia,s34 _ _ (W.tup u mt),λlo H5 s5 eo =>?_⟩⟩
  have s35:=s34.trans s5
  refine ja.mpr ⟨r,lo,m,ts,oth N u.2,rfl,W.same s35,⟨.inr eo,λv hv=>tN s35 v (dj.mp hv).1⟩,tl,λwb H6 s6 Wb =>?_⟩
  have s36:=s35.trans s6
  refine ⟨_,rfl,(by show 1<=D3;decide),λl1 hl1 =>?_⟩
  obtain ⟨H7,zQ9,g7,el1⟩:=nwZ hl1 (.lst [.ref u.1])
  rw[zQ9]
  have s37:=s36.trans g7
  have hu7:=s37 _ _ (W.tup u mt)
  have inF:[a',b']∈(rst ts ((oth N u.2).map (·.2))).map (·.2):=by
   refine DZ.mpr ⟨u,bE.mpr ⟨mt,λh =>?_⟩,eu⟩
   obtain ⟨v,hv,e⟩:=DZ.mp h
   exact (dj.mp hv).2 e
  have nc:=mN u.2 (DZ.mpr ⟨u,sN.subset mu,rfl⟩) (DZ.mpr ⟨u,mu,rfl⟩)
  have nn:¬ AH ((rst ts ((oth N u.2).map (·.2))).map (·.2)) a' b':=by
   obtain ⟨G,g,l⟩:=cN
   obtain ⟨G',g',s'⟩:=Gr.ex m ((rst ts ((oth N u.2).map (·.2))).map (·.2))
   refine tm (oS Wb) (λt ht =>?_) g l g' s' λz=>nc ⟨G',g',z⟩
   obtain ⟨v,hv,rfl⟩:=DZ.mp ht
   obtain ⟨h1,h2⟩:=bE.mp hv
   by_cases c:v.2∈N.map (·.2)
   ·right
    obtain ⟨w,hw,e⟩:=DZ.mp c
    rw[<- eu]
    apply Ea
    intro ne
    exact h2 (DZ.mpr ⟨w,dj.mpr ⟨hw,by rw[e];exact ne⟩,e⟩)
   ·exact .inl (DZ.mpr ⟨v,bE.mpr ⟨h1,c⟩,rfl⟩)
  rw[eu] at hu7
  refine mP.mpr ⟨wb,l1,u.1,m,_,a',b',rfl,Wb.same g7,el1,hu7,inF,m2,EI (pX _ _) tl,nn,λz H8 Z M s8 hM mM ez al rd' =>?_⟩
  have s48:=s5.trans (s6.trans (g7.trans s8))
  refine ⟨(by show 2<=D3;decide),λtp htp=>r1 _ _ ⟨(s4.trans s48).trans (af htp _),ks++[(tp,u,z,rot Z (Z.idxOf M))],by rw[DU];rfl,by rw[DU,ek,Ef,hu];rfl,λk hk' =>?_⟩⟩
  rcases D6.mp hk' with y | y
  ·obtain ⟨h1,h2,h3⟩:=hk k y
   exact ⟨(af htp _) _ _ (s48 _ _ h1),(af htp _) _ _ (s48 _ _ h2),h3⟩
  ·rw[DW] at y
   subst y
   exact ⟨ag,(af htp _) _ _ ez,a',b',Z,M,eu,rfl,hM,mM,al,rd'⟩
 ·rintro ys H4 hy ⟨s4,ks,rfl,ek,hk⟩ l hl
  rw[DI,D5 (DS _)] at ek
  have s34:=s3.trans s4
  refine q1 l _ ks (s34.trans (af hl _)) (s34.free hl) ag ⟨λk hk' =>?_,by rw[ek,iN],by rw[ek];exact sN,by rw[ek];exact cN,λe he =>?_⟩
  ·obtain ⟨h1,h2,h3⟩:=hk k hk'
   rw[ek]
   exact ⟨(af hl _) _ _ h1,(af hl _) _ _ h2,h3⟩
  ·rw[ek] at he ⊢
   obtain ⟨v,hv,rfl⟩:=DZ.mp he
   exact mN v.2 (DZ.mpr ⟨v,sN.subset hv,rfl⟩) he
end
def aT (Z:List Int)(n:Nat):List (List Int):=(EU n).map λi=>[if i=0 then Z.getD (Z.length-1) 0 else Z.getD (i-1) 0,Z.getD i 0]
theorem fJ (Z:List Int)(n:Nat):aT Z (n+1)=aT Z n++[[if n=0 then Z.getD (Z.length-1) 0 else Z.getD (n-1) 0,Z.getD n 0]]:=by
 unfold aT
 rw[List.range_succ,DU];rfl
theorem qd {Z:List Int}{i:Nat}(h:i<Z.length):atI (Z.map V.int) ((i:Int)-1)=some (.int (if i=0 then Z.getD (Z.length-1) 0 else Z.getD (i-1) 0)):=by
 unfold atI
 by_cases c:i=0
 ·subst c
  rw[if_pos rfl]
  have e:ixN (Z.map V.int).length (((0:Nat):Int)-1)=some (Z.length-1):=by
   rw[DI];unfold ixN;simp;lia
  rw[e]
  show (Z.map V.int)[Z.length-1]? = _
  rw[D1,DX,DL (by lia)];rfl
 ·rw[if_neg c]
  have e0:((i:Int)-1)=((i-1:Nat):Int):=by lia
  rw[e0]
  show atI (Z.map V.int) ((i-1:Nat):Int)=_
  refine cj ?_
  rw[D1,DX,DL (by lia)];rfl
abbrev Bm:Sp:=λvs H Q _=>∃(p:Addr) (Z:List Int),vs=[.ref p]/\H p=some (.tup (Z.map V.int))/\Z.length<=500/\∀(l:Addr) (us:LA) (H':Hp),aA H H'->H' l=some (.lst (us.map λu =>.ref u.1))->Tus H' us->us.map (·.2)=aT Z Z.length->Q (.ref l) H'
@[irreducible] def yP:Sp:=Bm
theorem jk {vs:List V}{H:Hp}{Q:VK}{E:XK}:yP vs H Q E↔Bm vs H Q E:=by
 delta yP
 exact FZ
section
theorem nQ:aK ["places"] ["places"] (ak fD):=⟨rfl,rfl,rfl,by decide +kernel,rfl,by decide +kernel,by decide +kernel⟩
theorem dz:(["at", "place", "places"]:List Str).Nodup:=by decide +kernel
theorem nU (F:Fun K "round_arrows" "round_arrows" fD f fd)(B:Blt mg):bG P w K mg base CX0 1 f fd ["places"] yP:=by
 refine F.ok nQ (λvs H Q E h =>?_) (λcdv A outer s H vs Q E hr h =>?_)
 ·obtain ⟨_,_,rfl,_⟩:=jk.mp h
  rfl
 obtain ⟨p,Z,rfl,ep,l5,q⟩:=jk.mp h
 refine ⟨_,(aj (aD (bo ["at", "place", "places"] [none,none,some 0] rfl (zC rfl B.b_enumerate (aa (pv 0) ae rfl)) rfl (λ_ _ _ _ _=>(lO (K:=K) (i:=0) (j:=1) dz rfl rfl (Or.inl rfl) (Or.inl rfl))) (λ_ _ _ _ _=>cA) (λ_ _ _ _ _=>(ba (aa (aH (cp (K:=K)) (pv 2) (aO ly (pv 0) ai) (λ_ _=>rfl)) (aa (pv 1) ae rfl) rfl)))))),?_⟩
 refine ⟨_,rfl,p,rfl,.inr ⟨⟨_,SqT.of ep⟩,vV (xs:=Z.map V.int) (λi ys H'=>aA H H'/\∃us:LA,ys=us.map (λu =>.ref u.1)/\Tus H' us/\us.map (·.2)=aT Z i) (by decide) ⟨aA.refl _,[],rfl,λu hu=>(by cases hu),rfl⟩ (by rw[DI];exact small (by lia)) (λi ys H' _ k=>SqT.of (k.1 _ _ ep)) ?_ ?_⟩⟩
 ·rintro i x ys H1 T hx hy hT ⟨s1,us,rfl,tu,eu⟩ R1 R0 r1 r0
  obtain ⟨v,ev,rfl⟩:=oJ hx
  have hi:=(DQ.mp ev).1
  have gT:=af hT (.tup [.int (i:Nat),.int v])
  have ep2:=(s1.trans gT) _ _ ep
  refine bO ⟨_,rfl,_,rfl,_,_,rfl,rfl,p,_,_,_,rfl,rfl,SqT.of ep2,qd hi,_,rfl,(by show 2<=D3;decide),λc hc=>r1 _ _ ⟨(s1.trans gT).trans (af hc _),us++[(c,[if i=0 then Z.getD (Z.length-1) 0 else Z.getD (i-1) 0,v])],by rw[DU];rfl,Tus.snoc ((tu.same gT).same (af hc _)) (u:=(c,[if i=0 then Z.getD (Z.length-1) 0 else Z.getD (i-1) 0,v])) ag,?_⟩⟩
  rw[DU,eu,fJ,show Z.getD i 0=v by rw[DX,ev];rfl];rfl
 ·rintro ys H1 hy ⟨s1,us,rfl,tu,eu⟩ l hl
  rw[DI] at eu
  exact q l us _ (s1.trans (af hl _)) ag (tu.same (af hl _)) eu
end
theorem jT:∀{Z us:List Int},us.Nodup->(∀x,x∈us↔x∈Z)->us.length=Z.length->Z.Nodup
 | [],_,_,_,_=>FU
 | a :: t,us,nd,mem,l=>by
  have na:a∉t:=λh=>by
   have:=GI nd (l₂:=t) λx hx=>by
    rcases Eg.mp ((mem x).mp hx) with z | z
    ·rw[z];exact h
    ·exact z
   rw[Eu] at l
   lia
  have ha:a∈us:=(mem a).mpr En
  refine Fm.mpr ⟨na,jT (us:=us.erase a) (nd.erase a) (λx =>?_) ?_⟩
  ·rw[nd.mem_erase_iff,mem x,Eg]
   constructor
   ·rintro ⟨h1,h2 | h2⟩
    ·exact absurd h2 h1
    ·exact h2
   ·intro h
    exact ⟨λe=>na (e ▸ h),.inr h⟩
  ·rw[List.length_erase_of_mem ha,l,Eu];rfl
def Rd (E:List (List Int))(Z:List Int):Prop:=Z≠[]/\Z.Nodup/\∀t∈aT Z Z.length,t∈E
instance (E:List (List Int)) (Z:List Int):Decidable (Rd E Z):=by unfold Rd;infer_instance
abbrev uP:Sp:=λvs H Q _=>∃(r p:Addr) (m:Nat) (ts:LA) (Z:List Int),vs=[.ref r,.ref p]/\Ow H r (m:Int) ts/\H p=some (.tup (Z.map V.int))/\Z.length<=290/\∀H',aA H H'->Q (.bl (decide (Rd (ts.map (·.2)) Z))) H'
@[irreducible] def qe:Sp:=uP
theorem iy {vs:List V}{H:Hp}{Q:VK}{E:XK}:qe vs H Q E↔uP vs H Q E:=by
 delta qe
 exact FZ
section
theorem wL:aK ["web", "places"] ["web", "places"] (ak mz):=⟨rfl,rfl,rfl,by decide +kernel,rfl,by decide +kernel,by decide +kernel⟩
theorem hU:(["arrow", "web"]:List Str).Nodup:=by decide +kernel
theorem wM (F:Fun K "is_round" "is_round" mz f fd)(B:Blt mg)(cRoundArrows:Cal P w K mg base 1 "round_arrows" ["places"] yP):bG P w K mg base CX0 2 f fd ["web", "places"] qe:=by
 refine F.ok wL (λvs H Q E h =>?_) (λcdv A outer s H vs Q E hr h =>?_)
 ·obtain ⟨_,_,_,_,_,rfl,_⟩:=iy.mp h
  rfl
 obtain ⟨r,p,m,ts,Z,rfl,W,ep,l5,q⟩:=iy.mp h
 refine ⟨_,(ah (aX (PW.pt (cP (ax cK (au aR rfl B.b_len cJ (aa (pv 1) ae rfl)) ai (aE _)) (cy (ax nZ (au kh rfl B.b_len cJ (aa (aL (ij (w:=w) rfl hr.hd) rfl B.b_set pU (aa (pv 1) ae rfl)) ae rfl)) (au aR rfl B.b_len cJ (aa (pv 1) ae rfl)) (aE _))))) (aj (aD fN)) aG)
  (aj (aD (au (iP rfl) rfl B.b_all pR (aa (bo ["arrow", "web"] [none,some 0] rfl (bC (ay cRoundArrows hr (by decide) rfl (aa (pv 1) ae rfl))) rfl (λ_ _ _ _ _=>(aB (i:=0) hU rfl (Or.inl rfl))) (λ_ _ _ _ _=>cA) (λ_ _ _ _ _=>(cQ (pH (hu8 hr)) (pv 0) (aH (cp (K:=K)) (pv 1) ai (λ_ _=>rfl)) rfl))) ae rfl))))),?_⟩
 have lz:(Z.map V.int).length=Z.length:=DI _
 refine ⟨_,rfl,p,_,rfl,.inr (SqT.of ep),rfl,_,rfl,bD (λz =>?_) λz =>?_⟩
 ·rw[lz] at z
  have z0:Z.length=0:=by have:=V.int.inj (of_decide_eq_true z);lia
  have:=q H (aA.refl _)
  rw[decide_eq_false (λh:Rd _ Z=>h.1 (GQ z0))] at this
  exact bO this
 rw[lz] at z
 refine ⟨_,rfl,p,Z,rfl,.inr (SqT.of ep),by lia,λa us ha mu nu lu =>?_⟩
 have ga:=af ha (cZ w a (us.map V.int))
 refine ⟨a,us.map V.int,rfl,ag,by rw[DI];lia,?_⟩
 generalize upd H a (cZ w a (us.map V.int))=H1 at ga
 have ep1:=ga _ _ ep
 refine ⟨_,rfl,p,_,rfl,.inr (SqT.of ep1),rfl,_,rfl,?_⟩
 refine bD (λz2 =>?_) λz2 =>?_
 ·have:=q H1 ga
  rw[decide_eq_false (λh:Rd _ Z =>?_)] at this
  ·exact this
  ·rw[lz,DI] at z2
   have e:us.length=Z.length:=((Hs nu h.2.1).mpr mu).length_eq
   rw[e] at z2
   simp at z2
 rw[lz,DI] at z2
 have eq:us.length=Z.length:=by
  apply Ea
  intro n
  apply z2
  rw[decide_eq_false (λz=>n (by have:=V.int.inj z;lia))];rfl
 have nd:=jT nu mu eq
 have ne:Z≠[]:=λe=>z (by rw[e];rfl)
 refine ⟨_,rfl,jk.mpr ⟨p,Z,rfl,ep1,by lia,λl us H2 s2 el tu eu =>?_⟩⟩
 have s12:=ga.trans s2
 obtain ⟨t,e1,e2⟩:=(W.same s12).at'
 have lu:us.length<=290:=by have:=congrArg List.length eu;rw[DI] at this;unfold aT at this;rw[DI,GY] at this;lia
 refine ⟨l,rfl,⟨_,SqL.of el⟩,aW (xs:=us.map λu =>.ref u.1) (λi ys H'=>H'=H2/\ys=((us.take i).map λu=>decide (u.2∈ts.map (·.2))).map V.bl) ⟨rfl,rfl⟩ (by rw[DI];exact small (by lia)) (λi ys H' _ k=>by rw[k.1];exact SqL.of el) ?_ ?_⟩
 ·rintro i x ys H3 hx hy ⟨eH,rfl⟩ R1 R0 r1 r0
  obtain ⟨u,hu,rfl⟩:=fO hx
  rw[eH]
  refine bO ⟨_,rfl,_,rfl,r,_,1,_,rfl,rfl,SqT.of e1,rfl,t,u.1,ts,u.2,rfl,rfl,e2,(W.same s12).tup,tu u (DV hu),r1 _ _ ⟨rfl,?_⟩⟩
  rw[Ef,hu,DU,DU];rfl
 ·rintro ys H3 hy ⟨eH,rfl⟩ l2 hl2
  rw[eH] at hl2 ⊢
  rw[DI,D5 (DS _)]
  refine ⟨l2,_,rfl,SqL.of ag,?_⟩
  have:=q _ (s12.trans (af hl2 (.lst ((us.map λu=>decide (u.2∈ts.map (·.2))).map V.bl))))
  rw[show decide (Rd (ts.map (·.2)) Z)=(us.map λu=>decide (u.2∈ts.map (·.2))).all id from ?_] at this
  ·exact this
  ·rw[Gb,decide_eq_true_iff,Nr,Gf]
   unfold Rd
   rw[<- eu]
   constructor
   ·intro h u hu
    exact decide_eq_true (h.2.2 u.2 (DZ.mpr ⟨u,hu,rfl⟩))
   ·intro h
    refine ⟨ne,nd,λt ht =>?_⟩
    obtain ⟨u,hu,rfl⟩:=DZ.mp ht
    exact of_decide_eq_true (h u hu)
end
def Fmd (E:List (List Int))(Z:List Int):Prop:=Rd E Z/\∃M,Z[0]? = some M/\∀v∈Z,M<=v
theorem yQ {Z:List Int}{M:Int}(h:M∈Z):rot Z (Z.idxOf M)=Z↔Z[0]? = some M:=by
 have hk:=GK.mpr h
 constructor
 ·intro e
  rw[<- e]
  unfold rot
  rw[EH (by rw[Ez];lia),FK,K1,DL hk,Jc hk]
 ·intro e
  cases Z with
  | nil=>cases h
  | cons a t =>
   have:a=M:=by simpa using e
   subst this
   rw[List.idxOf_cons_self]
   unfold rot
   simp
abbrev yR:Sp:=λvs H Q _=>∃(r p:Addr) (m:Nat) (ts:LA) (Z:List Int),vs=[.ref r,.ref p]/\Ow H r (m:Int) ts/\H p=some (.tup (Z.map V.int))/\Z.length<=290/\∀(b:Bool) (H':Hp),aA H H'->(b=true↔Fmd (ts.map (·.2)) Z)->Q (.bl b) H'
@[irreducible] def uQ:Sp:=yR
theorem jU {vs:List V}{H:Hp}{Q:VK}{E:XK}:uQ vs H Q E↔yR vs H Q E:=by
 delta uQ
 exact FZ
section
theorem kD:aK ["web", "places"] ["web", "places"] (ak dP):=⟨rfl,rfl,rfl,by decide +kernel,rfl,by decide +kernel,by decide +kernel⟩
theorem kE (F:Fun K "is_formed_round" "is_formed_round" dP f fd)(B:Blt mg)(cIsRound:Cal P w K mg base 2 "is_round" ["web", "places"] qe)(cRoundForm:Cal P w K mg base 1 "round_form" ["places"] yO):bG P w K mg base CX0 3 f fd ["web", "places"] uQ:=by
 refine F.ok kD (λvs H Q E h =>?_) (λcdv A outer s H vs Q E hr h =>?_)
 ·obtain ⟨_,_,_,_,_,rfl,_⟩:=jU.mp h
  rfl
 obtain ⟨r,p,m,ts,Z,rfl,W,ep,l5,q⟩:=jU.mp h
 refine ⟨_,(aj (aD (wY (ay cIsRound hr (by decide) rfl (aa (pv 0) (aa (pv 1) ae rfl) rfl)) (wX (cQ (ux hr) (ay cRoundForm hr (by decide) rfl (aa (pv 1) ae rfl)) (aL aN rfl B.b_tuple bB (aa (pv 1) ae rfl)) (aE _)))))),?_⟩
 refine ⟨_,rfl,_,rfl,iy.mpr ⟨r,p,m,ts,Z,rfl,W,ep,l5,λH1 s1=>⟨_,rfl,bD (λz =>?_) λz =>?_⟩⟩⟩
 ·have rd':=of_decide_eq_true z
  have ep1:=s1 _ _ ep
  refine ⟨_,rfl,jg.mpr ⟨p,Z,rfl,ep1,rd'.1,by lia,λy H2 M s2 hM mM e2 =>?_⟩⟩
  refine ⟨_,rfl,p,_,rfl,.inr ⟨SqT.of (s2 _ _ ep1),y,p,_,Z,rfl,rfl,SqT.of e2,SqT.of (s2 _ _ ep1),q _ H2 (s1.trans s2) ?_⟩⟩
  rw[decide_eq_true_iff,yQ hM]
  constructor
  ·exact λh=>⟨rd',M,h,mM⟩
  ·rintro ⟨_,M',h,m'⟩
   have:=m' M hM
   have:=mM M' (DV h)
   rw[h];congr 1;lia
 ·exact q false H1 s1 ⟨(λh=>(by cases h)),(λh=>absurd (decide_eq_true h.1) z)⟩
end
theorem uS {X:Cx}(hu:X.A.units+8<cLine):OpR X (Fl .In) (λx y H Q=>∃(p b:Addr) (ts:LA) (m:List Int),x = .ref b/\y = .ref p/\H p=some (.lst (ts.map λt =>.ref t.1))/\(∀t∈ts,H t.1=some (.tup (t.2.map V.int)))/\H b=some (.tup (m.map V.int))/\Q (.bl (decide (m∈ts.map (·.2)))) H):=by
 intro pins s σ H x y v u Q I rx ry h
 obtain ⟨p,b,ts,m,rfl,rfl,hp,ht,hb,q⟩:=h
 cases rx
 cases ry
 have ht':∀t∈ts,SqT X.K H t.1 (t.2.map V.int):=λt hm=>SqT.of (ht t hm)
 obtain ⟨its,r,pl,hz⟩:=I.list (SqL.of (K:=X.K) hp)
 have ei:=cI r
 refine MK (cu ts m) pl.isList (λy hy =>?_) ⟨.bl _,H,I,rfl,?_⟩
 ·have hy':y∈its:=by simpa using hy
  rw[ei] at hy'
  obtain ⟨t,hm,rfl⟩:=DZ.mp hy'
  rw[cx I ht' hm]
  exact I.eqT (by show X.A.units+1<cLine;lia) (ht' t hm) (SqT.of hb)
 ·rw[show its.toArray.any (cu ts m)=its.any (cu ts m) by simp,ei,i3 I ht' ts (λt h=>h)]
  exact q
abbrev Bn:Sp:=λvs H Q _=>∃(l p:Addr) (N:LA) (Z:List Int),vs=[.ref l,.ref p]/\H l=some (.lst (N.map λu =>.ref u.1))/\Tus H N/\H p=some (.tup (Z.map V.int))/\Z.length<=290/\∀(l':Addr) (us:LA) (H':Hp),aA H H'->H' l'=some (.lst (us.map λu =>.ref u.1))->Tus H' us->us.map (·.2)=(aT Z Z.length).filter (λt=>decide (t∈N.map (·.2)))->Q (.ref l') H'
@[irreducible] def AM:Sp:=Bn
theorem mS {vs:List V}{H:Hp}{Q:VK}{E:XK}:AM vs H Q E↔Bn vs H Q E:=by
 delta AM
 exact FZ
section
theorem yS:aK ["arrows", "places"] ["arrows", "places"] (ak pP):=⟨rfl,rfl,rfl,by decide +kernel,rfl,by decide +kernel,by decide +kernel⟩
theorem fP:(["arrow", "arrows"]:List Str).Nodup:=by decide +kernel
theorem yT (F:Fun K "goes_by" "goes_by" pP f fd)(B:Blt mg)(cRoundArrows:Cal P w K mg base 1 "round_arrows" ["places"] yP):bG P w K mg base CX0 2 f fd ["arrows", "places"] AM:=by
 refine F.ok yS (λvs H Q E h =>?_) (λcdv A outer s H vs Q E hr h =>?_)
 ·obtain ⟨_,_,_,_,rfl,_⟩:=mS.mp h
  rfl
 obtain ⟨l,p,N,Z,rfl,el,tN,ep,l5,q⟩:=mS.mp h
 refine ⟨_,(aj (aD (bo ["arrow", "arrows"] [none,some 0] rfl (bC (ay cRoundArrows hr (by decide) rfl (aa (pv 1) ae rfl))) rfl (λ_ _ _ _ _=>(aB (i:=0) fP rfl (Or.inl rfl))) (λ_ _ _ _ _=>(eB (ax (uS (hu8 hr)) (pv 0) (pv 1) rfl))) (λ_ _ _ _ _=>(pv 0))))),?_⟩
 refine ⟨_,rfl,jk.mpr ⟨p,Z,rfl,ep,by lia,λls us H1 s1 es tu eu =>?_⟩⟩
 have lu:us.length<=290:=by have:=congrArg List.length eu;rw[DI] at this;unfold aT at this;rw[DI,GY] at this;lia
 refine ⟨ls,rfl,⟨_,SqL.of es⟩,aW (xs:=us.map λu =>.ref u.1) (λi ys H'=>H'=H1/\ys=((us.take i).filter λu=>decide (u.2∈N.map (·.2))).map λu =>.ref u.1) ⟨rfl,rfl⟩ (by rw[DI];exact small (by lia)) (λi ys H' _ k=>by rw[k.1];exact SqL.of es) ?_ ?_⟩
 ·rintro i x ys H2 hx hy ⟨eH,rfl⟩ R1 R0 r1 r0
  obtain ⟨u,hu,rfl⟩:=fO hx
  rw[eH]
  refine ⟨_,rfl,_,rfl,l,u.1,N,u.2,rfl,rfl,s1 _ _ el,tN.same s1,tu u (DV hu),_,rfl,bD (λz =>?_) λz =>?_⟩
  ·refine ⟨_,rfl,r1 _ _ ⟨rfl,?_⟩⟩
   rw[Ef,hu,FA,DU]
   rw[show (some u).toList.filter (λu=>decide (u.2∈N.map (·.2)))=[u] from FD z]
   rfl
  ·refine r0 _ ⟨rfl,?_⟩
   rw[Ef,hu,FA,DU]
   rw[show (some u).toList.filter (λu=>decide (u.2∈N.map (·.2)))=[] from Fq z]
   exact (E6 _).symm
 ·rintro ys H2 hy ⟨eH,rfl⟩ l2 hl2
  rw[eH] at hl2 ⊢
  rw[DI,D5 (DS _)]
  refine q l2 _ _ (s1.trans (af hl2 _)) ag (λu hu=>(af hl2 _) _ _ (tu u (Ga.mp hu).1)) ?_
  rw[<- eu,MU];rfl
end
abbrev Bo:Sp:=λvs H Q _=>∃(r a:Addr) (m:Nat) (ts ss:LA),vs=[.ref r,.ref a]/\Ow H r (m:Int) ts/\H a=some (.tup (ss.map λu =>.ref u.1))/\(∀u∈ss,u∈ts)/\m<=200/\ts.length<=250/\ss.length<=250/\Clr m ((rst ts (ss.map (·.2))).map (·.2))/\∀(l:Addr) (H':Hp) (ks:KX),aA H H'->H l=none->H' l=some (.lst (ks.map λk =>.ref k.1))->Trw H' m ts ss ks->Q (.ref l) H'
@[irreducible] def yU:Sp:=Bo
theorem mU {vs:List V}{H:Hp}{Q:VK}{E:XK}:yU vs H Q E↔Bo vs H Q E:=by
 delta yU
 exact FZ
theorem AN {C:Addr}:∀vs H Q E,yU vs H Q E->rp C vs H Q E0:=λvs H Q E h=>by
 obtain ⟨r,a,m,ts,ss,e,W,ea,sb,m2,tl,sl,c,k⟩:=mU.mp h
 exact gW.mpr ⟨r,a,m,ts,ss,e,W,ea,sb,m2,tl,sl,λ_=>k,λz=>absurd c z⟩
def kF (N:LA):List Bool:=List.zipWith (λa b=>HT.lexLt a.2 b.2) N (N.drop 1)
theorem yV (N:LA):(kF N).length=N.length-1:=by
 unfold kF
 rw[List.length_zipWith,Ez];lia
theorem rq:∀N:LA,(kF N).all id=true↔Ri N
 | []=>by unfold Ri;simp[kF]
 | [a]=>by unfold Ri;simp[kF]
 | a :: b :: t=>by
  have ih:=rq (b :: t)
  have e:kF (a :: b :: t)=HT.lexLt a.2 b.2 :: kF (b :: t):=rfl
  rw[e,LN,Fo,ih]
  unfold Ri
  rw[Gs (l:=b :: t)]
  constructor
  ·rintro ⟨h,p⟩
   refine ⟨λx hx =>?_,p⟩
   rcases Eg.mp hx with rfl | hx
   ·exact h
   ·exact Srt.lex_trans _ _ _ h ((Gs.mp p).1 x hx)
  ·rintro ⟨h,p⟩
   exact ⟨h b (En ..),p⟩
theorem mV (xs:List V):eQ xs (some 1) none=xs.drop 1:=by
 unfold eQ HT.sIx
 cases xs with
 | nil=>rfl
 | cons a l=>simp
theorem AO {N:LA}{i:Nat}{x y:V}(hx:(N.map λu=>V.ref u.1)[i]? = some x)(hy:((N.map λu=>V.ref u.1).drop 1)[i]? = some y):∃u v,u∈N/\v∈N/\x = .ref u.1/\y = .ref v.1/\(kF N)[i]? = some (HT.lexLt u.2 v.2):=by
 rw[<- HX,D1] at hy
 rw[D1] at hx
 obtain ⟨u,eu,rfl⟩:=Ie.mp hx
 obtain ⟨v,ev,rfl⟩:=Ie.mp hy
 refine ⟨u,v,DV eu,FY (DV ev),rfl,rfl,?_⟩
 unfold kF
 rw[List.getElem?_zipWith,eu,ev]
abbrev uT:Sp:=λvs H Q _=>∃(p:Addr) (N:LA),vs=[.ref p]/\H p=some (.lst (N.map λu =>.ref u.1))/\Tus H N/\N.length<=500/\∀(b:Bool) (H':Hp),aA H H'->(b=true↔Ri N)->Q (.bl b) H'
@[irreducible] def qf:Sp:=uT
theorem iz {vs:List V}{H:Hp}{Q:VK}{E:XK}:qf vs H Q E↔uT vs H Q E:=by
 delta qf
 exact FZ
section
theorem tw:aK ["row"] ["row"] (ak jC):=⟨rfl,rfl,rfl,by decide +kernel,rfl,by decide +kernel,by decide +kernel⟩
theorem gz:(["one", "other"]:List Str).Nodup:=by decide +kernel
theorem tE (F:Fun K "is_rising" "is_rising" jC f fd)(B:Blt mg):bG P w K mg base CX0 1 f fd ["row"] qf:=by
 refine F.ok tw (λvs H Q E h =>?_) (λcdv A outer s H vs Q E hr h =>?_)
 ·obtain ⟨_,_,rfl,_⟩:=iz.mp h
  rfl
 obtain ⟨p,N,rfl,ep,tN,l5,q⟩:=iz.mp h
 refine ⟨_,(aj (aD (au (iP rfl) rfl B.b_all pR (aa (bo ["one", "other"] [none,none] rfl (uF true true rfl B.b_zip (aa (pv 0) (aa (bz cR (pv 0) (bM ai) bL) ae rfl) rfl)) rfl (λ_ _ _ _ _=>(lO (K:=K) (i:=0) (j:=1) gz rfl rfl (Or.inl rfl) (Or.inl rfl))) (λ_ _ _ _ _=>cA) (λ_ _ _ _ _=>(cQ (Aq (K:=K) (hu8 hr)) (pv 0) (pv 1) (aE _)))) ae rfl)))),?_⟩
 have lm:(N.map λu=>V.ref u.1).length=N.length:=DI _
 refine ⟨_,rfl,_,rfl,1,rfl,p,_,rfl,SqL.of ep,λp2 hp2 =>?_⟩
 rw[mV]
 obtain ⟨H2,zQ9,s2,e2⟩:=nwZ hp2 (.lst ((N.map λu=>V.ref u.1).drop 1))
 rw[zQ9]
 have ep2:=s2 _ _ ep
 have ld:((N.map λu=>V.ref u.1).drop 1).length=N.length-1:=by rw[Ez,lm]
 refine ⟨p,p2,rfl,⟨_,SqL.of ep2⟩,⟨_,SqL.of e2⟩,Ds (N.length-1) (by rw[lm];lia) (by rw[ld];lia) (.inr ld.symm) (λi zs H'=>aA H2 H'/\zs=((kF N).take i).map V.bl) (by decide) ⟨aA.refl _,rfl⟩ (small (by lia)) (λi zs H' _ k=>⟨SqL.of (k.1 _ _ ep2),SqL.of (k.1 _ _ e2)⟩) ?_ ?_⟩
 ·rintro i x y zs H' T' hx hy lz hT' ⟨s',rfl⟩ R1 R0 r1 r0
  obtain ⟨u,v,mu,mv,rfl,rfl,euv⟩:=AO hx hy
  have sT:=(s2.trans s').trans (af hT' (.tup [.ref u.1,.ref v.1]))
  refine bO ⟨_,rfl,_,rfl,u.1,v.1,u.2,v.2,rfl,rfl,SqT.of (sT _ _ (tN u mu)),SqT.of (sT _ _ (tN v mv)),r1 _ _ ⟨s'.trans (af hT' _),?_⟩⟩
  rw[Ef,euv,DU];rfl
 ·rintro zs H' lz ⟨s',rfl⟩ c5 hc5
  rw[show (kF N).take (N.length-1)=kF N from D5 (by rw[yV];exact DS _)]
  exact ⟨c5,_,rfl,SqL.of ag,q _ _ (s2.trans (s'.trans (af hc5 _))) (rq N)⟩
end
def rz (E A:List (List Int))(k:Addr×(Addr×List Int)×Addr×List Int):Prop:=Fmd E k.2.2.2/\(aT k.2.2.2 k.2.2.2.length).filter (λt=>decide (t∈A))=[k.2.1.2]
structure TR (m:Nat)(ts:LA)(ks:KX):Prop where
 ris:Ri (ks.map (·.2.1))
 clr:Clr m ((rst ts ((ks.map (·.2.1)).map (·.2))).map (·.2))
 row:∀k∈ks,rz (ts.map (·.2)) ((ks.map (·.2.1)).map (·.2)) k
theorem itK {ks:KX}{i:Nat}{x:V}(e:(ks.map λk=>V.ref k.1)[i]? = some x):∃k,ks[i]? = some k/\x = .ref k.1:=by
 rw[D1] at e
 cases z:ks[i]? with
 | none=>rw[z] at e;cases e
 | some k=>rw[z] at e;exact ⟨k,rfl,(EA e).symm⟩
theorem bS {H H':Hp}{ks:KX}(h:Rws H ks)(s:aA H H'):Rws H' ks:=λk hk=>by
 obtain ⟨h1,h2,h3⟩:=h k hk
 exact ⟨s _ _ h1,s _ _ h2,s _ _ h3⟩
theorem yW {H:Hp}{ks:KX}(h:Rws H ks):Tus H (ks.map (·.2.1)):=λu hu=>by
 obtain ⟨k,hk,rfl⟩:=DZ.mp hu
 exact (h k hk).2.1
abbrev Bp:Sp:=λvs H Q _=>∃(r p:Addr) (m:Nat) (ts:LA) (ks:KX),vs=[.ref r,.ref p]/\Ow H r (m:Int) ts/\(H p=some (.lst (ks.map λk =>.ref k.1))\/H p=some (.tup (ks.map λk =>.ref k.1)))/\Rws H ks/\m<=200/\ts.length<=250/\ks.length<=300/\(∀k∈ks,k.2.2.2.length<=290)/\∀(b:Bool) (H':Hp),aA H H'->(b=true↔TR m ts ks)->Q (.bl b) H'
@[irreducible] def AQ:Sp:=Bp
theorem mW {vs:List V}{H:Hp}{Q:VK}{E:XK}:AQ vs H Q E↔Bp vs H Q E:=by
 delta AQ
 exact FZ
section
theorem cX:aK ["web", "rows", "arrows", "arrow", "row"] ["web", "rows"] (ak eI):=⟨rfl,rfl,rfl,by decide +kernel,rfl,by decide +kernel,by decide +kernel⟩
theorem iA:(["row"]:List Str).Nodup:=by decide +kernel
theorem mY (F:Fun K "thinned_right" "thinned_right" eI f fd)(B:Blt mg)(cIsRising:Cal P w K mg base 1 "is_rising" ["row"] qf)(cArrowsClear:Cal P w K mg base 5 "arrows_clear" ["web", "arrows"] wD)(cIsFormedRound:Cal P w K mg base 3 "is_formed_round" ["web", "places"] uQ)(cGoesBy:Cal P w K mg base 2 "goes_by" ["arrows", "places"] AM):bG P w K mg base CX0 6 f fd ["web", "rows"] AQ:=by
 refine F.ok cX (λvs H Q E h =>?_) (λcdv A outer s H vs Q E hr h =>?_)
 ·obtain ⟨_,_,_,_,_,rfl,_⟩:=mW.mp h
  rfl
 obtain ⟨r,p,m,ts,ks,rfl,W,ep,R,m2,tl,kl,zl,q⟩:=mW.mp h
 obtain ⟨d,hd⟩:∃d:Bool,∀(K':DM) (H':Hp),aA H H'->SqB K' d H' p (ks.map λk =>.ref k.1):=by
  rcases ep with e | e
  ·exact ⟨true,λK' H' s=>SqL.of (s _ _ e)⟩
  ·exact ⟨false,λK' H' s=>SqT.of (s _ _ e)⟩
 refine ⟨_,(ah (fj (i:=2) ["row"] [none] rfl cX.nd rfl rfl (B7 (pv 1)) rfl (λ_ _ _ _ _=>(aB (i:=0) iA rfl (Or.inl rfl))) (λ_ _ _ _ _=>cA) (λ_ _ _ _ _=>(aL (ku (K:=K)) rfl B.b_tuple bB (aa (aH (cp (K:=K)) (pv 0) ai (λ_ _=>rfl)) ae rfl))))
  (ah (aX (PW.pt (cP (cG (bT (ay cIsRising hr (by decide) rfl (aa (pv 2) ae rfl)))) (cy (cG (bT (ay cArrowsClear hr (by decide) rfl (aa (pv 0) (aa (pv 2) ae rfl) rfl))))))) (aj (aD fN)) aG)
  (ah (cz Fc rfl (uF true d rfl B.b_zip (aa (pv 2) (aa (pv 1) ae rfl) rfl)) (o7 rfl (dk (aB (i:=3) cX.nd rfl (Or.inl rfl)) (dk (aB (i:=4) cX.nd rfl (Or.inl rfl)) kG)))
   (aj (aX (PW.pt (cP (cG (bT (ay cIsFormedRound hr (by decide) rfl (aa (pv 0) (aa (aH aP (pv 4) ai (λ_ _=>rfl)) ae rfl) rfl)))) (cy (ax (pO hr) (ay cGoesBy hr (by decide) rfl (aa (pv 2) (aa (aH aP (pv 4) ai (λ_ _=>rfl)) ae rfl) rfl)) (bI (aa (pv 3) ae rfl)) (aE _))))) (aj (aD fN)) aG)) (λ_=>rfl))
  (aj (aD fN))))),?_⟩
 have lk:(ks.map λk=>V.ref k.1).length=ks.length:=DI _
 refine ⟨_,rfl,p,rfl,vF (xs:=ks.map λk =>.ref k.1) (λi ys H'=>H'=H/\ys=((ks.take i).map (·.2.1)).map λu =>.ref u.1) ep ⟨rfl,rfl⟩ (by rw[lk];exact small (by lia)) (λi ys H' z=>by rw[z.1]) ?_ ?_⟩
 ·rintro i x ys H1 hx hy ⟨eH,rfl⟩ R1 R0 r1 r0
  obtain ⟨k,ek,rfl⟩:=itK hx
  obtain ⟨h1,h2,h3⟩:=R k (DV ek)
  rw[eH]
  refine bO ⟨_,rfl,k.1,_,0,_,rfl,rfl,SqT.of h1,rfl,k.2.1.1,_,rfl,.inr ⟨SqT.of h2,r1 _ _ ⟨rfl,?_⟩⟩⟩
  rw[Ef,ek,DU,DU];rfl
 rintro ys H1 hy ⟨eH,rfl⟩ la hla
 rw[eH] at hla ⊢
 rw[lk,D5 (DS _)]
 obtain ⟨H1,zQ9,s1,ela⟩:=nwZ hla (.lst ((ks.map (·.2.1)).map λu =>.ref u.1))
 rw[zQ9]
 have tN:∀{H':Hp},aA H H'->Tus H' (ks.map (·.2.1)):=λs=>yW (bS R s)
 have lN:(ks.map (·.2.1)).length=ks.length:=DI _
 refine ⟨_,rfl,iz.mpr ⟨la,_,rfl,ela,tN s1,by lia,λb1 H2 s2 hb1=>⟨_,rfl,?_⟩⟩⟩
 cases b1 with
 | false=>exact bO (q false H2 (s1.trans s2) ⟨(λh=>by cases h),λh=>hb1.mpr h.ris⟩)
 | true =>
  have hr1:=hb1.mp rfl
  have s12:=s1.trans s2
  refine cq ⟨_,rfl,_,rfl,gw.mpr ⟨r,la,m,ts,_,rfl,W.same s12,⟨.inr (s2 _ _ ela),tN s12⟩,m2,tl,λH3 G s3 gr st=>⟨_,rfl,?_⟩⟩⟩
  have ci:=ji gr st
  have s13:=s12.trans s3
  by_cases c:Clr m ((rst ts ((ks.map (·.2.1)).map (·.2))).map (·.2))
  ·rw[decide_eq_true (ci.mp c)]
   have el3:=s3 _ _ (s2 _ _ ela)
   refine cq ⟨_,rfl,_,rfl,la,p,rfl,⟨_,SqL.of el3⟩,⟨_,hd _ _ s13⟩,ye (c:=true) (d:=d) (xs:=(ks.map (·.2.1)).map λu =>.ref u.1) (ys:=ks.map λk =>.ref k.1) ks.length (by rw[DI,lN];exact DS _) (by rw[lk];exact DS _) (.inr lk.symm) (λi σ H'=>(∃c3 c4,σ=[some (.ref r),some (.ref p),some (.ref la),c3,c4])/\aA H3 H'/\∀k∈ks.take i,rz (ts.map (·.2)) ((ks.map (·.2.1)).map (·.2)) k) ⟨⟨_,_,rfl⟩,aA.refl _,λk hk=>by simp at hk⟩ (λi σ H' _ k=>⟨SqL.of (k.2.1 _ _ el3),hd _ _ (s13.trans k.2.1)⟩) ?_ ?_⟩
   ·rintro i x y σ H4 T hx hy hT ⟨⟨c3,c4,rfl⟩,s4,hall⟩
    obtain ⟨k,ek,rfl⟩:=itK hy
    have ex:x = .ref k.2.1.1:=by
     rw[JQ,D1,ek] at hx
     exact (EA hx).symm
    subst ex
    have mk:=DV ek
    obtain ⟨H5,zQ9,gT,eT⟩:=nwZ hT (.tup [.ref k.2.1.1,.ref k.1])
    rw[zQ9]
    have s35:=s4.trans gT
    have s15:=s13.trans s35
    obtain ⟨h1,h2,h3⟩:=bS R s15 k mk
    refine ⟨T,_,rfl,SqT.of eT,rfl,_,_,rfl,_,_,rfl,rfl,?_⟩
    refine ⟨_,rfl,_,rfl,k.1,_,1,_,rfl,rfl,SqT.of h1,rfl,jU.mpr ⟨r,k.2.2.1,m,ts,k.2.2.2,rfl,W.same s15,h3,zl k mk,λb6 H6 s6 hb6=>⟨_,rfl,?_⟩⟩⟩
    have no:¬ rz (ts.map (·.2)) ((ks.map (·.2.1)).map (·.2)) k->∀H',aA H H'->Q (.bl false) H':=λh H' s=>q false H' s ⟨(λz=>by cases z),λz=>absurd (z.row k mk) h⟩
    have s16:=s15.trans s6
    cases b6 with
    | false=>exact bO (no (λz=>by have:=hb6.mpr z.1;cases this) _ s16)
    | true =>
     have f6:=hb6.mp rfl
     refine cq ⟨_,rfl,_,rfl,k.1,_,1,_,rfl,rfl,SqT.of (s6 _ _ h1),rfl,mS.mpr ⟨la,k.2.2.1,_,k.2.2.2,rfl,s6 _ _ (s35 _ _ el3),tN s16,s6 _ _ h3,zl k mk,λl7 us H7 s7 e7 t7 eu =>?_⟩⟩
     refine ⟨_,rfl,(by show 1<=D3;decide),λl8 hl8 =>?_⟩
     have g8:=af hl8 (.lst [.ref k.2.1.1])
     have e8:upd H7 l8 (.lst [.ref k.2.1.1]) l8=some (.lst ([k.2.1].map λu =>.ref u.1)):=ag
     generalize upd H7 l8 (.lst [.ref k.2.1.1])=H8 at g8 e8
     have s78:=s7.trans g8
     have s18:=s16.trans s78
     refine ⟨l7,l8,us,[k.2.1],rfl,rfl,g8 _ _ e7,e8,λu hu=>g8 _ _ (t7 u hu),λu hu =>?_,_,rfl,bD (λz=>no (λy =>?_) _ s18) λz =>?_⟩
     ·rw[DW.mp hu]
      exact s78 _ _ (s6 _ _ h2)
     ·rw[eu,y.2] at z
      simp at z
     ·refine ⟨⟨_,_,rfl⟩,s35.trans (s6.trans s78),λk' hk' =>?_⟩
      rw[Ef,ek,D6] at hk'
      rcases hk' with y | y
      ·exact hall k' y
      ·have:k'=k:=by simpa using y
       subst this
       refine ⟨f6,?_⟩
       rw[<- eu]
       apply Ea
       intro n
       exact z (by show (!decide (us.map (·.2)=[k'.2.1.2]))=true;rw[decide_eq_false n];rfl)
   ·rintro σ H4 ⟨⟨c3,c4,rfl⟩,s4,hall⟩
    rw[D5 (DS _)] at hall
    exact q true H4 (s13.trans s4) ⟨λ_=>⟨hr1,c,hall⟩,λ_=>rfl⟩
  ·rw[decide_eq_false (λz=>c (ci.mpr z))]
   exact bO (q false H3 s13 ⟨(λh=>by cases h),λh=>absurd h.clr c⟩)
end
abbrev yX:Sp:=λvs H Q _=>∃(r p:Addr) (m:Nat) (ts:LA) (Z:List Int),vs=[.ref r,.ref p]/\Ow H r (m:Int) ts/\H p=some (.tup (Z.map V.int))/\Z.length<=290/\∀(b:Bool) (H':Hp),aA H H'->(b=true↔Rd (ts.map (·.2)) Z)->Q (.bl b) H'
@[irreducible] def uU:Sp:=yX
theorem jV {vs:List V}{H:Hp}{Q:VK}{E:XK}:uU vs H Q E↔yX vs H Q E:=by
 delta uU
 exact FZ
section
theorem tF:aK ["web", "places"] ["web", "places"] (ak jG):=⟨rfl,rfl,rfl,by decide +kernel,rfl,by decide +kernel,by decide +kernel⟩
theorem fe:(["k", "places", "web"]:List Str).Nodup:=by decide +kernel
theorem tG (F:Fun K "_law_is_round" "_law_is_round" jG f fd)(B:Blt mg):bG P w K mg base CX0 1 f fd ["web", "places"] uU:=by
 refine F.ok tF (λvs H Q E h =>?_) (λcdv A outer s H vs Q E hr h =>?_)
 ·obtain ⟨_,_,_,_,_,rfl,_⟩:=jV.mp h
  rfl
 obtain ⟨r,p,m,ts,Z,rfl,W,ep,l5,q⟩:=jV.mp h
 refine ⟨_,(ah (aX (PW.pt (cP (cG (bT (au dY rfl B.b_isinstance aI (aa (pv 1) (aa (iF (v :=.ty "tuple") rfl B.b_tuple bB rfl) ae rfl) rfl)))) (cP (ax (ux hr) (pv 1) (ba ae) (aE _)) (cy (ax nZ (au kh rfl B.b_len cJ (aa (aL (ij (w:=w) rfl hr.hd) rfl B.b_set pU (aa (pv 1) ae rfl)) ae rfl)) (au aR rfl B.b_len cJ (aa (pv 1) ae rfl)) (aE _)))))) (aj (aD fN)) aG)
  (aj (aD (au (iP rfl) rfl B.b_all pR (aa (bo ["k", "places", "web"] [none,some 1,some 0] rfl (bJ rfl B.b_range (aa (au aR rfl B.b_len cJ (aa (pv 1) ae rfl)) ae rfl)) rfl (λ_ _ _ _ _=>(aB (i:=0) fe rfl (Or.inl rfl))) (λ_ _ _ _ _=>cA) (λ_ _ _ _ _=>(cQ (pH (hu8 hr)) (ba (aa (aH (cp (K:=K)) (pv 1) (aO ly (pv 0) ai) (λ_ _=>rfl)) (aa (aH (cp (K:=K)) (pv 1) (pv 0) (λ_ _=>rfl)) ae rfl) rfl)) (aH (cp (K:=K)) (pv 2) ai (λ_ _=>rfl)) rfl))) ae rfl))))),?_⟩
 have lz:(Z.map V.int).length=Z.length:=DI _
 refine ⟨_,rfl,.ref p, "tuple",_,true,rfl,.tup ep,rfl,_,rfl,cq ?_⟩
 refine ⟨_,rfl,(by show 0<=D3;decide),λt0 ht0 =>?_⟩
 have g0:=af ht0 (.tup [])
 have e0:upd H t0 (.tup []) t0=some (.tup (([]:List Int).map V.int)):=ag
 generalize upd H t0 (.tup [])=H0 at g0 e0
 have ep0:=g0 _ _ ep
 refine ⟨p,t0,Z,[],rfl,rfl,SqT.of ep0,SqT.of e0,_,rfl,bD (λz =>?_) λz =>?_⟩
 ·have z:=of_decide_eq_true z
  exact bO (q false H0 g0 ⟨(λh=>by cases h),λh=>absurd z h.1⟩)
 have ne:Z≠[]:=λe=>z (decide_eq_true e)
 refine ⟨_,rfl,p,Z,rfl,.inr (SqT.of ep0),by lia,λa us ha mu nu lu =>?_⟩
 have ga:=af ha (cZ w a (us.map V.int))
 refine ⟨a,us.map V.int,rfl,ag,by rw[DI];lia,?_⟩
 generalize upd H0 a (cZ w a (us.map V.int))=H1 at ga
 have s1:=g0.trans ga
 have ep1:=ga _ _ ep0
 refine ⟨_,rfl,p,_,rfl,.inr (SqT.of ep1),rfl,_,rfl,?_⟩
 refine bD (λz2 =>?_) λz2 =>?_
 ·refine q false H1 s1 ⟨(λh=>by cases h),λh =>?_⟩
  rw[lz,DI] at z2
  have e:us.length=Z.length:=((Hs nu h.2.1).mpr mu).length_eq
  rw[e] at z2
  simp at z2
 rw[lz,DI] at z2
 have eq:us.length=Z.length:=by
  apply Ea
  intro n
  apply z2
  rw[decide_eq_false (λz=>n (by have:=V.int.inj z;lia))];rfl
 have nd:=jT nu mu eq
 obtain ⟨t,e1,e2⟩:=(W.same s1).at'
 refine ⟨_,rfl,p,_,rfl,.inr (SqT.of ep1),(Z.length:Int),by rw[lz],by lia,by lia,?_⟩
 rw[E1]
 refine du (λi ys H'=>aA H1 H'/\ys=((aT Z i).map λt=>decide (t∈ts.map (·.2))).map V.bl) ⟨aA.refl _,rfl⟩ (small (by lia)) ?_ ?_
 ·rintro i ys H2 hi hy ⟨s2,rfl⟩ R1 R0 r1 r0
  have hi':i<Z.length:=by lia
  have ei:(0+(i:Int))=(i:Int):=by lia
  have ep2:=s2 _ _ ep1
  refine bO ⟨_,rfl,_,rfl,_,_,rfl,rfl,p,_,_,_,rfl,rfl,SqT.of ep2,by rw[ei];exact qd hi',?_⟩
  refine ⟨_,rfl,_,rfl,p,_,_,_,rfl,rfl,SqT.of ep2,(by rw[ei];exact cj (by rw[D1,DL hi'];rfl)),(by show 2<=D3;decide),λc hc =>?_⟩
  have gc:=af hc (.tup [.int (if i=0 then Z.getD (Z.length-1) 0 else Z.getD (i-1) 0),.int Z[i]])
  have s12:=s1.trans (s2.trans gc)
  refine ⟨_,rfl,r,_,1,_,rfl,rfl,SqT.of (gc _ _ (s2 _ _ e1)),rfl,t,c,ts,[if i=0 then Z.getD (Z.length-1) 0 else Z.getD (i-1) 0,Z[i]],rfl,rfl,gc _ _ (s2 _ _ e2),(W.same s12).tup,ag,r1 _ _ ⟨s2.trans gc,?_⟩⟩
  rw[fJ,DU,DU,show Z.getD i 0=Z[i] by rw[DX,DL hi'];rfl];rfl
 ·rintro ys H3 hy ⟨s3,rfl⟩ l2 hl2
  refine ⟨l2,_,rfl,SqL.of ag,q _ _ (s1.trans (s3.trans (af hl2 _))) ?_⟩
  rw[Nr,Gf]
  constructor
  ·intro h
   exact ⟨ne,nd,λt ht=>of_decide_eq_true (h t ht)⟩
  ·intro h t ht
   exact decide_eq_true (h.2.2 t ht)
end
theorem rA {α:Type}[DecidableEq α]{q:α -> Bool}{e:α}:∀{l:List α},l.Nodup->(l.filter q=[e]↔e∈l/\q e=true/\∀x∈l,q x=true->x=e)
 | [],_=>⟨(λh=>by cases h),(λh=>by cases h.1)⟩
 | a :: t,nd=>by
  obtain ⟨na,nt⟩:=Fm.mp nd
  by_cases c:q a=true
  ·rw[FD c]
   constructor
   ·intro h
    obtain ⟨h1,h2⟩:=Np h
    subst h1
    refine ⟨En,c,λx hx qx =>?_⟩
    rcases Eg.mp hx with z | z
    ·exact z
    ·have:x∈t.filter q:=Ga.mpr ⟨z,qx⟩
     rw[h2] at this;cases this
   ·rintro ⟨h1,h2,h3⟩
    have ea:=h3 a En c
    rw[ea]
    congr 1
    rw[List.filter_eq_nil_iff]
    intro x hx qx
    have:=h3 x (Em _ hx) qx
    rw[this, <- ea] at hx
    exact na hx
  ·rw[Fq c,rA nt]
   constructor
   ·rintro ⟨h1,h2,h3⟩
    refine ⟨Em _ h1,h2,λx hx qx =>?_⟩
    rcases Eg.mp hx with z | z
    ·rw[z] at qx;exact absurd qx c
    ·exact h3 x z qx
   ·rintro ⟨h1,h2,h3⟩
    refine ⟨?_,h2,λx hx qx=>h3 x (Em _ hx) qx⟩
    rcases Eg.mp h1 with z | z
    ·rw[z] at h2;exact absurd h2 c
    ·exact z
theorem mZ (Z:List Int):(aT Z Z.length).map (·.getD 1 0)=Z:=by
 unfold aT
 rw[JQ]
 refine ID (by simp) λi h1 h2 =>?_
 rw[Kz,List.getElem_range]
 show Z.getD i 0=_
 rw[DX,DL h2];rfl
theorem m5 {Z:List Int}(nd:Z.Nodup):(aT Z Z.length).Nodup:=by
 have:=mZ Z
 rw[<- this] at nd
 have p:=EN.mp nd
 exact p.imp λ{a b} h e=>h (by rw[e])
theorem wN {Z:List Int}{A:List (List Int)}{e:List Int}(nz:Z.Nodup)(na:A.Nodup):(aT Z Z.length).filter (λt=>decide (t∈A))=[e]↔e∈aT Z Z.length/\A.filter (λt=>decide (t∈aT Z Z.length))=[e]:=by
 rw[rA (m5 nz),rA na]
 constructor
 ·rintro ⟨h1,h2,h3⟩
  exact ⟨h1,of_decide_eq_true h2,decide_eq_true h1,λx hx qx=>h3 x (of_decide_eq_true qx) (decide_eq_true hx)⟩
 ·rintro ⟨h1,h2,h3,h4⟩
  exact ⟨h1,decide_eq_true h2,λx hx qx=>h4 x (of_decide_eq_true qx) (decide_eq_true hx)⟩
theorem yY {us:LA}(h:Ri us):(us.map (·.2)).Nodup:=by
 refine EN.mpr (h.imp λ{a b} z e =>?_)
 rw[e,Srt.lex_irrefl] at z
 cases z
theorem DD {us:LA}(h:Ri us):(us.map (·.2)).Pairwise qz:=by
 refine EN.mpr (h.imp λ{a b} z =>?_)
 show HT.lexLt b.2 a.2=false
 cases c:HT.lexLt b.2 a.2 with
 | false=>rfl
 | true =>
  have:=Srt.lex_trans _ _ _ z c
  rw[Srt.lex_irrefl] at this
  cases this
theorem AR {us out:LA}(mem:∀x,x∈out.map (·.2)↔x∈us.map (·.2))(nd:(out.map (·.2)).Nodup)(so:out.Pairwise λa b=>HT.lexLt b.2 a.2=false):us.map (·.2)=out.map (·.2)↔Ri us:=by
 constructor
 ·intro e
  unfold Ri
  have:=Be so nd
  unfold Ri at this
  rw[<- EN (R:=λa b:List Int=>HT.lexLt a b=true) (f:=λu:Addr×List Int=>u.2)] at this ⊢
  rw[e];exact this
 ·intro h
  exact lM ((Hs (yY h) nd).mpr λx=>(mem x).symm) (DD h) (EN.mpr so)
abbrev Bq:Sp:=λvs H Q _=>∃(r p:Addr) (m:Nat) (ts:LA) (ks:KX),vs=[.ref r,.ref p]/\Ow H r (m:Int) ts/\H p=some (.lst (ks.map λk =>.ref k.1))/\Rws H ks/\m<=40/\ts.length<=250/\ks.length<=290/\(∀k∈ks,k.2.2.2.length<=290/\k.2.1.2≠[])/\∀(b:Bool) (H':Hp),aA H H'->(b=true↔TR m ts ks)->Q (.bl b) H'
@[irreducible] def AS:Sp:=Bq
theorem jl {vs:List V}{H:Hp}{Q:VK}{E:XK}:AS vs H Q E↔Bq vs H Q E:=by
 delta AS
 exact FZ
section
theorem cY:aK ["web", "rows", "arrows", "arrow", "places", "steps"] ["web", "rows"] (ak gq):=⟨rfl,rfl,rfl,by decide +kernel,rfl,by decide +kernel,by decide +kernel⟩
theorem jW:(["row"]:List Str).Nodup:=by decide +kernel
theorem fK:(["arrow", "web"]:List Str).Nodup:=by decide +kernel
theorem dX:(["arrow", "arrows"]:List Str).Nodup:=by decide +kernel
theorem fQ:(["k", "places"]:List Str).Nodup:=by decide +kernel
theorem eJ:(["other", "steps"]:List Str).Nodup:=by decide +kernel
theorem qg (F:Fun K "_law_rows_right" "_law_rows_right" gq f fd)(B:Blt mg)(cLNoRound:Cal P w K mg base 1 "_law_no_round" ["many", "arrows"] AD)(cLIsRound:Cal P w K mg base 1 "_law_is_round" ["web", "places"] uU):bG P w K mg base CX0 2 f fd ["web", "rows"] AS:=by
 refine F.ok cY (λvs H Q E h =>?_) (λcdv A outer s H vs Q E hr h =>?_)
 ·obtain ⟨_,_,_,_,_,rfl,_⟩:=jl.mp h
  rfl
 obtain ⟨r,p,m,ts,ks,rfl,W,ep,R,m2,tl,kl,zl,q⟩:=jl.mp h
 refine ⟨_,(ah (az (i:=2) cY.nd rfl (Or.inr rfl) (bo ["row"] [none] rfl (bC (pv 1)) rfl (λ_ _ _ _ _=>(aB (i:=0) jW rfl (Or.inl rfl))) (λ_ _ _ _ _=>cA) (λ_ _ _ _ _=>(aH (cp (K:=K)) (pv 0) ai (λ_ _=>rfl)))))
  (ah (aX (PW.pt (cP (ax (pO hr) (pv 2) (au (lX (w:=w) rfl hr.hd) rfl B.b_sorted eZ (aa (aL (sr (w:=w) rfl hr.hd hr.units) rfl B.b_set pU (aa (pv 2) ae rfl)) ae rfl)) (aE _)) (cy (bT (au (qT rfl) rfl B.b_any yv (aa (bo ["arrow", "web"] [none,some 0] rfl (bC (pv 2)) rfl (λ_ _ _ _ _=>(aB (i:=0) fK rfl (Or.inl rfl))) (λ_ _ _ _ _=>cA) (λ_ _ _ _ _=>(cQ (ip (hu8 hr)) (pv 0) (aH (cp (K:=K)) (pv 1) ai (λ_ _=>rfl)) rfl))) ae rfl)))))) (aj (aD fN)) aG)
  (ah (aX (cG (bT (ay cLNoRound hr (by decide) rfl (aa (aH aP (pv 0) ai (λ_ _=>rfl)) (aa (bo ["arrow", "arrows"] [none,some 2] rfl (hZ (aH aP (pv 0) ai (λ_ _=>rfl))) rfl (λ_ _ _ _ _=>(aB (i:=0) dX rfl (Or.inl rfl))) (λ_ _ _ _ _=>(eB (ax (fC (hu8 hr)) (pv 0) (pv 1) rfl))) (λ_ _ _ _ _=>(pv 0))) ae rfl) rfl)))) (aj (aD fN)) aG)
  (ah (cz Fc rfl (bC (pv 1)) (o7 rfl (dk (aB (i:=3) cY.nd rfl (Or.inl rfl)) (dk (aB (i:=4) cY.nd rfl (Or.inr rfl)) kG)))
   (ah (aX (PW.pt (cP (cG (bT (ay cLIsRound hr (by decide) rfl (aa (pv 0) (aa (pv 4) ae rfl) rfl)))) (cy (ax nZ (aH aP (pv 4) ai (λ_ _=>rfl)) (au (ml rfl) rfl B.b_min mE (aa (pv 4) ae rfl)) (aE _))))) (aj (aD fN)) aG)
   (ah (az (i:=5) cY.nd rfl (Or.inr rfl) (bo ["k", "places"] [none,some 4] rfl (bJ rfl B.b_range (aa (au aR rfl B.b_len cJ (aa (pv 4) ae rfl)) ae rfl)) rfl (λ_ _ _ _ _=>(aB (i:=0) fQ rfl (Or.inl rfl))) (λ_ _ _ _ _=>cA) (λ_ _ _ _ _=>(ba (aa (aH (cp (K:=K)) (pv 1) (aO ly (pv 0) ai) (λ_ _=>rfl)) (aa (aH (cp (K:=K)) (pv 1) (pv 0) (λ_ _=>rfl)) ae rfl) rfl)))))
   (aj (aX (PW.pt (cP (ax (fC (hu8 hr)) (pv 3) (pv 5) rfl) (cy (ax (pO hr) (bo ["other", "steps"] [none,some 5] rfl (bC (pv 2)) rfl (λ_ _ _ _ _=>(aB (i:=0) eJ rfl (Or.inl rfl))) (λ_ _ _ _ _=>(eB (ax (uS (hu8 hr)) (pv 0) (pv 1) rfl))) (λ_ _ _ _ _=>(pv 0))) (bI (aa (pv 3) ae rfl)) (aE _))))) (aj (aD fN)) aG)))) (λ_=>rfl))
  (aj (aD fN)))))),?_⟩
 have lk:(ks.map λk=>V.ref k.1).length=ks.length:=DI _
 refine ⟨_,rfl,p,rfl,⟨_,SqL.of ep⟩,aW (xs:=ks.map λk =>.ref k.1) (λi ys H'=>H'=H/\ys=((ks.take i).map (·.2.1)).map λu =>.ref u.1) ⟨rfl,rfl⟩ (by rw[lk];exact small (by lia)) (λi ys H' _ z=>by rw[z.1];exact SqL.of ep) ?_ ?_⟩
 ·rintro i x ys H1 hx hy ⟨eH,rfl⟩ R1 R0 r1 r0
  obtain ⟨k,ek,rfl⟩:=itK hx
  obtain ⟨h1,h2,h3⟩:=R k (DV ek)
  rw[eH]
  refine bO ⟨_,rfl,k.1,_,0,_,rfl,rfl,SqT.of h1,rfl,r1 _ _ ⟨rfl,?_⟩⟩
  rw[Ef,ek,DU,DU];rfl
 rintro ys H1 hy ⟨eH,rfl⟩ la hla
 rw[eH] at hla ⊢
 rw[lk,D5 (DS _)]
 obtain ⟨H1,zQ9,s1,ela⟩:=nwZ hla (.lst ((ks.map (·.2.1)).map λu =>.ref u.1))
 rw[zQ9]
 have tN:∀{H':Hp},aA H H'->Tus H' (ks.map (·.2.1)):=λs=>yW (bS R s)
 have lN:(ks.map (·.2.1)).length=ks.length:=DI _
 have ne:∀u∈ks.map (·.2.1),u.2≠[]:=λu hu=>by
  obtain ⟨k,hk,rfl⟩:=DZ.mp hu
  exact (zl k hk).2
 refine ⟨_,rfl,_,rfl,la,_,rfl,.inl (SqL.of ela),λu hu=>SqT.of (tN s1 u hu),by lia,λsx ws hnx mw ndw cov hlw =>?_⟩
 obtain ⟨H2,zQ9,gx,ex⟩:=nwZ hnx (cZ w sx (ws.map λt =>.ref t.1))
 rw[zQ9]
 have s2:=s1.trans gx
 refine ⟨sx,ws,rfl,ex,λu hu=>⟨SqT.of (tN s2 u (mw u hu)),ne u (mw u hu)⟩,by lia,λlo out hlo pm so =>?_⟩
 obtain ⟨H3,zQ9,g3,elo⟩:=nwZ hlo (.lst (out.map λt =>.ref t.1))
 rw[zQ9]
 have s3:=s2.trans g3
 have ela3:=g3 _ _ (gx _ _ ela)
 have hri:(ks.map (·.2.1)).map (·.2)=out.map (·.2)↔Ri (ks.map (·.2.1)):=by
  refine AR (λx =>?_) (((pm.map (·.2)).nodup_iff).mpr ndw) so
  rw[(pm.map (·.2)).mem_iff]
  constructor
  ·intro hx
   obtain ⟨u,hu,rfl⟩:=DZ.mp hx
   exact DZ.mpr ⟨u,mw u hu,rfl⟩
  ·intro hx
   obtain ⟨u,hu,rfl⟩:=DZ.mp hx
   exact cov u hu
 have no:∀{H':Hp},aA H H'->¬ TR m ts ks->Q (.bl false) H':=λs h=>q false _ s ⟨(λz=>by cases z),λz=>absurd z h⟩
 refine ⟨la,lo,_,out,rfl,rfl,ela3,elo,tN s3,λu hu=>tN s3 u (mw u (pm.mem_iff.mp hu)),_,rfl,bD (λz =>?_) λz =>?_⟩
 ·refine bO (no s3 λt =>?_)
  rw[decide_eq_true (hri.mpr t.ris)] at z
  cases z
 have ris:Ri (ks.map (·.2.1)):=by
  refine hri.mp (Ea λn=>z ?_)
  rw[decide_eq_false n];rfl
 have nda:=yY ris
 obtain ⟨t,e1,e2⟩:=(W.same s3).at'
 refine ⟨_,rfl,la,rfl,⟨_,SqL.of ela3⟩,aW (xs:=(ks.map (·.2.1)).map λu =>.ref u.1) (λi ys H'=>H'=H3/\ys=(((ks.map (·.2.1)).take i).map λu => !decide (u.2∈ts.map (·.2))).map V.bl) ⟨rfl,rfl⟩ (by rw[DI,lN];exact small (by lia)) (λi ys H' _ z=>by rw[z.1];exact SqL.of ela3) ?_ ?_⟩
 ·rintro i x ys H4 hx hy ⟨eH,rfl⟩ R1 R0 r1 r0
  obtain ⟨u,hu,rfl⟩:=fO hx
  rw[eH]
  refine bO ⟨_,rfl,_,rfl,r,_,1,_,rfl,rfl,SqT.of e1,rfl,t,u.1,ts,u.2,rfl,rfl,e2,(W.same s3).tup,tN s3 u (DV hu),r1 _ _ ⟨rfl,?_⟩⟩
  rw[Ef,hu,DU,DU];rfl
 rintro ys H4 hy ⟨eH,rfl⟩ l4 hl4
 rw[eH] at hl4 ⊢
 rw[DI,D5 (DS _)]
 have g4:=af hl4 (.lst (((ks.map (·.2.1)).map λu => !decide (u.2∈ts.map (·.2))).map V.bl))
 have el4:upd H3 l4 (.lst (((ks.map (·.2.1)).map λu => !decide (u.2∈ts.map (·.2))).map V.bl)) l4=some (.lst (((ks.map (·.2.1)).map λu => !decide (u.2∈ts.map (·.2))).map V.bl)):=ag
 generalize upd H3 l4 (.lst (((ks.map (·.2.1)).map λu => !decide (u.2∈ts.map (·.2))).map V.bl))=H4 at g4 el4
 have s4:=s3.trans g4
 refine ⟨l4,_,rfl,SqL.of el4,_,rfl,bD (λz =>?_) λz =>?_⟩
 ·refine no s4 λtr =>?_
  rw[List.any_map,Kx] at z
  obtain ⟨u,hu,z⟩:=z
  obtain ⟨k,hk,rfl⟩:=DZ.mp hu
  obtain ⟨⟨rd,_⟩,hf⟩:=tr.row k hk
  have:=((rA (m5 rd.2.1)).mp hf).1
  have:=rd.2.2 _ this
  rw[Function.comp_apply,decide_eq_true this] at z
  cases z
 have e1':=g4 _ _ e1
 have e2':=g4 _ _ e2
 have W4:=W.same s4
 have ela4:=g4 _ _ ela3
 refine ⟨_,rfl,r,_,0,_,rfl,rfl,SqT.of e1',rfl,?_⟩
 refine ⟨_,rfl,r,_,1,_,rfl,rfl,SqT.of e1',rfl,t,rfl,⟨_,SqT.of e2'⟩,gH (xs:=ts.map λu =>.ref u.1) (λi ys H'=>H'=H4/\ys=(rst (ts.take i) ((ks.map (·.2.1)).map (·.2))).map λu =>.ref u.1) ⟨rfl,rfl⟩ (by rw[DI];exact small (by lia)) (λi ys H' _ k=>by rw[k.1];exact SqT.of e2') ?_ ?_⟩
 ·rintro i x ys Hx hx hy ⟨eH,rfl⟩ R1 R0 r1 r0
  obtain ⟨u,hu,rfl⟩:=fO hx
  have mu:=DV hu
  rw[eH]
  refine ⟨_,rfl,_,rfl,la,u.1,_,u.2,rfl,rfl,ela4,tN s4,W4.tup u mu,_,rfl,bD (λz =>?_) λz =>?_⟩
  ·refine ⟨_,rfl,r1 _ _ ⟨rfl,?_⟩⟩
   unfold rst
   rw[Ef,hu,FA,DU]
   rw[show (some u).toList.filter (λu => !decide (u.2∈(ks.map (·.2.1)).map (·.2)))=[u] from FD z]
   rfl
  ·refine r0 _ ⟨rfl,?_⟩
   unfold rst
   rw[Ef,hu,FA,DU]
   rw[show (some u).toList.filter (λu => !decide (u.2∈(ks.map (·.2.1)).map (·.2)))=[] from Fq z]
   exact (E6 _).symm
 rintro ys Hx hy ⟨eH,rfl⟩ lr hlr
 rw[eH] at hlr ⊢
 rw[DI,D5 (DS _)]
 have g5:=af hlr (.lst ((rst ts ((ks.map (·.2.1)).map (·.2))).map λu =>.ref u.1))
 have A5:Ar (upd H4 lr (.lst ((rst ts ((ks.map (·.2.1)).map (·.2))).map λu =>.ref u.1))) lr m (rst ts ((ks.map (·.2.1)).map (·.2))):=⟨ag,λu hu=>g5 _ _ (W4.tup u (bE.mp hu).1),λu hu=>W4.rng u (bE.mp hu).1⟩
 generalize upd H4 lr (.lst ((rst ts ((ks.map (·.2.1)).map (·.2))).map λu =>.ref u.1))=H5 at g5 A5
 refine mL.mpr ⟨lr,m,_,rfl,A5,m2,EI (pX _ _) tl,λcl H6 s6 hcl=>⟨_,rfl,?_⟩⟩
 have hclr:cl=true↔Clr m ((rst ts ((ks.map (·.2.1)).map (·.2))).map (·.2)):=by
  obtain ⟨G,gr,st⟩:=Gr.ex m ((rst ts ((ks.map (·.2.1)).map (·.2))).map (·.2))
  rw[ji gr st]
  exact hcl G gr st
 have s06:=s4.trans (g5.trans s6)
 cases cl with
 | false=>exact bO (no s06 λtr=>by have:=hclr.mpr tr.clr;cases this)
 | true =>
  have clr:=hclr.mp rfl
  have ep6:=s06 _ _ ep
  have ela6:=s6 _ _ (g5 _ _ ela4)
  let W0:Nat->St->Hp->Prop:=λi σ H'=>(∃c3 c4 c5,σ=[some (.ref r),some (.ref p),some (.ref la),c3,c4,c5])/\aA H6 H'/\∀k∈ks.take i,rz (ts.map (·.2)) ((ks.map (·.2.1)).map (·.2)) k
  refine cq ⟨_,rfl,p,rfl,⟨_,SqL.of ep6⟩,iI (xs:=ks.map λk =>.ref k.1) W0 ⟨⟨_,_,_,rfl⟩,aA.refl _,λk hk=>by simp at hk⟩ (λi σ H' _ h=>SqL.of (h.2.1 _ _ ep6)) ?_ ?_⟩
  ·rintro i x σ H7 hx ⟨⟨c3,c4,c5,rfl⟩,s7,hall⟩
   obtain ⟨k,ek,rfl⟩:=itK hx
   have mk:=DV ek
   have s07:=s06.trans s7
   obtain ⟨h1,h2,h3⟩:=bS R s07 k mk
   have lz:=(zl k mk).1
   have bad:∀{H':Hp},aA H H'->¬ rz (ts.map (·.2)) ((ks.map (·.2.1)).map (·.2)) k->Q (.bl false) H':=λs h=>no s λtr=>h (tr.row k mk)
   refine ⟨k.1,_,rfl,SqT.of h1,rfl,_,_,rfl,_,_,rfl,rfl,?_⟩
   refine ⟨_,rfl,_,rfl,jV.mpr ⟨r,k.2.2.1,m,ts,k.2.2.2,rfl,W.same s07,h3,lz,λb8 H8 s8 hb8=>⟨_,rfl,?_⟩⟩⟩
   have s08:=s07.trans s8
   cases b8 with
   | false=>exact bO (bad s08 λz=>by have:=hb8.mpr z.1.1;cases this)
   | true =>
    have rd:=hb8.mp rfl
    obtain ⟨z0,rest,ez⟩:∃z0 rest,k.2.2.2=z0 :: rest:=by
     cases h:k.2.2.2 with
     | nil=>exact absurd h rd.1
     | cons a l=>exact ⟨a,l,rfl⟩
    have h38:=s8 _ _ h3
    refine cq ⟨_,rfl,k.2.2.1,_,0,.int z0,rfl,rfl,SqT.of h38,(by show atI _ ((0:Nat):Int)=_;exact cj (by rw[ez];rfl)),_,rfl,k.2.2.1,_,rfl,SqT.of h38,rd.1,λM hM mM=>⟨rfl,_,rfl,bD (λz =>?_) λz =>?_⟩⟩
    ·refine bad s08 λy =>?_
     obtain ⟨M',e',m'⟩:=y.1.2
     have:z0=M:=by
      have e0:k.2.2.2[0]? = some z0:=by rw[ez];rfl
      have:=m' M hM
      have:=mM M' (DV e')
      rw[e0] at e'
      have:=EA e'
      lia
     rw[this] at z
     simp at z
    have eM:z0=M:=by
     apply Ea
     intro n
     exact z (by simp[n])
    have fm:Fmd (ts.map (·.2)) k.2.2.2:=⟨rd,M,by rw[ez,eM];rfl,mM⟩
    have lzz:(k.2.2.2.map V.int).length=k.2.2.2.length:=DI _
    refine ⟨_,rfl,k.2.2.1,_,rfl,.inr (SqT.of h38),(k.2.2.2.length:Int),by rw[lzz],by lia,by lia,?_⟩
    rw[E1]
    let W1:Nat->List V->Hp->Prop:=λi ys H'=>aA H8 H'/\∃us:LA,ys=us.map (λu =>.ref u.1)/\Tus H' us/\us.map (·.2)=aT k.2.2.2 i
    refine du W1 ⟨aA.refl _,[],rfl,λu hu=>(by cases hu),rfl⟩ (small (by lia)) ?_ ?_
    ·rintro j ys H9 hj hy ⟨s9,us,rfl,tu,eu⟩ R1 R0 r1 r0
     have hj':j<k.2.2.2.length:=by lia
     have ej:(0+(j:Int))=(j:Int):=by lia
     have h39:=s9 _ _ h38
     refine bO ⟨_,rfl,_,rfl,_,_,rfl,rfl,k.2.2.1,_,_,_,rfl,rfl,SqT.of h39,by rw[ej];exact qd hj',?_⟩
     refine ⟨_,rfl,_,rfl,k.2.2.1,_,_,_,rfl,rfl,SqT.of h39,(by rw[ej];exact cj (by rw[D1,DL hj'];rfl)),(by show 2<=D3;decide),λc hc=>r1 _ _ ⟨s9.trans (af hc _),us++[(c,[if j=0 then k.2.2.2.getD (k.2.2.2.length-1) 0 else k.2.2.2.getD (j-1) 0,k.2.2.2[j]])],by rw[DU];rfl,Tus.snoc (tu.same (af hc _)) (u:=(c,[if j=0 then k.2.2.2.getD (k.2.2.2.length-1) 0 else k.2.2.2.getD (j-1) 0,k.2.2.2[j]])) ag,?_⟩⟩
     rw[DU,eu,fJ,show k.2.2.2.getD j 0=k.2.2.2[j] by rw[DX,DL hj'];rfl];rfl
    rintro ys H9 hy ⟨s9,us,rfl,tu,eu⟩ ls hls
    obtain ⟨Ha,zQ9,ga,els⟩:=nwZ hls (.lst (us.map λu =>.ref u.1))
    rw[zQ9]
    have s8a:=s9.trans ga
    have s0a:=s08.trans s8a
    have tua:=tu.same ga
    have bw:=wN (e:=k.2.1.2) rd.2.1 nda
    refine ⟨_,rfl,_,rfl,ls,k.2.1.1,us,k.2.1.2,rfl,rfl,els,tua,s8a _ _ (s8 _ _ h2),_,rfl,bD (λz =>?_) λz =>?_⟩
    ·refine bO (bad s0a λy =>?_)
     rw[eu,decide_eq_true (bw.mp y.2).1] at z
     cases z
    have inS:k.2.1.2∈aT k.2.2.2 k.2.2.2.length:=by
     apply Ea
     intro n
     exact z (by rw[eu,decide_eq_false n];rfl)
    have elaa:=s8a _ _ (s8 _ _ (s7 _ _ ela6))
    refine ⟨_,rfl,la,rfl,⟨_,SqL.of elaa⟩,aW (xs:=(ks.map (·.2.1)).map λu =>.ref u.1) (λi ys H'=>H'=Ha/\ys=(((ks.map (·.2.1)).take i).filter λu=>decide (u.2∈us.map (·.2))).map λu =>.ref u.1) ⟨rfl,rfl⟩ (by rw[DI,lN];exact small (by lia)) (λi ys H' _ z=>by rw[z.1];exact SqL.of elaa) ?_ ?_⟩
    ·rintro j x ys Hb hx hy ⟨eH,rfl⟩ R1 R0 r1 r0
     obtain ⟨u,hu,rfl⟩:=fO hx
     rw[eH]
     refine ⟨_,rfl,_,rfl,ls,u.1,us,u.2,rfl,rfl,els,tua,tN s0a u (DV hu),_,rfl,bD (λz =>?_) λz =>?_⟩
     ·refine ⟨_,rfl,r1 _ _ ⟨rfl,?_⟩⟩
      rw[Ef,hu,FA,DU]
      rw[show (some u).toList.filter (λu=>decide (u.2∈us.map (·.2)))=[u] from FD z]
      rfl
     ·refine r0 _ ⟨rfl,?_⟩
      rw[Ef,hu,FA,DU]
      rw[show (some u).toList.filter (λu=>decide (u.2∈us.map (·.2)))=[] from Fq z]
      exact (E6 _).symm
    rintro ys Hb hy ⟨eH,rfl⟩ lb hlb
    rw[eH] at hlb ⊢
    rw[DI,D5 (DS _)]
    generalize hN:(ks.map (·.2.1)).filter (λu=>decide (u.2∈us.map (·.2)))=N
    have eN:N.map (·.2)=((ks.map (·.2.1)).map (·.2)).filter λt=>decide (t∈aT k.2.2.2 k.2.2.2.length):=by
     rw[<- hN, <- eu]
     generalize ks.map (·.2.1)=M
     rw[MU];rfl
    have sN:∀u∈N,u∈ks.map (·.2.1):=λu hu=>by rw[<- hN] at hu;exact (Ga.mp hu).1
    obtain ⟨Hc,zQ9,gb,elb⟩:=nwZ hlb (.lst (N.map λu =>.ref u.1))
    rw[zQ9]
    refine ⟨_,rfl,(by show 1<=D3;decide),λlc hlc =>?_⟩
    have gc:=af hlc (.lst [.ref k.2.1.1])
    have elc:upd Hc lc (.lst [.ref k.2.1.1]) lc=some (.lst ([k.2.1].map λu =>.ref u.1)):=ag
    generalize upd Hc lc (.lst [.ref k.2.1.1])=Hd at gc elc
    have sbc:=gb.trans gc
    have s0d:=s0a.trans sbc
    refine ⟨lb,lc,N,[k.2.1],rfl,rfl,gc _ _ elb,elc,λu hu=>tN s0d u (sN u hu),λu hu =>?_,_,rfl,bD (λz=>bad s0d λy =>?_) λz =>?_⟩
    ·rw[DW.mp hu]
     exact sbc _ _ (s8a _ _ (s8 _ _ h2))
    ·have:N.map (·.2)=[k.2.1].map (·.2):=by rw[eN];exact (bw.mp y.2).2
     rw[decide_eq_true this] at z
     cases z
    ·refine ⟨⟨_,_,_,rfl⟩,s7.trans (s8.trans (s8a.trans sbc)),λk' hk' =>?_⟩
     rw[Ef,ek,D6] at hk'
     rcases hk' with y | y
     ·exact hall k' y
     ·have:k'=k:=by simpa using y
      subst this
      refine ⟨fm,bw.mpr ⟨inS,?_⟩⟩
      rw[<- eN]
      apply Ea
      intro n
      exact z (by show (!decide (N.map (·.2)=[k'.2.1.2]))=true;rw[decide_eq_false n];rfl)
  ·rintro σ H7 ⟨⟨c3,c4,c5,rfl⟩,s7,hall⟩
   rw[DI,D5 (DS _)] at hall
   exact q true H7 (s06.trans s7) ⟨λ_=>⟨ris,clr,hall⟩,λ_=>rfl⟩
end
theorem cO {Z:List Int}{t:List Int}:t∈aT Z Z.length↔∃i,i<Z.length/\t=[Z.getD (if i=0 then Z.length-1 else i-1) 0,Z.getD i 0]:=by
 unfold aT
 rw[DZ]
 constructor
 ·rintro ⟨i,hi,rfl⟩
  refine ⟨i,E9.mp hi,?_⟩
  split <;> rfl
 ·rintro ⟨i,hi,rfl⟩
  refine ⟨i,E9.mpr hi,?_⟩
  split <;> rfl
theorem AU (Z:List Int){k:Nat}(h:k<=Z.length):(rot Z k).length=Z.length:=by
 unfold rot
 rw[DT,Ez,EF];lia
theorem uV {Z:List Int}{k i:Nat}(h:k<Z.length)(hi:i<Z.length):(rot Z k).getD i 0=Z.getD (if i+k<Z.length then i+k else i+k-Z.length) 0:=by
 unfold rot
 rw[DX,DX]
 by_cases c:i+k<Z.length
 ·rw[if_pos c,EH (by rw[Ez];lia),FK,Nat.add_comm]
 ·rw[if_neg c,EY (by rw[Ez];lia),Ez,HG (by lia)]
  congr 2
  lia
theorem oT {Z:List Int}{k:Nat}(h:k<Z.length){t:List Int}:t∈aT (rot Z k) (rot Z k).length↔t∈aT Z Z.length:=by
 have rl:=AU Z (FN h)
 rw[cO,cO,rl]
 have go:∀i,i<Z.length->∀j,j=(if i+k<Z.length then i+k else i+k-Z.length)->[(rot Z k).getD (if i=0 then Z.length-1 else i-1) 0,(rot Z k).getD i 0]=[Z.getD (if j=0 then Z.length-1 else j-1) 0,Z.getD j 0]:=λi hi j ej=>by
  rw[uV h hi,uV h (by split <;> lia), <- ej]
  congr 2
  subst ej
  (repeat' split) <;> lia
 constructor
 ·rintro ⟨i,hi,e⟩
  refine ⟨if i+k<Z.length then i+k else i+k-Z.length,by split <;> lia,?_⟩
  rw[e]
  exact go i hi _ rfl
 ·rintro ⟨j,hj,e⟩
  refine ⟨if k<=j then j-k else j+Z.length-k,by split <;> lia,?_⟩
  rw[e]
  refine (go _ (by split <;> lia) j ?_).symm
  (repeat' split) <;> lia
theorem uW (Z:List Int)(k:Nat):(rot Z k).Perm Z:=by
 unfold rot
 exact Hw.trans (by rw[FP])
theorem DE {m:Nat}{E:List (List Int)}(O:Ok m E){a b:Int}(hab:[a,b]∈E){Z:List Int}(al:Al E a b Z):Rd E Z/\[a,b]∈aT Z Z.length:=by
 rcases al with ⟨e,rfl⟩ | ⟨ne,hba,rfl⟩ | ⟨ne,hba,N,w⟩
 ·subst e
  refine ⟨⟨by simp,by simp,λt ht =>?_⟩,cO.mpr ⟨0,by simp,rfl⟩⟩
  obtain ⟨i,hi,rfl⟩:=cO.mp ht
  have:i=0:=by simpa using hi
  subst this
  exact hab
 ·refine ⟨⟨by simp,by simp[ne],λt ht =>?_⟩,cO.mpr ⟨1,by simp,rfl⟩⟩
  obtain ⟨i,hi,rfl⟩:=cO.mp ht
  have hi:i<2:=hi
  rcases (show i=0\/i=1 by lia) with rfl | rfl
  ·exact hba
  ·exact hab
 ·have l:=w.2
  have nz:Z≠[]:=λe=>by rw[e] at l;cases l
  have la:=w.last
  have hd:=w.1.hd
  have s0:[Z.getD (Z.length-1) 0,Z.getD 0 0]=[a,b]:=by
   rw[DX,DX,hd,show Z.length-1=N by lia,la];rfl
  refine ⟨⟨nz,w.1.inj,λt ht =>?_⟩,cO.mpr ⟨0,by lia,by rw[if_pos rfl];exact s0.symm⟩⟩
  obtain ⟨i,hi,rfl⟩:=cO.mp ht
  cases i with
  | zero=>rw[if_pos rfl,s0];exact hab
  | succ i =>
   rw[if_neg (by lia),show i+1-1=i by lia]
   have e1:Z[i]? = some Z[i]:=DL (by lia)
   have e2:Z[i+1]? = some Z[i+1]:=DL hi
   have:=w.1.ch i _ _ e1 e2
   rw[DX,DX,e1,e2]
   exact (kP O).mp this.1
theorem wO {H:Hp}{r:Addr}{m:Nat}{ts ss:LA}{ks:KX}(W:Ow H r (m:Int) ts)(ri:Ri ts)(sub:ss.Sublist ts)(T:Trw H m ts ss ks):TR m ts ks:=by
 refine ⟨ri.sublist (T.sub.trans sub),T.clr,λk hk =>?_⟩
 obtain ⟨_,_,a,b,Z,M,e1,e2,hM,mM,al,_⟩:=T.row k hk
 have hu:k.2.1∈ks.map (·.2.1):=DZ.mpr ⟨k,hk,rfl⟩
 have ht:k.2.1∈ts:=sub.subset (T.sub.subset hu)
 have OE:Ok m ((rst ts ((oth (ks.map (·.2.1)) k.2.1.2).map (·.2))).map (·.2)):=λt ht=>by
  obtain ⟨u,hu,rfl⟩:=DZ.mp ht
  exact W.rng u (bE.mp hu).1
 have hab:[a,b]∈(rst ts ((oth (ks.map (·.2.1)) k.2.1.2).map (·.2))).map (·.2):=by
  rw[<- e1]
  refine DZ.mpr ⟨k.2.1,bE.mpr ⟨ht,λh =>?_⟩,rfl⟩
  obtain ⟨v,hv,e⟩:=DZ.mp h
  exact (dj.mp hv).2 e
 obtain ⟨rd,hs⟩:=DE OE hab al
 have hk':=GK.mpr hM
 have ndR:(rot Z (Z.idxOf M)).Nodup:=((uW Z _).nodup_iff).mpr rd.2.1
 have sE:∀t∈aT k.2.2.2 k.2.2.2.length,t∈(rst ts ((oth (ks.map (·.2.1)) k.2.1.2).map (·.2))).map (·.2):=λt ht=>by
  rw[e2] at ht
  exact rd.2.2 t ((oT hk').mp ht)
 have h0:k.2.2.2[0]? = some M:=by
  rw[e2]
  unfold rot
  rw[EH (by rw[Ez];omega),FK,K1,DL hk',Jc hk']
 refine ⟨⟨⟨(λe=>by rw[e] at h0;cases h0),(by rw[e2];exact ndR),λt ht =>?_⟩,M,h0,λv hv =>?_⟩,?_⟩
 ·obtain ⟨u,hu,rfl⟩:=DZ.mp (sE t ht)
  exact DZ.mpr ⟨u,(bE.mp hu).1,rfl⟩
 ·rw[e2] at hv
  exact mM v ((uW Z _).mem_iff.mp hv)
 ·rw[rA (m5 (by rw[e2];exact ndR))]
  refine ⟨?_,decide_eq_true (DZ.mpr ⟨_,hu,rfl⟩),λx hx qx =>?_⟩
  ·rw[e1,e2];exact (oT hk').mpr hs
  ·obtain ⟨u,hu',e⟩:=DZ.mp (sE x hx)
   have h2:=(bE.mp hu').2
   apply Ea
   intro n
   obtain ⟨v,hv,ev⟩:=DZ.mp (of_decide_eq_true qx)
   exact h2 (DZ.mpr ⟨v,dj.mpr ⟨hv,by rw[ev];exact n⟩,by rw[ev,e]⟩)
def Rk (c:Nat)(ks:KX):Prop:=∀k∈ks,k.2.2.2.length<=c/\k.2.1.2≠[]
theorem oU {p:Addr}{H H':Hp}{ks:KX}(h:Rws H ks)(u:Bu 2 p H H')(hp:Pt 2 H p):Rws H' ks:=λk hk=>by
 obtain ⟨h1,h2,h3⟩:=h k hk
 exact ⟨u.tup hp h1,u.tup hp h2,u.tup hp h3⟩
theorem AV (ks:KX){n:Nat}(h:n<=ks.length):eQ (ks.map λk=>V.ref k.1) none (some (n:Int))=(ks.take n).map λk=>V.ref k.1:=by
 rw[yM _ (by rw[DI];exact h),IZ]
theorem cutD (ks:KX){n:Nat}(h:n<=ks.length):eQ (ks.map λk=>V.ref k.1) (some (n:Int)) none=(ks.drop n).map λk=>V.ref k.1:=by
 rw[yN _ (by rw[DI];exact h),HX]
theorem Br (ks:KX){n:Nat}(h:n<ks.length):eQ (ks.map λk=>V.ref k.1) (some ((n:Int)+1)) none=(ks.drop (n+1)).map λk=>V.ref k.1:=cutD ks (n:=n+1) h
theorem iB {H:Hp}{as bs:KX}(h:Rws H as)(h':Rws H bs):Rws H (as++bs):=λk hk=>(D6.mp hk).elim (h k) (h' k)
theorem ng {c:Nat}{as bs:KX}(h:Rk c as)(h':Rk c bs):Rk c (as++bs):=λk hk=>(D6.mp hk).elim (h k) (h' k)
theorem kR {H:Hp}{as:KX}(n:Nat)(h:Rws H as):Rws H (as.take n):=λk hk=>h k (Gy hk)
theorem jm {H:Hp}{as:KX}(n:Nat)(h:Rws H as):Rws H (as.drop n):=λk hk=>h k (FY hk)
theorem qh {c:Nat}{as:KX}(n:Nat)(h:Rk c as):Rk c (as.take n):=λk hk=>h k (Gy hk)
theorem qi {c:Nat}{as:KX}(n:Nat)(h:Rk c as):Rk c (as.drop n):=λk hk=>h k (FY hk)
theorem nV {i j:Int}{A B:Prop}{_:Decidable (V.int i=V.int j)}(h:i≠j)(hB:B):if decide (V.int i=V.int j)=true then A else B:=by
 rw[if_neg (λz=>h (V.int.inj (of_decide_eq_true z)))];exact hB
theorem gB (Z:List Int)(lo hi:Option Int):∃Z':List Int,eQ (Z.map V.int) lo hi=Z'.map V.int/\Z'.length<=Z.length:=by
 unfold eQ
 refine ⟨(Z.drop (HT.sIx (Z.map V.int).length 0 lo)).take (HT.sIx (Z.map V.int).length (Z.map V.int).length hi-HT.sIx (Z.map V.int).length 0 lo),?_,?_⟩
 ·rw[IZ,HX]
 ·rw[EF,Ez];lia
theorem yZ (ks:KX)(n:Nat):(ks.take n).length<=ks.length:=by rw[EF];lia
theorem y6 (ks:KX)(n:Nat):(ks.drop n).length<=ks.length:=by rw[Ez];omega
abbrev Bs:Sp:=λvs H Q _=>∃(p b l:Addr) (m:Nat) (ts:LA) (ks:KX),vs=[.ref p,.ref b,.ref l]/\Pt 2 H p/\l≠p/\Ow H b (m:Int) ts/\m<=40/\ts.length<=200/\H l=some (.lst (ks.map λk =>.ref k.1))/\Rws H ks/\ks.length<=200/\(ks≠[]->ts≠[])/\(∀k∈ks,k.2.2.2≠[]/\k.2.2.2.length<=40/\∃x y:Int,k.2.1.2=[x,y])/\∀(l':Addr) (H':Hp) (ks':KX),Bu 2 p H H'->H' l'=some (.lst (ks'.map λk =>.ref k.1))->Rws H' ks'->ks'.length<=290->Rk 290 ks'->Q (.ref l') H'
@[irreducible] def AW:Sp:=Bs
theorem ni {vs:List V}{H:Hp}{Q:VK}{E:XK}:AW vs H Q E↔Bs vs H Q E:=by
 delta AW
 exact FZ
section
theorem bF:aK ["pot", "web", "rows", "way", "at", "arrow", "places", "more", "others", "spot"] ["pot", "web", "rows"] (ak gs):=⟨rfl,rfl,rfl,by decide +kernel,rfl,by decide +kernel,by decide +kernel⟩
theorem fL:(["place", "places"]:List Str).Nodup:=by decide +kernel
theorem wQ (F:Fun K "_law_spoilt" "_law_spoilt" gs f fd)(B:Blt mg)(cLPick:Cal P w K mg base 1 "_law_pick" ["pot", "many"] iw):bG P w K mg base CX0 2 f fd ["pot", "web", "rows"] AW:=by
 refine F.ok bF (λvs H Q E h =>?_) (λcdv A outer s H vs Q E hr h =>?_)
 ·obtain ⟨_,_,_,_,_,_,rfl,_⟩:=ni.mp h
  rfl
 obtain ⟨p,b,l,m,ts,ks,rfl,hp,lp,W,m4,tl,el,R,kl,nt,fc,q⟩:=ni.mp h
 have rk:Rk 290 ks:=λk hk=>⟨by have:=(fc k hk).2.1;lia,by obtain ⟨x,y,e⟩:=(fc k hk).2.2;rw[e];intro z;cases z⟩
 have lk:(ks.map λk=>V.ref k.1).length=ks.length:=DI _
 obtain ⟨tTL,pTL,mTL⟩:∃t2,PSs (kj CX0 P w K mg base ["pot", "web", "rows", "way", "at", "arrow", "places", "more", "others", "spot"] "_law_spoilt" (ak gs) f cdv A outer s H E).nox ((ck gs).drop 13) t2/\∀(D:Ends) (n:Nat) (k:Addr×(Addr×List Int)×Addr×List Int),D.rt=Q->ks[n]? = some k->∀σ H',(∃(c7 c8 c9:Option V) (wy:Int) (pl:Addr) (Zs:List Int),σ=[some (.ref p),some (.ref b),some (.ref l),some (.int wy),some (.int (n:Int)),some (.ref k.2.1.1),some (.ref pl),c7,c8,c9]/\Bu 2 p H H'/\H' pl=some (.tup (Zs.map V.int))/\Zs.length<=280)->t2 D σ H':=by
  refine ⟨_,(aj (aD (aO fq (aO fq (bz cR (pv 2) bL (bM (pv 4))) (bI (aa (ba (aa (pv 5) (aa (pv 6) ae rfl) rfl)) ae rfl))) (bz cR (pv 2) (bM (aO dA (pv 4) ai)) bL)))),?_⟩
  intro D n k eD ek
  subst eD
  have hn:=(DQ.mp ek).1
  have mk:=DV ek
  rintro σ H1 ⟨c7,c8,c9,wy,pl,Zs,rfl,u1,epl,lZ⟩
  have el:=u1.st _ _ lp el
  have R:=oU R u1 hp
  refine ⟨_,rfl,_,rfl,_,rfl,l,_,rfl,SqL.of el,λp1 hp1 =>?_⟩
  rw[AV ks (FN hn)]
  obtain ⟨H2,zQ9,g1,e1⟩:=nwZ hp1 (.lst ((ks.take n).map λk=>V.ref k.1))
  rw[zQ9]
  refine ⟨_,rfl,_,rfl,(by show 2<=D3;decide),λtp htp =>?_⟩
  obtain ⟨H3,zQ9,g2,e2⟩:=nwZ htp (.tup [.ref k.2.1.1,.ref pl])
  rw[zQ9]
  refine ⟨(by show 1<=D3;decide),λp2 hp2 =>?_⟩
  obtain ⟨H4,zQ9,g3,e3⟩:=nwZ hp2 (.lst [.ref tp])
  rw[zQ9]
  refine ⟨p1,p2,_,_,rfl,rfl,SqL.of (g3 _ _ (g2 _ _ e1)),SqL.of e3,(by rw[DI];have:=yZ ks n;exact small (by show _+1<=_;lia)),λp3 hp3 =>?_⟩
  rw[show (ks.take n).map (λk=>V.ref k.1)++[V.ref tp]=((ks.take n)++[(tp,k.2.1,pl,Zs)]).map λk=>V.ref k.1 by rw[DU];rfl]
  obtain ⟨H5,zQ9,g4,e4⟩:=nwZ hp3 (.lst (((ks.take n)++[(tp,k.2.1,pl,Zs)]).map λk=>V.ref k.1))
  rw[zQ9]
  have s15:=g1.trans (g2.trans (g3.trans g4))
  refine ⟨_,rfl,_,rfl,_,_,rfl,rfl,_,rfl,l,_,rfl,SqL.of (s15 _ _ el),λp4 hp4 =>?_⟩
  rw[Br ks hn]
  obtain ⟨H6,zQ9,g5,e5⟩:=nwZ hp4 (.lst ((ks.drop (n+1)).map λk=>V.ref k.1))
  rw[zQ9]
  refine ⟨p3,p4,_,_,rfl,rfl,SqL.of (g5 _ _ e4),SqL.of e5,(by rw[DI,DI,DT];have:=yZ ks n;have:=y6 ks (n+1);exact small (by show _+1+_<=_;lia)),λp5 hp5 =>?_⟩
  rw[<- DU]
  have g6:=af hp5 (.lst (((ks.take n++[(tp,k.2.1,pl,Zs)])++ks.drop (n+1)).map λk=>V.ref k.1))
  have s26:=g3.trans (g4.trans (g5.trans g6))
  have s16:=g1.trans (g2.trans s26)
  have RS:=bS R s16
  have new:Rws (upd H6 p5 (.lst (((ks.take n++[(tp,k.2.1,pl,Zs)])++ks.drop (n+1)).map λk=>V.ref k.1))) [(tp,k.2.1,pl,Zs)]:=λk' hk'=>by
   rw[DW.mp hk']
   exact ⟨s26 _ _ e2,(RS k mk).2.1,s16 _ _ epl⟩
  have newK:Rk 290 [(tp,k.2.1,pl,Zs)]:=λk' hk'=>by
   rw[DW.mp hk']
   exact ⟨by show Zs.length<=290;lia,(rk k mk).2⟩
  refine q p5 _ _ (u1.same s16) ag (iB (iB (kR n RS) new) (jm (n+1) RS)) ?_ (ng (ng (qh n rk) newK) (qi (n+1) rk))
  rw[DT,DT,EF,Ez];show _+1+_<=_;lia
 refine ⟨_,(ah (az (i:=3) bF.nd rfl (Or.inl rfl) (ay cLPick hr (by decide) rfl (aa (pv 0) (aa ai ae rfl) rfl)))
  (ah (aX (PW.pt (cP (ax (Cm hr) (pv 2) (bI ae) (aE _)) (cy (ax cK (pv 3) ai (aE _))))) (aj (aD (pv 2))) aG)
  (ah (az (i:=4) bF.nd rfl (Or.inl rfl) (ay cLPick hr (by decide) rfl (aa (pv 0) (aa (au aR rfl B.b_len cJ (aa (pv 2) ae rfl)) ae rfl) rfl)))
  (ah (rF (aH bR (pv 2) (pv 4) (λ_ _=>rfl)) (o7 rfl (dk (aB (i:=5) bF.nd rfl (Or.inl rfl)) (dk (aB (i:=6) bF.nd rfl (Or.inr rfl)) kG))) rfl rfl rfl)
  (ah (aX (ax cK (pv 3) ai (aE _)) (aj (aD (aO fq (bz cR (pv 2) bL (bM (pv 4))) (bz cR (pv 2) (bM (aO dA (pv 4) ai)) bL)))) aG)
  (ah (aX (ax cK (pv 3) ai (aE _)) (aj (aD (aO fq (aO fq (bz cR (pv 2) bL (bM (pv 4))) (bI (aa (aH bR (pv 2) (pv 4) (λ_ _=>rfl)) ae rfl))) (bz cR (pv 2) (bM (pv 4)) bL)))) aG)
  (ah (aX (ax cK (pv 3) ai (aE _)) (aj (aD (aO fq (bz cR (pv 2) (bM (pv 4)) bL) (bz cR (pv 2) bL (bM (pv 4)))))) aG)
  (ah (aX (ax cK (pv 3) ai (aE _)) (ah (az (i:=7) bF.nd rfl (Or.inl rfl) (aH aP (ba (aa (aH aP (aH aP (pv 1) ai (λ_ _=>rfl)) (ay cLPick hr (by decide) rfl (aa (pv 0) (aa (au aR rfl B.b_len cJ (aa (aH aP (pv 1) ai (λ_ _=>rfl)) ae rfl)) ae rfl) rfl)) (λ_ _=>rfl)) (aa (ba (aa ai (aa ai ae rfl) rfl)) ae rfl) rfl)) (aO tJ (ay cLPick hr (by decide) rfl (aa (pv 0) (aa ai ae rfl) rfl)) ai) (λ_ _=>rfl)))
   (aj (aD (au (pN (hu8 hr)) rfl B.b_sorted eZ (aa (aO fq (pv 2) (bI (aa (ba (aa (pv 7) (aa (pv 6) ae rfl) rfl)) ae rfl))) ae rfl))))) aG)
  (ah (aX (ax cK (pv 3) ai (aE _)) (aj (az (i:=6) bF.nd rfl (Or.inr rfl) (aO i6 (bz gP (pv 6) (bM ai) bL) (bz gP (pv 6) bL (bM ai))))) aG)
  (ah (aX (ax cK (pv 3) ai (aE _)) (aj (az (i:=6) bF.nd rfl (Or.inr rfl) (aH aP (ba (aa (aH aP (aH bR (pv 2) (ay cLPick hr (by decide) rfl (aa (pv 0) (aa (au aR rfl B.b_len cJ (aa (pv 2) ae rfl)) ae rfl) rfl)) (λ_ _=>rfl)) ai (λ_ _=>rfl)) (aa (ba ae) (aa (ba (aa ai (aa ai ae rfl) rfl)) (aa (ba (aa ai ae rfl)) (aa (ba (aa (CP BI ai) (aa ai ae rfl) rfl)) ae rfl) rfl) rfl) rfl) rfl)) (ay cLPick hr (by decide) rfl (aa (pv 0) (aa ai ae rfl) rfl)) (λ_ _=>rfl)))) aG)
  (ah (aX (ax cK (pv 3) ai (aE _)) (aj (az (i:=6) bF.nd rfl (Or.inr rfl) (wg hr.hd rfl B.b_tuple rfl B.b_reversed (pv 6)))) aG)
  (ah (aX (ax cK (pv 3) ai (aE _)) (ah (fj (i:=8) ["place", "places"] [none,some 6] rfl bF.nd rfl rfl (bJ rfl B.b_range (aa (aH aP (pv 1) ai (λ_ _=>rfl)) ae rfl)) rfl (λ_ _ _ _ _=>(aB (i:=0) fL rfl (Or.inl rfl))) (λ_ _ _ _ _=>(eB (ax (vq (K:=K)) (pv 0) (pv 1) rfl))) (λ_ _ _ _ _=>(pv 0)))
   (ah (az (i:=9) bF.nd rfl (Or.inl rfl) (aO dA ai (ay cLPick hr (by decide) rfl (aa (pv 0) (aa (au aR rfl B.b_len cJ (aa (pv 6) ae rfl)) ae rfl) rfl))))
   (aj (az (i:=6) bF.nd rfl (Or.inr rfl) (aO i6 (aO i6 (bz gP (pv 6) bL (bM (pv 9))) (aL aN rfl B.b_tuple bB (aa (bz cR (pv 8) bL (bM (aO dA ai (ay cLPick hr (by decide) rfl (aa (pv 0) (aa ai ae rfl) rfl))))) ae rfl))) (bz gP (pv 6) (bM (pv 9)) bL)))))) aG)
  (ah (aX (ax cK (pv 3) ai (aE _)) (aj (az (i:=6) bF.nd rfl (Or.inr rfl) (aL aN rfl B.b_tuple bB (aa (au (lV (w:=w) rfl hr.hd) rfl B.b_sorted eZ (aa (aL (ij (w:=w) rfl hr.hd) rfl B.b_set pU (aa (pv 5) ae rfl)) ae rfl)) ae rfl)))) aG)
  pTL))))))))))))),?_⟩
 refine ⟨_,rfl,aF.mpr ⟨p,10,rfl,hp,by decide,aQ (by decide) (by decide),λwy H1 w0 w10 u1 =>?_⟩⟩
 refine ⟨_,rfl,(by show 0<=D3;decide),λt0 ht0 =>?_⟩
 obtain ⟨H2,zQ9,g0,e0⟩:=nwZ ht0 (.lst [])
 rw[zQ9]
 have u2:=u1.same g0
 have el2:=u2.st _ _ lp el
 have home:Q (.ref l) H2:=q l H2 ks u2 el2 (oU R u2 hp) (by lia) rk
 by_cases ke:ks=[]
 ·refine ⟨l,t0,_,_,rfl,rfl,SqL.of el2,SqL.of e0,.inr ⟨?_,_,rfl,bO (bO ⟨_,rfl,home⟩)⟩⟩
  rw[ke];exact .nil
 refine ⟨l,t0,_,_,rfl,rfl,SqL.of el2,SqL.of e0,.inl ⟨?_,_,rfl,cq ⟨_,rfl,rfl,_,rfl,bD (λz=>⟨_,rfl,home⟩) λzw =>?_⟩⟩⟩
 ·intro e
  rw[lk] at e
  exact ke (GQ e)
 have kp:0<ks.length:=G3.mpr ke
 refine ⟨_,rfl,_,rfl,l,_,rfl,.inl (SqL.of el2),aF.mpr ⟨p,(ks.length:Int),by rw[lk];rfl,u2.pot,by lia,aQ (by lia) (by lia),λn' H3 n0 n1 u3' =>?_⟩⟩
 obtain ⟨n,rfl⟩:∃n:Nat,n'=n:=⟨n'.toNat,by lia⟩
 have hn:n<ks.length:=by lia
 have u3:=u2.trans u3'
 have el3:=u3.st _ _ lp el
 obtain ⟨k,ek⟩:∃k,ks[n]? = some k:=⟨_,DL hn⟩
 have mk:=DV ek
 have R3:=oU R u3 hp
 obtain ⟨h1,h2,h3⟩:=R3 k mk
 obtain ⟨nz,l40,x,y,exy⟩:=fc k mk
 refine ⟨_,rfl,_,rfl,l,_,_,_,rfl,rfl,SqL.of el3,cj (by rw[D1,ek];rfl),?_⟩
 refine ⟨k.1,_,rfl,SqT.of h1,rfl,_,_,rfl,_,_,rfl,rfl,?_⟩
 have RS:∀{H':Hp},aA H3 H'->Rws H' ks:=λs=>bS R3 s
 have leK:=yZ ks n
 have leD:=y6 ks (n+1)
 have leD0:=y6 ks n
 refine ⟨_,rfl,rfl,_,rfl,bD (λz =>?_) λz1 =>?_⟩
 ·refine ⟨_,rfl,_,rfl,_,rfl,l,_,rfl,SqL.of el3,λp1 hp1 =>?_⟩
  rw[AV ks (FN hn)]
  obtain ⟨H4,zQ9,g1,e1⟩:=nwZ hp1 (.lst ((ks.take n).map λk=>V.ref k.1))
  rw[zQ9]
  refine ⟨_,rfl,_,rfl,_,_,rfl,rfl,_,rfl,l,_,rfl,SqL.of (g1 _ _ el3),λp2 hp2 =>?_⟩
  rw[Br ks hn]
  obtain ⟨H5,zQ9,g2,e2⟩:=nwZ hp2 (.lst ((ks.drop (n+1)).map λk=>V.ref k.1))
  rw[zQ9]
  refine ⟨p1,p2,_,_,rfl,rfl,SqL.of (g2 _ _ e1),SqL.of e2,(by rw[DI,DI];exact small (by lia)),λp3 hp3 =>?_⟩
  rw[<- DU]
  have g3:=af hp3 (.lst ((ks.take n++ks.drop (n+1)).map λk=>V.ref k.1))
  have s:=g1.trans (g2.trans g3)
  exact q p3 _ _ (u3.same s) ag (iB (kR n (RS s)) (jm (n+1) (RS s))) (by rw[DT,EF,Ez];lia) (ng (qh n rk) (qi (n+1) rk))
 refine ⟨_,rfl,rfl,_,rfl,bD (λz =>?_) λz2 =>?_⟩
 ·refine ⟨_,rfl,_,rfl,_,rfl,l,_,rfl,SqL.of el3,λp1 hp1 =>?_⟩
  rw[AV ks (FN hn)]
  obtain ⟨H4,zQ9,g1,e1⟩:=nwZ hp1 (.lst ((ks.take n).map λk=>V.ref k.1))
  rw[zQ9]
  refine ⟨_,rfl,_,rfl,l,_,_,_,rfl,rfl,SqL.of (g1 _ _ el3),cj (by rw[D1,ek];rfl),(by show 1<=D3;decide),λp2 hp2 =>?_⟩
  obtain ⟨H5,zQ9,g2,e2⟩:=nwZ hp2 (.lst [V.ref k.1])
  rw[zQ9]
  refine ⟨p1,p2,_,_,rfl,rfl,SqL.of (g2 _ _ e1),SqL.of e2,(by rw[DI];exact small (by show _+1<=_;lia)),λp3 hp3 =>?_⟩
  rw[show (ks.take n).map (λk=>V.ref k.1)++[V.ref k.1]=(ks.take n++[k]).map λk=>V.ref k.1 by rw[DU];rfl]
  obtain ⟨H6,zQ9,g3,e3⟩:=nwZ hp3 (.lst ((ks.take n++[k]).map λk=>V.ref k.1))
  rw[zQ9]
  have s14:=g1.trans (g2.trans g3)
  refine ⟨_,rfl,_,rfl,_,rfl,l,_,rfl,SqL.of (s14 _ _ el3),λp4 hp4 =>?_⟩
  rw[cutD ks (FN hn)]
  obtain ⟨H7,zQ9,g4,e4⟩:=nwZ hp4 (.lst ((ks.drop n).map λk=>V.ref k.1))
  rw[zQ9]
  refine ⟨p3,p4,_,_,rfl,rfl,SqL.of (g4 _ _ e3),SqL.of e4,(by rw[DI,DI,DT];exact small (by show _+1+_<=_;lia)),λp5 hp5 =>?_⟩
  rw[<- DU]
  have g5:=af hp5 (.lst (((ks.take n++[k])++ks.drop n).map λk=>V.ref k.1))
  have s:=s14.trans (g4.trans g5)
  have one:∀k'∈[k],k'∈ks:=λk' h=>by rw[DW.mp h];exact mk
  exact q p5 _ _ (u3.same s) ag (iB (iB (kR n (RS s)) λk' h=>RS s k' (one k' h)) (jm n (RS s))) (by rw[DT,DT,EF,Ez];show _+1+_<=_;lia) (ng (ng (qh n rk) λk' h=>rk k' (one k' h)) (qi n rk))
 refine ⟨_,rfl,rfl,_,rfl,bD (λz =>?_) λz3 =>?_⟩
 ·refine ⟨_,rfl,_,rfl,_,rfl,l,_,rfl,SqL.of el3,λp1 hp1 =>?_⟩
  rw[cutD ks (FN hn)]
  obtain ⟨H4,zQ9,g1,e1⟩:=nwZ hp1 (.lst ((ks.drop n).map λk=>V.ref k.1))
  rw[zQ9]
  refine ⟨_,rfl,_,rfl,_,rfl,l,_,rfl,SqL.of (g1 _ _ el3),λp2 hp2 =>?_⟩
  rw[AV ks (FN hn)]
  obtain ⟨H5,zQ9,g2,e2⟩:=nwZ hp2 (.lst ((ks.take n).map λk=>V.ref k.1))
  rw[zQ9]
  refine ⟨p1,p2,_,_,rfl,rfl,SqL.of (g2 _ _ e1),SqL.of e2,(by rw[DI,DI];exact small (by lia)),λp3 hp3 =>?_⟩
  rw[<- DU]
  have g3:=af hp3 (.lst ((ks.drop n++ks.take n).map λk=>V.ref k.1))
  have s:=g1.trans (g2.trans g3)
  exact q p3 _ _ (u3.same s) ag (iB (jm n (RS s)) (kR n (RS s))) (by rw[DT,EF,Ez];lia) (ng (qi n rk) (qh n rk))
 refine ⟨_,rfl,rfl,_,rfl,bD (λz =>?_) λz4 =>?_⟩
 ·obtain ⟨t,f1,f2⟩:=(W.bu u3 hp).at'
  have tp:0<ts.length:=G3.mpr (nt ke)
  refine ⟨_,rfl,b,_,1,_,rfl,rfl,SqT.of f1,rfl,_,rfl,_,rfl,b,_,1,_,rfl,rfl,SqT.of f1,rfl,t,_,rfl,.inr (SqT.of f2),aF.mpr ⟨p,(ts.length:Int),by rw[DI];rfl,u3.pot,by lia,aQ (by lia) (by lia),λi' H4 i0 i1 u4' =>?_⟩⟩
  obtain ⟨i,rfl⟩:∃i:Nat,i'=i:=⟨i'.toNat,by lia⟩
  obtain ⟨u,eu⟩:∃u,ts[i]? = some u:=⟨_,DL (by lia)⟩
  have u4:=u3.trans u4'
  refine ⟨t,_,_,_,rfl,rfl,SqT.of (u4'.tup u3.pot f2),cj (by rw[D1,eu];rfl),?_⟩
  refine ⟨(by show 2<=D3;decide),λt9 ht9 =>?_⟩
  obtain ⟨H5,zQ9,g1,e1⟩:=nwZ ht9 (.tup [V.int 9,V.int 9])
  rw[zQ9]
  refine ⟨(by show 2<=D3;decide),λtq htq =>?_⟩
  obtain ⟨H6,zQ9,g2,e2⟩:=nwZ htq (.tup [V.ref u.1,V.ref t9])
  rw[zQ9]
  have u6:=u4.same (g1.trans g2)
  refine ⟨_,rfl,aF.mpr ⟨p,5,rfl,u6.pot,by decide,aQ (by decide) (by decide),λd H7 d0 d1 u7' =>?_⟩⟩
  have u7:=u6.trans u7'
  obtain ⟨mo,eat,c,ec,emo⟩:∃mo:Addr,atI [V.ref u.1,V.ref t9] (d/4)=some (.ref mo)/\∃c:List Int,c≠[]/\H7 mo=some (.tup (c.map V.int)):=by
   by_cases dd:d<4
   ·have:d/4=0:=by lia
    rw[this]
    obtain ⟨x',y',e,_⟩:=W.rng u (DV eu)
    exact ⟨u.1,rfl,u.2,(by rw[e];intro z;cases z),(W.bu u7 hp).tup u (DV eu)⟩
   ·have:d/4=1:=by lia
    rw[this]
    exact ⟨t9,rfl,[9,9],(by intro z;cases z),u7'.tup u6.pot (g2 _ _ e1)⟩
  refine ⟨_,_,rfl,rfl,⟨by decide,by decide⟩,tq,_,_,_,rfl,rfl,SqT.of (u7'.tup u6.pot e2),eat,?_⟩
  have el7:=u7.st _ _ lp el
  refine ⟨_,rfl,_,rfl,_,rfl,(by show 2<=D3;decide),λtp' htp =>?_⟩
  have g3:=af htp (.tup [.ref mo,.ref k.2.2.1])
  have e3:upd H7 tp' (.tup [.ref mo,.ref k.2.2.1]) tp'=some (.tup [.ref mo,.ref k.2.2.1]):=ag
  generalize upd H7 tp' (.tup [.ref mo,.ref k.2.2.1])=H8 at g3 e3
  refine ⟨(by show 1<=D3;decide),λp1 hp1 =>?_⟩
  obtain ⟨H9,zQ9,g4,e4⟩:=nwZ hp1 (.lst [.ref tp'])
  rw[zQ9]
  refine ⟨l,p1,_,_,rfl,rfl,SqL.of (g4 _ _ (g3 _ _ el7)),SqL.of e4,(by rw[lk];exact small (by show _+1<=_;lia)),λp2 hp2 =>?_⟩
  rw[show ks.map (λk=>V.ref k.1)++[V.ref tp']=(ks++[(tp',(mo,c),k.2.2)]).map λk=>V.ref k.1 by rw[DU];rfl]
  obtain ⟨Ha,zQ9,g5,e5⟩:=nwZ hp2 (.lst ((ks++[(tp',(mo,c),k.2.2)]).map λk=>V.ref k.1))
  rw[zQ9]
  have s7a:=g3.trans (g4.trans g5)
  have ua:=u7.same s7a
  have Ra:=oU R ua hp
  have new:Rws Ha [(tp',(mo,c),k.2.2)]:=λk' hk'=>by
   rw[DW.mp hk']
   exact ⟨g5 _ _ (g4 _ _ e3),s7a _ _ emo,(Ra k mk).2.2⟩
  have newK:Rk 290 [(tp',(mo,c),k.2.2)]:=λk' hk'=>by
   rw[DW.mp hk']
   exact ⟨(rk k mk).1,ec⟩
  have Rn:=iB Ra new
  have Kn:=ng rk newK
  refine ⟨p2,_,rfl,e5,Rn,λlo out hlo pm =>?_⟩
  have g6:=af hlo (.lst (out.map λk=>V.ref k.1))
  refine q lo _ out (ua.same g6) ag (λk' hk'=>bS Rn g6 k' (pm.mem_iff.mp hk')) ?_ λk' hk'=>Kn k' (pm.mem_iff.mp hk')
  rw[pm.length_eq,DT];show _+1<=_;lia
 refine ⟨_,rfl,rfl,_,rfl,bD (λz =>?_) λz5 =>?_⟩
 ·have wz:wy=5:=V.int.inj (of_decide_eq_true z)
  subst wz
  refine ⟨_,rfl,1,rfl,k.2.2.1,_,rfl,h3,λp1 H4 s4 e1 =>?_⟩
  refine ⟨_,rfl,1,rfl,k.2.2.1,_,rfl,s4 _ _ h3,λp2 H5 s5 e2 =>?_⟩
  obtain ⟨Z1,c1,l1⟩:=gB k.2.2.2 (some 1) none
  obtain ⟨Z2,c2,l2⟩:=gB k.2.2.2 none (some 1)
  rw[c1] at e1
  rw[c2] at e2
  refine ⟨p1,p2,_,_,rfl,rfl,s5 _ _ e1,e2,(by rw[DI,DI];exact small (by lia)),λp3 H6 s6 e3 =>?_⟩
  rw[<- DU] at e3
  exact ⟨_,rfl,rfl,_,rfl,nV (by decide) ⟨_,rfl,rfl,_,rfl,nV (by decide) ⟨_,rfl,rfl,_,rfl,nV (by decide) ⟨_,rfl,rfl,_,rfl,nV (by decide) (mTL _ n k rfl ek _ _ ⟨_,_,_,_,p3,Z1++Z2,rfl,u3.same (s4.trans (s5.trans s6)),e3,by rw[DT];lia⟩)⟩⟩⟩⟩
 refine ⟨_,rfl,rfl,_,rfl,bD (λz =>?_) λz6 =>?_⟩
 ·have wz:wy=6:=V.int.inj (of_decide_eq_true z)
  subst wz
  refine ⟨_,rfl,_,rfl,_,rfl,l,_,rfl,.inl (SqL.of el3),aF.mpr ⟨p,(ks.length:Int),by rw[lk];rfl,u3.pot,by lia,aQ (by lia) (by lia),λi' H4 i0 i1 u4' =>?_⟩⟩
  obtain ⟨i,rfl⟩:∃i:Nat,i'=i:=⟨i'.toNat,by lia⟩
  obtain ⟨k2,ek2⟩:∃k2,ks[i]? = some k2:=⟨_,DL (by lia)⟩
  have mk2:=DV ek2
  have u4:=u3.trans u4'
  have R4:=oU R u4 hp
  refine ⟨l,_,_,_,rfl,rfl,SqL.of (u4.st _ _ lp el),cj (by rw[D1,ek2];rfl),k2.1,_,1,_,rfl,rfl,SqT.of (R4 k2 mk2).1,rfl,?_⟩
  refine ⟨(by show 0<=D3;decide),λt1 ht1 =>?_⟩
  obtain ⟨H5,zQ9,g1,e1⟩:=nwZ ht1 (.tup [])
  rw[zQ9]
  refine ⟨(by show 2<=D3;decide),λt2 ht2 =>?_⟩
  obtain ⟨H6,zQ9,g2,e2⟩:=nwZ ht2 (.tup [V.int 0,V.int 0])
  rw[zQ9]
  refine ⟨(by show 1<=D3;decide),λt3 ht3 =>?_⟩
  obtain ⟨H7,zQ9,g3,e3⟩:=nwZ ht3 (.tup [V.int 9])
  rw[zQ9]
  refine ⟨_,rfl,(by show 2<=D3;decide),λt4 ht4 =>?_⟩
  obtain ⟨H8,zQ9,g4,e4⟩:=nwZ ht4 (.tup [V.int (-1),V.int 0])
  rw[zQ9]
  refine ⟨(by show 5<=D3;decide),λtq htq =>?_⟩
  obtain ⟨H9,zQ9,g5,e5⟩:=nwZ htq (.tup [V.ref k2.2.2.1,V.ref t1,V.ref t2,V.ref t3,V.ref t4])
  rw[zQ9]
  have s49:=g1.trans (g2.trans (g3.trans (g4.trans g5)))
  have u9:=u4.same s49
  refine ⟨_,rfl,aF.mpr ⟨p,5,rfl,u9.pot,by decide,aQ (by decide) (by decide),λd Ha d0 d1 ua' =>?_⟩⟩
  have ua:=u9.trans ua'
  have ot:∀{c:Addr} {o:List V},H9 c=some (.tup o)->Ha c=some (.tup o):=λe=>ua'.tup u9.pot e
  obtain ⟨pl,Zs,eat,epl,lZ⟩:∃(pl:Addr) (Zs:List Int),atI [V.ref k2.2.2.1,V.ref t1,V.ref t2,V.ref t3,V.ref t4] d=some (.ref pl)/\Ha pl=some (.tup (Zs.map V.int))/\Zs.length<=280:=by
   rcases (show d=0\/d=1\/d=2\/d=3\/d=4 by lia) with z | z | z | z | z <;> subst z
   ·exact ⟨_,k2.2.2.2,rfl,ot (s49 _ _ (R4 k2 mk2).2.2),by have:=(fc k2 mk2).2.1;lia⟩
   ·exact ⟨_,[],rfl,ot (g5 _ _ (g4 _ _ (g3 _ _ (g2 _ _ e1)))),by decide⟩
   ·exact ⟨_,[0,0],rfl,ot (g5 _ _ (g4 _ _ (g3 _ _ e2))),by decide⟩
   ·exact ⟨_,[9],rfl,ot (g5 _ _ (g4 _ _ e3)),by decide⟩
   ·exact ⟨_,[-1,0],rfl,ot (g5 _ _ e4),by decide⟩
  refine ⟨tq,_,_,_,rfl,rfl,SqT.of (ot e5),eat,?_⟩
  exact ⟨_,rfl,rfl,_,rfl,nV (by decide) ⟨_,rfl,rfl,_,rfl,nV (by decide) ⟨_,rfl,rfl,_,rfl,nV (by decide) (mTL _ n k rfl ek _ _ ⟨_,_,_,_,pl,Zs,rfl,ua,epl,lZ⟩)⟩⟩⟩
 refine ⟨_,rfl,rfl,_,rfl,bD (λz =>?_) λz7 =>?_⟩
 ·have wz:wy=7:=V.int.inj (of_decide_eq_true z)
  subst wz
  refine ⟨_,rfl,k.2.2.1,_,rfl,SqT.of h3,(by rw[DI];lia),λp1 hp1 =>?_⟩
  rw[<- List.map_reverse]
  exact ⟨_,rfl,rfl,_,rfl,nV (by decide) ⟨_,rfl,rfl,_,rfl,nV (by decide) (mTL _ n k rfl ek _ _ ⟨_,_,_,_,p1,k.2.2.2.reverse,rfl,u3.same (af hp1 _),ag,by rw[HW];lia⟩)⟩⟩
 refine ⟨_,rfl,rfl,_,rfl,bD (λz =>?_) λz8 =>?_⟩
 ·have wz:wy=8:=V.int.inj (of_decide_eq_true z)
  subst wz
  obtain ⟨t,f1,f2⟩:=(W.bu u3 hp).at'
  refine ⟨_,rfl,b,_,0,_,rfl,rfl,SqT.of f1,rfl,(m:Int),rfl,by lia,by lia,?_⟩
  rw[E1]
  refine du (λi ys H'=>H'=H3/\∃os:List Int,ys=os.map V.int/\os.length<=i) ⟨rfl,[],rfl,EB _⟩ (small (by lia)) ?_ ?_
  ·rintro i ys H4 hi hy ⟨eH,os,rfl,lo⟩ R1 R0 r1 r0
   rw[eH]
   refine ⟨_,rfl,_,rfl,k.2.2.1,_,rfl,.inr (SqT.of h3),rfl,jM _,_,rfl,bD (λz=>⟨_,rfl,r1 _ _ ⟨rfl,os++[0+(i:Int)],by rw[DU];rfl,by rw[DT];show _+1<=_;lia⟩⟩) λz=>r0 _ ⟨rfl,os,rfl,by lia⟩⟩
  rintro ys H4 hy ⟨eH,os,rfl,lo⟩ lo1 hlo1
  rw[eH] at hlo1 ⊢
  obtain ⟨H5,zQ9,g1,e1⟩:=nwZ hlo1 (.lst (os.map V.int))
  rw[zQ9]
  have u5:=u3.same g1
  have npo:lo1≠p:=λe=>by
   rw[e] at hlo1
   obtain ⟨_,_,e'⟩:=u3.pot
   rw[hlo1] at e';cases e'
  have lp0:0<k.2.2.2.length:=G3.mpr nz
  refine ⟨_,rfl,_,rfl,k.2.2.1,_,rfl,.inr (SqT.of (g1 _ _ h3)),aF.mpr ⟨p,(k.2.2.2.length:Int),by rw[DI];rfl,u5.pot,by lia,aQ (by lia) (by lia),λsp H6 sp0 sp1 u6' =>?_⟩⟩
  have u6:=u5.trans u6'
  have h36:=u6'.tup u5.pot (g1 _ _ h3)
  have eo6:=u6'.st _ _ npo e1
  refine ⟨_,_,rfl,rfl,?_⟩
  refine ⟨_,rfl,_,rfl,_,rfl,k.2.2.1,_,rfl,h36,λp1 H7 s7 e7 =>?_⟩
  obtain ⟨Z1,c1,l1⟩:=gB k.2.2.2 none (some (1+sp))
  rw[c1] at e7
  have u7:=u6.same s7
  refine ⟨_,rfl,_,rfl,aF.mpr ⟨p,2,rfl,u7.pot,by decide,aQ (by decide) (by decide),λd H8 d0 d1 u8' =>?_⟩⟩
  have u8:=u7.trans u8'
  refine ⟨_,_,rfl,rfl,_,rfl,lo1,_,rfl,SqL.of (u8'.st _ _ npo (s7 _ _ eo6)),λp2 hp2 =>?_⟩
  obtain ⟨O1,c2,l2⟩:=gB os none (some (1+d))
  rw[c2]
  obtain ⟨H9,zQ9,g2,e2⟩:=nwZ hp2 (.lst (O1.map V.int))
  rw[zQ9]
  refine ⟨p2,_,rfl,.inl ⟨SqL.of e2,λt2 ht2 =>?_⟩⟩
  obtain ⟨Ha,zQ9,g3,e3⟩:=nwZ ht2 (.tup (O1.map V.int))
  rw[zQ9]
  have s8a:=g2.trans g3
  refine ⟨p1,t2,_,_,rfl,rfl,s8a _ _ (u8'.tup u7.pot e7),e3,(by rw[DI,DI];exact small (by lia)),λp3 Hb sb eb =>?_⟩
  rw[<- DU] at eb
  have h3b:=sb _ _ (s8a _ _ (u8'.tup u7.pot (s7 _ _ h36)))
  refine ⟨_,rfl,_,rfl,_,rfl,k.2.2.1,_,rfl,h3b,λp4 Hc sc ec =>?_⟩
  obtain ⟨Z2,c3,l3⟩:=gB k.2.2.2 (some (1+sp)) none
  rw[c3] at ec
  refine ⟨p3,p4,_,_,rfl,rfl,sc _ _ eb,ec,(by rw[DI,DI,DT];exact small (by lia)),λp5 Hd sd ed =>?_⟩
  rw[<- DU] at ed
  exact ⟨_,rfl,rfl,_,rfl,nV (by decide) (mTL _ n k rfl ek _ _ ⟨_,_,_,_,p5,(Z1++O1)++Z2,rfl,u8.same (s8a.trans (sb.trans (sc.trans sd))),ed,by rw[DT,DT];lia⟩)⟩
 refine ⟨_,rfl,rfl,_,rfl,bD (λz =>?_) λz9 =>?_⟩
 ·rw[exy] at h2
  refine ⟨_,rfl,k.2.1.1,[x,y],rfl,.inr (SqT.of h2),(by show 2<300;decide),λsa us hsa mu nu lu =>?_⟩
  have lu2:us.length<=2:=lu
  obtain ⟨H4,zQ9,g1,e1⟩:=nwZ hsa (cZ w sa (us.map V.int))
  rw[zQ9]
  refine ⟨sa,us,rfl,e1,by lia,λlo out hlo po so =>?_⟩
  obtain ⟨H5,zQ9,g2,e2⟩:=nwZ hlo (.lst (out.map V.int))
  rw[zQ9]
  refine ⟨lo,_,rfl,.inl ⟨SqL.of e2,λt2 ht2 =>?_⟩⟩
  exact (mTL _ n k rfl ek _ _ ⟨_,_,_,_,t2,out,rfl,u3.same (g1.trans (g2.trans (af ht2 _))),ag,by rw[po.length_eq];lia⟩)
 ·exact mTL _ n k rfl ek _ _ ⟨_,_,_,_,k.2.2.1,k.2.2.2,rfl,u3,h3,by lia⟩
end
theorem wR {m:Nat}{E:List (List Int)}{os:List Int}(O:Ok m E)(h:∀a b:Int,[a,b]∈E->os.idxOf a<os.idxOf b):Clr m E:=by
 obtain ⟨G,g,s⟩:=Gr.ex m E
 refine ⟨G,g,Ea λn =>?_⟩
 obtain ⟨p,p0,p1,np⟩:=g.Au n
 have k:∀(j:Nat) (p:Int),0<=p->p<m->os.idxOf p<j->p∈G:=by
  intro j
  induction j with
  | zero=>intro p _ _ h;lia
  | succ j ih =>
   intro p p0 p1 hj
   refine Ea λnp=>s p ⟨p0,p1,np,λq hq =>?_⟩
   obtain ⟨x,y,e,h1,h2,_⟩:=O _ hq
   cases e
   exact ih q h1 h2 (by have:=h _ _ hq;lia)
 exact np (k _ p p0 p1 (GA _))
abbrev y7:Sp:=λvs H Q _=>∃(p b:Addr) (m:Nat) (ts:LA),vs=[.ref p,.ref b]/\Pt 2 H p/\Ow H b (m:Int) ts/\m<=40/\ts.length<=250/\∀(a:Addr) (ss:LA) (H':Hp),Bu 2 p H H'->H' a=some (.tup (ss.map λu =>.ref u.1))->ss.Sublist ts->Clr m ((rst ts (ss.map (·.2))).map (·.2))->Q (.ref a) H'
@[irreducible] def uZ:Sp:=y7
theorem jX {vs:List V}{H:Hp}{Q:VK}{E:XK}:uZ vs H Q E↔y7 vs H Q E:=by
 delta uZ
 exact FZ
section
theorem iC:aK ["pot", "web", "order", "place", "way", "some", "arrow", "back"] ["pot", "web"] (ak yu):=⟨rfl,rfl,rfl,by decide +kernel,rfl,by decide +kernel,by decide +kernel⟩
theorem CA (F:Fun K "_law_set" "_law_set" yu f fd)(B:Blt mg)(cLPick:Cal P w K mg base 1 "_law_pick" ["pot", "many"] iw):bG P w K mg base CX0 2 f fd ["pot", "web"] uZ:=by
 refine F.ok iC (λvs H Q E h =>?_) (λcdv A outer s H vs Q E hr h =>?_)
 ·obtain ⟨_,_,_,_,rfl,_⟩:=jX.mp h
  rfl
 obtain ⟨p,b,m,ts,rfl,hp,W,m40,tl,q⟩:=jX.mp h
 refine ⟨_,(ah (az (i:=2) iC.nd rfl (Or.inl rfl) (bI ae))
  (ah (cz Fc rfl (bJ rfl B.b_range (aa (aH aP (pv 1) ai (λ_ _=>rfl)) ae rfl)) (aB (i:=3) iC.nd rfl (Or.inl rfl))
   (aj (cg (da Ex Kb Kc oj (pv 2) (aa (ay cLPick hr (by decide) rfl (aa (pv 0) (aa (aO dA (pv 3) ai) ae rfl) rfl)) (aa (pv 3) ae rfl) rfl)))) (λ_=>rfl))
  (ah (az (i:=4) iC.nd rfl (Or.inl rfl) (ay cLPick hr (by decide) rfl (aa (pv 0) (aa ai ae rfl) rfl)))
  (ah (az (i:=5) iC.nd rfl (Or.inl rfl) (bI ae))
  (ah (cz Fc rfl (hZ (aH aP (pv 1) ai (λ_ _=>rfl))) (aB (i:=6) iC.nd rfl (Or.inl rfl))
   (ah (az (i:=7) iC.nd rfl (Or.inl rfl) (cQ CT (da Ex GV HZ gO (pv 2) (aa (aH aP (pv 6) ai (λ_ _=>rfl)) ae rfl)) (da Ex GV HZ gO (pv 2) (aa (aH aP (pv 6) ai (λ_ _=>rfl)) ae rfl)) (aE _)))
   (aj (aX (PW.pt (cP (bT (pv 7)) (cP (ax cK (pv 4) ai (aE _)) (cy (ax tP (ay cLPick hr (by decide) rfl (aa (pv 0) (aa ai ae rfl) rfl)) (pv 4) (aE _)))))) (aj (cg (da Ex Fg Fh cc (pv 5) (aa (pv 6) ae rfl)))) aG))) (λ_=>rfl))
  (aj (aD (aL aN rfl B.b_tuple bB (aa (pv 5) ae rfl))))))))),?_⟩
 refine ⟨(by show 0<=D3;decide),λlo hlo =>?_⟩
 have npo:lo≠p:=hp.ne hlo
 have uB:=(Bu.refl hp).same (af hlo (.lst []))
 have elo:upd H lo (.lst []) lo=some (.lst (([]:List Int).map V.int)):=ag
 generalize upd H lo (.lst [])=H4 at uB elo
 obtain ⟨t,e1,e2⟩:=(W.bu uB hp).at'
 let W0:Nat->St->Hp->Prop:=λk σ H'=>(∃c3 c4 c5 c6 c7,σ=[some (.ref p),some (.ref b),some (.ref lo),c3,c4,c5,c6,c7])/\Bu 2 p H H'/\∃os,H' lo=some (.lst (os.map V.int))/\Od (k:Int) os
 refine ⟨_,rfl,b,_,0,_,rfl,rfl,SqT.of e1,rfl,(m:Int),rfl,by lia,by lia,de W0 ⟨⟨_,_,_,_,_,rfl⟩,uB,[],elo,Od.nil⟩ ?_ ?_⟩
 ·rintro k σ H2 hk ⟨⟨c3,c4,c5,c6,c7,rfl⟩,b2,os,eo,O⟩
  have lo':=O.len
  refine ⟨_,rfl,.inl ⟨rfl,_,SqL.of eo⟩,_,rfl,_,rfl,_,_,rfl,rfl,aF.mpr ⟨p,0+(k:Int)+1,rfl,b2.pot,by lia,aQ (by lia) (by lia),λd H3 d0 d1 b3 =>?_⟩⟩
  obtain ⟨n,rfl⟩:∃n:Nat,d=n:=⟨d.toNat,by lia⟩
  have eo3:=b3.st _ _ npo eo
  refine ⟨_,rfl,lo,_,(n:Int),_,rfl,rfl,eo3,by lia,by rw[DI];lia,by rw[DI];exact bq (by lia),?_⟩
  refine ⟨⟨_,_,_,_,_,rfl⟩,(b2.trans b3).dh hlo npo _,os.take n++(k:Int) :: os.drop n,?_,O.ins (by lia)⟩
  have e0:(0+(k:Int))=k:=by lia
  rw[ag,e0,E1,DU,Ew,IZ,HX]
 rintro σ H5' ⟨⟨c3,c4,c5,c6,c7,rfl⟩,b5',os,eo',O⟩
 rw[E1] at O
 have lno:=O.len
 refine ⟨_,rfl,aF.mpr ⟨p,3,rfl,b5'.pot,by decide,aQ (by decide) (by decide),λwy H5 w0 w3 u5 =>?_⟩⟩
 have b5:=b5'.trans u5
 have eo:=u5.st _ _ npo eo'
 refine ⟨(by show 0<=D3;decide),λla hla1 =>?_⟩
 have hla:=kO b5 hla1
 have np:la≠p:=hp.ne hla
 have nlo:lo≠la:=av eo hla1
 have b6:=b5.same (af hla1 (.lst []))
 have ela:upd H5 la (.lst []) la=some (.lst (([]:LA).map λu =>.ref u.1)):=ag
 have eo6:=(af hla1 (.lst [])) _ _ eo
 generalize upd H5 la (.lst [])=H6 at b6 eo6 ela
 obtain ⟨t,e1,e2⟩:=(W.bu b6 hp).at'
 let W1:Nat->St->Hp->Prop:=λi σ H'=>(∃c6 c7,σ=[some (.ref p),some (.ref b),some (.ref lo),c3,some (.int wy),some (.ref la),c6,c7])/\Bu 2 p H H'/\H' t=some (.tup (ts.map λu =>.ref u.1))/\H' lo=some (.lst (os.map V.int))/\∃ss:LA,H' la=some (.lst (ss.map λu =>.ref u.1))/\ss.Sublist (ts.take i)/\∀a b:Int,[a,b]∈(ts.take i).map (·.2)->[a,b]∉ss.map (·.2)->os.idxOf a<os.idxOf b
 refine ⟨_,rfl,b,_,1,_,rfl,rfl,SqT.of e1,rfl,t,rfl,⟨_,SqT.of e2⟩,kI (xs:=ts.map λu =>.ref u.1) W1 ⟨⟨_,_,rfl⟩,b6,e2,eo6,[],ela,List.nil_sublist _,λa b h=>by simp at h⟩ (λi σ H' _ k=>SqT.of k.2.2.1) ?_ ?_⟩
 ·rintro i x σ H7 hx ⟨⟨c6,c7,rfl⟩,b7,et7,eo7,ss,es7,sub,fwd⟩
  obtain ⟨u,hu,rfl⟩:=fO hx
  have hi:=(DQ.mp hu).1
  have mu:=DV hu
  obtain ⟨x,y,e3,x0,x1,y0,y1⟩:=W.rng u mu
  have hu7:=(W.bu b7 hp).tup u mu
  rw[e3] at hu7
  have tk:ts.take (i+1)=ts.take i++[u]:=by rw[Ef,hu];rfl
  have ls:ss.length<=i:=by have:=sub.length_le;rw[EF] at this;lia
  have app:∀H8,Bu 2 p H7 H8->H8 la=some (.lst (ss.map λu =>.ref u.1))/\Bu 2 p H (upd H8 la (.lst ((ss.map λu=>V.ref u.1)++[.ref u.1])))/\upd H8 la (.lst ((ss.map λu=>V.ref u.1)++[.ref u.1])) t=some (.tup (ts.map λu =>.ref u.1))/\upd H8 la (.lst ((ss.map λu=>V.ref u.1)++[.ref u.1])) lo=some (.lst (os.map V.int))/\∃ss':LA,upd H8 la (.lst ((ss.map λu=>V.ref u.1)++[.ref u.1])) la=some (.lst (ss'.map λu =>.ref u.1))/\ss'.Sublist (ts.take (i+1))/\∀a b:Int,[a,b]∈(ts.take (i+1)).map (·.2)->[a,b]∉ss'.map (·.2)->os.idxOf a<os.idxOf b:=λH8 u8=>by
   have b8:=b7.trans u8
   have et8:=u8.tup b7.pot et7
   have eo8:=u8.st _ _ npo eo7
   have es8:=u8.st _ _ np es7
   refine ⟨es8,b8.dh hla np _,?_,?_,ss++[u],?_,?_,λa b h1 h2 =>?_⟩
   ·rw[aq (ql et8 es8 (by intro z;cases z))];exact et8
   ·rw[aq nlo];exact eo8
   ·rw[ag,DU];rfl
   ·rw[tk];exact sub.append (Mn _)
   ·rw[DU,D6,not_or] at h2
    rw[tk,DU,D6] at h1
    rcases h1 with z | z
    ·exact fwd a b z h2.1
    ·exact absurd z h2.2
  refine ⟨_,rfl,.inl ⟨rfl,_,SqL.of eo7⟩,_,rfl,u.1,_,1,_,rfl,rfl,SqT.of hu7,rfl,lo,os,y,rfl,rfl,eo7,(O.mem _).mpr ⟨y0,y1⟩,by lia,_,rfl,.inl ⟨rfl,_,SqL.of eo7⟩,_,rfl,u.1,_,0,_,rfl,rfl,SqT.of hu7,rfl,lo,os,x,rfl,rfl,eo7,(O.mem _).mpr ⟨x0,x1⟩,by lia,_,_,rfl,rfl,?_⟩
  refine ⟨_,rfl,_,rfl,bD (λz =>?_) λz =>?_⟩
  ·obtain ⟨es8,ap⟩:=app H7 (Bu.refl b7.pot)
   exact bO ⟨_,rfl,.inl ⟨rfl,_,SqL.of es8⟩,_,rfl,la,_,_,rfl,rfl,es8,by rw[DI];exact bq (by lia),⟨_,_,rfl⟩,ap⟩
  have fw:os.idxOf x<os.idxOf y:=by
   apply Ea
   intro n
   exact z (decide_eq_true (show ((os.idxOf y:Nat):Int)<=((os.idxOf x:Nat):Int) by lia))
  refine ⟨_,rfl,rfl,_,rfl,bD (λz =>?_) λz =>?_⟩
  ·obtain ⟨es8,ap⟩:=app H7 (Bu.refl b7.pot)
   exact bO ⟨_,rfl,.inl ⟨rfl,_,SqL.of es8⟩,_,rfl,la,_,_,rfl,rfl,es8,by rw[DI];exact bq (by lia),⟨_,_,rfl⟩,ap⟩
  refine ⟨_,rfl,aF.mpr ⟨p,4,rfl,b7.pot,by decide,aQ (by decide) (by decide),λdr H8 f0 f1 u8 =>?_⟩⟩
  refine ⟨_,rfl,_,_,rfl,rfl,_,rfl,bD (λz =>?_) λz =>?_⟩
  ·obtain ⟨es8,ap⟩:=app H8 u8
   exact ⟨_,rfl,.inl ⟨rfl,_,SqL.of es8⟩,_,rfl,la,_,_,rfl,rfl,es8,by rw[DI];exact bq (by lia),⟨_,_,rfl⟩,ap⟩
  ·refine ⟨⟨_,_,rfl⟩,b7.trans u8,u8.tup b7.pot et7,u8.st _ _ npo eo7,ss,u8.st _ _ np es7,by rw[tk];exact sub.trans (List.sublist_append_left _ _),λa b h1 h2 =>?_⟩
   rw[tk,DU,D6] at h1
   rcases h1 with z | z
   ·exact fwd a b z h2
   ·have z:[a,b]=u.2:=DW.mp z
    rw[e3] at z
    cases z
    exact fw
 ·rintro σ H7 ⟨⟨c6,c7,rfl⟩,b7,et7,eo7,ss,es7,sub,fwd⟩
  rw[DI,D5 (DS _)] at sub fwd
  refine ⟨_,rfl,la,_,rfl,.inl ⟨SqL.of es7,λa ha =>?_⟩⟩
  refine q a ss _ (b7.same (af ha _)) ag sub (wR (os:=os) (λt ht =>?_) λa b h =>?_)
  ·obtain ⟨u,hu,rfl⟩:=DZ.mp ht
   exact W.rng u (bE.mp hu).1
  ·obtain ⟨u,hu,e⟩:=DZ.mp h
   obtain ⟨h1,h2⟩:=bE.mp hu
   rw[e] at h2
   exact fwd a b (DZ.mpr ⟨u,h1,e⟩) h2
end
@[irreducible] def kS (C:Addr):Sp:=λvs H Q E=>∃(ea:Addr),vs=[.ref ea,.int 6]/\H ea=some (wo ea (.ref C))/\∀H',aA H H'->Q (.bl true) H'
theorem gC {C:Addr}{vs:List V}{H:Hp}{Q:VK}{E:XK}:kS C vs H Q E↔∃(ea:Addr),vs=[.ref ea,.int 6]/\H ea=some (wo ea (.ref C))/\∀H',aA H H'->Q (.bl true) H':=by
 delta kS
 exact FZ
section
variable  {P:D9}{w:EE}{K:DM}{mg:Str->Option DK}{base:Heap}{f:Addr}{fd:E4}{ča čj čg čh če čk či čc čb čd čl čf:Addr}
theorem rB:aK ["e", "place", "some"] ["e", "place"] (ak pQ):=⟨rfl,rfl,rfl,by decide +kernel,rfl,by decide +kernel,by decide +kernel⟩
theorem y8 (F:Fun K "_law_alone" "_law_alone" pQ f fd)(B:Blt mg)(Z:Exs K mg ča čj čg čh če čk či čc čb čd čl čf):bG P w K mg base CX0 1 f fd ["e", "place"] (kS čc):=by
 refine F.ok rB (λvs H Q E h =>?_) (λcdv A outer s H vs Q E hr h =>?_)
 ·obtain ⟨_,rfl,_⟩:=gC.mp h
  rfl
 obtain ⟨ea,rfl,ee,q⟩:=gC.mp h
 refine ⟨_,(ah (az (i:=2) rB.nd rfl (Or.inl rfl) (bI (aa (au (bU (K:=K)) rfl B.b_isinstance aI (aa (pv 0) (aa (cE (v :=.ref čj) rfl Z.x_BadWeb rfl) ae rfl) rfl)) (aa (au (bU (K:=K)) rfl B.b_isinstance aI (aa (pv 0) (aa (cE (v :=.ref čg) rfl Z.x_NoStep rfl) ae rfl) rfl)) (aa (au (bU (K:=K)) rfl B.b_isinstance aI (aa (pv 0) (aa (cE (v :=.ref čh) rfl Z.x_NoText rfl) ae rfl) rfl)) (aa (au (bU (K:=K)) rfl B.b_isinstance aI (aa (pv 0) (aa (cE (v :=.ref če) rfl Z.x_TooMany rfl) ae rfl) rfl)) (aa (au (bU (K:=K)) rfl B.b_isinstance aI (aa (pv 0) (aa (cE (v :=.ref čk) rfl Z.x_NoTie rfl) ae rfl) rfl)) (aa (au (bU (K:=K)) rfl B.b_isinstance aI (aa (pv 0) (aa (cE (v :=.ref či) rfl Z.x_NoRing rfl) ae rfl) rfl)) (aa (au (bU (K:=K)) rfl B.b_isinstance aI (aa (pv 0) (aa (cE (v :=.ref čc) rfl Z.x_NotClear rfl) ae rfl) rfl)) (aa (au (bU (K:=K)) rfl B.b_isinstance aI (aa (pv 0) (aa (cE (v :=.ref čb) rfl Z.x_NotThree rfl) ae rfl) rfl)) (aa (au (bU (K:=K)) rfl B.b_isinstance aI (aa (pv 0) (aa (cE (v :=.ref čd) rfl Z.x_BadBoard rfl) ae rfl) rfl)) (aa (au (bU (K:=K)) rfl B.b_isinstance aI (aa (pv 0) (aa (cE (v :=.ref čl) rfl Z.x_NoRow rfl) ae rfl) rfl)) (aa (au (bU (K:=K)) rfl B.b_isinstance aI (aa (pv 0) (aa (cE (v :=.ref čf) rfl Z.x_NoBack rfl) ae rfl) rfl)) ae rfl) rfl) rfl) rfl) rfl) rfl) rfl) rfl) rfl) rfl) rfl)))
  (ah (aX (PW.pt (cP (cG (bT (au (bU (K:=K)) rfl B.b_isinstance aI (aa (pv 0) (aa (cE (v :=.ref ča) rfl Z.x_WebError rfl) ae rfl) rfl)))) (cy (cG (bT (au (bU (K:=K)) rfl B.b_isinstance aI (aa (pv 0) (aa (iF (v :=.ty "ValueError") rfl B.b_ValueError nK rfl) ae rfl) rfl))))))) dF aG)
  (aj (aD (wY (cQ cK (da Ex Km PySem.F.type_list_count wm (pv 2) (aa fN ae rfl)) ai (aE _)) (wX (aH bR (pv 2) (pv 1) (λ_ _=>rfl)))))))),?_⟩
 refine ⟨_,rfl,ea,čc,_,false,rfl,ee,Z.n_i,rfl,Z.n_o0,_,rfl,ea,čc,_,false,rfl,ee,Z.n_i,rfl,Z.n_o1,_,rfl,ea,čc,_,false,rfl,ee,Z.n_i,rfl,Z.n_o2,_,rfl,ea,čc,_,false,rfl,ee,Z.n_i,rfl,Z.n_o3,_,rfl,ea,čc,_,false,rfl,ee,Z.n_i,rfl,Z.n_o4,_,rfl,ea,čc,_,false,rfl,ee,Z.n_i,rfl,Z.n_o5,_,rfl,ea,čc,_,true,rfl,ee,Z.n_i,rfl,Z.n_n,_,rfl,ea,čc,_,false,rfl,ee,Z.n_i,rfl,Z.n_o6,_,rfl,ea,čc,_,false,rfl,ee,Z.n_i,rfl,Z.n_o7,_,rfl,ea,čc,_,false,rfl,ee,Z.n_i,rfl,Z.n_o8,_,rfl,ea,čc,_,false,rfl,ee,Z.n_i,rfl,Z.n_o9,(by show 11<=D3;decide),λl hl =>?_⟩
 have g1:=af hl (.lst [.bl false,.bl false,.bl false,.bl false,.bl false,.bl false,.bl true,.bl false,.bl false,.bl false,.bl false])
 have el:upd H l (.lst [.bl false,.bl false,.bl false,.bl false,.bl false,.bl false,.bl true,.bl false,.bl false,.bl false,.bl false]) l=some (.lst (([false,false,false,false,false,false,true,false,false,false,false]:List Bool).map V.bl)):=ag
 have ee1:=g1 _ _ ee
 generalize upd H l (.lst [.bl false,.bl false,.bl false,.bl false,.bl false,.bl false,.bl true,.bl false,.bl false,.bl false,.bl false])=H1 at g1 el ee1
 refine ⟨_,rfl,ea,čc,_,true,rfl,ee1,Z.n_i,rfl,Z.n_w,_,rfl,cq ⟨_,rfl,ea,čc,_,true,rfl,ee1,Z.n_i,rfl,Z.n_v,_,rfl,cq ?_⟩⟩
 refine ⟨_,rfl,.inl ⟨rfl,_,SqL.of el⟩,l,_,true,rfl,rfl,el,rfl,true,by rw[decide_eq_true (by decide)],bO ⟨_,rfl,_,rfl,l,_,6,_,rfl,rfl,SqL.of el,rfl,q _ g1⟩⟩
end
abbrev y9:Sp:=λvs H Q _=>∃(r a:Addr) (m:Nat) (ts ss:LA),vs=[.ref r,.ref a]/\Ow H r (m:Int) ts/\H a=some (.tup (ss.map λu =>.ref u.1))/\(∀u∈ss,u∈ts)/\m<=200/\ts.length<=250/\ss.length<=250/\¬ Clr m ((rst ts (ss.map (·.2))).map (·.2))/\∀H',aA H H'->Q (.bl true) H'
@[irreducible] def u0:Sp:=y9
theorem gX {vs:List V}{H:Hp}{Q:VK}{E:XK}:u0 vs H Q E↔y9 vs H Q E:=by
 delta u0
 exact FZ
section
variable  {P:D9}{w:EE}{K:DM}{mg:Str->Option DK}{base:Heap}{f:Addr}{fd:E4}{ča čj čg čh če čk či čc čb čd čl čf:Addr}
theorem fM:aK ["web", "some", "found", "e"] ["web", "some"] (ak jJ):=⟨rfl,rfl,rfl,by decide +kernel,rfl,by decide +kernel,by decide +kernel⟩
theorem tH (F:Fun K "_law_refused" "_law_refused" jJ f fd)(B:Blt mg)(Z:Exs K mg ča čj čg čh če čk či čc čb čd čl čf)(xTh:qY P w K mg base 7 "thinned_arrows" ["web", "arrows"] (rp čc))(cLAlone:Cal P w K mg base 1 "_law_alone" ["e", "place"] (kS čc)):bG P w K mg base CX0 8 f fd ["web", "some"] u0:=by
 refine F.ok fM (λvs H Q E h =>?_) (λcdv A outer s H vs Q E hr h =>?_)
 ·obtain ⟨_,_,_,_,_,rfl,_⟩:=gX.mp h
  rfl
 obtain ⟨r,a,m,ts,ss,rfl,W,ea,sb,m2,tl,sl,nc,k⟩:=gX.mp h
 refine ⟨_,(ah (az (i:=2) fM.nd rfl (Or.inl rfl) hX)
  (ah (Cp (i:=3) (n := "e") (x := "WebError") rfl rfl fM.nd rfl rfl rfl Z.x_WebError (Ak (yj xTh hr (by decide) rfl (aa (pv 0) (aa (pv 1) ae rfl) rfl))) (λ_=>(aj (az (i:=2) fM.nd rfl (Or.inl rfl) (pv 3)))))
  (aj (aD (ay cLAlone hr (by decide) rfl (aa (pv 2) (aa ai ae rfl) rfl)))))),?_⟩
 refine ⟨_,rfl,_,rfl,gW.mpr ⟨r,a,m,ts,ss,rfl,W,ea,sb,m2,tl,sl,λw=>absurd w nc,λ_ H1 s1=>⟨Z.n_m,λex he =>?_⟩⟩⟩
 exact ⟨_,rfl,_,rfl,gC.mpr ⟨ex,rfl,ag,λH2 s2=>k H2 (s1.trans ((af he _).trans s2))⟩⟩
end
def rC (K:DM):Sp:=λvs H Q _=>∃(a:Addr) (ns:List Int),vs=[.ref a]/\SqL K H a (ns.map V.int)/\ns.length<=63/\∀H',Q (.bl true) H'
theorem oV {K:DM}{vs:List V}{H:Hp}{Q:VK}{E:XK}:rC K vs H Q E↔∃(a:Addr) (ns:List Int),vs=[.ref a]/\SqL K H a (ns.map V.int)/\ns.length<=63/\∀H',Q (.bl true) H':=FZ
theorem CB {m:Nat}{E:List (List Int)}{Z:List Int}(O:Ok m E)(h:Rd E Z):∀v∈Z,0<=v/\v<m:=λv hv=>by
 rw[<- mZ Z] at hv
 obtain ⟨t,ht,rfl⟩:=DZ.mp hv
 obtain ⟨a,b,e,_,_,h3,h4⟩:=O t (h.2.2 t ht)
 rw[e]
 exact ⟨h3,h4⟩
theorem va {H:Hp}{r:Addr}{m:Nat}{ts ss:LA}{ks:KX}(W:Ow H r (m:Int) ts)(sub:∀u∈ss,u∈ts)(T:Trw H m ts ss ks):Rws H ks:=λk hk=>by
 obtain ⟨h1,h2,_⟩:=T.row k hk
 exact ⟨h1,W.tup _ (sub _ (T.sub.subset (DZ.mpr ⟨k,hk,rfl⟩))),h2⟩
theorem zc {H H':Hp}{m:Nat}{ts ss:LA}{ks ks':KX}(T:Trw H m ts ss ks)(T':Trw H' m ts ss ks'):ks'.map (λk=>(k.2.1,k.2.2.2))=ks.map λk=>(k.2.1,k.2.2.2):=by
 have e:ks'.map (·.2.1)=ks.map (·.2.1):=T'.is.trans T.is.symm
 have l:ks'.length=ks.length:=by have:=congrArg List.length e;simpa using this
 refine ID (by simpa using l) λi h1 h2 =>?_
 rw[DI] at h1 h2
 rw[Kz,Kz]
 have e1:ks'[i].2.1=ks[i].2.1:=by
  have h:=congrArg (λl=>l[i]?) e
  simp only[D1,DL h1,DL h2] at h
  exact EA h
 obtain ⟨_,_,a,b,Z,M,f1,f2,hM,mM,_,rd⟩:=T.row ks[i] (GB h2)
 obtain ⟨_,_,a',b',Z',M',f1',f2',hM',mM',_,rd'⟩:=T'.row ks'[i] (GB h1)
 rw[e,e1] at rd'
 rw[e1,f1] at f1'
 cases f1'
 have ez:=rd.uniq rd'
 subst ez
 have em:M=M':=by
  have:=mM M' hM'
  have:=mM' M hM
  lia
 subst em
 rw[e1,f2,f2']
def Tp (H H':Hp):Prop:=∀x o,H x=some (.tup o)->H' x=some (.tup o)
theorem Tp.put {H:Hp}{l:Addr}{o o':List V}(h:H l=some (.lst o)):Tp H (upd H l (.lst o')):=λx t e=>by
 rw[aq (λz=>by rw[z,h] at e;cases e)]
 exact e
theorem owTp {H H':Hp}{b:Addr}{m:Int}{ts:LA}(W:Ow H b m ts)(t:Tp H H'):Ow H' b m ts:=by
 obtain ⟨x,e1,e2⟩:=W.at'
 exact ⟨⟨x,t _ _ e1,t _ _ e2⟩,λu hu=>t _ _ (W.tup u hu),W.rng⟩
theorem DF {H H':Hp}{ks:KX}(R:Rws H ks)(t:Tp H H'):Rws H' ks:=λk hk=>by
 obtain ⟨h1,h2,h3⟩:=R k hk
 exact ⟨t _ _ h1,t _ _ h2,t _ _ h3⟩
theorem nj {K:DM}{H:Hp}:∀ks:KX,Paired (cT K H 20) (ks.map λk=>V.ref k.1) (ks.map λk=>V.ref k.1)
 | [] =>.nil
 | k :: t =>.cons (uC (n:=19) k.1) (nj t)
theorem nk {K:DM}{H:Hp}:∀{ks ks':KX},ks'.map (λk=>(k.2.1,k.2.2.2))=ks.map (λk=>(k.2.1,k.2.2.2))->Rws H ks->Rws H ks'->Paired (cT K H 20) (ks'.map λk=>V.ref k.1) (ks.map λk=>V.ref k.1)
 | [],[],_,_,_ =>.nil
 | [],_ :: _,e,_,_=>by cases e
 | _ :: _,[],e,_,_=>by cases e
 | k :: t,k' :: t',e,R,R'=>by
  obtain ⟨e1,e2⟩:=Np e
  have e1:(k'.2.1,k'.2.2.2)=(k.2.1,k.2.2.2):=e1
  obtain ⟨h1,h2,h3⟩:=R k En
  obtain ⟨h1',h2',h3'⟩:=R' k' En
  have ea:k'.2.1=k.2.1:=(Ny e1).1
  have ez:k'.2.2.2=k.2.2.2:=(Ny e1).2
  rw[ea] at h1'
  rw[ez] at h3'
  exact .cons (.inr (.inr ⟨k'.1,k.1,_,_,rfl,rfl,.inl ⟨SqT.of h1',SqT.of h1⟩,.cons (uC (n:=18) _) (.cons (Ag (n:=18) h3' h3) .nil)⟩)) (nk e2 (λx hx=>R x (Em _ hx)) λx hx=>R' x (Em _ hx))
theorem wU {H:Hp}{m:Nat}{ts ss:LA}{ks:KX}(T:Trw H m ts ss ks)(ri:Ri (ks.map (·.2.1)))(ne:ks≠[]):¬ Clr m ((rst ts (((ks.drop 1).map (·.2.1)).map (·.2))).map (·.2)):=by
 cases ks with
 | nil=>exact absurd rfl ne
 | cons k t =>
  have h:=T.mn k.2.1.2 (by simp)
  have e:oth ((k :: t).map (·.2.1)) k.2.1.2=t.map (·.2.1):=by
   have nd:=yY ri
   rw[Ew,Ew] at nd
   have na:=(Fm.mp nd).1
   unfold oth
   rw[Ew,Fq (by simp)]
   refine List.filter_eq_self.mpr λu hu =>?_
   have:u.2≠k.2.1.2:=λz=>na (by rw[<- z];exact DZ.mpr ⟨u,hu,rfl⟩)
   simp[this]
  rw[e] at h
  exact h
theorem zd {H:Hp}{m:Nat}{ts ss:LA}{ks:KX}(O:Ok m (ts.map (·.2)))(T:Trw H m ts ss ks)(ne:ks≠[]):¬ Clr m ((rst ts ((([]:LA)).map (·.2))).map (·.2)):=λc=>by
 cases ks with
 | nil=>exact ne rfl
 | cons k t =>
  refine T.mn k.2.1.2 (by simp) (c.mono (λx hx =>?_) λa b h =>?_)
  ·obtain ⟨u,hu,rfl⟩:=DZ.mp hx
   exact DZ.mpr ⟨u,bE.mpr ⟨(bE.mp hu).1,by simp⟩,rfl⟩
  ·obtain ⟨u,hu,e⟩:=DZ.mp h
   obtain ⟨x,y,e',h1,h2,_⟩:=O _ (DZ.mpr ⟨u,(bE.mp hu).1,rfl⟩)
   rw[e] at e'
   cases e'
   exact ⟨h1,h2⟩
theorem ze (n:Nat):(FI n true).all id=true:=by simp
theorem zf (n:Nat):(FI n false).any id=false:=by simp
section
variable  {P:D9}{w:EE}{K:DM}{mg:Str->Option DK}{base:Heap}{f:Addr}{fd:E4}{ča čj čg čh če čk či čc čb čd čl čf:Addr}
theorem gE:aK ["script", "k", "pot", "web", "some", "found", "rows", "handed", "right", "kept", "fewer"] ["script"] (ak wu):=⟨rfl,rfl,rfl,by decide +kernel,rfl,by decide +kernel,by decide +kernel⟩
theorem oW:(["row"]:List Str).Nodup:=by decide +kernel
theorem nr:(["row", "some"]:List Str).Nodup:=by decide +kernel
theorem DG (F:Fun K "law" "law" wu f fd)(B:Blt mg)(cLDeal:Cal P w K mg base 1 "_law_deal" ["script", "k"] (pZ K))(cLSomeWeb:Cal P w K mg base 3 "_law_some_web" ["pot"] AA)(cLSet:Cal P w K mg base 2 "_law_set" ["pot", "web"] uZ)(cThinnedArrows:Cal P w K mg base 7 "thinned_arrows" ["web", "arrows"] yU)(cLSpoilt:Cal P w K mg base 2 "_law_spoilt" ["pot", "web", "rows"] AW)(cThinnedRight:Cal P w K mg base 6 "thinned_right" ["web", "rows"] AQ)(cLRowsRight:Cal P w K mg base 2 "_law_rows_right" ["web", "rows"] AS)(cLRefused:Cal P w K mg base 8 "_law_refused" ["web", "some"] u0):bG P w K mg base CX0 9 f fd ["script"] (rC K):=by
 refine F.ok gE (λvs H Q E h =>?_) (λcdv A outer s H vs Q E hr h =>?_)
 ·obtain ⟨_,_,rfl,_⟩:=oV.mp h
  rfl
 obtain ⟨a,ns,rfl,hS,h63,q⟩:=oV.mp h
 refine ⟨_,(ah (cz Fc rfl (bJ rfl B.b_range (aa (au (n5 rfl) rfl B.b_max yx (aa ai (aa (au (vh rfl) rfl B.b_min mE (aa (au aR rfl B.b_len cJ (aa (pv 0) ae rfl)) (aa ai ae rfl) rfl)) ae rfl) rfl)) ae rfl)) (aB (i:=1) gE.nd rfl (Or.inl rfl))
   (ah (az (i:=2) gE.nd rfl (Or.inl rfl) (ay cLDeal hr (by decide) rfl (aa (pv 0) (aa (pv 1) ae rfl) rfl)))
   (ah (az (i:=3) gE.nd rfl (Or.inl rfl) (ay cLSomeWeb hr (by decide) rfl (aa (pv 2) ae rfl)))
   (ah (az (i:=4) gE.nd rfl (Or.inr rfl) (ay cLSet hr (by decide) rfl (aa (pv 2) (aa (pv 3) ae rfl) rfl)))
   (ah (az (i:=5) gE.nd rfl (Or.inl rfl) (ay cThinnedArrows hr (by decide) rfl (aa (pv 3) (aa (pv 4) ae rfl) rfl)))
   (ah (aX (PW.pt (cP (cG (bT (au dY rfl B.b_isinstance aI (aa (pv 5) (aa (iF (v :=.ty "list") rfl B.b_list fG rfl) ae rfl) rfl)))) (cy (cG (bT (au (iP rfl) rfl B.b_all pR (aa (bo ["row"] [none] rfl (bC (pv 5)) rfl (λ_ _ _ _ _=>(aB (i:=0) oW rfl (Or.inl rfl))) (λ_ _ _ _ _=>cA) (λ_ _ _ _ _=>(au (pM (K:=K)) rfl B.b_isinstance aI (aa (pv 0) (aa (iF (v :=.ty "tuple") rfl B.b_tuple bB rfl) ae rfl) rfl)))) ae rfl))))))) dF aG)
   (ah (aX (PW.pt (cP (cG (bT (ay cLRowsRight hr (by decide) rfl (aa (pv 3) (aa (pv 5) ae rfl) rfl)))) (cy (bT (au (qT rfl) rfl B.b_any yv (aa (bo ["row", "some"] [none,some 4] rfl (bC (pv 5)) rfl (λ_ _ _ _ _=>(aB (i:=0) nr rfl (Or.inl rfl))) (λ_ _ _ _ _=>cA) (λ_ _ _ _ _=>(cQ (ip (hu8 hr)) (aH (cp (K:=K)) (pv 0) ai (λ_ _=>rfl)) (pv 1) rfl))) ae rfl)))))) dF aG)
   (ah (az (i:=6) gE.nd rfl (Or.inl rfl) (ay cLSpoilt hr (by decide) rfl (aa (pv 2) (aa (pv 3) (aa (aL cS rfl B.b_list fG (aa (pv 5) ae rfl)) ae rfl) rfl) rfl)))
   (ah (cz Fc rfl (hZ (ba (aa (aL cS rfl B.b_list fG (aa (pv 6) ae rfl)) (aa (aL aN rfl B.b_tuple bB (aa (pv 6) ae rfl)) ae rfl) rfl))) (aB (i:=7) gE.nd rfl (Or.inl rfl))
    (ah (az (i:=8) gE.nd rfl (Or.inl rfl) (ay cThinnedRight hr (by decide) rfl (aa (pv 3) (aa (pv 7) ae rfl) rfl)))
    (aj (aX (PW.pt (cP (cG (bT (au dY rfl B.b_isinstance aI (aa (pv 8) (aa (iF (v :=.ty "bool") rfl B.b_bool As rfl) ae rfl) rfl)))) (cP (ax nZ (pv 8) (ay cLRowsRight hr (by decide) rfl (aa (pv 3) (aa (pv 6) ae rfl) rfl)) (aE _)) (cy (ax (ph hr) (aL cS rfl B.b_list fG (aa (pv 7) ae rfl)) (pv 6) (aE _)))))) dF aG))) (λ_=>rfl))
   (ah (az (i:=9) gE.nd rfl (Or.inl rfl) (aL cS rfl B.b_list fG (aa (pv 5) ae rfl)))
   (ah (cg (da Ex Fg Fh cc (pv 5) (aa (ba ae) ae rfl)))
   (ah (az (i:=10) gE.nd rfl (Or.inl rfl) (aL aN rfl B.b_tuple bB (aa (bo ["row"] [none] rfl (bC (bz cR (pv 9) (bM ai) bL)) rfl (λ_ _ _ _ _=>(aB (i:=0) oW rfl (Or.inl rfl))) (λ_ _ _ _ _=>cA) (λ_ _ _ _ _=>(aH (cp (K:=K)) (pv 0) ai (λ_ _=>rfl)))) ae rfl)))
   (ah (aX (PW.pt (cP (ax (ph hr) (ay cThinnedArrows hr (by decide) rfl (aa (pv 3) (aa (pv 4) ae rfl) rfl)) (pv 9) (aE _)) (cy (PW.pt (jq (ax (ph hr) (pv 9) (bI ae) (aE _)) (gF (cG (bT (ay cLRefused hr (by decide) rfl (aa (pv 3) (aa (pv 10) ae rfl) rfl)))))))))) dF aG)
   (aj (aX (PW.pt (jq (ax (ph hr) (pv 9) (bI ae) (aE _)) (gF (cG (bT (ay cLRefused hr (by decide) rfl (aa (pv 3) (aa (ba ae) ae rfl) rfl))))))) dF aG)))))))))))))) (λ_=>rfl))
  (aj (aD fN))),?_⟩
 refine ⟨_,rfl,a,_,rfl,.inl hS,_,_,rfl,_,_,rfl,?_⟩
 obtain ⟨N,hN,N0,N1⟩:∃N:Int,(if (if (12:Int)<((ns.map V.int).length:Int) then (12:Int) else ((ns.map V.int).length:Int))>1 then (if (12:Int)<((ns.map V.int).length:Int) then (12:Int) else ((ns.map V.int).length:Int)) else 1)=N/\0<=N/\N<=63:=⟨_,rfl,by split <;> (try split) <;> lia,by rw[DI];split <;> (try split) <;> lia⟩
 rw[hN]
 let W0:Nat->St->Hp->Prop:=λ_ σ H'=>(∃c1 c2 c3 c4 c5 c6 c7 c8 c9 c10,σ=[some (.ref a),c1,c2,c3,c4,c5,c6,c7,c8,c9,c10])/\aA H H'
 refine ⟨N,rfl,by lia,by lia,de W0 ⟨⟨_,_,_,_,_,_,_,_,_,_,rfl⟩,aA.refl _⟩ ?_ (λσ H' _=>q _)⟩
 rintro k σ H0 hk ⟨⟨c1,c2,c3,c4,c5,c6,c7,c8,c9,c10,rfl⟩,s0⟩
 have hk':(k:Int)<63:=by lia
 refine ⟨_,rfl,_,rfl,iu.mpr ⟨a,ns,0+(k:Int),rfl,s0.seq hS,by lia,by lia,λx y p hp =>?_⟩⟩
 have p0:Pt 2 (upd H0 p (.lst ([x,y].map V.int))) p:=⟨[x,y],rfl,ag⟩
 have b0:=Bu.refl p0
 refine ⟨_,rfl,mK.mpr ⟨p,rfl,p0,λb m ts H3 b3 W3 hm lt ri =>?_⟩⟩
 have bA:=b0.trans b3
 refine ⟨_,rfl,_,rfl,jX.mpr ⟨p,b,m,ts,rfl,bA.pot,W3,hm,by lia,λsa ss H4 b4' es sbl clr =>?_⟩⟩
 have b4:=bA.trans b4'
 have W4:=W3.bu b4' bA.pot
 have sub:∀u∈ss,u∈ts:=λu hu=>sbl.subset hu
 have ls:=sbl.length_le
 refine ⟨_,rfl,_,rfl,mU.mpr ⟨b,sa,m,ts,ss,rfl,W4,es,sub,by lia,by lia,by lia,clr,λl H5 ks s5 hl el T =>?_⟩⟩
 have W5:=W4.same s5
 have R5:=va W5 sub T
 have tr:=wO W5 ri sbl T
 have lk:(ks.map λk=>V.ref k.1).length=ks.length:=DI _
 have kl:ks.length<=ts.length:=by have:=T.sub.length_le;rw[DI] at this;lia
 have fc:∀k∈ks,k.2.2.2≠[]/\k.2.2.2.length<=40/\∃x y:Int,k.2.1.2=[x,y]:=λk hk=>by
  obtain ⟨⟨rd,_⟩,_⟩:=tr.row k hk
  have:=dQ rd.2.1 (CB (oS W5) rd)
  obtain ⟨x,y,e,_⟩:=W5.rng k.2.1 (sub _ (T.sub.subset (DZ.mpr ⟨k,hk,rfl⟩)))
  exact ⟨rd.1,by lia,x,y,e⟩
 have b5:=b4.same s5
 refine ⟨_,rfl,.ref l, "list",_,true,rfl,.lst el,rfl,_,rfl,cq ?_⟩
 refine ⟨_,rfl,l,rfl,⟨_,SqL.of el⟩,aW (xs:=ks.map λk =>.ref k.1) (λi ys H'=>H'=H5/\ys=(FI i true).map V.bl) ⟨rfl,rfl⟩ (by rw[lk];exact small (by lia)) (λi ys H' _ z=>by rw[z.1];exact SqL.of el) ?_ ?_⟩
 ·rintro i x ys H6 hx hy ⟨eH,rfl⟩ R1 R0 r1 r0
  obtain ⟨k,ek,rfl⟩:=itK hx
  have h1:=(R5 k (DV ek)).1
  rw[eH]
  exact bO ⟨_,rfl,.ref k.1, "tuple",_,true,rfl,.tup h1,rfl,r1 _ _ ⟨rfl,by rw[Lq,DU];rfl⟩⟩
 rintro ys H6 hy ⟨eH,rfl⟩ l6 hl6
 rw[eH] at hl6 ⊢
 rw[lk]
 obtain ⟨H6,zQ9,g6,e6⟩:=nwZ hl6 (.lst ((FI ks.length true).map V.bl))
 rw[zQ9]
 refine ⟨l6,_,rfl,SqL.of e6,?_⟩
 rw[ze]
 refine ⟨_,rfl,cq ?_⟩
 have el6:=g6 _ _ el
 have R6:=bS R5 g6
 have W6:=W5.same g6
 refine ⟨_,rfl,_,rfl,jl.mpr ⟨b,l,m,ts,ks,rfl,W6,el6,R6,hm,by lia,by lia,λk hk=>⟨by have:=(fc k hk).2.1;lia,by obtain ⟨x,y,e⟩:=(fc k hk).2.2;rw[e];intro z;cases z⟩,λb7 H7 s7 hb7=>⟨_,rfl,?_⟩⟩⟩
 rw[hb7.mpr tr]
 refine cq ?_
 have el7:=s7 _ _ el6
 have s57:=g6.trans s7
 have es7:=s57 _ _ (s5 _ _ es)
 have W7:=W6.same s7
 have R7:=bS R6 s7
 refine ⟨_,rfl,l,rfl,⟨_,SqL.of el7⟩,aW (xs:=ks.map λk =>.ref k.1) (λi ys H'=>H'=H7/\ys=(FI i false).map V.bl) ⟨rfl,rfl⟩ (by rw[lk];exact small (by lia)) (λi ys H' _ z=>by rw[z.1];exact SqL.of el7) ?_ ?_⟩
 ·rintro i x ys H8 hx hy ⟨eH,rfl⟩ R1 R0 r1 r0
  obtain ⟨k,ek,rfl⟩:=itK hx
  have mk:=DV ek
  obtain ⟨h1,h2,h3⟩:=R7 k mk
  have ms:k.2.1.2∈ss.map (·.2):=DZ.mpr ⟨_,T.sub.subset (DZ.mpr ⟨k,mk,rfl⟩),rfl⟩
  rw[eH]
  refine bO ⟨_,rfl,k.1,_,0,_,rfl,rfl,SqT.of h1,rfl,_,rfl,sa,k.2.1.1,ss,k.2.1.2,rfl,rfl,es7,λu hu=>W7.tup u (sub u hu),h2,?_⟩
  rw[decide_eq_true ms]
  exact r1 _ _ ⟨rfl,by rw[Lq,DU];rfl⟩
 rintro ys H8 hy ⟨eH,rfl⟩ l8 hl8
 rw[eH] at hl8 ⊢
 rw[lk]
 obtain ⟨H8,zQ9,g8,e8⟩:=nwZ hl8 (.lst ((FI ks.length false).map V.bl))
 rw[zQ9]
 refine ⟨l8,_,rfl,SqL.of e8,_,rfl,?_⟩
 rw[zf]
 refine cq ?_
 have el8:=g8 _ _ el7
 have s58:=s57.trans g8
 refine ⟨_,rfl,_,rfl,_,rfl,l,_,rfl,.inl (SqL.of el8),λl9 hl9 =>?_⟩
 have g9:=af hl9 (.lst (ks.map λk=>V.ref k.1))
 have e9:upd H8 l9 (.lst (ks.map λk=>V.ref k.1)) l9=some (.lst (ks.map λk=>V.ref k.1)):=ag
 have n9:l9≠p:=λe=>by
  obtain ⟨_,_,e'⟩:=(b5.same s58).pot
  rw[e,e'] at hl9;cases hl9
 generalize upd H8 l9 (.lst (ks.map λk=>V.ref k.1))=H9 at g9 e9
 have s59:=s58.trans g9
 have b9:=b5.same s59
 have W9:=W5.same s59
 have np:l≠p:=λe=>by
  obtain ⟨_,_,e'⟩:=b4.pot
  rw[e,e'] at hl;cases hl
 refine ni.mpr ⟨p,b,l9,m,ts,ks,rfl,b9.pot,n9,W9,hm,by lia,e9,bS R5 s59,by lia,λh e=>h (GQ (by rw[e] at kl;simpa using kl)),fc,λlr Ha ks' ua er Ra kla Ka =>?_⟩
 have Wa:=W9.bu ua b9.pot
 have ela:=ua.st _ _ np (s59 _ _ el)
 have b9a:=b9.trans ua
 have R5a:=oU (bS R5 s59) ua b9.pot
 have ks9:ks'.length<=290:=kla
 have lk':(ks'.map λk=>V.ref k.1).length=ks'.length:=DI _
 refine ⟨_,rfl,lr,_,rfl,.inl (SqL.of er),λq1 hq1 =>?_⟩
 obtain ⟨Hb,zQ9,h1,f1⟩:=nwZ hq1 (.lst (ks'.map λk=>V.ref k.1))
 rw[zQ9]
 refine ⟨_,rfl,lr,_,rfl,.inl ⟨SqL.of (h1 _ _ er),λq2 hq2 =>?_⟩⟩
 obtain ⟨Hc,zQ9,h2,f2⟩:=nwZ hq2 (.tup (ks'.map λk=>V.ref k.1))
 rw[zQ9]
 refine ⟨(by show 2<=D3;decide),λq3 hq3 =>?_⟩
 obtain ⟨Hd,zQ9,h3,f3⟩:=nwZ hq3 (.tup [.ref q1,.ref q2])
 rw[zQ9]
 have sad:=h1.trans (h2.trans h3)
 let W1:Nat->St->Hp->Prop:=λi σ H'=>(∃c7 c8 c9 c10,σ=[some (.ref a),some (.int (0+(k:Int))),some (.ref p),some (.ref b),some (.ref sa),some (.ref l),some (.ref lr),c7,c8,c9,c10])/\aA Hd H'
 refine ⟨q3,rfl,⟨_,SqT.of f3⟩,kI (xs:=[.ref q1,.ref q2]) W1 ⟨⟨_,_,_,_,rfl⟩,aA.refl _⟩ (λi σ H' _ h=>SqT.of (h.2 _ _ f3)) ?_ ?_⟩
 ·rintro i x σ He hx ⟨⟨c7,c8,c9,c10,rfl⟩,se⟩
  have sae:=sad.trans se
  obtain ⟨hq,rfl,ehq⟩:∃hq:Addr,x = .ref hq/\(He hq=some (.lst (ks'.map λk =>.ref k.1))\/He hq=some (.tup (ks'.map λk =>.ref k.1))):=by
   match i,hx with
   | 0,hx =>
    have hx:some (V.ref q1)=some x:=hx
    cases hx
    exact ⟨q1,rfl,.inl (se _ _ (h3 _ _ (h2 _ _ f1)))⟩
   | 1,hx =>
    have hx:some (V.ref q2)=some x:=hx
    cases hx
    exact ⟨q2,rfl,.inr (se _ _ (h3 _ _ f2))⟩
   | i+2,hx=>simp at hx
  refine ⟨_,rfl,_,rfl,mW.mpr ⟨b,hq,m,ts,ks',rfl,Wa.same sae,ehq,bS Ra sae,by lia,by lia,by lia,λk hk=>(Ka k hk).1,λbf Hf sf hbf =>?_⟩⟩
  have saf:=sae.trans sf
  refine ⟨_,rfl,.bl bf, "bool",_,true,rfl,.bl bf,rfl,_,rfl,cq ⟨_,rfl,?_⟩⟩
  refine ⟨_,rfl,_,rfl,jl.mpr ⟨b,lr,m,ts,ks',rfl,Wa.same saf,saf _ _ er,bS Ra saf,hm,by lia,by lia,Ka,λbg Hg sg hbg =>?_⟩⟩
  have eb:bf=bg:=by rw[Gb,hbf,hbg]
  rw[eb]
  refine ⟨rfl,_,rfl,De rfl ?_⟩
  have sag:=saf.trans sg
  have ehg:He hq=Hg hq:=by
   rcases ehq with e | e
   ·rw[e,sg _ _ (sf _ _ e)]
   ·rw[e,sg _ _ (sf _ _ e)]
  rw[ehg] at ehq
  refine ⟨_,rfl,hq,ks'.map λk =>.ref k.1,rfl,ehq.imp (λe=>SqL.of e) (λe=>SqT.of e),λlh hlh =>?_⟩
  have gh:=af hlh (.lst (ks'.map λk=>V.ref k.1))
  exact ⟨_,rfl,lh,lr,_,_,rfl,rfl,SqL.of ag,SqL.of (gh _ _ (sag _ _ er)),.inr ⟨nj ks',_,rfl,cq ⟨⟨_,_,_,_,rfl⟩,se.trans (sf.trans (sg.trans gh))⟩⟩⟩
 rintro σ He ⟨⟨c7,c8,c9,c10,rfl⟩,se⟩
 have sae:=sad.trans se
 have ele:=sae _ _ ela
 refine ⟨_,rfl,l,_,rfl,.inl (SqL.of ele),λlq hlq =>?_⟩
 have gf:=af hlq (.lst (ks.map λk=>V.ref k.1))
 have ef:upd He lq (.lst (ks.map λk=>V.ref k.1)) lq=some (.lst (ks.map λk=>V.ref k.1)):=ag
 have nlq:lq≠l:=λe=>by rw[e,ele] at hlq;cases hlq
 generalize upd He lq (.lst (ks.map λk=>V.ref k.1))=Hf at gf ef
 have elf:=gf _ _ ele
 refine ⟨_,rfl,.inl ⟨rfl,_,SqL.of elf⟩,(by show 0<=D3;decide),λtz htz =>?_⟩
 have gg:=af htz (.tup [])
 have elg:=gg _ _ elf
 generalize upd Hf tz (.tup [])=Hg at gg elg
 refine ⟨l,_,_,rfl,rfl,elg,by rw[lk];exact bq (by lia),?_⟩
 have tp:Tp Hg (upd Hg l (.lst ((ks.map λk=>V.ref k.1)++[.ref tz]))):=Tp.put elg
 have elqh:upd Hg l (.lst ((ks.map λk=>V.ref k.1)++[.ref tz])) lq=some (.lst (ks.map λk=>V.ref k.1)):=by rw[aq nlq];exact gg _ _ ef
 have sag:=sae.trans (gf.trans gg)
 have l0:H0 l=none:=by
  cases e:H0 l with
  | none=>rfl
  | some o =>
   have:=Bu.fresh hp b4 _ _ e
   rw[hl] at this;cases this
 have s0h:aA H0 (upd Hg l (.lst ((ks.map λk=>V.ref k.1)++[.ref tz]))):=aA.dh (Bu.fresh hp (b9a.same sag)) l0 _
 have Wh:=owTp (Wa.same sag) tp
 have esh:=tp _ _ (sag _ _ (ua.tup b9.pot (s59 _ _ (s5 _ _ es))))
 have Rh:=DF (bS R5a sag) tp
 generalize upd Hg l (.lst ((ks.map λk=>V.ref k.1)++[.ref tz]))=Hh at tp elqh s0h Wh esh Rh
 refine ⟨_,rfl,1,rfl,lq,_,rfl,SqL.of elqh,λr1 hr1 =>?_⟩
 rw[mV, <- HX]
 obtain ⟨Hi,zQ9,gi,ei⟩:=nwZ hr1 (.lst ((ks.drop 1).map λk=>V.ref k.1))
 rw[zQ9]
 have Ri':=jm 1 (bS Rh gi)
 have ld:(ks.drop 1).length<=ks.length:=by rw[Ez];lia
 refine ⟨r1,rfl,⟨_,SqL.of ei⟩,aW (xs:=(ks.drop 1).map λk =>.ref k.1) (λi ys H'=>H'=Hi/\ys=(((ks.drop 1).take i).map (·.2.1)).map λu =>.ref u.1) ⟨rfl,rfl⟩ (by rw[DI];exact small (by lia)) (λi ys H' _ z=>by rw[z.1];exact SqL.of ei) ?_ ?_⟩
 ·rintro i x ys Hj hx hy ⟨eH,rfl⟩ R1 R0 r1 r0
  obtain ⟨k,ek,rfl⟩:=itK hx
  obtain ⟨h1,h2,h3⟩:=Ri' k (DV ek)
  rw[eH]
  refine bO ⟨_,rfl,k.1,_,0,_,rfl,rfl,SqT.of h1,rfl,r1 _ _ ⟨rfl,?_⟩⟩
  rw[Ef,ek,DU,DU];rfl
 rintro ys Hj hy ⟨eH,rfl⟩ r2 hr2
 rw[eH] at hr2 ⊢
 rw[DI,D5 (DS _)]
 obtain ⟨Hj,zQ9,gj,ej⟩:=nwZ hr2 (.lst (((ks.drop 1).map (·.2.1)).map λu=>V.ref u.1))
 rw[zQ9]
 refine ⟨r2,_,rfl,.inl ⟨SqL.of ej,λr3 hr3 =>?_⟩⟩
 obtain ⟨Hk,zQ9,gk,ek⟩:=nwZ hr3 (.tup (((ks.drop 1).map (·.2.1)).map λu=>V.ref u.1))
 rw[zQ9]
 have shk:=gi.trans (gj.trans gk)
 refine ⟨_,rfl,_,rfl,mU.mpr ⟨b,sa,m,ts,ss,rfl,Wh.same shk,shk _ _ esh,sub,by lia,by lia,by lia,clr,λl2 Hl ks2 sl hl2 el2 T2 =>?_⟩⟩
 have shl:=shk.trans sl
 have Wl:=Wh.same shl
 refine ⟨_,rfl,l2,lq,_,_,rfl,rfl,SqL.of el2,SqL.of (shl _ _ elqh),.inr ⟨nk (zc T T2) (bS Rh shl) (va Wl sub T2),_,rfl,cq ?_⟩⟩
 refine ⟨_,rfl,(by show 0<=D3;decide),λz1 hz1 =>?_⟩
 obtain ⟨Hm,zQ9,gm,em⟩:=nwZ hz1 (.lst [])
 rw[zQ9]
 have shm:=shl.trans gm
 by_cases ke:ks=[]
 ·refine ⟨lq,z1,_,_,rfl,rfl,SqL.of (shm _ _ elqh),SqL.of em,.inr ⟨by rw[ke];exact .nil,_,rfl,cq (cq ?_)⟩⟩
  refine ⟨_,rfl,(by show 0<=D3;decide),λz2 hz2 =>?_⟩
  have gn:=af hz2 (.lst [])
  exact ⟨lq,z2,_,_,rfl,rfl,SqL.of (gn _ _ (shm _ _ elqh)),SqL.of ag,.inr ⟨by rw[ke];exact .nil,_,rfl,cq (cq ⟨⟨_,_,_,_,_,_,_,_,_,_,rfl⟩,s0.trans (s0h.trans (shm.trans gn))⟩)⟩⟩
 ·have ln:(ks.map λk=>V.ref k.1).length≠([]:List V).length:=by
   rw[lk]
   intro z
   exact ke (GQ z)
  have sd:∀u∈(ks.drop 1).map (·.2.1),u∈ts:=λu hu=>by
   obtain ⟨k,hk,rfl⟩:=DZ.mp hu
   exact sub _ (T.sub.subset (DZ.mpr ⟨k,FY hk,rfl⟩))
  refine ⟨lq,z1,_,_,rfl,rfl,SqL.of (shm _ _ elqh),SqL.of em,.inl ⟨ln,_,rfl,bO ?_⟩⟩
  refine ⟨_,rfl,_,rfl,gX.mpr ⟨b,r3,m,ts,_,rfl,Wl.same gm,gm _ _ (sl _ _ ek),sd,by lia,by lia,by rw[DI];lia,wU T tr.ris ke,λHn sn=>⟨_,rfl,cq ?_⟩⟩⟩
  have shn:=shm.trans sn
  refine ⟨_,rfl,(by show 0<=D3;decide),λz2 hz2 =>?_⟩
  obtain ⟨Ho,zQ9,gn,en⟩:=nwZ hz2 (.lst [])
  rw[zQ9]
  refine ⟨lq,z2,_,_,rfl,rfl,SqL.of (gn _ _ (shn _ _ elqh)),SqL.of en,.inl ⟨ln,_,rfl,bO ?_⟩⟩
  refine ⟨_,rfl,(by show 0<=D3;decide),λt0 ht0 =>?_⟩
  have go:=af ht0 (.tup [])
  have eo:upd Ho t0 (.tup []) t0=some (.tup ((([]:LA)).map λu=>V.ref u.1)):=ag
  generalize upd Ho t0 (.tup [])=Hp at go eo
  have sho:=shn.trans (gn.trans go)
  exact gX.mpr ⟨b,t0,m,ts,[],rfl,Wh.same sho,eo,λu hu=>(by cases hu),by lia,by lia,EB _,zd (oS Wh) T ke,λHq sq=>⟨_,rfl,cq ⟨⟨_,_,_,_,_,_,_,_,_,_,rfl⟩,s0.trans (s0h.trans (sho.trans sq))⟩⟩⟩
end
theorem all_mk {l:PySem.W.OpenLaw}{w:EE}{K:DM}{h:Heap}{mg:Str->Option DK}{fa:Addr}(X:K.In h)(G:h.Ns Ey mg)(hfa:mg "law" = some (.ref fa))
  (h1:bV K "is_rising" jC) (h2:bV K "out_lists" jD) (h3:bV K "in_lists" my) (h4:bV K "turned_arrows" eF) (h5:bV K "round_arrows" fD) (h6:bV K "is_round" mz) (h7:bV K "round_form" iq) (h8:bV K "way_about" eY) (h9:bV K "shortest_of" fZ) (h10:bV K "first_ranks" f9) (h11:bV K "has_ranks" jE) (h12:bV K "round_along" gp) (h13:bV K "round_by" mB) (h14:bV K "without_arrows" dM) (h15:bV K "arrows_clear" fE) (h16:bV K "look_clearing" eG) (h17:bV K "other_arrows" fF) (h18:bV K "thinned_arrows" dO) (h19:bV K "is_formed_round" dP) (h20:bV K "goes_by" pP) (h21:bV K "thinned_right" eI) (h22:bV K "_law_deal" mC) (h23:bV K "_law_pick" sP) (h24:bV K "_law_oneway" mD) (h25:bV K "_law_no_round" jF) (h26:bV K "_law_is_round" jG) (h27:bV K "_law_alone" pQ) (h28:bV K "_law_some_web" jH) (h29:bV K "_law_rows_right" gq) (h30:bV K "_law_spoilt" gs) (h31:bV K "_law_set" yu) (h32:bV K "_law_refused" jJ) (h33:bV K "law" wu)
  (y_all:EO K Ey "all" = some none) (y_any:EO K Ey "any" = some none) (y_bool:EO K Ey "bool" = some none) (y_enumerate:EO K Ey "enumerate" = some none) (y_int:EO K Ey "int" = some none) (y_isinstance:EO K Ey "isinstance" = some none) (y_len:EO K Ey "len" = some none) (y_list:EO K Ey "list" = some none) (y_max:EO K Ey "max" = some none) (y_min:EO K Ey "min" = some none) (y_range:EO K Ey "range" = some none) (y_reversed:EO K Ey "reversed" = some none) (y_set:EO K Ey "set" = some none) (y_sorted:EO K Ey "sorted" = some none) (y_tuple:EO K Ey "tuple" = some none) (y_zip:EO K Ey "zip" = some none) (y_ValueError:EO K Ey "ValueError" = some none)
  {ča:Addr} (e_WebError:EO K Ey "WebError" = some (some (.ref ča)))
  {čj:Addr} (e_BadWeb:EO K Ey "BadWeb" = some (some (.ref čj)))
  {čg:Addr} (e_NoStep:EO K Ey "NoStep" = some (some (.ref čg)))
  {čh:Addr} (e_NoText:EO K Ey "NoText" = some (some (.ref čh)))
  {če:Addr} (e_TooMany:EO K Ey "TooMany" = some (some (.ref če)))
  {čk:Addr} (e_NoTie:EO K Ey "NoTie" = some (some (.ref čk)))
  {či:Addr} (e_NoRing:EO K Ey "NoRing" = some (some (.ref či)))
  {čc:Addr} (e_NotClear:EO K Ey "NotClear" = some (some (.ref čc)))
  {čb:Addr} (e_NotThree:EO K Ey "NotThree" = some (some (.ref čb)))
  {čd:Addr} (e_BadBoard:EO K Ey "BadBoard" = some (some (.ref čd)))
  {čl:Addr} (e_NoRow:EO K Ey "NoRow" = some (some (.ref čl)))
  {čf:Addr} (e_NoBack:EO K Ey "NoBack" = some (some (.ref čf)))
  (n_ex:PySem.W.excIn K čc yh "ValueError.__new__" = true)
  (n_ga:PySem.W.findIn K (.ref čc) "__getattribute__" = some (some (.builtin "BaseException.__getattribute__")))
  (n_gt:PySem.W.findIn K (.ref čc) "__getattr__" = some none)
  (n_cl:PySem.W.findIn K (.ref čc) "__class__" = some (some (.builtin "object.__class__")))
  (n_mo:PySem.W.subIn K (.ref čc) (.type "object")=some true)
  (n_sb:PySem.W.subIn K (.ref čc) (.type "BaseException")=some true)
  (n_it:(PySem.W.clsIn K čc).isSome=true)
  (n_m:PySem.W.exmOne K (.ref čc) (.ref ča)=some true)
  (n_v:PySem.W.kitOne K (.ref čc) (.type "ValueError")=some true)
  (n_w:PySem.W.kitOne K (.ref čc) (.ref ča)=some true)
  (n_n:PySem.W.kitOne K (.ref čc) (.ref čc)=some true)
  (n_o0:PySem.W.kitOne K (.ref čc) (.ref čj)=some false)
  (n_o1:PySem.W.kitOne K (.ref čc) (.ref čg)=some false)
  (n_o2:PySem.W.kitOne K (.ref čc) (.ref čh)=some false)
  (n_o3:PySem.W.kitOne K (.ref čc) (.ref če)=some false)
  (n_o4:PySem.W.kitOne K (.ref čc) (.ref čk)=some false)
  (n_o5:PySem.W.kitOne K (.ref čc) (.ref či)=some false)
  (n_o6:PySem.W.kitOne K (.ref čc) (.ref čb)=some false)
  (n_o7:PySem.W.kitOne K (.ref čc) (.ref čd)=some false)
  (n_o8:PySem.W.kitOne K (.ref čc) (.ref čl)=some false)
  (n_o9:PySem.W.kitOne K (.ref čc) (.ref čf)=some false)
  : ∃fd:E4,(∀(s:DP) (v:DK),BindsTo s fd ⟨[v],[]⟩ [("script",v)])/\∀base:Heap,K.In base->base.Ns Ey mg->bG l.prog w K mg base CX0 9 fa fd ["script"] (rC K):=by
 obtain ⟨fl,od,an,sl,oc,kV,dc,pm,cd,ct,al,ll,cl,kl⟩:=h33
 have e:=hfa.symm.trans (FL X G al)
 cases e
 have F33:=rM ll cl kl
 have z_all:=EW X G y_all
 have z_any:=EW X G y_any
 have z_bool:=EW X G y_bool
 have z_enumerate:=EW X G y_enumerate
 have z_int:=EW X G y_int
 have z_isinstance:=EW X G y_isinstance
 have z_len:=EW X G y_len
 have z_list:=EW X G y_list
 have z_max:=EW X G y_max
 have z_min:=EW X G y_min
 have z_range:=EW X G y_range
 have z_reversed:=EW X G y_reversed
 have z_set:=EW X G y_set
 have z_sorted:=EW X G y_sorted
 have z_tuple:=EW X G y_tuple
 have z_zip:=EW X G y_zip
 have z_ValueError:=EW X G y_ValueError
 refine ⟨PySem.W.fnOf "law" "law" (dC wu) (ck wu) (ak wu) .none kV dc pm an cd ct,λs v =>.of_eq rfl,λbase kb nb =>?_⟩
 have B:Blt mg:=⟨z_all,z_any,z_bool,z_enumerate,z_int,z_isinstance,z_len,z_list,z_max,z_min,z_range,z_reversed,z_set,z_sorted,z_tuple,z_zip,z_ValueError⟩
 have x_WebError:=FL X G e_WebError
 have x_BadWeb:=FL X G e_BadWeb
 have x_NoStep:=FL X G e_NoStep
 have x_NoText:=FL X G e_NoText
 have x_TooMany:=FL X G e_TooMany
 have x_NoTie:=FL X G e_NoTie
 have x_NoRing:=FL X G e_NoRing
 have x_NotClear:=FL X G e_NotClear
 have x_NotThree:=FL X G e_NotThree
 have x_BadBoard:=FL X G e_BadBoard
 have x_NoRow:=FL X G e_NoRow
 have x_NoBack:=FL X G e_NoBack
 have Z:Exs K mg ča čj čg čh če čk či čc čb čd čl čf:=⟨x_WebError,x_BadWeb,x_NoStep,x_NoText,x_TooMany,x_NoTie,x_NoRing,x_NotClear,x_NotThree,x_BadBoard,x_NoRow,x_NoBack,n_ex,⟨n_ga,n_gt,n_cl,n_mo,n_sb,n_it⟩,n_m,n_v,n_w,n_n,n_o0,n_o1,n_o2,n_o3,n_o4,n_o5,n_o6,n_o7,n_o8,n_o9⟩
 have cLDeal:=h22.cal l.prog w base X G (λF=>Ax F B) λ_ _ _ _ _ _ us hl=>match us,hl with | [_,_],_=>rfl
 have cLPick:=h23.cal l.prog w base X G (λF=>Ay F B) λ_ _ _ _ _ _ us hl=>match us,hl with | [_,_],_=>rfl
 have cLOneway:=h24.cal l.prog w base X G (λF=>wF F B cLPick) λ_ _ _ _ _ _ us hl=>match us,hl with | [_,_],_=>rfl
 have cLSomeWeb:=h28.cal l.prog w base X G (λF=>sU F B cLPick cLOneway) λ_ _ _ _ _ _ us hl=>match us,hl with | [_],_=>rfl
 have cLSet:=h31.cal l.prog w base X G (λF=>CA F B cLPick) λ_ _ _ _ _ _ us hl=>match us,hl with | [_,_],_=>rfl
 have cOutLists:=h2.cal l.prog w base X G (λF=>sQ F B) λ_ _ _ _ _ _ us hl=>match us,hl with | [_],_=>rfl
 have cTurnedArrows:=h4.cal l.prog w base X G (λF=>mH F B) λ_ _ _ _ _ _ us hl=>match us,hl with | [_],_=>rfl
 have cInLists:=h3.cal l.prog w base X G (λF=>wC F B cOutLists cTurnedArrows) λ_ _ _ _ _ _ us hl=>match us,hl with | [_],_=>rfl
 have cFirstRanks:=h10.cal l.prog w base X G (λF=>pW F B cOutLists cInLists) λ_ _ _ _ _ _ us hl=>match us,hl with | [_],_=>rfl
 have cHasRanks:=h11.cal l.prog w base X G (λF=>sS F B cFirstRanks) λ_ _ _ _ _ _ us hl=>match us,hl with | [_],_=>rfl
 have cWithoutArrows:=h14.cal l.prog w base X G (λF=>kA F B) λ_ _ _ _ _ _ us hl=>match us,hl with | [_,_],_=>rfl
 have cArrowsClear:=h15.cal l.prog w base X G (λF=>nN F B cHasRanks cWithoutArrows) λ_ _ _ _ _ _ us hl=>match us,hl with | [_,_],_=>rfl
 have xLook:=h16.DC l.prog w base X G (λF=>mR F B Z cArrowsClear) λ_ _ _ _ _ _ us hl=>match us,hl with | [_,_],_=>rfl
 have cOtherArrows:=h17.cal l.prog w base X G (λF=>nP F B) λ_ _ _ _ _ _ us hl=>match us,hl with | [_,_],_=>rfl
 have cShortestOf:=h9.cal l.prog w base X G (λF=>qc F B) λ_ _ _ _ _ _ us hl=>match us,hl with | [_],_=>rfl
 have cRoundForm:=h7.cal l.prog w base X G (λF=>rj F B) λ_ _ _ _ _ _ us hl=>match us,hl with | [_],_=>rfl
 have cWayAbout:=h8.cal l.prog w base X G (λF=>tj F B) λ_ _ _ _ _ _ us hl=>match us,hl with | [_,_,_],_=>rfl
 have cRoundAlong:=h12.cal l.prog w base X G (λF=>qa F B cWayAbout) λ_ _ _ _ _ _ us hl=>match us,hl with | [_,_,_],_=>rfl
 have cRoundBy:=h13.cal l.prog w base X G (λF=>wI F B cInLists cShortestOf cRoundForm cRoundAlong) λ_ _ _ _ _ _ us hl=>match us,hl with | [_,_],_=>rfl
 have xTh:=h18.DC l.prog w base X G (λF=>kB F B Z xLook cOtherArrows cArrowsClear cRoundBy cWithoutArrows) λ_ _ _ _ _ _ us hl=>match us,hl with | [_,_],_=>rfl
 have cThinnedArrows:Cal l.prog w K mg base 7 "thinned_arrows" ["web", "arrows"] yU:=xTh.calm AN
 have cLSpoilt:=h30.cal l.prog w base X G (λF=>wQ F B cLPick) λ_ _ _ _ _ _ us hl=>match us,hl with | [_,_,_],_=>rfl
 have cIsRising:=h1.cal l.prog w base X G (λF=>tE F B) λ_ _ _ _ _ _ us hl=>match us,hl with | [_],_=>rfl
 have cRoundArrows:=h5.cal l.prog w base X G (λF=>nU F B) λ_ _ _ _ _ _ us hl=>match us,hl with | [_],_=>rfl
 have cIsRound:=h6.cal l.prog w base X G (λF=>wM F B cRoundArrows) λ_ _ _ _ _ _ us hl=>match us,hl with | [_,_],_=>rfl
 have cIsFormedRound:=h19.cal l.prog w base X G (λF=>kE F B cIsRound cRoundForm) λ_ _ _ _ _ _ us hl=>match us,hl with | [_,_],_=>rfl
 have cGoesBy:=h20.cal l.prog w base X G (λF=>yT F B cRoundArrows) λ_ _ _ _ _ _ us hl=>match us,hl with | [_,_],_=>rfl
 have cThinnedRight:=h21.cal l.prog w base X G (λF=>mY F B cIsRising cArrowsClear cIsFormedRound cGoesBy) λ_ _ _ _ _ _ us hl=>match us,hl with | [_,_],_=>rfl
 have cLNoRound:=h25.cal l.prog w base X G (λF=>sV F B) λ_ _ _ _ _ _ us hl=>match us,hl with | [_,_],_=>rfl
 have cLIsRound:=h26.cal l.prog w base X G (λF=>tG F B) λ_ _ _ _ _ _ us hl=>match us,hl with | [_,_],_=>rfl
 have cLRowsRight:=h29.cal l.prog w base X G (λF=>qg F B cLNoRound cLIsRound) λ_ _ _ _ _ _ us hl=>match us,hl with | [_,_],_=>rfl
 have cLAlone:=h27.cal l.prog w base X G (λF=>y8 F B Z) λ_ _ _ _ _ _ us hl=>match us,hl with | [_,_],_=>rfl
 have cLRefused:=h32.cal l.prog w base X G (λF=>tH F B Z xTh cLAlone) λ_ _ _ _ _ _ us hl=>match us,hl with | [_,_],_=>rfl
 exact DG F33 B cLDeal cLSomeWeb cLSet cThinnedArrows cLSpoilt cThinnedRight cLRowsRight cLRefused
theorem walk {l:PySem.W.OpenLaw}{q:D9}{loose:List Str}{XP:(Str->Option DK)->Heap->Prop}{YP:EE->Heap->Prop}{d:DefRec}{K:Params->DM}(hn:l.most=some 63)(hdf:d.params.defaults=[])
  (hY:∀(w:EE) (h:Heap),YP w h->(K w.params).In h)
  (F:∀(w:EE) (mg:Str->Option DK) (fa:Addr) (h:Heap),(K w.params).In h->h.Ns Ey mg->mg d.name=some (.ref fa) →
   ∃fd:E4,(∀(s:DP) (u:DK),BindsTo s fd ⟨[u],[]⟩ [("script",u)])/\∀base:Heap,(K w.params).In base->base.Ns Ey mg->bG l.prog w (K w.params) mg base CX0 9 fa fd ["script"] (rC (K w.params))) :
  PySem.W.WalkO q loose XP YP l.row.toRowW d [] (λf vs=>PySem.call f vs) :=
 L2.zy (n:=63) (k:=9) (x := "script") (CX:=λ_=>CX0) (sp:=λw=>rC (K w.params)) hn (by decide) hdf ⟨rfl,by decide,by decide⟩ hY F (λ_ _ a ns hl _ hS=>⟨a,ns,rfl,hS,hl,λ_=>rfl⟩) λ_ _ _ _ _ z=>z
end K71
def PySem.W.Fast.tw14045212914924334757:Nat:=0
def PySem.W.Fast.tw16661811118966010956:Nat:=0
def PySem.W.Fast.tw16350191174591726515:Nat:=0
def PySem.W.Fast.tw18063372010603888291:Nat:=0
def PySem.W.Fast.tw3359675983168504075:Nat:=0
def PySem.W.Fast.tw4183262303436881740:Nat:=0
def PySem.W.Fast.tw7790590807581685535:Nat:=0
def PySem.W.Fast.tw7306641258397430008:Nat:=0
def PySem.W.Fast.tw12442635590428436391:Nat:=0
def PySem.W.Fast.tw8022568105302016601:Nat:=0
def PySem.W.Fast.tw10993009132731143912:Nat:=0
def PySem.W.Fast.tw4612683610485304355:Nat:=0
def PySem.W.Fast.tw7234001350933734571:Nat:=0
def PySem.W.Fast.tw16158944121238245726:Nat:=0
def PySem.W.Fast.tw995560934341940043:Nat:=0
def PySem.W.Fast.tw7273829999227992749:Nat:=0
def PySem.W.Fast.tw9229792350752816391:Nat:=0
def PySem.W.Fast.tw6403254936195519435:Nat:=0
def PySem.W.Fast.tw16206996375908541842:Nat:=0
def PySem.W.Fast.tw15365003874374422001:Nat:=0
def PySem.W.Fast.tw9567961899889437340:Nat:=0
def PySem.W.Fast.tw384011681622301380:Nat:=0
def PySem.W.Fast.tw8432262061028144184:Nat:=0
def PySem.W.Fast.tw17016664034857987027:Nat:=0
def PySem.W.Fast.tw13263234958396442993:Nat:=0
def PySem.W.Fast.tw17992326601504907197:Nat:=0
def PySem.W.Fast.tw4920264781189006288:Nat:=0
def PySem.W.Fast.tw2624742734352942119:Nat:=0
def PySem.W.Fast.tw308867781401088843:Nat:=0
def PySem.W.Fast.tw18290703037294925771:Nat:=0
def PySem.W.Fast.tw8116102050204663558:Nat:=0
def PySem.W.Fast.tw3928404966715986794:Nat:=0
def PySem.W.Fast.tw8930858476491711124:Nat:=0
def PySem.W.Fast.tw3889105536249490366:Nat:=0
def PySem.W.Fast.tw5203647303640701878:Nat:=0
def PySem.W.Fast.tw684902978909913271:Nat:=0
def PySem.W.Fast.tw1333323399791607046:Nat:=0
def PySem.W.Fast.tw5227110378454236597:Nat:=0
def PySem.W.Fast.tw10679362130310192730:Nat:=0
def PySem.W.Fast.tw18283291809172239837:Nat:=0
def PySem.W.Fast.tw10534001084449546545:Nat:=0
def PySem.W.Fast.tw3067002897381786996:Nat:=0
def PySem.W.Fast.tw17969398955017074740:Nat:=0
def PySem.W.Fast.tw15511152607387478627:Nat:=0
def PySem.W.Fast.tw5885028796272199199:Nat:=0
def PySem.W.Fast.tw9455236313948582585:Nat:=0
def PySem.W.Fast.tw15677273265701230580:Nat:=0
def PySem.W.Fast.tw18268326499064761281:Nat:=0
def PySem.W.Fast.tw12574259155439120658:Nat:=0
def PySem.W.Fast.tw5502045356130530937:Nat:=0
def PySem.W.Fast.tw4925305650923813475:Nat:=0
def PySem.W.Fast.tw1518168850113852041:Nat:=0
def PySem.W.Fast.tw12727788480151202593:Nat:=0
def PySem.W.Fast.tw14957593380214673389:Nat:=0
def PySem.W.Fast.tw7707880819594886204:Nat:=0
def PySem.W.Fast.tw1760888318412609466:Nat:=0
def PySem.W.Fast.tw14546521290311503317:Nat:=0
def PySem.W.Fast.tw14893277681431632024:Nat:=0
def PySem.W.Fast.tw17186894133414883698:Nat:=0
def PySem.W.Fast.tw756693396236177757:Nat:=0
def PySem.W.Fast.tw2176986709325262073:Nat:=0
def PySem.W.Fast.tw9221865653419980119:Nat:=0
def PySem.W.Fast.tw6958722472106532877:Nat:=0
def PySem.W.Fast.tw8554509277916604558:Nat:=0
def PySem.W.Fast.tw15570671019199232027:Nat:=0
def PySem.W.Fast.tw4446326180506214131:Nat:=0
def PySem.W.Fast.tw11126344898541148605:Nat:=0
def PySem.W.Fast.tw15118684019326636499:Nat:=0
def PySem.W.Fast.tw8672675509354785890:Nat:=0
def PySem.W.Fast.tw566778492310552263:Nat:=0
def PySem.W.Fast.tw10011490294083821655:Nat:=0
def PySem.W.Fast.tw5590776541308474081:Nat:=0
def PySem.W.Fast.tw9334923395578490642:Nat:=0
def PySem.W.Fast.tw5355208320531829674:Nat:=0
def PySem.W.Fast.tw14110684976008021691:Nat:=0
def PySem.W.Fast.tw14116999158197523639:Nat:=0
def PySem.W.Fast.tw204691484142544445:Nat:=0
def PySem.W.Fast.tw2478018874230268038:Nat:=0
def PySem.W.Fast.tw3285114177859436045:Nat:=0
def PySem.W.Fast.tw7156955451604526379:Nat:=0
def PySem.W.Fast.tw6898758609672896933:Nat:=0
def PySem.W.Fast.tw4290308091901731075:Nat:=0
def PySem.W.Fast.tw2369243295441841978:Nat:=0
def PySem.W.Fast.tw12281145680118479242:Nat:=0
def PySem.W.Fast.tw17649548702093724001:Nat:=0
def PySem.W.Fast.tw3627498558806533503:Nat:=0
def PySem.W.Fast.tw5169828610032124593:Nat:=0
def PySem.W.Fast.tw12653365170439184730:Nat:=0
def PySem.W.Fast.tw10141679001765236738:Nat:=0
def PySem.W.Fast.tw15360861595508254894:Nat:=0
def PySem.W.Fast.tw12026260280282764718:Nat:=0
def PySem.W.Fast.tw4812178897177140010:Nat:=0
def PySem.W.Fast.tw10846432406645782937:Nat:=0
def PySem.W.Fast.tw6994726497512173860:Nat:=0
def PySem.W.Fast.tw16710368491587251181:Nat:=0
def PySem.W.Fast.tw10917924375530498903:Nat:=0
def PySem.W.Fast.tw9257361829817141342:Nat:=0
def PySem.W.Fast.tw12915274281809120454:Nat:=0
def PySem.W.Fast.tw3850159033892195414:Nat:=0
def PySem.W.Fast.tw1440428427476050513:Nat:=0
def PySem.W.Fast.tw3551969059444815311:Nat:=0
def PySem.W.Fast.tw15762113699959424210:Nat:=0
def PySem.W.Fast.tw17816271866030867255:Nat:=0
def PySem.W.Fast.tw17159709451303756570:Nat:=0
def PySem.W.Fast.tw15015778275983164029:Nat:=0
def PySem.W.Fast.tw3948712410407641875:Nat:=0
def PySem.W.Fast.tw6424432965877008753:Nat:=0
def PySem.W.Fast.tw2503221573673615603:Nat:=0
def PySem.W.Fast.tw10615630861610617213:Nat:=0
def PySem.W.Fast.tw4946885115292131624:Nat:=0
def PySem.W.Fast.tw10379287743141468252:Nat:=0
def PySem.W.Fast.tw14831481475613177449:Nat:=0
def PySem.W.Fast.tw4053540442967218453:Nat:=0
def PySem.W.Fast.tw8227205675094004118:Nat:=0
def PySem.W.Fast.tw11042332701138923341:Nat:=0
def PySem.W.Fast.tw9832530989381334687:Nat:=0
def PySem.W.Fast.tw416550687727475682:Nat:=0
def PySem.W.Fast.tw28828118061832819:Nat:=0
def PySem.W.Fast.tw17192207146582614611:Nat:=0
def PySem.W.Fast.tw230556070340466761:Nat:=0
def PySem.W.Fast.tw3187762307434268279:Nat:=0
def PySem.W.Fast.tw13247577915037044404:Nat:=0
def PySem.W.Fast.tw10794737214619577914:Nat:=0
def PySem.W.Fast.tw14063729678864942281:Nat:=0
def PySem.W.Fast.tw16992837877970327818:Nat:=0
def PySem.W.Fast.tw4918582040098806957:Nat:=0
def PySem.W.Fast.tw16173384936040824674:Nat:=0
def PySem.W.Fast.tw14633862303648168102:Nat:=0
def PySem.W.Fast.tw13240222868239396931:Nat:=0
def PySem.W.Fast.tw14908123362506365751:Nat:=0
def PySem.W.Fast.tw15397713692395476387:Nat:=0
def PySem.W.Fast.tw7395552821346000361:Nat:=0
def PySem.W.Fast.tw16624097704903152979:Nat:=0
def PySem.W.Fast.tw12269886534170312841:Nat:=0
def PySem.W.Fast.tw9139791660759706924:Nat:=0
def PySem.W.Fast.tw3683236738173854344:Nat:=0
def PySem.W.Fast.tw13512346253295778918:Nat:=0
def PySem.W.Fast.tw16122678526155737067:Nat:=0
def PySem.W.Fast.tw4085966896253712508:Nat:=0
def PySem.W.Fast.tw3928806926964421774:Nat:=0
def PySem.W.Fast.tw5040443204885350980:Nat:=0
def PySem.W.Fast.tw14628231309510361531:Nat:=0
def PySem.W.Fast.tw13068305821847044424:Nat:=0
def PySem.W.Fast.tw16373044314447047138:Nat:=0
def PySem.W.Fast.tw17784806648330272979:Nat:=0
def PySem.W.Fast.tw2652749035603964105:Nat:=0
def PySem.W.Fast.tw15119933225139982310:Nat:=0
def PySem.W.Fast.tw1699710171369949973:Nat:=0
def PySem.W.Fast.tw5136831761309551739:Nat:=0
def PySem.W.Fast.tw1794286922284519442:Nat:=0
def PySem.W.Fast.tw8446549400168312195:Nat:=0
def PySem.W.Fast.tw10415914602458262294:Nat:=0
def PySem.W.Fast.tw13289149386757514082:Nat:=0
def PySem.W.Fast.tw10175405300596871765:Nat:=0
def PySem.W.Fast.tw12978363591898038684:Nat:=0
def PySem.W.Fast.tw1040542449448541818:Nat:=0
def PySem.W.Fast.tw16723555402042993832:Nat:=0
def PySem.W.Fast.tw11772264234351834935:Nat:=0
def PySem.W.Fast.tw4050393661074910254:Nat:=0
def PySem.W.Fast.tw17162377227521408461:Nat:=0
def PySem.W.Fast.tw6267424782965128395:Nat:=0
def PySem.W.Fast.tw16378598340756597109:Nat:=0
def PySem.W.Fast.tw8379436708794808500:Nat:=0
def PySem.W.Fast.tw678651166385700420:Nat:=0
def PySem.W.Fast.tw8826532532996819617:Nat:=0
def PySem.W.Fast.tw2808799333173012917:Nat:=0
def PySem.W.Fast.tw15801032497269597152:Nat:=0
def PySem.W.Fast.tw17083705744265574835:Nat:=0
def PySem.W.Fast.tw10270347463500555881:Nat:=0
def PySem.W.Fast.tw15269430580349744893:Nat:=0
def PySem.W.Fast.tw16838082288039596658:Nat:=0
def PySem.W.Fast.tw6791085696848028291:Nat:=0
def PySem.W.Fast.tw17316616163244146778:Nat:=0
def PySem.W.Fast.tw8429803816802563268:Nat:=0
def PySem.W.Fast.tw14827156563009835741:Nat:=0
def PySem.W.Fast.tw11041804432226612162:Nat:=0
def PySem.W.Fast.tw15272272323030572145:Nat:=0
def PySem.W.Fast.tw14843341381487802390:Nat:=0
def PySem.W.Fast.tw13757496572944329443:Nat:=0
def PySem.W.Fast.tw10038932854199249144:Nat:=0
def PySem.W.Fast.tw16732112520743229720:Nat:=0
def PySem.W.Fast.tw14520064584404714968:Nat:=0
def PySem.W.Fast.tw3310858356397763401:Nat:=0
def PySem.W.Fast.tw18311247500651665769:Nat:=0
def PySem.W.Fast.tw291429580359638175:Nat:=0
def PySem.W.Fast.tw14358265539857561346:Nat:=0
def PySem.W.Fast.tw6930953843789574797:Nat:=0
def PySem.W.Fast.tw9676533556460896207:Nat:=0
def PySem.W.Fast.tw9898152150751496984:Nat:=0
def PySem.W.Fast.tw1998145195991415306:Nat:=0
def PySem.W.Fast.tw9851676043283108139:Nat:=0
def PySem.W.Fast.tw17548154386690311677:Nat:=0
def PySem.W.Fast.tw11601985534974026950:Nat:=0
def PySem.W.Fast.tw371747657827171024:Nat:=0
def PySem.W.Fast.tw6111175962015094155:Nat:=0
def PySem.W.Fast.tw15340324996969772384:Nat:=0
def PySem.W.Fast.tw8034148537296320451:Nat:=0
def PySem.W.Fast.tw12361625926592400250:Nat:=0
def PySem.W.Fast.tw11539095187425238516:Nat:=0
def PySem.W.Fast.tw4463335390895788219:Nat:=0
def PySem.W.Fast.tw11066158322468660953:Nat:=0
def PySem.W.Fast.tw7983455138438148444:Nat:=0
def PySem.W.Fast.tw6776547609424338192:Nat:=0
def PySem.W.Fast.tw9319785223852174390:Nat:=0
def PySem.W.Fast.tw7326459453387564823:Nat:=0
def PySem.W.Fast.tw12224976716987877570:Nat:=0
def PySem.W.Fast.tw6378418761179218166:Nat:=0
def PySem.W.Fast.tw5333480496604349897:Nat:=0
def PySem.W.Fast.tw1207662179100304704:Nat:=0
def PySem.W.Fast.tw4650601846263581426:Nat:=0
def PySem.W.Fast.tw6136236918592498722:Nat:=0
def PySem.W.Fast.tw12947713150114748032:Nat:=0
def PySem.W.Fast.tw15272735377637168320:Nat:=0
def PySem.W.Fast.tw3830010757684917238:Nat:=0
def PySem.W.Fast.tw5093744282789665780:Nat:=0
def PySem.W.Fast.tw3470430344555473625:Nat:=0
open PySem PySem.W PyProof.Rows
set_option maxRecDepth 100000 in
set_option maxHeartbeats 0 in
theorem PySem.Challenge.cw_ringfell_k71_thinned_arrows_holds : PySem.Challenge.rw_ringfell_k71_thinned_arrows.Holds := by
 w_on;o_law;k_head;(case hw=>w_witness2)
 k_fill
 refine K71.walk (l:=PySem.Challenge.rw_ringfell_k71_thinned_arrows) rfl rfl (λw h Y=>PySem.W.kIn_of Y) ?F
 case F =>
  intro w mg fa h KX G hmg
  refine' K71.all_mk KX G hmg ?_ ?_ ?_ ?_ ?_ ?_ ?_ ?_ ?_ ?_ ?_ ?_ ?_ ?_ ?_ ?_ ?_ ?_ ?_ ?_ ?_ ?_ ?_ ?_ ?_ ?_ ?_ ?_ ?_ ?_ ?_ ?_ ?_ ?_ ?_ ?_ ?_ ?_ ?_ ?_ ?_ ?_ ?_ ?_ ?_ ?_ ?_ ?_ ?_ ?_ ?_ ?_ ?_ ?_ ?_ ?_ ?_ ?_ ?_ ?_ ?_ ?_ ?_ ?_ ?_ ?_ ?_ ?_ ?_ ?_ ?_ ?_ ?_ ?_ ?_ ?_ ?_ ?_ ?_ ?_ ?_ ?_ ?_
  any_goals k_is
  any_goals (refine' L2.bV.mk ?a ?l ?c ?k;(case a=>k_is);(case l=>k_is);(case c=>k_is);(case k=>k_is))
  all_goals kernel_rfl
